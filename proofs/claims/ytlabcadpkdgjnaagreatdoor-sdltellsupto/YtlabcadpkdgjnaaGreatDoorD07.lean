/- The document's writer of schemas: which may be written. -/
import Derived.Test.YtlabcadpkdgjnaaGreatDoorScN
import Derived.Test.YtlabcadpkdgjnaaGreatDoorD03
import Derived.Test.YtlabcadpkdgjnaaGreatDoorE7
import Derived.Test.YtlabcadpkdgjnaaGreatDoorE6
namespace Go.Proofs.YtlabcadpkdgjnaaGreatDoor
section
open Go Go.RowKit Go.Shelf
theorem one_at {s : Bs} {t : Tok} (h : lexS s = .inr [t]) : ((t.e : Int) - (t.b : Int) = (s.length : Int)) ↔ (t.b = 0 ∧ t.e = s.length):=by
 have hl:=(lexS_full h).2.1
 unfold lexS at h
 rw [if_neg (by omega)] at h
 have:=lexF_ends _ _ _ _ _ h t (by simp)
 omega
theorem oneK_bad {s : Bs} {p : Nat × Int} (h : lexS s = .inl p) : oneK s = -1:=by unfold oneK;rw [h]
theorem oneK_one {s : Bs} {t : Tok} (h : lexS s = .inr [t]) : oneK s = if (t.e : Int) - (t.b : Int) = (s.length : Int) then t.k else -1:=by unfold oneK;rw [h]
theorem oneK_many {s : Bs} {ts : List Tok} (h : lexS s = .inr ts) (h1 : ts.length ≠ 1) : oneK s = -1:=by
 unfold oneK
 rw [h]
 match ts,h1 with
 | [],_ => rfl
 | [_],h => exact absurd rfl h
 | _ :: _ :: _,_ => rfl
set_option maxRecDepth 100000 in
set_option maxHeartbeats 2000000 in
theorem zone_any (s : Bs) (w : World) : Calls Tryz.prog 73 #[.string ⟨s.toArray⟩] w fun e w' => e = .returned (.int .i64 (oneK s)) ∧ Below w.heap.size w w':=by
 have TO:=xtokens_any s w
 have hsz:=size_of s
 cases hs : lexS s with
 | inl p =>
  rw [hs] at TO
  rw [oneK_bad hs]
  have hp0:=lexS_bad hs
  obtain ⟨a,x⟩:=p
  have hp : (x != 0) = true:=by simpa using hp0
  have hp2 : (x == 0) = false:=by simpa using hp0
  clear hs hp0
  go_enter Tryz.func73,Tryz.ntmps73
  go_wp2_with (go_at_call 18;refine TO.mono ?_;rintro e w1 ⟨rfl,hb⟩)
  go_ret
  exact ⟨rfl,hb⟩
 | inr ts =>
  rw [hs] at TO
  obtain ⟨hn1,hn2,_⟩:=lexS_full hs
  by_cases h1 : ts.length = 1
  ·obtain ⟨t,rfl⟩:=List.length_eq_one_iff.1 h1
   rw [oneK_one hs]
   have hat:=one_at hs
   have htl:=tok_small hs
   clear hs
   by_cases h2 : (t.e : Int) - (t.b : Int) = (s.length : Int)
   ·rw [if_pos h2]
    obtain ⟨hb0,he0⟩:=hat.1 h2
    clear h1 h2 hat
    go_enter Tryz.func73,Tryz.ntmps73
    go_wp2_with (go_at_call 18;refine TO.mono ?_;rintro e w1 ⟨⟨v,rfl,ht⟩,hb⟩;obtain ⟨q,lc,rfl,c0,c2,c3⟩:=one_cells ht;rw [hb0] at c2;rw [he0] at c3)
    go_ret
    exact ⟨rfl,hb⟩
   ·rw [if_neg h2]
    have hne : ¬ (t.b = 0 ∧ t.e = s.length):=fun e => h2 (hat.2 e)
    by_cases hb0 : t.b = 0
    ·have he0 : ((t.e : Int) == (s.length : Int)) = false:=by rw [beq_eq_false_iff_ne];omega
     have he1 : ((t.e : Int) != (s.length : Int)) = true:=by simp only [bne,he0];rfl
     clear h1 h2 hat hne
     go_enter Tryz.func73,Tryz.ntmps73
     go_wp2_with (go_at_call 18;refine TO.mono ?_;rintro e w1 ⟨⟨v,rfl,ht⟩,hb⟩;obtain ⟨q,lc,rfl,c0,c2,c3⟩:=one_cells ht;rw [hb0] at c2)
     go_ret
     exact ⟨rfl,hb⟩
    ·have he0 : ((t.b : Int) == 0) = false:=by rw [beq_eq_false_iff_ne];omega
     have he1 : ((t.b : Int) != 0) = true:=by simp only [bne,he0];rfl
     clear h1 h2 hat hne
     go_enter Tryz.func73,Tryz.ntmps73
     go_wp2_with (go_at_call 18;refine TO.mono ?_;rintro e w1 ⟨⟨v,rfl,ht⟩,hb⟩;obtain ⟨q,lc,rfl,c0,c2,c3⟩:=one_cells ht)
     go_ret
     exact ⟨rfl,hb⟩
  ·rw [oneK_many hs h1]
   clear hs
   have h2 : ((ts.length : Int) == 1) = false:=by rw [beq_eq_false_iff_ne];omega
   have h3 : ((ts.length : Int) != 1) = true:=by simp only [bne,h2];rfl
   clear h1
   go_enter Tryz.func73,Tryz.ntmps73
   go_wp2_with (go_at_call 18;refine TO.mono ?_;rintro e w1 ⟨⟨v,rfl,ht⟩,hb⟩;obtain ⟨o,lc,rfl⟩:=own_slice ht)
   go_ret
   exact ⟨rfl,hb⟩
theorem zname_any (s : Bs) (w : World) : Calls Tryz.prog 45 #[.string ⟨s.toArray⟩] w fun e w' => e = .returned (.bool (nameK s)) ∧ Below w.heap.size w w':=by
 have O:=zone_any s w
 unfold nameK
 generalize oneK s = k at *
 go_enter Tryz.func45,Tryz.ntmps45
 go_wp2_with (go_at_call 73;refine O.mono ?_;rintro e w1 ⟨rfl,hb⟩)
 go_ret
 exact ⟨rfl,hb⟩
end
section
open Go Go.RowKit Go.Shelf
theorem rowF5 {w : World} {k E : Nat} {a b c d e : Value} (h : w.heap[k]? = some (.cells #[a,b,c,d,e] E (0,0))) : w.cell? ⟨k,0,none⟩ = some a ∧ w.cell? ⟨k,1,none⟩ = some b ∧ w.cell? ⟨k,2,none⟩ = some c ∧ w.cell? ⟨k,3,none⟩ = some d ∧ w.cell? ⟨k,4,none⟩ = some e:=⟨by simp [World.cell?,h],by simp [World.cell?,h],by simp [World.cell?,h],by simp [World.cell?,h],by simp [World.cell?,h]⟩
theorem ble {w0 w1 w2 : World} (h : Below w0.heap.size w0 w1) (hb : Below w1.heap.size w1 w2) : Below w0.heap.size w0 w2:=h.trans (hb.mono h.size)
set_option maxRecDepth 100000 in
theorem dwraps_any (t : Bs) (w : World) : Calls Tryz.prog 46 #[.string ⟨t.toArray⟩] w fun e w' => e = .returned (.bool (wrapsB t)) ∧ Below w.heap.size w w':=by
 unfold wrapsB
 cases h1 : (t == []) with
 | true =>
  have e : t = []:=by simpa using h1
  subst e
  go_enter Tryz.func46,Tryz.ntmps46
  go_wp2
  go_ret
  exact ⟨rfl,Below.refl _ _⟩
 | false =>
  have e0 : t.isEmpty = false:=by cases t <;> simp_all
  cases h2 : (t == [33]) with
  | true =>
   have e : t = [33]:=by simpa using h2
   subst e
   go_enter Tryz.func46,Tryz.ntmps46
   go_wp2
   go_ret
   exact ⟨rfl,Below.refl _ _⟩
  | false =>
   cases h3 : (t == [91]) with
   | true =>
    have e : t = [91]:=by simpa using h3
    subst e
    go_enter Tryz.func46,Tryz.ntmps46
    go_wp2
    go_ret
    exact ⟨rfl,Below.refl _ _⟩
   | false =>
    cases h4 : (t == [91,33]) with
    | true =>
     have e : t = [91,33]:=by simpa using h4
     subst e
     go_enter Tryz.func46,Tryz.ntmps46
     go_wp2
     go_ret
     exact ⟨rfl,Below.refl _ _⟩
    | false =>
     cases h5 : (t == [33,91]) with
     | true =>
      have e : t = [33,91]:=by simpa using h5
      subst e
      go_enter Tryz.func46,Tryz.ntmps46
      go_wp2
      go_ret
      exact ⟨rfl,Below.refl _ _⟩
     | false =>
      cases h6 : (t == [33,91,33]) with
      | true =>
       have e : t = [33,91,33]:=by simpa using h6
       subst e
       go_enter Tryz.func46,Tryz.ntmps46
       go_wp2
       go_ret
       exact ⟨rfl,Below.refl _ _⟩
      | false =>
       go_enter Tryz.func46,Tryz.ntmps46
       go_wp2
       go_ret
       exact ⟨rfl,Below.refl _ _⟩
def UpTo {α : Type} (l : List α) (p : α → Bool) (i : Nat) : Prop:=∀ (q : Nat) z,q < i → l[q]? = some z → p z = true
theorem UpTo.zero {α : Type} (l : List α) (p : α → Bool) : UpTo l p 0:=fun _ _ h => absurd h (Nat.not_lt_zero _)
theorem UpTo.step {α : Type} {l : List α} {p : α → Bool} {i : Nat} {x : α} (h : UpTo l p i) (hx : l[i]? = some x) (hp : p x = true) : UpTo l p (i + 1):=fun q z hq hz => by
 rcases Nat.lt_succ_iff_lt_or_eq.1 hq with e | e
 ·exact h q z e hz
 ·subst e
  rw [hx] at hz
  cases hz
  exact hp
theorem UpTo.all {α : Type} {l : List α} {p : α → Bool} {i : Nat} (h : UpTo l p i) (hi : l.length ≤ i) : l.all p = true:=by
 rw [List.all_eq_true]
 intro x hx
 obtain ⟨q,hq⟩:=List.mem_iff_getElem?.1 hx
 exact h q x (Nat.lt_of_lt_of_le (List.getElem?_eq_some_iff.1 hq).1 hi) hq
theorem all_no {α : Type} {l : List α} {p : α → Bool} {i : Nat} {x : α} (hx : l[i]? = some x) (hp : p x = false) : l.all p = false:=by
 rw [← Bool.not_eq_true,List.all_eq_true]
 intro h
 have:=h x (List.mem_of_getElem? hx)
 rw [hp] at this
 cases this
theorem fineS_o {s : Sch} {i : Nat} {x : Ob} (hx : s.os[i]? = some x) (hp : fineO x = false) : fineS s = false:=by unfold fineS;rw [all_no hx hp];rfl
theorem fineS_e {s : Sch} {i : Nat} {x : En} (hx : s.es[i]? = some x) (hp : fineE x = false) : fineS s = false:=by unfold fineS;rw [all_no hx hp];simp
theorem fineO_n {x : Ob} (h : nameK x.n = false) : fineO x = false:=by unfold fineO;rw [h];rfl
theorem fineO_0 {x : Ob} (h : x.fs.length = 0) : fineO x = false:=by unfold fineO;rw [List.length_eq_zero_iff.1 h];simp
theorem fineO_f {x : Ob} {i : Nat} {f : Fld} (hx : x.fs[i]? = some f) (hp : fineF f = false) : fineO x = false:=by unfold fineO;rw [all_no hx hp];simp
theorem fineO_y {x : Ob} (h : nameK x.n = true) (h0 : x.fs.length ≠ 0) (ha : x.fs.all fineF = true) : fineO x = true:=by
 unfold fineO
 have e : x.fs.isEmpty = false:=by cases hf : x.fs <;> simp_all
 rw [h,e,ha];rfl
theorem fineE_n {x : En} (h : nameK x.n = false) : fineE x = false:=by unfold fineE;rw [h];rfl
theorem fineE_0 {x : En} (h : x.ws.length = 0) : fineE x = false:=by unfold fineE;rw [List.length_eq_zero_iff.1 h];simp
theorem fineE_w {x : En} {i : Nat} {f : Bs} (hx : x.ws[i]? = some f) (hp : fineW f = false) : fineE x = false:=by unfold fineE;rw [all_no hx hp];simp
theorem fineE_y {x : En} (h : nameK x.n = true) (h0 : x.ws.length ≠ 0) (ha : x.ws.all fineW = true) : fineE x = true:=by
 unfold fineE
 have e : x.ws.isEmpty = false:=by cases hf : x.ws <;> simp_all
 rw [h,e,ha];rfl
set_option maxRecDepth 100000 in
set_option maxHeartbeats 16000000 in
theorem dfine_any {w : World} {ov ev : Value} {s : Sch} (h : SchAt w ov ev s) : Calls Tryz.prog 29 #[.agg #[ov,ev]] w fun e w' => e = .returned (.bool (fineS s)) ∧ Below w.heap.size w w':=by
 obtain ⟨a1,c1,rfl,k1,m1⟩:=slD h.os
 obtain ⟨a3,c3,rfl,k3,m3⟩:=slD h.es
 obtain ⟨w0,hw0⟩ : ∃ w0,w0 = w.alloc (.cells #[.slice a1 s.os.length c1,.slice a3 s.es.length c3] 25):=⟨_,rfl⟩
 have b0 : Below w.heap.size w w0:=by rw [hw0];exact al1 w _
 have P1 : w0.heap[w.heap.size]? = some (.cells #[.slice a1 s.os.length c1,.slice a3 s.es.length c3] 25 (0,0)):=by rw [hw0];exact heap_alloc_new w _
 have h0:=h.on b0
 have lz : w.heap.size < w0.heap.size:=lt_of_block P1
 have A : Hid (∀ W,Below w0.heap.size w0 W → W.cell? ⟨w.heap.size,0,none⟩ = some (.slice a1 s.os.length c1) ∧ W.cell? ⟨w.heap.size,1,none⟩ = some (.slice a3 s.es.length c3)):=(fun W F => row2' ((F.block _ (lt_of_block P1)).trans P1))
 have HH : Hid (SchAt w0 (.slice a1 s.os.length c1) (.slice a3 s.es.length c3) s):=h0
 clear h h0 P1
 go_enter Tryz.func29,Tryz.ntmps29
 go_wp2
 rw [← hw0]
 clear hw0
 go_loopw [3] (fun i wr => ∃ j : Nat,i = .int .i64 (j : Int) ∧ j ≤ s.os.length ∧ Hid (UpTo s.os fineO j) ∧ Below w0.heap.size w0 wr) (fun i _ => s.os.length - (RowKit.intOf i).toNat)
 case atStart => exact ⟨0,rfl,Nat.zero_le _,UpTo.zero _ _,Below.refl _ _⟩
 case round =>
  obtain ⟨j,rfl,hj,hup,hbr⟩:=hrel
  obtain ⟨p1,p2⟩:=A.out _ hbr
  by_cases hlt : j < s.os.length
  ·obtain ⟨x,hx⟩ : ∃ x,s.os[j]? = some x:=⟨_,List.getElem?_eq_getElem hlt⟩
   obtain ⟨b1,o1,_,f1,g1,ee,hb1,_,e0,e1,hf1⟩:=obD (HH.out.os.on hbr) hx
   cases ee
   have l1 : ((j : Nat) : Int) < (s.os.length : Int):=by omega
   have hjN : ((j : Nat) : Int).toNat = j:=by omega
   have hz : Hid (j + 1 ≤ s.os.length):=hlt
   have HX : Hid (s.os[j]? = some x):=hx
   have hzw:=hbr.size
   have m5:=(slD hf1)
   have n2 : w.heap.size < wr.heap.size:=by omega
   have n3 : ¬ w.heap.size = wr.heap.size:=by omega
   obtain ⟨W0,hW0⟩ : ∃ W0,W0 = wr.alloc (.cells #[.string ⟨x.n.toArray⟩,.slice f1 x.fs.length g1] 58):=⟨_,rfl⟩
   have bw : Below wr.heap.size wr W0:=by rw [hW0];exact al1 wr _
   have Q1 : W0.heap[wr.heap.size]? = some (.cells #[.string ⟨x.n.toArray⟩,.slice f1 x.fs.length g1] 58 (0,0)):=by rw [hW0];exact heap_alloc_new wr _
   have B : Hid (∀ W,Below W0.heap.size W0 W → W.cell? ⟨wr.heap.size,0,none⟩ = some (.string ⟨x.n.toArray⟩) ∧ W.cell? ⟨wr.heap.size,1,none⟩ = some (.slice f1 x.fs.length g1)):=(fun W F => row2' ((F.block _ (lt_of_block Q1)).trans Q1))
   have HF1 : Hid (FldsAt W0 (.slice f1 x.fs.length g1) x.fs):=hf1.on bw
   have BW : Hid (Below w0.heap.size w0 W0):=ble hbr bw
   have q0:=fun W F => (B.out W F).1
   have q1:=fun W F => (B.out W F).2
   obtain ⟨t1,t2⟩:=B.out W0 (Below.refl _ _)
   have CN:=zname_any x.n W0
   clear Q1 hf1 hx hlt
   cases hn : nameK x.n with
   | false =>
    rw [hn] at CN
    have HP : Hid (fineS s = false):=fineS_o HX.out (fineO_n hn)
    clear hn
    go_wp2_with (first
     | (go_at_call 45;rw [← hW0];(with_reducible refine CN.mono ?_);rintro e w2 ⟨rfl,b2⟩)
     | fail)
    go_ret
    exact ⟨by rw [HP.out];rfl,b0.trans ((BW.out.trans (b2.mono BW.out.size)).mono b0.size)⟩
   | true =>
    rw [hn] at CN
    have HN : Hid (nameK x.n = true):=hn
    clear hn
    rcases Nat.eq_zero_or_pos x.fs.length with hl0 | hl0
    ·have HP : Hid (fineS s = false):=fineS_o HX.out (fineO_0 hl0)
     have hl1 : (((x.fs.length : Nat) : Int) == 0) = true:=by simp;exact List.length_eq_zero_iff.1 hl0
     clear hl0
     go_wp2_with (first
      | (go_at_call 45;rw [← hW0];(with_reducible refine CN.mono ?_);rintro e w2 ⟨rfl,b2⟩;have t3:=q1 _ b2)
      | fail)
     go_ret
     exact ⟨by rw [HP.out];rfl,b0.trans ((BW.out.trans (b2.mono BW.out.size)).mono b0.size)⟩
    ·have hl1 : (((x.fs.length : Nat) : Int) == 0) = false:=by simp;intro e;rw [e] at hl0;simp at hl0
     have HL : Hid (x.fs.length ≠ 0):=by show x.fs.length ≠ 0;omega
     clear hl0
     go_wp2_with (first
      | (go_at_call 45;rw [← hW0];(with_reducible refine CN.mono ?_);rintro e w2 ⟨rfl,b2⟩;have t3:=q1 _ b2)
      | fail)
     clear hW0 e0 e1 p1 p2 m5 t1 t2 t3 CN hl1 bw
     generalize wr = wA at *
     go_loopw [5] (fun i wr => ∃ k : Nat,i = .int .i64 (k : Int) ∧ k ≤ x.fs.length ∧ Hid (UpTo x.fs fineF k) ∧ Below W0.heap.size W0 wr) (fun i _ => x.fs.length - (RowKit.intOf i).toNat)
     case atStart => exact ⟨0,rfl,Nat.zero_le _,UpTo.zero _ _,b2⟩
     case round =>
      obtain ⟨k,rfl,hk,hup2,hkr⟩:=hrel
      have t2:=q1 _ hkr
      by_cases hlk : k < x.fs.length
      ·obtain ⟨f,hf⟩ : ∃ f,x.fs[k]? = some f:=⟨_,List.getElem?_eq_getElem hlk⟩
       obtain ⟨b3,o3,rfl,hb3,y0,y1,y2,y3,y4⟩:=fldD2 (HF1.out.on hkr) hf
       have lk : ((k : Nat) : Int) < (x.fs.length : Int):=by omega
       have hkN : ((k : Nat) : Int).toNat = k:=by omega
       have hzk : Hid (k + 1 ≤ x.fs.length):=hlk
       have mf1 : x.fs.length ≤ g1:=(slD HF1.out).elim fun _ q => q.elim fun _ r => (by have:=r.1;cases this;exact r.2.1)
       have mf3 : x.fs.length ≤ 140737488355328:=(slD HF1.out).elim fun _ q => q.elim fun _ r => r.2.2
       have hFF : Hid (x.fs[k]? = some f):=hf
       obtain ⟨fn,ft,fw,fs,fi⟩:=f
       simp only at y0 y1 y2 y3 y4
       obtain ⟨V0,hV0⟩ : ∃ V0,V0 = wr.alloc (.cells #[.string ⟨fn.toArray⟩,.string ⟨ft.toArray⟩,.string ⟨fw.toArray⟩,.bool fs,.string ⟨fi.toArray⟩] 63):=⟨_,rfl⟩
       have bv : Below wr.heap.size wr V0:=by rw [hV0];exact al1 wr _
       have Q5 : V0.heap[wr.heap.size]? = some (.cells #[.string ⟨fn.toArray⟩,.string ⟨ft.toArray⟩,.string ⟨fw.toArray⟩,.bool fs,.string ⟨fi.toArray⟩] 63 (0,0)):=by rw [hV0];exact heap_alloc_new wr _
       have C : Hid (∀ W,Below V0.heap.size V0 W → W.cell? ⟨wr.heap.size,0,none⟩ = some (.string ⟨fn.toArray⟩) ∧ W.cell? ⟨wr.heap.size,1,none⟩ = some (.string ⟨ft.toArray⟩) ∧ W.cell? ⟨wr.heap.size,2,none⟩ = some (.string ⟨fw.toArray⟩) ∧ W.cell? ⟨wr.heap.size,4,none⟩ = some (.string ⟨fi.toArray⟩)):=(fun W F => by
        have r:=rowF5 ((F.block _ (lt_of_block Q5)).trans Q5)
        exact ⟨r.1,r.2.1,r.2.2.1,r.2.2.2.2⟩)
       obtain ⟨c0,c1',c2,c4⟩:=C.out V0 (Below.refl _ _)
       have CN:=fun W => zname_any fn W
       have CT:=fun W => zname_any ft W
       have CW:=fun W => dwraps_any fw W
       have CI:=fun W => zname_any fi W
       have HB : ∀ b,fineF ⟨fn,ft,fw,fs,fi⟩ = b → (nameK fn && nameK ft && wrapsB fw && (fi == [] || nameK fi)) = b:=fun b e => e
       clear Q5 hf hlk
       cases h1 : nameK fn with
       | false =>
        rw [h1] at CN
        have HP : Hid (fineS s = false):=fineS_o HX.out (fineO_f hFF.out (by unfold fineF;simp only [h1];simp))
        clear HB h1
        go_wp2_with (first
         | (go_at_call 45;rw [← hV0];(with_reducible refine (CN _).mono ?_);rintro e v2 ⟨rfl,b2⟩;have B2:=ble (Below.refl _ _) b2;obtain ⟨u20,u21,u22,u24⟩:=C.out _ B2)
         | fail)
        go_ret
        exact ⟨by rw [HP.out];rfl,b0.trans ((BW.out.trans ((ble (ble hkr bv) B2).mono BW.out.size)).mono b0.size)⟩
       | true =>
        rw [h1] at CN
        cases h2 : nameK ft with
        | false =>
         rw [h2] at CT
         have HP : Hid (fineS s = false):=fineS_o HX.out (fineO_f hFF.out (by unfold fineF;simp only [h1,h2];simp))
         clear HB h1 h2
         go_wp2_with (first
          | (go_at_call 45;(with_reducible refine (CT _).mono ?_);rintro e v3 ⟨rfl,b3⟩;have B3:=ble B2 b3;obtain ⟨u30,u31,u32,u34⟩:=C.out _ B3)
          | (go_at_call 45;rw [← hV0];(with_reducible refine (CN _).mono ?_);rintro e v2 ⟨rfl,b2⟩;have B2:=ble (Below.refl _ _) b2;obtain ⟨u20,u21,u22,u24⟩:=C.out _ B2)
          | fail)
         go_ret
         exact ⟨by rw [HP.out];rfl,b0.trans ((BW.out.trans ((ble (ble hkr bv) B3).mono BW.out.size)).mono b0.size)⟩
        | true =>
         rw [h2] at CT
         cases h3 : wrapsB fw with
         | false =>
          rw [h3] at CW
          have HP : Hid (fineS s = false):=fineS_o HX.out (fineO_f hFF.out (by unfold fineF;simp only [h1,h2,h3];simp))
          clear HB h1 h2 h3
          go_wp2_with (first
           | (go_at_call 46;(with_reducible refine (CW _).mono ?_);rintro e v4 ⟨rfl,b4⟩;have B4:=ble B3 b4;obtain ⟨u40,u41,u42,u44⟩:=C.out _ B4)
           | (go_at_call 45;(with_reducible refine (CT _).mono ?_);rintro e v3 ⟨rfl,b3⟩;have B3:=ble B2 b3;obtain ⟨u30,u31,u32,u34⟩:=C.out _ B3)
           | (go_at_call 45;rw [← hV0];(with_reducible refine (CN _).mono ?_);rintro e v2 ⟨rfl,b2⟩;have B2:=ble (Below.refl _ _) b2;obtain ⟨u20,u21,u22,u24⟩:=C.out _ B2)
           | fail)
          go_ret
          exact ⟨by rw [HP.out];rfl,b0.trans ((BW.out.trans ((ble (ble hkr bv) B4).mono BW.out.size)).mono b0.size)⟩
         | true =>
          rw [h3] at CW
          cases h4 : (fi == []) with
          | false =>
           skip
           have E4 : Hid (fi.isEmpty = false):=(by show fi.isEmpty = false;cases fi <;> simp_all)
           cases h5 : nameK fi with
           | false =>
            rw [h5] at CI
            have HP : Hid (fineS s = false):=fineS_o HX.out (fineO_f hFF.out (by unfold fineF;simp only [h1,h2,h3,h4,h5];simp))
            clear HB h1 h2 h3 h4 h5
            have e4 : fi.isEmpty = false:=E4.out
            go_wp2_with (first
             | (go_at_call 45;(with_reducible refine (CI _).mono ?_);rintro e v5 ⟨rfl,b5⟩;have B5:=ble B4 b5;obtain ⟨u50,u51,u52,u54⟩:=C.out _ B5)
             | (go_at_call 46;(with_reducible refine (CW _).mono ?_);rintro e v4 ⟨rfl,b4⟩;have B4:=ble B3 b4;obtain ⟨u40,u41,u42,u44⟩:=C.out _ B4)
             | (go_at_call 45;(with_reducible refine (CT _).mono ?_);rintro e v3 ⟨rfl,b3⟩;have B3:=ble B2 b3;obtain ⟨u30,u31,u32,u34⟩:=C.out _ B3)
             | (go_at_call 45;rw [← hV0];(with_reducible refine (CN _).mono ?_);rintro e v2 ⟨rfl,b2⟩;have B2:=ble (Below.refl _ _) b2;obtain ⟨u20,u21,u22,u24⟩:=C.out _ B2)
             | fail)
            go_ret
            exact ⟨by rw [HP.out];rfl,b0.trans ((BW.out.trans ((ble (ble hkr bv) B5).mono BW.out.size)).mono b0.size)⟩
           | true =>
            rw [h5] at CI
            have HNX : Hid (UpTo x.fs fineF (k + 1)):=hup2.out.step hFF.out (by unfold fineF;simp only [h1,h2,h3,h4,h5];simp)
            clear HB h1 h2 h3 h4 h5
            have e4 : fi.isEmpty = false:=E4.out
            go_wp2_with (first
             | (go_at_call 45;(with_reducible refine (CI _).mono ?_);rintro e v5 ⟨rfl,b5⟩;have B5:=ble B4 b5;obtain ⟨u50,u51,u52,u54⟩:=C.out _ B5)
             | (go_at_call 46;(with_reducible refine (CW _).mono ?_);rintro e v4 ⟨rfl,b4⟩;have B4:=ble B3 b4;obtain ⟨u40,u41,u42,u44⟩:=C.out _ B4)
             | (go_at_call 45;(with_reducible refine (CT _).mono ?_);rintro e v3 ⟨rfl,b3⟩;have B3:=ble B2 b3;obtain ⟨u30,u31,u32,u34⟩:=C.out _ B3)
             | (go_at_call 45;rw [← hV0];(with_reducible refine (CN _).mono ?_);rintro e v2 ⟨rfl,b2⟩;have B2:=ble (Below.refl _ _) b2;obtain ⟨u20,u21,u22,u24⟩:=C.out _ B2)
             | fail)
            refine ⟨⟨k + 1,by simp,hzk.out,HNX,ble (ble hkr bv) B5⟩,?_⟩
            have:=hzk.out
            simp [RowKit.intOf]
            omega
          | true =>
           skip
           have HNX : Hid (UpTo x.fs fineF (k + 1)):=hup2.out.step hFF.out (by unfold fineF;simp only [h1,h2,h3,h4];simp)
           have e4 : fi.isEmpty = true:=by cases fi <;> simp_all
           clear HB h1 h2 h3 h4
           go_wp2_with (first
            | (go_at_call 46;(with_reducible refine (CW _).mono ?_);rintro e v4 ⟨rfl,b4⟩;have B4:=ble B3 b4;obtain ⟨u40,u41,u42,u44⟩:=C.out _ B4)
            | (go_at_call 45;(with_reducible refine (CT _).mono ?_);rintro e v3 ⟨rfl,b3⟩;have B3:=ble B2 b3;obtain ⟨u30,u31,u32,u34⟩:=C.out _ B3)
            | (go_at_call 45;rw [← hV0];(with_reducible refine (CN _).mono ?_);rintro e v2 ⟨rfl,b2⟩;have B2:=ble (Below.refl _ _) b2;obtain ⟨u20,u21,u22,u24⟩:=C.out _ B2)
            | fail)
           refine ⟨⟨k + 1,by simp,hzk.out,HNX,ble (ble hkr bv) B4⟩,?_⟩
           have:=hzk.out
           simp [RowKit.intOf]
           omega
      ·have lk2 : decide (((k : Nat) : Int) < (x.fs.length : Int)) = false:=by simp;omega
       have lk3 : decide (k < x.fs.length) = false:=by simp;omega
       have hgo : fineO x = true:=fineO_y HN.out HL.out (hup2.out.all (by omega))
       have hnx : Hid (UpTo s.os fineO (j + 1)):=hup.out.step HX.out hgo
       clear hlk hgo
       go_wp2
       refine ⟨⟨j + 1,by simp,hz.out,hnx,BW.out.trans (hkr.mono BW.out.size)⟩,?_⟩
       have:=hz.out
       simp [RowKit.intOf]
       omega
  ·have l2 : decide (((j : Nat) : Int) < (s.os.length : Int)) = false:=by simp;omega
   have l3 : decide (j < s.os.length) = false:=by simp;omega
   have HOS : Hid (s.os.all fineO = true):=hup.out.all (by omega)
   generalize wr = wZ at *
   clear hlt hj hup
   go_wp2
   go_loopw [7] (fun i wr => ∃ j : Nat,i = .int .i64 (j : Int) ∧ j ≤ s.es.length ∧ Hid (UpTo s.es fineE j) ∧ Below w0.heap.size w0 wr) (fun i _ => s.es.length - (RowKit.intOf i).toNat)
   case atStart => exact ⟨0,rfl,Nat.zero_le _,UpTo.zero _ _,hbr⟩
   case round =>
    clear hbr
    obtain ⟨j,rfl,hj,hup,hbr⟩:=hrel
    obtain ⟨p1,p2⟩:=A.out _ hbr
    by_cases hlt : j < s.es.length
    ·obtain ⟨x,hx⟩ : ∃ x,s.es[j]? = some x:=⟨_,List.getElem?_eq_getElem hlt⟩
     obtain ⟨b1,o1,_,f1,g1,ee,hb1,_,e0,e1,hf1⟩:=enD (HH.out.es.on hbr) hx
     cases ee
     have l1 : ((j : Nat) : Int) < (s.es.length : Int):=by omega
     have hjN : ((j : Nat) : Int).toNat = j:=by omega
     have hz : Hid (j + 1 ≤ s.es.length):=hlt
     have HX : Hid (s.es[j]? = some x):=hx
     have hzw:=hbr.size
     have n2 : w.heap.size < wr.heap.size:=by omega
     have n3 : ¬ w.heap.size = wr.heap.size:=by omega
     obtain ⟨W0,hW0⟩ : ∃ W0,W0 = wr.alloc (.cells #[.string ⟨x.n.toArray⟩,.slice f1 x.ws.length g1] 66):=⟨_,rfl⟩
     have bw : Below wr.heap.size wr W0:=by rw [hW0];exact al1 wr _
     have Q1 : W0.heap[wr.heap.size]? = some (.cells #[.string ⟨x.n.toArray⟩,.slice f1 x.ws.length g1] 66 (0,0)):=by rw [hW0];exact heap_alloc_new wr _
     have B : Hid (∀ W,Below W0.heap.size W0 W → W.cell? ⟨wr.heap.size,0,none⟩ = some (.string ⟨x.n.toArray⟩) ∧ W.cell? ⟨wr.heap.size,1,none⟩ = some (.slice f1 x.ws.length g1)):=(fun W F => row2' ((F.block _ (lt_of_block Q1)).trans Q1))
     have HF1 : Hid (WdsAt W0 (.slice f1 x.ws.length g1) x.ws):=hf1.on bw
     have BW : Hid (Below w0.heap.size w0 W0):=ble hbr bw
     have q1:=fun W F => (B.out W F).2
     obtain ⟨t1,t2⟩:=B.out W0 (Below.refl _ _)
     have CN:=zname_any x.n W0
     clear Q1 hf1 hx hlt
     cases hn : nameK x.n with
     | false =>
      rw [hn] at CN
      have HP : Hid (fineS s = false):=fineS_e HX.out (fineE_n hn)
      clear hn
      go_wp2_with (first
       | (go_at_call 45;rw [← hW0];(with_reducible refine CN.mono ?_);rintro e w2 ⟨rfl,b2⟩)
       | fail)
      go_ret
      exact ⟨by rw [HP.out];rfl,b0.trans ((BW.out.trans (b2.mono BW.out.size)).mono b0.size)⟩
     | true =>
      rw [hn] at CN
      have HN : Hid (nameK x.n = true):=hn
      clear hn
      rcases Nat.eq_zero_or_pos x.ws.length with hl0 | hl0
      ·have HP : Hid (fineS s = false):=fineS_e HX.out (fineE_0 hl0)
       have hl1 : (((x.ws.length : Nat) : Int) == 0) = true:=by simp;exact List.length_eq_zero_iff.1 hl0
       clear hl0
       go_wp2_with (first
        | (go_at_call 45;rw [← hW0];(with_reducible refine CN.mono ?_);rintro e w2 ⟨rfl,b2⟩;have t3:=q1 _ b2)
        | fail)
       go_ret
       exact ⟨by rw [HP.out];rfl,b0.trans ((BW.out.trans (b2.mono BW.out.size)).mono b0.size)⟩
      ·have hl1 : (((x.ws.length : Nat) : Int) == 0) = false:=by simp;intro e;rw [e] at hl0;simp at hl0
       have HL : Hid (x.ws.length ≠ 0):=by show x.ws.length ≠ 0;omega
       clear hl0
       go_wp2_with (first
        | (go_at_call 45;rw [← hW0];(with_reducible refine CN.mono ?_);rintro e w2 ⟨rfl,b2⟩;have t3:=q1 _ b2)
        | fail)
       clear hW0 e0 e1 p1 p2 t1 t2 t3 CN hl1 bw
       generalize wr = wA at *
       go_loopw [9] (fun i wr => ∃ k : Nat,i = .int .i64 (k : Int) ∧ k ≤ x.ws.length ∧ Hid (UpTo x.ws fineW k) ∧ Below W0.heap.size W0 wr) (fun i _ => x.ws.length - (RowKit.intOf i).toNat)
       case atStart => exact ⟨0,rfl,Nat.zero_le _,UpTo.zero _ _,b2⟩
       case round =>
        obtain ⟨k,rfl,hk,hup2,hkr⟩:=hrel
        have t2:=q1 _ hkr
        by_cases hlk : k < x.ws.length
        ·skip
         obtain ⟨u,hu⟩ : ∃ u,x.ws[k]? = some u:=⟨_,List.getElem?_eq_getElem hlk⟩
         obtain ⟨b3,o3,_,ee2,hb3,_,y0⟩:=wdD (HF1.out.on hkr) hu
         cases ee2
         have lk : ((k : Nat) : Int) < (x.ws.length : Int):=by omega
         have hkN : ((k : Nat) : Int).toNat = k:=by omega
         have hzk : Hid (k + 1 ≤ x.ws.length):=hlk
         have mf1 : x.ws.length ≤ g1:=(slD HF1.out).elim fun _ q => q.elim fun _ r => (by have:=r.1;cases this;exact r.2.1)
         have mf3 : x.ws.length ≤ 140737488355328:=(slD HF1.out).elim fun _ q => q.elim fun _ r => r.2.2
         have HU : Hid (x.ws[k]? = some u):=hu
         have CU:=fun W => zname_any u W
         clear hu hlk
         cases h1 : nameK u with
         | false =>
          rw [h1] at CU
          have HP : Hid (fineS s = false):=fineS_e HX.out (fineE_w HU.out (by unfold fineW;rw [h1];rfl))
          clear h1
          go_wp2_with (first
           | (go_at_call 45;(with_reducible refine (CU _).mono ?_);rintro e v2 ⟨rfl,b2v⟩;have B2:=ble hkr b2v)
           | fail)
          go_ret
          exact ⟨by rw [HP.out];rfl,b0.trans ((BW.out.trans (B2.mono BW.out.size)).mono b0.size)⟩
         | true =>
          rw [h1] at CU
          cases h2 : (u == [116,114,117,101]) with
          | true =>
           have HP : Hid (fineS s = false):=fineS_e HX.out (fineE_w HU.out (by unfold fineW;rw [show u = [116,114,117,101] from by simpa using h2];simp))
           clear h1
           go_wp2_with (first
            | (go_at_call 45;(with_reducible refine (CU _).mono ?_);rintro e v2 ⟨rfl,b2v⟩;have B2:=ble hkr b2v)
            | fail)
           go_ret
           exact ⟨by rw [HP.out];rfl,b0.trans ((BW.out.trans (B2.mono BW.out.size)).mono b0.size)⟩
          | false =>
           cases h3 : (u == [102,97,108,115,101]) with
           | true =>
            have HP : Hid (fineS s = false):=fineS_e HX.out (fineE_w HU.out (by unfold fineW;rw [show u = [102,97,108,115,101] from by simpa using h3];simp))
            clear h1
            go_wp2_with (first
             | (go_at_call 45;(with_reducible refine (CU _).mono ?_);rintro e v2 ⟨rfl,b2v⟩;have B2:=ble hkr b2v)
             | fail)
            go_ret
            exact ⟨by rw [HP.out];rfl,b0.trans ((BW.out.trans (B2.mono BW.out.size)).mono b0.size)⟩
           | false =>
            cases h4 : (u == [110,117,108,108]) with
            | true =>
             have HP : Hid (fineS s = false):=fineS_e HX.out (fineE_w HU.out (by unfold fineW;rw [show u = [110,117,108,108] from by simpa using h4];simp))
             clear h1
             go_wp2_with (first
              | (go_at_call 45;(with_reducible refine (CU _).mono ?_);rintro e v2 ⟨rfl,b2v⟩;have B2:=ble hkr b2v)
              | fail)
             go_ret
             exact ⟨by rw [HP.out];rfl,b0.trans ((BW.out.trans (B2.mono BW.out.size)).mono b0.size)⟩
            | false =>
             have HNX : Hid (UpTo x.ws fineW (k + 1)):=hup2.out.step HU.out (by
              unfold fineW
              rw [h1]
              simp only [List.contains_cons,List.contains_nil,h2,h3,h4,Bool.or_self,Bool.not_false,Bool.and_self])
             clear h1
             go_wp2_with (first
              | (go_at_call 45;(with_reducible refine (CU _).mono ?_);rintro e v2 ⟨rfl,b2v⟩;have B2:=ble hkr b2v)
              | fail)
             refine ⟨⟨k + 1,by simp,hzk.out,HNX,B2⟩,?_⟩
             have:=hzk.out
             simp [RowKit.intOf]
             omega
        ·have lk2 : decide (((k : Nat) : Int) < (x.ws.length : Int)) = false:=by simp;omega
         have lk3 : decide (k < x.ws.length) = false:=by simp;omega
         have hgo : fineE x = true:=fineE_y HN.out HL.out (hup2.out.all (by omega))
         have hnx : Hid (UpTo s.es fineE (j + 1)):=hup.out.step HX.out hgo
         clear hlk hgo
         go_wp2
         refine ⟨⟨j + 1,by simp,hz.out,hnx,BW.out.trans (hkr.mono BW.out.size)⟩,?_⟩
         have:=hz.out
         simp [RowKit.intOf]
         omega
    ·have l2 : decide (((j : Nat) : Int) < (s.es.length : Int)) = false:=by simp;omega
     have l3 : decide (j < s.es.length) = false:=by simp;omega
     have HES : s.es.all fineE = true:=hup.out.all (by omega)
     have HP : Hid (fineS s = decide (0 < s.os.length + s.es.length)):=by show fineS s = _;unfold fineS;rw [HOS.out,HES];rfl
     clear hlt hj hup HES
     by_cases hpos : 0 < s.os.length + s.es.length
     ·have hq : decide ((0 : Int) < (s.os.length : Int) + (s.es.length : Int)) = true:=by simp;omega
      have hq2 : Hid (decide (0 < s.os.length + s.es.length) = true):=by show _ = _;simpa using hpos
      clear hpos
      go_wp2
      go_ret
      exact ⟨by rw [HP.out,hq2.out];rfl,ble b0 hbr⟩
     ·have hq : decide ((0 : Int) < (s.os.length : Int) + (s.es.length : Int)) = false:=by simp;omega
      have hq2 : Hid (decide (0 < s.os.length + s.es.length) = false):=by show _ = _;simpa using hpos
      clear hpos
      go_wp2
      go_ret
      exact ⟨by rw [HP.out,hq2.out];rfl,ble b0 hbr⟩
end
end Go.Proofs.YtlabcadpkdgjnaaGreatDoor
