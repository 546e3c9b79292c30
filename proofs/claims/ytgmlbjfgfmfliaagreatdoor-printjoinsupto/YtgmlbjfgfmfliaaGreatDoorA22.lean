/- The writer of documents: leaves. -/
import Derived.Test.YtgmlbjfgfmfliaaGreatDoorA19
import Derived.Test.YtgmlbjfgfmfliaaGreatDoorA21
namespace Go.Proofs.YtgmlbjfgfmfliaaGreatDoor
open Go Go.RowKit Go.Shelf
theorem box_cells {V : Nat} {fx : Bool} {w w' : World} (hb : FrW V (w.alloc (boxW V fx)) w') (hV : V < w.heap.size) : w'.cell? ⟨w.heap.size,0,none⟩ = some (putV V) ∧ w'.cell? ⟨w.heap.size,1,none⟩ = some (.bool fx):=by
 have P : w'.heap[w.heap.size]? = some (.cells #[putV V,.bool fx] 56 (0,0)):=hb.old (heap_alloc_new w _) hV (by decide)
 exact ⟨by simp [World.cell?,P],by simp [World.cell?,P]⟩
set_option maxRecDepth 100000 in
set_option maxHeartbeats 2000000 in
theorem wname_any {V : Nat} {w : World} {ts : List Bs} (fx : Bool) (n : Bs) (h : Wk V w ts) (hn : n.length ≤ txM) : Calls Tryz.prog 73 #[wrV V fx,.string ⟨n.toArray⟩,.slice none 0 0] w (OutB V w (nameW n) ts):=by
 obtain ⟨w0,hw0⟩ : ∃ w0,w0 = w.alloc (boxW V fx):=⟨_,rfl⟩
 have h0 : Wk V w0 ts:=by rw [hw0];exact h.al _
 have f0 : FrW V w w0:=by rw [hw0];exact al1V _
 have hlt:=h.lt
 have A : ∀ W,FrW V w0 W → W.cell? ⟨w.heap.size,0,none⟩ = some (putV V):=fun W F => (box_cells (fx:=fx) (by rw [← hw0];exact F) hlt).1
 have X:=yname_any n w0 h0.gl
 unfold nameW
 cases hk : nameK n with
 | true =>
  rw [hk] at X
  clear hk
  rw [if_pos rfl]
  go_enter Tryz.func73,Tryz.ntmps73
  go_wp2_with (first
   | (go_at_call 17;rw [← hw0];(with_reducible refine X.mono ?_);rintro e w1 ⟨rfl,hb⟩;have h1:=h0.on hb;have F1 : FrW V w0 w1:=frw_of hb;have a1:=A _ F1)
   | (go_at_call 114;(with_reducible refine (Tryz.slices_Contains_string_empty _ _ _ _).mono ?_);rintro e w2 ⟨rfl,rfl⟩)
   | (go_at_call 18;(with_reducible refine (put_any n h1 hn).mono ?_);rintro e w3 (⟨hq,rfl,f3⟩ | ⟨us,hq,rfl,h3,f3⟩);(focus (go_wp2;go_ret;exact (outb_last hq f3).mono0 (f0.trans F1))))
   | fail)
  go_ret
  exact (outb_end hq h3 f3).mono0 (f0.trans F1)
 | false =>
  rw [hk] at X
  clear hk
  rw [if_neg (by simp)]
  go_enter Tryz.func73,Tryz.ntmps73
  go_wp2_with (first
   | (go_at_call 17;rw [← hw0];(with_reducible refine X.mono ?_);rintro e w1 ⟨rfl,hb⟩;have F1 : FrW V w0 w1:=frw_of hb)
   | fail)
  go_ret
  exact outb_none rfl (f0.trans F1)
end Go.Proofs.YtgmlbjfgfmfliaaGreatDoor
namespace Go.Proofs.YtgmlbjfgfmfliaaGreatDoor
open Go Go.RowKit Go.Shelf
theorem box1 {V : Nat} {fx : Bool} {w W : World} (F : FrW V (w.alloc (boxW V fx)) W) (hV : V < w.heap.size) : W.heap[w.heap.size]? = some (.cells #[putV V,.bool fx] 56 (0,0)):=F.old (heap_alloc_new w _) hV (by decide)
theorem box2 {V : Nat} {fx : Bool} {w W : World} {cs : Array Value} {E : Nat} (F : FrW V ((w.alloc (boxW V fx)).alloc (.cells cs E)) W) (hV : V < w.heap.size) (hE : E ≠ 9) : W.heap[w.heap.size]? = some (.cells #[putV V,.bool fx] 56 (0,0)) ∧ W.heap[w.heap.size + 1]? = some (.cells cs E (0,0)):=by
 have g : FrW V (w.alloc (boxW V fx)) W:=(al1V _).trans F
 refine ⟨box1 g hV,?_⟩
 have:=heap_alloc_new (w.alloc (boxW V fx)) (.cells cs E)
 rw [World.size_alloc] at this
 exact F.old this (by omega) hE
theorem size_one (w : World) (o : Obj) : (w.alloc o).heap.size = w.heap.size + 1:=World.size_alloc w o
theorem contains_bs (bs : List Bs) (n : Bs) : Lib.containsS ((bs.map fun b => (⟨b.toArray⟩ : ByteArray)).take bs.length) ⟨n.toArray⟩ = bs.contains n:=by
 rw [List.take_of_length_le (by simp)]
 rw [Bool.eq_iff_iff,Lib.containsS_iff]
 simp
set_option maxRecDepth 100000 in
set_option maxHeartbeats 4000000 in
theorem wvariable_any {V : Nat} {w : World} {ts : List Bs} (fx : Bool) (n : Bs) (h : Wk V w ts) (hn : n.length ≤ txM) : Calls Tryz.prog 94 #[wrV V fx,.string ⟨n.toArray⟩] w (OutB V w (varW n) ts):=by
 unfold varW
 obtain ⟨w0,hw0⟩ : ∃ w0,w0 = w.alloc (boxW V fx):=⟨_,rfl⟩
 have h0 : Wk V w0 ts:=by rw [hw0];exact h.al _
 have f0 : FrW V w w0:=by rw [hw0];exact al1V _
 have hV:=Nat.le_of_lt h.lt
 have hV0:=Nat.le_of_lt h0.lt
 have F0 : FrW V w0 w0:=FrW.refl _ _
 have A : Hid (∀ W,FrW V w0 W → W.heap[w.heap.size]? = some (.cells #[putV V,.bool fx] 56 (0,0)) ∧ True):=fun W F => ⟨box1 (by rw [← hw0];exact F) h.lt,trivial⟩
 go_enter Tryz.func94,Tryz.ntmps94
 go_wp2_with (first
  | (go_at_call 73;(with_reducible refine (wname_any fx n h1 hn).mono ?_);rintro e w2 (⟨hq2,rfl,f2⟩ | ⟨us2,hq2,rfl,h2,f2⟩);(focus (go_wp2;go_ret;exact (OutB.seq hq1 f1 (outb_last hq2 f2)).mono0 f0)))
  | (go_at_call 18;rw [← hw0];(with_reducible refine (put_any [36] h0 (by decide)).mono ?_);rintro e w1 (⟨hq1,rfl,f1⟩ | ⟨us1,hq1,rfl,h1,f1⟩);(focus (go_wp2;go_ret;exact (outb_no hq1 f1).mono0 f0));have F1 : FrW V w0 w1:=F0.trans f1;obtain ⟨P1,Q1⟩:=A.out _ F1;obtain ⟨p10,p11,_⟩:=row2 P1)
  | fail)
 go_ret
 exact (OutB.seq hq1 f1 (outb_end hq2 h2 f2)).mono0 f0
set_option maxRecDepth 100000 in
set_option maxHeartbeats 4000000 in
theorem won_any {V : Nat} {w : World} {ts : List Bs} (fx : Bool) (n : Bs) (h : Wk V w ts) (hn : n.length ≤ txM) : Calls Tryz.prog 76 #[wrV V fx,.string ⟨n.toArray⟩] w (OutB V w (onW n) ts):=by
 unfold onW
 obtain ⟨w0,hw0⟩ : ∃ w0,w0 = w.alloc (boxW V fx):=⟨_,rfl⟩
 have h0 : Wk V w0 ts:=by rw [hw0];exact h.al _
 have f0 : FrW V w w0:=by rw [hw0];exact al1V _
 have hV:=Nat.le_of_lt h.lt
 have hV0:=Nat.le_of_lt h0.lt
 have F0 : FrW V w0 w0:=FrW.refl _ _
 have A : Hid (∀ W,FrW V w0 W → W.heap[w.heap.size]? = some (.cells #[putV V,.bool fx] 56 (0,0)) ∧ True):=fun W F => ⟨box1 (by rw [← hw0];exact F) h.lt,trivial⟩
 go_enter Tryz.func76,Tryz.ntmps76
 go_wp2_with (first
  | (go_at_call 73;(with_reducible refine (wname_any fx n h1 hn).mono ?_);rintro e w2 (⟨hq2,rfl,f2⟩ | ⟨us2,hq2,rfl,h2,f2⟩);(focus (go_wp2;go_ret;exact (OutB.seq hq1 f1 (outb_last hq2 f2)).mono0 f0)))
  | (go_at_call 18;rw [← hw0];(with_reducible refine (put_any onB h0 (by decide)).mono ?_);rintro e w1 (⟨hq1,rfl,f1⟩ | ⟨us1,hq1,rfl,h1,f1⟩);(focus (go_wp2;go_ret;exact (outb_no hq1 f1).mono0 f0));have F1 : FrW V w0 w1:=F0.trans f1;obtain ⟨P1,Q1⟩:=A.out _ F1;obtain ⟨p10,p11,_⟩:=row2 P1)
  | fail)
 go_ret
 exact (OutB.seq hq1 f1 (outb_end hq2 h2 f2)).mono0 f0
set_option maxRecDepth 100000 in
set_option maxHeartbeats 4000000 in
theorem wbut_any {V G : Nat} {w : World} {ts : List Bs} (fx : Bool) (bs : List Bs) (n : Bs) (h : Wk V w ts) (hn : n.length ≤ txM) (hb : bs.length ≤ 8) (hG : w.heap[G]? = some (.cells (bs.map fun b => Value.string ⟨b.toArray⟩).toArray 9 (0,0))) : Calls Tryz.prog 73 #[wrV V fx,.string ⟨n.toArray⟩,.slice (some ⟨G,0,none⟩) bs.length bs.length] w (OutB V w (butW bs n) ts):=by
 obtain ⟨w0,hw0⟩ : ∃ w0,w0 = w.alloc (boxW V fx):=⟨_,rfl⟩
 have h0 : Wk V w0 ts:=by rw [hw0];exact h.al _
 have f0 : FrW V w w0:=by rw [hw0];exact al1V _
 have hlt:=h.lt
 have A : ∀ W,FrW V w0 W → W.cell? ⟨w.heap.size,0,none⟩ = some (putV V):=fun W F => (box_cells (fx:=fx) (by rw [← hw0];exact F) hlt).1
 have hG0 : w0.heap[G]? = some (.cells (bs.map fun b => Value.string ⟨b.toArray⟩).toArray 9 (0,0)):=by rw [hw0];exact ((al1 w _).block G (lt_of_block hG)).trans hG
 have X:=yname_any n w0 h0.gl
 have C : ∀ W,Below w0.heap.size w0 W → Calls Tryz.prog 114 #[.slice (some ⟨G,0,none⟩) bs.length bs.length,.string ⟨n.toArray⟩] W fun e w' => e = .returned (.bool (bs.contains n)) ∧ w' = W:=by
  intro W hW
  have hGW:=(hW.block G (lt_of_block hG0)).trans hG0
  have:=Tryz.slices_Contains_string G 0 bs.length bs.length (bs.map fun b => (⟨b.toArray⟩ : ByteArray)) ⟨n.toArray⟩ W (by simp) (by omega) (fun j hj => by
   have hj' : j < bs.length:=by simpa using hj
   unfold World.cell?
   simp [hGW,hj'])
  rw [contains_bs] at this
  exact this
 clear hG hG0
 unfold butW
 cases hk : nameK n with
 | true =>
  rw [hk] at X
  clear hk
  cases hc : bs.contains n with
  | false =>
   rw [hc] at C
   clear hc
   rw [if_pos (by rfl)]
   go_enter Tryz.func73,Tryz.ntmps73
   go_wp2_with (first
    | (go_at_call 17;rw [← hw0];(with_reducible refine X.mono ?_);rintro e w1 ⟨rfl,hb1⟩;have h1:=h0.on hb1;have F1 : FrW V w0 w1:=frw_of hb1;have a1:=A _ F1)
    | (go_at_call 114;(with_reducible refine (C _ hb1).mono ?_);rintro e w2 ⟨rfl,rfl⟩)
    | (go_at_call 18;(with_reducible refine (put_any n h1 hn).mono ?_);rintro e w3 (⟨hq,rfl,f3⟩ | ⟨us,hq,rfl,h3,f3⟩);(focus (go_wp2;go_ret;exact (outb_last hq f3).mono0 (f0.trans F1))))
    | fail)
   go_ret
   exact (outb_end hq h3 f3).mono0 (f0.trans F1)
  | true =>
   rw [hc] at C
   clear hc
   rw [if_neg (by simp)]
   go_enter Tryz.func73,Tryz.ntmps73
   go_wp2_with (first
    | (go_at_call 17;rw [← hw0];(with_reducible refine X.mono ?_);rintro e w1 ⟨rfl,hb1⟩;have F1 : FrW V w0 w1:=frw_of hb1;have a1:=A _ F1)
    | (go_at_call 114;(with_reducible refine (C _ hb1).mono ?_);rintro e w2 ⟨rfl,rfl⟩)
    | fail)
   go_ret
   exact outb_none rfl (f0.trans F1)
 | false =>
  rw [hk] at X
  clear hk
  rw [if_neg (by simp)]
  go_enter Tryz.func73,Tryz.ntmps73
  go_wp2_with (first
   | (go_at_call 17;rw [← hw0];(with_reducible refine X.mono ?_);rintro e w1 ⟨rfl,hb1⟩;have F1 : FrW V w0 w1:=frw_of hb1)
   | fail)
  go_ret
  exact outb_none rfl (f0.trans F1)
end Go.Proofs.YtgmlbjfgfmfliaaGreatDoor
namespace Go.Proofs.YtgmlbjfgfmfliaaGreatDoor
open Go Go.RowKit Go.Shelf
theorem bytes_eqP (x y : Bs) : ((ByteArray.mk x.toArray).toList == (ByteArray.mk y.toArray).toList) = (x == y):=by simp [ByteArray.toList_eq]
theorem one_text {W : World} {B : Nat} {v : Value} {t : Tok} (h : Toks W B v [t]) : ∃ q lc,v = .slice (some ⟨q,0,none⟩) 1 lc ∧ W.cell? ⟨q,1,none⟩ = some (.string ⟨t.t.toArray⟩):=by
 obtain ⟨q,cp,rfl,_,_⟩:=World.ownsRow.form h (by simp)
 exact ⟨q,cp,rfl,by rw [World.ownsRow.cellAt h 1 (by simp)];rfl⟩
theorem quoL_small : ∀ (n : Nat) (s : Bs),s.length ≤ n → (quoL s).length ≤ 6 * s.length
 | _,[],_ => by show (0 : Nat) ≤ _;omega
 | 0,_ :: _,h => by simp at h
 | n + 1,c :: r,h => by
  obtain ⟨h1,h2,h3⟩:=pieceQ_len c r
  rw [quoL_step,List.length_append]
  have hd : ((c :: r).drop (pieceQ c r).2).length = (c :: r).length - (pieceQ c r).2:=List.length_drop
  have:=quoL_small n ((c :: r).drop (pieceQ c r).2) (by rw [hd];simp at h ⊢;omega)
  rw [hd] at this
  simp only [List.length_cons] at *
  omega
theorem quoS_small {s : Bs} (h : s.length ≤ 16384) : (quoS s).length ≤ txM:=by
 have:=quoL_small s.length s (Nat.le_refl _)
 show (34 :: (quoL s ++ [34])).length ≤ 140737488355328
 simp only [List.length_cons,List.length_append,List.length_nil]
 omega
theorem textK_not {s : Bs} {r : (Nat × Int) ⊕ List Tok} (h : lexS (quoS s) = r) (hn : ∀ t,r = .inr [t] → (t.t == s) = false) : textK s = false:=by
 unfold textK
 rw [h]
 match r,hn with
 | .inl _,_ => rfl
 | .inr [],_ => rfl
 | .inr [t],hn => exact hn t rfl
 | .inr (_ :: _ :: _),_ => rfl
set_option maxRecDepth 100000 in
set_option maxHeartbeats 4000000 in
theorem wtext_any {V : Nat} {w : World} {ts : List Bs} (fx : Bool) (s : Bs) (h : Wk V w ts) : Calls Tryz.prog 96 #[wrV V fx,.string ⟨s.toArray⟩] w (OutB V w (textW s) ts):=by
 obtain ⟨w0,hw0⟩ : ∃ w0,w0 = w.alloc (boxW V fx):=⟨_,rfl⟩
 have h0 : Wk V w0 ts:=by rw [hw0];exact h.al _
 have f0 : FrW V w w0:=by rw [hw0];exact al1V _
 have hV:=Nat.le_of_lt h.lt
 have F0 : FrW V w0 w0:=FrW.refl _ _
 have A : Hid (∀ W,FrW V w0 W → W.heap[w.heap.size]? = some (.cells #[putV V,.bool fx] 56 (0,0)) ∧ True):=fun W F => ⟨box1 (by rw [← hw0];exact F) h.lt,trivial⟩
 have hsz:=size_of s
 by_cases hl : s.length ≤ 16384
 ·have l1 : decide ((16384 : Int) < (s.length : Int)) = false:=decide_eq_false (by omega)
  have QU:=quote_any s (by omega) w0 h0.tz
  have T : ∀ W,Below w0.heap.size w0 W → Calls Tryz.prog 34 #[.string ⟨(quoS s).toArray⟩] W (TokensP W (lexS (quoS s))):=fun W hW => tokens_any (quoS s) W (h0.on hW).gl
  have hlq:=quoS_small hl
  have no : textK s = false → textW s = none:=fun e => by unfold textW;rw [if_neg (by rw [e];simp)]
  cases hx : lexS (quoS s) with
  | inl p =>
   rw [hx] at T
   have hp0:=lexS_bad hx
   have NO : Hid (textW s = none):=no (textK_not hx (fun t e => by cases e))
   obtain ⟨a,x⟩:=p
   have hp2 : (x == 0) = false:=by simpa using hp0
   clear hx hp0 no
   go_enter Tryz.func96,Tryz.ntmps96
   go_wp2_with (first
    | (go_at_call 34;(with_reducible refine (T _ hb1).mono ?_);rintro e w2 ⟨rfl,hb2⟩)
    | (go_at_call 136;rw [← hw0];(with_reducible refine QU.mono ?_);rintro e w1 ⟨rfl,hb1⟩)
    | fail)
   go_ret
   exact outb_none NO.out (f0.trans ((frw_of hb1).trans (frw_of hb2)))
  | inr us =>
   rw [hx] at T
   by_cases h1 : us.length = 1
   ·obtain ⟨t,rfl⟩:=List.length_eq_one_iff.1 h1
    have B1:=bytes_eqP t.t s
    cases hk : t.t == s with
    | true =>
     have YES : Hid (textW s = some [quoS s]):=by
      show _ = _
      unfold textW textK
      rw [hx,if_pos ⟨hl,hk⟩]
     obtain ⟨k0,t0,b0,e0⟩:=t
     have hk' : s = t0:=Eq.symm (by simpa using hk)
     subst hk'
     clear hx no hk h1 B1
     go_enter Tryz.func96,Tryz.ntmps96
     go_wp2_with (first
      | (go_at_call 18;(with_reducible refine (put_any (quoS s) h2 hlq).mono ?_);rintro e w3 (⟨hq,rfl,f3⟩ | ⟨vs,hq,rfl,h3,f3⟩);(focus (go_wp2;go_ret;rw [YES.out];exact (outb_last hq f3).mono0 (f0.trans F2))))
      | (go_at_call 34;(with_reducible refine (T _ hb1).mono ?_);rintro e w2 ⟨⟨v,rfl,ht⟩,hb2⟩;obtain ⟨q,lc,rfl,c1⟩:=one_text ht;have h2:=(h0.on hb1).on hb2;have F2 : FrW V w0 w2:=(frw_of hb1).trans (frw_of hb2);obtain ⟨P2,_⟩:=A.out _ F2;obtain ⟨p0,p1,_⟩:=row2 P2)
      | (go_at_call 136;rw [← hw0];(with_reducible refine QU.mono ?_);rintro e w1 ⟨rfl,hb1⟩)
      | fail)
     go_ret
     rw [YES.out]
     exact (outb_end hq h3 f3).mono0 (f0.trans F2)
    | false =>
     rw [hk] at B1
     have NO : Hid (textW s = none):=no (textK_not hx (fun t' e => by cases e;exact hk))
     clear hx no h1
     go_enter Tryz.func96,Tryz.ntmps96
     go_wp2_with (first
      | (go_at_call 34;(with_reducible refine (T _ hb1).mono ?_);rintro e w2 ⟨⟨v,rfl,ht⟩,hb2⟩;obtain ⟨q,lc,rfl,c1⟩:=one_text ht)
      | (go_at_call 136;rw [← hw0];(with_reducible refine QU.mono ?_);rintro e w1 ⟨rfl,hb1⟩)
      | fail)
     go_ret
     exact outb_none NO.out (f0.trans ((frw_of hb1).trans (frw_of hb2)))
   ·have NO : Hid (textW s = none):=no (textK_not hx (fun t e => by cases e;exact absurd rfl h1))
    have h2 : ((us.length : Int) == 1) = false:=by rw [beq_eq_false_iff_ne];omega
    have hn:=lexS_full hx
    clear hx no h1
    go_enter Tryz.func96,Tryz.ntmps96
    go_wp2_with (first
     | (go_at_call 34;(with_reducible refine (T _ hb1).mono ?_);rintro e w2 ⟨⟨v,rfl,ht⟩,hb2⟩;obtain ⟨o,lc,rfl⟩:=own_slice ht)
     | (go_at_call 136;rw [← hw0];(with_reducible refine QU.mono ?_);rintro e w1 ⟨rfl,hb1⟩)
     | fail)
    go_ret
    exact outb_none NO.out (f0.trans ((frw_of hb1).trans (frw_of hb2)))
 ·have l1 : decide ((16384 : Int) < (s.length : Int)) = true:=decide_eq_true (by omega)
  have NO : Hid (textW s = none):=by
   show _ = _
   unfold textW
   rw [if_neg (fun e => hl e.1)]
  go_enter Tryz.func96,Tryz.ntmps96
  go_wp2
  go_ret
  rw [← hw0]
  exact outb_none NO.out f0
end Go.Proofs.YtgmlbjfgfmfliaaGreatDoor
namespace Go.Proofs.YtgmlbjfgfmfliaaGreatDoor
open Go Go.RowKit Go.Shelf
set_option maxRecDepth 100000 in
set_option maxHeartbeats 4000000 in
theorem wleaf_0 {V : Nat} {w : World} {ts : List Bs} (fx : Bool) (t : Bs) (h : Wk V w ts) : Calls Tryz.prog 57 #[wrV V fx,.int .i64 0,.string ⟨t.toArray⟩] w (OutB V w (leafW fx 0 t) ts):=by
 obtain ⟨w0,hw0⟩ : ∃ w0,w0 = w.alloc (boxW V fx):=⟨_,rfl⟩
 have h0 : Wk V w0 ts:=by rw [hw0];exact h.al _
 have f0 : FrW V w w0:=by rw [hw0];exact al1V _
 have F0 : FrW V w0 w0:=FrW.refl _ _
 have A : Hid (∀ W,FrW V w0 W → W.heap[w.heap.size]? = some (.cells #[putV V,.bool fx] 56 (0,0)) ∧ True):=fun W F => ⟨box1 (by rw [← hw0];exact F) h.lt,trivial⟩
 by_cases ht : t = []
 ·subst ht
  have e : leafW fx 0 [] = some [nullB]:=rfl
  rw [e]
  go_enter Tryz.func57,Tryz.ntmps57
  go_wp2_with (first
   | (go_at_call 18;rw [← hw0];(with_reducible refine (put_any nullB h0 (by decide)).mono ?_);rintro e w3 (⟨hq,rfl,f3⟩ | ⟨us,hq,rfl,h3,f3⟩);(focus (go_wp2;go_ret;exact (outb_last hq f3).mono0 f0)))
   | fail)
  go_ret
  exact (outb_end hq h3 f3).mono0 f0
 ·have e : leafW fx 0 t = none:=by
   show (if t = [] then some [nullB] else none) = none
   rw [if_neg ht]
  rw [e]
  have hi' : (t == []) = false:=by simpa using ht
  have hi3 : t.isEmpty = false:=by simpa using ht
  go_enter Tryz.func57,Tryz.ntmps57
  go_wp2
  go_ret
  rw [← hw0]
  exact outb_none rfl f0
set_option maxRecDepth 100000 in
set_option maxHeartbeats 4000000 in
theorem wleaf_1 {V : Nat} {w : World} {ts : List Bs} (fx : Bool) (t : Bs) (h : Wk V w ts) : Calls Tryz.prog 57 #[wrV V fx,.int .i64 1,.string ⟨t.toArray⟩] w (OutB V w (leafW fx 1 t) ts):=by
 obtain ⟨w0,hw0⟩ : ∃ w0,w0 = w.alloc (boxW V fx):=⟨_,rfl⟩
 have h0 : Wk V w0 ts:=by rw [hw0];exact h.al _
 have f0 : FrW V w w0:=by rw [hw0];exact al1V _
 have F0 : FrW V w0 w0:=FrW.refl _ _
 have A : Hid (∀ W,FrW V w0 W → W.heap[w.heap.size]? = some (.cells #[putV V,.bool fx] 56 (0,0)) ∧ True):=fun W F => ⟨box1 (by rw [← hw0];exact F) h.lt,trivial⟩
 by_cases ht : t = []
 ·subst ht
  have e : leafW fx 1 [] = some [falseB]:=rfl
  rw [e]
  go_enter Tryz.func57,Tryz.ntmps57
  go_wp2_with (first
   | (go_at_call 18;rw [← hw0];(with_reducible refine (put_any falseB h0 (by decide)).mono ?_);rintro e w3 (⟨hq,rfl,f3⟩ | ⟨us,hq,rfl,h3,f3⟩);(focus (go_wp2;go_ret;exact (outb_last hq f3).mono0 f0)))
   | fail)
  go_ret
  exact (outb_end hq h3 f3).mono0 f0
 ·have e : leafW fx 1 t = none:=by
   show (if t = [] then some [falseB] else none) = none
   rw [if_neg ht]
  rw [e]
  have hi' : (t == []) = false:=by simpa using ht
  have hi3 : t.isEmpty = false:=by simpa using ht
  go_enter Tryz.func57,Tryz.ntmps57
  go_wp2
  go_ret
  rw [← hw0]
  exact outb_none rfl f0
set_option maxRecDepth 100000 in
set_option maxHeartbeats 4000000 in
theorem wleaf_2 {V : Nat} {w : World} {ts : List Bs} (fx : Bool) (t : Bs) (h : Wk V w ts) : Calls Tryz.prog 57 #[wrV V fx,.int .i64 2,.string ⟨t.toArray⟩] w (OutB V w (leafW fx 2 t) ts):=by
 obtain ⟨w0,hw0⟩ : ∃ w0,w0 = w.alloc (boxW V fx):=⟨_,rfl⟩
 have h0 : Wk V w0 ts:=by rw [hw0];exact h.al _
 have f0 : FrW V w w0:=by rw [hw0];exact al1V _
 have F0 : FrW V w0 w0:=FrW.refl _ _
 have A : Hid (∀ W,FrW V w0 W → W.heap[w.heap.size]? = some (.cells #[putV V,.bool fx] 56 (0,0)) ∧ True):=fun W F => ⟨box1 (by rw [← hw0];exact F) h.lt,trivial⟩
 by_cases ht : t = []
 ·subst ht
  have e : leafW fx 2 [] = some [trueB]:=rfl
  rw [e]
  go_enter Tryz.func57,Tryz.ntmps57
  go_wp2_with (first
   | (go_at_call 18;rw [← hw0];(with_reducible refine (put_any trueB h0 (by decide)).mono ?_);rintro e w3 (⟨hq,rfl,f3⟩ | ⟨us,hq,rfl,h3,f3⟩);(focus (go_wp2;go_ret;exact (outb_last hq f3).mono0 f0)))
   | fail)
  go_ret
  exact (outb_end hq h3 f3).mono0 f0
 ·have e : leafW fx 2 t = none:=by
   show (if t = [] then some [trueB] else none) = none
   rw [if_neg ht]
  rw [e]
  have hi' : (t == []) = false:=by simpa using ht
  have hi3 : t.isEmpty = false:=by simpa using ht
  go_enter Tryz.func57,Tryz.ntmps57
  go_wp2
  go_ret
  rw [← hw0]
  exact outb_none rfl f0
set_option maxRecDepth 100000 in
set_option maxHeartbeats 4000000 in
theorem wleaf_3 {V : Nat} {w : World} {ts : List Bs} (fx : Bool) (t : Bs) (h : Wk V w ts) (ht : t.length ≤ txM) : Calls Tryz.prog 57 #[wrV V fx,.int .i64 3,.string ⟨t.toArray⟩] w (OutB V w (leafW fx 3 t) ts):=by
 obtain ⟨w0,hw0⟩ : ∃ w0,w0 = w.alloc (boxW V fx):=⟨_,rfl⟩
 have h0 : Wk V w0 ts:=by rw [hw0];exact h.al _
 have f0 : FrW V w w0:=by rw [hw0];exact al1V _
 have F0 : FrW V w0 w0:=FrW.refl _ _
 have A : Hid (∀ W,FrW V w0 W → W.heap[w.heap.size]? = some (.cells #[putV V,.bool fx] 56 (0,0)) ∧ True):=fun W F => ⟨box1 (by rw [← hw0];exact F) h.lt,trivial⟩
 cases fx with
 | true =>
  have e : leafW true 3 t = none:=rfl
  rw [e]
  go_enter Tryz.func57,Tryz.ntmps57
  go_wp2
  go_ret
  rw [← hw0]
  exact outb_none rfl f0
 | false =>
  have e : leafW false 3 t = varW t:=rfl
  rw [e]
  go_enter Tryz.func57,Tryz.ntmps57
  go_wp2_with (first
   | (go_at_call 94;rw [← hw0];(with_reducible refine (wvariable_any false t h0 ht).mono ?_);rintro e w3 (⟨hq,rfl,f3⟩ | ⟨us,hq,rfl,h3,f3⟩);(focus (go_wp2;go_ret;exact (outb_last hq f3).mono0 f0)))
   | fail)
  go_ret
  exact (outb_end hq h3 f3).mono0 f0
set_option maxRecDepth 100000 in
set_option maxHeartbeats 4000000 in
theorem wleaf_4 {V : Nat} {w : World} {ts : List Bs} (fx : Bool) (t : Bs) (h : Wk V w ts) (ht : t.length ≤ txM) : Calls Tryz.prog 57 #[wrV V fx,.int .i64 4,.string ⟨t.toArray⟩] w (OutB V w (leafW fx 4 t) ts):=by
 obtain ⟨w0,hw0⟩ : ∃ w0,w0 = w.alloc (boxW V fx):=⟨_,rfl⟩
 have h0 : Wk V w0 ts:=by rw [hw0];exact h.al _
 have f0 : FrW V w w0:=by rw [hw0];exact al1V _
 have F0 : FrW V w0 w0:=FrW.refl _ _
 have A : Hid (∀ W,FrW V w0 W → W.heap[w.heap.size]? = some (.cells #[putV V,.bool fx] 56 (0,0)) ∧ True):=fun W F => ⟨box1 (by rw [← hw0];exact F) h.lt,trivial⟩
 have e : leafW fx 4 t = if numK t = 2 then some [t] else none:=rfl
 rw [e]
 have X:=ynumber_any t w0 h0.gl
 generalize numK t = z at *
 by_cases hz : z = 2
 ·subst hz
  rw [if_pos rfl]
  go_enter Tryz.func57,Tryz.ntmps57
  go_wp2_with (first
   | (go_at_call 18;(with_reducible refine (put_any t h1 ht).mono ?_);rintro e w3 (⟨hq,rfl,f3⟩ | ⟨us,hq,rfl,h3,f3⟩);(focus (go_wp2;go_ret;exact (outb_last hq f3).mono0 (f0.trans F1))))
   | (go_at_call 95;rw [← hw0];(with_reducible refine X.mono ?_);rintro e w1 ⟨rfl,hb1⟩;have h1:=h0.on hb1;have F1 : FrW V w0 w1:=frw_of hb1;obtain ⟨P1,_⟩:=A.out _ F1;obtain ⟨p0,p1,_⟩:=row2 P1)
   | fail)
  go_ret
  exact (outb_end hq h3 f3).mono0 (f0.trans F1)
 ·rw [if_neg hz]
  have hz2 : (z == 2) = false:=by simpa using hz
  go_enter Tryz.func57,Tryz.ntmps57
  go_wp2_with (first
   | (go_at_call 95;rw [← hw0];(with_reducible refine X.mono ?_);rintro e w1 ⟨rfl,hb1⟩;have F1 : FrW V w0 w1:=frw_of hb1)
   | fail)
  go_ret
  exact outb_none rfl (f0.trans F1)
set_option maxRecDepth 100000 in
set_option maxHeartbeats 4000000 in
theorem wleaf_5 {V : Nat} {w : World} {ts : List Bs} (fx : Bool) (t : Bs) (h : Wk V w ts) (ht : t.length ≤ txM) : Calls Tryz.prog 57 #[wrV V fx,.int .i64 5,.string ⟨t.toArray⟩] w (OutB V w (leafW fx 5 t) ts):=by
 obtain ⟨w0,hw0⟩ : ∃ w0,w0 = w.alloc (boxW V fx):=⟨_,rfl⟩
 have h0 : Wk V w0 ts:=by rw [hw0];exact h.al _
 have f0 : FrW V w w0:=by rw [hw0];exact al1V _
 have F0 : FrW V w0 w0:=FrW.refl _ _
 have A : Hid (∀ W,FrW V w0 W → W.heap[w.heap.size]? = some (.cells #[putV V,.bool fx] 56 (0,0)) ∧ True):=fun W F => ⟨box1 (by rw [← hw0];exact F) h.lt,trivial⟩
 have e : leafW fx 5 t = if numK t = 3 then some [t] else none:=rfl
 rw [e]
 have X:=ynumber_any t w0 h0.gl
 generalize numK t = z at *
 by_cases hz : z = 3
 ·subst hz
  rw [if_pos rfl]
  go_enter Tryz.func57,Tryz.ntmps57
  go_wp2_with (first
   | (go_at_call 18;(with_reducible refine (put_any t h1 ht).mono ?_);rintro e w3 (⟨hq,rfl,f3⟩ | ⟨us,hq,rfl,h3,f3⟩);(focus (go_wp2;go_ret;exact (outb_last hq f3).mono0 (f0.trans F1))))
   | (go_at_call 95;rw [← hw0];(with_reducible refine X.mono ?_);rintro e w1 ⟨rfl,hb1⟩;have h1:=h0.on hb1;have F1 : FrW V w0 w1:=frw_of hb1;obtain ⟨P1,_⟩:=A.out _ F1;obtain ⟨p0,p1,_⟩:=row2 P1)
   | fail)
  go_ret
  exact (outb_end hq h3 f3).mono0 (f0.trans F1)
 ·rw [if_neg hz]
  have hz2 : (z == 3) = false:=by simpa using hz
  go_enter Tryz.func57,Tryz.ntmps57
  go_wp2_with (first
   | (go_at_call 95;rw [← hw0];(with_reducible refine X.mono ?_);rintro e w1 ⟨rfl,hb1⟩;have F1 : FrW V w0 w1:=frw_of hb1)
   | fail)
  go_ret
  exact outb_none rfl (f0.trans F1)
set_option maxRecDepth 100000 in
set_option maxHeartbeats 4000000 in
theorem wleaf_6 {V : Nat} {w : World} {ts : List Bs} (fx : Bool) (t : Bs) (h : Wk V w ts) : Calls Tryz.prog 57 #[wrV V fx,.int .i64 6,.string ⟨t.toArray⟩] w (OutB V w (leafW fx 6 t) ts):=by
 obtain ⟨w0,hw0⟩ : ∃ w0,w0 = w.alloc (boxW V fx):=⟨_,rfl⟩
 have h0 : Wk V w0 ts:=by rw [hw0];exact h.al _
 have f0 : FrW V w w0:=by rw [hw0];exact al1V _
 have F0 : FrW V w0 w0:=FrW.refl _ _
 have A : Hid (∀ W,FrW V w0 W → W.heap[w.heap.size]? = some (.cells #[putV V,.bool fx] 56 (0,0)) ∧ True):=fun W F => ⟨box1 (by rw [← hw0];exact F) h.lt,trivial⟩
 have e : leafW fx 6 t = textW t:=rfl
 rw [e]
 go_enter Tryz.func57,Tryz.ntmps57
 go_wp2_with (first
  | (go_at_call 96;rw [← hw0];(with_reducible refine (wtext_any fx t h0).mono ?_);rintro e w3 (⟨hq,rfl,f3⟩ | ⟨us,hq,rfl,h3,f3⟩);(focus (go_wp2;go_ret;exact (outb_last hq f3).mono0 f0)))
  | fail)
 go_ret
 exact (outb_end hq h3 f3).mono0 f0
set_option maxRecDepth 100000 in
set_option maxHeartbeats 4000000 in
theorem wleaf_7 {V : Nat} {w : World} {ts : List Bs} (fx : Bool) (t : Bs) (h : Wk V w ts) (ht : t.length ≤ txM) : Calls Tryz.prog 57 #[wrV V fx,.int .i64 7,.string ⟨t.toArray⟩] w (OutB V w (leafW fx 7 t) ts):=by
 obtain ⟨w0,hw0⟩ : ∃ w0,w0 = w.alloc (boxW V fx):=⟨_,rfl⟩
 have h0 : Wk V w0 ts:=by rw [hw0];exact h.al _
 have f0 : FrW V w w0:=by rw [hw0];exact al1V _
 have F0 : FrW V w0 w0:=FrW.refl _ _
 have A : Hid (∀ W,FrW V w0 W → W.heap[w.heap.size]? = some (.cells #[putV V,.bool fx] 56 (0,0)) ∧ True):=fun W F => ⟨box1 (by rw [← hw0];exact F) h.lt,trivial⟩
 have e : leafW fx 7 t = butW [trueB,falseB,nullB] t:=rfl
 rw [e]
 have hsz : w0.heap.size = w.heap.size + 1:=by rw [hw0];exact World.size_alloc _ _
 have X : Calls Tryz.prog 73 #[wrV V fx,.string ⟨t.toArray⟩,.slice (some ⟨w.heap.size + 1,0,none⟩) 3 3] (w0.alloc (.cells #[.string ⟨#[116,114,117,101]⟩,.string ⟨#[102,97,108,115,101]⟩,.string ⟨#[110,117,108,108]⟩] 9)) (OutB V (w0.alloc (.cells #[.string ⟨#[116,114,117,101]⟩,.string ⟨#[102,97,108,115,101]⟩,.string ⟨#[110,117,108,108]⟩] 9)) (butW [trueB,falseB,nullB] t) ts) :=
  wbut_any fx [trueB,falseB,nullB] t (h0.al _) ht (by decide) (by rw [← hsz];exact heap_alloc_new w0 _)
 go_enter Tryz.func57,Tryz.ntmps57
 go_wp2_with (first
  | (go_at_call 73;rw [← hw0];(with_reducible refine X.mono ?_);rintro e w3 (⟨hq,rfl,f3⟩ | ⟨us,hq,rfl,h3,f3⟩);(focus (go_wp2;go_ret;exact (outb_last hq f3).mono0 (f0.trans (al1V _)))))
  | fail)
 go_ret
 exact (outb_end hq h3 f3).mono0 (f0.trans (al1V _))
set_option maxRecDepth 100000 in
set_option maxHeartbeats 4000000 in
theorem wleaf_any {V : Nat} {w : World} {ts : List Bs} (fx : Bool) (k : Int) (t : Bs) (h : Wk V w ts) (ht : t.length ≤ txM) : Calls Tryz.prog 57 #[wrV V fx,.int .i64 k,.string ⟨t.toArray⟩] w (OutB V w (leafW fx k t) ts):=by
 by_cases k0 : k = 0
 ·rw [k0];exact wleaf_0 fx t h
 by_cases k1 : k = 1
 ·rw [k1];exact wleaf_1 fx t h
 by_cases k2 : k = 2
 ·rw [k2];exact wleaf_2 fx t h
 by_cases k3 : k = 3
 ·rw [k3];exact wleaf_3 fx t h ht
 by_cases k4 : k = 4
 ·rw [k4];exact wleaf_4 fx t h ht
 by_cases k5 : k = 5
 ·rw [k5];exact wleaf_5 fx t h ht
 by_cases k6 : k = 6
 ·rw [k6];exact wleaf_6 fx t h
 by_cases k7 : k = 7
 ·rw [k7];exact wleaf_7 fx t h ht
 have e : leafW fx k t = none:=by
  unfold leafW
  rw [if_neg k0,if_neg k1,if_neg k2,if_neg k3,if_neg k4,if_neg k5,if_neg k6,if_neg k7]
 rw [e]
 obtain ⟨w0,hw0⟩ : ∃ w0,w0 = w.alloc (boxW V fx):=⟨_,rfl⟩
 have h0 : Wk V w0 ts:=by rw [hw0];exact h.al _
 have f0 : FrW V w w0:=by rw [hw0];exact al1V _
 have F0 : FrW V w0 w0:=FrW.refl _ _
 have A : Hid (∀ W,FrW V w0 W → W.heap[w.heap.size]? = some (.cells #[putV V,.bool fx] 56 (0,0)) ∧ True):=fun W F => ⟨box1 (by rw [← hw0];exact F) h.lt,trivial⟩
 have l0 : (k == 0) = false:=by simpa using k0
 have l1 : (k == 1) = false:=by simpa using k1
 have l2 : (k == 2) = false:=by simpa using k2
 have l3 : (k == 3) = false:=by simpa using k3
 have l4 : (k == 4) = false:=by simpa using k4
 have l5 : (k == 5) = false:=by simpa using k5
 have l6 : (k == 6) = false:=by simpa using k6
 have l7 : (k == 7) = false:=by simpa using k7
 go_enter Tryz.func57,Tryz.ntmps57
 go_wp2
 go_ret
 rw [← hw0]
 exact outb_none rfl f0
end Go.Proofs.YtgmlbjfgfmfliaaGreatDoor
