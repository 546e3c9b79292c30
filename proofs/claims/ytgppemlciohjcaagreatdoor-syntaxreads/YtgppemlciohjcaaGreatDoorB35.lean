/- The document's own text: a string, read by source characters. -/
import Derived.Test.YtgppemlciohjcaaGreatDoorB34
import Derived.Test.YtgppemlciohjcaaGreatDoorB32
namespace Go.Proofs.YtgppemlciohjcaaGreatDoor
section
open Go Go.RowKit
attribute [local irreducible] srcB unitS
theorem xlF_fuel (s : Bs) : ∀ (n m i : Nat),s.length - i < n → s.length - i < m → xlF s n i = xlF s m i:=by
 intro n
 induction n with
 | zero => intro m i h;omega
 | succ n ih =>
  intro m i hn hm
  cases m with
  | zero => omega
  | succ m =>
   unfold xlF
   cases hs : srcC s i with
   | none => rfl
   | some k =>
    have hH:=hs
    rw [srcC_H] at hH
    obtain ⟨k1,k2,_,_⟩:=srcH_facts hH
    rw [List.length_drop] at k2
    simp only
    rw [ih m (i + k) (by omega) (by omega)]
    cases he : escS (s.drop (i + 1)) with
    | none => rfl
    | some p =>
     have h4:=(escS_facts (t:=p.1) (r:=p.2) he).2.1
     rw [List.length_drop] at h4
     simp only
     rw [ih m (s.length - p.2.length) (by omega) (by omega)]
def xl (s : Bs) (i : Nat) : Option (Bs × Nat):=xlF s (s.length - i + 1) i
theorem xl_none {s : Bs} {i : Nat} (h : srcC s i = none) : xl s i = none:=by
 unfold xl xlF
 rw [h]
theorem xl_end {s : Bs} {i k : Nat} (h : srcC s i = some k) (hc : bt s i = 10 ∨ bt s i = 13) : xl s i = none:=by
 unfold xl xlF
 rw [h]
 simp only
 rw [if_pos hc]
theorem xl_stop {s : Bs} {i k : Nat} (h : srcC s i = some k) (hc : bt s i = 34) : xl s i = some ([],i + 1):=by
 unfold xl xlF
 rw [h]
 simp only
 rw [if_neg (by omega),if_pos hc]
theorem xl_bad {s : Bs} {i k : Nat} (h : srcC s i = some k) (hc : bt s i = 92) (he : escS (s.drop (i + 1)) = none) : xl s i = none:=by
 unfold xl xlF
 rw [h]
 simp only
 rw [if_neg (by omega),if_neg (by omega),if_pos hc,he]
theorem xl_esc {s : Bs} {i k : Nat} {t r : Bs} (h : srcC s i = some k) (hc : bt s i = 92) (he : escS (s.drop (i + 1)) = some (t,r)) : xl s i = (xl s (s.length - r.length)).map fun q => (t ++ q.1,q.2):=by
 have h4:=(escS_facts he).2.1
 rw [List.length_drop] at h4
 conv => lhs;unfold xl xlF
 rw [h]
 simp only
 rw [if_neg (by omega),if_neg (by omega),if_pos hc,he]
 simp only
 unfold xl
 rw [xlF_fuel s _ (s.length - (s.length - r.length) + 1) (s.length - r.length) (by omega) (by omega)]
theorem xl_raw {s : Bs} {i k : Nat} (h : srcC s i = some k) (h1 : bt s i ≠ 10) (h2 : bt s i ≠ 13) (h3 : bt s i ≠ 34) (h4 : bt s i ≠ 92) : xl s i = (xl s (i + k)).map fun q => ((s.drop i).take k ++ q.1,q.2):=by
 have hH:=h
 rw [srcC_H] at hH
 obtain ⟨k1,k2,_,_⟩:=srcH_facts hH
 rw [List.length_drop] at k2
 conv => lhs;unfold xl xlF
 rw [h]
 simp only
 rw [if_neg (by omega),if_neg h3,if_neg h4]
 unfold xl
 rw [xlF_fuel s _ (s.length - (i + k) + 1) (i + k) (by omega) (by omega)]
theorem stc_bt {s : Bs} {i k : Nat} (h : srcC s i = some k) (v : Int) (hv : v < 128) : stC ⟨s.toArray⟩ i = v ↔ bt s i = v:=by
 have hH:=h
 rw [srcC_H] at hH
 have hp : i < s.length:=by
  unfold srcC at h
  split at h
  ·rename_i hc;exact hc.1
  ·cases h
 have hd:=dec_drop ⟨s.toArray⟩ i 0 (by rw [mk_size];omega)
 have e : (ByteArray.mk s.toArray).extract i (ByteArray.mk s.toArray).size = ⟨(s.drop i).toArray⟩:=by
  rw [mk_size]
  apply ByteArray.ext;apply Array.toList_inj.1
  simp
  exact List.take_of_length_le (by simp)
 rw [e,Nat.add_zero] at hd
 obtain ⟨e1,_⟩:=stC_eq hd
 rw [← e1]
 obtain ⟨k1,k2,_,_⟩:=srcH_facts hH
 rcases srcH_bytes hH with ⟨c,r,hl,hc,_,hst⟩ | ⟨hbig,hall⟩
 ·rw [hst,bt_drop s i c r hl]
 ·have : 128 ≤ bt s i:=by
   cases hl : s.drop i with
   | nil => rw [hl] at k2;simp at k2;omega
   | cons c r =>
    rw [bt_drop s i c r hl]
    have:=hall c (by
     rw [hl]
     obtain ⟨j,rfl⟩ : ∃ j,k = j + 1:=⟨k - 1,by omega⟩
     exact List.mem_cons_self)
    omega
  omega
theorem owns_belowX {W W' : World} {B e sz n : Nat} {v : Value} {xs : List Value} (h : W.ownsRow B e sz v n xs) (hb : Below W.heap.size W W') : W'.ownsRow B e sz v n xs:=by
 refine ⟨h.1,?_⟩
 rcases h.2 with h2 | ⟨g,cap,cur,hv,hg,hh,r⟩
 ·exact Or.inl h2
 ·exact Or.inr ⟨g,cap,cur,hv,hg,(hb.block g (lt_of_block hh)).trans hh,r⟩
theorem own_nobX (w : World) : Bytes (w.alloc (.cells #[] 5)) w.heap.size (.slice (some ⟨w.heap.size,0,none⟩) 0 0) [] :=
 ⟨rfl,Or.inr ⟨w.heap.size,0,#[],rfl,Nat.le_refl _,heap_alloc_new _ _,Nat.le_refl _,Nat.zero_le _,rfl,rfl⟩⟩
theorem not_noneX {w : World} {B e n : Nat} {v : Value} {xs : List Value} (h : w.ownsRow B e 1 v n xs) (hn : v ≠ .slice none 0 0) : ∃ g cap,v = .slice (some ⟨g,0,none⟩) n cap:=by
 rcases h.2 with ⟨h1,_⟩ | ⟨g,cap,cur,h1,_⟩
 ·exact absurd h1 hn
 ·exact ⟨g,cap,h1⟩
structure TL (f : Nat → Option (Bs × Nat)) (s : Bs) (p0 : Nat) (w wr : World) (j : Nat) (b : Value) (acc : Bs) : Prop where
 row : Bytes wr w.heap.size b acc
 le : acc.length ≤ 4 * j
 jle : j ≤ s.length
 nn : b ≠ .slice none 0 0
 bel : Below w.heap.size w wr
 res : f p0 = (f j).map fun q => (acc ++ q.1,q.2)
theorem map_nil (o : Option (Bs × Nat)) : o = o.map fun q => ([] ++ q.1,q.2):=by cases o <;> simp
theorem map_map (o : Option (Bs × Nat)) (a b : Bs) : ((o.map fun q => (b ++ q.1,q.2)).map fun q => (a ++ q.1,q.2)) = o.map fun q => ((a ++ b) ++ q.1,q.2):=by cases o <;> simp
theorem grow_bytes {w2 : World} {B : Nat} {acc t : Bs} {vb : Value} {TB : ByteArray} (ht : ByteArray.mk t.toArray = TB) (h : w2.ownsRow B 5 1 vb (acc.length + TB.size) (Lib.byteCells acc ++ Lib.strCells TB)) : Bytes w2 B vb (acc ++ t):=by
 subst ht
 unfold Bytes
 rw [cells_app,List.length_append,← strCells_eq t]
 rw [mk_size] at h
 exact h
set_option maxRecDepth 100000 in
set_option maxHeartbeats 2000000 in
theorem xtext_any (Q : Ending → Prop) (s : Bs) (p : Nat) (hp : p < s.length) (hs : s.length ≤ 16384) (hyes : ∀ t e,xl s (p + 1) = some (t,e) → Q (.returned (.tuple #[.string ⟨t.toArray⟩,.int .i64 (e : Int),.bool true]))) (hno : xl s (p + 1) = none → ∀ a b,Q (.returned (.tuple #[.string a,.int .i64 b,.bool false]))) (w : World) :
  Calls Tryz.prog 71 #[.string ⟨s.toArray⟩,.int .i64 (p : Int)] w fun e w' => Q e ∧ Below w.heap.size w w':=by
 obtain ⟨i1,hi1,hy0,hy1,hy2⟩:=info_parts Tryz.infoByte
 have HY : Hid (∀ t e,xl s (p + 1) = some (t,e) → Q (.returned (.tuple #[.string ⟨t.toArray⟩,.int .i64 (e : Int),.bool true]))):=hyes
 have HN : Hid (xl s (p + 1) = none → ∀ a b,Q (.returned (.tuple #[.string a,.int .i64 b,.bool false]))):=hno
 have hD : (ByteArray.mk s.toArray).size = s.length:=rfl
 clear hyes hno
 generalize hDD : (ByteArray.mk s.toArray) = D at *
 have HD : Hid ((ByteArray.mk s.toArray) = D):=hDD
 clear hDD
 go_enter Tryz.func71,Tryz.ntmps71
 go_wp2
 go_loopw [1,7] (fun i b wr => ∃ (j : Nat) (vb : Value) (acc : Bs),i = .int .i64 (j : Int) ∧ b = vb ∧ TL (xl s) s (p + 1) w wr j vb acc) (fun i _ _ => s.length - (RowKit.intOf i).toNat)
 case atStart => exact ⟨p + 1,_,[],rfl,rfl,own_nobX w,by simp,by omega,by simp,(Below.refl _ _).alloc (Nat.le_refl _) _,map_nil _⟩
 case round =>
  obtain ⟨j,vb,acc,rfl,rfl,hT⟩:=hrel
  obtain ⟨hob,hle,hj,hnn,hbr,hres⟩:=hT
  have HR : Hid (xl s (p + 1) = (xl s j).map fun q => (acc ++ q.1,q.2)):=hres
  clear hres
  cases hsc : srcC s j with
  | none =>
   have S : ∀ w,Calls Tryz.prog 64 #[.string D,.int .i64 (j : Int)] w fun e w' => e = .returned (.tuple #[.int .i64 0,.int .i64 0]) ∧ Below w.heap.size w w':=fun w => by
    have:=source_no s j hs hsc w
    rw [HD.out] at this
    exact this
   have HX : Hid (xl s j = none):=xl_none hsc
   clear hsc
   go_wp2_with (first
    | (go_at_call 64;(with_reducible refine (S _).mono ?_);rintro e w1 ⟨rfl,hb1⟩;have hbr1:=hbr.trans (hb1.mono hbr.size);have hob1:=owns_belowX hob hb1)
    | fail)
   go_ret3
   exact ⟨HN.out (by rw [HR.out,HX.out];rfl) _ _,hbr1⟩
  | some k =>
   have S : ∀ w,Calls Tryz.prog 64 #[.string D,.int .i64 (j : Int)] w fun e w' => e = .returned (.tuple #[.int .i64 (stC ⟨s.toArray⟩ j),.int .i64 (k : Int)]) ∧ Below w.heap.size w w':=fun w => by
    have:=source_yes s j k hs hsc w
    rw [HD.out] at this ⊢
    exact this
   have hH:=hsc
   rw [srcC_H] at hH
   obtain ⟨k1,k2,_,_⟩:=srcH_facts hH
   rw [List.length_drop] at k2
   have x0 : ((k : Int) == 0) = false:=by simp;omega
   have x00 : (k == 0) = false:=by simp;omega
   obtain ⟨g9,cap9,rfl⟩:=not_noneX hob hnn
   by_cases c1 : bt s j = 10
   ·rw [(stc_bt hsc 10 (by decide)).2 c1] at S
    have HX : Hid (xl s j = none):=xl_end hsc (Or.inl c1)
    clear hsc hH c1
    go_wp2_with (first
     | (go_at_call 64;(with_reducible refine (S _).mono ?_);rintro e w1 ⟨rfl,hb1⟩;have hbr1:=hbr.trans (hb1.mono hbr.size);have hob1:=owns_belowX hob hb1)
     | fail)
    go_ret3
    exact ⟨HN.out (by rw [HR.out,HX.out];rfl) _ _,hbr1⟩
   by_cases c2 : bt s j = 13
   ·rw [(stc_bt hsc 13 (by decide)).2 c2] at S
    have HX : Hid (xl s j = none):=xl_end hsc (Or.inr c2)
    clear hsc hH c2
    go_wp2_with (first
     | (go_at_call 64;(with_reducible refine (S _).mono ?_);rintro e w1 ⟨rfl,hb1⟩;have hbr1:=hbr.trans (hb1.mono hbr.size);have hob1:=owns_belowX hob hb1)
     | fail)
    go_ret3
    exact ⟨HN.out (by rw [HR.out,HX.out];rfl) _ _,hbr1⟩
   by_cases c3 : bt s j = 34
   ·rw [(stc_bt hsc 34 (by decide)).2 c3] at S
    have HX : Hid (xl s j = some ([],j + 1)):=xl_stop hsc c3
    have hcv : ∀ W',Below wr.heap.size wr W' → (convert 37 9 (.slice (some ⟨g9,0,none⟩) acc.length cap9)).run Tryz.prog W' = .ok (.string ⟨acc.toArray⟩) W':=fun W' hb => conv_row (owns_belowX hob hb)
    clear hsc hH c3
    generalize hAB : (ByteArray.mk acc.toArray) = AB at *
    have HAB : Hid ((ByteArray.mk acc.toArray) = AB):=hAB
    clear hAB
    go_wp2_with (first
     | (go_at_call 64;(with_reducible refine (S _).mono ?_);rintro e w1 ⟨rfl,hb1⟩;have hbr1:=hbr.trans (hb1.mono hbr.size);have hcv1:=hcv _ hb1)
     | fail)
    go_ret3
    have hy:=HY.out acc (j + 1) (by rw [HR.out,HX.out];simp)
    rw [HAB.out] at hy
    exact ⟨hy,hbr1⟩
   by_cases c4 : bt s j = 92
   ·rw [(stc_bt hsc 92 (by decide)).2 c4] at S
    cases he : escS (s.drop (j + 1)) with
    | none =>
     have E : ∀ w,Calls Tryz.prog 103 #[.string D,.int .i64 ((j : Int) + 1)] w fun e w' => (∃ a b,e = .returned (.tuple #[.string a,.int .i64 b,.bool false])) ∧ Below w.heap.size w w':=fun w => by
      have:=escape_any s (j + 1) hs w
      rw [HD.out,he] at this
      exact this
     have HX : Hid (xl s j = none):=xl_bad hsc c4 he
     clear hsc hH c4 he
     go_wp2_with (first
      | (go_at_call 103;(with_reducible refine (E _).mono ?_);rintro e w2 ⟨⟨a2,b2,rfl⟩,hb2⟩;have hbr2:=hbr1.trans (hb2.mono hbr1.size))
      | (go_at_call 64;(with_reducible refine (S _).mono ?_);rintro e w1 ⟨rfl,hb1⟩;have hbr1:=hbr.trans (hb1.mono hbr.size))
      | fail)
     go_ret3
     exact ⟨HN.out (by rw [HR.out,HX.out];rfl) _ _,hbr2⟩
    | some pr =>
     obtain ⟨t,r⟩:=pr
     have E : ∀ w,Calls Tryz.prog 103 #[.string D,.int .i64 ((j : Int) + 1)] w fun e w' => e = .returned (.tuple #[.string ⟨t.toArray⟩,.int .i64 ((s.length - r.length : Nat) : Int),.bool true]) ∧ Below w.heap.size w w':=fun w => by
      have:=escape_any s (j + 1) hs w
      rw [HD.out,he] at this
      exact this
     have h5:=escS_facts he
     rw [List.length_drop] at h5
     have HX : Hid (xl s j = (xl s (s.length - r.length)).map fun q => (t ++ q.1,q.2)):=xl_esc hsc c4 he
     have htl : (ByteArray.mk t.toArray).size ≤ 4:=by rw [mk_size];exact h5.1
     have hJ1 : j + 2 ≤ s.length - r.length:=by omega
     have hJ2 : s.length - r.length ≤ s.length:=by omega
     have HTl : Hid (t.length ≤ 4):=h5.1
     clear hsc hH c4 he h5
     generalize hTB : (ByteArray.mk t.toArray) = TB at *
     have HTB : Hid ((ByteArray.mk t.toArray) = TB):=hTB
     clear hTB
     generalize s.length - r.length = J at *
     have ht4:=HTl.out
     go_wp2_with (first
      | (at_builtin;refine Lib.wpList_append_own_string _ rfl _ _ 37 9 rfl w.heap.size 5 i1 Tryz.underlying37 Tryz.underlying9 hi1 hy0 hy1 hy2 _ _ _ rfl hobA TB rfl ?d1 ?d2 ?d3 ?_)
      | (go_at_call 103;(with_reducible refine (E _).mono ?_);rintro e w2 ⟨rfl,hb2⟩;have hbrA:=hbr1.trans (hb2.mono hbr1.size);have hobA:=owns_belowX hob1 hb2)
      | (go_at_call 64;(with_reducible refine (S _).mono ?_);rintro e w1 ⟨rfl,hb1⟩;have hbr1:=hbr.trans (hb1.mono hbr.size);have hob1:=owns_belowX hob hb1)
      | fail)
     case d1 => unfold maxLen;omega
     case d2 => omega
     case d3 => exact hbrA.size
     intro vb2 w4 hob4 hg4 hnil4
     have hbr4 : Below w.heap.size w w4:=hbrA.grown hg4 hbrA.size (own_ge hobA)
     have hnn4 : vb2 ≠ .slice none 0 0:=by first | exact fun e => hnn (hnil4.1 e).1 | exact hnil4
     have HG : Hid (Bytes w4 w.heap.size vb2 (acc ++ t)):=grow_bytes HTB.out hob4
     clear hob4 hg4 hnil4 hobA
     go_wp2
     refine ⟨⟨J,vb2,acc ++ t,rfl,rfl,HG.out,by rw [List.length_append];omega,by omega,hnn4,hbr4,?_⟩,?_⟩
     ·rw [HR.out,HX.out,map_map]
     ·simp [RowKit.intOf]
      omega
   ·have S2:=S
    have y1 : (stC ⟨s.toArray⟩ j == 10) = false:=by simpa using fun e => c1 ((stc_bt hsc 10 (by decide)).1 e)
    have y2 : (stC ⟨s.toArray⟩ j == 13) = false:=by simpa using fun e => c2 ((stc_bt hsc 13 (by decide)).1 e)
    have y3 : (stC ⟨s.toArray⟩ j == 34) = false:=by simpa using fun e => c3 ((stc_bt hsc 34 (by decide)).1 e)
    have y4 : (stC ⟨s.toArray⟩ j == 92) = false:=by simpa using fun e => c4 ((stc_bt hsc 92 (by decide)).1 e)
    have HX : Hid (xl s j = (xl s (j + k)).map fun q => ((s.drop j).take k ++ q.1,q.2)):=xl_raw hsc c1 c2 c3 c4
    have hx:=ext_mk s j k
    rw [HD.out] at hx
    have hxl : (ByteArray.mk ((s.drop j).take k).toArray).size = k:=by rw [mk_size,List.length_take,List.length_drop];omega
    have hxl2 : ((s.drop j).take k).length = k:=by rw [List.length_take,List.length_drop];omega
    have f1 : (j : Int) + (k : Int) ≤ (s.length : Int):=by omega
    have f2 : (j : Int) ≤ (j : Int) + (k : Int):=by omega
    have f3 : j + k ≤ s.length:=by omega
    have f4 : (0 : Int) ≤ (j : Int) + (k : Int):=by omega
    clear hsc hH c1 c2 c3 c4 S
    generalize stC ⟨s.toArray⟩ j = c at *
    have S:=S2
    clear S2
    generalize (s.drop j).take k = x at *
    have HTB : Hid ((ByteArray.mk x.toArray) = D.extract j (j + k)):=hx.symm
    have hxs : (D.extract j (j + k)).size = k:=by rw [hx];exact hxl
    clear hx hxl
    go_wp2_with (first
     | (at_builtin;refine Lib.wpList_append_own_string _ rfl _ _ 37 9 rfl w.heap.size 5 i1 Tryz.underlying37 Tryz.underlying9 hi1 hy0 hy1 hy2 _ _ _ rfl hobA (D.extract j (j + k)) rfl ?d1 ?d2 ?d3 ?_)
     | (go_at_call 64;(with_reducible refine (S _).mono ?_);rintro e w1 ⟨rfl,hb1⟩;have hbrA:=hbr.trans (hb1.mono hbr.size);have hobA:=owns_belowX hob hb1)
     | fail)
    case d1 => unfold maxLen;omega
    case d2 => omega
    case d3 => exact hbrA.size
    intro vb2 w4 hob4 hg4 hnil4
    have hbr4 : Below w.heap.size w w4:=hbrA.grown hg4 hbrA.size (own_ge hobA)
    have hnn4 : vb2 ≠ .slice none 0 0:=by first | exact fun e => hnn (hnil4.1 e).1 | exact hnil4
    have HG : Hid (Bytes w4 w.heap.size vb2 (acc ++ x)):=grow_bytes HTB.out (by rw [hxs];exact hob4)
    clear hob4 hg4 hnil4 hobA
    go_wp2
    refine ⟨⟨j + k,vb2,acc ++ x,congrArg (Value.int .i64) (by omega),rfl,HG.out,by rw [List.length_append];omega,by omega,hnn4,hbr4,?_⟩,?_⟩
    ·rw [HR.out,HX.out,map_map]
    ·simp [RowKit.intOf]
     omega
end
section
open Go Go.RowKit
attribute [local irreducible] srcB
def xrF (s : Bs) : Nat → Nat → Option (Bs × Nat)
 | 0,_ => none
 | n + 1,i => if List.isPrefixOf [92,34,34,34] (s.drop i) then (xrF s n (i + 4)).map fun q => ([34,34,34] ++ q.1,q.2) else if List.isPrefixOf [34,34,34] (s.drop i) then some ([],i + 3) else match srcC s i with
  | none => none
  | some k => (xrF s n (i + k)).map fun q => ((s.drop i).take k ++ q.1,q.2)
theorem pre_pos {s t : Bs} {i : Nat} (h : t.isPrefixOf (s.drop i) = true) : i + t.length ≤ s.length ∨ t = []:=by
 have:=prefix_le h
 rw [List.length_drop] at this
 cases t with
 | nil => exact Or.inr rfl
 | cons c t => left;simp at this ⊢;omega
theorem xrF_fuel (s : Bs) : ∀ (n m i : Nat),s.length - i < n → s.length - i < m → xrF s n i = xrF s m i:=by
 intro n
 induction n with
 | zero => intro m i h;omega
 | succ n ih =>
  intro m i hn hm
  cases m with
  | zero => omega
  | succ m =>
   unfold xrF
   by_cases h4 : List.isPrefixOf [92,34,34,34] (s.drop i) = true
   ·have:=(pre_pos h4).resolve_right (by simp)
    simp only [List.length_cons,List.length_nil] at this
    rw [if_pos h4,if_pos h4,ih m (i + 4) (by omega) (by omega)]
   ·rw [if_neg h4,if_neg h4]
    cases hs : srcC s i with
    | none => rfl
    | some k =>
     have hH:=hs
     rw [srcC_H] at hH
     obtain ⟨k1,k2,_,_⟩:=srcH_facts hH
     rw [List.length_drop] at k2
     simp only
     rw [ih m (i + k) (by omega) (by omega)]
def xr (s : Bs) (i : Nat) : Option (Bs × Nat):=xrF s (s.length - i + 1) i
theorem xr_esc {s : Bs} {i : Nat} (h : List.isPrefixOf [92,34,34,34] (s.drop i) = true) : xr s i = (xr s (i + 4)).map fun q => ([34,34,34] ++ q.1,q.2):=by
 have:=(pre_pos h).resolve_right (by simp)
 simp only [List.length_cons,List.length_nil] at this
 conv => lhs;unfold xr xrF
 rw [if_pos h]
 unfold xr
 rw [xrF_fuel s _ (s.length - (i + 4) + 1) (i + 4) (by omega) (by omega)]
theorem xr_stop {s : Bs} {i : Nat} (h : List.isPrefixOf [92,34,34,34] (s.drop i) = false) (h3 : List.isPrefixOf [34,34,34] (s.drop i) = true) : xr s i = some ([],i + 3):=by
 unfold xr xrF
 rw [if_neg (by rw [h];decide),if_pos h3]
theorem xr_none {s : Bs} {i : Nat} (h : List.isPrefixOf [92,34,34,34] (s.drop i) = false) (h3 : List.isPrefixOf [34,34,34] (s.drop i) = false) (hs : srcC s i = none) : xr s i = none:=by
 unfold xr xrF
 rw [if_neg (by rw [h];decide),if_neg (by rw [h3];decide),hs]
theorem xr_chr {s : Bs} {i k : Nat} (h : List.isPrefixOf [92,34,34,34] (s.drop i) = false) (h3 : List.isPrefixOf [34,34,34] (s.drop i) = false) (hs : srcC s i = some k) : xr s i = (xr s (i + k)).map fun q => ((s.drop i).take k ++ q.1,q.2):=by
 have hH:=hs
 rw [srcC_H] at hH
 obtain ⟨k1,k2,_,_⟩:=srcH_facts hH
 rw [List.length_drop] at k2
 conv => lhs;unfold xr xrF
 rw [if_neg (by rw [h];decide),if_neg (by rw [h3];decide),hs]
 simp only
 unfold xr
 rw [xrF_fuel s _ (s.length - (i + k) + 1) (i + k) (by omega) (by omega)]
def rawC (l : Bs) : Option (Bs × Bs):=(rawS l).bind fun p => if (srcB (ahead l p.2)).isSome then none else some p
theorem rawC_of {l t r : Bs} (h : rawS l = some (t,r)) (hs : srcB (ahead l r) = none) : rawC l = some (t,r):=by
 unfold rawC
 rw [h,Option.bind_some,if_neg (by rw [isSome_iff];simp [hs])]
theorem rawC_bad {l t r : Bs} (h : rawS l = some (t,r)) (hs : ¬ srcB (ahead l r) = none) : rawC l = none:=by
 unfold rawC
 rw [h,Option.bind_some,if_pos (by rw [isSome_iff];exact hs)]
theorem rawC_none {l : Bs} (h : rawS l = none) : rawC l = none:=by unfold rawC;rw [h];rfl
theorem raw_ahead {l t r : Bs} (h : rawS l = some (t,r)) : l = ahead l r ++ r ∧ ahead l r ≠ []:=by
 obtain ⟨x,rfl⟩:=(rawF_facts _ _ _ _ h).1
 have hlt:=rawF_lt _ _ _ _ h
 rw [ahead_app]
 refine ⟨rfl,?_⟩
 rintro rfl
 simp only [List.nil_append] at hlt
 omega
theorem rawC_no {l : Bs} (h : srcH l = none) : rawC l = none:=by
 cases hl : rawS l with
 | none => exact rawC_none hl
 | some p =>
  obtain ⟨t,r⟩:=p
  obtain ⟨e,hne⟩:=raw_ahead hl
  refine rawC_bad hl fun hs => ?_
  obtain ⟨k,hk⟩:=src_first hne hs
  have:=srcH_ext r hk
  rw [← e,h] at this
  cases this
theorem rawC_step {x l y : Bs} (hraw : rawS (x ++ l) = (rawS l).map fun q => (y ++ q.1,q.2)) (hsrc : ∀ m,srcB (x ++ m) = none ↔ srcB m = none) : rawC (x ++ l) = (rawC l).map fun q => (y ++ q.1,q.2):=by
 cases hl : rawS l with
 | none =>
  rw [rawC_none hl,rawC_none (by rw [hraw,hl];rfl)]
  rfl
 | some p =>
  obtain ⟨t,r⟩:=p
  have h2 : rawS (x ++ l) = some (y ++ t,r):=by rw [hraw,hl];rfl
  obtain ⟨e,_⟩:=raw_ahead hl
  have ea : ahead (x ++ l) r = x ++ ahead l r:=by
   conv => lhs;rw [e,← List.append_assoc]
   exact ahead_app _ _
  by_cases hs : srcB (ahead l r) = none
  ·rw [rawC_of hl hs,rawC_of h2 (by rw [ea,hsrc];exact hs)]
   rfl
  ·rw [rawC_bad hl hs,rawC_bad h2 (by rw [ea,hsrc];exact hs)]
   rfl
theorem raw_his : ∀ (x m : Bs),(∀ c ∈ x,128 ≤ c.toNat) → rawS (x ++ m) = (rawS m).map fun q => (x ++ q.1,q.2)
 | [],m,_ => by
  show rawS m = _
  cases rawS m <;> rfl
 | c :: x,m,h => by
  obtain ⟨h1,h2,_,_⟩:=hi_ne (h c List.mem_cons_self)
  show rawS (c :: (x ++ m)) = _
  rw [rawS_chr (by simp [List.isPrefixOf];exact fun e => absurd e.symm h1) (by simp [List.isPrefixOf];exact fun e => absurd e.symm h2),raw_his x m fun d hd => h d (List.mem_cons_of_mem _ hd)]
  cases rawS m <;> rfl
theorem xr_raw (s : Bs) : ∀ (n i : Nat),s.length - i < n → (xrF s n i).map (fun q => (q.1,s.drop q.2)) = rawC (s.drop i):=by
 intro n
 induction n with
 | zero => intro i h;omega
 | succ n ih =>
  intro i hi
  unfold xrF
  by_cases h4 : List.isPrefixOf [92,34,34,34] (s.drop i) = true
  ·have h4l:=(pre_pos h4).resolve_right (by simp)
   simp only [List.length_cons,List.length_nil] at h4l
   rw [if_pos h4]
   obtain ⟨m,hm⟩:=List.isPrefixOf_iff_prefix.1 h4
   have hd : s.drop (i + 4) = m:=by
    rw [← List.drop_drop,← hm]
    rfl
   have ihr:=ih (i + 4) (by omega)
   rw [hd] at ihr
   rw [← hm]
   have hstep:=rawC_step (x:=[92,34,34,34]) (l:=m) (y:=[34,34,34]) (rawS_esc (l:=[92,34,34,34] ++ m) rfl rfl) (fun m => plains_iff _ m (by decide))
   rw [hstep,← ihr]
   cases xrF s n (i + 4) <;> rfl
  ·rw [if_neg h4]
   have h4':=Bool.eq_false_iff.2 h4
   by_cases h3 : List.isPrefixOf [34,34,34] (s.drop i) = true
   ·rw [if_pos h3]
    obtain ⟨m,hm⟩:=List.isPrefixOf_iff_prefix.1 h3
    have hd : s.drop (i + 3) = m:=by
     rw [← List.drop_drop,← hm]
     rfl
    rw [← hm]
    have ha : ahead ([34,34,34] ++ m) m = [34,34,34]:=ahead_app _ _
    rw [rawC_of (rawS_stop (l:=[34,34,34] ++ m) rfl) (by show srcB (ahead ([34,34,34] ++ m) m) = none;rw [ha];exact src_plain _ (by decide))]
    simp [hd]
   ·rw [if_neg h3]
    have h3':=Bool.eq_false_iff.2 h3
    cases hs : srcC s i with
    | none =>
     rw [srcC_H] at hs
     rw [rawC_no hs]
     rfl
    | some k =>
     have hH:=hs
     rw [srcC_H] at hH
     obtain ⟨k1,k2,_,_⟩:=srcH_facts hH
     rw [List.length_drop] at k2
     simp only
     have e:=List.take_append_drop k (s.drop i)
     have hH1 : srcH ((s.drop i).take k) = some k:=srcH_pre (x:=(s.drop i).take k) (r:=(s.drop i).drop k) (by rw [e];exact hH) (by rw [List.length_take,List.length_drop];omega)
     have hraw : rawS ((s.drop i).take k ++ (s.drop i).drop k) = (rawS ((s.drop i).drop k)).map fun q => ((s.drop i).take k ++ q.1,q.2):=by
      rcases srcH_bytes hH with ⟨c,r,hl,hc,rfl,_⟩ | ⟨_,hbig⟩
      ·rw [hl] at h4' h3' ⊢
       exact rawS_chr h3' h4'
      ·exact raw_his _ _ hbig
     have hstep:=rawC_step hraw (hsrc_of hH1 (by rw [List.length_take,List.length_drop];omega))
     rw [e,List.drop_drop] at hstep
     have ihr:=ih (i + k) (by omega)
     rw [hstep,← ihr]
     cases xrF s n (i + k) <;> rfl
set_option maxRecDepth 100000 in
set_option maxHeartbeats 2000000 in
theorem xraw_any (Q : Ending → Prop) (s : Bs) (p : Nat) (hp : p + 3 ≤ s.length) (hs : s.length ≤ 16384) (hyes : ∀ t e,xr s (p + 3) = some (t,e) → Q (.returned (.tuple #[.string ⟨t.toArray⟩,.int .i64 (e : Int),.bool true]))) (hno : xr s (p + 3) = none → ∀ b,Q (.returned (.tuple #[.string ⟨#[]⟩,.int .i64 b,.bool false]))) (w : World) :
  Calls Tryz.prog 69 #[.string ⟨s.toArray⟩,.int .i64 (p : Int)] w fun e w' => Q e ∧ Below w.heap.size w w':=by
 obtain ⟨i1,hi1,hy0,hy1,hy2⟩:=info_parts Tryz.infoByte
 have HY : Hid (∀ t e,xr s (p + 3) = some (t,e) → Q (.returned (.tuple #[.string ⟨t.toArray⟩,.int .i64 (e : Int),.bool true]))):=hyes
 have HN : Hid (xr s (p + 3) = none → ∀ b,Q (.returned (.tuple #[.string ⟨#[]⟩,.int .i64 b,.bool false]))):=hno
 have hD : (ByteArray.mk s.toArray).size = s.length:=rfl
 have s3 : (ByteArray.mk #[34,34,34]).size = 3:=rfl
 clear hyes hno
 generalize hDD : (ByteArray.mk s.toArray) = D at *
 have HD : Hid ((ByteArray.mk s.toArray) = D):=hDD
 clear hDD
 go_enter Tryz.func69,Tryz.ntmps69
 go_wp2
 go_loopw [1,7] (fun i b wr => ∃ (j : Nat) (vb : Value) (acc : Bs),i = .int .i64 (j : Int) ∧ b = vb ∧ TL (xr s) s (p + 3) w wr j vb acc) (fun i _ _ => s.length - (RowKit.intOf i).toNat)
 case atStart => exact ⟨p + 3,_,[],rfl,rfl,own_nobX w,by simp,by omega,by simp,(Below.refl _ _).alloc (Nat.le_refl _) _,map_nil _⟩
 case round =>
  obtain ⟨j,vb,acc,rfl,rfl,hT⟩:=hrel
  obtain ⟨hob,hle,hj,hnn,hbr,hres⟩:=hT
  have HR : Hid (xr s (p + 3) = (xr s j).map fun q => (acc ++ q.1,q.2)):=hres
  clear hres
  obtain ⟨g9,cap9,rfl⟩:=not_noneX hob hnn
  have B4 : ∀ w : World,Calls Tryz.prog 63 #[.string D,.int .i64 (j : Int),.string ⟨#[92,34,34,34]⟩] w fun e w' => e = .returned (.bool (List.isPrefixOf [92,34,34,34] (s.drop j))) ∧ w = w':=fun w => by
   have:=begins_any s j hj hs [92,34,34,34] (by decide) w
   rw [HD.out] at this
   exact this.mono fun _ _ h => ⟨h.1,h.2.symm⟩
  have B3 : ∀ w : World,Calls Tryz.prog 63 #[.string D,.int .i64 (j : Int),.string ⟨#[34,34,34]⟩] w fun e w' => e = .returned (.bool (List.isPrefixOf [34,34,34] (s.drop j))) ∧ w = w':=fun w => by
   have:=begins_any s j hj hs [34,34,34] (by decide) w
   rw [HD.out] at this
   exact this.mono fun _ _ h => ⟨h.1,h.2.symm⟩
  cases h4 : List.isPrefixOf [92,34,34,34] (s.drop j) with
  | true =>
   rw [h4] at B4
   have h5:=(pre_pos h4).resolve_right (by simp)
   simp only [List.length_cons,List.length_nil] at h5
   have HX : Hid (xr s j = (xr s (j + 4)).map fun q => ([34,34,34] ++ q.1,q.2)):=xr_esc h4
   have hbrA:=hbr
   have hobA:=hob
   clear h4 B3
   go_wp2_with (first
    | (at_builtin;refine Lib.wpList_append_own_string _ rfl _ _ 37 9 rfl w.heap.size 5 i1 Tryz.underlying37 Tryz.underlying9 hi1 hy0 hy1 hy2 _ _ _ rfl hobA ⟨#[34,34,34]⟩ rfl ?d1 ?d2 ?d3 ?_)
    | (go_at_call 63;(with_reducible refine (B4 _).mono ?_);rintro e w0 ⟨rfl,rfl⟩)
    | fail)
   case d1 => unfold maxLen;omega
   case d2 => omega
   case d3 => exact hbrA.size
   intro vb2 w4 hob4 hg4 hnil4
   have hbr4 : Below w.heap.size w w4:=hbrA.grown hg4 hbrA.size (own_ge hobA)
   have hnn4 : vb2 ≠ .slice none 0 0:=by first | exact fun e => hnn (hnil4.1 e).1 | exact hnil4
   have HG : Hid (Bytes w4 w.heap.size vb2 (acc ++ [34,34,34])):=grow_bytes (t:=[34,34,34]) rfl (by first | exact hob4 | (rw [s3];exact hob4))
   clear hob4 hg4 hnil4 hobA
   go_wp2
   refine ⟨⟨j + 4,vb2,acc ++ [34,34,34],congrArg (Value.int .i64) (by omega),rfl,HG.out,by rw [List.length_append];simp;omega,by omega,hnn4,hbr4,?_⟩,?_⟩
   ·rw [HR.out,HX.out,map_map]
   ·simp [RowKit.intOf]
    omega
  | false =>
   rw [h4] at B4
   cases h3 : List.isPrefixOf [34,34,34] (s.drop j) with
   | true =>
    rw [h3] at B3
    have HX : Hid (xr s j = some ([],j + 3)):=xr_stop h4 h3
    have hcv:=conv_row hob
    have h5:=(pre_pos h3).resolve_right (by simp)
    simp only [List.length_cons,List.length_nil] at h5
    clear h4 h3
    generalize hAB : (ByteArray.mk acc.toArray) = AB at *
    have HAB : Hid ((ByteArray.mk acc.toArray) = AB):=hAB
    clear hAB
    go_wp2_with (first
     | (go_at_call 63;(with_reducible refine (B3 _).mono ?_);rintro e w0 ⟨rfl,rfl⟩)
     | (go_at_call 63;(with_reducible refine (B4 _).mono ?_);rintro e w0 ⟨rfl,rfl⟩)
     | fail)
    go_ret3
    have hy:=HY.out acc (j + 3) (by rw [HR.out,HX.out];simp)
    rw [HAB.out] at hy
    exact ⟨hy,hbr⟩
   | false =>
    rw [h3] at B3
    cases hsc : srcC s j with
    | none =>
     have S : ∀ w,Calls Tryz.prog 64 #[.string D,.int .i64 (j : Int)] w fun e w' => e = .returned (.tuple #[.int .i64 0,.int .i64 0]) ∧ Below w.heap.size w w':=fun w => by
      have:=source_no s j hs hsc w
      rw [HD.out] at this
      exact this
     have HX : Hid (xr s j = none):=xr_none h4 h3 hsc
     clear hsc h4 h3
     go_wp2_with (first
      | (go_at_call 64;(with_reducible refine (S _).mono ?_);rintro e w1 ⟨rfl,hb1⟩;have hbr1:=hbr.trans (hb1.mono hbr.size);have hob1:=owns_belowX hob hb1)
      | (go_at_call 63;(with_reducible refine (B3 _).mono ?_);rintro e w0 ⟨rfl,rfl⟩)
      | (go_at_call 63;(with_reducible refine (B4 _).mono ?_);rintro e w0 ⟨rfl,rfl⟩)
      | fail)
     go_ret3
     exact ⟨HN.out (by rw [HR.out,HX.out];rfl) _,hbr1⟩
    | some k =>
     have S : ∀ w,Calls Tryz.prog 64 #[.string D,.int .i64 (j : Int)] w fun e w' => e = .returned (.tuple #[.int .i64 (stC ⟨s.toArray⟩ j),.int .i64 (k : Int)]) ∧ Below w.heap.size w w':=fun w => by
      have:=source_yes s j k hs hsc w
      rw [HD.out] at this ⊢
      exact this
     have hH:=hsc
     rw [srcC_H] at hH
     obtain ⟨k1,k2,_,_⟩:=srcH_facts hH
     rw [List.length_drop] at k2
     have x0 : ((k : Int) == 0) = false:=by simp;omega
     have x00 : (k == 0) = false:=by simp;omega
     have HX : Hid (xr s j = (xr s (j + k)).map fun q => ((s.drop j).take k ++ q.1,q.2)):=xr_chr h4 h3 hsc
     have hx:=ext_mk s j k
     rw [HD.out] at hx
     have hxl : (ByteArray.mk ((s.drop j).take k).toArray).size = k:=by rw [mk_size,List.length_take,List.length_drop];omega
     have hxl2 : ((s.drop j).take k).length = k:=by rw [List.length_take,List.length_drop];omega
     have f1 : (j : Int) + (k : Int) ≤ (s.length : Int):=by omega
     have f2 : (j : Int) ≤ (j : Int) + (k : Int):=by omega
     have f3 : j + k ≤ s.length:=by omega
     have f4 : (0 : Int) ≤ (j : Int) + (k : Int):=by omega
     clear hsc hH h4 h3
     generalize stC ⟨s.toArray⟩ j = c at *
     generalize (s.drop j).take k = x at *
     have HTB : Hid ((ByteArray.mk x.toArray) = D.extract j (j + k)):=hx.symm
     have hxs : (D.extract j (j + k)).size = k:=by rw [hx];exact hxl
     clear hx hxl
     go_wp2_with (first
      | (at_builtin;refine Lib.wpList_append_own_string _ rfl _ _ 37 9 rfl w.heap.size 5 i1 Tryz.underlying37 Tryz.underlying9 hi1 hy0 hy1 hy2 _ _ _ rfl hobA (D.extract j (j + k)) rfl ?d1 ?d2 ?d3 ?_)
      | (go_at_call 64;(with_reducible refine (S _).mono ?_);rintro e w1 ⟨rfl,hb1⟩;have hbrA:=hbr.trans (hb1.mono hbr.size);have hobA:=owns_belowX hob hb1)
      | (go_at_call 63;(with_reducible refine (B3 _).mono ?_);rintro e w0 ⟨rfl,rfl⟩)
      | (go_at_call 63;(with_reducible refine (B4 _).mono ?_);rintro e w0 ⟨rfl,rfl⟩)
      | fail)
     case d1 => unfold maxLen;omega
     case d2 => omega
     case d3 => exact hbrA.size
     intro vb2 w4 hob4 hg4 hnil4
     have hbr4 : Below w.heap.size w w4:=hbrA.grown hg4 hbrA.size (own_ge hobA)
     have hnn4 : vb2 ≠ .slice none 0 0:=by first | exact fun e => hnn (hnil4.1 e).1 | exact hnil4
     have HG : Hid (Bytes w4 w.heap.size vb2 (acc ++ x)):=grow_bytes HTB.out (by rw [hxs];exact hob4)
     clear hob4 hg4 hnil4 hobA
     go_wp2
     refine ⟨⟨j + k,vb2,acc ++ x,congrArg (Value.int .i64) (by omega),rfl,HG.out,by rw [List.length_append];omega,by omega,hnn4,hbr4,?_⟩,?_⟩
     ·rw [HR.out,HX.out,map_map]
     ·simp [RowKit.intOf]
      omega
end
section
open Go Go.RowKit
attribute [local irreducible] srcB
structure LineAt (s : Bs) (j : Nat) (L rest : Bs) : Prop where
 cut : s.drop j = L ++ rest
 head : ∃ body,L = 35 :: body
 none : ∀ c ∈ L,endL.contains c = false
 stop : ∀ c m,rest = c :: m → endL.contains c = true
theorem line_of {s : Bs} {j : Nat} {m : Bs} (h : s.drop j = 35 :: m) : ∃ L rest,LineAt s j L rest:=by
 obtain ⟨p,h1,h2,h3⟩:=spanN_all endL m
 refine ⟨35 :: p,spanN endL m,?_,⟨p,rfl⟩,?_,h3⟩
 ·rw [h,List.cons_append,← h1]
 ·intro c hc
  rcases List.mem_cons.1 hc with rfl | hc
  ·rfl
  ·exact h2 c hc
theorem line_same {s : Bs} {j : Nat} {L rest : Bs} (h : LineAt s j L rest) (o : Nat) (ho : o < L.length) : srcC s (j + o) = srcC L o:=by
 have e : s.drop (j + o) = L.drop o ++ rest:=by
  rw [← List.drop_drop,h.cut,drop_app1 o (by omega)]
 rw [srcC_H,srcC_H,e]
 cases hs : srcH (L.drop o) with
 | some k => exact srcH_ext rest hs
 | none =>
  cases hs2 : srcH (L.drop o ++ rest) with
  | none => rfl
  | some k =>
   exfalso
   have hk : k ≤ (L.drop o).length:=by
    obtain ⟨k1,k2,_,_⟩:=srcH_facts hs2
    rcases srcH_bytes hs2 with ⟨c,r,_,_,rfl,_⟩ | ⟨_,hbig⟩
    ·rw [List.length_drop];omega
    ·rcases Nat.lt_or_ge (L.drop o).length k with hlt | hge
     ·exfalso
      cases hr : rest with
      | nil =>
       rw [hr,List.append_nil] at k2
       omega
      | cons c m =>
       have hc:=h.stop c m hr
       have hm : c ∈ (L.drop o ++ rest).take k:=by
        rw [hr,List.take_append]
        refine List.mem_append_right _ ?_
        obtain ⟨q,hq⟩ : ∃ q,k - (L.drop o).length = q + 1:=⟨k - (L.drop o).length - 1,by omega⟩
        rw [hq]
        exact List.mem_cons_self
       have:=hbig c hm
       have hc2 : c = 10 ∨ c = 13:=by simpa [endL] using hc
       rcases hc2 with rfl | rfl
       ·exact absurd this (by decide)
       ·exact absurd this (by decide)
     ·exact hge
   rw [srcH_pre hs2 hk] at hs
   cases hs
theorem sF_some {L : Bs} {o k : Nat} (h : srcC L o = some k) : sF ⟨L.toArray⟩ o = sF ⟨L.toArray⟩ (o + k):=by
 unfold srcC at h
 split at h
 ·rename_i hc
  have hk : stW ⟨L.toArray⟩ o = k:=by simpa using h
  rw [sF_step _ _ (by rw [mk_size];exact hc.1),if_pos hc.2,hk]
 ·cases h
theorem sF_bad {L : Bs} {o : Nat} (ho : o < L.length) (h : srcC L o = none) : sF ⟨L.toArray⟩ o = ((o : Int),10):=by
 unfold srcC at h
 split at h
 ·cases h
 ·rename_i hc
  rw [sF_step _ _ (by rw [mk_size];exact ho),if_neg (fun e => hc ⟨ho,e⟩)]
theorem com_end {s : Bs} {j : Nat} {L rest : Bs} (h : LineAt s j L rest) (hs : sF ⟨L.toArray⟩ 0 = sF ⟨L.toArray⟩ L.length) : skipS (s.drop j) = skipS rest:=by
 obtain ⟨body,hb⟩:=h.head
 have hn : srcB L = none:=by
  rw [src_iff,hs]
  exact sF_end _ _ (by rw [mk_size];omega)
 rw [h.cut]
 have hb1 : ∀ c ∈ body,endL.contains c = false:=fun c hc => h.none c (by rw [hb];exact List.mem_cons_of_mem _ hc)
 have:=com_make hb1 h.stop (by rw [← hb];exact hn)
 rw [hb]
 exact skip_com this
theorem com_bad {s : Bs} {j o : Nat} {L rest : Bs} (h : LineAt s j L rest) (hs : sF ⟨L.toArray⟩ 0 = ((o : Int),10)) : skipS (s.drop j) = .inr ((s.drop j).length - o):=by
 obtain ⟨body,hb⟩:=h.head
 have hn : srcB L = some o:=by
  have h' : sourceS ⟨L.toArray⟩ = ((o : Int),10):=hs
  unfold srcB
  rw [h']
  rfl
 have hc : comS (s.drop j) = some (.inr o):=by
  rw [h.cut,hb]
  have hb1 : ∀ c ∈ body,endL.contains c = false:=fun c hc => h.none c (by rw [hb];exact List.mem_cons_of_mem _ hc)
  have e : spanN endL (body ++ rest) = rest:=by
   rw [spanN_app endL body rest hb1]
   cases hr : rest with
   | nil => rfl
   | cons c m => exact spanN_stop endL c m (h.stop c m hr)
  unfold comS
  rw [if_pos (by rfl)]
  simp only [List.cons_append,List.drop_succ_cons,List.drop_zero]
  rw [e,show ahead (35 :: (body ++ rest)) rest = 35 :: body from ahead_app (35 :: body) rest,← hb,hn]
 exact skip_bad hc
set_option maxRecDepth 100000 in
set_option maxHeartbeats 2000000 in
theorem xskip_any (Q : Ending → Prop) (s : Bs) (p : Nat) (hp : p ≤ s.length) (hs : s.length ≤ 16384) (hyes : ∀ m,skipS (s.drop p) = .inl m → Q (.returned (.tuple #[.int .i64 ((s.length - m.length : Nat) : Int),.bool true]))) (hno : ∀ k,skipS (s.drop p) = .inr k → Q (.returned (.tuple #[.int .i64 ((s.length - k : Nat) : Int),.bool false]))) (w : World) :
  Calls Tryz.prog 38 #[.string ⟨s.toArray⟩,.int .i64 (p : Int)] w fun e w' => Q e ∧ Below w.heap.size w w':=by
 have HY : Hid (∀ m,skipS (s.drop p) = .inl m → Q (.returned (.tuple #[.int .i64 ((s.length - m.length : Nat) : Int),.bool true]))):=hyes
 have HN : Hid (∀ k,skipS (s.drop p) = .inr k → Q (.returned (.tuple #[.int .i64 ((s.length - k : Nat) : Int),.bool false]))):=hno
 have hD : (ByteArray.mk s.toArray).size = s.length:=rfl
 have ix : ∀ (q : Nat) (hh : q < (ByteArray.mk s.toArray).size),(((ByteArray.mk s.toArray)[q]'hh).toNat : Int) = bt s q:=fun q hh => by
  unfold bt
  have e : (ByteArray.mk s.toArray)[q]'hh = s.getD q 0:=by
   show s.toArray[q]'hh = _
   have : q < s.length:=hh
   simp [List.getD,this]
  rw [e]
 clear hyes hno
 generalize hDD : (ByteArray.mk s.toArray) = D at *
 have HD : Hid ((ByteArray.mk s.toArray) = D):=hDD
 clear hDD
 go_enter Tryz.func38,Tryz.ntmps38
 go_wp2
 go_loopw [1] (fun i wr => ∃ (j : Nat),i = .int .i64 (j : Int) ∧ j ≤ s.length ∧ skipS (s.drop j) = skipS (s.drop p) ∧ Below w.heap.size w wr) (fun i _ => s.length - (RowKit.intOf i).toNat)
 case atStart => exact ⟨p,rfl,hp,rfl,Below.refl _ _⟩
 case round =>
  obtain ⟨j,rfl,hj,hsk,hbr⟩:=hrel
  by_cases hlt : j < s.length
  ·have hltI : (j : Int) < (s.length : Int):=by omega
   have i0:=ix j
   cases hl : s.drop j with
   | nil =>
    exfalso
    have:=congrArg List.length hl
    rw [List.length_drop] at this
    simp at this
    omega
   | cons x r =>
    have hb:=bt_drop s j x r hl
    have hr : s.drop (j + 1) = r:=by
     have:=congrArg (List.drop 1) hl
     rw [List.drop_drop] at this
     exact this
    rw [hl] at hsk
    by_cases hig : ignL.contains x = true
    ·have HSk : Hid (skipS (s.drop (j + 1)) = skipS (s.drop p)):=by
      show _ = _
      rw [hr,← hsk,skip_one hig]
     have hx : x = 9 ∨ x = 32 ∨ x = 10 ∨ x = 13 ∨ x = 44:=by simpa [ignL] using hig
     clear hsk hig hr
     have hdec:=hb
     rcases hx with rfl | rfl | rfl | rfl | rfl
     ·rw [show (((9 : UInt8).toNat : Nat) : Int) = 9 from rfl] at hb
      clear hl hdec i0
      go_wp2_with fail
      refine ⟨⟨j + 1,congrArg (Value.int .i64) (by omega),by omega,HSk.out,hbr⟩,?_⟩
      simp [RowKit.intOf]
      omega
     ·rw [show (((32 : UInt8).toNat : Nat) : Int) = 32 from rfl] at hb
      clear hl hdec i0
      go_wp2_with fail
      refine ⟨⟨j + 1,congrArg (Value.int .i64) (by omega),by omega,HSk.out,hbr⟩,?_⟩
      simp [RowKit.intOf]
      omega
     ·rw [show (((10 : UInt8).toNat : Nat) : Int) = 10 from rfl] at hb
      clear hl hdec i0
      go_wp2_with fail
      refine ⟨⟨j + 1,congrArg (Value.int .i64) (by omega),by omega,HSk.out,hbr⟩,?_⟩
      simp [RowKit.intOf]
      omega
     ·rw [show (((13 : UInt8).toNat : Nat) : Int) = 13 from rfl] at hb
      clear hl hdec i0
      go_wp2_with fail
      refine ⟨⟨j + 1,congrArg (Value.int .i64) (by omega),by omega,HSk.out,hbr⟩,?_⟩
      simp [RowKit.intOf]
      omega
     ·rw [show (((44 : UInt8).toNat : Nat) : Int) = 44 from rfl] at hb
      clear hl hdec i0
      go_wp2_with fail
      refine ⟨⟨j + 1,congrArg (Value.int .i64) (by omega),by omega,HSk.out,hbr⟩,?_⟩
      simp [RowKit.intOf]
      omega
    ·have hne : ∀ v : UInt8,ignL.contains v = true → bt s j ≠ (v.toNat : Int):=fun v hv e => by
      rw [hb] at e
      have : x = v:=by apply UInt8.toNat_inj.1;omega
      rw [this] at hig
      exact hig hv
     have n9 : (bt s j == 9) = false:=by simpa using hne 9 rfl
     have n32 : (bt s j == 32) = false:=by simpa using hne 32 rfl
     have n10 : (bt s j == 10) = false:=by simpa using hne 10 rfl
     have n13 : (bt s j == 13) = false:=by simpa using hne 13 rfl
     have n44 : (bt s j == 44) = false:=by simpa using hne 44 rfl
     have BB : ∀ w : World,Calls Tryz.prog 63 #[.string D,.int .i64 (j : Int),.string ⟨#[239,187,191]⟩] w fun e w' => e = .returned (.bool (List.isPrefixOf [239,187,191] (x :: r))) ∧ w = w':=fun w => by
      have:=begins_any s j hj hs [239,187,191] (by decide) w
      rw [HD.out,hl] at this
      exact this.mono fun _ _ h => ⟨h.1,h.2.symm⟩
     cases hbom : List.isPrefixOf [239,187,191] (x :: r) with
     | true =>
      rw [hbom] at BB
      obtain ⟨m,hm⟩:=List.isPrefixOf_iff_prefix.1 hbom
      have hm2 : x :: r = 239 :: 187 :: 191 :: m:=hm.symm
      have h3 : s.drop (j + 3) = m:=by
       rw [← List.drop_drop,hl,hm2]
       rfl
      have h3l : j + 3 ≤ s.length:=by
       have:=congrArg List.length (hl.trans hm2)
       rw [List.length_drop] at this
       simp at this
       omega
      have HSk : Hid (skipS (s.drop (j + 3)) = skipS (s.drop p)):=by
       show _ = _
       rw [h3,← hsk,hm2,skip_bom]
      clear hsk hig hr hb hl hne hbom hm hm2 h3
      go_wp2_with (first
       | (go_at_call 63;(with_reducible refine (BB _).mono ?_);rintro e w0 ⟨rfl,rfl⟩)
       | fail)
      refine ⟨⟨j + 3,congrArg (Value.int .i64) (by omega),by omega,HSk.out,hbr⟩,?_⟩
      simp [RowKit.intOf]
      omega
     | false =>
      rw [hbom] at BB
      by_cases h35 : x = 35
      ·subst h35
       have hb35 : bt s j = 35:=hb
       obtain ⟨L,rest,hLA⟩:=line_of hl
       have hLl : j + L.length + rest.length = s.length:=by
        have:=congrArg List.length hLA.cut
        rw [List.length_drop,List.length_append] at this
        omega
       have hL1 : 1 ≤ L.length:=by
        obtain ⟨body,hbd⟩:=hLA.head
        rw [hbd]
        simp
       have HL : Hid (LineAt s j L rest):=hLA
       have HSk : Hid (skipS (s.drop j) = skipS (s.drop p)):=by
        show _ = _
        rw [hl]
        exact hsk
       have hjb : ∀ o,o < L.length → bt s (j + o) ≠ 10 ∧ bt s (j + o) ≠ 13:=by
        intro o ho
        have e : s.getD (j + o) 0 = L.getD o 0:=by
         rw [← drop_get s j o,hLA.cut]
         simp [List.getD,List.getElem?_append_left ho]
        have hm : L.getD o 0 ∈ L:=by
         simp [List.getD,ho]
        have hn:=hLA.none _ hm
        have e2 : bt s (j + o) = ((L.getD o 0).toNat : Int):=by unfold bt;rw [e]
        rw [e2]
        constructor
        ·intro h
         have : L.getD o 0 = 10:=by apply UInt8.toNat_inj.1;show _ = 10;omega
         rw [this] at hn
         cases hn
        ·intro h
         have : L.getD o 0 = 13:=by apply UInt8.toNat_inj.1;show _ = 13;omega
         rw [this] at hn
         cases hn
       have hje : j + L.length < s.length → bt s (j + L.length) = 10 ∨ bt s (j + L.length) = 13:=by
        intro h
        cases hr2 : rest with
        | nil => rw [hr2] at hLl;simp at hLl;omega
        | cons c m =>
         have hst:=hLA.stop c m hr2
         have e : s.drop (j + L.length) = c :: m:=by
          rw [← List.drop_drop,hLA.cut,List.drop_left' rfl,hr2]
         rw [bt_drop s _ c m e]
         have : c = 10 ∨ c = 13:=by simpa [endL] using hst
         rcases this with rfl | rfl
         ·left;rfl
         ·right;rfl
       clear hsk hig hr hb hl hne hbom n9 n32 n10 n13 n44 hLA i0
       go_wp2_with (first
        | (go_at_call 63;(with_reducible refine (BB _).mono ?_);rintro e w0 ⟨rfl,rfl⟩)
        | fail)
       generalize wr = wB at *
       go_loopw [1] (fun i wr => ∃ (o : Nat),i = .int .i64 ((j + o : Nat) : Int) ∧ o ≤ L.length ∧ sF ⟨L.toArray⟩ 0 = sF ⟨L.toArray⟩ o ∧ Below w.heap.size w wr) (fun i _ => s.length - (RowKit.intOf i).toNat)
       case atStart => exact ⟨0,rfl,by omega,rfl,hbr⟩
       case round =>
        obtain ⟨o,rfl,ho,hsf,hbr2⟩:=hrel
        have hcast : ((j + o : Nat) : Int) = (j : Int) + (o : Int):=by omega
        by_cases hol : o < L.length
        ·have hlt2 : j + o < s.length:=by omega
         have hlt3 : ((j + o : Nat) : Int) < (s.length : Int):=by omega
         obtain ⟨g1,g2⟩:=hjb o hol
         have n1 : (bt s (j + o) != 10) = true:=by simpa using g1
         have n2 : (bt s (j + o) != 13) = true:=by simpa using g2
         have i1:=ix (j + o)
         have hsame:=line_same HL.out o hol
         cases hsc : srcC s (j + o) with
         | none =>
          have S : ∀ w,Calls Tryz.prog 64 #[.string D,.int .i64 ((j + o : Nat) : Int)] w fun e w' => e = .returned (.tuple #[.int .i64 0,.int .i64 0]) ∧ Below w.heap.size w w':=fun w => by
           have:=source_no s (j + o) hs hsc w
           rw [HD.out] at this
           exact this
          have HX : Hid (skipS (s.drop p) = .inr ((s.drop j).length - o)):=by
           show _ = _
           rw [← HSk.out]
           exact com_bad HL.out (hsf.trans (sF_bad hol (hsame.symm.trans hsc)))
          clear hsc hsame hjb hje hsf g1 g2 hcast
          generalize hJ : j + o = J at *
          have HJ : Hid (j + o = J):=hJ
          clear hJ
          go_wp2_with (first
           | (go_at_call 64;(with_reducible refine (S _).mono ?_);rintro e w3 ⟨rfl,hb3⟩;have hbr3:=hbr2.trans (hb3.mono hbr2.size))
           | fail)
          go_ret2
          have hn:=HN.out _ HX.out
          rw [List.length_drop,show s.length - (s.length - j - o) = J by have:=HJ.out;omega] at hn
          exact ⟨hn,hbr3⟩
         | some k =>
          have S : ∀ w,Calls Tryz.prog 64 #[.string D,.int .i64 ((j + o : Nat) : Int)] w fun e w' => e = .returned (.tuple #[.int .i64 (stC ⟨s.toArray⟩ (j + o)),.int .i64 (k : Int)]) ∧ Below w.heap.size w w':=fun w => by
           have:=source_yes s (j + o) k hs hsc w
           rw [HD.out] at this ⊢
           exact this
          have hk:=hsame.symm.trans hsc
          have hH:=hk
          rw [srcC_H] at hH
          obtain ⟨k1,k2,_,_⟩:=srcH_facts hH
          rw [List.length_drop] at k2
          have x0 : ((k : Int) == 0) = false:=by simp;omega
          have x00 : (k == 0) = false:=by simp;omega
          have HX : Hid (sF ⟨L.toArray⟩ 0 = sF ⟨L.toArray⟩ (o + k)):=hsf.trans (sF_some hk)
          clear hsc hsame hjb hje hsf g1 g2 hcast hk hH
          generalize stC ⟨s.toArray⟩ (j + o) = c2 at *
          generalize hJ : j + o = J at *
          have HJ : Hid (j + o = J):=hJ
          clear hJ
          go_wp2_with (first
           | (go_at_call 64;(with_reducible refine (S _).mono ?_);rintro e w3 ⟨rfl,hb3⟩;have hbr3:=hbr2.trans (hb3.mono hbr2.size))
           | fail)
          have hJ2:=HJ.out
          refine ⟨⟨o + k,congrArg (Value.int .i64) (by omega),by omega,HX.out,hbr3⟩,?_⟩
          simp [RowKit.intOf]
          omega
        ·obtain rfl : o = L.length:=by omega
         have HX : Hid (skipS (s.drop (j + L.length)) = skipS (s.drop p)):=by
          show _ = _
          have e : s.drop (j + L.length) = rest:=by rw [← List.drop_drop,HL.out.cut,List.drop_left' rfl]
          rw [e,← com_end HL.out hsf]
          exact HSk.out
         have hJs : j + L.length ≤ s.length:=by omega
         have hJ1 : j + 1 ≤ j + L.length:=by omega
         by_cases hlt2 : j + L.length < s.length
         ·have hlt3 : ((j + L.length : Nat) : Int) < (s.length : Int):=by omega
          have i1:=ix (j + L.length)
          have he:=hje hlt2
          clear hjb hje hsf hcast
          generalize j + L.length = J at *
          rcases he with he | he
          ·go_wp2_with fail
           refine ⟨⟨J,rfl,hJs,HX.out,hbr2⟩,?_⟩
           simp [RowKit.intOf]
           omega
          ·go_wp2_with fail
           refine ⟨⟨J,rfl,hJs,HX.out,hbr2⟩,?_⟩
           simp [RowKit.intOf]
           omega
         ·have hlt3 : ¬ ((j + L.length : Nat) : Int) < (s.length : Int):=by omega
          clear hjb hje hsf hcast
          generalize j + L.length = J at *
          go_wp2_with fail
          refine ⟨⟨J,rfl,hJs,HX.out,hbr2⟩,?_⟩
          simp [RowKit.intOf]
          omega
      ·have n35 : (bt s j == 35) = false:=by
        have : bt s j ≠ 35:=fun e => h35 (by rw [hb] at e;apply UInt8.toNat_inj.1;show _ = 35;omega)
        simpa using this
       have HX : Hid (skipS (s.drop p) = .inl (x :: r)):=by
        show _ = _
        rw [← hsk]
        have hc : comS (x :: r) = none:=by
         unfold comS
         rw [if_neg (by simp [List.isPrefixOf];exact fun e => h35 e.symm)]
        rw [skipS_com (l:=x :: r) (Bool.eq_false_iff.2 hig) hbom,hc]
       have hlen : s.length - (x :: r).length = j:=by
        have:=congrArg List.length hl
        rw [List.length_drop] at this
        omega
       have HLn : Hid (s.length - (x :: r).length = j):=hlen
       clear hsk hig hr hb hl hne hbom hlen
       go_wp2_with (first
        | (go_at_call 63;(with_reducible refine (BB _).mono ?_);rintro e w0 ⟨rfl,rfl⟩)
        | fail)
       go_ret2
       have hy:=HY.out _ HX.out
       rw [HLn.out] at hy
       exact ⟨hy,hbr⟩
  ·have hltI : ¬ (j : Int) < (s.length : Int):=by omega
   have HX : Hid (skipS (s.drop p) = .inl []):=by
    show _ = _
    rw [← hsk,List.drop_eq_nil_of_le (by omega),skip_nil]
   have hlen : s.length - ([] : Bs).length = j:=by simp;omega
   have HLn : Hid (s.length - ([] : Bs).length = j):=hlen
   clear hsk hlen
   go_wp2_with fail
   go_ret2
   have hy:=HY.out _ HX.out
   rw [HLn.out] at hy
   exact ⟨hy,hbr⟩
end
end Go.Proofs.YtgppemlciohjcaaGreatDoor
