/- The bytes of two rows of parts, one behind the other, are those of all of them: the walk of the statement. -/
import Derived.Test.YtghneolphdfdlaaDoorJoin
namespace Go.Proofs.YtghneolphdfdlaaDoor
open Go Go.RowKit

theorem app_below1 {w w1 : World} {t : TypeId} (h : (w.alloc (.cells #[] t)).grownBy w1 (Value.ownBlock (.slice (some ⟨w.heap.size, 0, none⟩) 0 0))) : Below w.heap.size w w1 :=
  ((Below.refl w.heap.size w).alloc (Nat.le_refl _) _).grown h (by simp) (by simp [Value.ownBlock])
theorem app_below2 {w w1 w2 : World} {v : Value} {ps : List Pt} (h : Below w.heap.size w w1) (ho : Parts w1 w.heap.size v ps) (hg : w1.grownBy w2 v.ownBlock) : Below w.heap.size w w2 := h.grown hg h.size (own_ge ho)
theorem seven {w w2 w3 w4 w5 w6 : World} (h2 : Below w.heap.size w w2) (h3 : Below w2.heap.size w2 w3) (h4 : Below w3.heap.size w3 w4) (h5 : Below w4.heap.size w4 w5) (h6 : Below w5.heap.size w5 w6) : Below w.heap.size w w6 := by
  have a := h2.trans (h3.mono h2.size)
  have b := a.trans (h4.mono a.size)
  have c := b.trans (h5.mono b.size)
  exact c.trans (h6.mono c.size)
theorem Sliced.two {v : Value} (h : Sliced v) : Sliced v := h

set_option maxHeartbeats 300000 in
theorem join_no1 (v u : Value) (ps qs : List Pt) (w : World) (hp : PartsAt w v ps) (hq : PartsAt w u qs) (sv : Sliced v) (su : Sliced u) (wp : Words ps) (wq : Words qs) (hM : SomeMax w) (hl : ps.length ≤ 1048576) (hl2 : qs.length ≤ 1048576) (h1 : keyB ps = false) :
    Calls Tryd.prog 8 #[v, u] w fun e w' => e = .returned (.bool true) ∧ Below w.heap.size w w' := by
  have hp0 : PartsAt (w.alloc (.cells #[] 34)) v ps := hp.below ((Below.refl _ _).alloc (Nat.le_refl _) _)
  obtain ⟨rs, has0⟩ : ∃ rs : List Pt, rs = ps ++ qs := ⟨_, rfl⟩
  have has : Hid (rs = ps ++ qs) := has0
  have wpq : Words rs := by rw [has0]; exact fun p h => (List.mem_append.1 h).elim (wp p) (wq p)
  have h3 : keyB rs = false := by rw [has0, keyB_app, h1]; rfl
  have E1 := fun w1 (h : PartsAt w1 v ps) (_ : SomeMax w1) => encode_no v ps w1 h wp h1
  have E3 := fun v1 w1 (h : PartsAt w1 v1 rs) (_ : SomeMax w1) => encode_no v1 rs w1 h wpq h3
  obtain ⟨S2, c2, E2⟩ : ∃ (S2 : ByteArray) (c2 : Int), ∀ w1, PartsAt w1 u qs → SomeMax w1 → Calls Tryd.prog 9 #[u] w1 fun e w' => e = .returned (.tuple #[.string S2, .int .i64 c2]) ∧ Below w1.heap.size w1 w' := by
    cases h2 : keyB qs
    · exact ⟨_, _, fun w1 h _ => encode_no u qs w1 h wq h2⟩
    · exact ⟨_, _, fun w1 h hM => encode_yes u qs w1 h wq hM h2⟩
  clear h1 h3 has0
  go_enter Tryd.func8, Tryd.ntmps8
  go_wp2_with (first
    | (at_builtin; refine wp_app_parts rfl _ _ rfl w.heap.size v1 u ps qs rfl rfl ho1 hq1 su hb1.size (by omega) ?_; intro v2 w2 ho2 hg2; rw [← has.out] at ho2; have hb2 := app_below2 hb1 ho1 hg2)
    | (at_builtin; refine wp_app_parts rfl _ _ rfl w.heap.size _ v [] ps rfl rfl (owns_empty4 w) hp0 sv (by simp) (by simp; omega) ?_; intro v1 w1 ho1 hg1; have hb1 := app_below1 hg1; have hq1 := hq.below hb1))
  have HP2 := own_hid ho2
  have hp2 := hp.below hb2
  have hq2 := hq.below hb2
  have hM2 := maxB hM hb2
  have hz2 := hb2.size
  clear hg1 hg2 ho1 hq1 hp0
  rcases ho2.2 with ⟨rfl, hnil⟩ | ⟨g, cap, cur, rfl, hgg, hh, hr⟩
  all_goals
    go_wp2_with (first
      | (go_at_call 9; with_reducible refine (E1 _ hp2 hM2).mono ?_; rintro e w3 ⟨rfl, hb3⟩; have hM3 := maxB hM2 hb3; have hq3 := hq2.below hb3; have HP3 := own_hid (owns_below HP2.out hb3))
      | (go_at_call 9; with_reducible refine (E2 _ hq3 hM3).mono ?_; rintro e w4 ⟨rfl, hb4⟩; have hM4 := maxB hM3 hb4; have HP4 := own_hid (owns_below HP3.out hb4))
      | (go_at_call 9; have E3' := E3 _ _ (parts_of_own HP4.out) hM4; with_reducible refine E3'.mono ?_; rintro e w5 ⟨rfl, hb5⟩; have hM5 := maxB hM4 hb5)
      | (go_at_call 11; with_reducible refine (fixed_any _ hM5).mono ?_; rintro e w6 ⟨rfl, hb6⟩))
    go_ret
    exact ⟨rfl, seven hb2 hb3 hb4 hb5 hb6⟩
set_option maxHeartbeats 300000 in
theorem join_no2 (v u : Value) (ps qs : List Pt) (w : World) (hp : PartsAt w v ps) (hq : PartsAt w u qs) (sv : Sliced v) (su : Sliced u) (wp : Words ps) (wq : Words qs) (hM : SomeMax w) (hl : ps.length ≤ 1048576) (hl2 : qs.length ≤ 1048576) (h1 : keyB ps = true) (h2 : keyB qs = false) :
    Calls Tryd.prog 8 #[v, u] w fun e w' => e = .returned (.bool true) ∧ Below w.heap.size w w' := by
  have hp0 : PartsAt (w.alloc (.cells #[] 34)) v ps := hp.below ((Below.refl _ _).alloc (Nat.le_refl _) _)
  obtain ⟨rs, has0⟩ : ∃ rs : List Pt, rs = ps ++ qs := ⟨_, rfl⟩
  have has : Hid (rs = ps ++ qs) := has0
  have wpq : Words rs := by rw [has0]; exact fun p h => (List.mem_append.1 h).elim (wp p) (wq p)
  have h3 : keyB rs = false := by rw [has0, keyB_app, h1, h2]; rfl
  have E1 := fun w1 (h : PartsAt w1 v ps) (hM : SomeMax w1) => encode_yes v ps w1 h wp hM h1
  have E2 := fun w1 (h : PartsAt w1 u qs) (_ : SomeMax w1) => encode_no u qs w1 h wq h2
  have E3 := fun v1 w1 (h : PartsAt w1 v1 rs) (_ : SomeMax w1) => encode_no v1 rs w1 h wpq h3
  generalize encL ps = S1 at E1
  clear h1 h2 h3 has0
  go_enter Tryd.func8, Tryd.ntmps8
  go_wp2_with (first
    | (at_builtin; refine wp_app_parts rfl _ _ rfl w.heap.size v1 u ps qs rfl rfl ho1 hq1 su hb1.size (by omega) ?_; intro v2 w2 ho2 hg2; rw [← has.out] at ho2; have hb2 := app_below2 hb1 ho1 hg2)
    | (at_builtin; refine wp_app_parts rfl _ _ rfl w.heap.size _ v [] ps rfl rfl (owns_empty4 w) hp0 sv (by simp) (by simp; omega) ?_; intro v1 w1 ho1 hg1; have hb1 := app_below1 hg1; have hq1 := hq.below hb1))
  have HP2 := own_hid ho2
  have hp2 := hp.below hb2
  have hq2 := hq.below hb2
  have hM2 := maxB hM hb2
  have hz2 := hb2.size
  clear hg1 hg2 ho1 hq1 hp0
  rcases ho2.2 with ⟨rfl, hnil⟩ | ⟨g, cap, cur, rfl, hgg, hh, hr⟩
  all_goals
    go_wp2_with (first
      | (go_at_call 9; with_reducible refine (E1 _ hp2 hM2).mono ?_; rintro e w3 ⟨rfl, hb3⟩; have hM3 := maxB hM2 hb3; have hq3 := hq2.below hb3; have HP3 := own_hid (owns_below HP2.out hb3))
      | (go_at_call 9; with_reducible refine (E2 _ hq3 hM3).mono ?_; rintro e w4 ⟨rfl, hb4⟩; have hM4 := maxB hM3 hb4; have HP4 := own_hid (owns_below HP3.out hb4))
      | (go_at_call 9; have E3' := E3 _ _ (parts_of_own HP4.out) hM4; with_reducible refine E3'.mono ?_; rintro e w5 ⟨rfl, hb5⟩; have hM5 := maxB hM4 hb5)
      | (go_at_call 11; with_reducible refine (fixed_any _ hM5).mono ?_; rintro e w6 ⟨rfl, hb6⟩))
    go_ret
    exact ⟨rfl, seven hb2 hb3 hb4 hb5 hb6⟩
set_option maxHeartbeats 300000 in
theorem join_no3 (v u : Value) (ps qs : List Pt) (w : World) (hp : PartsAt w v ps) (hq : PartsAt w u qs) (sv : Sliced v) (su : Sliced u) (wp : Words ps) (wq : Words qs) (hM : SomeMax w) (hl : ps.length ≤ 1048576) (hl2 : qs.length ≤ 1048576) (h1 : keyB ps = true) (h2 : keyB qs = true) (hlen : ¬ ps.length + qs.length ≤ 16) :
    Calls Tryd.prog 8 #[v, u] w fun e w' => e = .returned (.bool true) ∧ Below w.heap.size w w' := by
  have hp0 : PartsAt (w.alloc (.cells #[] 34)) v ps := hp.below ((Below.refl _ _).alloc (Nat.le_refl _) _)
  obtain ⟨rs, has0⟩ : ∃ rs : List Pt, rs = ps ++ qs := ⟨_, rfl⟩
  have has : Hid (rs = ps ++ qs) := has0
  have wpq : Words rs := by rw [has0]; exact fun p h => (List.mem_append.1 h).elim (wp p) (wq p)
  have h3 : keyB rs = false := by rw [has0, keyB_app, decide_eq_false hlen, Bool.and_false]
  have E1 := fun w1 (h : PartsAt w1 v ps) (hM : SomeMax w1) => encode_yes v ps w1 h wp hM h1
  have E2 := fun w1 (h : PartsAt w1 u qs) (hM : SomeMax w1) => encode_yes u qs w1 h wq hM h2
  have E3 := fun v1 w1 (h : PartsAt w1 v1 rs) (_ : SomeMax w1) => encode_no v1 rs w1 h wpq h3
  generalize encL ps = S1 at E1
  generalize encL qs = S2 at E2
  have hrl : ¬ rs.length ≤ 16 := by rw [has0, List.length_append]; exact hlen
  have hrl' : ¬ (rs.length : Int) ≤ 16 := by omega
  clear h1 h2 h3 has0 hlen
  go_enter Tryd.func8, Tryd.ntmps8
  go_wp2_with (first
    | (at_builtin; refine wp_app_parts rfl _ _ rfl w.heap.size v1 u ps qs rfl rfl ho1 hq1 su hb1.size (by omega) ?_; intro v2 w2 ho2 hg2; rw [← has.out] at ho2; have hb2 := app_below2 hb1 ho1 hg2)
    | (at_builtin; refine wp_app_parts rfl _ _ rfl w.heap.size _ v [] ps rfl rfl (owns_empty4 w) hp0 sv (by simp) (by simp; omega) ?_; intro v1 w1 ho1 hg1; have hb1 := app_below1 hg1; have hq1 := hq.below hb1))
  have HP2 := own_hid ho2
  have hp2 := hp.below hb2
  have hq2 := hq.below hb2
  have hM2 := maxB hM hb2
  have hz2 := hb2.size
  clear hg1 hg2 ho1 hq1 hp0
  rcases ho2.2 with ⟨rfl, hnil⟩ | ⟨g, cap, cur, rfl, hgg, hh, hr⟩
  · exact absurd hnil (by omega)
  all_goals
    go_wp2_with (first
      | (go_at_call 9; with_reducible refine (E1 _ hp2 hM2).mono ?_; rintro e w3 ⟨rfl, hb3⟩; have hM3 := maxB hM2 hb3; have hq3 := hq2.below hb3; have HP3 := own_hid (owns_below HP2.out hb3))
      | (go_at_call 9; with_reducible refine (E2 _ hq3 hM3).mono ?_; rintro e w4 ⟨rfl, hb4⟩; have hM4 := maxB hM3 hb4; have HP4 := own_hid (owns_below HP3.out hb4))
      | (go_at_call 9; have E3' := E3 _ _ (parts_of_own HP4.out) hM4; with_reducible refine E3'.mono ?_; rintro e w5 ⟨rfl, hb5⟩; have hM5 := maxB hM4 hb5)
      | (go_at_call 11; with_reducible refine (fixed_any _ hM5).mono ?_; rintro e w6 ⟨rfl, hb6⟩))
    go_ret
    exact ⟨rfl, seven hb2 hb3 hb4 hb5 hb6⟩
set_option maxHeartbeats 300000 in
theorem join_yes0 (v u : Value) (ps qs : List Pt) (w : World) (hp : PartsAt w v ps) (hq : PartsAt w u qs) (sv : Sliced v) (su : Sliced u) (wp : Words ps) (wq : Words qs) (hM : SomeMax w) (hl : ps.length ≤ 1048576) (hl2 : qs.length ≤ 1048576) (h1 : keyB ps = true) (h2 : keyB qs = true) (hlen : ps.length + qs.length ≤ 16) (ho : afterB (encL ps) = false) :
    Calls Tryd.prog 8 #[v, u] w fun e w' => e = .returned (.bool true) ∧ Below w.heap.size w w' := by
  have hp0 : PartsAt (w.alloc (.cells #[] 34)) v ps := hp.below ((Below.refl _ _).alloc (Nat.le_refl _) _)
  obtain ⟨rs, has0⟩ : ∃ rs : List Pt, rs = ps ++ qs := ⟨_, rfl⟩
  have has : Hid (rs = ps ++ qs) := has0
  have wpq : Words rs := by rw [has0]; exact fun p h => (List.mem_append.1 h).elim (wp p) (wq p)
  have h3 : keyB rs = true := by rw [has0, keyB_app, h1, h2, decide_eq_true hlen]; rfl
  have E1 := fun w1 (h : PartsAt w1 v ps) (hM : SomeMax w1) => encode_yes v ps w1 h wp hM h1
  have E2 := fun w1 (h : PartsAt w1 u qs) (hM : SomeMax w1) => encode_yes u qs w1 h wq hM h2
  have E3 := fun v1 w1 (h : PartsAt w1 v1 rs) (hM : SomeMax w1) => encode_yes v1 rs w1 h wpq hM h3
  have hel := encL_len ps (keyB_parts h1).2
  have hpl := (keyB_parts h1).1
  obtain ⟨o1, o2⟩ := join_order (encL ps) (encL qs)
  have hel2 := encL_len qs (keyB_parts h2).2
  have hpl2 := (keyB_parts h2).1
  have hsum : ¬ 9223372036854775807 < (ByteArray.mk (encL ps).toArray).size + (ByteArray.mk (encL qs).toArray).size := by rw [mk_size, mk_size]; omega
  have AF := fun w => after_any ⟨(encL ps).toArray⟩ w (by rw [mk_size]; omega)
  dsimp only at AF
  have eU : encL rs = encL ps ++ encL qs := by rw [has0, encL_app]
  rw [eU] at E3
  have hcat : (ByteArray.mk (encL ps).toArray) ++ (ByteArray.mk (encL qs).toArray) = ⟨(encL ps ++ encL qs).toArray⟩ := by
    apply ByteArray.ext; simp
  have l1 : Op.bytesLess (ByteArray.mk (encL ps ++ encL qs).toArray).toList (ByteArray.mk (encL ps).toArray).toList = false := by
    rw [ByteArray.toList_eq, ByteArray.toList_eq]; exact o1
  have l2 : afterB (encL ps) = true → Op.bytesLess (ByteArray.mk (encL ps ++ encL qs).toArray).toList (ByteArray.mk (afterS (encL ps)).toArray).toList = true := by
    intro h; rw [ByteArray.toList_eq, ByteArray.toList_eq]; exact o2 h
  generalize (ByteArray.mk (encL ps ++ encL qs).toArray) = U at E3 hcat l1 l2
  generalize (ByteArray.mk (encL ps).toArray) = S1 at E1 AF hcat l1 hsum
  generalize (ByteArray.mk (encL qs).toArray) = S2 at E2 hcat hsum
  generalize (ByteArray.mk (afterS (encL ps)).toArray) = A1 at AF l2
  rw [ho] at AF
  clear l2 ho
  have hrl : rs.length ≤ 16 := by rw [has0, List.length_append]; exact hlen
  have hrl' : (rs.length : Int) ≤ 16 := by omega
  clear h1 h2 h3 has0 hlen o1 o2 eU hel hpl hel2 hpl2
  go_enter Tryd.func8, Tryd.ntmps8
  go_wp2_with (first
    | (at_builtin; refine wp_app_parts rfl _ _ rfl w.heap.size v1 u ps qs rfl rfl ho1 hq1 su hb1.size (by omega) ?_; intro v2 w2 ho2 hg2; rw [← has.out] at ho2; have hb2 := app_below2 hb1 ho1 hg2)
    | (at_builtin; refine wp_app_parts rfl _ _ rfl w.heap.size _ v [] ps rfl rfl (owns_empty4 w) hp0 sv (by simp) (by simp; omega) ?_; intro v1 w1 ho1 hg1; have hb1 := app_below1 hg1; have hq1 := hq.below hb1))
  have HP2 := own_hid ho2
  have hp2 := hp.below hb2
  have hq2 := hq.below hb2
  have hM2 := maxB hM hb2
  have hz2 := hb2.size
  clear hg1 hg2 ho1 hq1 hp0
  rcases ho2.2 with ⟨rfl, hnil⟩ | ⟨g, cap, cur, rfl, hgg, hh, hr⟩
  all_goals
    go_wp2_with (first
      | (go_at_call 9; with_reducible refine (E1 _ hp2 hM2).mono ?_; rintro e w3 ⟨rfl, hb3⟩; have hM3 := maxB hM2 hb3; have hq3 := hq2.below hb3; have HP3 := own_hid (owns_below HP2.out hb3))
      | (go_at_call 9; with_reducible refine (E2 _ hq3 hM3).mono ?_; rintro e w4 ⟨rfl, hb4⟩; have hM4 := maxB hM3 hb4; have HP4 := own_hid (owns_below HP3.out hb4))
      | (go_at_call 9; have E3' := E3 _ _ (parts_of_own HP4.out) hM4; with_reducible refine E3'.mono ?_; rintro e w5 ⟨rfl, hb5⟩; have hM5 := maxB hM4 hb5)
      | (go_at_call 11; with_reducible refine (fixed_any _ hM5).mono ?_; rintro e w6 ⟨rfl, hb6⟩)
      | (go_at_call 16; refine (AF _).mono ?_; rintro e w7 ⟨rfl, hb7⟩))
    go_ret
    have hb := seven hb2 hb3 hb4 hb5 hb6
    exact ⟨rfl, hb.trans (hb7.mono hb.size)⟩
set_option maxHeartbeats 300000 in
theorem join_yes1 (v u : Value) (ps qs : List Pt) (w : World) (hp : PartsAt w v ps) (hq : PartsAt w u qs) (sv : Sliced v) (su : Sliced u) (wp : Words ps) (wq : Words qs) (hM : SomeMax w) (hl : ps.length ≤ 1048576) (hl2 : qs.length ≤ 1048576) (h1 : keyB ps = true) (h2 : keyB qs = true) (hlen : ps.length + qs.length ≤ 16) (ho : afterB (encL ps) = true) :
    Calls Tryd.prog 8 #[v, u] w fun e w' => e = .returned (.bool true) ∧ Below w.heap.size w w' := by
  have hp0 : PartsAt (w.alloc (.cells #[] 34)) v ps := hp.below ((Below.refl _ _).alloc (Nat.le_refl _) _)
  obtain ⟨rs, has0⟩ : ∃ rs : List Pt, rs = ps ++ qs := ⟨_, rfl⟩
  have has : Hid (rs = ps ++ qs) := has0
  have wpq : Words rs := by rw [has0]; exact fun p h => (List.mem_append.1 h).elim (wp p) (wq p)
  have h3 : keyB rs = true := by rw [has0, keyB_app, h1, h2, decide_eq_true hlen]; rfl
  have E1 := fun w1 (h : PartsAt w1 v ps) (hM : SomeMax w1) => encode_yes v ps w1 h wp hM h1
  have E2 := fun w1 (h : PartsAt w1 u qs) (hM : SomeMax w1) => encode_yes u qs w1 h wq hM h2
  have E3 := fun v1 w1 (h : PartsAt w1 v1 rs) (hM : SomeMax w1) => encode_yes v1 rs w1 h wpq hM h3
  have hel := encL_len ps (keyB_parts h1).2
  have hpl := (keyB_parts h1).1
  obtain ⟨o1, o2⟩ := join_order (encL ps) (encL qs)
  have hel2 := encL_len qs (keyB_parts h2).2
  have hpl2 := (keyB_parts h2).1
  have hsum : ¬ 9223372036854775807 < (ByteArray.mk (encL ps).toArray).size + (ByteArray.mk (encL qs).toArray).size := by rw [mk_size, mk_size]; omega
  have AF := fun w => after_any ⟨(encL ps).toArray⟩ w (by rw [mk_size]; omega)
  dsimp only at AF
  have eU : encL rs = encL ps ++ encL qs := by rw [has0, encL_app]
  rw [eU] at E3
  have hcat : (ByteArray.mk (encL ps).toArray) ++ (ByteArray.mk (encL qs).toArray) = ⟨(encL ps ++ encL qs).toArray⟩ := by
    apply ByteArray.ext; simp
  have l1 : Op.bytesLess (ByteArray.mk (encL ps ++ encL qs).toArray).toList (ByteArray.mk (encL ps).toArray).toList = false := by
    rw [ByteArray.toList_eq, ByteArray.toList_eq]; exact o1
  have l2 : afterB (encL ps) = true → Op.bytesLess (ByteArray.mk (encL ps ++ encL qs).toArray).toList (ByteArray.mk (afterS (encL ps)).toArray).toList = true := by
    intro h; rw [ByteArray.toList_eq, ByteArray.toList_eq]; exact o2 h
  generalize (ByteArray.mk (encL ps ++ encL qs).toArray) = U at E3 hcat l1 l2
  generalize (ByteArray.mk (encL ps).toArray) = S1 at E1 AF hcat l1 hsum
  generalize (ByteArray.mk (encL qs).toArray) = S2 at E2 hcat hsum
  generalize (ByteArray.mk (afterS (encL ps)).toArray) = A1 at AF l2
  rw [ho] at AF
  have l3 := l2 ho
  clear l2 ho
  have hrl : rs.length ≤ 16 := by rw [has0, List.length_append]; exact hlen
  have hrl' : (rs.length : Int) ≤ 16 := by omega
  clear h1 h2 h3 has0 hlen o1 o2 eU hel hpl hel2 hpl2
  go_enter Tryd.func8, Tryd.ntmps8
  go_wp2_with (first
    | (at_builtin; refine wp_app_parts rfl _ _ rfl w.heap.size v1 u ps qs rfl rfl ho1 hq1 su hb1.size (by omega) ?_; intro v2 w2 ho2 hg2; rw [← has.out] at ho2; have hb2 := app_below2 hb1 ho1 hg2)
    | (at_builtin; refine wp_app_parts rfl _ _ rfl w.heap.size _ v [] ps rfl rfl (owns_empty4 w) hp0 sv (by simp) (by simp; omega) ?_; intro v1 w1 ho1 hg1; have hb1 := app_below1 hg1; have hq1 := hq.below hb1))
  have HP2 := own_hid ho2
  have hp2 := hp.below hb2
  have hq2 := hq.below hb2
  have hM2 := maxB hM hb2
  have hz2 := hb2.size
  clear hg1 hg2 ho1 hq1 hp0
  rcases ho2.2 with ⟨rfl, hnil⟩ | ⟨g, cap, cur, rfl, hgg, hh, hr⟩
  all_goals
    go_wp2_with (first
      | (go_at_call 9; with_reducible refine (E1 _ hp2 hM2).mono ?_; rintro e w3 ⟨rfl, hb3⟩; have hM3 := maxB hM2 hb3; have hq3 := hq2.below hb3; have HP3 := own_hid (owns_below HP2.out hb3))
      | (go_at_call 9; with_reducible refine (E2 _ hq3 hM3).mono ?_; rintro e w4 ⟨rfl, hb4⟩; have hM4 := maxB hM3 hb4; have HP4 := own_hid (owns_below HP3.out hb4))
      | (go_at_call 9; have E3' := E3 _ _ (parts_of_own HP4.out) hM4; with_reducible refine E3'.mono ?_; rintro e w5 ⟨rfl, hb5⟩; have hM5 := maxB hM4 hb5)
      | (go_at_call 11; with_reducible refine (fixed_any _ hM5).mono ?_; rintro e w6 ⟨rfl, hb6⟩)
      | (go_at_call 16; refine (AF _).mono ?_; rintro e w7 ⟨rfl, hb7⟩))
    go_ret
    have hb := seven hb2 hb3 hb4 hb5 hb6
    exact ⟨rfl, hb.trans (hb7.mono hb.size)⟩

theorem keysJoin_walk (v u : Value) (ps qs : List Pt) (w : World) (hp : PartsAt w v ps) (hq : PartsAt w u qs) (sv : Sliced v) (su : Sliced u) (wp : Words ps) (wq : Words qs) (hM : SomeMax w) (hl : ps.length ≤ 1048576) (hl2 : qs.length ≤ 1048576) :
    Calls Tryd.prog 8 #[v, u] w fun e w' => e = .returned (.bool true) ∧ Below w.heap.size w w' := by
  cases h1 : keyB ps
  · exact join_no1 v u ps qs w hp hq sv su wp wq hM hl hl2 h1
  · cases h2 : keyB qs
    · exact join_no2 v u ps qs w hp hq sv su wp wq hM hl hl2 h1 h2
    · by_cases h3 : ps.length + qs.length ≤ 16
      · cases h4 : afterB (encL ps)
        · exact join_yes0 v u ps qs w hp hq sv su wp wq hM hl hl2 h1 h2 h3 h4
        · exact join_yes1 v u ps qs w hp hq sv su wp wq hM hl hl2 h1 h2 h3 h4
      · exact join_no3 v u ps qs w hp hq sv su wp wq hM hl hl2 h1 h2 h3
end Go.Proofs.YtghneolphdfdlaaDoor
