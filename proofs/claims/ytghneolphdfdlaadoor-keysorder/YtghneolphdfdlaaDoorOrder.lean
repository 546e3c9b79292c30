/- Two keys stand as their bytes do: the walk of the statement. -/
import Derived.Test.YtghneolphdfdlaaDoorOrdMath
import Derived.Test.YtghneolphdfdlaaDoorSameA
import Derived.Test.YtghneolphdfdlaaDoorBack
namespace Go.Proofs.YtghneolphdfdlaaDoor
open Go Go.RowKit

theorem three_b {w w1 w2 w3 : World} (h1 : Below w.heap.size w w1) (h2 : Below w1.heap.size w1 w2) (h3 : Below w2.heap.size w2 w3) : Below w.heap.size w w3 := by
  have a := h1.trans (h2.mono h1.size)
  exact a.trans (h3.mono a.size)

set_option maxHeartbeats 2000000 in
theorem order_no1 (v u : Value) (ps qs : List Pt) (w : World) (hp : PartsAt w v ps) (hq : PartsAt w u qs) (wp : Words ps) (wq : Words qs) (hM : SomeMax w) (k1 : keyB ps = false) :
    Calls Tryd.prog 6 #[v, u] w fun e w' => e = .returned (.bool true) ∧ Below w.heap.size w w' := by
  have E1 := encode_no v ps w hp wp k1
  cases k2 : keyB qs
  · have E2 := fun w1 (h : PartsAt w1 u qs) => encode_no u qs w1 h wq k2
    clear k1 k2
    go_enter Tryd.func6, Tryd.ntmps6
    go_wp2_with (first
      | (go_at_call 9; with_reducible refine E1.mono ?_; rintro e w1 ⟨rfl, hb1⟩; have hM1 := maxB hM hb1; have hq1 := hq.below hb1)
      | (go_at_call 9; with_reducible refine (E2 _ hq1).mono ?_; rintro e w2 ⟨rfl, hb2⟩; have hM2 := maxB hM1 hb2)
      | (go_at_call 11; refine (fixed_any _ hM2).mono ?_; rintro e w3 ⟨rfl, hb3⟩))
    go_ret
    exact ⟨rfl, three_b hb1 hb2 hb3⟩
  · have E2 := fun w1 (h : PartsAt w1 u qs) (hM : SomeMax w1) => encode_yes u qs w1 h wq hM k2
    clear k1 k2
    go_enter Tryd.func6, Tryd.ntmps6
    go_wp2_with (first
      | (go_at_call 9; with_reducible refine E1.mono ?_; rintro e w1 ⟨rfl, hb1⟩; have hM1 := maxB hM hb1; have hq1 := hq.below hb1)
      | (go_at_call 9; with_reducible refine (E2 _ hq1 hM1).mono ?_; rintro e w2 ⟨rfl, hb2⟩; have hM2 := maxB hM1 hb2)
      | (go_at_call 11; refine (fixed_any _ hM2).mono ?_; rintro e w3 ⟨rfl, hb3⟩))
    go_ret
    exact ⟨rfl, three_b hb1 hb2 hb3⟩

set_option maxHeartbeats 2000000 in
theorem order_no2 (v u : Value) (ps qs : List Pt) (w : World) (hp : PartsAt w v ps) (hq : PartsAt w u qs) (wp : Words ps) (wq : Words qs) (hM : SomeMax w) (k1 : keyB ps = true) (k2 : keyB qs = false) :
    Calls Tryd.prog 6 #[v, u] w fun e w' => e = .returned (.bool true) ∧ Below w.heap.size w w' := by
  have E1 := encode_yes v ps w hp wp hM k1
  have E2 := fun w1 (h : PartsAt w1 u qs) => encode_no u qs w1 h wq k2
  clear k1 k2
  go_enter Tryd.func6, Tryd.ntmps6
  go_wp2_with (first
    | (go_at_call 9; with_reducible refine E1.mono ?_; rintro e w1 ⟨rfl, hb1⟩; have hM1 := maxB hM hb1; have hq1 := hq.below hb1)
    | (go_at_call 9; with_reducible refine (E2 _ hq1).mono ?_; rintro e w2 ⟨rfl, hb2⟩; have hM2 := maxB hM1 hb2)
    | (go_at_call 11; refine (fixed_any _ hM2).mono ?_; rintro e w3 ⟨rfl, hb3⟩))
  go_ret
  exact ⟨rfl, three_b hb1 hb2 hb3⟩

set_option maxHeartbeats 4000000 in
theorem order_yes (v u : Value) (ps qs : List Pt) (w : World) (hp : PartsAt w v ps) (hq : PartsAt w u qs) (sp : ∀ p ∈ ps, Small p) (sq : ∀ p ∈ qs, Small p) (hM : SomeMax w) (k1 : keyB ps = true) (k2 : keyB qs = true) :
    Calls Tryd.prog 6 #[v, u] w fun e w' => e = .returned (.bool true) ∧ Below w.heap.size w w' := by
  have E1 := encode_yes v ps w hp (fun p h => (sp p h).2.2) hM k1
  have E2 := fun w1 (h : PartsAt w1 u qs) (hM : SomeMax w1) => encode_yes u qs w1 h (fun p h => (sq p h).2.2) hM k2
  have l1 := (keyB_parts k1).1
  have l2 := (keyB_parts k2).1
  have C := fun w1 (h : PartsAt w1 v ps) (h' : PartsAt w1 u qs) => kcmp_any v u ps qs w1 h h' (by omega) (by omega)
  have SM := fun w1 (h : PartsAt w1 v ps) (h' : PartsAt w1 u qs) => same_any v u ps qs w1 h h' (by omega)
  have O := order_enc ps qs k1 k2 sp sq
  clear k1 k2 l1 l2 sp sq
  rcases O with ⟨c, o1, o2, o3, o4⟩ | ⟨c, rfl⟩ | ⟨c, o1, o2, o3, o4⟩
  · rw [c] at C
    rw [decide_eq_false o4] at SM
    have m1 : Op.bytesLess (ByteArray.mk (encL ps).toArray).toList (ByteArray.mk (encL qs).toArray).toList = true := by rw [ByteArray.toList_eq, ByteArray.toList_eq]; exact o1
    have m2 : Op.bytesLess (ByteArray.mk (encL qs).toArray).toList (ByteArray.mk (encL ps).toArray).toList = false := by rw [ByteArray.toList_eq, ByteArray.toList_eq]; exact o2
    have m3 : ((ByteArray.mk (encL ps).toArray).toList == (ByteArray.mk (encL qs).toArray).toList) = false := by rw [ByteArray.toList_eq, ByteArray.toList_eq, beq_eq_false_iff_ne]; exact o3
    generalize (ByteArray.mk (encL ps).toArray) = S at E1 m1 m2 m3
    generalize (ByteArray.mk (encL qs).toArray) = T at E2 m1 m2 m3
    clear c o1 o2 o3 o4
    go_enter Tryd.func6, Tryd.ntmps6
    go_wp2_with (first
      | (go_at_call 9; with_reducible refine E1.mono ?_; rintro e w1 ⟨rfl, hb1⟩; have hM1 := maxB hM hb1; have hp1 := hp.below hb1; have hq1 := hq.below hb1)
      | (go_at_call 9; with_reducible refine (E2 _ hq1 hM1).mono ?_; rintro e w2 ⟨rfl, hb2⟩; have hM2 := maxB hM1 hb2; have hp2 := hp1.below hb2; have hq2 := hq1.below hb2)
      | (go_at_call 11; refine (fixed_any _ hM2).mono ?_; rintro e w3 ⟨rfl, hb3⟩; have hp3 := hp2.below hb3; have hq3 := hq2.below hb3)
      | (go_at_call 19; with_reducible refine (C _ hp3 hq3).mono ?_; rintro e w4 ⟨rfl, hb4⟩; have hp4 := hp3.below hb4; have hq4 := hq3.below hb4)
      | (go_at_call 15; with_reducible refine (SM _ hp4 hq4).mono ?_; rintro e w5 ⟨rfl, n, rfl⟩))
    go_ret
    have hb := three_b hb1 hb2 hb3
    exact ⟨by first | rfl | exact ret_bool (by simp), below_drewN (hb.trans (hb4.mono hb.size)) _⟩
  · rw [c] at C
    rw [decide_eq_true rfl] at SM
    have m1 := less_irrefl (ByteArray.mk (encL ps).toArray).toList
    have m3 := eq_self (encL ps)
    generalize (ByteArray.mk (encL ps).toArray) = S at E1 E2 m1 m3
    clear c
    go_enter Tryd.func6, Tryd.ntmps6
    go_wp2_with (first
      | (go_at_call 9; with_reducible refine E1.mono ?_; rintro e w1 ⟨rfl, hb1⟩; have hM1 := maxB hM hb1; have hp1 := hp.below hb1; have hq1 := hq.below hb1)
      | (go_at_call 9; with_reducible refine (E2 _ hq1 hM1).mono ?_; rintro e w2 ⟨rfl, hb2⟩; have hM2 := maxB hM1 hb2; have hp2 := hp1.below hb2; have hq2 := hq1.below hb2)
      | (go_at_call 11; refine (fixed_any _ hM2).mono ?_; rintro e w3 ⟨rfl, hb3⟩; have hp3 := hp2.below hb3; have hq3 := hq2.below hb3)
      | (go_at_call 19; with_reducible refine (C _ hp3 hq3).mono ?_; rintro e w4 ⟨rfl, hb4⟩; have hp4 := hp3.below hb4; have hq4 := hq3.below hb4)
      | (go_at_call 15; with_reducible refine (SM _ hp4 hq4).mono ?_; rintro e w5 ⟨rfl, n, rfl⟩))
    go_ret
    have hb := three_b hb1 hb2 hb3
    exact ⟨by first | rfl | exact ret_bool (by simp), below_drewN (hb.trans (hb4.mono hb.size)) _⟩
  · rw [c] at C
    rw [decide_eq_false o4] at SM
    have m1 : Op.bytesLess (ByteArray.mk (encL ps).toArray).toList (ByteArray.mk (encL qs).toArray).toList = false := by rw [ByteArray.toList_eq, ByteArray.toList_eq]; exact o1
    have m2 : Op.bytesLess (ByteArray.mk (encL qs).toArray).toList (ByteArray.mk (encL ps).toArray).toList = true := by rw [ByteArray.toList_eq, ByteArray.toList_eq]; exact o2
    have m3 : ((ByteArray.mk (encL ps).toArray).toList == (ByteArray.mk (encL qs).toArray).toList) = false := by rw [ByteArray.toList_eq, ByteArray.toList_eq, beq_eq_false_iff_ne]; exact o3
    generalize (ByteArray.mk (encL ps).toArray) = S at E1 m1 m2 m3
    generalize (ByteArray.mk (encL qs).toArray) = T at E2 m1 m2 m3
    clear c o1 o2 o3 o4
    go_enter Tryd.func6, Tryd.ntmps6
    go_wp2_with (first
      | (go_at_call 9; with_reducible refine E1.mono ?_; rintro e w1 ⟨rfl, hb1⟩; have hM1 := maxB hM hb1; have hp1 := hp.below hb1; have hq1 := hq.below hb1)
      | (go_at_call 9; with_reducible refine (E2 _ hq1 hM1).mono ?_; rintro e w2 ⟨rfl, hb2⟩; have hM2 := maxB hM1 hb2; have hp2 := hp1.below hb2; have hq2 := hq1.below hb2)
      | (go_at_call 11; refine (fixed_any _ hM2).mono ?_; rintro e w3 ⟨rfl, hb3⟩; have hp3 := hp2.below hb3; have hq3 := hq2.below hb3)
      | (go_at_call 19; with_reducible refine (C _ hp3 hq3).mono ?_; rintro e w4 ⟨rfl, hb4⟩; have hp4 := hp3.below hb4; have hq4 := hq3.below hb4)
      | (go_at_call 15; with_reducible refine (SM _ hp4 hq4).mono ?_; rintro e w5 ⟨rfl, n, rfl⟩))
    go_ret
    have hb := three_b hb1 hb2 hb3
    exact ⟨by first | rfl | exact ret_bool (by simp), below_drewN (hb.trans (hb4.mono hb.size)) _⟩

theorem keysOrder_walk (v u : Value) (ps qs : List Pt) (w : World) (hp : PartsAt w v ps) (hq : PartsAt w u qs) (sp : ∀ p ∈ ps, Small p) (sq : ∀ p ∈ qs, Small p) (hM : SomeMax w) :
    Calls Tryd.prog 6 #[v, u] w fun e w' => e = .returned (.bool true) ∧ Below w.heap.size w w' := by
  cases k1 : keyB ps
  · exact order_no1 v u ps qs w hp hq (fun p h => (sp p h).2.2) (fun p h => (sq p h).2.2) hM k1
  · cases k2 : keyB qs
    · exact order_no2 v u ps qs w hp hq (fun p h => (sp p h).2.2) (fun p h => (sq p h).2.2) hM k1 k2
    · exact order_yes v u ps qs w hp hq sp sq hM k1 k2
end Go.Proofs.YtghneolphdfdlaaDoor
