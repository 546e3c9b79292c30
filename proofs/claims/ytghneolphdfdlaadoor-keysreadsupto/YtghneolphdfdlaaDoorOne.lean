/- When a part may be a key's, and whether parts may, by the document. -/
import Derived.Test.YtghneolphdfdlaaDoorChk
namespace Go.Proofs.YtghneolphdfdlaaDoor
open Go Go.RowKit

set_option maxHeartbeats 400000 in
theorem one_0 (i : Int) (b : Nat) (t : ByteArray) (w : World) : Calls Tryd.prog 25 #[.agg #[.int .i64 0, .int .i64 i, .int .u64 (b : Int), .string t]] w fun e w' => e = .returned (.bool (may0 b t)) ∧ Below w.heap.size w w' := by
  unfold may0 mtB
  by_cases c1 : b = 0
  · by_cases c2 : t.toList = []
    · rw [decide_eq_true c1, decide_eq_true c2]
      go_enter Tryd.func25, Tryd.ntmps25
      go_wp2
      go_ret
      exact ⟨ret_bool (by first | rfl | simp | (simp; omega)), ((Below.refl _ _).alloc (Nat.le_refl _) _).alloc (by simp) _⟩
    · rw [decide_eq_false c2]
      go_enter Tryd.func25, Tryd.ntmps25
      go_wp2
      go_ret
      exact ⟨ret_bool (by first | rfl | simp | (simp; omega)), ((Below.refl _ _).alloc (Nat.le_refl _) _).alloc (by simp) _⟩
  · rw [decide_eq_false c1]
    go_enter Tryd.func25, Tryd.ntmps25
    go_wp2
    go_ret
    exact ⟨ret_bool (by first | rfl | simp | (simp; omega)), ((Below.refl _ _).alloc (Nat.le_refl _) _).alloc (by simp) _⟩

set_option maxHeartbeats 400000 in
theorem one_2 (i : Int) (b : Nat) (t : ByteArray) (w : World) : Calls Tryd.prog 25 #[.agg #[.int .i64 2, .int .i64 i, .int .u64 (b : Int), .string t]] w fun e w' => e = .returned (.bool (may2 i b t)) ∧ Below w.heap.size w w' := by
  unfold may2
  by_cases c2 : t.size ≤ 255
  · by_cases c0 : i = 0
    · by_cases c1 : b = 0
      · rw [decide_eq_true c0, decide_eq_true c1, decide_eq_true c2]
        go_enter Tryd.func25, Tryd.ntmps25
        go_wp2
        go_ret
        exact ⟨ret_bool (by first | rfl | simp | (simp; omega)), ((Below.refl _ _).alloc (Nat.le_refl _) _).alloc (by simp) _⟩
      · rw [decide_eq_false c1]
        go_enter Tryd.func25, Tryd.ntmps25
        go_wp2
        go_ret
        exact ⟨ret_bool (by first | rfl | simp | (simp; omega)), ((Below.refl _ _).alloc (Nat.le_refl _) _).alloc (by simp) _⟩
    · rw [decide_eq_false c0]
      go_enter Tryd.func25, Tryd.ntmps25
      go_wp2
      go_ret
      exact ⟨ret_bool (by first | rfl | simp | (simp; omega)), ((Below.refl _ _).alloc (Nat.le_refl _) _).alloc (by simp) _⟩
  · rw [decide_eq_false c2]
    go_enter Tryd.func25, Tryd.ntmps25
    go_wp2
    go_ret
    exact ⟨ret_bool (by first | rfl | simp | (simp; omega)), ((Below.refl _ _).alloc (Nat.le_refl _) _).alloc (by simp) _⟩

set_option maxHeartbeats 400000 in
theorem one_3 (k i : Int) (b : Nat) (t : ByteArray) (w : World) (h0 : k ≠ 0) (h1 : k ≠ 1) (h2 : k ≠ 2) : Calls Tryd.prog 25 #[.agg #[.int .i64 k, .int .i64 i, .int .u64 (b : Int), .string t]] w fun e w' => e = .returned (.bool false) ∧ Below w.heap.size w w' := by
  go_enter Tryd.func25, Tryd.ntmps25
  go_wp2
  go_ret
  exact ⟨ret_bool (by first | rfl | simp | (simp; omega)), ((Below.refl _ _).alloc (Nat.le_refl _) _).alloc (by simp) _⟩

set_option maxHeartbeats 400000 in
theorem one_1 (i : Int) (b : Nat) (t : ByteArray) (w : World) : Calls Tryd.prog 25 #[.agg #[.int .i64 1, .int .i64 i, .int .u64 (b : Int), .string t]] w fun e w' => e = .returned (.bool (may1 i b t)) ∧ Below w.heap.size w w' := by
  unfold may1 mtB
  have K := fun w => rkind_any b w
  have eA := kindN_nan b
  generalize kindN b = kb at K eA
  cases c2 : isN b
  · rw [c2] at eA
    obtain rfl : kb = 4 := by simpa using eA
    clear eA
    go_enter Tryd.func25, Tryd.ntmps25
    go_wp2_with (go_at_call 39; refine (K _).mono ?_; rintro e w1 ⟨rfl, rfl⟩)
    go_ret
    exact ⟨ret_bool (by first | rfl | simp | (simp; omega)), ((Below.refl _ _).alloc (Nat.le_refl _) _).alloc (by simp) _⟩
  · rw [c2] at eA
    have hk : (kb == 4) = false := by simpa using eA
    clear eA
    by_cases c3 : b = 9223372036854775808
    · have c5 : (b : Int) = 9223372036854775808 := by omega
      have x : decide (b ≠ 9223372036854775808) = false := by rw [c3]; rfl
      rw [x]
      clear c3 x
      generalize (b : Int) = B at K c5 ⊢
      subst c5
      go_enter Tryd.func25, Tryd.ntmps25
      go_wp2_with (go_at_call 39; refine (K _).mono ?_; rintro e w1 ⟨rfl, rfl⟩)
      go_ret
      exact ⟨ret_bool (by first | rfl | simp | (simp; omega)), ((Below.refl _ _).alloc (Nat.le_refl _) _).alloc (by simp) _⟩
    · have c5 : ((b : Int) == 9223372036854775808) = false := beq_eq_false_iff_ne.2 (by omega)
      have x : decide (b ≠ 9223372036854775808) = true := decide_eq_true c3
      rw [x]
      clear c3 x
      generalize (b : Int) = B at K c5 ⊢
      by_cases c0 : i = 0
      · by_cases c1 : t.toList = []
        · rw [decide_eq_true c0, decide_eq_true c1]
          go_enter Tryd.func25, Tryd.ntmps25
          go_wp2_with (go_at_call 39; refine (K _).mono ?_; rintro e w1 ⟨rfl, rfl⟩)
          go_ret
          exact ⟨ret_bool (by first | rfl | simp | (simp; omega)), ((Below.refl _ _).alloc (Nat.le_refl _) _).alloc (by simp) _⟩
        · rw [decide_eq_false c1]
          go_enter Tryd.func25, Tryd.ntmps25
          go_wp2_with (go_at_call 39; refine (K _).mono ?_; rintro e w1 ⟨rfl, rfl⟩)
          go_ret
          exact ⟨ret_bool (by first | rfl | simp | (simp; omega)), ((Below.refl _ _).alloc (Nat.le_refl _) _).alloc (by simp) _⟩
      · rw [decide_eq_false c0]
        go_enter Tryd.func25, Tryd.ntmps25
        go_wp2_with (go_at_call 39; refine (K _).mono ?_; rintro e w1 ⟨rfl, rfl⟩)
        go_ret
        exact ⟨ret_bool (by first | rfl | simp | (simp; omega)), ((Below.refl _ _).alloc (Nat.le_refl _) _).alloc (by simp) _⟩

theorem one_any (p : Pt) (w : World) : Calls Tryd.prog 25 #[p.val] w fun e w' => e = .returned (.bool (mayB p)) ∧ Below w.heap.size w w' := by
  obtain ⟨k, i, b, t⟩ := p
  unfold mayB
  by_cases h0 : k = 0
  · subst h0; rw [if_pos rfl]; exact one_0 i b t w
  · rw [if_neg h0]
    by_cases h1 : k = 1
    · subst h1; rw [if_pos rfl]; exact one_1 i b t w
    · rw [if_neg h1]
      by_cases h2 : k = 2
      · subst h2; rw [if_pos rfl]; exact one_2 i b t w
      · rw [if_neg h2]; exact one_3 k i b t w h0 h1 h2
end Go.Proofs.YtghneolphdfdlaaDoor
