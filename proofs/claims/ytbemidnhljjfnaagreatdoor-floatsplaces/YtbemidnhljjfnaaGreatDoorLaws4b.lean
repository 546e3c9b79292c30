/- Keys and numbers of keys are as the document says. -/
import Derived.Test.YtbemidnhljjfnaaGreatDoorLaws4
namespace Go.Proofs.YtbemidnhljjfnaaGreatDoor
open Go Go.RowKit

set_option maxHeartbeats 1000000 in
theorem places_walk (a k : Nat) (w : World) (T : Tabs w) (ha : a < 18446744073709551616) (hk : k < 18446744073709551616) : Calls Tryz.prog 5 #[.int .u64 (a : Int), .int .u64 (k : Int)] w fun e w' => e = .returned (.bool true) ∧ Below w.heap.size w w' := by
  have C1 := fun w => key_any a w ha
  have C2 := fun w => rkey_any a w ha
  have C3 := fun w => fromKey_any k w hk
  have C4 := fun w => rfromKey_any k w hk
  generalize keyI a = x at *
  generalize errN (isN a) = e1 at *
  generalize ((fromN k : Nat) : Int) = y at *
  generalize errN (inK k) = e2 at *
  generalize (a : Int) = A at *
  generalize (k : Int) = K at *
  clear ha hk
  go_enter Tryz.func5, Tryz.ntmps5
  go_wp2_with (first
    | (go_at_call 11; refine (fixed_any _ T).mono ?_; rintro e w1 ⟨rfl, hb1⟩)
    | (go_at_call 12; refine (C1 _).mono ?_; rintro e w2 ⟨rfl, rfl⟩)
    | (go_at_call 15; refine (C2 _).mono ?_; rintro e w2 ⟨rfl, rfl⟩)
    | (go_at_call 13; refine (C3 _).mono ?_; rintro e w2 ⟨rfl, rfl⟩)
    | (go_at_call 16; refine (C4 _).mono ?_; rintro e w2 ⟨rfl, rfl⟩))
  go_ret
  exact ⟨rfl, hb1⟩

/-- The place of a number, as a number of places. -/
def keyW (a : Nat) : Nat := (9223372036854775808 + pos a).toNat
theorem pos_bounds (a : Nat) (h : sz a ≤ 9218868437227405312) : -9218868437227405312 ≤ pos a ∧ pos a ≤ 9218868437227405312 := by
  rw [pos_eq]; cases sgn a <;> simp <;> omega
theorem keyW_eq (a : Nat) (h : sz a ≤ 9218868437227405312) : ((keyW a : Nat) : Int) = 9223372036854775808 + pos a := by
  have := pos_bounds a h; unfold keyW; omega
theorem keyW_in (a : Nat) (h : sz a ≤ 9218868437227405312) : inK (keyW a) = true ∧ keyW a < 18446744073709551616 := by
  have := pos_bounds a h
  have e := keyW_eq a h
  exact ⟨decide_eq_true (by omega), by omega⟩
theorem from_key (a : Nat) (ha : a < 18446744073709551616) (h : sz a ≤ 9218868437227405312) (hz : a ≠ 9223372036854775808) : fromN (keyW a) = a := by
  have e := keyW_eq a h
  unfold fromN
  rw [(keyW_in a h).1, if_pos rfl]
  by_cases c : a < 9223372036854775808
  · rw [pos_low c, sz_low c] at e
    rw [if_neg (by omega)]; omega
  · rw [pos_high (by omega) ha, sz_high (by omega) ha] at e
    rw [if_pos (by omega)]; omega

set_option maxHeartbeats 2000000 in
theorem keys_nan (a b : Nat) (w : World) (T : Tabs w) (ha : a < 18446744073709551616) (hb : b < 18446744073709551616) (h : cmpB a b = false) : Calls Tryz.prog 4 #[.int .u64 (a : Int), .int .u64 (b : Int)] w fun e w' => e = .returned (.bool true) ∧ Below w.heap.size w w' := by
  have C1 := fun w => key_any a w ha
  have C2 := fun w => key_any b w hb
  have C3 := fun w => cmp_any a b w
  rw [h] at C3
  unfold cmpB at h
  generalize cmpI a b = c at *
  generalize keyI a = x at *
  generalize keyI b = y at *
  generalize (a : Int) = A at *
  generalize (b : Int) = B at *
  clear ha hb
  unfold errN at C1 C2
  cases h1 : isN a
  · rw [h1, if_neg (by decide)] at C1
    generalize (if isN b = true then (0 : Int) else 22) = e2 at *
    clear h h1
    go_enter Tryz.func4, Tryz.ntmps4
    go_wp2_with (first
      | (go_at_call 11; refine (fixed_any _ T).mono ?_; rintro e w1 ⟨rfl, hb1⟩)
      | (go_at_call 12; (first | with_reducible refine (C1 _).mono ?_ | with_reducible refine (C2 _).mono ?_); rintro e w2 ⟨rfl, rfl⟩)
      | (go_at_call 9; refine (C3 _).mono ?_; rintro e w2 ⟨rfl, rfl⟩))
    go_ret
    exact ⟨rfl, hb1⟩
  · rw [h1, if_pos rfl] at C1
    have h2 : isN b = false := by simpa [h1] using h
    rw [h2, if_neg (by decide)] at C2
    clear h h1 h2
    go_enter Tryz.func4, Tryz.ntmps4
    go_wp2_with (first
      | (go_at_call 11; refine (fixed_any _ T).mono ?_; rintro e w1 ⟨rfl, hb1⟩)
      | (go_at_call 12; (first | with_reducible refine (C1 _).mono ?_ | with_reducible refine (C2 _).mono ?_); rintro e w2 ⟨rfl, rfl⟩)
      | (go_at_call 9; refine (C3 _).mono ?_; rintro e w2 ⟨rfl, rfl⟩))
    go_ret
    exact ⟨rfl, hb1⟩

/-- What the order says of the two places. -/
theorem keys_order (a b : Nat) (h1 : isN a = true) (h2 : isN b = true) : (cmpI a b < 0 ∧ keyI a < keyI b) ∨ (cmpI a b = 0 ∧ keyI a = keyI b) ∨ (0 < cmpI a b ∧ keyI b < keyI a) := by
  unfold cmpI keyI ordN
  rw [h1, h2]
  simp only [Bool.and_true, if_true]
  rcases Int.lt_trichotomy (pos a) (pos b) with h | h | h
  · rw [if_pos h]; left; omega
  · rw [if_neg (by omega), if_neg (by omega)]; right; left; omega
  · rw [if_neg (by omega), if_pos h]; right; right; omega

set_option maxHeartbeats 4000000 in
theorem keys_num (a b : Nat) (w : World) (T : Tabs w) (ha : a < 18446744073709551616) (hb : b < 18446744073709551616) (h1 : isN a = true) (h2 : isN b = true) : Calls Tryz.prog 4 #[.int .u64 (a : Int), .int .u64 (b : Int)] w fun e w' => e = .returned (.bool true) ∧ Below w.heap.size w w' := by
  have C1 := fun w => key_any a w ha
  have C2 := fun w => key_any b w hb
  have C3 := fun w => cmp_any a b w
  have KA := fun w => kind_any a w ha
  have hs : sz a ≤ 9218868437227405312 := of_decide_eq_true h1
  have C4 := fun w => fromKey_any (keyW a) w (keyW_in a hs).2
  rw [(keyW_in a hs).1] at C4
  have eK : ((keyW a : Nat) : Int) = keyI a := by rw [keyW_eq a hs]; unfold keyI; rw [h1, if_pos rfl]
  rw [eK] at C4
  have hB : cmpB a b = true := by unfold cmpB; rw [h1, h2]; rfl
  rw [hB] at C3
  rw [h1] at C1
  rw [h2] at C2
  have hO := keys_order a b h1 h2
  have hF : ((fromN (keyW a) : Nat) : Int) = (a : Int) ∨ (((fromN (keyW a) : Nat) : Int) = 0 ∧ kindN a = 0 ∧ ¬ (a : Int) = 0) := by
    by_cases hz : a = 9223372036854775808
    · right
      subst hz
      exact ⟨by decide, by decide, by decide⟩
    · left; rw [from_key a ha hs hz]
  generalize cmpI a b = c at *
  generalize keyI a = x at *
  generalize keyI b = y at *
  generalize ((fromN (keyW a) : Nat) : Int) = z at *
  generalize kindN a = k at *
  generalize (a : Int) = A at *
  generalize (b : Int) = B at *
  clear ha hb hs hB eK h1 h2
  simp only [errN, if_true] at C1 C2 C4
  rcases hO with ⟨o1, o2⟩ | ⟨o1, o2⟩ | ⟨o1, o2⟩
  · have d1 : decide (x < y) = true := decide_eq_true o2
    have d2 : decide (c < 0) = true := decide_eq_true o1
    have d3 : decide (y < x) = false := decide_eq_false (by omega)
    have d4 : decide (0 < c) = false := decide_eq_false (by omega)
    clear o1 o2
    rcases hF with rfl | ⟨rfl, rfl, hA⟩
    all_goals
      go_enter Tryz.func4, Tryz.ntmps4
      go_wp2_with (first
        | (go_at_call 11; refine (fixed_any _ T).mono ?_; rintro e w1 ⟨rfl, hb1⟩)
        | (go_at_call 12; (first | with_reducible refine (C1 _).mono ?_ | with_reducible refine (C2 _).mono ?_); rintro e w2 ⟨rfl, rfl⟩)
        | (go_at_call 9; refine (C3 _).mono ?_; rintro e w2 ⟨rfl, rfl⟩)
        | (go_at_call 13; refine (C4 _).mono ?_; rintro e w2 ⟨rfl, rfl⟩)
        | (go_at_call 14; refine (KA _).mono ?_; rintro e w2 ⟨rfl, rfl⟩))
      go_ret
      exact ⟨rfl, hb1⟩
  · subst o1 o2
    rcases hF with rfl | ⟨rfl, rfl, hA⟩
    all_goals
      go_enter Tryz.func4, Tryz.ntmps4
      go_wp2_with (first
        | (go_at_call 11; refine (fixed_any _ T).mono ?_; rintro e w1 ⟨rfl, hb1⟩)
        | (go_at_call 12; (first | with_reducible refine (C1 _).mono ?_ | with_reducible refine (C2 _).mono ?_); rintro e w2 ⟨rfl, rfl⟩)
        | (go_at_call 9; refine (C3 _).mono ?_; rintro e w2 ⟨rfl, rfl⟩)
        | (go_at_call 13; refine (C4 _).mono ?_; rintro e w2 ⟨rfl, rfl⟩)
        | (go_at_call 14; refine (KA _).mono ?_; rintro e w2 ⟨rfl, rfl⟩))
      go_ret
      exact ⟨rfl, hb1⟩
  · have d1 : decide (x < y) = false := decide_eq_false (by omega)
    have d2 : decide (c < 0) = false := decide_eq_false (by omega)
    have d3 : decide (y < x) = true := decide_eq_true o2
    have d4 : decide (0 < c) = true := decide_eq_true o1
    clear o1 o2
    rcases hF with rfl | ⟨rfl, rfl, hA⟩
    all_goals
      go_enter Tryz.func4, Tryz.ntmps4
      go_wp2_with (first
        | (go_at_call 11; refine (fixed_any _ T).mono ?_; rintro e w1 ⟨rfl, hb1⟩)
        | (go_at_call 12; (first | with_reducible refine (C1 _).mono ?_ | with_reducible refine (C2 _).mono ?_); rintro e w2 ⟨rfl, rfl⟩)
        | (go_at_call 9; refine (C3 _).mono ?_; rintro e w2 ⟨rfl, rfl⟩)
        | (go_at_call 13; refine (C4 _).mono ?_; rintro e w2 ⟨rfl, rfl⟩)
        | (go_at_call 14; refine (KA _).mono ?_; rintro e w2 ⟨rfl, rfl⟩))
      go_ret
      exact ⟨rfl, hb1⟩

theorem keys_walk (a b : Nat) (w : World) (T : Tabs w) (ha : a < 18446744073709551616) (hb : b < 18446744073709551616) : Calls Tryz.prog 4 #[.int .u64 (a : Int), .int .u64 (b : Int)] w fun e w' => e = .returned (.bool true) ∧ Below w.heap.size w w' := by
  cases h : cmpB a b
  · exact keys_nan a b w T ha hb h
  · have : isN a = true ∧ isN b = true := by simpa [cmpB] using h
    exact keys_num a b w T ha hb this.1 this.2
end Go.Proofs.YtbemidnhljjfnaaGreatDoor
