/- How any two numbers compare, and their places. -/
import Derived.Test.YtghneolphdfdlabDoorKinds
namespace Go.Proofs.YtghneolphdfdlabDoor
open Go Go.RowKit

/-- The order of two words that are numbers. -/
def ordN (a b : Nat) : Int := if pos a < pos b then -1 else if pos b < pos a then 1 else 0
def isN (a : Nat) : Bool := decide (sz a ≤ 9218868437227405312)
def cmpI (a b : Nat) : Int := if isN a && isN b then ordN a b else 0
def cmpB (a b : Nat) : Bool := isN a && isN b

theorem isN_true {a : Nat} (h : sz a ≤ 9218868437227405312) : isN a = true := decide_eq_true h
theorem isN_false {a : Nat} (h : ¬ sz a ≤ 9218868437227405312) : isN a = false := decide_eq_false h

set_option maxHeartbeats 1000000 in
theorem cmp_any (a b : Nat) (w : World) : Calls Tryd.prog 17 #[.int .u64 (a : Int), .int .u64 (b : Int)] w fun e w' => e = .returned (.tuple #[.int .i64 (cmpI a b), .bool (cmpB a b)]) ∧ w' = w := by
  have h1 := run_from
  have NA := nan_any a
  have NB := nan_any b
  unfold cmpI cmpB
  by_cases c1 : sz a ≤ 9218868437227405312
  · rw [decide_eq_false (by omega)] at NA
    by_cases c2 : sz b ≤ 9218868437227405312
    · rw [decide_eq_false (by omega)] at NB
      rw [isN_true c1, isN_true c2]
      have L := cmp_lt a b c1 c2
      have G := cmp_gt a b c1 c2
      show Calls _ _ _ _ fun e w' => e = .returned (.tuple #[.int .i64 (ordN a b), .bool true]) ∧ w' = w
      unfold ordN
      rcases Int.lt_trichotomy (pos a) (pos b) with h | h | h
      · rw [decide_eq_true h] at L
        rw [if_pos h]
        clear G h c1 c2
        go_enter Tryd.func17, Tryd.ntmps17
        go_wp2_with (go_at_call 27; (first | with_reducible refine (NA _).mono ?_ | with_reducible refine (NB _).mono ?_); rintro e w1 ⟨rfl, rfl⟩)
        go_ret2
        exact ⟨rfl, rfl⟩
      · rw [decide_eq_false (by omega)] at L G
        rw [if_neg (by omega), if_neg (by omega)]
        clear h c1 c2
        go_enter Tryd.func17, Tryd.ntmps17
        go_wp2_with (go_at_call 27; (first | with_reducible refine (NA _).mono ?_ | with_reducible refine (NB _).mono ?_); rintro e w1 ⟨rfl, rfl⟩)
        go_ret2
        exact ⟨rfl, rfl⟩
      · rw [decide_eq_false (by omega)] at L
        rw [decide_eq_true h] at G
        rw [if_neg (by omega), if_pos h]
        clear h c1 c2
        go_enter Tryd.func17, Tryd.ntmps17
        go_wp2_with (go_at_call 27; (first | with_reducible refine (NA _).mono ?_ | with_reducible refine (NB _).mono ?_); rintro e w1 ⟨rfl, rfl⟩)
        go_ret2
        exact ⟨rfl, rfl⟩
    · rw [decide_eq_true (by omega)] at NB
      rw [isN_true c1, isN_false c2]
      clear c1 c2
      go_enter Tryd.func17, Tryd.ntmps17
      go_wp2_with (go_at_call 27; (first | with_reducible refine (NA _).mono ?_ | with_reducible refine (NB _).mono ?_); rintro e w1 ⟨rfl, rfl⟩)
      go_ret2
      exact ⟨rfl, rfl⟩
  · rw [decide_eq_true (by omega)] at NA
    rw [isN_false c1]
    clear c1 NB
    go_enter Tryd.func17, Tryd.ntmps17
    go_wp2_with (go_at_call 27; refine (NA _).mono ?_; rintro e w1 ⟨rfl, rfl⟩)
    go_ret2
    exact ⟨rfl, rfl⟩

theorem kindN_nan (a : Nat) : (kindN a == 4) = !isN a := by
  unfold kindN isN
  by_cases h : sz a ≤ 9218868437227405312
  · rw [if_neg (by omega), decide_eq_true h]
    by_cases h1 : sz a = 9218868437227405312
    · rw [if_pos h1]; rfl
    · rw [if_neg h1]
      by_cases h2 : sz a = 0
      · rw [if_pos h2]; rfl
      · rw [if_neg h2]
        by_cases h3 : sz a < 4503599627370496
        · rw [if_pos h3]; rfl
        · rw [if_neg h3]; rfl
  · rw [if_pos (by omega), decide_eq_false h]; rfl

theorem pos_low {a : Nat} (h : a < 9223372036854775808) : pos a = (sz a : Int) := by
  rw [(small_word a h).2, (small_word a h).1]
theorem pos_high {a : Nat} (h : 9223372036854775808 ≤ a) (ha : a < 18446744073709551616) : pos a = -(sz a : Int) := by
  rw [pos_eq]
  have : sgn a = true := by
    unfold sgn
    have : a / 9223372036854775808 = 1 := by omega
    rw [this]; rfl
  rw [this]; rfl
theorem sz_low {a : Nat} (h : a < 9223372036854775808) : sz a = a := (small_word a h).1
theorem sz_high {a : Nat} (h : 9223372036854775808 ≤ a) (ha : a < 18446744073709551616) : sz a = a - 9223372036854775808 := by
  unfold sz; omega

end Go.Proofs.YtghneolphdfdlabDoor
