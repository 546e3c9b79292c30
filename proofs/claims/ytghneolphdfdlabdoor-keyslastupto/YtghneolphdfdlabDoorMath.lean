/- What math tells of any number, and its kind. -/
import Derived.Test.YtghneolphdfdlabDoorOrd
import Derived.Test.YtghneolphdfdlabDoorExt
import Derived.WalkSpells
import Derived.WalkLawsBesides
import Derived.Handy
import Derived.Laws.FloatArith
import Derived.Laws.Cover2
import Derived.Laws.BitsAllLaws
namespace Go.Proofs.YtghneolphdfdlabDoor
open Go Go.RowKit

theorem sz_lt (n : Nat) : sz n < 9223372036854775808 := Nat.mod_lt _ (by decide)
theorem andNot_sign (n : Nat) (h : n < 18446744073709551616) : bits .andNot .u64 (n : Int) 9223372036854775808 = ((sz n : Nat) : Int) := by
  have e := u64_andNot_nat n 9223372036854775808 h (by decide)
  rw [show 18446744073709551615 - 9223372036854775808 = 2 ^ 63 - 1 by decide, Nat.and_two_pow_sub_one_eq_mod] at e
  exact e
theorem small_word (m : Nat) (h : m < 9223372036854775808) : sz m = m ∧ pos m = (m : Int) := by
  have e : sz m = m := Nat.mod_eq_of_lt h
  refine ⟨e, ?_⟩
  rw [pos_eq, e]
  have : sgn m = false := by
    unfold sgn
    rw [Nat.div_eq_of_lt h]; rfl
  rw [this]; rfl
theorem cmp_cases (a b : Int) : (compare a b == Ordering.lt) = decide (a < b) ∧ (compare a b == Ordering.gt) = decide (b < a) ∧ (compare a b == Ordering.eq) = decide (a = b) := by
  show (compareOfLessAndEq a b == _) = _ ∧ (compareOfLessAndEq a b == _) = _ ∧ (compareOfLessAndEq a b == _) = _
  unfold compareOfLessAndEq
  rcases Int.lt_trichotomy a b with h | h | h
  · rw [if_pos h, decide_eq_true h, decide_eq_false (by omega), decide_eq_false (by omega)]; exact ⟨rfl, rfl, rfl⟩
  · rw [if_neg (by omega), if_pos h, decide_eq_false (by omega), decide_eq_false (by omega), decide_eq_true h]; exact ⟨rfl, rfl, rfl⟩
  · rw [if_neg (by omega), if_neg (by omega), decide_eq_false (by omega), decide_eq_true h, decide_eq_false (by omega)]; exact ⟨rfl, rfl, rfl⟩
theorem some_beq (o p : Ordering) : (some o == some p) = (o == p) := by cases o <;> cases p <;> rfl

theorem order64 (x y : Nat) : FloatKind.f64.format.order x y = Ieee.double.order x y := rfl

theorem ne_self (n : Nat) : (FloatKind.f64.format.order n n != some .eq) = decide (9218868437227405312 < sz n) := by
  rw [order64]
  by_cases h : 9218868437227405312 < sz n
  · rw [order_nanL n n h, decide_eq_true h]; rfl
  · rw [order_eq n n (by omega) (by omega), decide_eq_false h]
    have : compare (pos n) (pos n) = .eq := by
      show compareOfLessAndEq _ _ = _
      unfold compareOfLessAndEq
      rw [if_neg (by omega), if_pos rfl]
    rw [this]; rfl

theorem nan_any (n : Nat) (w : World) : Calls Tryd.prog 27 #[.float .f64 n] w fun e w' => e = .returned (.bool (decide (9218868437227405312 < sz n))) ∧ w' = w := by
  have h := ne_self n
  go_enter Tryd.func27, Tryd.ntmps27
  go_wp2
  go_ret
  exact ⟨rfl, rfl⟩

theorem cmp_lt (x y : Nat) (hx : sz x ≤ 9218868437227405312) (hy : sz y ≤ 9218868437227405312) : (FloatKind.f64.format.order x y == some .lt) = decide (pos x < pos y) := by
  rw [order64, order_eq x y hx hy, some_beq]; exact (cmp_cases _ _).1
theorem cmp_gt (x y : Nat) (hx : sz x ≤ 9218868437227405312) (hy : sz y ≤ 9218868437227405312) : (FloatKind.f64.format.order x y == some .gt) = decide (pos y < pos x) := by
  rw [order64, order_eq x y hx hy, some_beq]; exact (cmp_cases _ _).2.1
theorem cmp_eq (x y : Nat) (hx : sz x ≤ 9218868437227405312) (hy : sz y ≤ 9218868437227405312) : (FloatKind.f64.format.order x y == some .eq) = decide (pos x = pos y) := by
  rw [order64, order_eq x y hx hy, some_beq]; exact (cmp_cases _ _).2.2

theorem abs_any (n : Nat) (w : World) (hn : n < 18446744073709551616) : Calls Tryd.prog 29 #[.float .f64 n] w fun e w' => e = .returned (.float .f64 (sz n)) ∧ w' = w := by
  have h1 := run_to
  have h2 := run_from
  have h := andNot_sign n hn
  go_enter Tryd.func29, Tryd.ntmps29
  go_wp2
  go_ret
  exact ⟨rfl, rfl⟩

theorem above_max (n : Nat) : (FloatKind.f64.format.order (sz n) 9218868437227405311 == some .gt) = decide (sz n = 9218868437227405312) := by
  obtain ⟨e1, e2⟩ := small_word (sz n) (sz_lt n)
  obtain ⟨e3, e4⟩ := small_word 9218868437227405311 (by decide)
  by_cases h : 9218868437227405312 < sz n
  · rw [order64, order_nanL (sz n) _ (by rw [e1]; exact h), decide_eq_false (by omega)]; rfl
  · rw [cmp_gt (sz n) _ (by omega) (by rw [e3]; decide), e2, e4]
    apply decide_eq_decide.2
    omega

theorem inf_any (n : Nat) (w : World) (hn : n < 18446744073709551616) : Calls Tryd.prog 28 #[.float .f64 n, .int .i64 0] w fun e w' => e = .returned (.bool (decide (sz n = 9218868437227405312))) ∧ w' = w := by
  have h := above_max n
  go_enter Tryd.func28, Tryd.ntmps28
  go_wp2_with (go_at_call 29; refine (abs_any n _ hn).mono ?_; rintro e w1 ⟨rfl, rfl⟩)
  go_ret
  exact ⟨rfl, rfl⟩

def kindN (n : Nat) : Int := if 9218868437227405312 < sz n then 4 else if sz n = 9218868437227405312 then 3 else if sz n = 0 then 0 else if sz n < 4503599627370496 then 1 else 2

theorem is_zero (n : Nat) (h : sz n ≤ 9218868437227405312) : (FloatKind.f64.format.order n 0 == some .eq) = decide (sz n = 0) := by
  rw [cmp_eq n 0 h (by decide), (small_word 0 (by decide)).2, pos_eq]
  apply decide_eq_decide.2
  cases sgn n <;> simp
theorem is_tiny (n : Nat) (h : sz n ≤ 9218868437227405312) : (FloatKind.f64.format.order (sz n) 4503599627370496 == some .lt) = decide (sz n < 4503599627370496) := by
  obtain ⟨e1, e2⟩ := small_word (sz n) (sz_lt n)
  obtain ⟨e3, e4⟩ := small_word 4503599627370496 (by decide)
  rw [cmp_lt (sz n) _ (by omega) (by rw [e3]; decide), e2, e4]
  apply decide_eq_decide.2
  omega

set_option maxHeartbeats 1000000 in
theorem kind_any (n : Nat) (w : World) (hn : n < 18446744073709551616) : Calls Tryd.prog 16 #[.int .u64 (n : Int)] w fun e w' => e = .returned (.int .i64 (kindN n)) ∧ w' = w := by
  have h1 := run_from
  have N := nan_any n
  have I := inf_any n
  by_cases c1 : 9218868437227405312 < sz n
  · rw [decide_eq_true c1] at N
    have e : kindN n = 4 := if_pos c1
    rw [e]
    clear e I c1
    go_enter Tryd.func16, Tryd.ntmps16
    go_wp2_with (go_at_call 27; refine (N _).mono ?_; rintro e w1 ⟨rfl, rfl⟩)
    go_ret
    exact ⟨rfl, rfl⟩
  · rw [decide_eq_false c1] at N
    have Z := is_zero n (by omega)
    have Y := is_tiny n (by omega)
    by_cases c2 : sz n = 9218868437227405312
    · rw [decide_eq_true c2] at I
      have e : kindN n = 3 := (if_neg c1).trans (if_pos c2)
      rw [e]
      clear e Z Y c1 c2
      go_enter Tryd.func16, Tryd.ntmps16
      go_wp2_with (first
        | (go_at_call 27; refine (N _).mono ?_; rintro e w1 ⟨rfl, rfl⟩)
        | (go_at_call 28; refine (I _ hn).mono ?_; rintro e w1 ⟨rfl, rfl⟩))
      go_ret
      exact ⟨rfl, rfl⟩
    · rw [decide_eq_false c2] at I
      by_cases c3 : sz n = 0
      · rw [decide_eq_true c3] at Z
        have e : kindN n = 0 := (if_neg c1).trans ((if_neg c2).trans (if_pos c3))
        rw [e]
        clear e Y c1 c2 c3
        go_enter Tryd.func16, Tryd.ntmps16
        go_wp2_with (first
          | (go_at_call 27; refine (N _).mono ?_; rintro e w1 ⟨rfl, rfl⟩)
          | (go_at_call 28; refine (I _ hn).mono ?_; rintro e w1 ⟨rfl, rfl⟩))
        go_ret
        exact ⟨rfl, rfl⟩
      · rw [decide_eq_false c3] at Z
        by_cases c4 : sz n < 4503599627370496
        · rw [decide_eq_true c4] at Y
          have e : kindN n = 1 := (if_neg c1).trans ((if_neg c2).trans ((if_neg c3).trans (if_pos c4)))
          rw [e]
          clear e c1 c2 c3 c4
          go_enter Tryd.func16, Tryd.ntmps16
          go_wp2_with (first
            | (go_at_call 27; refine (N _).mono ?_; rintro e w1 ⟨rfl, rfl⟩)
            | (go_at_call 28; refine (I _ hn).mono ?_; rintro e w1 ⟨rfl, rfl⟩)
            | (go_at_call 29; refine (abs_any n _ hn).mono ?_; rintro e w1 ⟨rfl, rfl⟩))
          go_ret
          exact ⟨rfl, rfl⟩
        · rw [decide_eq_false c4] at Y
          have e : kindN n = 2 := (if_neg c1).trans ((if_neg c2).trans ((if_neg c3).trans (if_neg c4)))
          rw [e]
          clear e c1 c2 c3 c4
          go_enter Tryd.func16, Tryd.ntmps16
          go_wp2_with (first
            | (go_at_call 27; refine (N _).mono ?_; rintro e w1 ⟨rfl, rfl⟩)
            | (go_at_call 28; refine (I _ hn).mono ?_; rintro e w1 ⟨rfl, rfl⟩)
            | (go_at_call 29; refine (abs_any n _ hn).mono ?_; rintro e w1 ⟨rfl, rfl⟩))
          go_ret
          exact ⟨rfl, rfl⟩
end Go.Proofs.YtghneolphdfdlabDoor
