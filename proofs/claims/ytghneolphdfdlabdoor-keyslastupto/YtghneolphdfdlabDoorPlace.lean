/- The document's order of any two numbers; the place of any number, and the number of any place, by the program and by the document. -/
import Derived.Test.YtghneolphdfdlabDoorCmp
namespace Go.Proofs.YtghneolphdfdlabDoor
open Go Go.RowKit

/-- The place of a number among all. -/
def keyI (a : Nat) : Int := if isN a then 9223372036854775808 + pos a else 0
def errN (b : Bool) : Int := if b then 0 else 22

theorem signbit_any (a : Nat) (w : World) (ha : a < 18446744073709551616) : Calls Tryd.prog 32 #[.float .f64 a] w fun e w' => e = .returned (.bool (decide (9223372036854775808 ≤ a))) ∧ w' = w := by
  have h1 := run_to
  by_cases h : 9223372036854775808 ≤ a
  · rw [decide_eq_true h]
    have h2 : IntKind.i64.wrap (a : Int) = (a : Int) - 18446744073709551616 := by
      simp only [IntKind.wrap_i64]; omega
    have h3 : wrap64 (a : Int) = (a : Int) - 18446744073709551616 := by
      unfold wrap64; omega
    have h4 : (a : Int) - 18446744073709551616 < 0 := by omega
    go_enter Tryd.func32, Tryd.ntmps32
    go_wp2
    go_ret
    exact ⟨rfl, rfl⟩
  · rw [decide_eq_false h]
    go_enter Tryd.func32, Tryd.ntmps32
    go_wp2
    go_ret
    exact ⟨rfl, rfl⟩

set_option maxHeartbeats 1000000 in
theorem key_any (a : Nat) (w : World) (ha : a < 18446744073709551616) : Calls Tryd.prog 21 #[.int .u64 (a : Int)] w fun e w' => e = .returned (.tuple #[.int .u64 (keyI a), .int .i64 (errN (isN a))]) ∧ w' = w := by
  have h1 := run_from
  have h2 := run_to
  have N := nan_any a
  have G := fun w => signbit_any a w ha
  have AB := fun w => abs_any a w ha
  have la := sz_lt a
  unfold keyI errN
  by_cases c1 : sz a ≤ 9218868437227405312
  · rw [decide_eq_false (by omega)] at N
    rw [isN_true c1]
    by_cases c2 : 9223372036854775808 ≤ a
    · rw [decide_eq_true c2] at G
      rw [pos_high c2 ha, if_pos rfl, if_pos rfl]
      obtain ⟨S, hS⟩ : ∃ S : Nat, S = sz a := ⟨_, rfl⟩
      rw [← hS] at AB c1 ⊢
      clear hS la c2
      go_enter Tryd.func21, Tryd.ntmps21
      go_wp2_with (first
        | (go_at_call 27; refine (N _).mono ?_; rintro e w1 ⟨rfl, rfl⟩)
        | (go_at_call 29; refine (AB _).mono ?_; rintro e w1 ⟨rfl, rfl⟩)
        | (go_at_call 32; refine (G _).mono ?_; rintro e w1 ⟨rfl, rfl⟩))
      go_ret2
      exact ⟨rfl, rfl⟩
    · rw [decide_eq_false c2] at G
      rw [pos_low (by omega), if_pos rfl, if_pos rfl]
      obtain ⟨S, hS⟩ : ∃ S : Nat, S = sz a := ⟨_, rfl⟩
      rw [← hS] at AB c1 ⊢
      clear hS la c2
      go_enter Tryd.func21, Tryd.ntmps21
      go_wp2_with (first
        | (go_at_call 27; refine (N _).mono ?_; rintro e w1 ⟨rfl, rfl⟩)
        | (go_at_call 29; refine (AB _).mono ?_; rintro e w1 ⟨rfl, rfl⟩)
        | (go_at_call 32; refine (G _).mono ?_; rintro e w1 ⟨rfl, rfl⟩))
      go_ret2
      exact ⟨rfl, rfl⟩
  · rw [decide_eq_true (by omega)] at N
    rw [isN_false c1]
    clear c1 la G AB
    go_enter Tryd.func21, Tryd.ntmps21
    go_wp2_with (go_at_call 27; refine (N _).mono ?_; rintro e w1 ⟨rfl, rfl⟩)
    go_ret2
    exact ⟨rfl, rfl⟩

/-- The number of a place. -/
def inK (k : Nat) : Bool := decide (4503599627370496 ≤ k ∧ k ≤ 18442240474082181120)
def fromN (k : Nat) : Nat := if inK k then (if k < 9223372036854775808 then 18446744073709551616 - k else k - 9223372036854775808) else 0

theorem inf_fix (w : World) : Calls Tryd.prog 34 #[.int .i64 1] w fun e w' => e = .returned (.float .f64 9218868437227405312) ∧ w' = w :=
  calls_of_run 100000 Tryd.f34 Tryd.func34 (fun _ _ => by kernel_rfl) (fun _ _ => by kernel_rfl) (fun _ _ => by kernel_rfl) (fun _ _ => by kernel_rfl) (fun _ _ => by kernel_rfl) (fun _ _ => by kernel_rfl) w

theorem or_sign (n : Nat) (h : n < 9223372036854775808) : bits .or .u64 (n : Int) 9223372036854775808 = ((n + 9223372036854775808 : Nat) : Int) := by
  have e := u64_or_nat n 9223372036854775808 (by omega) (by decide)
  have e2 : n ||| 9223372036854775808 = n + 9223372036854775808 := by
    rw [Nat.or_comm, show (9223372036854775808 : Nat) = 2 ^ 63 * 1 by decide, ← Nat.two_pow_add_eq_or_of_lt (i := 63) (by simpa using h)]
    omega
  rw [e2] at e
  exact e
theorem or_none (n : Nat) (h : n < 9223372036854775808) : bits .or .u64 (n : Int) 0 = (n : Int) := by
  have e := u64_or_nat n 0 (by omega) (by decide)
  simpa using e
theorem and_one : bits .and .u64 4607182418800017408 9223372036854775808 = 0 := by decide
theorem and_minus : bits .and .u64 13830554455654793216 9223372036854775808 = 9223372036854775808 := by decide

theorem copy_plus (n : Nat) (w : World) (hn : n < 9223372036854775808) : Calls Tryd.prog 35 #[.float .f64 n, .float .f64 4607182418800017408] w fun e w' => e = .returned (.float .f64 n) ∧ w' = w := by
  have h1 := run_from
  have h2 := run_to
  have h3 := andNot_sign n (by omega)
  rw [sz_low hn] at h3
  have h4 := or_none n hn
  have h5 := and_one
  go_enter Tryd.func35, Tryd.ntmps35
  go_wp2
  go_ret
  exact ⟨rfl, rfl⟩
theorem copy_minus (n : Nat) (w : World) (hn : n < 9223372036854775808) : Calls Tryd.prog 35 #[.float .f64 n, .float .f64 13830554455654793216] w fun e w' => e = .returned (.float .f64 (n + 9223372036854775808)) ∧ w' = w := by
  have h1 := run_from
  have h2 := run_to
  have h3 := andNot_sign n (by omega)
  rw [sz_low hn] at h3
  have h4 := or_sign n hn
  have h5 := and_minus
  go_enter Tryd.func35, Tryd.ntmps35
  go_wp2
  go_ret
  exact ⟨rfl, rfl⟩
end Go.Proofs.YtghneolphdfdlabDoor
