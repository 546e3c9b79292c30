/- The document's order of any two numbers; the place of any number, and the number of any place, by the program and by the document. -/
import Derived.Test.YtghneolphdfdlaaDoorCmp
namespace Go.Proofs.YtghneolphdfdlaaDoor
open Go Go.RowKit

set_option maxRecDepth 100000 in
set_option maxHeartbeats 4000000 in
theorem rcmp_num (a b : Nat) (w : World) (ha : a < 18446744073709551616) (hb : b < 18446744073709551616) (na : isN a = true) (nb : isN b = true) : Calls Tryd.prog 30 #[.int .u64 (a : Int), .int .u64 (b : Int)] w fun e w' => e = .returned (.tuple #[.int .i64 (ordN a b), .bool true]) ∧ w' = w := by
  have eA := kindN_nan a
  have eB := kindN_nan b
  rw [na] at eA
  rw [nb] at eB
  have KA := fun w => rkind_any a w
  have KB := fun w => rkind_any b w
  have SA := fun w => size_any a w
  have SB := fun w => size_any b w
  have la := sz_lt a
  have lb := sz_lt b
  have PA : (pos a = ((sz a : Nat) : Int) ∧ (a : Int) < 9223372036854775808) ∨ (pos a = -((sz a : Nat) : Int) ∧ 9223372036854775808 ≤ (a : Int)) := by
    by_cases h : a < 9223372036854775808
    · exact Or.inl ⟨pos_low h, by omega⟩
    · exact Or.inr ⟨pos_high (by omega) ha, by omega⟩
  have PB : (pos b = ((sz b : Nat) : Int) ∧ (b : Int) < 9223372036854775808) ∨ (pos b = -((sz b : Nat) : Int) ∧ 9223372036854775808 ≤ (b : Int)) := by
    by_cases h : b < 9223372036854775808
    · exact Or.inl ⟨pos_low h, by omega⟩
    · exact Or.inr ⟨pos_high (by omega) hb, by omega⟩
  unfold ordN
  generalize kindN a = ka at KA eA
  generalize kindN b = kb at KB eB
  generalize pos a = x at PA ⊢
  generalize pos b = y at PB ⊢
  obtain ⟨S, hS⟩ : ∃ S : Int, S = ((sz a : Nat) : Int) := ⟨_, rfl⟩
  obtain ⟨T, hT⟩ : ∃ T : Int, T = ((sz b : Nat) : Int) := ⟨_, rfl⟩
  rw [← hS] at SA PA
  rw [← hT] at SB PB
  have s0 : 0 ≤ S := by omega
  have s1 : S < 9223372036854775808 := by omega
  have t0 : 0 ≤ T := by omega
  have t1 : T < 9223372036854775808 := by omega
  clear hS hT la lb na nb ha hb
  generalize (a : Int) = A at KA SA PA ⊢
  generalize (b : Int) = B at KB SB PB ⊢
  simp only [Bool.not_true] at eA eB
  rcases Int.lt_trichotomy x y with h | h | h
  · rw [if_pos h]
    rcases PA with ⟨rfl, ga⟩ | ⟨rfl, ga⟩ <;> rcases PB with ⟨rfl, gb⟩ | ⟨rfl, gb⟩
    all_goals
      go_enter Tryd.func30, Tryd.ntmps30
      go_wp2_with (first
        | (go_at_call 39; (first | with_reducible refine (KA _).mono ?_ | with_reducible refine (KB _).mono ?_); rintro e w1 ⟨rfl, rfl⟩)
        | (go_at_call 46; (first | with_reducible refine (SA _).mono ?_ | with_reducible refine (SB _).mono ?_); rintro e w1 ⟨rfl, rfl⟩))
    all_goals go_ret2
    all_goals exact ⟨rfl, rfl⟩
  · rw [if_neg (by omega), if_neg (by omega)]
    have h2 : ¬ x < y := by omega
    have h3 : ¬ y < x := by omega
    clear h
    rcases PA with ⟨rfl, ga⟩ | ⟨rfl, ga⟩ <;> rcases PB with ⟨rfl, gb⟩ | ⟨rfl, gb⟩
    all_goals
      go_enter Tryd.func30, Tryd.ntmps30
      go_wp2_with (first
        | (go_at_call 39; (first | with_reducible refine (KA _).mono ?_ | with_reducible refine (KB _).mono ?_); rintro e w1 ⟨rfl, rfl⟩)
        | (go_at_call 46; (first | with_reducible refine (SA _).mono ?_ | with_reducible refine (SB _).mono ?_); rintro e w1 ⟨rfl, rfl⟩))
    all_goals go_ret2
    all_goals exact ⟨rfl, rfl⟩
  · rw [if_neg (by omega), if_pos h]
    have h2 : ¬ x < y := by omega
    rcases PA with ⟨rfl, ga⟩ | ⟨rfl, ga⟩ <;> rcases PB with ⟨rfl, gb⟩ | ⟨rfl, gb⟩
    all_goals
      go_enter Tryd.func30, Tryd.ntmps30
      go_wp2_with (first
        | (go_at_call 39; (first | with_reducible refine (KA _).mono ?_ | with_reducible refine (KB _).mono ?_); rintro e w1 ⟨rfl, rfl⟩)
        | (go_at_call 46; (first | with_reducible refine (SA _).mono ?_ | with_reducible refine (SB _).mono ?_); rintro e w1 ⟨rfl, rfl⟩))
    all_goals go_ret2
    all_goals exact ⟨rfl, rfl⟩

set_option maxHeartbeats 1000000 in
theorem rcmp_any (a b : Nat) (w : World) (ha : a < 18446744073709551616) (hb : b < 18446744073709551616) : Calls Tryd.prog 30 #[.int .u64 (a : Int), .int .u64 (b : Int)] w fun e w' => e = .returned (.tuple #[.int .i64 (cmpI a b), .bool (cmpB a b)]) ∧ w' = w := by
  unfold cmpI cmpB
  have eA := kindN_nan a
  have eB := kindN_nan b
  have KA := fun w => rkind_any a w
  have KB := fun w => rkind_any b w
  cases na : isN a
  · rw [na] at eA
    generalize kindN a = ka at KA eA
    clear eB KB na
    simp only [Bool.not_false] at eA
    go_enter Tryd.func30, Tryd.ntmps30
    go_wp2_with (go_at_call 39; refine (KA _).mono ?_; rintro e w1 ⟨rfl, rfl⟩)
    go_ret2
    exact ⟨rfl, rfl⟩
  · cases nb : isN b
    · rw [na] at eA
      rw [nb] at eB
      generalize kindN a = ka at KA eA
      generalize kindN b = kb at KB eB
      clear na nb
      simp only [Bool.not_false, Bool.not_true] at eA eB
      go_enter Tryd.func30, Tryd.ntmps30
      go_wp2_with (go_at_call 39; (first | with_reducible refine (KA _).mono ?_ | with_reducible refine (KB _).mono ?_); rintro e w1 ⟨rfl, rfl⟩)
      go_ret2
      exact ⟨rfl, rfl⟩
    · exact rcmp_num a b w ha hb na nb

/-- The place of a number among all. -/
def keyI (a : Nat) : Int := if isN a then 9223372036854775808 + pos a else 0
def errN (b : Bool) : Int := if b then 0 else 22

theorem signbit_any (a : Nat) (w : World) (ha : a < 18446744073709551616) : Calls Tryd.prog 51 #[.float .f64 a] w fun e w' => e = .returned (.bool (decide (9223372036854775808 ≤ a))) ∧ w' = w := by
  have h1 := run_to
  by_cases h : 9223372036854775808 ≤ a
  · rw [decide_eq_true h]
    have h2 : IntKind.i64.wrap (a : Int) = (a : Int) - 18446744073709551616 := by
      simp only [IntKind.wrap_i64]; omega
    have h3 : wrap64 (a : Int) = (a : Int) - 18446744073709551616 := by
      unfold wrap64; omega
    have h4 : (a : Int) - 18446744073709551616 < 0 := by omega
    go_enter Tryd.func51, Tryd.ntmps51
    go_wp2
    go_ret
    exact ⟨rfl, rfl⟩
  · rw [decide_eq_false h]
    go_enter Tryd.func51, Tryd.ntmps51
    go_wp2
    go_ret
    exact ⟨rfl, rfl⟩

set_option maxHeartbeats 1000000 in
theorem key_any (a : Nat) (w : World) (ha : a < 18446744073709551616) : Calls Tryd.prog 32 #[.int .u64 (a : Int)] w fun e w' => e = .returned (.tuple #[.int .u64 (keyI a), .int .i64 (errN (isN a))]) ∧ w' = w := by
  have h1 := run_from
  have h2 := run_to
  have N := nan_any a
  have G := fun w => signbit_any a w ha
  have AB := fun w => abs_any a w ha
  have la := sz_lt a
  unfold keyI errN
  by_cases c1 : sz a ≤ 9218868437227405312
  · rw [decide_eq_false (by omega)] at N
    rw [isN_true c1]
    by_cases c2 : 9223372036854775808 ≤ a
    · rw [decide_eq_true c2] at G
      rw [pos_high c2 ha, if_pos rfl, if_pos rfl]
      obtain ⟨S, hS⟩ : ∃ S : Nat, S = sz a := ⟨_, rfl⟩
      rw [← hS] at AB c1 ⊢
      clear hS la c2
      go_enter Tryd.func32, Tryd.ntmps32
      go_wp2_with (first
        | (go_at_call 48; refine (N _).mono ?_; rintro e w1 ⟨rfl, rfl⟩)
        | (go_at_call 50; refine (AB _).mono ?_; rintro e w1 ⟨rfl, rfl⟩)
        | (go_at_call 51; refine (G _).mono ?_; rintro e w1 ⟨rfl, rfl⟩))
      go_ret2
      exact ⟨rfl, rfl⟩
    · rw [decide_eq_false c2] at G
      rw [pos_low (by omega), if_pos rfl, if_pos rfl]
      obtain ⟨S, hS⟩ : ∃ S : Nat, S = sz a := ⟨_, rfl⟩
      rw [← hS] at AB c1 ⊢
      clear hS la c2
      go_enter Tryd.func32, Tryd.ntmps32
      go_wp2_with (first
        | (go_at_call 48; refine (N _).mono ?_; rintro e w1 ⟨rfl, rfl⟩)
        | (go_at_call 50; refine (AB _).mono ?_; rintro e w1 ⟨rfl, rfl⟩)
        | (go_at_call 51; refine (G _).mono ?_; rintro e w1 ⟨rfl, rfl⟩))
      go_ret2
      exact ⟨rfl, rfl⟩
  · rw [decide_eq_true (by omega)] at N
    rw [isN_false c1]
    clear c1 la G AB
    go_enter Tryd.func32, Tryd.ntmps32
    go_wp2_with (go_at_call 48; refine (N _).mono ?_; rintro e w1 ⟨rfl, rfl⟩)
    go_ret2
    exact ⟨rfl, rfl⟩

set_option maxHeartbeats 1000000 in
theorem rkey_any (a : Nat) (w : World) (ha : a < 18446744073709551616) : Calls Tryd.prog 35 #[.int .u64 (a : Int)] w fun e w' => e = .returned (.tuple #[.int .u64 (keyI a), .int .i64 (errN (isN a))]) ∧ w' = w := by
  have eA := kindN_nan a
  have KA := fun w => rkind_any a w
  have SA := fun w => size_any a w
  have la := sz_lt a
  unfold keyI errN
  cases na : isN a
  · rw [na] at eA
    generalize kindN a = ka at KA eA
    simp only [Bool.not_false] at eA
    clear na la SA
    go_enter Tryd.func35, Tryd.ntmps35
    go_wp2_with (go_at_call 39; refine (KA _).mono ?_; rintro e w1 ⟨rfl, rfl⟩)
    go_ret2
    exact ⟨rfl, rfl⟩
  · rw [na] at eA
    rw [if_pos rfl, if_pos rfl]
    simp only [Bool.not_true] at eA
    have PA : (pos a = ((sz a : Nat) : Int) ∧ (a : Int) < 9223372036854775808) ∨ (pos a = -((sz a : Nat) : Int) ∧ 9223372036854775808 ≤ (a : Int)) := by
      by_cases h : a < 9223372036854775808
      · exact Or.inl ⟨pos_low h, by omega⟩
      · exact Or.inr ⟨pos_high (by omega) ha, by omega⟩
    generalize kindN a = ka at KA eA
    generalize pos a = x at PA ⊢
    obtain ⟨S, hS⟩ : ∃ S : Int, S = ((sz a : Nat) : Int) := ⟨_, rfl⟩
    rw [← hS] at SA PA
    have s0 : 0 ≤ S := by omega
    have s1 : S < 9223372036854775808 := by omega
    clear hS la na ha
    generalize (a : Int) = A at KA SA PA ⊢
    rcases PA with ⟨rfl, ga⟩ | ⟨rfl, ga⟩
    all_goals
      go_enter Tryd.func35, Tryd.ntmps35
      go_wp2_with (first
        | (go_at_call 39; refine (KA _).mono ?_; rintro e w1 ⟨rfl, rfl⟩)
        | (go_at_call 46; refine (SA _).mono ?_; rintro e w1 ⟨rfl, rfl⟩))
      go_ret2
      exact ⟨rfl, rfl⟩

/-- The number of a place. -/
def inK (k : Nat) : Bool := decide (4503599627370496 ≤ k ∧ k ≤ 18442240474082181120)
def fromN (k : Nat) : Nat := if inK k then (if k < 9223372036854775808 then 18446744073709551616 - k else k - 9223372036854775808) else 0

theorem inf_fix (w : World) : Calls Tryd.prog 54 #[.int .i64 1] w fun e w' => e = .returned (.float .f64 9218868437227405312) ∧ w' = w :=
  calls_of_run 100000 Tryd.f54 Tryd.func54 (fun _ _ => by kernel_rfl) (fun _ _ => by kernel_rfl) (fun _ _ => by kernel_rfl) (fun _ _ => by kernel_rfl) (fun _ _ => by kernel_rfl) (fun _ _ => by kernel_rfl) w

theorem or_sign (n : Nat) (h : n < 9223372036854775808) : bits .or .u64 (n : Int) 9223372036854775808 = ((n + 9223372036854775808 : Nat) : Int) := by
  have e := u64_or_nat n 9223372036854775808 (by omega) (by decide)
  have e2 : n ||| 9223372036854775808 = n + 9223372036854775808 := by
    rw [Nat.or_comm, show (9223372036854775808 : Nat) = 2 ^ 63 * 1 by decide, ← Nat.two_pow_add_eq_or_of_lt (i := 63) (by simpa using h)]
    omega
  rw [e2] at e
  exact e
theorem or_none (n : Nat) (h : n < 9223372036854775808) : bits .or .u64 (n : Int) 0 = (n : Int) := by
  have e := u64_or_nat n 0 (by omega) (by decide)
  simpa using e
theorem and_one : bits .and .u64 4607182418800017408 9223372036854775808 = 0 := by decide
theorem and_minus : bits .and .u64 13830554455654793216 9223372036854775808 = 9223372036854775808 := by decide

theorem copy_plus (n : Nat) (w : World) (hn : n < 9223372036854775808) : Calls Tryd.prog 55 #[.float .f64 n, .float .f64 4607182418800017408] w fun e w' => e = .returned (.float .f64 n) ∧ w' = w := by
  have h1 := run_from
  have h2 := run_to
  have h3 := andNot_sign n (by omega)
  rw [sz_low hn] at h3
  have h4 := or_none n hn
  have h5 := and_one
  go_enter Tryd.func55, Tryd.ntmps55
  go_wp2
  go_ret
  exact ⟨rfl, rfl⟩
theorem copy_minus (n : Nat) (w : World) (hn : n < 9223372036854775808) : Calls Tryd.prog 55 #[.float .f64 n, .float .f64 13830554455654793216] w fun e w' => e = .returned (.float .f64 (n + 9223372036854775808)) ∧ w' = w := by
  have h1 := run_from
  have h2 := run_to
  have h3 := andNot_sign n (by omega)
  rw [sz_low hn] at h3
  have h4 := or_sign n hn
  have h5 := and_minus
  go_enter Tryd.func55, Tryd.ntmps55
  go_wp2
  go_ret
  exact ⟨rfl, rfl⟩
end Go.Proofs.YtghneolphdfdlaaDoor
