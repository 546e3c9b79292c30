/- The number of any place, by the program and by the document. -/
import Derived.Test.YtghneolphdfdlabDoorPlace
namespace Go.Proofs.YtghneolphdfdlabDoor
open Go Go.RowKit

theorem ret_pair {k l : IntKind} {a b c d : Int} (h : a = b) (h' : c = d) : Ending.returned (.tuple #[.int k a, .int l c]) = .returned (.tuple #[.int k b, .int l d]) := by rw [h, h']

set_option maxHeartbeats 1000000 in
theorem fromKey_any (k : Nat) (w : World) (hk : k < 18446744073709551616) : Calls Tryd.prog 24 #[.int .u64 (k : Int)] w fun e w' => e = .returned (.tuple #[.int .u64 ((fromN k : Nat) : Int), .int .i64 (errN (inK k))]) ∧ w' = w := by
  have h1 := run_from
  have h2 := run_to
  have I := inf_fix
  unfold fromN errN
  obtain ⟨K, hK⟩ : ∃ K : Int, K = k := ⟨_, rfl⟩
  by_cases c1 : k < 9223372036854775808
  · obtain ⟨n, hn⟩ : ∃ n : Nat, n = 9223372036854775808 - k := ⟨_, rfl⟩
    have e1 : (9223372036854775808 - K).toNat = n := by omega
    by_cases c2 : 4503599627370496 ≤ k
    · have e : inK k = true := decide_eq_true ⟨c2, by omega⟩
      rw [e, if_pos rfl, if_pos c1, if_pos rfl]
      have CM := fun w => copy_minus n w (by omega)
      have e3 : ((18446744073709551616 - k : Nat) : Int) = ((n + 9223372036854775808 : Nat) : Int) := by omega
      rw [e3, ← hK]
      have d0 : 0 ≤ K := by omega
      have d1 : K < 9223372036854775808 := by omega
      have d3 : (9223372036854775808 : Int) - K ≤ 9218868437227405312 := by omega
      clear e e3 c1 c2 hK hk hn
      go_enter Tryd.func24, Tryd.ntmps24
      go_wp2_with (first
        | (go_at_call 34; refine (I _).mono ?_; rintro e w1 ⟨rfl, rfl⟩)
        | (go_at_call 35; refine (CM _).mono ?_; rintro e w1 ⟨rfl, rfl⟩))
      go_ret2
      exact ⟨ret_pair (by omega) rfl, rfl⟩
    · have e : inK k = false := decide_eq_false (by omega)
      rw [e, ← hK]
      have d0 : 0 ≤ K := by omega
      have d1 : K < 9223372036854775808 := by omega
      have d3 : 9218868437227405312 < (9223372036854775808 : Int) - K := by omega
      clear e c1 c2 hK hk hn
      go_enter Tryd.func24, Tryd.ntmps24
      go_wp2_with (first
        | (go_at_call 34; refine (I _).mono ?_; rintro e w1 ⟨rfl, rfl⟩))
      go_ret2
      exact ⟨rfl, rfl⟩
  · obtain ⟨n, hn⟩ : ∃ n : Nat, n = k - 9223372036854775808 := ⟨_, rfl⟩
    have e1 : (K - 9223372036854775808).toNat = n := by omega
    by_cases c2 : k ≤ 18442240474082181120
    · have e : inK k = true := decide_eq_true ⟨by omega, c2⟩
      rw [e, if_pos rfl, if_neg c1, if_pos rfl, ← hn]
      have CP := fun w => copy_plus n w (by omega)
      rw [← hK]
      have d1 : 9223372036854775808 ≤ K := by omega
      have d2 : K < 18446744073709551616 := by omega
      have d3 : K - 9223372036854775808 ≤ 9218868437227405312 := by omega
      clear e c1 c2 hK hk hn
      go_enter Tryd.func24, Tryd.ntmps24
      go_wp2_with (first
        | (go_at_call 34; refine (I _).mono ?_; rintro e w1 ⟨rfl, rfl⟩)
        | (go_at_call 35; refine (CP _).mono ?_; rintro e w1 ⟨rfl, rfl⟩))
      go_ret2
      exact ⟨ret_pair (by omega) rfl, rfl⟩
    · have e : inK k = false := decide_eq_false (by omega)
      rw [e, ← hK]
      have d1 : 9223372036854775808 ≤ K := by omega
      have d2 : K < 18446744073709551616 := by omega
      have d3 : 9218868437227405312 < K - 9223372036854775808 := by omega
      clear e c1 c2 hK hk hn
      go_enter Tryd.func24, Tryd.ntmps24
      go_wp2_with (first
        | (go_at_call 34; refine (I _).mono ?_; rintro e w1 ⟨rfl, rfl⟩))
      go_ret2
      exact ⟨rfl, rfl⟩
end Go.Proofs.YtghneolphdfdlabDoor
