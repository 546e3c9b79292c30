/- Four statements' walks: any two compare as the document says; keys and numbers of keys are as the document says; keys stand as their numbers do; numbers of neighbouring keys are neighbours. -/
import Derived.Test.YtbemidnhljjfnaaGreatDoorFromKey
import Derived.Test.YtbemidnhljjfnaaGreatDoorFixed
namespace Go.Proofs.YtbemidnhljjfnaaGreatDoor
open Go Go.RowKit

theorem cmp_flip (a b : Nat) : cmpI b a = - cmpI a b ∧ cmpB b a = cmpB a b ∧ -1 ≤ cmpI a b ∧ cmpI a b ≤ 1 := by
  unfold cmpI cmpB ordN
  cases isN a <;> cases isN b <;> simp only [Bool.and_true, Bool.and_false, Bool.false_eq_true, if_false, if_true] <;> refine ⟨?_, trivial, ?_, ?_⟩ <;> (try decide)
  all_goals
    rcases Int.lt_trichotomy (pos a) (pos b) with h | h | h
    · rw [if_pos h]; try rw [if_neg (by omega), if_pos h]
      all_goals decide
    · rw [if_neg (by omega), if_neg (by omega)]; try rw [if_neg (by omega), if_neg (by omega)]
      all_goals decide
    · first
        | (rw [if_pos h, if_neg (by omega), if_pos h])
        | (rw [if_neg (by omega), if_pos h])
      all_goals decide

set_option maxHeartbeats 1000000 in
theorem cmps_walk (a b : Nat) (w : World) (T : Tabs w) (ha : a < 18446744073709551616) (hb : b < 18446744073709551616) : Calls Tryz.prog 3 #[.int .u64 (a : Int), .int .u64 (b : Int)] w fun e w' => e = .returned (.bool true) ∧ Below w.heap.size w w' := by
  have C1 := fun w => cmp_any a b w
  have C2 := fun w => rcmp_any a b w ha hb
  have C3 := fun w => cmp_any b a w
  obtain ⟨f1, f2, f3, f4⟩ := cmp_flip a b
  rw [f1, f2] at C3
  generalize cmpI a b = c at *
  generalize cmpB a b = o at *
  generalize (a : Int) = A at *
  generalize (b : Int) = B at *
  clear f1 f2 ha hb
  go_enter Tryz.func3, Tryz.ntmps3
  go_wp2_with (first
    | (go_at_call 11; refine (fixed_any _ T).mono ?_; rintro e w1 ⟨rfl, hb1⟩)
    | (go_at_call 9; (first | with_reducible refine (C1 _).mono ?_ | with_reducible refine (C3 _).mono ?_); rintro e w2 ⟨rfl, rfl⟩)
    | (go_at_call 10; refine (C2 _).mono ?_; rintro e w3 ⟨rfl, rfl⟩))
  go_ret
  exact ⟨rfl, hb1⟩
end Go.Proofs.YtbemidnhljjfnaaGreatDoor
