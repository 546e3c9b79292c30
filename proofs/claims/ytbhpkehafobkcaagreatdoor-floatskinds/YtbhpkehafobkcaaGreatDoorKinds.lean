/- The kind of any bits is the one that the document says (for every word of 64 bits). -/
import Derived.Test.YtbhpkehafobkcaaGreatDoorMath
import Derived.Test.YtbhpkehafobkcaaGreatDoorFixed
namespace Go.Proofs.YtbhpkehafobkcaaGreatDoor
open Go Go.RowKit

theorem size_any (n : Nat) (w : World) : Calls Tryz.prog 25 #[.int .u64 (n : Int)] w fun e w' => e = .returned (.int .u64 ((sz n : Nat) : Int)) ∧ w' = w := by
  have h : (n : Int) % 9223372036854775808 = ((sz n : Nat) : Int) := rfl
  go_enter Tryz.func25, Tryz.ntmps25
  go_wp2
  go_ret
  exact ⟨rfl, rfl⟩

set_option maxHeartbeats 1000000 in
theorem rkind_any (n : Nat) (w : World) : Calls Tryz.prog 11 #[.int .u64 (n : Int)] w fun e w' => e = .returned (.int .i64 (kindN n)) ∧ w' = w := by
  have hS := size_any n
  have hl := sz_lt n
  unfold kindN
  obtain ⟨S, hSn⟩ : ∃ S : Int, S = ((sz n : Nat) : Int) := ⟨_, rfl⟩
  rw [← hSn] at hS
  have h0 : 0 ≤ S := by omega
  have h63 : S < 9223372036854775808 := by omega
  obtain ⟨q, hq⟩ : ∃ q, S / 4503599627370496 = q := ⟨_, rfl⟩
  obtain ⟨f, hf⟩ : ∃ f, S % 4503599627370496 = f := ⟨_, rfl⟩
  have F : 0 ≤ q ∧ q ≤ 2047 ∧ 0 ≤ f ∧ f < 4503599627370496 ∧ S = q * 4503599627370496 + f := by omega
  obtain ⟨b1, b2, b3, b4, b5⟩ := F
  rcases (by omega : (q = 2047 ∧ 0 < f) ∨ (q = 2047 ∧ f = 0) ∨ (0 < q ∧ q < 2047) ∨ (q = 0 ∧ 0 < f) ∨ (q = 0 ∧ f = 0)) with ⟨c1, c2⟩ | ⟨c1, c2⟩ | ⟨c1, c2⟩ | ⟨c1, c2⟩ | ⟨c1, c2⟩
  · rw [if_pos (by omega)]
    subst c1
    clear b5 b1 b2 b3 hSn hl
    go_enter Tryz.func11, Tryz.ntmps11
    go_wp2_with (go_at_call 25; refine (hS _).mono ?_; rintro e w1 ⟨rfl, rfl⟩)
    go_ret
    exact ⟨rfl, rfl⟩
  · rw [if_neg (by omega), if_pos (by omega)]
    subst c1 c2
    clear b5 b1 b2 b3 b4 hSn hl
    go_enter Tryz.func11, Tryz.ntmps11
    go_wp2_with (go_at_call 25; refine (hS _).mono ?_; rintro e w1 ⟨rfl, rfl⟩)
    go_ret
    exact ⟨rfl, rfl⟩
  · rw [if_neg (by omega), if_neg (by omega), if_neg (by omega), if_neg (by omega)]
    have c3 : (q == 2047) = false := by simp; omega
    clear b5 b1 b2 hSn hl
    go_enter Tryz.func11, Tryz.ntmps11
    go_wp2_with (go_at_call 25; refine (hS _).mono ?_; rintro e w1 ⟨rfl, rfl⟩)
    go_ret
    exact ⟨rfl, rfl⟩
  · rw [if_neg (by omega), if_neg (by omega), if_neg (by omega), if_pos (by omega)]
    subst c1
    clear b5 b1 b2 hSn hl
    go_enter Tryz.func11, Tryz.ntmps11
    go_wp2_with (go_at_call 25; refine (hS _).mono ?_; rintro e w1 ⟨rfl, rfl⟩)
    go_ret
    exact ⟨rfl, rfl⟩
  · rw [if_neg (by omega), if_neg (by omega), if_pos (by omega)]
    subst c1 c2
    clear b5 b1 b2 b3 b4 hSn hl
    go_enter Tryz.func11, Tryz.ntmps11
    go_wp2_with (go_at_call 25; refine (hS _).mono ?_; rintro e w1 ⟨rfl, rfl⟩)
    go_ret
    exact ⟨rfl, rfl⟩

set_option maxHeartbeats 1000000 in
theorem kinds_walk (n : Nat) (w : World) (T : Tabs w) (hn : n < 18446744073709551616) : Calls Tryz.prog 3 #[.int .u64 (n : Int)] w fun e w' => e = .returned (.bool true) ∧ Below w.heap.size w w' := by
  have K := fun w => kind_any n w hn
  have R := fun w => rkind_any n w
  generalize kindN n = k at K R
  go_enter Tryz.func3, Tryz.ntmps3
  go_wp2_with (first
    | (go_at_call 9; refine (fixed_any _ T).mono ?_; rintro e w1 ⟨rfl, hb1⟩)
    | (go_at_call 10; refine (K _).mono ?_; rintro e w2 ⟨rfl, rfl⟩)
    | (go_at_call 11; refine (R _).mono ?_; rintro e w3 ⟨rfl, rfl⟩))
  go_ret
  exact ⟨rfl, hb1⟩
end Go.Proofs.YtbhpkehafobkcaaGreatDoor
