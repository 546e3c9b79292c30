/- The kind of any bits, as the document says it. -/
import Derived.Test.YtghneolphdfdlaaDoorMath
namespace Go.Proofs.YtghneolphdfdlaaDoor
open Go Go.RowKit

theorem size_any (n : Nat) (w : World) : Calls Tryd.prog 46 #[.int .u64 (n : Int)] w fun e w' => e = .returned (.int .u64 ((sz n : Nat) : Int)) ∧ w' = w := by
  have h : (n : Int) % 9223372036854775808 = ((sz n : Nat) : Int) := rfl
  go_enter Tryd.func46, Tryd.ntmps46
  go_wp2
  go_ret
  exact ⟨rfl, rfl⟩

set_option maxHeartbeats 1000000 in
theorem rkind_any (n : Nat) (w : World) : Calls Tryd.prog 39 #[.int .u64 (n : Int)] w fun e w' => e = .returned (.int .i64 (kindN n)) ∧ w' = w := by
  have hS := size_any n
  have hl := sz_lt n
  unfold kindN
  obtain ⟨S, hSn⟩ : ∃ S : Int, S = ((sz n : Nat) : Int) := ⟨_, rfl⟩
  rw [← hSn] at hS
  have h0 : 0 ≤ S := by omega
  have h63 : S < 9223372036854775808 := by omega
  obtain ⟨q, hq⟩ : ∃ q, S / 4503599627370496 = q := ⟨_, rfl⟩
  obtain ⟨f, hf⟩ : ∃ f, S % 4503599627370496 = f := ⟨_, rfl⟩
  have F : 0 ≤ q ∧ q ≤ 2047 ∧ 0 ≤ f ∧ f < 4503599627370496 ∧ S = q * 4503599627370496 + f := by omega
  obtain ⟨b1, b2, b3, b4, b5⟩ := F
  rcases (by omega : (q = 2047 ∧ 0 < f) ∨ (q = 2047 ∧ f = 0) ∨ (0 < q ∧ q < 2047) ∨ (q = 0 ∧ 0 < f) ∨ (q = 0 ∧ f = 0)) with ⟨c1, c2⟩ | ⟨c1, c2⟩ | ⟨c1, c2⟩ | ⟨c1, c2⟩ | ⟨c1, c2⟩
  · rw [if_pos (by omega)]
    subst c1
    clear b5 b1 b2 b3 hSn hl
    go_enter Tryd.func39, Tryd.ntmps39
    go_wp2_with (go_at_call 46; refine (hS _).mono ?_; rintro e w1 ⟨rfl, rfl⟩)
    go_ret
    exact ⟨rfl, rfl⟩
  · rw [if_neg (by omega), if_pos (by omega)]
    subst c1 c2
    clear b5 b1 b2 b3 b4 hSn hl
    go_enter Tryd.func39, Tryd.ntmps39
    go_wp2_with (go_at_call 46; refine (hS _).mono ?_; rintro e w1 ⟨rfl, rfl⟩)
    go_ret
    exact ⟨rfl, rfl⟩
  · rw [if_neg (by omega), if_neg (by omega), if_neg (by omega), if_neg (by omega)]
    have c3 : (q == 2047) = false := by simp; omega
    clear b5 b1 b2 hSn hl
    go_enter Tryd.func39, Tryd.ntmps39
    go_wp2_with (go_at_call 46; refine (hS _).mono ?_; rintro e w1 ⟨rfl, rfl⟩)
    go_ret
    exact ⟨rfl, rfl⟩
  · rw [if_neg (by omega), if_neg (by omega), if_neg (by omega), if_pos (by omega)]
    subst c1
    clear b5 b1 b2 hSn hl
    go_enter Tryd.func39, Tryd.ntmps39
    go_wp2_with (go_at_call 46; refine (hS _).mono ?_; rintro e w1 ⟨rfl, rfl⟩)
    go_ret
    exact ⟨rfl, rfl⟩
  · rw [if_neg (by omega), if_neg (by omega), if_pos (by omega)]
    subst c1 c2
    clear b5 b1 b2 b3 b4 hSn hl
    go_enter Tryd.func39, Tryd.ntmps39
    go_wp2_with (go_at_call 46; refine (hS _).mono ?_; rintro e w1 ⟨rfl, rfl⟩)
    go_ret
    exact ⟨rfl, rfl⟩

end Go.Proofs.YtghneolphdfdlaaDoor
