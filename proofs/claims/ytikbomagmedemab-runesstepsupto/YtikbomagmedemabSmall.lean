/- The small functions that package runes and the library's packages utf8 and strings bring: each returns what its twin says; the world stands. -/
import Derived.Test.YtikbomagmedemabRows
import Derived.Test.YtikbomagmedemabDec
import Derived.WalkKit
import Derived.WalkSpells
import Derived.WalkLawsBesides
import Derived.Deep.QuietTactic
import Derived.Deep.Light
import Derived.BigQuiet
import Derived.Lib.OthersKept
namespace Go.Proofs.Ytikbomagmedemab
open Go.RowKit

theorem ret_int {k : IntKind} {a b : Int} (h : a = b) : Ending.returned (.int k a) = .returned (.int k b) := by rw [h]
theorem ret_bool {a b : Bool} (h : a = b) : Ending.returned (.bool a) = .returned (.bool b) := by rw [h]

set_option maxHeartbeats 400000 in
theorem runeLen_any (r : Int) (w : World) : Calls Try.prog 23 #[.int .i32 r] w fun e w' => e = .returned (.int .i64 (runeLen r)) ∧ w' = w := by
  go_enter Try.func23, Try.ntmps23
  go_wp2
  all_goals (go_ret; refine ⟨ret_int ?_, rfl⟩; unfold runeLen; repeat (first | rfl | omega | split))

set_option maxHeartbeats 400000 in
theorem validRune_any (r : Int) (w : World) : Calls Try.prog 25 #[.int .i32 r] w fun e w' => e = .returned (.bool (validB r)) ∧ w' = w := by
  go_enter Try.func25, Try.ntmps25
  go_wp2
  all_goals (go_ret; refine ⟨ret_bool ?_, rfl⟩; unfold validB; first | (symm; rw [decide_eq_true_eq]; omega) | (symm; rw [decide_eq_false_iff_not]; omega))

def sourceB (c : Int) : Bool := c == 9 || c == 10 || c == 13 || (decide (32 ≤ c) && decide (c ≤ 65535))

set_option maxHeartbeats 400000 in
theorem isSource_any (c : Int) (w : World) : Calls Try.prog 20 #[.int .i64 c] w fun e w' => e = .returned (.bool (sourceB c)) ∧ w' = w := by
  go_enter Try.func20, Try.ntmps20
  go_wp2
  all_goals (go_ret; refine ⟨ret_bool ?_, rfl⟩; go_light; unfold sourceB; simp_all <;> omega)

set_option maxHeartbeats 400000 in
theorem isCharacter_any (c : Int) (w : World) : Calls Try.prog 22 #[.int .i64 c] w fun e w' => e = .returned (.bool (charB c)) ∧ w' = w := by
  go_enter Try.func22, Try.ntmps22
  go_wp2_with (go_at_call 25; refine (validRune_any _ _).mono ?_; rintro e w' ⟨rfl, rfl⟩)
  all_goals (go_ret; refine ⟨ret_bool ?_, rfl⟩; go_light; unfold charB; simp_all <;> omega)

set_option maxHeartbeats 400000 in
theorem hasPrefix_any (s t : ByteArray) (w : World) : Calls Try.prog 26 #[.string s, .string t] w fun e w' => e = .returned (.bool (hpB s t)) ∧ w' = w := by
  go_enter Try.func26, Try.ntmps26
  go_wp2
  all_goals (go_ret; refine ⟨ret_bool ?_, rfl⟩; go_light; unfold hpB; simp_all <;> omega)

set_option maxHeartbeats 400000 in
theorem sHasPrefix_any (s t : ByteArray) (w : World) : Calls Try.prog 24 #[.string s, .string t] w fun e w' => e = .returned (.bool (hpB s t)) ∧ w' = w := by
  go_enter Try.func24, Try.ntmps24
  go_wp2_with (go_at_call 26; refine (hasPrefix_any _ _ _).mono ?_; rintro e w' ⟨rfl, rfl⟩)
  go_ret
  exact ⟨rfl, rfl⟩

-- Put: a character's bytes, or error 10.
set_option maxHeartbeats 400000 in
theorem put_yes (c : Int) (w : World) (h : charB c = true) : Calls Try.prog 13 #[.int .i64 c] w fun e w' => e = .returned (.tuple #[.string (Utf8.encode c), .int .i64 0]) ∧ w' = w := by
  obtain ⟨h1, h2⟩ := charB_bd h
  go_enter Try.func13, Try.ntmps13
  go_wp2_with (go_at_call 22; refine (isCharacter_any _ _).mono ?_; rintro e w' ⟨rfl, rfl⟩)
  go_ret2
  exact ⟨rfl, rfl⟩

set_option maxHeartbeats 400000 in
theorem put_no (c : Int) (w : World) (h : charB c = false) : Calls Try.prog 13 #[.int .i64 c] w fun e w' => e = .returned (.tuple #[.string ⟨#[]⟩, .int .i64 10]) ∧ w' = w := by
  go_enter Try.func13, Try.ntmps13
  go_wp2_with (go_at_call 22; refine (isCharacter_any _ _).mono ?_; rintro e w' ⟨rfl, rfl⟩)
  go_ret2
  exact ⟨rfl, rfl⟩

/-- Does a line end behind the step that ends at q and says c? -/
def endsB (s : ByteArray) (c : Int) (q : Nat) : Bool := if c = 13 then decide (q = s.size) || decide ((s.get! q).toNat ≠ 10) else decide (c = 10)

set_option maxHeartbeats 400000 in
theorem endsLine_any (s : ByteArray) (c b : Int) (q : Nat) (w : World) (hq : q ≤ s.size) :
    Calls Try.prog 16 #[.string s, .agg #[.int .i64 c, .int .i64 b, .int .i64 q]] w fun e w' => e = .returned (.bool (endsB s c q)) ∧ Below w.heap.size w w' := by
  by_cases hc : c = 13
  · by_cases hz : q = s.size
    · go_enter Try.func16, Try.ntmps16
      go_wp2
      go_ret
      refine ⟨ret_bool ?_, (Below.refl _ _).alloc (Nat.le_refl _) _⟩
      go_light
      unfold endsB
      simp [hc, hz]
    · have hlt : q < s.size := by omega
      go_enter Try.func16, Try.ntmps16
      go_wp2
      go_ret
      refine ⟨ret_bool ?_, (Below.refl _ _).alloc (Nat.le_refl _) _⟩
      go_light
      unfold endsB
      rw [if_pos hc, get_bang s q hlt, Bool.eq_iff_iff]
      simp
      omega
  · have hc' : (c == 13) = false := by simpa using hc
    go_enter Try.func16, Try.ntmps16
    go_wp2
    go_ret
    refine ⟨ret_bool ?_, (Below.refl _ _).alloc (Nat.le_refl _) _⟩
    go_light
    unfold endsB
    rw [if_neg hc]
    rfl

end Go.Proofs.Ytikbomagmedemab
