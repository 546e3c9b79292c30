/- The small functions that package runes and the library's packages utf8 and strings bring: each returns what its twin says; the world stands. -/
import Derived.Test.YtlabcadpkdgjnaaGreatDoorRows
import Derived.Test.YtlabcadpkdgjnaaGreatDoorRnDec
import Derived.WalkKit
import Derived.WalkSpells
import Derived.WalkLawsBesides
import Derived.Deep.QuietTactic
import Derived.Deep.Light
import Derived.BigQuiet
import Derived.Lib.OthersKept
namespace Go.Proofs.YtlabcadpkdgjnaaGreatDoor
open Go.RowKit

theorem ret_int {k : IntKind} {a b : Int} (h : a = b) : Ending.returned (.int k a) = .returned (.int k b) := by rw [h]
theorem ret_bool {a b : Bool} (h : a = b) : Ending.returned (.bool a) = .returned (.bool b) := by rw [h]

set_option maxHeartbeats 400000 in
theorem runeLen_any (r : Int) (w : World) : Calls Tryz.prog 127 #[.int .i32 r] w fun e w' => e = .returned (.int .i64 (runeLen r)) ∧ w' = w := by
  go_enter Tryz.func127, Tryz.ntmps127
  go_wp2
  all_goals (go_ret; refine ⟨ret_int ?_, rfl⟩; unfold runeLen; repeat (first | rfl | omega | split))

set_option maxHeartbeats 400000 in
theorem validRune_any (r : Int) (w : World) : Calls Tryz.prog 167 #[.int .i32 r] w fun e w' => e = .returned (.bool (validB r)) ∧ w' = w := by
  go_enter Tryz.func167, Tryz.ntmps167
  go_wp2
  all_goals (go_ret; refine ⟨ret_bool ?_, rfl⟩; unfold validB; first | (symm; rw [decide_eq_true_eq]; omega) | (symm; rw [decide_eq_false_iff_not]; omega))

def sourceB (c : Int) : Bool := c == 9 || c == 10 || c == 13 || (decide (32 ≤ c) && decide (c ≤ 65535))

set_option maxHeartbeats 400000 in
theorem isSource_any (c : Int) (w : World) : Calls Tryz.prog 119 #[.int .i64 c] w fun e w' => e = .returned (.bool (sourceB c)) ∧ w' = w := by
  go_enter Tryz.func119, Tryz.ntmps119
  go_wp2
  all_goals (go_ret; refine ⟨ret_bool ?_, rfl⟩; go_light; unfold sourceB; simp_all <;> omega)

set_option maxHeartbeats 400000 in
theorem isCharacter_any (c : Int) (w : World) : Calls Tryz.prog 154 #[.int .i64 c] w fun e w' => e = .returned (.bool (charB c)) ∧ w' = w := by
  go_enter Tryz.func154, Tryz.ntmps154
  go_wp2_with (go_at_call 167; refine (validRune_any _ _).mono ?_; rintro e w' ⟨rfl, rfl⟩)
  all_goals (go_ret; refine ⟨ret_bool ?_, rfl⟩; go_light; unfold charB; simp_all <;> omega)

set_option maxHeartbeats 400000 in
theorem hasPrefix_any (s t : ByteArray) (w : World) : Calls Tryz.prog 116 #[.string s, .string t] w fun e w' => e = .returned (.bool (hpB s t)) ∧ w' = w := by
  go_enter Tryz.func116, Tryz.ntmps116
  go_wp2
  all_goals (go_ret; refine ⟨ret_bool ?_, rfl⟩; go_light; unfold hpB; simp_all <;> omega)

set_option maxHeartbeats 400000 in
theorem sHasPrefix_any (s t : ByteArray) (w : World) : Calls Tryz.prog 98 #[.string s, .string t] w fun e w' => e = .returned (.bool (hpB s t)) ∧ w' = w := by
  go_enter Tryz.func98, Tryz.ntmps98
  go_wp2_with (go_at_call 116; refine (hasPrefix_any _ _ _).mono ?_; rintro e w' ⟨rfl, rfl⟩)
  go_ret
  exact ⟨rfl, rfl⟩

-- Put: a character's bytes, or error 10.
set_option maxHeartbeats 400000 in
theorem put_yes (c : Int) (w : World) (h : charB c = true) : Calls Tryz.prog 140 #[.int .i64 c] w fun e w' => e = .returned (.tuple #[.string (Utf8.encode c), .int .i64 0]) ∧ w' = w := by
  obtain ⟨h1, h2⟩ := charB_bd h
  go_enter Tryz.func140, Tryz.ntmps140
  go_wp2_with (go_at_call 154; refine (isCharacter_any _ _).mono ?_; rintro e w' ⟨rfl, rfl⟩)
  go_ret2
  exact ⟨rfl, rfl⟩

set_option maxHeartbeats 400000 in
theorem put_no (c : Int) (w : World) (h : charB c = false) : Calls Tryz.prog 140 #[.int .i64 c] w fun e w' => e = .returned (.tuple #[.string ⟨#[]⟩, .int .i64 10]) ∧ w' = w := by
  go_enter Tryz.func140, Tryz.ntmps140
  go_wp2_with (go_at_call 154; refine (isCharacter_any _ _).mono ?_; rintro e w' ⟨rfl, rfl⟩)
  go_ret2
  exact ⟨rfl, rfl⟩

/-- Does a line end behind the step that ends at q and says c? -/
def endsB (s : ByteArray) (c : Int) (q : Nat) : Bool := if c = 13 then decide (q = s.size) || decide ((s.get! q).toNat ≠ 10) else decide (c = 10)

end Go.Proofs.YtlabcadpkdgjnaaGreatDoor
