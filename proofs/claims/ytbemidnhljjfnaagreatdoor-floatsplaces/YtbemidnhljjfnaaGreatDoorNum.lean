/- Whether the four texts of the fixed calls are numbers' texts. -/
import Derived.Test.YtbemidnhljjfnaaGreatDoorCut
import Derived.Test.YtbemidnhljjfnaaGreatDoorShelf
namespace Go.Proofs.YtbemidnhljjfnaaGreatDoor
open Go Go.RowKit

theorem trimPre (s p r : ByteArray) (h : (⟨(Lib.trimPrefix s.data.toList p.data.toList).toArray⟩ : ByteArray) = r) (w : World) :
    Calls Tryz.prog 57 #[.string s, .string p] w fun e w' => e = .returned (.string r) ∧ w' = w := by
  subst h; exact Tryz.strings_TrimPrefix s p w
theorem cutPre (s p r : ByteArray) (b : Bool) (h : (⟨(Lib.trimPrefix s.data.toList p.data.toList).toArray⟩ : ByteArray) = r) (hb : Lib.hasPrefix s.data.toList p.data.toList = b) (w : World) :
    Calls Tryz.prog 58 #[.string s, .string p] w fun e w' => e = .returned (.tuple #[.string r, .bool b]) ∧ w' = w := by
  subst h hb; exact Tryz.strings_CutPrefix s p w

set_option maxHeartbeats 1000000 in
theorem isNumber_tenth (w : World) : Calls Tryz.prog 39 #[.string ⟨#[48, 46, 49]⟩] w fun e w' => e = .returned (.bool true) ∧ Below w.heap.size w w' := by
  have hb := Below.refl w.heap.size w
  go_enter Tryz.func39, Tryz.ntmps39
  go_wp2_with (first
    | (go_at_call 57; with_reducible refine (trimPre ⟨#[48, 46, 49]⟩ ⟨#[45]⟩ ⟨#[48, 46, 49]⟩ (by decide +kernel) _).mono ?_; rintro e w1 ⟨rfl, rfl⟩)
    | (go_at_call 56; (first | with_reducible refine (cut_at ⟨#[48, 46, 49]⟩ ⟨#[48]⟩ ⟨#[46, 49]⟩ (by decide) (by decide +kernel) (by decide +kernel) _).mono ?_ | with_reducible refine (cut_at ⟨#[49]⟩ ⟨#[49]⟩ ⟨#[]⟩ (by decide) (by decide +kernel) (by decide +kernel) _).mono ?_); rintro e w1 ⟨rfl, rfl⟩)
    | (go_at_call 58; with_reducible refine (cutPre ⟨#[46, 49]⟩ ⟨#[46]⟩ ⟨#[49]⟩ true (by decide +kernel) (by decide +kernel) _).mono ?_; rintro e w1 ⟨rfl, rfl⟩))
  go_ret
  exact ⟨rfl, hb.drew.drew⟩

set_option maxHeartbeats 1000000 in
theorem isNumber_zero (w : World) : Calls Tryz.prog 39 #[.string ⟨#[45, 48]⟩] w fun e w' => e = .returned (.bool true) ∧ Below w.heap.size w w' := by
  have hb := Below.refl w.heap.size w
  go_enter Tryz.func39, Tryz.ntmps39
  go_wp2_with (first
    | (go_at_call 57; with_reducible refine (trimPre ⟨#[45, 48]⟩ ⟨#[45]⟩ ⟨#[48]⟩ (by decide +kernel) _).mono ?_; rintro e w1 ⟨rfl, rfl⟩)
    | (go_at_call 56; with_reducible refine (cut_at ⟨#[48]⟩ ⟨#[48]⟩ ⟨#[]⟩ (by decide) (by decide +kernel) (by decide +kernel) _).mono ?_; rintro e w1 ⟨rfl, rfl⟩)
    | (go_at_call 58; with_reducible refine (cutPre ⟨#[]⟩ ⟨#[46]⟩ ⟨#[]⟩ false (by decide +kernel) (by decide +kernel) _).mono ?_; rintro e w1 ⟨rfl, rfl⟩))
  go_ret
  exact ⟨rfl, hb.drew⟩

set_option maxHeartbeats 1000000 in
theorem isNumber_led (w : World) : Calls Tryz.prog 39 #[.string ⟨#[48, 49]⟩] w fun e w' => e = .returned (.bool false) ∧ Below w.heap.size w w' := by
  have hb := Below.refl w.heap.size w
  have e1 : (((⟨#[48, 49]⟩ : ByteArray)[0]'(by decide)).toNat) = 48 := rfl
  go_enter Tryz.func39, Tryz.ntmps39
  go_wp2_with (first
    | (go_at_call 57; with_reducible refine (trimPre ⟨#[48, 49]⟩ ⟨#[45]⟩ ⟨#[48, 49]⟩ (by decide +kernel) _).mono ?_; rintro e w1 ⟨rfl, rfl⟩)
    | (go_at_call 56; with_reducible refine (cut_at ⟨#[48, 49]⟩ ⟨#[48, 49]⟩ ⟨#[]⟩ (by decide) (by decide +kernel) (by decide +kernel) _).mono ?_; rintro e w1 ⟨rfl, rfl⟩))
  go_ret
  exact ⟨rfl, hb.drew⟩

set_option maxHeartbeats 1000000 in
theorem isPower_big (w : World) : Calls Tryz.prog 59 #[.string ⟨#[101, 52, 48, 48]⟩] w fun e w' => e = .returned (.bool true) ∧ Below w.heap.size w w' := by
  have hb := Below.refl w.heap.size w
  have e1 : (((⟨#[101, 52, 48, 48]⟩ : ByteArray)[0]'(by decide)).toNat) = 101 := rfl
  have e2 : (((⟨#[52, 48, 48]⟩ : ByteArray)[0]'(by decide)).toNat) = 52 := rfl
  have e3 : (⟨#[101, 52, 48, 48]⟩ : ByteArray).extract 1 4 = ⟨#[52, 48, 48]⟩ := by decide +kernel
  go_enter Tryz.func59, Tryz.ntmps59
  go_wp2_with (first
    | (go_at_call 56; with_reducible refine (cut_at ⟨#[52, 48, 48]⟩ ⟨#[52, 48, 48]⟩ ⟨#[]⟩ (by decide) (by decide +kernel) (by decide +kernel) _).mono ?_; rintro e w1 ⟨rfl, rfl⟩))
  go_ret
  exact ⟨rfl, hb.drew⟩

set_option maxHeartbeats 1000000 in
theorem isNumber_big (w : World) : Calls Tryz.prog 39 #[.string ⟨#[49, 101, 52, 48, 48]⟩] w fun e w' => e = .returned (.bool true) ∧ Below w.heap.size w w' := by
  have hb := Below.refl w.heap.size w
  have e1 : (((⟨#[49]⟩ : ByteArray)[0]'(by decide)).toNat) = 49 := rfl
  go_enter Tryz.func39, Tryz.ntmps39
  go_wp2_with (first
    | (go_at_call 57; with_reducible refine (trimPre ⟨#[49, 101, 52, 48, 48]⟩ ⟨#[45]⟩ ⟨#[49, 101, 52, 48, 48]⟩ (by decide +kernel) _).mono ?_; rintro e w1 ⟨rfl, rfl⟩)
    | (go_at_call 56; with_reducible refine (cut_at ⟨#[49, 101, 52, 48, 48]⟩ ⟨#[49]⟩ ⟨#[101, 52, 48, 48]⟩ (by decide) (by decide +kernel) (by decide +kernel) _).mono ?_; rintro e w1 ⟨rfl, rfl⟩)
    | (go_at_call 58; with_reducible refine (cutPre ⟨#[101, 52, 48, 48]⟩ ⟨#[46]⟩ ⟨#[101, 52, 48, 48]⟩ false (by decide +kernel) (by decide +kernel) _).mono ?_; rintro e w1 ⟨rfl, rfl⟩)
    | (go_at_call 59; refine (isPower_big _).mono ?_; rintro e w2 ⟨rfl, hb2⟩))
  go_ret
  exact ⟨rfl, hb.drew.trans hb2⟩
end Go.Proofs.YtbemidnhljjfnaaGreatDoor
