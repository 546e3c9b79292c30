/- The calls whose answers the document fixes: all come out as it says. -/
import Derived.Test.YtbemidnhljjfnaaGreatDoorText
namespace Go.Proofs.YtbemidnhljjfnaaGreatDoor
open Go Go.RowKit

theorem cmp_zeros (w : World) : Calls Tryz.prog 9 #[.int .u64 9223372036854775808, .int .u64 0] w fun e w' => e = .returned (.tuple #[.int .i64 0, .bool true]) ∧ w' = w :=
  calls_of_run 100000 Tryz.f9 Tryz.func9 (fun _ _ => by kernel_rfl) (fun _ _ => by kernel_rfl) (fun _ _ => by kernel_rfl) (fun _ _ => by kernel_rfl) (fun _ _ => by kernel_rfl) (fun _ _ => by kernel_rfl) w
theorem cmp_nans (w : World) : Calls Tryz.prog 9 #[.int .u64 9218868437227405313, .int .u64 9218868437227405313] w fun e w' => e = .returned (.tuple #[.int .i64 0, .bool false]) ∧ w' = w :=
  calls_of_run 100000 Tryz.f9 Tryz.func9 (fun _ _ => by kernel_rfl) (fun _ _ => by kernel_rfl) (fun _ _ => by kernel_rfl) (fun _ _ => by kernel_rfl) (fun _ _ => by kernel_rfl) (fun _ _ => by kernel_rfl) w
theorem key_fix (w : World) : Calls Tryz.prog 12 #[.int .u64 9223372036854775809] w fun e w' => e = .returned (.tuple #[.int .u64 9223372036854775807, .int .i64 0]) ∧ w' = w :=
  calls_of_run 100000 Tryz.f12 Tryz.func12 (fun _ _ => by kernel_rfl) (fun _ _ => by kernel_rfl) (fun _ _ => by kernel_rfl) (fun _ _ => by kernel_rfl) (fun _ _ => by kernel_rfl) (fun _ _ => by kernel_rfl) w
theorem fromKey_fix (w : World) : Calls Tryz.prog 13 #[.int .u64 9223372036854775807] w fun e w' => e = .returned (.tuple #[.int .u64 9223372036854775809, .int .i64 0]) ∧ w' = w :=
  calls_of_run 100000 Tryz.f13 Tryz.func13 (fun _ _ => by kernel_rfl) (fun _ _ => by kernel_rfl) (fun _ _ => by kernel_rfl) (fun _ _ => by kernel_rfl) (fun _ _ => by kernel_rfl) (fun _ _ => by kernel_rfl) w
theorem of_fix (w : World) : Calls Tryz.prog 17 #[.int .i64 1] w fun e w' => e = .returned (.int .u64 4607182418800017408) ∧ w' = w :=
  calls_of_run 100000 Tryz.f17 Tryz.func17 (fun _ _ => by kernel_rfl) (fun _ _ => by kernel_rfl) (fun _ _ => by kernel_rfl) (fun _ _ => by kernel_rfl) (fun _ _ => by kernel_rfl) (fun _ _ => by kernel_rfl) w
theorem kind_fix (w : World) : Calls Tryz.prog 14 #[.int .u64 1] w fun e w' => e = .returned (.int .i64 1) ∧ w' = w :=
  calls_of_run 100000 Tryz.f14 Tryz.func14 (fun _ _ => by kernel_rfl) (fun _ _ => by kernel_rfl) (fun _ _ => by kernel_rfl) (fun _ _ => by kernel_rfl) (fun _ _ => by kernel_rfl) (fun _ _ => by kernel_rfl) w

set_option maxRecDepth 100000 in
set_option maxHeartbeats 4000000 in
theorem fixed_any (w : World) (T : Tabs w) : Calls Tryz.prog 11 #[] w fun e w' => e = .returned (.bool true) ∧ Below w.heap.size w w' := by
  have hb := Below.refl w.heap.size w
  go_enter Tryz.func11, Tryz.ntmps11
  go_wp2_with (first
    | (go_at_call 24; (first | with_reducible refine (parse_tenth _ T).mono ?_ | with_reducible refine (parse_zero _ T).mono ?_ | with_reducible refine (parse_big _ T).mono ?_ | with_reducible refine (parse_led _).mono ?_); rintro e w1 ⟨rfl, hb1⟩; have T := T.later hb1; have hb := hb.trans (hb1.mono hb.size); clear hb1)
    | (go_at_call 19; (first | with_reducible refine (textA _ T).mono ?_ | with_reducible refine (textB _ T).mono ?_); rintro e w1 ⟨rfl, hb1⟩; have T := T.later hb1; have hb := hb.trans (hb1.mono hb.size); clear hb1)
    | (go_at_call 19; (first | with_reducible refine (textI _).mono ?_); rintro e w1 ⟨rfl, rfl⟩)
    | (go_at_call 9; (first | with_reducible refine (cmp_zeros _).mono ?_ | with_reducible refine (cmp_nans _).mono ?_); rintro e w1 ⟨rfl, rfl⟩)
    | (go_at_call 12; (first | with_reducible refine (key_fix _).mono ?_); rintro e w1 ⟨rfl, rfl⟩)
    | (go_at_call 13; (first | with_reducible refine (fromKey_fix _).mono ?_); rintro e w1 ⟨rfl, rfl⟩)
    | (go_at_call 17; (first | with_reducible refine (of_fix _).mono ?_); rintro e w1 ⟨rfl, rfl⟩)
    | (go_at_call 14; (first | with_reducible refine (kind_fix _).mono ?_); rintro e w1 ⟨rfl, rfl⟩))
  go_ret
  exact ⟨rfl, hb⟩
end Go.Proofs.YtbemidnhljjfnaaGreatDoor
