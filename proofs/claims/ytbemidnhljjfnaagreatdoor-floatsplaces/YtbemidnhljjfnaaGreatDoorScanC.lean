/- What internal/strconv's reader finds in the text 1e400. -/
import Derived.Test.YtbemidnhljjfnaaGreatDoorRun
namespace Go.Proofs.YtbemidnhljjfnaaGreatDoor
open Go

theorem read_big (w : World) : Calls Tryz.prog 137 #[.string ⟨#[49, 101, 52, 48, 48]⟩] w fun e w' => e = .returned (.tuple #[.int .u64 1, .int .i64 400, .bool false, .bool false, .bool false, .int .i64 5, .bool true]) ∧ w' = w :=
  calls_of_run 100000 Tryz.f137 Tryz.func137 (fun _ _ => by kernel_rfl) (fun _ _ => by kernel_rfl) (fun _ _ => by kernel_rfl) (fun _ _ => by kernel_rfl) (fun _ _ => by kernel_rfl) (fun _ _ => by kernel_rfl) w
theorem special_big (w : World) : Calls Tryz.prog 136 #[.string ⟨#[49, 101, 52, 48, 48]⟩] w fun e w' => e = .returned (.tuple #[.float .f64 0, .int .i64 0, .bool false]) ∧ w' = w :=
  calls_of_run 100000 Tryz.f136 Tryz.func136 (fun _ _ => by kernel_rfl) (fun _ _ => by kernel_rfl) (fun _ _ => by kernel_rfl) (fun _ _ => by kernel_rfl) (fun _ _ => by kernel_rfl) (fun _ _ => by kernel_rfl) w
end Go.Proofs.YtbemidnhljjfnaaGreatDoor
