/- The bits of a number with a point, and back: the model's own entries, at this program. -/
import Derived.Test.YtbemidnhljjfnaaGreatDoorRun
namespace Go.Proofs.YtbemidnhljjfnaaGreatDoor
open Go Go.RowKit

theorem run_ifrom (n : Int) (w : World) : (callFunc 146 #[.int .u64 n]).run Tryz.prog w = .ok (.value (.float .f64 n.toNat)) w := by kernel_rfl
theorem run_ito (n : Nat) (w : World) : (callFunc 82 #[.float .f64 n]).run Tryz.prog w = .ok (.value (.int .u64 n)) w := by kernel_rfl
theorem run_from (n : Int) (w : World) : (callFunc 20 #[.int .u64 n]).run Tryz.prog w = .ok (.value (.float .f64 n.toNat)) w := by kernel_rfl
theorem run_to (n : Nat) (w : World) : (callFunc 25 #[.float .f64 n]).run Tryz.prog w = .ok (.value (.int .u64 n)) w := by kernel_rfl
end Go.Proofs.YtbemidnhljjfnaaGreatDoor
