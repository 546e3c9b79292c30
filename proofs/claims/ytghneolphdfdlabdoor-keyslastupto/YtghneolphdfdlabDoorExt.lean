/- The bits of a number with a point, and back: the model's own entries, at this program. -/
import Derived.Test.YtghneolphdfdlabDoorRun
namespace Go.Proofs.YtghneolphdfdlabDoor
open Go Go.RowKit

theorem run_from (n : Int) (w : World) : (callFunc 26 #[.int .u64 n]).run Tryd.prog w = .ok (.value (.float .f64 n.toNat)) w := by kernel_rfl
theorem run_to (n : Nat) (w : World) : (callFunc 31 #[.float .f64 n]).run Tryd.prog w = .ok (.value (.int .u64 n)) w := by kernel_rfl
end Go.Proofs.YtghneolphdfdlabDoor
