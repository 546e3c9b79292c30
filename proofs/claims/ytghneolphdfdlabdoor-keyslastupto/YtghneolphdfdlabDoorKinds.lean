/- The kind of any bits, as the document says it. -/
import Derived.Test.YtghneolphdfdlabDoorMath
namespace Go.Proofs.YtghneolphdfdlabDoor
open Go Go.RowKit

end Go.Proofs.YtghneolphdfdlabDoor
