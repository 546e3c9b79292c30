/- The shelf: nothing besides. -/
import Derived.Test.YtlndpghkcbnmcabGreatDoorShelf
namespace Go.Proofs
end Go.Proofs
