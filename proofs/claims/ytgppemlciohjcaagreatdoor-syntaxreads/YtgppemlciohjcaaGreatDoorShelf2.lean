import Derived.Test.YtgppemlciohjcaaGreatDoorShelf
namespace Go.Proofs
end Go.Proofs
