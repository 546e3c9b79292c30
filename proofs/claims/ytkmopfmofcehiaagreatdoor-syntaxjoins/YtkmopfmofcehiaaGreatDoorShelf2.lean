import Derived.Test.YtkmopfmofcehiaaGreatDoorShelf
namespace Go.Proofs
end Go.Proofs
