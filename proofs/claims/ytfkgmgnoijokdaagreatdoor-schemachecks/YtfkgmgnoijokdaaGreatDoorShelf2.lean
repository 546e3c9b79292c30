/- Nothing more is laid here. -/
import Derived.Test.YtfkgmgnoijokdaaGreatDoorShelf
namespace Go.Proofs.YtfkgmgnoijokdaaGreatDoor
end Go.Proofs.YtfkgmgnoijokdaaGreatDoor
