/- The shelf: nothing besides. -/
import Derived.Test.YthficamlgngaaaaGreatDoorShelf
