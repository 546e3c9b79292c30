/-
  DERIVED. GIVEN WITH THE SEED: THE CARDS: each row of YtghneolphdfdlabDoorRows.lean that lists a variable, with what it lists TIED to the program's text (the seventh form; the later family's looks); each row that meets fmt, with fmt's text TOLD by the authors' own Lean function (tested against real Go, not proved from fmt's source: count such statements apart). THE CARD IS WHAT COUNTS. Prove the row's statement (the work); the ties are given (YtghneolphdfdlabDoorTie.lean); close each card by the builder's one call (the guide's Derived/Test/ToyasCard.lean, 'card_holds'). Laid BY PROGRAM, IN A SANDBOX (cutbox-door.mjs). By AI agents, Wed Nov 11 2026. No macro, syntax, notation, axiom, sorry.
-/
import Derived.Test.YtghneolphdfdlabDoorRows
import GoSem.ClaimSeven
namespace Go.Proofs.YtghneolphdfdlabDoor
namespace Rows

/-- THE TIED CARD OF 'rhizomelaw03.KeysAfter'. -/
def keysAfterCard : Claim7 := { stood := { row := keysAfterRow, standIns := [], harness := (true, "a6ed49f58219be7f9ae13c5236e1afaf0d8f968cf2250370f540592fa2276b2d"), looks := false }, kinds := [], alts := [], laidByText := true, laidKinds := [.data, .pinned], laidTests := true, laidLooks := .later }
def KeysAfterCardSaid : Prop := Claim7.holds Tryd.pinned (.plain (OpenSpec.ofChange keysAfterSpec)) keysAfterCard

/-- THE TIED CARD OF 'rhizomelaw03.KeysLast'. -/
def keysLastCard : Claim7 := { stood := { row := keysLastRow, standIns := [], harness := (true, "a6ed49f58219be7f9ae13c5236e1afaf0d8f968cf2250370f540592fa2276b2d"), looks := false }, kinds := [], alts := [], laidByText := true, laidKinds := [.data, .pinned], laidTests := true, laidLooks := .later }
def KeysLastCardSaid : Prop := Claim7.holds Tryd.pinned (.plain (OpenSpec.ofChange keysLastSpec)) keysLastCard

/-- THE SECOND FORM's CARD OF 'rhizomelaw03.KeysAfter'. -/
def keysAfterUptoCard : Claim7 := { stood := { row := keysAfterUptoRow, standIns := [], harness := (true, "a6ed49f58219be7f9ae13c5236e1afaf0d8f968cf2250370f540592fa2276b2d"), looks := false }, kinds := [], alts := [], laidByText := true, laidKinds := [.data, .pinned], laidTests := true, laidLooks := .later }
def KeysAfterUptoCardSaid : Prop := Claim7.holds Tryd.pinned (.plain (OpenSpec.upto keysAfterSpec)) keysAfterUptoCard

/-- THE SECOND FORM's CARD OF 'rhizomelaw03.KeysLast'. -/
def keysLastUptoCard : Claim7 := { stood := { row := keysLastUptoRow, standIns := [], harness := (true, "a6ed49f58219be7f9ae13c5236e1afaf0d8f968cf2250370f540592fa2276b2d"), looks := false }, kinds := [], alts := [], laidByText := true, laidKinds := [.data, .pinned], laidTests := true, laidLooks := .later }
def KeysLastUptoCardSaid : Prop := Claim7.holds Tryd.pinned (.plain (OpenSpec.upto keysLastSpec)) keysLastUptoCard
end Rows
end Go.Proofs.YtghneolphdfdlabDoor
