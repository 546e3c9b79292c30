/-
  DERIVED. GIVEN WITH THE SEED: THE CARDS: each row of YtlndpghkcbnmcabGreatDoorRows.lean that lists a variable, with what it lists TIED to the program's text (the seventh form; the later family's looks); each row that meets fmt, with fmt's text TOLD by the authors' own Lean function (tested against real Go, not proved from fmt's source: count such statements apart). THE CARD IS WHAT COUNTS. Prove the row's statement (the work); the ties are given (YtlndpghkcbnmcabGreatDoorTie.lean); close each card by the builder's one call (the guide's Derived/Test/ToyasCard.lean, 'card_holds'). Laid BY PROGRAM, IN A SANDBOX (cutbox-door.mjs). By AI agents, Wed Nov 11 2026. No macro, syntax, notation, axiom, sorry.
-/
import Derived.Test.YtlndpghkcbnmcabGreatDoorRows
import GoSem.ClaimSeven
namespace Go.Proofs.YtlndpghkcbnmcabGreatDoor
namespace Rows

/-- THE TIED CARD OF 'rhizomelaw05.LexEscapes'. -/
def lexEscapesCard : Claim7 := { stood := { row := lexEscapesRow, standIns := [], harness := (true, "4d1d999c44d62ba338a437b18fa41d17a3f4376f0997f48ec4725191ee28da8a"), looks := true }, kinds := [], alts := [], laidByText := true, laidKinds := [.data, .data, .data, .data, .sentinel, .sentinel, .pinned], laidTests := true, laidLooks := .later }
def LexEscapesCardSaid : Prop := Claim7.holds Tryz.pinned (.plain (OpenSpec.ofChange lexEscapesSpec)) lexEscapesCard

/-- THE SECOND FORM's CARD OF 'rhizomelaw05.LexEscapes'. -/
def lexEscapesUptoCard : Claim7 := { stood := { row := lexEscapesUptoRow, standIns := [], harness := (true, "4d1d999c44d62ba338a437b18fa41d17a3f4376f0997f48ec4725191ee28da8a"), looks := true }, kinds := [], alts := [], laidByText := true, laidKinds := [.data, .data, .data, .data, .sentinel, .sentinel, .pinned], laidTests := true, laidLooks := .later }
def LexEscapesUptoCardSaid : Prop := Claim7.holds Tryz.pinned (.plain (OpenSpec.upto lexEscapesSpec)) lexEscapesUptoCard
end Rows
end Go.Proofs.YtlndpghkcbnmcabGreatDoor
