/-
  DERIVED. GIVEN WITH THE SEED: THE CARDS: each row of YtamkjpfomaapgaaGreatDoorRows.lean that lists a variable, with what it lists TIED to the program's text (the seventh form; the later family's looks); each row that meets fmt, with fmt's text TOLD by the authors' own Lean function (tested against real Go, not proved from fmt's source: count such statements apart). THE CARD IS WHAT COUNTS. Prove the row's statement (the work); the ties are given (YtamkjpfomaapgaaGreatDoorTie.lean); close each card by the builder's one call (the guide's Derived/Test/ToyasCard.lean, 'card_holds'). Laid BY PROGRAM, IN A SANDBOX (cutbox-door.mjs). By AI agents, Wed Nov 11 2026. No macro, syntax, notation, axiom, sorry.
-/
import Derived.Test.YtamkjpfomaapgaaGreatDoorRows
import GoSem.ClaimSeven
namespace Go.Proofs.YtamkjpfomaapgaaGreatDoor
namespace Rows

/-- THE TIED CARD OF 'rhizomelaw10.GenTells'. -/
def genTellsCard : Claim7 := { stood := { row := genTellsRow, standIns := [], harness := (true, "521ee3ea3cc92a7d04fd06738b11289b368dfc61cffaaf2a170b883b959b3f58"), looks := true }, kinds := [], alts := [], laidByText := true, laidKinds := [.data, .data, .data, .data, .sentinel, .sentinel, .pinned], laidTests := true, laidLooks := .later }
def GenTellsCardSaid : Prop := Claim7.holds Tryz.pinned (.plain (OpenSpec.ofChange genTellsSpec)) genTellsCard

/-- THE TIED CARD OF 'rhizomelaw10.GenFinds'. -/
def genFindsCard : Claim7 := { stood := { row := genFindsRow, standIns := [], harness := (true, "521ee3ea3cc92a7d04fd06738b11289b368dfc61cffaaf2a170b883b959b3f58"), looks := true }, kinds := [], alts := [], laidByText := true, laidKinds := [.data, .data, .data, .data, .sentinel, .sentinel, .pinned], laidTests := true, laidLooks := .later }
def GenFindsCardSaid : Prop := Claim7.holds Tryz.pinned (.plain (OpenSpec.ofChange genFindsSpec)) genFindsCard

/-- THE TIED CARD OF 'rhizomelaw10.GenClosed'. -/
def genClosedCard : Claim7 := { stood := { row := genClosedRow, standIns := [], harness := (true, "521ee3ea3cc92a7d04fd06738b11289b368dfc61cffaaf2a170b883b959b3f58"), looks := true }, kinds := [], alts := [], laidByText := true, laidKinds := [.data, .data, .data, .data, .sentinel, .sentinel, .pinned], laidTests := true, laidLooks := .later }
def GenClosedCardSaid : Prop := Claim7.holds Tryz.pinned (.plain (OpenSpec.ofChange genClosedSpec)) genClosedCard

/-- THE TIED CARD OF 'rhizomelaw10.GenRoots'. -/
def genRootsCard : Claim7 := { stood := { row := genRootsRow, standIns := [], harness := (true, "521ee3ea3cc92a7d04fd06738b11289b368dfc61cffaaf2a170b883b959b3f58"), looks := true }, kinds := [], alts := [], laidByText := true, laidKinds := [.data, .data, .data, .data, .sentinel, .sentinel, .pinned], laidTests := true, laidLooks := .later }
def GenRootsCardSaid : Prop := Claim7.holds Tryz.pinned (.plain (OpenSpec.ofChange genRootsSpec)) genRootsCard

/-- THE TIED CARD OF 'rhizomelaw10.GenMore'. -/
def genMoreCard : Claim7 := { stood := { row := genMoreRow, standIns := [], harness := (true, "521ee3ea3cc92a7d04fd06738b11289b368dfc61cffaaf2a170b883b959b3f58"), looks := true }, kinds := [], alts := [], laidByText := true, laidKinds := [.data, .data, .data, .data, .sentinel, .sentinel, .pinned], laidTests := true, laidLooks := .later }
def GenMoreCardSaid : Prop := Claim7.holds Tryz.pinned (.plain (OpenSpec.ofChange genMoreSpec)) genMoreCard

/-- THE SECOND FORM's CARD OF 'rhizomelaw10.GenTells'. -/
def genTellsUptoCard : Claim7 := { stood := { row := genTellsUptoRow, standIns := [], harness := (true, "521ee3ea3cc92a7d04fd06738b11289b368dfc61cffaaf2a170b883b959b3f58"), looks := true }, kinds := [], alts := [], laidByText := true, laidKinds := [.data, .data, .data, .data, .sentinel, .sentinel, .pinned], laidTests := true, laidLooks := .later }
def GenTellsUptoCardSaid : Prop := Claim7.holds Tryz.pinned (.plain (OpenSpec.upto genTellsSpec)) genTellsUptoCard

/-- THE SECOND FORM's CARD OF 'rhizomelaw10.GenFinds'. -/
def genFindsUptoCard : Claim7 := { stood := { row := genFindsUptoRow, standIns := [], harness := (true, "521ee3ea3cc92a7d04fd06738b11289b368dfc61cffaaf2a170b883b959b3f58"), looks := true }, kinds := [], alts := [], laidByText := true, laidKinds := [.data, .data, .data, .data, .sentinel, .sentinel, .pinned], laidTests := true, laidLooks := .later }
def GenFindsUptoCardSaid : Prop := Claim7.holds Tryz.pinned (.plain (OpenSpec.upto genFindsSpec)) genFindsUptoCard

/-- THE SECOND FORM's CARD OF 'rhizomelaw10.GenClosed'. -/
def genClosedUptoCard : Claim7 := { stood := { row := genClosedUptoRow, standIns := [], harness := (true, "521ee3ea3cc92a7d04fd06738b11289b368dfc61cffaaf2a170b883b959b3f58"), looks := true }, kinds := [], alts := [], laidByText := true, laidKinds := [.data, .data, .data, .data, .sentinel, .sentinel, .pinned], laidTests := true, laidLooks := .later }
def GenClosedUptoCardSaid : Prop := Claim7.holds Tryz.pinned (.plain (OpenSpec.upto genClosedSpec)) genClosedUptoCard

/-- THE SECOND FORM's CARD OF 'rhizomelaw10.GenRoots'. -/
def genRootsUptoCard : Claim7 := { stood := { row := genRootsUptoRow, standIns := [], harness := (true, "521ee3ea3cc92a7d04fd06738b11289b368dfc61cffaaf2a170b883b959b3f58"), looks := true }, kinds := [], alts := [], laidByText := true, laidKinds := [.data, .data, .data, .data, .sentinel, .sentinel, .pinned], laidTests := true, laidLooks := .later }
def GenRootsUptoCardSaid : Prop := Claim7.holds Tryz.pinned (.plain (OpenSpec.upto genRootsSpec)) genRootsUptoCard

/-- THE SECOND FORM's CARD OF 'rhizomelaw10.GenMore'. -/
def genMoreUptoCard : Claim7 := { stood := { row := genMoreUptoRow, standIns := [], harness := (true, "521ee3ea3cc92a7d04fd06738b11289b368dfc61cffaaf2a170b883b959b3f58"), looks := true }, kinds := [], alts := [], laidByText := true, laidKinds := [.data, .data, .data, .data, .sentinel, .sentinel, .pinned], laidTests := true, laidLooks := .later }
def GenMoreUptoCardSaid : Prop := Claim7.holds Tryz.pinned (.plain (OpenSpec.upto genMoreSpec)) genMoreUptoCard
end Rows
end Go.Proofs.YtamkjpfomaapgaaGreatDoor
