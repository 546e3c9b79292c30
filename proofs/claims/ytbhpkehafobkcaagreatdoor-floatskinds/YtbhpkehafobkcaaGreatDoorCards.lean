/-
  DERIVED. GIVEN WITH THE SEED: THE CARDS: each row of YtbhpkehafobkcaaGreatDoorRows.lean that lists a variable, with what it lists TIED to the program's text (the seventh form; the later family's looks); each row that meets fmt, with fmt's text TOLD by the authors' own Lean function (tested against real Go, not proved from fmt's source: count such statements apart). THE CARD IS WHAT COUNTS. Prove the row's statement (the work); the ties are given (YtbhpkehafobkcaaGreatDoorTie.lean); close each card by the builder's one call (the guide's Derived/Test/ToyasCard.lean, 'card_holds'). Laid BY PROGRAM, IN A SANDBOX (cutbox-door.mjs). By AI agents, Wed Nov 11 2026. No macro, syntax, notation, axiom, sorry.
-/
import Derived.Test.YtbhpkehafobkcaaGreatDoorRows
import GoSem.ClaimSeven
namespace Go.Proofs.YtbhpkehafobkcaaGreatDoor
namespace Rows

/-- THE TIED CARD OF 'rhizomelaw02.FloatsKinds'. -/
def floatsKindsCard : Claim7 := { stood := { row := floatsKindsRow, standIns := [], harness := (true, "92976b00be3c060d1b1cfc2893c47f6c3f4e0991fbc84512367ccc5d7068718a"), looks := true }, kinds := [], alts := [], laidByText := true, laidKinds := [.data, .data, .widerDeep, .widerDeep, .data, .data, .data, .data, .data, .data, .sentinel, .sentinel, .pinned, .pinned, .pinned], laidTests := true, laidLooks := .later }
def FloatsKindsCardSaid : Prop := Claim7.holds Tryz.pinned (.plain (OpenSpec.ofChange floatsKindsSpec)) floatsKindsCard

/-- THE TIED CARD OF 'rhizomelaw02.FloatsCmps'. -/
def floatsCmpsCard : Claim7 := { stood := { row := floatsCmpsRow, standIns := [], harness := (true, "92976b00be3c060d1b1cfc2893c47f6c3f4e0991fbc84512367ccc5d7068718a"), looks := true }, kinds := [], alts := [], laidByText := true, laidKinds := [.data, .data, .widerDeep, .widerDeep, .data, .data, .data, .data, .data, .data, .sentinel, .sentinel, .pinned, .pinned, .pinned], laidTests := true, laidLooks := .later }
def FloatsCmpsCardSaid : Prop := Claim7.holds Tryz.pinned (.plain (OpenSpec.ofChange floatsCmpsSpec)) floatsCmpsCard

/-- THE TIED CARD OF 'rhizomelaw02.FloatsParses'. -/
def floatsParsesCard : Claim7 := { stood := { row := floatsParsesRow, standIns := [], harness := (true, "92976b00be3c060d1b1cfc2893c47f6c3f4e0991fbc84512367ccc5d7068718a"), looks := true }, kinds := [], alts := [], laidByText := true, laidKinds := [.data, .data, .widerDeep, .widerDeep, .data, .data, .data, .data, .data, .data, .sentinel, .sentinel, .pinned, .pinned, .pinned], laidTests := true, laidLooks := .later }
def FloatsParsesCardSaid : Prop := Claim7.holds Tryz.pinned (.plain (OpenSpec.ofChange floatsParsesSpec)) floatsParsesCard

/-- THE TIED CARD OF 'rhizomelaw02.FloatsTells'. -/
def floatsTellsCard : Claim7 := { stood := { row := floatsTellsRow, standIns := [], harness := (true, "92976b00be3c060d1b1cfc2893c47f6c3f4e0991fbc84512367ccc5d7068718a"), looks := true }, kinds := [], alts := [], laidByText := true, laidKinds := [.data, .data, .widerDeep, .widerDeep, .data, .data, .data, .data, .data, .data, .sentinel, .sentinel, .pinned, .pinned, .pinned], laidTests := true, laidLooks := .later }
def FloatsTellsCardSaid : Prop := Claim7.holds Tryz.pinned (.plain (OpenSpec.ofChange floatsTellsSpec)) floatsTellsCard

/-- THE TIED CARD OF 'rhizomelaw02.FloatsBack'. -/
def floatsBackCard : Claim7 := { stood := { row := floatsBackRow, standIns := [], harness := (true, "92976b00be3c060d1b1cfc2893c47f6c3f4e0991fbc84512367ccc5d7068718a"), looks := true }, kinds := [], alts := [], laidByText := true, laidKinds := [.data, .data, .widerDeep, .widerDeep, .data, .data, .data, .data, .data, .data, .sentinel, .sentinel, .pinned, .pinned, .pinned], laidTests := true, laidLooks := .later }
def FloatsBackCardSaid : Prop := Claim7.holds Tryz.pinned (.plain (OpenSpec.ofChange floatsBackSpec)) floatsBackCard

/-- THE TIED CARD OF 'rhizomelaw02.FloatsKeys'. -/
def floatsKeysCard : Claim7 := { stood := { row := floatsKeysRow, standIns := [], harness := (true, "92976b00be3c060d1b1cfc2893c47f6c3f4e0991fbc84512367ccc5d7068718a"), looks := true }, kinds := [], alts := [], laidByText := true, laidKinds := [.data, .data, .widerDeep, .widerDeep, .data, .data, .data, .data, .data, .data, .sentinel, .sentinel, .pinned, .pinned, .pinned], laidTests := true, laidLooks := .later }
def FloatsKeysCardSaid : Prop := Claim7.holds Tryz.pinned (.plain (OpenSpec.ofChange floatsKeysSpec)) floatsKeysCard

/-- THE SECOND FORM's CARD OF 'rhizomelaw02.FloatsKinds'. -/
def floatsKindsUptoCard : Claim7 := { stood := { row := floatsKindsUptoRow, standIns := [], harness := (true, "92976b00be3c060d1b1cfc2893c47f6c3f4e0991fbc84512367ccc5d7068718a"), looks := true }, kinds := [], alts := [], laidByText := true, laidKinds := [.data, .data, .widerDeep, .widerDeep, .data, .data, .data, .data, .data, .data, .sentinel, .sentinel, .pinned, .pinned, .pinned], laidTests := true, laidLooks := .later }
def FloatsKindsUptoCardSaid : Prop := Claim7.holds Tryz.pinned (.plain (OpenSpec.upto floatsKindsSpec)) floatsKindsUptoCard

/-- THE SECOND FORM's CARD OF 'rhizomelaw02.FloatsCmps'. -/
def floatsCmpsUptoCard : Claim7 := { stood := { row := floatsCmpsUptoRow, standIns := [], harness := (true, "92976b00be3c060d1b1cfc2893c47f6c3f4e0991fbc84512367ccc5d7068718a"), looks := true }, kinds := [], alts := [], laidByText := true, laidKinds := [.data, .data, .widerDeep, .widerDeep, .data, .data, .data, .data, .data, .data, .sentinel, .sentinel, .pinned, .pinned, .pinned], laidTests := true, laidLooks := .later }
def FloatsCmpsUptoCardSaid : Prop := Claim7.holds Tryz.pinned (.plain (OpenSpec.upto floatsCmpsSpec)) floatsCmpsUptoCard

/-- THE SECOND FORM's CARD OF 'rhizomelaw02.FloatsParses'. -/
def floatsParsesUptoCard : Claim7 := { stood := { row := floatsParsesUptoRow, standIns := [], harness := (true, "92976b00be3c060d1b1cfc2893c47f6c3f4e0991fbc84512367ccc5d7068718a"), looks := true }, kinds := [], alts := [], laidByText := true, laidKinds := [.data, .data, .widerDeep, .widerDeep, .data, .data, .data, .data, .data, .data, .sentinel, .sentinel, .pinned, .pinned, .pinned], laidTests := true, laidLooks := .later }
def FloatsParsesUptoCardSaid : Prop := Claim7.holds Tryz.pinned (.plain (OpenSpec.upto floatsParsesSpec)) floatsParsesUptoCard

/-- THE SECOND FORM's CARD OF 'rhizomelaw02.FloatsTells'. -/
def floatsTellsUptoCard : Claim7 := { stood := { row := floatsTellsUptoRow, standIns := [], harness := (true, "92976b00be3c060d1b1cfc2893c47f6c3f4e0991fbc84512367ccc5d7068718a"), looks := true }, kinds := [], alts := [], laidByText := true, laidKinds := [.data, .data, .widerDeep, .widerDeep, .data, .data, .data, .data, .data, .data, .sentinel, .sentinel, .pinned, .pinned, .pinned], laidTests := true, laidLooks := .later }
def FloatsTellsUptoCardSaid : Prop := Claim7.holds Tryz.pinned (.plain (OpenSpec.upto floatsTellsSpec)) floatsTellsUptoCard

/-- THE SECOND FORM's CARD OF 'rhizomelaw02.FloatsBack'. -/
def floatsBackUptoCard : Claim7 := { stood := { row := floatsBackUptoRow, standIns := [], harness := (true, "92976b00be3c060d1b1cfc2893c47f6c3f4e0991fbc84512367ccc5d7068718a"), looks := true }, kinds := [], alts := [], laidByText := true, laidKinds := [.data, .data, .widerDeep, .widerDeep, .data, .data, .data, .data, .data, .data, .sentinel, .sentinel, .pinned, .pinned, .pinned], laidTests := true, laidLooks := .later }
def FloatsBackUptoCardSaid : Prop := Claim7.holds Tryz.pinned (.plain (OpenSpec.upto floatsBackSpec)) floatsBackUptoCard

/-- THE SECOND FORM's CARD OF 'rhizomelaw02.FloatsKeys'. -/
def floatsKeysUptoCard : Claim7 := { stood := { row := floatsKeysUptoRow, standIns := [], harness := (true, "92976b00be3c060d1b1cfc2893c47f6c3f4e0991fbc84512367ccc5d7068718a"), looks := true }, kinds := [], alts := [], laidByText := true, laidKinds := [.data, .data, .widerDeep, .widerDeep, .data, .data, .data, .data, .data, .data, .sentinel, .sentinel, .pinned, .pinned, .pinned], laidTests := true, laidLooks := .later }
def FloatsKeysUptoCardSaid : Prop := Claim7.holds Tryz.pinned (.plain (OpenSpec.upto floatsKeysSpec)) floatsKeysUptoCard
end Rows
end Go.Proofs.YtbhpkehafobkcaaGreatDoor
