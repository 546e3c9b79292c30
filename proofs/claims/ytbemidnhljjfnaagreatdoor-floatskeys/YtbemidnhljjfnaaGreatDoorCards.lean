/-
  DERIVED. GIVEN WITH THE SEED: THE CARDS: each row of YtbemidnhljjfnaaGreatDoorRows.lean that lists a variable, with what it lists TIED to the program's text (the seventh form; the later family's looks); each row that meets fmt, with fmt's text TOLD by the authors' own Lean function (tested against real Go, not proved from fmt's source: count such statements apart). THE CARD IS WHAT COUNTS. Prove the row's statement (the work); the ties are given (YtbemidnhljjfnaaGreatDoorTie.lean); close each card by the builder's one call (the guide's Derived/Test/ToyasCard.lean, 'card_holds'). Laid BY PROGRAM, IN A SANDBOX (cutbox-door.mjs). By AI agents, Wed Nov 11 2026. No macro, syntax, notation, axiom, sorry.
-/
import Derived.Test.YtbemidnhljjfnaaGreatDoorRows
import GoSem.ClaimSeven
namespace Go.Proofs.YtbemidnhljjfnaaGreatDoor
namespace Rows

/-- THE TIED CARD OF 'rhizomelaw02.FloatsCmps'. -/
def floatsCmpsCard : Claim7 := { stood := { row := floatsCmpsRow, standIns := [], harness := (true, "0b6122af195abdf9b077a5af06faee97b4507b333c98a568bff299be8a7de5e3"), looks := true }, kinds := [], alts := [], laidByText := true, laidKinds := [.data, .data, .widerDeep, .widerDeep, .data, .data, .data, .data, .data, .data, .sentinel, .sentinel, .pinned, .pinned, .pinned], laidTests := true, laidLooks := .later }
def FloatsCmpsCardSaid : Prop := Claim7.holds Tryz.pinned (.plain (OpenSpec.ofChange floatsCmpsSpec)) floatsCmpsCard

/-- THE TIED CARD OF 'rhizomelaw02.FloatsKeys'. -/
def floatsKeysCard : Claim7 := { stood := { row := floatsKeysRow, standIns := [], harness := (true, "0b6122af195abdf9b077a5af06faee97b4507b333c98a568bff299be8a7de5e3"), looks := true }, kinds := [], alts := [], laidByText := true, laidKinds := [.data, .data, .widerDeep, .widerDeep, .data, .data, .data, .data, .data, .data, .sentinel, .sentinel, .pinned, .pinned, .pinned], laidTests := true, laidLooks := .later }
def FloatsKeysCardSaid : Prop := Claim7.holds Tryz.pinned (.plain (OpenSpec.ofChange floatsKeysSpec)) floatsKeysCard

/-- THE TIED CARD OF 'rhizomelaw02.FloatsPlaces'. -/
def floatsPlacesCard : Claim7 := { stood := { row := floatsPlacesRow, standIns := [], harness := (true, "0b6122af195abdf9b077a5af06faee97b4507b333c98a568bff299be8a7de5e3"), looks := true }, kinds := [], alts := [], laidByText := true, laidKinds := [.data, .data, .widerDeep, .widerDeep, .data, .data, .data, .data, .data, .data, .sentinel, .sentinel, .pinned, .pinned, .pinned], laidTests := true, laidLooks := .later }
def FloatsPlacesCardSaid : Prop := Claim7.holds Tryz.pinned (.plain (OpenSpec.ofChange floatsPlacesSpec)) floatsPlacesCard

/-- THE TIED CARD OF 'rhizomelaw02.FloatsOfs'. -/
def floatsOfsCard : Claim7 := { stood := { row := floatsOfsRow, standIns := [], harness := (true, "0b6122af195abdf9b077a5af06faee97b4507b333c98a568bff299be8a7de5e3"), looks := true }, kinds := [], alts := [], laidByText := true, laidKinds := [.data, .data, .widerDeep, .widerDeep, .data, .data, .data, .data, .data, .data, .sentinel, .sentinel, .pinned, .pinned, .pinned], laidTests := true, laidLooks := .later }
def FloatsOfsCardSaid : Prop := Claim7.holds Tryz.pinned (.plain (OpenSpec.ofChange floatsOfsSpec)) floatsOfsCard

/-- THE TIED CARD OF 'rhizomelaw02.FloatsShort'. -/
def floatsShortCard : Claim7 := { stood := { row := floatsShortRow, standIns := [], harness := (true, "0b6122af195abdf9b077a5af06faee97b4507b333c98a568bff299be8a7de5e3"), looks := true }, kinds := [], alts := [], laidByText := true, laidKinds := [.data, .data, .widerDeep, .widerDeep, .data, .data, .data, .data, .data, .data, .sentinel, .sentinel, .pinned, .pinned, .pinned], laidTests := true, laidLooks := .later }
def FloatsShortCardSaid : Prop := Claim7.holds Tryz.pinned (.plain (OpenSpec.ofChange floatsShortSpec)) floatsShortCard

/-- THE TIED CARD OF 'rhizomelaw02.FloatsNext'. -/
def floatsNextCard : Claim7 := { stood := { row := floatsNextRow, standIns := [], harness := (true, "0b6122af195abdf9b077a5af06faee97b4507b333c98a568bff299be8a7de5e3"), looks := true }, kinds := [], alts := [], laidByText := true, laidKinds := [.data, .data, .widerDeep, .widerDeep, .data, .data, .data, .data, .data, .data, .sentinel, .sentinel, .pinned, .pinned, .pinned], laidTests := true, laidLooks := .later }
def FloatsNextCardSaid : Prop := Claim7.holds Tryz.pinned (.plain (OpenSpec.ofChange floatsNextSpec)) floatsNextCard

/-- THE SECOND FORM's CARD OF 'rhizomelaw02.FloatsCmps'. -/
def floatsCmpsUptoCard : Claim7 := { stood := { row := floatsCmpsUptoRow, standIns := [], harness := (true, "0b6122af195abdf9b077a5af06faee97b4507b333c98a568bff299be8a7de5e3"), looks := true }, kinds := [], alts := [], laidByText := true, laidKinds := [.data, .data, .widerDeep, .widerDeep, .data, .data, .data, .data, .data, .data, .sentinel, .sentinel, .pinned, .pinned, .pinned], laidTests := true, laidLooks := .later }
def FloatsCmpsUptoCardSaid : Prop := Claim7.holds Tryz.pinned (.plain (OpenSpec.upto floatsCmpsSpec)) floatsCmpsUptoCard

/-- THE SECOND FORM's CARD OF 'rhizomelaw02.FloatsKeys'. -/
def floatsKeysUptoCard : Claim7 := { stood := { row := floatsKeysUptoRow, standIns := [], harness := (true, "0b6122af195abdf9b077a5af06faee97b4507b333c98a568bff299be8a7de5e3"), looks := true }, kinds := [], alts := [], laidByText := true, laidKinds := [.data, .data, .widerDeep, .widerDeep, .data, .data, .data, .data, .data, .data, .sentinel, .sentinel, .pinned, .pinned, .pinned], laidTests := true, laidLooks := .later }
def FloatsKeysUptoCardSaid : Prop := Claim7.holds Tryz.pinned (.plain (OpenSpec.upto floatsKeysSpec)) floatsKeysUptoCard

/-- THE SECOND FORM's CARD OF 'rhizomelaw02.FloatsPlaces'. -/
def floatsPlacesUptoCard : Claim7 := { stood := { row := floatsPlacesUptoRow, standIns := [], harness := (true, "0b6122af195abdf9b077a5af06faee97b4507b333c98a568bff299be8a7de5e3"), looks := true }, kinds := [], alts := [], laidByText := true, laidKinds := [.data, .data, .widerDeep, .widerDeep, .data, .data, .data, .data, .data, .data, .sentinel, .sentinel, .pinned, .pinned, .pinned], laidTests := true, laidLooks := .later }
def FloatsPlacesUptoCardSaid : Prop := Claim7.holds Tryz.pinned (.plain (OpenSpec.upto floatsPlacesSpec)) floatsPlacesUptoCard

/-- THE SECOND FORM's CARD OF 'rhizomelaw02.FloatsOfs'. -/
def floatsOfsUptoCard : Claim7 := { stood := { row := floatsOfsUptoRow, standIns := [], harness := (true, "0b6122af195abdf9b077a5af06faee97b4507b333c98a568bff299be8a7de5e3"), looks := true }, kinds := [], alts := [], laidByText := true, laidKinds := [.data, .data, .widerDeep, .widerDeep, .data, .data, .data, .data, .data, .data, .sentinel, .sentinel, .pinned, .pinned, .pinned], laidTests := true, laidLooks := .later }
def FloatsOfsUptoCardSaid : Prop := Claim7.holds Tryz.pinned (.plain (OpenSpec.upto floatsOfsSpec)) floatsOfsUptoCard

/-- THE SECOND FORM's CARD OF 'rhizomelaw02.FloatsShort'. -/
def floatsShortUptoCard : Claim7 := { stood := { row := floatsShortUptoRow, standIns := [], harness := (true, "0b6122af195abdf9b077a5af06faee97b4507b333c98a568bff299be8a7de5e3"), looks := true }, kinds := [], alts := [], laidByText := true, laidKinds := [.data, .data, .widerDeep, .widerDeep, .data, .data, .data, .data, .data, .data, .sentinel, .sentinel, .pinned, .pinned, .pinned], laidTests := true, laidLooks := .later }
def FloatsShortUptoCardSaid : Prop := Claim7.holds Tryz.pinned (.plain (OpenSpec.upto floatsShortSpec)) floatsShortUptoCard

/-- THE SECOND FORM's CARD OF 'rhizomelaw02.FloatsNext'. -/
def floatsNextUptoCard : Claim7 := { stood := { row := floatsNextUptoRow, standIns := [], harness := (true, "0b6122af195abdf9b077a5af06faee97b4507b333c98a568bff299be8a7de5e3"), looks := true }, kinds := [], alts := [], laidByText := true, laidKinds := [.data, .data, .widerDeep, .widerDeep, .data, .data, .data, .data, .data, .data, .sentinel, .sentinel, .pinned, .pinned, .pinned], laidTests := true, laidLooks := .later }
def FloatsNextUptoCardSaid : Prop := Claim7.holds Tryz.pinned (.plain (OpenSpec.upto floatsNextSpec)) floatsNextUptoCard
end Rows
end Go.Proofs.YtbemidnhljjfnaaGreatDoor
