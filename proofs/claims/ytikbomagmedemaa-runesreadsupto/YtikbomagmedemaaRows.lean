/-
  No cell of these rows narrows 'for every input' (looked for: loops, veiled, ifaces, maps, wideKeys, modest, calm, conditions, laid).
  DERIVED. THE GIVEN ROWS OF THIS SEAT. 6 by the template 'for every input the law returns true; each argument reads behind the call as it read before'; 0 by the template 'total and deterministic' (their statements: YtikbomagmedemaaTotals.lean).
  GIVEN WITH THE SEED: the statements are not yours to turn. If you find one false, say at which input.
  Laid BY PROGRAM, IN A SANDBOX (cutbox-rows.mjs): the forced cells as the released guide's own fill.sh prints them over the translation ae702e636f8b6c14… (all of the seat's roots in one cut). By AI agents, Wed Nov 11 2026. No macro, syntax, notation, axiom, sorry.
-/
import Derived.Test.YtikbomagmedemaaChecked
import GoSem.Claim
import GoSem.ClaimJoined
import GoSem.ClaimMapViews
import Derived.JoinedTies
import Derived.KernelRfl
namespace Go.Proofs.Ytikbomagmedemaa
/- THE CELL 'sum', in the pinned program and in every row, IS THE sha256 OF THE DUMP (.gsa) THAT YtikbomagmedemaaProg.lean LOADS. Nothing in Lean hashes anything: it is a label: what it is worth is what the hold of that sum in a sandbox is worth. -/
noncomputable def Try.pinned : Pinned := { name := "ytikbomagmedemaa", sum := "ae702e636f8b6c146871e31334a15eaf469e103ad4a333302b1bb77ddb201c7b", checked := Try.checked }
namespace Rows
def none {H : Type} : Left H := { results := [], args := [] }

/-- 'rhizomelaw01.RunesReads': WHATEVER THE INPUT: true; the input reads as it did. -/
def runesReadsSpec : ChangeSpec := { name := "runesReads", fn := fun _ => fun
  | [d1, d2] => { results := [.lit (.bool true)], args := [d1, d2] }
  | _ => none }
def runesReadsRow : OpenClaim := { program := "ytikbomagmedemaa", sum := "ae702e636f8b6c146871e31334a15eaf469e103ad4a333302b1bb77ddb201c7b", func := "rhizome/rhizomelaw01.RunesReads", spec := "runesReads", unfollowed := true, recurses := true, apart := false }
def RunesReadsSaid : Prop := runesReadsRow.holds Try.pinned (OpenSpec.ofChange runesReadsSpec)

/-- ITS FALSE NEIGHBOUR: 'it returns false'. Refute it at one input. -/
def runesReadsWrong : ChangeSpec := { name := "runesReads", fn := fun _ => fun
  | [d1, d2] => { results := [.lit (.bool false)], args := [d1, d2] }
  | _ => none }
def RunesReadsWrongFalsely : Prop := runesReadsRow.holds Try.pinned (OpenSpec.ofChange runesReadsWrong)

/-- 'rhizomelaw01.RunesPuts': WHATEVER THE INPUT: true; the input reads as it did. -/
def runesPutsSpec : ChangeSpec := { name := "runesPuts", fn := fun _ => fun
  | [d] => { results := [.lit (.bool true)], args := [d] }
  | _ => none }
def runesPutsRow : OpenClaim := { program := "ytikbomagmedemaa", sum := "ae702e636f8b6c146871e31334a15eaf469e103ad4a333302b1bb77ddb201c7b", func := "rhizome/rhizomelaw01.RunesPuts", spec := "runesPuts", unfollowed := true, recurses := true, apart := false }
def RunesPutsSaid : Prop := runesPutsRow.holds Try.pinned (OpenSpec.ofChange runesPutsSpec)

/-- ITS FALSE NEIGHBOUR: 'it returns false'. Refute it at one input. -/
def runesPutsWrong : ChangeSpec := { name := "runesPuts", fn := fun _ => fun
  | [d] => { results := [.lit (.bool false)], args := [d] }
  | _ => none }
def RunesPutsWrongFalsely : Prop := runesPutsRow.holds Try.pinned (OpenSpec.ofChange runesPutsWrong)

/-- 'rhizomelaw01.RunesSource': WHATEVER THE INPUT: true; the input reads as it did. -/
def runesSourceSpec : ChangeSpec := { name := "runesSource", fn := fun _ => fun
  | [d] => { results := [.lit (.bool true)], args := [d] }
  | _ => none }
def runesSourceRow : OpenClaim := { program := "ytikbomagmedemaa", sum := "ae702e636f8b6c146871e31334a15eaf469e103ad4a333302b1bb77ddb201c7b", func := "rhizome/rhizomelaw01.RunesSource", spec := "runesSource", unfollowed := true, recurses := true, apart := false }
def RunesSourceSaid : Prop := runesSourceRow.holds Try.pinned (OpenSpec.ofChange runesSourceSpec)

/-- ITS FALSE NEIGHBOUR: 'it returns false'. Refute it at one input. -/
def runesSourceWrong : ChangeSpec := { name := "runesSource", fn := fun _ => fun
  | [d] => { results := [.lit (.bool false)], args := [d] }
  | _ => none }
def RunesSourceWrongFalsely : Prop := runesSourceRow.holds Try.pinned (OpenSpec.ofChange runesSourceWrong)

/-- 'rhizomelaw01.RunesPlaces': WHATEVER THE INPUT: true; the input reads as it did. -/
def runesPlacesSpec : ChangeSpec := { name := "runesPlaces", fn := fun _ => fun
  | [d1, d2] => { results := [.lit (.bool true)], args := [d1, d2] }
  | _ => none }
def runesPlacesRow : OpenClaim := { program := "ytikbomagmedemaa", sum := "ae702e636f8b6c146871e31334a15eaf469e103ad4a333302b1bb77ddb201c7b", func := "rhizome/rhizomelaw01.RunesPlaces", spec := "runesPlaces", unfollowed := true, recurses := true, apart := false }
def RunesPlacesSaid : Prop := runesPlacesRow.holds Try.pinned (OpenSpec.ofChange runesPlacesSpec)

/-- ITS FALSE NEIGHBOUR: 'it returns false'. Refute it at one input. -/
def runesPlacesWrong : ChangeSpec := { name := "runesPlaces", fn := fun _ => fun
  | [d1, d2] => { results := [.lit (.bool false)], args := [d1, d2] }
  | _ => none }
def RunesPlacesWrongFalsely : Prop := runesPlacesRow.holds Try.pinned (OpenSpec.ofChange runesPlacesWrong)

/-- 'rhizomelaw01.RunesBack': WHATEVER THE INPUT: true; the input reads as it did. -/
def runesBackSpec : ChangeSpec := { name := "runesBack", fn := fun _ => fun
  | [d] => { results := [.lit (.bool true)], args := [d] }
  | _ => none }
def runesBackRow : OpenClaim := { program := "ytikbomagmedemaa", sum := "ae702e636f8b6c146871e31334a15eaf469e103ad4a333302b1bb77ddb201c7b", func := "rhizome/rhizomelaw01.RunesBack", spec := "runesBack", unfollowed := true, recurses := true, apart := false }
def RunesBackSaid : Prop := runesBackRow.holds Try.pinned (OpenSpec.ofChange runesBackSpec)

/-- ITS FALSE NEIGHBOUR: 'it returns false'. Refute it at one input. -/
def runesBackWrong : ChangeSpec := { name := "runesBack", fn := fun _ => fun
  | [d] => { results := [.lit (.bool false)], args := [d] }
  | _ => none }
def RunesBackWrongFalsely : Prop := runesBackRow.holds Try.pinned (OpenSpec.ofChange runesBackWrong)

/-- 'rhizomelaw01.RunesJoin': WHATEVER THE INPUT: true; the input reads as it did. -/
def runesJoinSpec : ChangeSpec := { name := "runesJoin", fn := fun _ => fun
  | [d1, d2, d3] => { results := [.lit (.bool true)], args := [d1, d2, d3] }
  | _ => none }
def runesJoinRow : OpenClaim := { program := "ytikbomagmedemaa", sum := "ae702e636f8b6c146871e31334a15eaf469e103ad4a333302b1bb77ddb201c7b", func := "rhizome/rhizomelaw01.RunesJoin", spec := "runesJoin", unfollowed := true, recurses := true, apart := false }
def RunesJoinSaid : Prop := runesJoinRow.holds Try.pinned (OpenSpec.ofChange runesJoinSpec)

/-- ITS FALSE NEIGHBOUR: 'it returns false'. Refute it at one input. -/
def runesJoinWrong : ChangeSpec := { name := "runesJoin", fn := fun _ => fun
  | [d1, d2, d3] => { results := [.lit (.bool false)], args := [d1, d2, d3] }
  | _ => none }
def RunesJoinWrongFalsely : Prop := runesJoinRow.holds Try.pinned (OpenSpec.ofChange runesJoinWrong)

/- THE SECOND FORM. 'bulk': how many values and letters a reading holds, each counted each time it is reached (what is shared counts as often as it is met; a slice's spare places count too). A statement '..UptoSaid' is the law's where the arguments, and the package variables that the reading takes, are together of bulk at most 1048576: NARROWER than '..Said'. Prove '..Said' where nothing that the law and all that it calls make is longer than what came in: it says more and counts as full. Else prove '..UptoSaid'. A law counts once. -/
mutual
def uptoBulk {H : Type} : DataW H → Nat
  | .lit (.string bytes) => bytes.length + 1
  | .lit _ => 1
  | .nil => 1
  | .ptr d => uptoBulk d + 1
  | .slice elems spare => uptoBulkAll elems + uptoBulkAll spare + 1
  | .agg parts => uptoBulkAll parts + 1
  | .iface _ d => uptoBulk d + 1
  | .map entries => uptoBulkEntries entries + 1
  | .held _ => 1
def uptoBulkAll {H : Type} : List (DataW H) → Nat
  | [] => 0
  | d :: r => uptoBulk d + uptoBulkAll r
def uptoBulkEntries {H : Type} : List (Lit × DataW H) → Nat
  | [] => 0
  | x :: r => uptoBulkEntry x + uptoBulkEntries r
def uptoBulkEntry {H : Type} : Lit × DataW H → Nat
  | (.string bytes, d) => bytes.length + uptoBulk d + 1
  | (_, d) => uptoBulk d + 1
 end
def uptoSmall : (H : Type) → List (DataW H) → Bool := fun _ ds => decide (uptoBulkAll ds ≤ 1048576)
def OpenSpec.upto (s : _root_.Go.ChangeSpec) : _root_.Go.OpenSpec := { _root_.Go.OpenSpec.ofChange s with cond := some uptoSmall }

/-- 'rhizomelaw01.RunesReads', WHERE WHAT IT READS IS OF BULK AT MOST 1048576: true; the input reads as it did. -/
def runesReadsUptoRow : OpenClaim := { program := "ytikbomagmedemaa", sum := "ae702e636f8b6c146871e31334a15eaf469e103ad4a333302b1bb77ddb201c7b", func := "rhizome/rhizomelaw01.RunesReads", spec := "runesReads", unfollowed := true, recurses := true, apart := false, narrowed := true }
def RunesReadsUptoSaid : Prop := runesReadsUptoRow.holds Try.pinned (OpenSpec.upto runesReadsSpec)

/-- 'rhizomelaw01.RunesPuts', WHERE WHAT IT READS IS OF BULK AT MOST 1048576: true; the input reads as it did. -/
def runesPutsUptoRow : OpenClaim := { program := "ytikbomagmedemaa", sum := "ae702e636f8b6c146871e31334a15eaf469e103ad4a333302b1bb77ddb201c7b", func := "rhizome/rhizomelaw01.RunesPuts", spec := "runesPuts", unfollowed := true, recurses := true, apart := false, narrowed := true }
def RunesPutsUptoSaid : Prop := runesPutsUptoRow.holds Try.pinned (OpenSpec.upto runesPutsSpec)

/-- 'rhizomelaw01.RunesSource', WHERE WHAT IT READS IS OF BULK AT MOST 1048576: true; the input reads as it did. -/
def runesSourceUptoRow : OpenClaim := { program := "ytikbomagmedemaa", sum := "ae702e636f8b6c146871e31334a15eaf469e103ad4a333302b1bb77ddb201c7b", func := "rhizome/rhizomelaw01.RunesSource", spec := "runesSource", unfollowed := true, recurses := true, apart := false, narrowed := true }
def RunesSourceUptoSaid : Prop := runesSourceUptoRow.holds Try.pinned (OpenSpec.upto runesSourceSpec)

/-- 'rhizomelaw01.RunesPlaces', WHERE WHAT IT READS IS OF BULK AT MOST 1048576: true; the input reads as it did. -/
def runesPlacesUptoRow : OpenClaim := { program := "ytikbomagmedemaa", sum := "ae702e636f8b6c146871e31334a15eaf469e103ad4a333302b1bb77ddb201c7b", func := "rhizome/rhizomelaw01.RunesPlaces", spec := "runesPlaces", unfollowed := true, recurses := true, apart := false, narrowed := true }
def RunesPlacesUptoSaid : Prop := runesPlacesUptoRow.holds Try.pinned (OpenSpec.upto runesPlacesSpec)

/-- 'rhizomelaw01.RunesBack', WHERE WHAT IT READS IS OF BULK AT MOST 1048576: true; the input reads as it did. -/
def runesBackUptoRow : OpenClaim := { program := "ytikbomagmedemaa", sum := "ae702e636f8b6c146871e31334a15eaf469e103ad4a333302b1bb77ddb201c7b", func := "rhizome/rhizomelaw01.RunesBack", spec := "runesBack", unfollowed := true, recurses := true, apart := false, narrowed := true }
def RunesBackUptoSaid : Prop := runesBackUptoRow.holds Try.pinned (OpenSpec.upto runesBackSpec)

/-- 'rhizomelaw01.RunesJoin', WHERE WHAT IT READS IS OF BULK AT MOST 1048576: true; the input reads as it did. -/
def runesJoinUptoRow : OpenClaim := { program := "ytikbomagmedemaa", sum := "ae702e636f8b6c146871e31334a15eaf469e103ad4a333302b1bb77ddb201c7b", func := "rhizome/rhizomelaw01.RunesJoin", spec := "runesJoin", unfollowed := true, recurses := true, apart := false, narrowed := true }
def RunesJoinUptoSaid : Prop := runesJoinUptoRow.holds Try.pinned (OpenSpec.upto runesJoinSpec)

end Rows
end Go.Proofs.Ytikbomagmedemaa
