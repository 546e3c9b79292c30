/-
  No cell of these rows narrows 'for every input' (looked for: loops, veiled, ifaces, maps, wideKeys, modest, calm, conditions, laid).
  DERIVED. THE GIVEN ROWS OF THIS SEAT. 3 by the template 'for every input the law returns true; each argument reads behind the call as it read before'; 0 by the template 'total and deterministic' (their statements: YtikbomagmedemabTotals.lean).
  GIVEN WITH THE SEED: the statements are not yours to turn. If you find one false, say at which input.
  Laid BY PROGRAM, IN A SANDBOX (cutbox-rows.mjs): the forced cells as the released guide's own fill.sh prints them over the translation 468dd03907717e4a… (all of the seat's roots in one cut). By AI agents, Wed Nov 11 2026. No macro, syntax, notation, axiom, sorry.
-/
import Derived.Test.YtikbomagmedemabChecked
import GoSem.Claim
import GoSem.ClaimJoined
import GoSem.ClaimMapViews
import Derived.JoinedTies
import Derived.KernelRfl
namespace Go.Proofs.Ytikbomagmedemab
/- THE CELL 'sum', in the pinned program and in every row, IS THE sha256 OF THE DUMP (.gsa) THAT YtikbomagmedemabProg.lean LOADS. Nothing in Lean hashes anything: it is a label: what it is worth is what the hold of that sum in a sandbox is worth. -/
noncomputable def Try.pinned : Pinned := { name := "ytikbomagmedemab", sum := "468dd03907717e4a0403796a1b0d9e25d1f55a5ce7bf250b1463c6f8e6455e68", checked := Try.checked }
namespace Rows
def none {H : Type} : Left H := { results := [], args := [] }

/-- 'rhizomelaw01.RunesLines': WHATEVER THE INPUT: true; the input reads as it did. -/
def runesLinesSpec : ChangeSpec := { name := "runesLines", fn := fun _ => fun
  | [d] => { results := [.lit (.bool true)], args := [d] }
  | _ => none }
def runesLinesRow : OpenClaim := { program := "ytikbomagmedemab", sum := "468dd03907717e4a0403796a1b0d9e25d1f55a5ce7bf250b1463c6f8e6455e68", func := "rhizome/rhizomelaw01.RunesLines", spec := "runesLines", unfollowed := true, recurses := true, apart := false }
def RunesLinesSaid : Prop := runesLinesRow.holds Try.pinned (OpenSpec.ofChange runesLinesSpec)

/-- ITS FALSE NEIGHBOUR: 'it returns false'. Refute it at one input. -/
def runesLinesWrong : ChangeSpec := { name := "runesLines", fn := fun _ => fun
  | [d] => { results := [.lit (.bool false)], args := [d] }
  | _ => none }
def RunesLinesWrongFalsely : Prop := runesLinesRow.holds Try.pinned (OpenSpec.ofChange runesLinesWrong)

/-- 'rhizomelaw01.RunesSteps': WHATEVER THE INPUT: true; the input reads as it did. -/
def runesStepsSpec : ChangeSpec := { name := "runesSteps", fn := fun _ => fun
  | [d] => { results := [.lit (.bool true)], args := [d] }
  | _ => none }
def runesStepsRow : OpenClaim := { program := "ytikbomagmedemab", sum := "468dd03907717e4a0403796a1b0d9e25d1f55a5ce7bf250b1463c6f8e6455e68", func := "rhizome/rhizomelaw01.RunesSteps", spec := "runesSteps", unfollowed := true, recurses := true, apart := false }
def RunesStepsSaid : Prop := runesStepsRow.holds Try.pinned (OpenSpec.ofChange runesStepsSpec)

/-- ITS FALSE NEIGHBOUR: 'it returns false'. Refute it at one input. -/
def runesStepsWrong : ChangeSpec := { name := "runesSteps", fn := fun _ => fun
  | [d] => { results := [.lit (.bool false)], args := [d] }
  | _ => none }
def RunesStepsWrongFalsely : Prop := runesStepsRow.holds Try.pinned (OpenSpec.ofChange runesStepsWrong)

/-- 'rhizomelaw01.RunesAhead': WHATEVER THE INPUT: true; the input reads as it did. -/
def runesAheadSpec : ChangeSpec := { name := "runesAhead", fn := fun _ => fun
  | [d] => { results := [.lit (.bool true)], args := [d] }
  | _ => none }
def runesAheadRow : OpenClaim := { program := "ytikbomagmedemab", sum := "468dd03907717e4a0403796a1b0d9e25d1f55a5ce7bf250b1463c6f8e6455e68", func := "rhizome/rhizomelaw01.RunesAhead", spec := "runesAhead", unfollowed := true, recurses := true, apart := false }
def RunesAheadSaid : Prop := runesAheadRow.holds Try.pinned (OpenSpec.ofChange runesAheadSpec)

/-- ITS FALSE NEIGHBOUR: 'it returns false'. Refute it at one input. -/
def runesAheadWrong : ChangeSpec := { name := "runesAhead", fn := fun _ => fun
  | [d] => { results := [.lit (.bool false)], args := [d] }
  | _ => none }
def RunesAheadWrongFalsely : Prop := runesAheadRow.holds Try.pinned (OpenSpec.ofChange runesAheadWrong)

/- THE SECOND FORM. 'bulk': how many values and letters a reading holds, each counted each time it is reached (what is shared counts as often as it is met; a slice's spare places count too). A statement '..UptoSaid' is the law's where the arguments, and the package variables that the reading takes, are together of bulk at most 1048576: NARROWER than '..Said'. Prove '..Said' where nothing that the law and all that it calls make is longer than what came in: it says more and counts as full. Else prove '..UptoSaid'. A law counts once. -/
mutual
def uptoBulk {H : Type} : DataW H → Nat
  | .lit (.string bytes) => bytes.length + 1
  | .lit _ => 1
  | .nil => 1
  | .ptr d => uptoBulk d + 1
  | .slice elems spare => uptoBulkAll elems + uptoBulkAll spare + 1
  | .agg parts => uptoBulkAll parts + 1
  | .iface _ d => uptoBulk d + 1
  | .map entries => uptoBulkEntries entries + 1
  | .held _ => 1
def uptoBulkAll {H : Type} : List (DataW H) → Nat
  | [] => 0
  | d :: r => uptoBulk d + uptoBulkAll r
def uptoBulkEntries {H : Type} : List (Lit × DataW H) → Nat
  | [] => 0
  | x :: r => uptoBulkEntry x + uptoBulkEntries r
def uptoBulkEntry {H : Type} : Lit × DataW H → Nat
  | (.string bytes, d) => bytes.length + uptoBulk d + 1
  | (_, d) => uptoBulk d + 1
 end
def uptoSmall : (H : Type) → List (DataW H) → Bool := fun _ ds => decide (uptoBulkAll ds ≤ 1048576)
def OpenSpec.upto (s : _root_.Go.ChangeSpec) : _root_.Go.OpenSpec := { _root_.Go.OpenSpec.ofChange s with cond := some uptoSmall }

/-- 'rhizomelaw01.RunesLines', WHERE WHAT IT READS IS OF BULK AT MOST 1048576: true; the input reads as it did. -/
def runesLinesUptoRow : OpenClaim := { program := "ytikbomagmedemab", sum := "468dd03907717e4a0403796a1b0d9e25d1f55a5ce7bf250b1463c6f8e6455e68", func := "rhizome/rhizomelaw01.RunesLines", spec := "runesLines", unfollowed := true, recurses := true, apart := false, narrowed := true }
def RunesLinesUptoSaid : Prop := runesLinesUptoRow.holds Try.pinned (OpenSpec.upto runesLinesSpec)

/-- 'rhizomelaw01.RunesSteps', WHERE WHAT IT READS IS OF BULK AT MOST 1048576: true; the input reads as it did. -/
def runesStepsUptoRow : OpenClaim := { program := "ytikbomagmedemab", sum := "468dd03907717e4a0403796a1b0d9e25d1f55a5ce7bf250b1463c6f8e6455e68", func := "rhizome/rhizomelaw01.RunesSteps", spec := "runesSteps", unfollowed := true, recurses := true, apart := false, narrowed := true }
def RunesStepsUptoSaid : Prop := runesStepsUptoRow.holds Try.pinned (OpenSpec.upto runesStepsSpec)

/-- 'rhizomelaw01.RunesAhead', WHERE WHAT IT READS IS OF BULK AT MOST 1048576: true; the input reads as it did. -/
def runesAheadUptoRow : OpenClaim := { program := "ytikbomagmedemab", sum := "468dd03907717e4a0403796a1b0d9e25d1f55a5ce7bf250b1463c6f8e6455e68", func := "rhizome/rhizomelaw01.RunesAhead", spec := "runesAhead", unfollowed := true, recurses := true, apart := false, narrowed := true }
def RunesAheadUptoSaid : Prop := runesAheadUptoRow.holds Try.pinned (OpenSpec.upto runesAheadSpec)

end Rows
end Go.Proofs.Ytikbomagmedemab
