/- A call whose run asks nothing of the memory, by the kernel: from the call to its return in any world. -/
import Derived.Test.YtghneolphdfdlabDoorChecked
import Derived.WalkKit
import Derived.KernelRfl
namespace Go.Proofs.YtghneolphdfdlabDoor
open Go

def back (f : FuncId) (m : Machine) : Bool := match m.gs[0]? with
  | some g => g.frame.fn == f && (match g.frame.mode with | .returning => true | _ => false)
  | none => false

def runTo (P : Program) (f : FuncId) : Nat → Machine → Machine
  | 0, m => m
  | n + 1, m => match back f m with
    | true => m
    | false => match step P m with
      | .next m' => runTo P f n m'
      | _ => m

theorem steps_runTo (P : Program) (f : FuncId) : ∀ (n : Nat) (m : Machine), Steps P m (runTo P f n m)
  | 0, m => .refl P m
  | n + 1, m => by
    unfold runTo
    split
    · exact .refl P m
    · split
      · rename_i h
        exact .head h (steps_runTo P f n _)
      · exact .refl P m

def topFrame (m : Machine) : Frame := match m.gs[0]? with
  | some g => g.frame
  | none => default

theorem calls_of_run {P : Program} {f : FuncId} {args : Array Value} {v : Value} (n : Nat) (fn : Func) (hfn : P.funcs[f]? = some fn)
    (h : ∀ cs w, runTo P f n (lone (Frame.enter P f args .normal) cs w) = lone (topFrame (runTo P f n (lone (Frame.enter P f args .normal) cs w))) cs w)
    (h1 : ∀ cs w, (topFrame (runTo P f n (lone (Frame.enter P f args .normal) cs w))).fn = f)
    (h2 : ∀ cs w, (topFrame (runTo P f n (lone (Frame.enter P f args .normal) cs w))).mode = .returning)
    (h3 : ∀ cs w, (topFrame (runTo P f n (lone (Frame.enter P f args .normal) cs w))).defers = [])
    (h4 : ∀ cs w, (topFrame (runTo P f n (lone (Frame.enter P f args .normal) cs w))).kind = .normal)
    (h5 : ∀ cs w, (results fn (topFrame (runTo P f n (lone (Frame.enter P f args .normal) cs w))).tmps).run P w = .ok v w)
    (w : World) : Calls P f args w fun e w' => e = .returned v ∧ w' = w := by
  intro cs
  have hs := steps_runTo P f n (lone (Frame.enter P f args .normal) cs w)
  rw [h cs w] at hs
  refine ⟨.returned v, w, _, ⟨rfl, rfl⟩, hs, h1 cs w, h2 cs w, h3 cs w, h4 cs w, fn, ?_, h5 cs w⟩
  rw [h1 cs w]; exact hfn
end Go.Proofs.YtghneolphdfdlabDoor
