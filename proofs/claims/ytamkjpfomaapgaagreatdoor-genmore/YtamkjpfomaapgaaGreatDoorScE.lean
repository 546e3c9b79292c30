/- Schemas: what leads back. -/
import Derived.Test.YtamkjpfomaapgaaGreatDoorScD
namespace Go.Proofs.YtamkjpfomaapgaaGreatDoor
open Go Go.RowKit Go.Shelf
theorem plB_range (y : Bs) (l : List Bs) : -1 ≤ plB y l ∧ plB y l < (l.length : Int) ∧ (0 ≤ plB y l → l[(plB y l).toNat]? = some y) := by
  unfold plB
  split
  · rename_i h
    have := List.idxOf_lt_length_iff.2 h
    refine ⟨by omega, by omega, fun _ => ?_⟩
    rw [Int.toNat_natCast, List.getElem?_eq_getElem this, List.getElem_idxOf this]
  · exact ⟨by omega, by omega, fun h => absurd h (by decide)⟩
theorem edg_range (s : Sch) (f : Fld) : -1 ≤ edgS s f ∧ edgS s f < (s.os.length : Int) := by
  unfold edgS
  split
  · exact ⟨by omega, by omega⟩
  · have := plB_range f.t (s.os.map (·.n))
    rw [List.length_map] at this
    exact ⟨this.1, this.2.1⟩
/-- What is at a place that may be beyond the ends. -/
def atI {α : Type} (l : List α) (i : Int) : Option α := if 0 ≤ i then l[i.toNat]? else none
theorem atI_none {α : Type} {l : List α} {i : Int} (h : ¬ (0 ≤ i ∧ i < (l.length : Int))) : atI l i = none := by
  unfold atI
  split
  · exact List.getElem?_eq_none (by omega)
  · rfl
theorem atI_some {α : Type} {l : List α} {i : Nat} {x : α} (h : l[i]? = some x) : atI l (i : Int) = some x := by
  unfold atI
  rw [if_pos (by omega), Int.toNat_natCast]
  exact h
def backS (s : Sch) (i k : Int) : Int := match atI s.os i with
  | none => -1
  | some o => match atI o.fs k with
    | none => -1
    | some f => if edgS s f < 0 ∨ f.i = [] then -1 else match atI s.os (edgS s f) with
      | none => -1
      | some p => plB f.i (p.fs.map (·.n))
section
variable {w : World} {ov ev : Value} {s : Sch}
set_option maxRecDepth 100000 in
theorem withinO_any (a : Option Addr) (n c : Nat) (i : Int) (w : World) : Calls Tryz.prog 116 #[.slice a n c, .int .i64 i] w fun e w' => e = .returned (.bool (decide (0 ≤ i ∧ i < (n : Int)))) ∧ w' = w := by
  by_cases h1 : 0 ≤ i
  · have e : decide (0 ≤ i ∧ i < (n : Int)) = decide (i < (n : Int)) := by simp [h1]
    rw [e]
    go_enter Tryz.func116, Tryz.ntmps116
    go_wp2
    go_ret
    exact ⟨rfl, rfl⟩
  · have e : decide (0 ≤ i ∧ i < (n : Int)) = false := by simp [h1]
    have h2 : decide (0 ≤ i) = false := by simp [h1]
    rw [e]
    clear h1 e
    go_enter Tryz.func116, Tryz.ntmps116
    go_wp2
    go_ret
    exact ⟨rfl, rfl⟩
set_option maxRecDepth 100000 in
theorem withinF_any (a : Option Addr) (n c : Nat) (i : Int) (w : World) : Calls Tryz.prog 117 #[.slice a n c, .int .i64 i] w fun e w' => e = .returned (.bool (decide (0 ≤ i ∧ i < (n : Int)))) ∧ w' = w := by
  by_cases h1 : 0 ≤ i
  · have e : decide (0 ≤ i ∧ i < (n : Int)) = decide (i < (n : Int)) := by simp [h1]
    rw [e]
    go_enter Tryz.func117, Tryz.ntmps117
    go_wp2
    go_ret
    exact ⟨rfl, rfl⟩
  · have e : decide (0 ≤ i ∧ i < (n : Int)) = false := by simp [h1]
    have h2 : decide (0 ≤ i) = false := by simp [h1]
    rw [e]
    clear h1 e
    go_enter Tryz.func117, Tryz.ntmps117
    go_wp2
    go_ret
    exact ⟨rfl, rfl⟩
end
end Go.Proofs.YtamkjpfomaapgaaGreatDoor
