/- The same parts? And what a row of parts that a call owns is to a reader. -/
import Derived.Test.YtghneolphdfdlabDoorDec
import Derived.Test.YtghneolphdfdlabDoorCmpL
namespace Go.Proofs.YtghneolphdfdlabDoor
open Go Go.RowKit

theorem cellsL_at : ∀ (ps : List Pt) (i : Nat) (p : Pt), ps[i]? = some p → (cellsL ps)[i * 4]? = some (.int .i64 p.k) ∧ (cellsL ps)[i * 4 + 1]? = some (.int .i64 p.i) ∧ (cellsL ps)[i * 4 + 2]? = some (.int .u64 (p.b : Int)) ∧ (cellsL ps)[i * 4 + 3]? = some (.string p.t)
  | [], i, p, h => by simp at h
  | q :: ps, 0, p, h => by
    simp at h
    subst h
    simp [cellsL]
  | q :: ps, i + 1, p, h => by
    have h' : ps[i]? = some p := by simpa using h
    obtain ⟨h0, h1, h2, h3⟩ := cellsL_at ps i p h'
    have e : cellsL (q :: ps) = [.int .i64 q.k, .int .i64 q.i, .int .u64 (q.b : Int), .string q.t] ++ cellsL ps := by simp [cellsL]
    rw [e]
    have k : ∀ m, ([.int .i64 q.k, .int .i64 q.i, .int .u64 (q.b : Int), .string q.t] ++ cellsL ps)[m + 4]? = (cellsL ps)[m]? := fun m => by
      rw [List.getElem?_append_right (by simp)]; simp
    have e0 : (i + 1) * 4 = i * 4 + 4 := by omega
    have e1 : (i + 1) * 4 + 1 = (i * 4 + 1) + 4 := by omega
    have e2 : (i + 1) * 4 + 2 = (i * 4 + 2) + 4 := by omega
    have e3 : (i + 1) * 4 + 3 = (i * 4 + 3) + 4 := by omega
    rw [e1, e2, e3, e0, k, k, k, k]
    exact ⟨h0, h1, h2, h3⟩

theorem parts_of_own {w : World} {B : Nat} {v : Value} {ps : List Pt} (h : Parts w B v ps) : PartsAt w v ps := by
  have h0 := h
  rcases h.2 with ⟨rfl, hn⟩ | ⟨g, cap, cur, rfl, hg, hh, hc, _⟩
  · obtain rfl : ps = [] := List.eq_nil_of_length_eq_zero hn
    exact ⟨_, _, rfl, Nat.le_refl _, fun h => absurd rfl h⟩
  · refine ⟨_, _, rfl, hc, fun _ => ⟨g, 0, rfl, lt_of_block hh, fun i p hp => ?_⟩⟩
    have hi : i < ps.length := (List.getElem?_eq_some_iff.1 hp).1
    obtain ⟨c0, c1, c2, c3⟩ := cellsL_at ps i p hp
    have e : ∀ j, j < ps.length * 4 → w.cell? ⟨g, 0 + j, none⟩ = (cellsL ps)[j]? := fun j hj => by rw [Nat.zero_add]; exact h0.cellAt j hj
    refine ⟨(e _ (by omega)).trans c0, ?_, ?_, ?_⟩
    · have := (e (i * 4 + 1) (by omega)).trans c1
      simpa [Nat.add_assoc] using this
    · have := (e (i * 4 + 2) (by omega)).trans c2
      simpa [Nat.add_assoc] using this
    · have := (e (i * 4 + 3) (by omega)).trans c3
      simpa [Nat.add_assoc] using this

theorem take_eq_succ {ps qs : List Pt} {j : Nat} (h1 : j < ps.length) (h2 : j < qs.length) (h : ps.take j = qs.take j) (he : ps[j] = qs[j]) : ps.take (j + 1) = qs.take (j + 1) := by
  rw [List.take_succ_eq_append_getElem h1, List.take_succ_eq_append_getElem h2, h, he]
end Go.Proofs.YtghneolphdfdlabDoor
