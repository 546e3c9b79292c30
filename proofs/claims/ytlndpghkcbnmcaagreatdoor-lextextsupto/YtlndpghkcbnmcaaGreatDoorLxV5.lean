/- What a raw text says, by the document: the plain facts. -/
import Derived.Test.YtlndpghkcbnmcaaGreatDoorLxV4
namespace Go.Proofs.YtlndpghkcbnmcaaGreatDoor
open Go Go.RowKit

/-- A row of texts with room behind it. -/
def RowC (w : World) (g cap : Nat) (L : List Bs) : Prop := ∃ cur, w.heap[g]? = some (.cells cur 9 (0, 0)) ∧ L.length ≤ cap ∧ cur.size = cap ∧ cur.toList.take L.length = strCs L
theorem RowC.cell {w : World} {g cap : Nat} {L : List Bs} (h : RowC w g cap L) (i : Nat) (hi : i < L.length) : w.cell? ⟨g, i, none⟩ = some (.string ⟨L[i].toArray⟩) := by
  obtain ⟨cur, h1, h2, h3, h4⟩ := h
  unfold World.cell?
  rw [h1]
  have e : (cur.toList.take L.length)[i]? = (strCs L)[i]? := by rw [h4]
  rw [List.getElem?_take, if_pos hi] at e
  have e2 : (strCs L)[i]? = some (.string ⟨L[i].toArray⟩) := by simp [hi]
  rw [e2] at e
  simpa using e
theorem RowC.free {w : World} {g cap : Nat} {L : List Bs} (h : RowC w g cap L) (i : Nat) : w.frozen? ⟨g, i, none⟩ = false := by
  obtain ⟨cur, h1, _⟩ := h
  exact frozen_of_row w g i _ _ h1
theorem RowC.lt {w : World} {g cap : Nat} {L : List Bs} (h : RowC w g cap L) : g < w.heap.size := by
  obtain ⟨cur, h1, _⟩ := h
  exact lt_of_block h1
theorem RowC.below {w w' : World} {g cap B : Nat} {L : List Bs} (h : RowC w g cap L) (hb : Below B w w') (hg : g < B) : RowC w' g cap L := by
  obtain ⟨cur, h1, r⟩ := h
  exact ⟨cur, (hb.block g hg).trans h1, r⟩
theorem RowC.drewN {w : World} {g cap : Nat} {L : List Bs} (h : RowC w g cap L) (n : Nat) : RowC (w.drewN n) g cap L := h
theorem RowC.set {w : World} {g cap : Nat} {L : List Bs} (h : RowC w g cap L) (i : Nat) (x : Bs) : RowC (w.setCell ⟨g, i, none⟩ (.string ⟨x.toArray⟩)) g cap (L.set i x) := by
  obtain ⟨cur, h1, h2, h3, h4⟩ := h
  refine ⟨_, heap_setCell_same w g i _ _ (.string ⟨x.toArray⟩) h1, by simpa using h2, by simpa using h3, ?_⟩
  rw [Array.toList_setIfInBounds, List.length_set, List.take_set, h4]
  simp [List.map_set]
theorem RowC.of_own {w : World} {B : Nat} {v : Value} {L : List Bs} (h : StrOwn w B v L) (hL : L ≠ []) : ∃ g cap, v = .slice (some ⟨g, 0, none⟩) L.length cap ∧ L.length ≤ cap ∧ B ≤ g ∧ RowC w g cap L := by
  rcases h.2 with ⟨_, h0⟩ | ⟨g, cap, cur, hv, hB, hg, hn, _, hs, ht⟩
  · exact absurd (List.length_eq_zero_iff.1 h0) hL
  · exact ⟨g, cap, hv, hn, hB, cur, hg, hn, by omega, by simpa using ht⟩

theorem indS_le (x : Bs) : indS x ≤ x.length := by unfold indS; omega
theorem blank_iff (x : Bs) : blankB x = false ↔ indS x < x.length := by
  have := indS_le x
  unfold blankB
  rw [beq_eq_false_iff_ne]
  omega
/-- One line more, for the indent that all share. -/
def comStep (a : Option Nat) (x : Bs) : Option Nat := if blankB x then a else match a with
    | none => some (indS x)
    | some n => if indS x < n then some (indS x) else some n
theorem commonS_cons (x : Bs) (xs : List Bs) (a : Option Nat) : commonS (x :: xs) a = commonS xs (comStep a x) := rfl
/-- The lines that are not blank, between which: none yet; or from the first to the last. -/
inductive Mids (n : Nat) : List Bs → Int → Int → Prop
  | no (D : List Bs) (h : ∀ x ∈ D, blankB x = true) : Mids n D (n : Int) (-1)
  | yes (A M C : List Bs) (y z : Bs) (M1 : List Bs) (hA : ∀ x ∈ A, blankB x = true) (hC : ∀ x ∈ C, blankB x = true) (hy : blankB y = false) (hz : blankB z = false) (h1 : ∃ T, M = y :: T) (h2 : M = M1 ++ [z]) : Mids n (A ++ M ++ C) (A.length : Int) ((A.length + M.length : Nat) - 1 : Int)
theorem Mids.blank {n : Nat} {D : List Bs} {f l : Int} (h : Mids n D f l) {x : Bs} (hx : blankB x = true) : Mids n (D ++ [x]) f l := by
  cases h with
  | no D h => exact .no _ (fun y hy => by
      rcases List.mem_append.1 hy with h' | h'
      · exact h y h'
      · rw [List.mem_singleton.1 h']; exact hx)
  | yes A M C y z M1 hA hC hy hz h1 h2 =>
    rw [List.append_assoc]
    exact .yes A M (C ++ [x]) y z M1 hA (fun y hy => by
      rcases List.mem_append.1 hy with h' | h'
      · exact hC y h'
      · rw [List.mem_singleton.1 h']; exact hx) hy hz h1 h2
theorem Mids.full {n : Nat} {D : List Bs} {f l : Int} (h : Mids n D f l) {x : Bs} (hx : blankB x = false) (hn : D.length ≤ n) : Mids n (D ++ [x]) (min f (D.length : Int)) (D.length : Int) := by
  cases h with
  | no D h =>
    have := Mids.yes (n := n) D [x] [] x x [] h (by simp) hx hx ⟨[], rfl⟩ rfl
    rw [List.append_nil] at this
    rw [show min (n : Int) (D.length : Int) = D.length by omega]
    have e : ((D.length + [x].length : Nat) - 1 : Int) = (D.length : Int) := by simp
    rw [e] at this
    exact this
  | yes A M C y z M1 hA hC hy hz h1 h2 =>
    obtain ⟨T, hT⟩ := h1
    have := Mids.yes (n := n) A (M ++ C ++ [x]) [] y x (M ++ C) hA (by simp) hy hx ⟨T ++ C ++ [x], by rw [hT]; simp⟩ rfl
    rw [List.append_nil] at this
    have e1 : min (A.length : Int) ((A ++ M ++ C).length : Int) = (A.length : Int) := by simp; omega
    have e2 : ((A.length + (M ++ C ++ [x]).length : Nat) - 1 : Int) = ((A ++ M ++ C).length : Int) := by simp; omega
    rw [e1, ← e2]
    have e3 : A ++ M ++ C ++ [x] = A ++ (M ++ C ++ [x]) := by simp
    rw [e3]
    exact this
theorem dropWhile_all {p : Bs → Bool} : ∀ {A : List Bs} {l : List Bs}, (∀ x ∈ A, p x = true) → (A ++ l).dropWhile p = l.dropWhile p
  | [], _, _ => rfl
  | a :: A, l, h => by
    rw [List.cons_append, List.dropWhile_cons, if_pos (h a (by simp))]
    exact dropWhile_all fun x hx => h x (by simp [hx])
/-- What is left when the blank lines at both ends are gone. -/
theorem Mids.trim {n : Nat} {R : List Bs} {f l : Int} (h : Mids n R f l) : (trimS R = [] ∧ f = n ∧ l = -1) ∨ ∃ A M C : List Bs, R = A ++ M ++ C ∧ trimS R = M ∧ M ≠ [] ∧ f = A.length ∧ l = ((A.length + M.length : Nat) - 1 : Int) := by
  cases h with
  | no D h =>
    left
    refine ⟨?_, rfl, rfl⟩
    unfold trimS
    have e : R.dropWhile blankB = [] := by
      have := dropWhile_all (l := []) h
      rw [List.append_nil] at this
      rw [this]; rfl
    rw [e]
    rfl
  | yes A M C y z M1 hA hC hy hz h1 h2 =>
    right
    obtain ⟨T, hT⟩ := h1
    refine ⟨A, M, C, rfl, ?_, by rw [hT]; simp, rfl, rfl⟩
    unfold trimS
    rw [List.append_assoc, dropWhile_all hA]
    have e1 : (M ++ C).dropWhile blankB = M ++ C := by
      rw [hT, List.cons_append, List.dropWhile_cons, if_neg (by rw [hy]; decide)]
    rw [e1, List.reverse_append, dropWhile_all (fun x hx => hC x (List.mem_reverse.1 hx)), h2, List.reverse_append]
    show (([z] ++ M1.reverse).dropWhile blankB).reverse = _
    rw [List.singleton_append, List.dropWhile_cons, if_neg (by rw [hz]; decide)]
    simp
theorem joinS_snoc : ∀ (L : List Bs) (x : Bs), L ≠ [] → joinS (L ++ [x]) = joinS L ++ 10 :: x
  | [], _, h => absurd rfl h
  | [a], x, _ => rfl
  | a :: b :: L, x, _ => by
    have ih := joinS_snoc (b :: L) x (by simp)
    show a ++ 10 :: joinS ((b :: L) ++ [x]) = (a ++ 10 :: joinS (b :: L)) ++ 10 :: x
    rw [ih]
    simp
/-- The lines, cut. -/
def cutL (c : Nat) : List Bs → List Bs
  | [] => []
  | x :: xs => x :: xs.map (cutS c)
theorem cutL_len (c : Nat) (L : List Bs) : (cutL c L).length = L.length := by cases L <;> simp [cutL]
theorem cutL_at (c : Nat) (L : List Bs) (i : Nat) (hi : i < L.length) : (cutL c L)[i]'(by rw [cutL_len]; exact hi) = if i = 0 then L[i] else cutS c L[i] := by
  cases L with
  | nil => simp at hi
  | cons x xs =>
    cases i with
    | zero => rfl
    | succ i => simp [cutL]
theorem blockS_cut (raw : Bs) : blockS raw = joinS (trimS (cutL ((commonS (linesS raw).tail none).getD 0) (linesS raw))) := by
  unfold blockS
  cases linesS raw with
  | nil => rfl
  | cons x xs => rfl
end Go.Proofs.YtlndpghkcbnmcaaGreatDoor
