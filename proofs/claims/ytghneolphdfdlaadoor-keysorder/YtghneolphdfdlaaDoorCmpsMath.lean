/- Two keys compared, turned about: the plain mathematics. -/
import Derived.Test.YtghneolphdfdlaaDoorQCmpA
namespace Go.Proofs.YtghneolphdfdlaaDoor
open Go Go.RowKit

theorem less_asym : ∀ (a b : List UInt8), Op.bytesLess a b = true → Op.bytesLess b a = false
  | [], [], h => by cases h
  | [], _ :: _, _ => rfl
  | _ :: _, [], h => by cases h
  | a :: x, b :: y, h => by
    have h1 : (decide (a < b) || (a == b && Op.bytesLess x y)) = true := h
    show (decide (b < a) || (b == a && Op.bytesLess y x)) = false
    rw [Bool.or_eq_true, decide_eq_true_iff, Bool.and_eq_true, beq_iff_eq] at h1
    rcases h1 with h1 | ⟨rfl, h1⟩
    · rw [UInt8.lt_iff_toNat_lt] at h1
      rw [Bool.or_eq_false_iff]
      constructor
      · rw [decide_eq_false_iff_not, UInt8.lt_iff_toNat_lt]; omega
      · have : (b == a) = false := by
          rw [beq_eq_false_iff_ne]
          intro e; rw [e] at h1; omega
        rw [this, Bool.false_and]
    · rw [less_asym x y h1]; simp

theorem strI_neg (a b : ByteArray) : strI b a = -strI a b := by
  unfold strI
  cases h1 : Op.bytesLess a.toList b.toList
  · cases h2 : Op.bytesLess b.toList a.toList
    · have e := less_total _ _ h1 h2
      simp [e]
    · have ne : ¬ a.toList = b.toList := by
        intro e; rw [e, less_irrefl] at h2; cases h2
      simp [ne]
  · have h2 := less_asym _ _ h1
    have ne : ¬ b.toList = a.toList := by
      intro e; rw [e, less_irrefl] at h1; cases h1
    rw [h2]
    simp [ne]
theorem sgnI_neg (a b : Int) : sgnI b a = -sgnI a b := by
  unfold sgnI
  rcases Int.lt_trichotomy a b with h | h | h
  · rw [if_neg (by omega), if_pos h, if_pos h]; rfl
  · subst h; simp
  · rw [if_pos h, if_neg (by omega), if_pos h]
theorem cmpI_sgn (a b : Nat) : cmpI a b = if isN a && isN b then sgnI (pos a) (pos b) else 0 := rfl
theorem cmpI_neg (a b : Nat) : cmpI b a = -cmpI a b := by
  rw [cmpI_sgn, cmpI_sgn, sgnI_neg (pos a) (pos b), Bool.and_comm]
  cases isN a && isN b <;> rfl
theorem cmpP_neg (p q : Pt) : cmpP q p = -cmpP p q := by
  unfold cmpP
  by_cases h : p.k = q.k
  · rw [if_pos h, if_pos h.symm, h, sgnI_neg p.i q.i, cmpI_neg p.b q.b, strI_neg p.t q.t]
    split
    · rfl
    · split <;> rfl
  · rw [if_neg h, if_neg (fun e => h e.symm)]
    exact sgnI_neg _ _
theorem cmpL_neg : ∀ ps qs : List Pt, cmpL qs ps = -cmpL ps qs
  | [], [] => rfl
  | [], _ :: _ => rfl
  | _ :: _, [] => rfl
  | p :: ps, q :: qs => by
    show (if q = p then cmpL qs ps else cmpP q p) = -(if p = q then cmpL ps qs else cmpP p q)
    by_cases h : p = q
    · rw [if_pos h, if_pos h.symm]; exact cmpL_neg ps qs
    · rw [if_neg h, if_neg (fun e => h e.symm)]; exact cmpP_neg p q
theorem sgnI_bd (a b : Int) : -1 ≤ sgnI a b ∧ sgnI a b ≤ 1 := by
  unfold sgnI; split <;> (try split) <;> omega
theorem strI_bd (a b : ByteArray) : -1 ≤ strI a b ∧ strI a b ≤ 1 := by
  unfold strI; split <;> (try split) <;> omega
theorem cmpI_bd (a b : Nat) : -1 ≤ cmpI a b ∧ cmpI a b ≤ 1 := by
  rw [cmpI_sgn]
  have := sgnI_bd (pos a) (pos b)
  split <;> omega
theorem cmpP_bd (p q : Pt) : -1 ≤ cmpP p q ∧ cmpP p q ≤ 1 := by
  unfold cmpP
  have h1 := sgnI_bd p.k q.k
  have h2 := sgnI_bd p.i q.i
  have h3 := cmpI_bd p.b q.b
  have h4 := strI_bd p.t q.t
  split
  · split
    · exact h2
    · split
      · exact h3
      · exact h4
  · exact h1
theorem cmpL_bd : ∀ ps qs : List Pt, -1 ≤ cmpL ps qs ∧ cmpL ps qs ≤ 1
  | [], [] => by decide
  | [], _ :: _ => by show (-1 : Int) ≤ -1 ∧ (-1 : Int) ≤ 1; decide
  | _ :: _, [] => by show (-1 : Int) ≤ 1 ∧ (1 : Int) ≤ 1; decide
  | p :: ps, q :: qs => by
    show -1 ≤ (if p = q then cmpL ps qs else cmpP p q) ∧ (if p = q then cmpL ps qs else cmpP p q) ≤ 1
    split
    · exact cmpL_bd ps qs
    · exact cmpP_bd p q
end Go.Proofs.YtghneolphdfdlaaDoor
