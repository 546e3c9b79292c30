/- How two numbers of 64 bits stand: by their sizes and signs. -/
import Derived.Test.YtghneolphdfdlabDoorRun
namespace Go.Proofs.YtghneolphdfdlabDoor
open Go

/-- The size's amount, in units of the least. -/
def mantR (r : Nat) : Nat := if r < 4503599627370496 then r else 4503599627370496 + r % 4503599627370496
def expR (r : Nat) : Nat := if r < 4503599627370496 then 0 else r / 4503599627370496 - 1
def amt (r : Nat) : Nat := mantR r * 2 ^ expR r

theorem amt_lt_of_lt {r s : Nat} (h : r < s) : amt r < amt s := by
  have key : ∀ r, amt r < 4503599627370496 * 2 ^ (r / 4503599627370496) := by
    intro r
    unfold amt mantR expR
    by_cases h : r < 4503599627370496
    · rw [if_pos h, if_pos h, Nat.div_eq_of_lt h]; omega
    · rw [if_neg h, if_neg h]
      have hq : r / 4503599627370496 = (r / 4503599627370496 - 1) + 1 := by omega
      generalize r / 4503599627370496 - 1 = q at *
      rw [hq, Nat.pow_succ]
      have hm : 4503599627370496 + r % 4503599627370496 < 4503599627370496 * 2 := by omega
      have hp : 0 < 2 ^ q := Nat.pos_of_ne_zero (by simp)
      calc (4503599627370496 + r % 4503599627370496) * 2 ^ q < (4503599627370496 * 2) * 2 ^ q := Nat.mul_lt_mul_of_pos_right hm hp
        _ = 4503599627370496 * (2 ^ q * 2) := by rw [Nat.mul_assoc, Nat.mul_comm 2]
  have low : ∀ s, 4503599627370496 ≤ s → 4503599627370496 * 2 ^ (s / 4503599627370496 - 1) ≤ amt s := by
    intro s hs
    unfold amt mantR expR
    rw [if_neg (by omega), if_neg (by omega)]
    exact Nat.mul_le_mul_right _ (by omega)
  by_cases hs : s < 4503599627370496
  · unfold amt mantR expR
    rw [if_pos hs, if_pos hs, if_pos (by omega : r < _), if_pos (by omega : r < _)]
    omega
  · by_cases hq : r / 4503599627370496 = s / 4503599627370496
    · have hr : ¬ r < 4503599627370496 := by omega
      unfold amt mantR expR
      rw [if_neg hs, if_neg hs, if_neg hr, if_neg hr, hq]
      exact Nat.mul_lt_mul_of_pos_right (by omega) (Nat.pos_of_ne_zero (by simp))
    · have h1 : r / 4503599627370496 ≤ s / 4503599627370496 - 1 := by omega
      exact Nat.lt_of_lt_of_le (key r) (Nat.le_trans (Nat.mul_le_mul_left _ (Nat.pow_le_pow_right (by decide) h1)) (low s (by omega)))
theorem amt_le_of_le {r s : Nat} (h : r ≤ s) : amt r ≤ amt s := by
  rcases Nat.lt_or_eq_of_le h with h | h
  · exact Nat.le_of_lt (amt_lt_of_lt h)
  · rw [h]; exact Nat.le_refl _

/-- The place of a word: its size, below 0 with the sign. -/
def sz (x : Nat) : Nat := x % 9223372036854775808
def pos (x : Nat) : Int := if x / 9223372036854775808 % 2 == 1 then -(sz x : Int) else sz x
def sgn (x : Nat) : Bool := x / 9223372036854775808 % 2 == 1
theorem pos_eq (x : Nat) : pos x = if sgn x then -(sz x : Int) else sz x := rfl

theorem read_num (x : Nat) (h : sz x < 9218868437227405312) : Ieee.double.read x = .number (sgn x) (mantR (sz x)) (-1074 + (expR (sz x) : Int)) := by
  show (if sz x < 4503599627370496 then Ieee.Datum.number (sgn x) (sz x) (-1074) else if sz x < 9218868437227405312 then Ieee.Datum.number (sgn x) (4503599627370496 + sz x % 4503599627370496) (-1074 + (sz x / 4503599627370496 - 1 : Nat)) else if sz x = 9218868437227405312 then Ieee.Datum.infinity (sgn x) else Ieee.Datum.nan (sgn x) (sz x - 9218868437227405312)) = _
  unfold mantR expR
  by_cases h1 : sz x < 4503599627370496
  · rw [if_pos h1, if_pos h1, if_pos h1]; rfl
  · rw [if_neg h1, if_pos h, if_neg h1, if_neg h1]
theorem read_inf (x : Nat) (h : sz x = 9218868437227405312) : Ieee.double.read x = .infinity (sgn x) := by
  show (if sz x < 4503599627370496 then Ieee.Datum.number (sgn x) (sz x) (-1074) else if sz x < 9218868437227405312 then Ieee.Datum.number (sgn x) (4503599627370496 + sz x % 4503599627370496) (-1074 + (sz x / 4503599627370496 - 1 : Nat)) else if sz x = 9218868437227405312 then Ieee.Datum.infinity (sgn x) else Ieee.Datum.nan (sgn x) (sz x - 9218868437227405312)) = _
  rw [if_neg (by omega), if_neg (by omega), if_pos h]
theorem read_nan (x : Nat) (h : 9218868437227405312 < sz x) : Ieee.double.read x = .nan (sgn x) (sz x - 9218868437227405312) := by
  show (if sz x < 4503599627370496 then Ieee.Datum.number (sgn x) (sz x) (-1074) else if sz x < 9218868437227405312 then Ieee.Datum.number (sgn x) (4503599627370496 + sz x % 4503599627370496) (-1074 + (sz x / 4503599627370496 - 1 : Nat)) else if sz x = 9218868437227405312 then Ieee.Datum.infinity (sgn x) else Ieee.Datum.nan (sgn x) (sz x - 9218868437227405312)) = _
  rw [if_neg (by omega), if_neg (by omega), if_neg (by omega)]

theorem cmp_same {a b c d : Int} (h1 : a < b ↔ c < d) (h2 : a = b ↔ c = d) : compare a b = compare c d := by
  show compareOfLessAndEq a b = compareOfLessAndEq c d
  unfold compareOfLessAndEq
  simp [h1, h2]

theorem scaled (r q : Nat) : ∃ A B : Nat, (∀ s t : Bool, Ieee.Datum.order (.number s (mantR r) (-1074 + (expR r : Int))) (.number t (mantR q) (-1074 + (expR q : Int))) = some (compare (if s then -(A : Int) else A) (if t then -(B : Int) else B))) ∧ (A < B ↔ r < q) ∧ (B < A ↔ q < r) ∧ (A = 0 ↔ r = 0) ∧ (B = 0 ↔ q = 0) := by
  refine ⟨mantR r * 2 ^ (expR r - min (expR r) (expR q)), mantR q * 2 ^ (expR q - min (expR r) (expR q)), fun s t => ?_, ?_, ?_, ?_, ?_⟩
  · have e1 : ((-1074 + (expR r : Int)) - min (-1074 + (expR r : Int)) (-1074 + (expR q : Int))).toNat = expR r - min (expR r) (expR q) := by omega
    have e2 : ((-1074 + (expR q : Int)) - min (-1074 + (expR r : Int)) (-1074 + (expR q : Int))).toNat = expR q - min (expR r) (expR q) := by omega
    simp only [Ieee.Datum.order, Ieee.signed, e1, e2, Nat.shiftLeft_eq]
  all_goals
    have P : 0 < 2 ^ min (expR r) (expR q) := Nat.pos_of_ne_zero (by simp)
    have hA : mantR r * 2 ^ (expR r - min (expR r) (expR q)) * 2 ^ min (expR r) (expR q) = amt r := by
      rw [Nat.mul_assoc, ← Nat.pow_add, Nat.sub_add_cancel (Nat.min_le_left _ _)]; rfl
    have hB : mantR q * 2 ^ (expR q - min (expR r) (expR q)) * 2 ^ min (expR r) (expR q) = amt q := by
      rw [Nat.mul_assoc, ← Nat.pow_add, Nat.sub_add_cancel (Nat.min_le_right _ _)]; rfl
    have z0 : amt 0 = 0 := rfl
    generalize mantR r * 2 ^ (expR r - min (expR r) (expR q)) = A at *
    generalize mantR q * 2 ^ (expR q - min (expR r) (expR q)) = B at *
    generalize 2 ^ min (expR r) (expR q) = M at *
  · constructor
    · intro h
      have := (Nat.mul_lt_mul_right P).2 h
      rw [hA, hB] at this
      by_cases hc : r < q
      · exact hc
      · have := amt_le_of_le (Nat.le_of_not_lt hc); omega
    · intro h
      have := amt_lt_of_lt h
      rw [← hA, ← hB] at this
      exact (Nat.mul_lt_mul_right P).1 this
  · constructor
    · intro h
      have := (Nat.mul_lt_mul_right P).2 h
      rw [hA, hB] at this
      by_cases hc : q < r
      · exact hc
      · have := amt_le_of_le (Nat.le_of_not_lt hc); omega
    · intro h
      have := amt_lt_of_lt h
      rw [← hA, ← hB] at this
      exact (Nat.mul_lt_mul_right P).1 this
  · constructor
    · intro h
      rw [h, Nat.zero_mul] at hA
      by_cases hc : r = 0
      · exact hc
      · have := amt_lt_of_lt (Nat.pos_of_ne_zero hc); omega
    · intro h
      rw [h, z0] at hA
      rcases Nat.mul_eq_zero.1 hA with h | h <;> omega
  · constructor
    · intro h
      rw [h, Nat.zero_mul] at hB
      by_cases hc : q = 0
      · exact hc
      · have := amt_lt_of_lt (Nat.pos_of_ne_zero hc); omega
    · intro h
      rw [h, z0] at hB
      rcases Nat.mul_eq_zero.1 hB with h | h <;> omega

theorem order_eq (x y : Nat) (hx : sz x ≤ 9218868437227405312) (hy : sz y ≤ 9218868437227405312) : Ieee.double.order x y = some (compare (pos x) (pos y)) := by
  show (Ieee.double.read x).order (Ieee.double.read y) = _
  rw [pos_eq, pos_eq]
  rcases Nat.lt_or_eq_of_le hx with h1 | h1 <;> rcases Nat.lt_or_eq_of_le hy with h2 | h2
  · rw [read_num x h1, read_num y h2]
    obtain ⟨A, B, e, l1, l2, z1, z2⟩ := scaled (sz x) (sz y)
    rw [e]
    congr 1
    generalize sz x = r at *
    generalize sz y = q at *
    cases sgn x <;> cases sgn y <;> refine cmp_same ?_ ?_ <;> simp only [if_true, if_false, Bool.false_eq_true] <;> omega
  · rw [read_num x h1, read_inf y h2]
    have h3 : sz x < sz y := by omega
    clear h1 h2 hx hy
    generalize sz x = r at *
    generalize sz y = q at *
    cases sgn x <;> cases sgn y <;> simp only [Ieee.Datum.order, if_true, if_false, Bool.false_eq_true] <;> refine congrArg some ?_
    all_goals
      show _ = compareOfLessAndEq _ _
      unfold compareOfLessAndEq
      first
        | (rw [if_pos (by omega)])
        | (rw [if_neg (by omega), if_neg (by omega)])
  · rw [read_inf x h1, read_num y h2]
    have h3 : sz y < sz x := by omega
    clear h1 h2 hx hy
    generalize sz x = r at *
    generalize sz y = q at *
    cases sgn x <;> cases sgn y <;> simp only [Ieee.Datum.order, if_true, if_false, Bool.false_eq_true] <;> refine congrArg some ?_
    all_goals
      show _ = compareOfLessAndEq _ _
      unfold compareOfLessAndEq
      first
        | (rw [if_pos (by omega)])
        | (rw [if_neg (by omega), if_neg (by omega)])
  · rw [read_inf x h1, read_inf y h2]
    have h3 : sz x = sz y := by omega
    have h4 : 0 < sz y := by omega
    clear h1 h2 hx hy
    rw [h3]
    clear h3
    generalize sz y = q at *
    cases sgn x <;> cases sgn y <;> simp only [Ieee.Datum.order, if_true, if_false, Bool.false_eq_true] <;> refine congrArg some ?_
    all_goals
      show compareOfLessAndEq _ _ = compareOfLessAndEq _ _
      unfold compareOfLessAndEq
      first
        | (rw [if_pos (by decide), if_pos (by omega)])
        | (rw [if_neg (by decide), if_pos (by decide), if_neg (by omega), if_pos rfl])
        | (rw [if_neg (by decide), if_neg (by decide), if_neg (by omega), if_neg (by omega)])
theorem order_nanL (x y : Nat) (h : 9218868437227405312 < sz x) : Ieee.double.order x y = none := by
  show (Ieee.double.read x).order (Ieee.double.read y) = _
  rw [read_nan x h]; rfl
theorem order_nanR (x y : Nat) (h : 9218868437227405312 < sz y) : Ieee.double.order x y = none := by
  show (Ieee.double.read x).order (Ieee.double.read y) = _
  rw [read_nan y h]; cases Ieee.double.read x <;> rfl
end Go.Proofs.YtghneolphdfdlabDoor
