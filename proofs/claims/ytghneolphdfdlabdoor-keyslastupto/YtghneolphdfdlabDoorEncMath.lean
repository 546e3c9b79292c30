/- The bytes of parts: the plain mathematics. -/
import Derived.Test.YtghneolphdfdlabDoorOwn
import Derived.Lib.Replace
import Derived.Lib.SplitLaws
import Derived.Lib.IndexBytes
namespace Go.Proofs.YtghneolphdfdlabDoor
open Go Go.RowKit

/-- A text in which a byte 255 stands behind each byte 0. -/
def esc : List UInt8 → List UInt8
  | [] => []
  | c :: l => if c = 0 then 0 :: 255 :: esc l else c :: esc l

theorem rK_zero (nw : List UInt8) (k : Nat) (s : List UInt8) : Lib.replaceK [0] nw (k + 1) (0 :: s) = nw ++ Lib.replaceK [0] nw k s := by
  rw [Lib.replaceK_hit [0] nw k (0 :: s) 0 (by rw [Lib.index_one]; rfl)]
  rfl
theorem rK_other (nw : List UInt8) (k : Nat) (c : UInt8) (s : List UInt8) (hc : c ≠ 0) : Lib.replaceK [0] nw k (c :: s) = c :: Lib.replaceK [0] nw k s := by
  cases k with
  | zero => rfl
  | succ k =>
    have hi : Lib.index (c :: s) [0] = if Lib.index s [0] == -1 then -1 else Lib.index s [0] + 1 := by
      rw [Lib.index_one, Lib.index_one]
      show (if c == 0 then (0 : Int) else if Lib.indexByte s 0 == -1 then -1 else Lib.indexByte s 0 + 1) = _
      rw [if_neg (by simpa using hc)]
    have hg := Lib.index_ge s [0]
    by_cases h : Lib.index s [0] = -1
    · rw [Lib.replaceK, Lib.replaceK, hi, h]; rfl
    · obtain ⟨i, hi'⟩ : ∃ i : Nat, Lib.index s [0] = i := ⟨(Lib.index s [0]).toNat, by omega⟩
      rw [Lib.replaceK_hit [0] nw k s i hi', Lib.replaceK_hit [0] nw k (c :: s) (i + 1) (by rw [hi, hi', if_neg (by simp <;> omega)]; rfl)]
      rfl
theorem rK_esc (s : List UInt8) : ∀ k, s.count 0 ≤ k → Lib.replaceK [0] [0, 255] k s = esc s := by
  induction s with
  | nil => intro k _; cases k <;> rfl
  | cons c s ih =>
    intro k hk
    by_cases hc : c = 0
    · subst hc
      rw [List.count_cons_self] at hk
      obtain ⟨k, rfl⟩ : ∃ j, k = j + 1 := ⟨k - 1, by omega⟩
      rw [rK_zero, ih k (by omega)]
      rfl
    · rw [List.count_cons_of_ne hc] at hk
      rw [rK_other _ _ _ _ hc, ih k hk]
      simp [esc, hc]
theorem replace_esc (s : List UInt8) : Lib.replaceAll s [0] [0, 255] = esc s := by
  show (if ([0] : List UInt8) == [0, 255] then s else Lib.replaceK [0] [0, 255] (Lib.replaceNum s [0] (-1)) s) = _
  rw [if_neg (by decide)]
  refine rK_esc s _ ?_
  unfold Lib.replaceNum
  rw [if_pos (Or.inl (by decide)), Lib.count_one]
  exact Nat.le_refl _
theorem esc_len (s : List UInt8) : (esc s).length ≤ 2 * s.length := by
  induction s with
  | nil => exact Nat.le_refl _
  | cons c s ih =>
    unfold esc
    split <;> simp <;> omega

/-- A part's bytes. -/
def intW (i : Int) : Nat := ((9223372036854775808 + i) % 18446744073709551616).toNat
def encP (p : Pt) : List UInt8 := if p.k = 0 then 1 :: be8 (intW p.i) else if p.k = 1 then 2 :: be8 (keyI p.b).toNat else 3 :: (esc p.t.data.toList ++ [0, 0])
def encL (ps : List Pt) : List UInt8 := ps.flatMap encP
theorem be8_len (n : Nat) : (be8 n).length = 8 := beN_len n 8
theorem encP_len (p : Pt) (h : mayB p = true) : (encP p).length ≤ 513 := by
  unfold encP
  by_cases h0 : p.k = 0
  · rw [if_pos h0]; simp [be8_len]
  · rw [if_neg h0]
    by_cases h1 : p.k = 1
    · rw [if_pos h1]; simp [be8_len]
    · rw [if_neg h1]
      have h2 : p.t.size ≤ 255 := by
        unfold mayB at h
        rw [if_neg h0, if_neg h1] at h
        by_cases h2 : p.k = 2
        · rw [if_pos h2] at h
          unfold may2 at h
          simp at h
          exact h.2
        · rw [if_neg h2] at h; cases h
      have := esc_len p.t.data.toList
      have e : p.t.data.toList.length = p.t.size := by rw [Array.length_toList]; rfl
      simp
      omega
end Go.Proofs.YtghneolphdfdlabDoor
