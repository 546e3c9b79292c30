/- What stands behind all rows of bytes that begin so: the plain mathematics. -/
import Derived.Test.YtghneolphdfdlabDoorAft
namespace Go.Proofs.YtghneolphdfdlabDoor
open Go Go.RowKit

theorem backK_cons (c : UInt8) (r : List UInt8) : ∀ k, backK (c :: r) (k + 1) = if backK r k = 0 then (if c = 255 then 0 else 1) else backK r k + 1
  | 0 => by
    show (if (c :: r).getD 0 0 = 255 then backK (c :: r) 0 else 1) = _
    rfl
  | k + 1 => by
    show (if (c :: r).getD (k + 1) 0 = 255 then backK (c :: r) (k + 1) else k + 2) = _
    have e : (c :: r).getD (k + 1) 0 = r.getD k 0 := rfl
    rw [e]
    show _ = if (if r.getD k 0 = 255 then backK r k else k + 1) = 0 then _ else (if r.getD k 0 = 255 then backK r k else k + 1) + 1
    by_cases h : r.getD k 0 = 255
    · rw [if_pos h, if_pos h, backK_cons c r k]
    · rw [if_neg h, if_neg h, if_neg (by omega)]
theorem afterK_cons (c : UInt8) (r : List UInt8) : afterK (c :: r) = if afterK r = 0 then (if c = 255 then 0 else 1) else afterK r + 1 := backK_cons c r r.length

theorem less_cons (d c : UInt8) (q r : List UInt8) : Op.bytesLess (d :: q) (c :: r) = (decide (d < c) || (d == c && Op.bytesLess q r)) := rfl
theorem less_nil (b : List UInt8) : Op.bytesLess b [] = false := by cases b <;> rfl

theorem prefix_not_less : ∀ (a b : List UInt8), a.isPrefixOf b = true → Op.bytesLess b a = false
  | [], b, _ => less_nil b
  | c :: r, [], h => by simp at h
  | c :: r, d :: q, h => by
    simp only [List.isPrefixOf, Bool.and_eq_true, beq_iff_eq] at h
    obtain ⟨rfl, h⟩ := h
    rw [less_cons, prefix_not_less r q h]
    simp

theorem after_none : ∀ (a b : List UInt8), afterK a = 0 → Op.bytesLess b a = false → a.isPrefixOf b = true
  | [], b, _, _ => by simp
  | c :: r, b, hk, hl => by
    rw [afterK_cons] at hk
    by_cases h0 : afterK r = 0
    · rw [if_pos h0] at hk
      have hc : c = 255 := by
        by_cases h : c = 255
        · exact h
        · rw [if_neg h] at hk; cases hk
      cases b with
      | nil => cases hl
      | cons d q =>
        rw [less_cons, Bool.or_eq_false_iff] at hl
        have h1 : ¬ d < c := of_decide_eq_false hl.1
        have hd : d = c := by
          rw [hc] at h1 ⊢
          have := d.toNat_lt
          rw [UInt8.lt_iff_toNat_lt] at h1
          apply UInt8.toNat_inj.1
          show d.toNat = 255
          have e : (255 : UInt8).toNat = 255 := rfl
          omega
        subst hd
        have h2 : Op.bytesLess q r = false := by simpa using hl.2
        simp only [List.isPrefixOf, Bool.and_eq_true, beq_iff_eq]
        exact ⟨trivial, after_none r q h0 h2⟩
    · rw [if_neg h0] at hk; omega

theorem afterS_cons_more (c : UInt8) (r : List UInt8) (h : afterK r ≠ 0) : afterS (c :: r) = c :: afterS r := by
  unfold afterS
  rw [afterK_cons, if_neg h, if_neg (by omega), if_neg h]
  obtain ⟨k, hk⟩ : ∃ k, afterK r = k + 1 := ⟨afterK r - 1, by omega⟩
  rw [hk]
  rfl
theorem afterS_cons_last (c : UInt8) (r : List UInt8) (h : afterK r = 0) (hc : c ≠ 255) : afterS (c :: r) = [c + 1] := by
  unfold afterS
  rw [afterK_cons, if_pos h, if_neg hc, if_neg (by decide)]
  rfl

theorem after_some : ∀ (a b : List UInt8), afterK a ≠ 0 → a.isPrefixOf b = (!Op.bytesLess b a && Op.bytesLess b (afterS a))
  | [], b, hk => absurd rfl hk
  | c :: r, [], _ => by
    show false = (!true && _)
    rfl
  | c :: r, d :: q, hk => by
    rw [afterK_cons] at hk
    by_cases h0 : afterK r = 0
    · rw [if_pos h0] at hk
      have hc : c ≠ 255 := fun h => by rw [if_pos h] at hk; exact hk rfl
      rw [afterS_cons_last c r h0 hc, less_cons, less_cons, less_nil, Bool.and_false, Bool.or_false]
      have hct := c.toNat_lt
      have e1 : (c + 1).toNat = c.toNat + 1 := by
        have e : (c + 1).toNat = (c.toNat + 1) % 256 := UInt8.toNat_add ..
        have : c.toNat ≠ 255 := fun e' => hc (UInt8.toNat_inj.1 e')
        rw [e]; omega
      rcases Nat.lt_trichotomy d.toNat c.toNat with h | h | h
      · have x1 : decide (d < c) = true := decide_eq_true (by rw [UInt8.lt_iff_toNat_lt]; exact h)
        have x2 : (c == d) = false := by
          rw [beq_eq_false_iff_ne]; intro e; rw [e] at h; omega
        simp [List.isPrefixOf, x1, x2]
      · have hd : d = c := UInt8.toNat_inj.1 h
        subst hd
        have x1 : decide (d < d) = false := decide_eq_false (by rw [UInt8.lt_iff_toNat_lt]; omega)
        have x2 : decide (d < d + 1) = true := decide_eq_true (by rw [UInt8.lt_iff_toNat_lt, e1]; omega)
        rw [x1, x2]
        simp only [List.isPrefixOf, beq_self_eq_true, Bool.true_and, Bool.false_or, Bool.and_true]
        cases hl : Op.bytesLess q r
        · exact after_none r q h0 hl
        · cases hp : r.isPrefixOf q
          · rfl
          · rw [prefix_not_less r q hp] at hl; cases hl
      · have x1 : decide (d < c + 1) = false := decide_eq_false (by rw [UInt8.lt_iff_toNat_lt, e1]; omega)
        have x2 : (c == d) = false := by
          rw [beq_eq_false_iff_ne]; intro e; rw [e] at h; omega
        simp [List.isPrefixOf, x1, x2]
    · rw [afterS_cons_more c r h0, less_cons, less_cons]
      rcases Nat.lt_trichotomy d.toNat c.toNat with h | h | h
      · have x1 : decide (d < c) = true := decide_eq_true (by rw [UInt8.lt_iff_toNat_lt]; exact h)
        have x2 : (c == d) = false := by
          rw [beq_eq_false_iff_ne]; intro e; rw [e] at h; omega
        simp [List.isPrefixOf, x1, x2]
      · have hd : d = c := UInt8.toNat_inj.1 h
        subst hd
        have x1 : decide (d < d) = false := decide_eq_false (by rw [UInt8.lt_iff_toNat_lt]; omega)
        rw [x1]
        simp only [List.isPrefixOf, beq_self_eq_true, Bool.true_and, Bool.false_or]
        exact after_some r q h0
      · have x1 : decide (d < c) = false := decide_eq_false (by rw [UInt8.lt_iff_toNat_lt]; omega)
        have x2 : (c == d) = false := by
          rw [beq_eq_false_iff_ne]; intro e; rw [e] at h; omega
        have x3 : (d == c) = false := by
          rw [beq_eq_false_iff_ne]; intro e; rw [e] at h; omega
        simp [List.isPrefixOf, x1, x2, x3]
end Go.Proofs.YtghneolphdfdlabDoor
