/- Keys stand as their bytes do: the plain mathematics. -/
import Derived.Test.YtghneolphdfdlaaDoorCmpsMath
import Derived.Test.YtghneolphdfdlaaDoorBackMath
namespace Go.Proofs.YtghneolphdfdlaaDoor
open Go Go.RowKit

/-- Bytes as a number, the highest first. -/
def bval : List UInt8 → Nat
  | [] => 0
  | c :: l => c.toNat * 256 ^ l.length + bval l
theorem bval_lt : ∀ l : List UInt8, bval l < 256 ^ l.length
  | [] => by decide
  | c :: l => by
    have h := bval_lt l
    have hc := c.toNat_lt
    show c.toNat * 256 ^ l.length + bval l < 256 ^ (l.length + 1)
    rw [Nat.pow_succ]
    have : (c.toNat + 1) * 256 ^ l.length ≤ 256 * 256 ^ l.length := Nat.mul_le_mul_right _ (by omega)
    rw [Nat.add_mul] at this
    omega
theorem less_head {c d : UInt8} (l m : List UInt8) (h : c.toNat < d.toNat) : Op.bytesLess (c :: l) (d :: m) = true := by
  show (decide (c < d) || (c == d && Op.bytesLess l m)) = true
  rw [decide_eq_true (UInt8.lt_iff_toNat_lt.2 h)]; rfl
theorem less_tail (c : UInt8) (l m : List UInt8) : Op.bytesLess (c :: l) (c :: m) = Op.bytesLess l m := by
  show (decide (c < c) || (c == c && Op.bytesLess l m)) = _
  simp
theorem less_app (a l m : List UInt8) : Op.bytesLess (a ++ l) (a ++ m) = Op.bytesLess l m := by
  induction a with
  | nil => rfl
  | cons c a ih => rw [List.cons_append, List.cons_append, less_tail, ih]
theorem less_bval : ∀ (l m x y : List UInt8), l.length = m.length → bval l < bval m → Op.bytesLess (l ++ x) (m ++ y) = true
  | [], [], _, _, _, h => by simp [bval] at h
  | [], _ :: _, _, _, h, _ => by simp at h
  | _ :: _, [], _, _, h, _ => by simp at h
  | c :: l, d :: m, x, y, hl, h => by
    have hl' : l.length = m.length := by simpa using hl
    have h' : c.toNat * 256 ^ l.length + bval l < d.toNat * 256 ^ m.length + bval m := h
    rw [← hl'] at h'
    have hm := bval_lt m
    rw [← hl'] at hm
    rw [List.cons_append, List.cons_append]
    by_cases e : c = d
    · subst e
      rw [less_tail]
      exact less_bval l m x y hl' (by omega)
    · refine less_head _ _ ?_
      have ne : c.toNat ≠ d.toNat := fun x => e (UInt8.toNat_inj.1 x)
      by_cases g : c.toNat < d.toNat
      · exact g
      · exfalso
        have : (d.toNat + 1) * 256 ^ l.length ≤ c.toNat * 256 ^ l.length := Nat.mul_le_mul_right _ (by omega)
        rw [Nat.add_mul] at this
        omega
theorem bval_be (n : Nat) (h : n < 18446744073709551616) : bval (be8 n) = n := by
  show bval [byteAt n 0, byteAt n 1, byteAt n 2, byteAt n 3, byteAt n 4, byteAt n 5, byteAt n 6, byteAt n 7] = n
  simp only [bval, byteAt_nat, List.length_cons, List.length_nil]
  omega
theorem less_be {a b : Nat} (x y : List UInt8) (hb : b < 18446744073709551616) (h : a < b) : Op.bytesLess (be8 a ++ x) (be8 b ++ y) = true :=
  less_bval _ _ x y (by rw [be8_len, be8_len]) (by rw [bval_be a (by omega), bval_be b hb]; exact h)
theorem less_esc : ∀ (l m x y : List UInt8), Op.bytesLess l m = true → Op.bytesLess (esc l ++ ([0, 0] ++ x)) (esc m ++ ([0, 0] ++ y)) = true
  | [], [], _, _, h => by cases h
  | _ :: _, [], _, _, h => by cases h
  | [], d :: m, x, y, _ => by
    show Op.bytesLess (0 :: 0 :: x) (esc (d :: m) ++ _) = true
    unfold esc
    by_cases hd : d = 0
    · rw [if_pos hd]
      show Op.bytesLess (0 :: 0 :: x) (0 :: 255 :: _) = true
      rw [less_tail]
      exact less_head _ _ (by decide)
    · rw [if_neg hd]
      refine less_head _ _ ?_
      have : d.toNat ≠ 0 := fun e => hd (UInt8.toNat_inj.1 e)
      show 0 < d.toNat
      omega
  | c :: l, d :: m, x, y, h => by
    have h1 : (decide (c < d) || (c == d && Op.bytesLess l m)) = true := h
    rw [Bool.or_eq_true, decide_eq_true_iff, Bool.and_eq_true, beq_iff_eq] at h1
    rcases h1 with h1 | ⟨rfl, h1⟩
    · rw [UInt8.lt_iff_toNat_lt] at h1
      have hd : d ≠ 0 := fun e => by
        rw [e] at h1
        exact absurd h1 (Nat.not_lt_zero _)
      have em : esc (d :: m) = d :: esc m := by show (if d = 0 then _ else _) = _; rw [if_neg hd]
      rw [em]
      by_cases hc : c = 0
      · have el : esc (c :: l) = c :: 255 :: esc l := by show (if c = 0 then _ else _) = _; rw [if_pos hc, hc]
        rw [el]
        exact less_head _ _ h1
      · have el : esc (c :: l) = c :: esc l := by show (if c = 0 then _ else _) = _; rw [if_neg hc]
        rw [el]
        exact less_head _ _ h1
    · have ih := less_esc l m x y h1
      by_cases hc : c = 0
      · have el : esc (c :: l) = c :: 255 :: esc l := by show (if c = 0 then _ else _) = _; rw [if_pos hc, hc]
        have em : esc (c :: m) = c :: 255 :: esc m := by show (if c = 0 then _ else _) = _; rw [if_pos hc, hc]
        rw [el, em]
        show Op.bytesLess (c :: 255 :: _) (c :: 255 :: _) = true
        rw [less_tail, less_tail]
        exact ih
      · have el : esc (c :: l) = c :: esc l := by show (if c = 0 then _ else _) = _; rw [if_neg hc]
        have em : esc (c :: m) = c :: esc m := by show (if c = 0 then _ else _) = _; rw [if_neg hc]
        rw [el, em]
        show Op.bytesLess (c :: _) (c :: _) = true
        rw [less_tail]
        exact ih
theorem sgnI_less {a b : Int} (h : sgnI a b = -1) : a < b := by
  unfold sgnI at h
  by_cases h1 : a < b
  · exact h1
  · rw [if_neg h1] at h
    by_cases h2 : b < a
    · rw [if_pos h2] at h; cases h
    · rw [if_neg h2] at h; cases h
theorem strI_less {a b : ByteArray} (h : strI a b = -1) : Op.bytesLess a.toList b.toList = true := by
  unfold strI at h
  cases h1 : Op.bytesLess a.toList b.toList
  · rw [h1, if_neg (by decide)] at h
    by_cases h2 : a.toList = b.toList
    · rw [if_pos h2] at h; cases h
    · rw [if_neg h2] at h; cases h
  · rfl
theorem intW_less {i j : Int} (hi : -9223372036854775808 ≤ i) (hj : j < 9223372036854775808) (h : i < j) : intW i < intW j ∧ intW j < 18446744073709551616 := by
  unfold intW
  have e1 : (9223372036854775808 + i) % 18446744073709551616 = 9223372036854775808 + i := Int.emod_eq_of_lt (by omega) (by omega)
  have e2 : (9223372036854775808 + j) % 18446744073709551616 = 9223372036854775808 + j := Int.emod_eq_of_lt (by omega) (by omega)
  rw [e1, e2]
  omega
theorem kind_of {p : Pt} (h : mayB p = true) : p.k = 0 ∨ p.k = 1 ∨ p.k = 2 := by
  unfold mayB at h
  by_cases h0 : p.k = 0
  · exact Or.inl h0
  · by_cases h1 : p.k = 1
    · exact Or.inr (Or.inl h1)
    · by_cases h2 : p.k = 2
      · exact Or.inr (Or.inr h2)
      · rw [if_neg h0, if_neg h1, if_neg h2] at h; cases h
theorem encP_0 {p : Pt} (h : p.k = 0) : encP p = 1 :: be8 (intW p.i) := by unfold encP; rw [if_pos h]
theorem encP_1 {p : Pt} (h : p.k = 1) : encP p = 2 :: be8 (keyI p.b).toNat := by unfold encP; rw [if_neg (by omega), if_pos h]
theorem encP_2 {p : Pt} (h : p.k = 2) : encP p = 3 :: (esc p.t.data.toList ++ [0, 0]) := by unfold encP; rw [if_neg (by omega), if_neg (by omega)]
theorem less_encP (p q : Pt) (x y : List UInt8) (mp : mayB p = true) (mq : mayB q = true) (sp : Small p) (sq : Small q) (h : cmpP p q = -1) : Op.bytesLess (encP p ++ x) (encP q ++ y) = true := by
  unfold cmpP at h
  by_cases hk : p.k = q.k
  · rw [if_pos hk] at h
    rcases kind_of mp with h0 | h1 | h2
    · rw [if_pos h0] at h
      rw [encP_0 h0, encP_0 (hk ▸ h0), List.cons_append, List.cons_append, less_tail]
      obtain ⟨g1, g2⟩ := intW_less sp.1 sq.2.1 (sgnI_less h)
      exact less_be x y g2 g1
    · rw [if_neg (by omega), if_pos h1] at h
      rw [encP_1 h1, encP_1 (hk ▸ h1), List.cons_append, List.cons_append, less_tail]
      have m1 : may1 p.i p.b p.t = true := by unfold mayB at mp; rw [if_neg (by omega), if_pos h1] at mp; exact mp
      have m2 : may1 q.i q.b q.t = true := by unfold mayB at mq; rw [if_neg (by omega), if_pos (hk ▸ h1)] at mq; exact mq
      unfold may1 at m1 m2
      simp only [Bool.and_eq_true, decide_eq_true_iff] at m1 m2
      have c := cmpI_sgn p.b q.b
      rw [m1.1.2, m2.1.2, h] at c
      have hl := sgnI_less (a := pos p.b) (b := pos q.b) c.symm
      obtain ⟨f1, _, _⟩ := key_facts p.b sp.2.2 m1.1.2 m1.2
      obtain ⟨f2, _, _⟩ := key_facts q.b sq.2.2 m2.1.2 m2.2
      have e1 : keyI p.b = 9223372036854775808 + pos p.b := by unfold keyI; rw [m1.1.2]; rfl
      have e2 : keyI q.b = 9223372036854775808 + pos q.b := by unfold keyI; rw [m2.1.2]; rfl
      have s1 : sz p.b ≤ 9218868437227405312 := of_decide_eq_true m1.1.2
      have s2 : sz q.b ≤ 9218868437227405312 := of_decide_eq_true m2.1.2
      have p1 : -9218868437227405312 ≤ pos p.b := by rw [pos_eq]; split <;> omega
      have p2 : -9218868437227405312 ≤ pos q.b := by rw [pos_eq]; split <;> omega
      refine less_be x y f2 ?_
      rw [e1, e2]
      omega
    · rw [if_neg (by omega), if_neg (by omega)] at h
      rw [encP_2 h2, encP_2 (hk ▸ h2), List.cons_append, List.cons_append, less_tail, List.append_assoc, List.append_assoc]
      refine less_esc _ _ x y ?_
      have := strI_less h
      rw [ByteArray.toList_eq, ByteArray.toList_eq] at this
      exact this
  · rw [if_neg hk] at h
    have hl := sgnI_less h
    rcases kind_of mp with h0 | h0 | h0 <;> rcases kind_of mq with g0 | g0 | g0 <;> first | (exfalso; omega) | skip
    · rw [encP_0 h0, encP_1 g0]; exact less_head _ _ (by decide)
    · rw [encP_0 h0, encP_2 g0]; exact less_head _ _ (by decide)
    · rw [encP_1 h0, encP_2 g0]; exact less_head _ _ (by decide)
theorem less_enc : ∀ (ps qs : List Pt), ps.all mayB = true → qs.all mayB = true → (∀ p ∈ ps, Small p) → (∀ p ∈ qs, Small p) → cmpL ps qs = -1 → Op.bytesLess (encL ps) (encL qs) = true
  | [], [], _, _, _, _, h => by cases h
  | _ :: _, [], _, _, _, _, h => by cases h
  | [], q :: qs, _, _, _, _, _ => by
    obtain ⟨c, l, e⟩ := encP_cons q
    show Op.bytesLess [] (encP q ++ encL qs) = true
    rw [e]; rfl
  | p :: ps, q :: qs, mp, mq, sp, sq, h => by
    rw [List.all_cons, Bool.and_eq_true] at mp mq
    show Op.bytesLess (encP p ++ encL ps) (encP q ++ encL qs) = true
    have h' : (if p = q then cmpL ps qs else cmpP p q) = -1 := h
    by_cases e : p = q
    · rw [if_pos e] at h'
      subst e
      rw [less_app]
      exact less_enc ps qs mp.2 mq.2 (fun x hx => sp x (List.mem_cons_of_mem _ hx)) (fun x hx => sq x (List.mem_cons_of_mem _ hx)) h'
    · rw [if_neg e] at h'
      exact less_encP p q _ _ mp.1 mq.1 (sp p List.mem_cons_self) (sq q List.mem_cons_self) h'
theorem cmpL_zero : ∀ (ps qs : List Pt), ps.all mayB = true → qs.all mayB = true → (∀ p ∈ ps, Small p) → (∀ p ∈ qs, Small p) → cmpL ps qs = 0 → ps = qs
  | [], [], _, _, _, _, _ => rfl
  | _ :: _, [], _, _, _, _, h => by cases h
  | [], _ :: _, _, _, _, _, h => by cases h
  | p :: ps, q :: qs, mp, mq, sp, sq, h => by
    rw [List.all_cons, Bool.and_eq_true] at mp mq
    have h' : (if p = q then cmpL ps qs else cmpP p q) = 0 := h
    by_cases e : p = q
    · rw [if_pos e] at h'
      rw [e, cmpL_zero ps qs mp.2 mq.2 (fun x hx => sp x (List.mem_cons_of_mem _ hx)) (fun x hx => sq x (List.mem_cons_of_mem _ hx)) h']
    · rw [if_neg e] at h'
      exact absurd (part_eq mp.1 mq.1 (sp p List.mem_cons_self).2.2 (sq q List.mem_cons_self).2.2 h') e
/-- Two keys stand as their bytes do. -/
theorem order_enc (ps qs : List Pt) (kp : keyB ps = true) (kq : keyB qs = true) (sp : ∀ p ∈ ps, Small p) (sq : ∀ p ∈ qs, Small p) :
    (cmpL ps qs = -1 ∧ Op.bytesLess (encL ps) (encL qs) = true ∧ Op.bytesLess (encL qs) (encL ps) = false ∧ encL ps ≠ encL qs ∧ ps ≠ qs) ∨
    (cmpL ps qs = 0 ∧ ps = qs) ∨
    (cmpL ps qs = 1 ∧ Op.bytesLess (encL ps) (encL qs) = false ∧ Op.bytesLess (encL qs) (encL ps) = true ∧ encL ps ≠ encL qs ∧ ps ≠ qs) := by
  have ap := (keyB_parts kp).2
  have aq := (keyB_parts kq).2
  obtain ⟨b1, b2⟩ := cmpL_bd ps qs
  have cases3 : cmpL ps qs = -1 ∨ cmpL ps qs = 0 ∨ cmpL ps qs = 1 := by omega
  have ne_of : ∀ {a b : List UInt8}, Op.bytesLess a b = true → a ≠ b := fun h e => by rw [e, less_irrefl] at h; cases h
  rcases cases3 with h | h | h
  · have l := less_enc ps qs ap aq sp sq h
    exact Or.inl ⟨h, l, less_asym _ _ l, ne_of l, fun e => ne_of l (by rw [e])⟩
  · exact Or.inr (Or.inl ⟨h, cmpL_zero ps qs ap aq sp sq h⟩)
  · have h' : cmpL qs ps = -1 := by rw [cmpL_neg ps qs, h]
    have l := less_enc qs ps aq ap sq sp h'
    exact Or.inr (Or.inr ⟨h, less_asym _ _ l, l, fun e => ne_of l e.symm, fun e => ne_of l (by rw [e])⟩)
end Go.Proofs.YtghneolphdfdlaaDoor
