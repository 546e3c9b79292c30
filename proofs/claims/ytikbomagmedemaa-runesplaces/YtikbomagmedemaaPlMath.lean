/- Plain facts: lines counted byte by byte, columns step by step from a line's beginning, are those that one walk over the steps counts. -/
import Derived.Test.YtikbomagmedemaaRefAll
namespace Go.Proofs.Ytikbomagmedemaa
open Go.RowKit Go.Lib

/-- Does a line end behind a byte? -/
def endsI (s : ByteArray) (i : Nat) : Bool := if (s.get! i).toNat = 13 then decide (s.size ≤ i + 1) || decide ((s.get! (i + 1)).toNat ≠ 10) else decide ((s.get! i).toNat = 10)
/-- The line of a place, and where it begins. -/
def refLB (s : ByteArray) : Nat → Int × Nat
  | 0 => (1, 0)
  | i + 1 => if endsI s i then ((refLB s i).1 + 1, i + 1) else refLB s i
def colStep (s : ByteArray) (k : Nat) (c : Int) (p : Nat) : Int × Bool := if k < p + stW s p then (c, false) else (c + 1, true)
/-- The column of place k, counted on from place p. -/
def colF (s : ByteArray) (k p : Nat) (c : Int) : Int := walk s (colStep s k) p c

theorem colF_stop (s : ByteArray) (k p : Nat) (c : Int) (h : ¬ p < s.size ∨ k < p + stW s p) : colF s k p c = c := by
  unfold colF
  by_cases hp : p < s.size
  · have e : colStep s k c p = (c, false) := by unfold colStep; rw [if_pos (by omega)]
    rw [walk_step hp, e]
    rfl
  · exact walk_end hp
theorem colF_step (s : ByteArray) (k p : Nat) (c : Int) (hp : p < s.size) (h : ¬ k < p + stW s p) : colF s k p c = colF s k (p + stW s p) (c + 1) := by
  have e : colStep s k c p = (c + 1, true) := by unfold colStep; rw [if_neg h]
  unfold colF
  rw [walk_step hp, e]
  rfl

theorem dec_low (s : ByteArray) (p : Nat) (h : (s.get! p).toNat < 128) : Utf8.decode s p = ((s.get! p).toNat, 1) := by
  rw [decode_at]
  unfold decodeN
  rw [if_pos h]
theorem st_low (s : ByteArray) (p : Nat) (h : (s.get! p).toNat < 128) : stC s p = ((s.get! p).toNat : Int) ∧ stW s p = 1 := by
  have hd := dec_low s p h
  have hne : Utf8.decode s p ≠ (65533, 1) := by
    rw [hd]
    intro e
    have := congrArg Prod.fst e
    simp only at this
    omega
  constructor
  · unfold stC
    rw [if_neg hne, hd]
  · unfold stW
    rw [hd]
theorem st_high (s : ByteArray) (p : Nat) (hp : p < s.size) (h : ¬ (s.get! p).toNat < 128) : stC s p = -1 ∨ 128 ≤ stC s p := by
  have hd := (decode_high s p hp (by rw [← get_bang s p hp]; omega)).1
  unfold stC
  split
  · exact Or.inl rfl
  · exact Or.inr (by omega)
theorem ends_high (s : ByteArray) (i : Nat) (h : ¬ (s.get! i).toNat < 128) : endsI s i = false := by
  unfold endsI
  rw [if_neg (by omega)]
  simp
  omega

theorem step_ends (s : ByteArray) (p : Nat) (hp : p < s.size) : endsB s (stC s p) (p + stW s p) = endsI s p := by
  by_cases h : (s.get! p).toNat < 128
  · obtain ⟨e1, e2⟩ := st_low s p h
    rw [e1, e2]
    unfold endsB endsI
    by_cases h13 : (s.get! p).toNat = 13
    · rw [if_pos (by omega), if_pos h13, Bool.eq_iff_iff]
      simp
      omega
    · rw [if_neg (by omega), if_neg h13, Bool.eq_iff_iff]
      simp
      omega
  · rw [ends_high s p h]
    unfold endsB
    rcases st_high s p hp h with e | e
    · rw [e, if_neg (by decide)]; decide
    · rw [if_neg (by omega)]
      simp
      omega

theorem step_inner (s : ByteArray) (p i : Nat) (hp : p < s.size) (h1 : p < i) (h2 : i < p + stW s p) : endsI s i = false := by
  by_cases h : Utf8.decode s p = (65533, 1)
  · have : stW s p = 1 := by unfold stW; rw [h]
    omega
  · have := dec_inner s p i h h1 h2 hp
    unfold inner at this
    exact ends_high s i (by omega)

theorem refLB_flat (s : ByteArray) (p : Nat) : ∀ n, (∀ i, p ≤ i → i < p + n → endsI s i = false) → refLB s (p + n) = refLB s p := by
  intro n
  induction n with
  | zero => intro _; rfl
  | succ n ih =>
    intro h
    have e : refLB s (p + (n + 1)) = if endsI s (p + n) then ((refLB s (p + n)).1 + 1, p + n + 1) else refLB s (p + n) := rfl
    rw [e, if_neg (by rw [h (p + n) (by omega) (by omega)]; decide)]
    exact ih fun i h1 h2 => h i h1 (by omega)

/-- Ahead of a step's end no line ends but at its beginning. -/
theorem refLB_in (s : ByteArray) (p k : Nat) (hp : p < s.size) (h1 : p < k) (h2 : k ≤ p + stW s p) : refLB s k = refLB s (p + 1) := by
  have h := refLB_flat s (p + 1) (k - (p + 1)) (fun i h3 h4 => step_inner s p i hp (by omega) (by omega))
  rw [show p + 1 + (k - (p + 1)) = k by omega] at h
  exact h

theorem refLB_step (s : ByteArray) (p : Nat) (hp : p < s.size) : refLB s (p + stW s p) = if endsI s p then ((refLB s p).1 + 1, p + stW s p) else refLB s p := by
  have hw := dec_w s p hp
  rw [refLB_in s p (p + stW s p) hp (by omega) (Nat.le_refl _)]
  have e : refLB s (p + 1) = if endsI s p then ((refLB s p).1 + 1, p + 1) else refLB s p := rfl
  rw [e]
  by_cases h : endsI s p = true
  · rw [if_pos h, if_pos h]
    by_cases hl : (s.get! p).toNat < 128
    · rw [(st_low s p hl).2]
    · rw [ends_high s p hl] at h
      exact absurd h (by decide)
  · rw [if_neg h, if_neg h]

theorem place_ref (s : ByteArray) (k : Nat) (hk : k ≤ s.size) : ∀ (n p : Nat) (a : Int × Int), s.size - p ≤ n → p ≤ k → a.1 = (refLB s p).1 → colF s k (refLB s p).2 1 = colF s k p a.2 →
    walk s (placeStep s k) p a = ((refLB s k).1, colF s k (refLB s k).2 1) := by
  intro n
  induction n with
  | zero =>
    intro p a hn hpk h1 h2
    have e : p = k := by omega
    subst e
    rw [walk_end (by omega), h2, colF_stop s p p a.2 (Or.inl (by omega)), ← h1]
  | succ n ih =>
    intro p a hn hpk h1 h2
    by_cases hp : p < s.size
    · have hw := dec_w s p hp
      rw [walk_step hp]
      by_cases hq : k < p + stW s p
      · have e1 : placeStep s k a p = (a, false) := by unfold placeStep; rw [if_pos hq]
        have e2 : refLB s k = refLB s p := by
          by_cases e : p = k
          · rw [e]
          · have h3 := refLB_in s p k hp (by omega) (by omega)
            rw [h3]
            show (if endsI s p then ((refLB s p).1 + 1, p + 1) else refLB s p) = _
            rw [if_neg]
            rw [Bool.not_eq_true]
            by_cases hl : (s.get! p).toNat < 128
            · have := (st_low s p hl).2
              omega
            · exact ends_high s p hl
        rw [e1, if_neg Bool.false_ne_true, e2, h2, colF_stop s k p a.2 (Or.inr hq), ← h1]
      · have hs := refLB_step s p hp
        by_cases he : endsI s p = true
        · have e1 : placeStep s k a p = ((a.1 + 1, 1), true) := by unfold placeStep; rw [if_neg hq, step_ends s p hp, if_pos he]
          rw [if_pos he] at hs
          rw [e1, if_pos rfl]
          exact ih _ _ (by omega) (by omega) (by rw [hs, h1]) (by rw [hs])
        · have e1 : placeStep s k a p = ((a.1, a.2 + 1), true) := by unfold placeStep; rw [if_neg hq, step_ends s p hp, if_neg he]
          rw [if_neg he] at hs
          rw [e1, if_pos rfl]
          exact ih _ _ (by omega) (by omega) (by rw [hs, h1]) (by rw [hs, h2, colF_step s k p a.2 hp hq])
    · have e : p = k := by omega
      subst e
      rw [walk_end hp, h2, colF_stop s p p a.2 (Or.inl hp), ← h1]

theorem place_eq (s : ByteArray) (k : Nat) (hk : k ≤ s.size) : placeS s k = ((refLB s k).1, colF s k (refLB s k).2 1) :=
  place_ref s k hk s.size 0 (1, 1) (by omega) (by omega) rfl rfl

theorem refLB_bd (s : ByteArray) : ∀ k, 1 ≤ (refLB s k).1 ∧ (refLB s k).1 ≤ k + 1 ∧ (refLB s k).2 ≤ k := by
  intro k
  induction k with
  | zero => simp [refLB]
  | succ k ih =>
    unfold refLB
    split
    · dsimp only; omega
    · omega

end Go.Proofs.Ytikbomagmedemaa
