/- Plain facts on texts: what a text's characters are, one behind the other. -/
import Derived.Test.YtikbomagmedemaaFixed
namespace Go.Proofs.Ytikbomagmedemaa
open Go.RowKit Go.Lib

/-- From a place on: nothing but characters. -/
def vF (s : ByteArray) (p : Nat) : Bool := walk s (validStep s) p true
theorem validS_eq (s : ByteArray) : validS s = vF s 0 := rfl
theorem vF_end (s : ByteArray) (p : Nat) (h : ¬ p < s.size) : vF s p = true := walk_end h
theorem vF_step (s : ByteArray) (p : Nat) (h : p < s.size) : vF s p = (stC s p != -1 && vF s (p + stW s p)) := by
  unfold vF
  rw [walk_step h]
  cases hc : (stC s p != -1) <;> simp [validStep, hc]

theorem stC_ne (s : ByteArray) (p : Nat) : (stC s p != -1) = true ↔ Utf8.decode s p ≠ (65533, 1) := by
  unfold stC
  split
  · rename_i h
    simp [h]
  · rename_i h
    simp [h]

theorem stC_same {s t : ByteArray} {p q : Nat} (h : Utf8.decode s p = Utf8.decode t q) : stC s p = stC t q ∧ stW s p = stW t q := by
  unfold stC stW
  rw [h]
  exact ⟨rfl, rfl⟩

/-- Behind a text stands what stands there. -/
theorem vF_tail (s t : ByteArray) : ∀ (n q : Nat), t.size - q ≤ n → vF (s ++ t) (s.size + q) = vF t q := by
  intro n
  induction n with
  | zero =>
    intro q hq
    rw [vF_end _ _ (by rw [ByteArray.size_append]; omega), vF_end _ _ (by omega)]
  | succ n ih =>
    intro q hq
    by_cases h : q < t.size
    · have hw := dec_w t q h
      obtain ⟨e1, e2⟩ := stC_same (dec_app2 s t q)
      rw [vF_step _ _ (by rw [ByteArray.size_append]; omega), vF_step _ _ h, e1, e2, Nat.add_assoc, ih _ (by omega)]
    · rw [vF_end _ _ (by rw [ByteArray.size_append]; omega), vF_end _ _ h]

theorem vF_join (s t : ByteArray) : ∀ (n p : Nat), s.size - p ≤ n → p ≤ s.size → vF s p = true → vF (s ++ t) p = vF t 0 := by
  intro n
  induction n with
  | zero =>
    intro p hp hle _
    have : p = s.size := by omega
    subst this
    exact vF_tail s t t.size 0 (by omega)
  | succ n ih =>
    intro p hp hle hv
    by_cases h : p < s.size
    · have hw := dec_w s p h
      rw [vF_step _ _ h, Bool.and_eq_true] at hv
      have hd := (stC_ne s p).1 hv.1
      obtain ⟨e1, e2⟩ := stC_same (dec_app s t p h hd)
      rw [vF_step _ _ (by rw [ByteArray.size_append]; omega), e1, e2, hv.1, Bool.true_and]
      exact ih _ (by omega) (by omega) hv.2
    · have : p = s.size := by omega
      subst this
      exact vF_tail s t t.size 0 (by omega)

/-- A text with any bytes behind it is a text just if these are one. -/
theorem valid_join (s t : ByteArray) (h : validS s = true) : validS (s ++ t) = validS t :=
  vF_join s t s.size 0 (by omega) (by omega) h

/-- A byte within a character. -/
def inner (s : ByteArray) (p : Nat) : Prop := (s.get! p).toNat / 64 = 2

set_option maxRecDepth 100000 in
set_option maxHeartbeats 2000000 in
theorem decN_inner (n b0 b1 b2 b3 : Nat) (h : decodeN n b0 b1 b2 b3 ≠ (65533, 1)) :
    (1 < (decodeN n b0 b1 b2 b3).2 → b1 / 64 = 2) ∧ (2 < (decodeN n b0 b1 b2 b3).2 → b2 / 64 = 2) ∧ (3 < (decodeN n b0 b1 b2 b3).2 → b3 / 64 = 2) := by
  revert h
  unfold decodeN
  repeat' split
  all_goals first | (intro h; exact absurd rfl h) | (intro _; dsimp only; omega)

theorem decN_cont (n b0 b1 b2 b3 : Nat) (h : b0 / 64 = 2) : decodeN n b0 b1 b2 b3 = (65533, 1) := by
  unfold decodeN
  repeat' split
  all_goals first | rfl | (exfalso; omega)

theorem dec_inner (s : ByteArray) (p i : Nat) (h : Utf8.decode s p ≠ (65533, 1)) (h1 : p < i) (h2 : i < p + stW s p) (hp : p < s.size) : inner s i := by
  have hw := dec_w s p hp
  unfold stW at h2 hw
  rw [decode_at] at h h2 hw
  have hd := decN_inner _ _ _ _ _ h
  unfold inner
  rcases (by omega : i = p + 1 ∨ i = p + 2 ∨ i = p + 3) with rfl | rfl | rfl
  · exact hd.1 (by omega)
  · exact hd.2.1 (by omega)
  · exact hd.2.2 (by omega)
theorem dec_cont (s : ByteArray) (p : Nat) (h : inner s p) : Utf8.decode s p = (65533, 1) := by
  rw [decode_at]
  exact decN_cont _ _ _ _ _ h

/-- At each place of a text a character begins, or one goes on. -/
theorem text_places (s : ByteArray) : ∀ (n p : Nat), s.size - p ≤ n → vF s p = true → ∀ i, p ≤ i → i < s.size → Utf8.decode s i ≠ (65533, 1) ∨ inner s i := by
  intro n
  induction n with
  | zero => intro p hp _ i h1 h2; omega
  | succ n ih =>
    intro p hp hv i h1 h2
    have h : p < s.size := by omega
    have hw := dec_w s p h
    rw [vF_step _ _ h, Bool.and_eq_true] at hv
    have hd := (stC_ne s p).1 hv.1
    by_cases e : i = p
    · subst e; exact Or.inl hd
    · by_cases hi : i < p + stW s p
      · exact Or.inr (dec_inner s p i hd (by omega) hi h)
      · exact ih _ (by omega) hv.2 i (by omega) h2

/-- What begins within a text is the same, whatever stands behind it. -/
theorem rune_join (s t : ByteArray) (hv : validS s = true) (p : Nat) (hp : p < s.size) : runeS (s ++ t) p = runeS s p := by
  rcases text_places s s.size 0 (by omega) hv p (by omega) hp with h | h
  · obtain ⟨e1, e2⟩ := stC_same (dec_app s t p hp h)
    unfold runeS
    rw [e1, e2]
  · have h2 : inner (s ++ t) p := by unfold inner; rw [get_app s t p hp]; exact h
    have e := (dec_cont _ _ h2).trans (dec_cont _ _ h).symm
    obtain ⟨e1, e2⟩ := stC_same e
    unfold runeS
    rw [e1, e2]

end Go.Proofs.Ytikbomagmedemaa
