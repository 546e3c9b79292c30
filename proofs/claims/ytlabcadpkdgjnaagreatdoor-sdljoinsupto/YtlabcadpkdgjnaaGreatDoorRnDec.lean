/- Decoding at a place of bytes: what it leaves unread makes no difference. -/
import Derived.Test.YtlabcadpkdgjnaaGreatDoorRnUtf
import Derived.Laws.Strings
namespace Go.Proofs.YtlabcadpkdgjnaaGreatDoor
open Go.Lib

theorem get_bang (s : ByteArray) (q : Nat) (h : q < s.size) : s.get! q = s[q] := by
  simp [ByteArray.get!, getElem!_pos, h]
  rfl
theorem get_out (s : ByteArray) (q : Nat) (h : ¬ q < s.size) : s.get! q = 0 := by
  have h' : s.data.size ≤ q := by have : s.data.size = s.size := rfl
                                  omega
  have h2 : ¬ q < s.data.size := by omega
  show s.data[q]! = 0
  rw [getElem!_neg s.data q h2]
  rfl
theorem ext_get {a b : ByteArray} (hz : a.size = b.size) (h : ∀ i, i < a.size → a.get! i = b.get! i) : a = b := by
  apply ByteArray.ext_getElem hz
  intro i h1 h2
  have := h i h1
  rwa [get_bang _ _ h1, get_bang _ _ h2] at this
theorem toList_inj {a b : ByteArray} : a.toList = b.toList ↔ a = b := by
  constructor
  · intro h
    rw [ByteArray.toList_eq, ByteArray.toList_eq] at h
    exact ByteArray.ext (Array.toList_inj.1 h)
  · rintro rfl; rfl

theorem size_cut (s : ByteArray) (a b : Nat) (hb : b ≤ s.size) : (s.extract a b).size = b - a := by
  rw [ByteArray.size_extract, Nat.min_eq_left hb]
theorem get_cut (s : ByteArray) (a b i : Nat) (hb : b ≤ s.size) (hi : a + i < b) : (s.extract a b).get! i = s.get! (a + i) := by
  have hz := size_cut s a b hb
  rw [get_bang _ _ (by omega), get_bang _ _ (by omega)]
  exact ByteArray.getElem_extract _
theorem get_app (s t : ByteArray) (i : Nat) (hi : i < s.size) : (s ++ t).get! i = s.get! i := by
  rw [get_bang _ _ (by rw [ByteArray.size_append]; omega), get_bang _ _ hi]
  exact ByteArray.getElem_append_left hi
theorem get_app2 (s t : ByteArray) (i : Nat) : (s ++ t).get! (s.size + i) = t.get! i := by
  by_cases hi : i < t.size
  · rw [get_bang _ _ (by rw [ByteArray.size_append]; omega), get_bang _ _ hi]
    rw [ByteArray.getElem_append_right (by omega)]
    congr 1
    omega
  · rw [get_out _ _ (by rw [ByteArray.size_append]; omega), get_out _ _ hi]

theorem dec_w (s : ByteArray) (p : Nat) (h : p < s.size) : 1 ≤ stW s p ∧ stW s p ≤ 4 ∧ p + stW s p ≤ s.size := by
  unfold stW
  rw [decode_at]
  have := decN_w (s.size - p) (s.get! p).toNat (s.get! (p + 1)).toNat (s.get! (p + 2)).toNat (s.get! (p + 3)).toNat (by omega)
  omega
theorem dec_len (s : ByteArray) (p : Nat) : Utf8.decode s p = (65533, 1) ∨ (runeLen (Utf8.decode s p).1 = (Utf8.decode s p).2 ∧ charB (Utf8.decode s p).1 = true) := by
  rw [decode_at]
  exact decN_len _ _ _ _ _ (byte_lt _)
theorem dec_bd (s : ByteArray) (p : Nat) : (Utf8.decode s p).1 ≤ 1114111 := by
  rcases dec_len s p with h | ⟨_, h⟩
  · rw [h]; decide
  · unfold charB at h
    simp at h
    omega

/-- What stands behind a place, by itself. -/
theorem dec_drop (s : ByteArray) (p i : Nat) (hp : p ≤ s.size) : Utf8.decode (s.extract p s.size) i = Utf8.decode s (p + i) := by
  have hz := size_cut s p s.size (Nat.le_refl _)
  have hg : ∀ j, (s.extract p s.size).get! j = s.get! (p + j) := by
    intro j
    by_cases hj : p + j < s.size
    · exact get_cut s p s.size j (Nat.le_refl _) hj
    · rw [get_out _ _ (by omega), get_out _ _ hj]
  rw [decode_at, decode_at, hg, hg, hg, hg, hz, Nat.add_assoc, Nat.add_assoc, Nat.add_assoc, Nat.sub_add_eq]

/-- A character ahead of a cut is there behind the cut, too. -/
theorem dec_take (s : ByteArray) (n p : Nat) (hn : n ≤ s.size) (hp : p < n) (hw : p + (Utf8.decode s p).2 ≤ n) (h : Utf8.decode s p ≠ (65533, 1)) : Utf8.decode (s.extract 0 n) p = Utf8.decode s p := by
  have hz := size_cut s 0 n hn
  have hg : ∀ j, j < n → (s.extract 0 n).get! j = s.get! j := by
    intro j hj
    have := get_cut s 0 n j hn (by omega)
    simpa using this
  rw [decode_at] at h hw
  rw [decode_at, decode_at s, hg p hp]
  refine decN_cut _ _ _ _ _ _ _ _ _ (by omega) ?_ ?_ ?_ h
  all_goals (intro hj; rw [hg _ (by omega)])

/-- Whatever stands behind a character, it is the same. -/
theorem dec_app (s t : ByteArray) (p : Nat) (hp : p < s.size) (h : Utf8.decode s p ≠ (65533, 1)) : Utf8.decode (s ++ t) p = Utf8.decode s p := by
  rw [decode_at] at h
  rw [decode_at, decode_at s, get_app s t p hp]
  refine decN_ext _ _ _ _ _ _ _ _ _ (by rw [ByteArray.size_append]; omega) ?_ ?_ ?_ h
  all_goals (intro hj; rw [get_app _ _ _ (by omega)])
/-- Behind a text's end stands what stands in what follows. -/
theorem dec_app2 (s t : ByteArray) (p : Nat) : Utf8.decode (s ++ t) (s.size + p) = Utf8.decode t p := by
  rw [decode_at, decode_at t, Nat.add_assoc, Nat.add_assoc, Nat.add_assoc, get_app2, get_app2, get_app2, get_app2, ByteArray.size_append]
  congr 1
  omega

def hpB (s t : ByteArray) : Bool := decide (t.size ≤ s.size) && ((s.extract 0 t.size).toList == t.toList)

/-- The bytes 239, 191, 189 tells the character 65533 from a byte that begins none. -/
theorem hp_fffd (s : ByteArray) (p : Nat) (hp : p < s.size) (h : (Utf8.decode s p).1 = 65533) : hpB (s.extract p s.size) ⟨#[239, 191, 189]⟩ = decide ((Utf8.decode s p).2 = 3) := by
  have hz := size_cut s p s.size (Nat.le_refl _)
  have h3 : (⟨#[239, 191, 189]⟩ : ByteArray).size = 3 := rfl
  have key : hpB (s.extract p s.size) ⟨#[239, 191, 189]⟩ = true ↔ (3 ≤ s.size - p ∧ (s.get! p).toNat = 239 ∧ (s.get! (p + 1)).toNat = 191 ∧ (s.get! (p + 2)).toNat = 189) := by
    unfold hpB
    rw [h3, hz]
    by_cases hl : 3 ≤ s.size - p
    · simp only [hl, decide_true, Bool.true_and, true_and]
      rw [beq_iff_eq, toList_inj]
      have hz3 : ((s.extract p s.size).extract 0 3).size = 3 := by rw [size_cut _ _ _ (by omega)]
      have hg : ∀ j, j < 3 → ((s.extract p s.size).extract 0 3).get! j = s.get! (p + j) := by
        intro j hj
        rw [get_cut _ _ _ _ (by omega) (by omega), Nat.zero_add, get_cut _ _ _ _ (Nat.le_refl _) (by omega)]
      constructor
      · intro e
        have g0 := hg 0 (by omega)
        have g1 := hg 1 (by omega)
        have g2 := hg 2 (by omega)
        rw [e] at g0 g1 g2
        rw [Nat.add_zero] at g0
        exact ⟨by rw [← g0]; rfl, by rw [← g1]; rfl, by rw [← g2]; rfl⟩
      · rintro ⟨e0, e1, e2⟩
        refine ext_get (by rw [hz3]; rfl) fun i hi => ?_
        rw [hz3] at hi
        rw [hg i hi]
        apply UInt8.toNat_inj.1
        match i, hi with
        | 0, _ => rw [Nat.add_zero, e0]; rfl
        | 1, _ => rw [e1]; rfl
        | 2, _ => rw [e2]; rfl
    · simp [hl]
  rw [decode_at] at h ⊢
  have hf := decN_fffd (s.size - p) (s.get! p).toNat (s.get! (p + 1)).toNat (s.get! (p + 2)).toNat (s.get! (p + 3)).toNat (byte_lt _) (byte_lt _) (byte_lt _)
  rw [Bool.eq_iff_iff, key, decide_eq_true_eq]
  exact ⟨fun g => by rw [hf.2.1 g], fun g => hf.1 h g⟩

theorem dec_fffd (s : ByteArray) (p : Nat) (h : (Utf8.decode s p).1 = 65533) : (Utf8.decode s p).2 = 1 ∨ (Utf8.decode s p).2 = 3 := by
  rw [decode_at] at h ⊢
  exact (decN_fffd _ _ _ _ _ (byte_lt _) (byte_lt _) (byte_lt _)).2.2 h

theorem charB_bd {c : Int} (h : charB c = true) : 0 ≤ c ∧ c ≤ 1114111 := by
  unfold charB at h; simp at h; exact h.1

end Go.Proofs.YtlabcadpkdgjnaaGreatDoor
