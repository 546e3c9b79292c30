/- Where the first byte is that begins no source character: all ahead of it has source characters alone. -/
import Derived.Test.YtebojfipdcicaaaGreatDoorLxE1
namespace Go.Proofs.YtebojfipdcicaaaGreatDoor
open Go Go.RowKit

/-- Source characters from a place on. -/
def sF (s : ByteArray) (p : Nat) : Int × Int := walk s (sourceStep s) p (0, 0)
theorem sF_end (s : ByteArray) (p : Nat) (h : ¬ p < s.size) : sF s p = (0, 0) := walk_end h
theorem sF_step (s : ByteArray) (p : Nat) (h : p < s.size) : sF s p = if sourceB (stC s p) then sF s (p + stW s p) else ((p : Int), 10) := by
  unfold sF
  rw [walk_step h]
  cases hc : sourceB (stC s p) <;> simp [sourceStep, hc]
theorem stC_eq {s t : ByteArray} {p q : Nat} (h : Utf8.decode s p = Utf8.decode t q) : stC s p = stC t q ∧ stW s p = stW t q := by
  unfold stC stW
  rw [h]
  exact ⟨rfl, rfl⟩
theorem source_dec {s : ByteArray} {p : Nat} (h : sourceB (stC s p) = true) : Utf8.decode s p ≠ (65533, 1) := by
  intro e
  unfold stC at h
  rw [if_pos e] at h
  exact absurd h (by decide)
theorem src_ahead (s : ByteArray) : ∀ (n p : Nat), s.size - p ≤ n → p ≤ s.size →
    sF s p = (0, 0) ∨ ∃ q : Nat, p ≤ q ∧ q < s.size ∧ sF s p = ((q : Int), 10) ∧ sF (s.extract 0 q) p = (0, 0) := by
  intro n
  induction n with
  | zero =>
    intro p hp _
    exact Or.inl (sF_end _ _ (by omega))
  | succ n ih =>
    intro p hp hle
    by_cases h : p < s.size
    · have hw := dec_w s p h
      rw [sF_step s p h]
      by_cases hc : sourceB (stC s p) = true
      · rw [if_pos hc]
        rcases ih (p + stW s p) (by omega) (by omega) with h1 | ⟨q, h1, h2, h3, h4⟩
        · exact Or.inl h1
        · right
          have hd := source_dec hc
          have hz := size_cut s 0 q (by omega)
          obtain ⟨e1, e2⟩ := stC_eq (dec_take s q p (by omega) (by omega) (by unfold stW at h1; omega) hd)
          refine ⟨q, by omega, h2, h3, ?_⟩
          rw [sF_step _ _ (by omega), e1, e2, if_pos hc]; exact h4
      · rw [if_neg hc]
        have hz := size_cut s 0 p (by omega)
        exact Or.inr ⟨p, Nat.le_refl _, h, rfl, sF_end _ _ (by omega)⟩
    · exact Or.inl (sF_end _ _ h)
theorem take_mk (l : Bs) (q : Nat) : (ByteArray.mk l.toArray).extract 0 q = ⟨(l.take q).toArray⟩ := by
  apply ByteArray.ext; apply Array.toList_inj.1
  simp
theorem src_of {x : Bs} (h : sF ⟨x.toArray⟩ 0 = (0, 0)) : srcB x = none := by
  have h' : sourceS ⟨x.toArray⟩ = (0, 0) := h
  unfold srcB
  rw [h']
  rfl
/-- A plain sign is a source character. -/
theorem sF_plain (c : UInt8) (l : Bs) (hc : 32 ≤ c.toNat ∧ c.toNat < 128) : sF ⟨(c :: l).toArray⟩ 0 = sF ⟨(c :: l).toArray⟩ 1 := by
  have hg : (ByteArray.mk (c :: l).toArray).get! 0 = c := get_mk (c :: l) 0 (by simp)
  have h0 : 0 < (ByteArray.mk (c :: l).toArray).size := by
    show 0 < (c :: l).toArray.size
    simp
  have hd := dec_ascii ⟨(c :: l).toArray⟩ 0 (by rw [hg]; exact hc.2)
  have hs := stC_ascii ⟨(c :: l).toArray⟩ 0 (by rw [hg]; exact hc.2)
  rw [sF_step _ _ h0, hs, hg, if_pos]
  · unfold stW
    rw [hd]
    rfl
  · unfold sourceB
    simp
    omega
theorem src_cut (x : Bs) (k : Nat) (h : srcB (35 :: x) = some k) : ∃ j, k = j + 1 ∧ j < x.length ∧ srcB (35 :: x.take j) = none := by
  have hp := sF_plain 35 x (by decide)
  have hz : (ByteArray.mk (35 :: x).toArray).size = x.length + 1 := by
    show (35 :: x).toArray.size = _
    simp
  have h0 : sourceS ⟨(35 :: x).toArray⟩ = sF ⟨(35 :: x).toArray⟩ 1 := hp
  rcases src_ahead ⟨(35 :: x).toArray⟩ _ 1 (Nat.le_refl _) (by omega) with h1 | ⟨q, h1, h2, h3, h4⟩
  · exfalso
    unfold srcB at h
    rw [h0, h1] at h
    cases h
  · obtain ⟨j, rfl⟩ : ∃ j, q = j + 1 := ⟨q - 1, by omega⟩
    refine ⟨j, ?_, by omega, ?_⟩
    · unfold srcB at h
      rw [h0, h3] at h
      simp at h
      omega
    · apply src_of
      rw [sF_plain 35 (x.take j) (by decide)]
      rw [take_mk] at h4
      exact h4
end Go.Proofs.YtebojfipdcicaaaGreatDoor
