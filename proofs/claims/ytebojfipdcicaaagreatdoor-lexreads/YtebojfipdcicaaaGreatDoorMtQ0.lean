/- Characters' bytes are decoded as they are: plain facts. -/
import Derived.Test.YtebojfipdcicaaaGreatDoorLxE1
import Derived.Test.YtebojfipdcicaaaGreatDoorLxE2
namespace Go.Proofs.YtebojfipdcicaaaGreatDoor
open Go Go.RowKit

/-- Source characters from a place on. -/
def sF (s : ByteArray) (p : Nat) : Int × Int := walk s (sourceStep s) p (0, 0)
theorem sF_end (s : ByteArray) (p : Nat) (h : ¬ p < s.size) : sF s p = (0, 0) := walk_end h
theorem sF_step (s : ByteArray) (p : Nat) (h : p < s.size) : sF s p = if sourceB (stC s p) then sF s (p + stW s p) else ((p : Int), 10) := by
  unfold sF
  rw [walk_step h]
  cases hc : sourceB (stC s p) <;> simp [sourceStep, hc]
theorem stC_eq {s t : ByteArray} {p q : Nat} (h : Utf8.decode s p = Utf8.decode t q) : stC s p = stC t q ∧ stW s p = stW t q := by
  unfold stC stW
  rw [h]
  exact ⟨rfl, rfl⟩
theorem source_dec {s : ByteArray} {p : Nat} (h : sourceB (stC s p) = true) : Utf8.decode s p ≠ (65533, 1) := by
  intro e
  unfold stC at h
  rw [if_pos e] at h
  exact absurd h (by decide)
theorem src_ahead (s : ByteArray) : ∀ (n p : Nat), s.size - p ≤ n → p ≤ s.size →
    sF s p = (0, 0) ∨ ∃ q : Nat, p ≤ q ∧ q < s.size ∧ sF s p = ((q : Int), 10) ∧ sF (s.extract 0 q) p = (0, 0) := by
  intro n
  induction n with
  | zero =>
    intro p hp _
    exact Or.inl (sF_end _ _ (by omega))
  | succ n ih =>
    intro p hp hle
    by_cases h : p < s.size
    · have hw := dec_w s p h
      rw [sF_step s p h]
      by_cases hc : sourceB (stC s p) = true
      · rw [if_pos hc]
        rcases ih (p + stW s p) (by omega) (by omega) with h1 | ⟨q, h1, h2, h3, h4⟩
        · exact Or.inl h1
        · right
          have hd := source_dec hc
          have hz := size_cut s 0 q (by omega)
          obtain ⟨e1, e2⟩ := stC_eq (dec_take s q p (by omega) (by omega) (by unfold stW at h1; omega) hd)
          refine ⟨q, by omega, h2, h3, ?_⟩
          rw [sF_step _ _ (by omega), e1, e2, if_pos hc]; exact h4
      · rw [if_neg hc]
        have hz := size_cut s 0 p (by omega)
        exact Or.inr ⟨p, Nat.le_refl _, h, rfl, sF_end _ _ (by omega)⟩
    · exact Or.inl (sF_end _ _ h)
theorem take_mk (l : Bs) (q : Nat) : (ByteArray.mk l.toArray).extract 0 q = ⟨(l.take q).toArray⟩ := by
  apply ByteArray.ext; apply Array.toList_inj.1
  simp
theorem src_of {x : Bs} (h : sF ⟨x.toArray⟩ 0 = (0, 0)) : srcB x = none := by
  have h' : sourceS ⟨x.toArray⟩ = (0, 0) := h
  unfold srcB
  rw [h']
  rfl
/-- A plain sign is a source character. -/
theorem sF_plain (c : UInt8) (l : Bs) (hc : 32 ≤ c.toNat ∧ c.toNat < 128) : sF ⟨(c :: l).toArray⟩ 0 = sF ⟨(c :: l).toArray⟩ 1 := by
  have hg : (ByteArray.mk (c :: l).toArray).get! 0 = c := get_mk (c :: l) 0 (by simp)
  have h0 : 0 < (ByteArray.mk (c :: l).toArray).size := by
    show 0 < (c :: l).toArray.size
    simp
  have hd := dec_ascii ⟨(c :: l).toArray⟩ 0 (by rw [hg]; exact hc.2)
  have hs := stC_ascii ⟨(c :: l).toArray⟩ 0 (by rw [hg]; exact hc.2)
  rw [sF_step _ _ h0, hs, hg, if_pos]
  · unfold stW
    rw [hd]
    rfl
  · unfold sourceB
    simp
    omega
theorem src_cut (x : Bs) (k : Nat) (h : srcB (35 :: x) = some k) : ∃ j, k = j + 1 ∧ j < x.length ∧ srcB (35 :: x.take j) = none := by
  have hp := sF_plain 35 x (by decide)
  have hz : (ByteArray.mk (35 :: x).toArray).size = x.length + 1 := by
    show (35 :: x).toArray.size = _
    simp
  have h0 : sourceS ⟨(35 :: x).toArray⟩ = sF ⟨(35 :: x).toArray⟩ 1 := hp
  rcases src_ahead ⟨(35 :: x).toArray⟩ _ 1 (Nat.le_refl _) (by omega) with h1 | ⟨q, h1, h2, h3, h4⟩
  · exfalso
    unfold srcB at h
    rw [h0, h1] at h
    cases h
  · obtain ⟨j, rfl⟩ : ∃ j, q = j + 1 := ⟨q - 1, by omega⟩
    refine ⟨j, ?_, by omega, ?_⟩
    · unfold srcB at h
      rw [h0, h3] at h
      simp at h
      omega
    · apply src_of
      rw [sF_plain 35 (x.take j) (by decide)]
      rw [take_mk] at h4
      exact h4
end Go.Proofs.YtebojfipdcicaaaGreatDoor
namespace Go.Proofs.YtebojfipdcicaaaGreatDoor
open Go.RowKit Go.Lib

theorem encL_lt (n : Nat) (h : n ≤ 1114111) : ∀ x ∈ encL n, x < 256 := by
  unfold encL
  repeat' split
  all_goals (intro x hx; simp at hx; omega)
theorem encode_size (n : Nat) (h : charB (n : Int) = true) : (Utf8.encode (n : Int)).size = (encL n).length := by
  rw [encode_list n h]
  show (((encL n).map UInt8.ofNat).toArray).size = _
  simp
theorem encode_get (n : Nat) (h : charB (n : Int) = true) (i : Nat) (hi : i < (encL n).length) : ((Utf8.encode (n : Int)).get! i).toNat = (encL n)[i] := by
  have hz := encode_size n h
  rw [get_bang _ _ (by omega)]
  have hl := encL_lt n (valid_char n h).2.1 ((encL n)[i]) (List.getElem_mem hi)
  have : (Utf8.encode (n : Int))[i]'(by omega) = UInt8.ofNat (encL n)[i] := by
    have e := encode_list n h
    have : ∀ (b : ByteArray) (hb : i < b.size), b = ⟨((encL n).map UInt8.ofNat).toArray⟩ → b[i] = UInt8.ofNat (encL n)[i] := by
      intro b hb e
      subst e
      show (((encL n).map UInt8.ofNat).toArray)[i] = _
      simp
    exact this _ (by omega) e
  rw [this]
  simp
  omega
set_option maxRecDepth 100000 in
set_option maxHeartbeats 4000000 in
/-- A character's bytes are decoded as it, whatever stands behind them. -/
theorem encN_dec (n m b0 b1 b2 b3 : Nat) (hv : n ≤ 1114111 ∧ (n < 55296 ∨ 57343 < n)) (hm : (encL n).length ≤ m)
    (hb : ∀ i x, (encL n)[i]? = some x → x = (if i = 0 then b0 else if i = 1 then b1 else if i = 2 then b2 else b3)) : decodeN m b0 b1 b2 b3 = (n, (encL n).length) := by
  unfold encL at hm hb ⊢
  by_cases h1 : n < 128
  · simp only [if_pos h1] at hm hb ⊢
    have e0 := hb 0 _ rfl
    simp at e0 hm
    subst e0
    unfold decodeN
    rw [if_pos h1]
    rfl
  · by_cases h2 : n < 2048
    · simp only [if_neg h1, if_pos h2] at hm hb ⊢
      have e0 := hb 0 _ rfl
      have e1 := hb 1 _ rfl
      simp at e0 e1 hm
      subst e0 e1
      unfold decodeN
      repeat' split
      all_goals first | (exfalso; omega) | (apply Prod.ext <;> simp only [List.length_cons, List.length_nil] <;> omega)
    · by_cases h3 : n < 65536
      · simp only [if_neg h1, if_neg h2, if_pos h3] at hm hb ⊢
        have e0 := hb 0 _ rfl
        have e1 := hb 1 _ rfl
        have e2 := hb 2 _ rfl
        simp at e0 e1 e2 hm
        subst e0 e1 e2
        unfold decodeN
        repeat' split
        all_goals first | (exfalso; omega) | (apply Prod.ext <;> simp only [List.length_cons, List.length_nil] <;> omega)
      · simp only [if_neg h1, if_neg h2, if_neg h3] at hm hb ⊢
        have e0 := hb 0 _ rfl
        have e1 := hb 1 _ rfl
        have e2 := hb 2 _ rfl
        have e3 := hb 3 _ rfl
        simp at e0 e1 e2 e3 hm
        subst e0 e1 e2 e3
        unfold decodeN
        repeat' split
        all_goals first | (exfalso; omega) | (apply Prod.ext <;> simp only [List.length_cons, List.length_nil] <;> omega)
theorem encL_le (n : Nat) : 1 ≤ (encL n).length ∧ (encL n).length ≤ 4 := by
  unfold encL
  repeat' split
  all_goals simp
theorem idx4 (s : ByteArray) (p i : Nat) (hi : i < 4) : (if i = 0 then (s.get! p).toNat else if i = 1 then (s.get! (p + 1)).toNat else if i = 2 then (s.get! (p + 2)).toNat else (s.get! (p + 3)).toNat) = (s.get! (p + i)).toNat := by
  match i, hi with
  | 0, _ => rfl
  | 1, _ => rfl
  | 2, _ => rfl
  | 3, _ => rfl
theorem dec_of_enc (s : ByteArray) (p n : Nat) (hc : charB (n : Int) = true) (hz : p + (Utf8.encode (n : Int)).size ≤ s.size) (he : s.extract p (p + (Utf8.encode (n : Int)).size) = Utf8.encode (n : Int)) :
    Utf8.decode s p = (n, (Utf8.encode (n : Int)).size) := by
  have hs := encode_size n hc
  have hl := encL_le n
  rw [decode_at, hs]
  refine encN_dec _ _ _ _ _ _ (valid_char n hc).2 (by omega) ?_
  intro i x hx
  obtain ⟨hi, rfl⟩ := List.getElem?_eq_some_iff.1 hx
  rw [idx4 s p i (by omega), ← encode_get n hc i hi]
  have hg := get_cut s p (p + (Utf8.encode (n : Int)).size) i hz (by omega)
  rw [he] at hg
  rw [hg]
theorem char_not_err (n : Nat) (h : charB (n : Int) = true) : (n, (Utf8.encode (n : Int)).size) ≠ (65533, 1) := by
  intro e
  have e2 := congrArg Prod.fst e
  have e3 := congrArg Prod.snd e
  simp only at e2 e3
  have hs := encode_size n h
  rw [e2] at hs e3
  rw [hs] at e3
  exact absurd e3 (by decide)
theorem cut_app (s t : ByteArray) : (s ++ t).extract 0 (0 + s.size) = s := by
  have hz := size_cut (s ++ t) 0 (0 + s.size) (by rw [ByteArray.size_append]; omega)
  refine ext_get (by omega) fun i hi => ?_
  rw [get_cut (s ++ t) 0 (0 + s.size) i (by rw [ByteArray.size_append]; omega) (by omega), Nat.zero_add, get_app s t i (by omega)]
theorem st_of (s : ByteArray) (p c k : Nat) (hd : Utf8.decode s p = (c, k)) (hne : (c, k) ≠ (65533, 1)) : stC s p = (c : Int) ∧ stW s p = k := by
  have h1 : Utf8.decode s p ≠ (65533, 1) := by rw [hd]; exact hne
  have h2 : stC s p = ((Utf8.decode s p).1 : Int) := by unfold stC; rw [if_neg h1]
  have h3 : stW s p = (Utf8.decode s p).2 := rfl
  have e2 : (Utf8.decode s p).1 = c := by rw [hd]
  have e3 : (Utf8.decode s p).2 = k := by rw [hd]
  rw [e2] at h2
  rw [e3] at h3
  exact ⟨h2, h3⟩
theorem char_ahead (c : Int) (t : ByteArray) (h : charB c = true) : 0 < (Utf8.encode c).size ∧ stC (Utf8.encode c ++ t) 0 = c ∧ stW (Utf8.encode c ++ t) 0 = (Utf8.encode c).size := by
  have hd := charB_bd h
  obtain ⟨n, rfl⟩ : ∃ n : Nat, c = n := ⟨c.toNat, by omega⟩
  have hs := encode_size n h
  have hl := encL_le n
  have hdec := dec_of_enc (Utf8.encode (n : Int) ++ t) 0 n h (by rw [ByteArray.size_append]; omega) (cut_app _ _)
  have := st_of _ _ _ _ hdec (char_not_err n h)
  exact ⟨by omega, this.1, this.2⟩

/-- What is behind something is read as it is by itself. -/
theorem sF_tail (s t : ByteArray) : ∀ (n q : Nat), t.size - q ≤ n → sF t q = (0, 0) → sF (s ++ t) (s.size + q) = (0, 0) := by
  intro n
  induction n with
  | zero =>
    intro q hq _
    exact sF_end _ _ (by rw [ByteArray.size_append]; omega)
  | succ n ih =>
    intro q hq h
    by_cases hlt : q < t.size
    · have hw := dec_w t q hlt
      obtain ⟨e1, e2⟩ := stC_eq (dec_app2 s t q)
      rw [sF_step t q hlt] at h
      rw [sF_step _ _ (by rw [ByteArray.size_append]; omega), e1, e2]
      by_cases hc : sourceB (stC t q) = true
      · rw [if_pos hc] at h ⊢
        rw [Nat.add_assoc]
        exact ih _ (by omega) h
      · rw [if_neg hc] at h
        cases h
    · exact sF_end _ _ (by rw [ByteArray.size_append]; omega)
theorem sF_none {x : Bs} (h : srcB x = none) : sF ⟨x.toArray⟩ 0 = (0, 0) := by
  rcases sourceS_cases x with ⟨_, _⟩ | ⟨k, _, h2, _⟩
  · rcases walkF_source ⟨x.toArray⟩ ((ByteArray.mk x.toArray).size - 0) 0 with h' | ⟨q, hq, h'⟩
    · exact h'
    · exfalso
      have h2 : sourceS ⟨x.toArray⟩ = ((q : Int), 10) := h'
      unfold srcB at h
      rw [h2] at h
      cases h
  · rw [h2] at h; cases h
theorem bytes_appL (a : ByteArray) (l : Bs) : (⟨(a.data.toList ++ l).toArray⟩ : ByteArray) = a ++ ⟨l.toArray⟩ := by
  apply ByteArray.ext
  rw [ByteArray.data_append]
  apply Array.toList_inj.1
  simp
/-- A source character ahead of source characters. -/
theorem src_char (n : Nat) (m : Bs) (hc : charB (n : Int) = true) (hs : sourceB (n : Int) = true) (h : srcB m = none) : srcB ((Utf8.encode (n : Int)).data.toList ++ m) = none := by
  apply src_of
  rw [bytes_appL]
  obtain ⟨h0, h1, h2⟩ := char_ahead (n : Int) ⟨m.toArray⟩ hc
  rw [sF_step _ _ (by rw [ByteArray.size_append]; omega), h1, h2, if_pos hs, Nat.zero_add]
  have ht := sF_tail (Utf8.encode (n : Int)) ⟨m.toArray⟩ _ 0 (Nat.le_refl _) (sF_none h)
  rw [Nat.add_zero] at ht
  exact ht
theorem src_one (c : UInt8) (m : Bs) (hc : 32 ≤ c.toNat ∧ c.toNat < 128) (h : srcB m = none) : srcB (c :: m) = none := by
  apply src_of
  rw [sF_plain c m hc]
  have e : (⟨(c :: m).toArray⟩ : ByteArray) = ⟨#[c]⟩ ++ ⟨m.toArray⟩ := by
    apply ByteArray.ext
    simp
  rw [e]
  have ht := sF_tail ⟨#[c]⟩ ⟨m.toArray⟩ _ 0 (Nat.le_refl _) (sF_none h)
  rw [Nat.add_zero] at ht
  exact ht
end Go.Proofs.YtebojfipdcicaaaGreatDoor
