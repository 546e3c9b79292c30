/- Plain facts: a character's bytes are read as it, and what is read has these bytes. -/
import Derived.Test.YtikbomagmedemaaText
namespace Go.Proofs.Ytikbomagmedemaa
open Go.RowKit Go.Lib

/-- A character's bytes, as numbers. -/
def encL (n : Nat) : List Nat :=
  if n < 128 then [n] else if n < 2048 then [192 + n / 64, 128 + n % 64] else if n < 65536 then [224 + n / 4096, 128 + n / 64 % 64, 128 + n % 64] else [240 + n / 262144, 128 + n / 4096 % 64, 128 + n / 64 % 64, 128 + n % 64]

theorem valid_char (n : Nat) (h : charB (n : Int) = true) : Utf8.valid (n : Int) = true ∧ n ≤ 1114111 ∧ (n < 55296 ∨ 57343 < n) := by
  unfold charB validB at h
  unfold Utf8.valid
  simp only [Bool.and_eq_true, Bool.or_eq_true, decide_eq_true_eq] at h ⊢
  omega

theorem encode_list (n : Nat) (h : charB (n : Int) = true) : Utf8.encode (n : Int) = ⟨((encL n).map UInt8.ofNat).toArray⟩ := by
  have hv := (valid_char n h).1
  unfold Utf8.encode encL
  simp only [hv, if_true, Int.toNat_natCast]
  repeat' split
  all_goals first | rfl | (exfalso; omega)

theorem encL_lt (n : Nat) (h : n ≤ 1114111) : ∀ x ∈ encL n, x < 256 := by
  unfold encL
  repeat' split
  all_goals (intro x hx; simp at hx; omega)

theorem encode_size (n : Nat) (h : charB (n : Int) = true) : (Utf8.encode (n : Int)).size = (encL n).length := by
  rw [encode_list n h]
  show (((encL n).map UInt8.ofNat).toArray).size = _
  simp

theorem encode_get (n : Nat) (h : charB (n : Int) = true) (i : Nat) (hi : i < (encL n).length) : ((Utf8.encode (n : Int)).get! i).toNat = (encL n)[i] := by
  have hz := encode_size n h
  rw [get_bang _ _ (by omega)]
  have hl := encL_lt n (valid_char n h).2.1 ((encL n)[i]) (List.getElem_mem hi)
  have : (Utf8.encode (n : Int))[i]'(by omega) = UInt8.ofNat (encL n)[i] := by
    have e := encode_list n h
    have : ∀ (b : ByteArray) (hb : i < b.size), b = ⟨((encL n).map UInt8.ofNat).toArray⟩ → b[i] = UInt8.ofNat (encL n)[i] := by
      intro b hb e
      subst e
      show (((encL n).map UInt8.ofNat).toArray)[i] = _
      simp
    exact this _ (by omega) e
  rw [this]
  simp
  omega

set_option maxRecDepth 100000 in
set_option maxHeartbeats 4000000 in
/-- What is decoded has these bytes; the sum that the document takes of them is it. -/
theorem decN_enc (m b0 b1 b2 b3 : Nat) (h0 : b0 < 256) (h : decodeN m b0 b1 b2 b3 ≠ (65533, 1)) :
    (encL (decodeN m b0 b1 b2 b3).1).length = (decodeN m b0 b1 b2 b3).2 ∧
    (∀ i x, (encL (decodeN m b0 b1 b2 b3).1)[i]? = some x → x = (if i = 0 then b0 else if i = 1 then b1 else if i = 2 then b2 else b3)) := by
  revert h
  unfold decodeN
  repeat' split
  all_goals first
    | (intro h; exact absurd rfl h)
    | (intro _
       unfold encL
       dsimp only
       repeat' split
       all_goals first
         | (exfalso; omega)
         | (refine ⟨rfl, ?_⟩
            intro i x hx
            match i, hx with
            | 0, hx => simp at hx; simp; omega
            | 1, hx => simp at hx; try (simp; omega)
            | 2, hx => simp at hx; try (simp; omega)
            | 3, hx => simp at hx; try (simp; omega)
            | _ + 4, hx => simp at hx))

set_option maxRecDepth 100000 in
set_option maxHeartbeats 4000000 in
/-- A character's bytes are decoded as it, whatever stands behind them. -/
theorem encN_dec (n m b0 b1 b2 b3 : Nat) (hv : n ≤ 1114111 ∧ (n < 55296 ∨ 57343 < n)) (hm : (encL n).length ≤ m)
    (hb : ∀ i x, (encL n)[i]? = some x → x = (if i = 0 then b0 else if i = 1 then b1 else if i = 2 then b2 else b3)) : decodeN m b0 b1 b2 b3 = (n, (encL n).length) := by
  unfold encL at hm hb ⊢
  by_cases h1 : n < 128
  · simp only [if_pos h1] at hm hb ⊢
    have e0 := hb 0 _ rfl
    simp at e0 hm
    subst e0
    unfold decodeN
    rw [if_pos h1]
    rfl
  · by_cases h2 : n < 2048
    · simp only [if_neg h1, if_pos h2] at hm hb ⊢
      have e0 := hb 0 _ rfl
      have e1 := hb 1 _ rfl
      simp at e0 e1 hm
      subst e0 e1
      unfold decodeN
      repeat' split
      all_goals first | (exfalso; omega) | (apply Prod.ext <;> simp only [List.length_cons, List.length_nil] <;> omega)
    · by_cases h3 : n < 65536
      · simp only [if_neg h1, if_neg h2, if_pos h3] at hm hb ⊢
        have e0 := hb 0 _ rfl
        have e1 := hb 1 _ rfl
        have e2 := hb 2 _ rfl
        simp at e0 e1 e2 hm
        subst e0 e1 e2
        unfold decodeN
        repeat' split
        all_goals first | (exfalso; omega) | (apply Prod.ext <;> simp only [List.length_cons, List.length_nil] <;> omega)
      · simp only [if_neg h1, if_neg h2, if_neg h3] at hm hb ⊢
        have e0 := hb 0 _ rfl
        have e1 := hb 1 _ rfl
        have e2 := hb 2 _ rfl
        have e3 := hb 3 _ rfl
        simp at e0 e1 e2 e3 hm
        subst e0 e1 e2 e3
        unfold decodeN
        repeat' split
        all_goals first | (exfalso; omega) | (apply Prod.ext <;> simp only [List.length_cons, List.length_nil] <;> omega)

theorem encL_le (n : Nat) : 1 ≤ (encL n).length ∧ (encL n).length ≤ 4 := by
  unfold encL
  repeat' split
  all_goals simp

theorem idx4 (s : ByteArray) (p i : Nat) (hi : i < 4) : (if i = 0 then (s.get! p).toNat else if i = 1 then (s.get! (p + 1)).toNat else if i = 2 then (s.get! (p + 2)).toNat else (s.get! (p + 3)).toNat) = (s.get! (p + i)).toNat := by
  match i, hi with
  | 0, _ => rfl
  | 1, _ => rfl
  | 2, _ => rfl
  | 3, _ => rfl

theorem dec_of_enc (s : ByteArray) (p n : Nat) (hc : charB (n : Int) = true) (hz : p + (Utf8.encode (n : Int)).size ≤ s.size) (he : s.extract p (p + (Utf8.encode (n : Int)).size) = Utf8.encode (n : Int)) :
    Utf8.decode s p = (n, (Utf8.encode (n : Int)).size) := by
  have hs := encode_size n hc
  have hl := encL_le n
  rw [decode_at, hs]
  refine encN_dec _ _ _ _ _ _ (valid_char n hc).2 (by omega) ?_
  intro i x hx
  obtain ⟨hi, rfl⟩ := List.getElem?_eq_some_iff.1 hx
  rw [idx4 s p i (by omega), ← encode_get n hc i hi]
  have hg := get_cut s p (p + (Utf8.encode (n : Int)).size) i hz (by omega)
  rw [he] at hg
  rw [hg]

theorem enc_of_dec (s : ByteArray) (p : Nat) (hp : p < s.size) (h : Utf8.decode s p ≠ (65533, 1)) :
    charB ((Utf8.decode s p).1 : Int) = true ∧ (Utf8.encode ((Utf8.decode s p).1 : Int)).size = (Utf8.decode s p).2 ∧ s.extract p (p + (Utf8.decode s p).2) = Utf8.encode ((Utf8.decode s p).1 : Int) := by
  have hc : charB ((Utf8.decode s p).1 : Int) = true := ((dec_len s p).resolve_left h).2
  have hs := encode_size _ hc
  have hw := dec_w s p hp
  unfold stW at hw
  have hd := decode_at s p
  rw [hd] at h
  have hk := decN_enc _ _ _ _ _ (byte_lt _) h
  rw [← hd] at hk
  refine ⟨hc, by omega, ?_⟩
  have hz := size_cut s p (p + (Utf8.decode s p).2) (by omega)
  refine ext_get (by omega) fun i hi => ?_
  have hi2 : i < (encL (Utf8.decode s p).1).length := by omega
  rw [get_cut s p _ i (by omega) (by omega)]
  apply UInt8.toNat_inj.1
  rw [encode_get _ hc i hi2, hk.2 i _ (List.getElem?_eq_getElem hi2), idx4 s p i (by omega)]

/-- The document's sum of the bytes at a place. -/
def refN (b0 b1 b2 b3 : Int) : Int :=
  if b0 < 128 then b0 else if b0 < 224 then (b0 - 192) * 64 + b1 - 128 else if b0 < 240 then (b0 - 224) * 4096 + (b1 - 128) * 64 + b2 - 128 else (b0 - 240) * 262144 + (b1 - 128) * 4096 + (b2 - 128) * 64 + b3 - 128

set_option maxRecDepth 100000 in
set_option maxHeartbeats 4000000 in
theorem decN_refN (m b0 b1 b2 b3 : Nat) (h0 : b0 < 256) (h : decodeN m b0 b1 b2 b3 ≠ (65533, 1)) :
    refN b0 (if 1 < m then b1 else -1) (if 2 < m then b2 else -1) (if 3 < m then b3 else -1) = ((decodeN m b0 b1 b2 b3).1 : Int) := by
  revert h
  unfold decodeN
  repeat' split
  all_goals first
    | (intro h; exact absurd rfl h)
    | (intro _; unfold refN; repeat' split
       all_goals omega)

/-- A byte's number, or -1 behind the end. -/
def gB (s : ByteArray) (q : Nat) : Int := if q < s.size then ((s.get! q).toNat : Int) else -1
def refC (s : ByteArray) (p : Nat) : Int := refN (gB s p) (gB s (p + 1)) (gB s (p + 2)) (gB s (p + 3))
/-- The document's own answer. -/
def refRune (s : ByteArray) (p : Nat) : Int × Int :=
  if charB (refC s p) = false then (0, 0) else if p + (Utf8.encode (refC s p)).size ≤ s.size ∧ s.extract p (p + (Utf8.encode (refC s p)).size) = Utf8.encode (refC s p) then (refC s p, ((Utf8.encode (refC s p)).size : Int)) else (0, 0)

theorem refC_dec (s : ByteArray) (p : Nat) (hp : p < s.size) (h : Utf8.decode s p ≠ (65533, 1)) : refC s p = ((Utf8.decode s p).1 : Int) := by
  have hd := decode_at s p
  rw [hd] at h
  have hr := decN_refN _ _ _ _ _ (byte_lt _) h
  rw [← hd] at hr
  rw [← hr]
  unfold refC gB
  rw [if_pos hp]
  have c1 : (p + 1 < s.size) = (1 < s.size - p) := propext ⟨fun h => by omega, fun h => by omega⟩
  have c2 : (p + 2 < s.size) = (2 < s.size - p) := propext ⟨fun h => by omega, fun h => by omega⟩
  have c3 : (p + 3 < s.size) = (3 < s.size - p) := propext ⟨fun h => by omega, fun h => by omega⟩
  simp only [c1, c2, c3]

theorem refRune_eq (s : ByteArray) (p : Nat) (hp : p < s.size) : refRune s p = runeS s p := by
  by_cases h : Utf8.decode s p = (65533, 1)
  · have e1 : runeS s p = (0, 0) := by unfold runeS stC; rw [if_pos h, if_pos rfl]
    rw [e1]
    unfold refRune
    split
    · rfl
    · rename_i hc
      split
      · rename_i hz
        exfalso
        have hc' : charB (refC s p) = true := by simpa using hc
        obtain ⟨n, hn⟩ : ∃ n : Nat, refC s p = n := ⟨(refC s p).toNat, by have := charB_bd hc'; omega⟩
        rw [hn] at hz hc'
        have hd := dec_of_enc s p n hc' hz.1 hz.2
        rw [h] at hd
        have e2 := congrArg Prod.fst hd
        have e3 := congrArg Prod.snd hd
        simp only at e2 e3
        have hs := encode_size n hc'
        rw [← e2] at hs e3
        rw [hs] at e3
        exact absurd e3 (by decide)
      · rfl
  · obtain ⟨h1, h2, h3⟩ := enc_of_dec s p hp h
    have hr := refC_dec s p hp h
    have hw := dec_w s p hp
    unfold stW at hw
    unfold refRune runeS stC stW
    rw [hr, if_neg (by rw [h1]; decide), h2, if_pos ⟨hw.2.2, h3⟩, if_neg h, if_neg (by omega)]

end Go.Proofs.Ytikbomagmedemaa
