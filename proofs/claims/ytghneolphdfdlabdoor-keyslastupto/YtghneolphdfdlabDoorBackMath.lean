/- A key's bytes are read as the key, and what is read has just these bytes: the plain mathematics. -/
import Derived.Test.YtghneolphdfdlabDoorDec
namespace Go.Proofs.YtghneolphdfdlabDoor
open Go Go.RowKit

theorem byteAt_nat (n j : Nat) : (byteAt n j).toNat = n / 2 ^ (8 * (7 - j)) % 256 := by
  unfold byteAt; simp
theorem val_be (n : Nat) (h : n < 18446744073709551616) : valB (be8 n) = n := by
  have e : be8 n = [byteAt n 0, byteAt n 1, byteAt n 2, byteAt n 3, byteAt n 4, byteAt n 5, byteAt n 6, byteAt n 7] := rfl
  rw [e]
  simp only [valB, List.foldl_cons, List.foldl_nil, byteAt_nat]
  simp
  omega
theorem be_val (l : List UInt8) (h : l.length = 8) : be8 (valB l) = l := by
  match l, h with
  | [a, b, c, d, e, f, g, i], _ =>
    have ha := a.toNat_lt; have hb := b.toNat_lt; have hc := c.toNat_lt; have hd := d.toNat_lt
    have he := e.toNat_lt; have hf := f.toNat_lt; have hg := g.toNat_lt; have hi := i.toNat_lt
    generalize hn : valB [a, b, c, d, e, f, g, i] = n
    simp only [valB, List.foldl_cons, List.foldl_nil] at hn
    show [byteAt n 0, byteAt n 1, byteAt n 2, byteAt n 3, byteAt n 4, byteAt n 5, byteAt n 6, byteAt n 7] = _
    have k : ∀ j (x : UInt8), n / 2 ^ (8 * (7 - j)) % 256 = x.toNat → byteAt n j = x := fun j x hx => UInt8.toNat_inj.1 ((byteAt_nat n j).trans hx)
    rw [k 0 a (by simp; omega), k 1 b (by simp; omega), k 2 c (by simp; omega), k 3 d (by simp; omega), k 4 e (by simp; omega), k 5 f (by simp; omega), k 6 g (by simp; omega), k 7 i (by simp; omega)]

theorem cut_esc : ∀ (t r : List UInt8), cutT (esc t ++ 0 :: 0 :: r) = some (t, r)
  | [], r => by simp [esc, cutT]
  | c :: t, r => by
    by_cases hc : c = 0
    · subst hc
      have e : esc (0 :: t) ++ 0 :: 0 :: r = [] ++ 0 :: 255 :: (esc t ++ 0 :: 0 :: r) := by simp [esc]
      rw [e, cutT_more [] _ (by simp), cut_esc t r]
      rfl
    · have e : esc (c :: t) ++ 0 :: 0 :: r = c :: (esc t ++ 0 :: 0 :: r) := by simp [esc, hc]
      rw [e, cutT_cons c _ hc, cut_esc t r]
      rfl
theorem esc_cut : ∀ (l t r : List UInt8), cutT l = some (t, r) → l = esc t ++ 0 :: 0 :: r
  | [], t, r, h => by simp [cutT] at h
  | [c], t, r, h => by unfold cutT at h; split at h <;> cases h
  | c :: d :: q, t, r, h => by
    unfold cutT at h
    by_cases hc : c = 0
    · rw [if_pos hc] at h
      by_cases hd : d = 0
      · rw [if_pos hd] at h
        cases h
        rw [hc, hd]; rfl
      · rw [if_neg hd] at h
        by_cases hd2 : d = 255
        · rw [if_pos hd2] at h
          cases hr : cutT q with
          | none => rw [hr] at h; cases h
          | some y =>
            rw [hr] at h
            obtain ⟨y1, y2⟩ := y
            cases h
            rw [hc, hd2, esc_cut q y1 y2 hr]
            simp [esc]
        · rw [if_neg hd2] at h; cases h
    · rw [if_neg hc] at h
      cases hr : cutT (d :: q) with
      | none => rw [hr] at h; cases h
      | some y =>
        rw [hr] at h
        obtain ⟨y1, y2⟩ := y
        cases h
        rw [esc_cut (d :: q) y1 y2 hr]
        simp [esc, hc]

theorem bytes_empty {t : ByteArray} (h : mtB t = true) : t = ⟨#[]⟩ := by
  have h1 : t.toList = [] := of_decide_eq_true h
  rw [ByteArray.toList_eq] at h1
  cases t
  simpa using h1
theorem mkT (t : ByteArray) : (⟨t.data.toList.toArray⟩ : ByteArray) = t := by cases t; simp
/-- A part that is an int is one of 64 bits. -/
def Small (p : Pt) : Prop := -9223372036854775808 ≤ p.i ∧ p.i < 9223372036854775808 ∧ p.b < 18446744073709551616

theorem key_facts (b : Nat) (hb : b < 18446744073709551616) (hn : isN b = true) (hz : b ≠ 9223372036854775808) : (keyI b).toNat < 18446744073709551616 ∧ inK (keyI b).toNat = true ∧ fromN (keyI b).toNat = b := by
  have hs : sz b ≤ 9218868437227405312 := of_decide_eq_true hn
  have e : keyI b = 9223372036854775808 + pos b := by unfold keyI; rw [hn]; rfl
  by_cases c : b < 9223372036854775808
  · rw [pos_low c, sz_low c] at e
    rw [sz_low c] at hs
    have k : (keyI b).toNat = 9223372036854775808 + b := by omega
    have ki : inK (9223372036854775808 + b) = true := decide_eq_true (by omega)
    refine ⟨by omega, by rw [k]; exact ki, ?_⟩
    rw [k]
    unfold fromN
    rw [ki, if_pos rfl, if_neg (by omega)]; omega
  · rw [pos_high (by omega) hb, sz_high (by omega) hb] at e
    rw [sz_high (by omega) hb] at hs
    have k : (keyI b).toNat = 18446744073709551616 - b := by omega
    have ki : inK (18446744073709551616 - b) = true := decide_eq_true (by omega)
    refine ⟨by omega, by rw [k]; exact ki, ?_⟩
    rw [k]
    unfold fromN
    rw [ki, if_pos rfl, if_pos (by omega)]; omega

theorem take8 (n : Nat) (r : List UInt8) : (be8 n ++ r).take 8 = be8 n ∧ (be8 n ++ r).drop 8 = r ∧ 8 ≤ (be8 n ++ r).length := by
  have := be8_len n
  refine ⟨?_, ?_, by simp [this]⟩
  · rw [List.take_append_of_le_length (by omega), List.take_of_length_le (by omega)]
  · rw [List.drop_append_of_le_length (by omega), List.drop_of_length_le (by omega), List.nil_append]

theorem decP_enc (p : Pt) (r : List UInt8) (hm : mayB p = true) (hs : Small p) : decP (encP p ++ r) = some (p, r) := by
  obtain ⟨k, i, b, t⟩ := p
  obtain ⟨s1, s2, s3⟩ := hs
  dsimp only at s1 s2 s3
  unfold mayB at hm
  by_cases h0 : k = 0
  · subst h0
    have hm' : may0 b t = true := hm
    unfold may0 at hm'
    rw [Bool.and_eq_true, decide_eq_true_iff] at hm'
    obtain ⟨rfl, ht⟩ := hm'
    rw [bytes_empty ht]
    show decP (1 :: (be8 (intW i) ++ r)) = _
    rw [decP, if_pos rfl]
    obtain ⟨t1, t2, t3⟩ := take8 (intW i) r
    rw [if_pos t3, t1, t2, val_be _ (by unfold intW; omega)]
    have : ((intW i : Nat) : Int) - 9223372036854775808 = i := by unfold intW; omega
    rw [this]
  · rw [if_neg h0] at hm
    by_cases h1 : k = 1
    · subst h1
      have hm' : may1 i b t = true := hm
      unfold may1 at hm'
      simp only [Bool.and_eq_true, decide_eq_true_iff] at hm'
      obtain ⟨⟨⟨rfl, ht⟩, hn⟩, hz⟩ := hm'
      rw [bytes_empty ht]
      show decP (2 :: (be8 (keyI b).toNat ++ r)) = _
      rw [decP, if_neg (by decide), if_pos rfl]
      obtain ⟨t1, t2, t3⟩ := take8 (keyI b).toNat r
      obtain ⟨k1, k2, k3⟩ := key_facts b s3 hn hz
      rw [if_pos t3, t1, t2, val_be _ k1, k2, if_pos rfl, k3]
    · rw [if_neg h1] at hm
      by_cases h2 : k = 2
      · subst h2
        have hm' : may2 i b t = true := hm
        unfold may2 at hm'
        simp only [Bool.and_eq_true, decide_eq_true_iff] at hm'
        obtain ⟨⟨rfl, rfl⟩, _⟩ := hm'
        have e : encP ⟨2, 0, 0, t⟩ ++ r = 3 :: (esc t.data.toList ++ 0 :: 0 :: r) := by
          show 3 :: (esc t.data.toList ++ [0, 0]) ++ r = _
          simp
        rw [e, decP, if_neg (by decide), if_neg (by decide), if_pos rfl, cut_esc]
        show some ((⟨2, 0, 0, ⟨t.data.toList.toArray⟩⟩ : Pt), r) = _
        rw [mkT]
      · rw [if_neg h2] at hm; cases hm

theorem key_from (n : Nat) (h : inK n = true) : keyI (fromN n) = (n : Int) := by
  have hk : 4503599627370496 ≤ n ∧ n ≤ 18442240474082181120 := of_decide_eq_true h
  unfold fromN
  rw [h, if_pos rfl]
  by_cases c : n < 9223372036854775808
  · rw [if_pos c]
    have e1 := sz_high (a := 18446744073709551616 - n) (by omega) (by omega)
    have e2 := pos_high (a := 18446744073709551616 - n) (by omega) (by omega)
    unfold keyI
    rw [isN_true (by rw [e1]; omega), if_pos rfl, e2, e1]
    omega
  · rw [if_neg c]
    have e1 := sz_low (a := n - 9223372036854775808) (by omega)
    have e2 := pos_low (a := n - 9223372036854775808) (by omega)
    unfold keyI
    rw [isN_true (by rw [e1]; omega), if_pos rfl, e2, e1]
    omega
theorem val8_lt (l : List UInt8) : valB (l.take 8) < 18446744073709551616 := by
  refine Nat.lt_of_lt_of_le (valB_lt _) ?_
  have : (l.take 8).length ≤ 8 := by rw [List.length_take]; omega
  exact Nat.le_trans (Nat.pow_le_pow_right (by decide) this) (by decide)

theorem enc_decP (l : List UInt8) (p : Pt) (r : List UInt8) (h : decP l = some (p, r)) : l = encP p ++ r ∧ Small p := by
  cases l with
  | nil => cases h
  | cons c l =>
    rw [decP] at h
    have hv := val8_lt l
    by_cases k1 : c = 1
    · rw [if_pos k1] at h
      by_cases h8 : 8 ≤ l.length
      · rw [if_pos h8] at h
        cases h
        have e : intW ((valB (l.take 8) : Int) - 9223372036854775808) = valB (l.take 8) := by unfold intW; omega
        refine ⟨?_, by show (-9223372036854775808 : Int) ≤ (valB (l.take 8) : Int) - 9223372036854775808; omega, by show (valB (l.take 8) : Int) - 9223372036854775808 < 9223372036854775808; omega, by show (0 : Nat) < _; decide⟩
        show c :: l = 1 :: be8 (intW ((valB (l.take 8) : Int) - 9223372036854775808)) ++ l.drop 8
        rw [e, be_val (l.take 8) (by rw [List.length_take]; omega), k1, List.cons_append, List.take_append_drop]
      · rw [if_neg h8] at h; cases h
    · rw [if_neg k1] at h
      by_cases k2 : c = 2
      · rw [if_pos k2] at h
        by_cases h8 : 8 ≤ l.length
        · rw [if_pos h8] at h
          cases hk : inK (valB (l.take 8))
          · rw [hk, if_neg (by decide)] at h; cases h
          · rw [hk, if_pos rfl] at h
            cases h
            have e : (keyI (fromN (valB (l.take 8)))).toNat = valB (l.take 8) := by rw [key_from _ hk]; omega
            refine ⟨?_, by show (_ : Int) ≤ 0; decide, by show (0 : Int) < _; decide, ?_⟩
            · show c :: l = 2 :: be8 (keyI (fromN (valB (l.take 8)))).toNat ++ l.drop 8
              rw [e, be_val (l.take 8) (by rw [List.length_take]; omega), k2, List.cons_append, List.take_append_drop]
            · exact (decP_facts 2 l (⟨1, 0, fromN (valB (l.take 8)), ⟨#[]⟩⟩, l.drop 8) (by rw [decP, if_neg (by decide), if_pos rfl, if_pos h8, hk, if_pos rfl])).2
        · rw [if_neg h8] at h; cases h
      · rw [if_neg k2] at h
        by_cases k3 : c = 3
        · rw [if_pos k3] at h
          cases hr : cutT l with
          | none => rw [hr] at h; cases h
          | some y =>
            rw [hr] at h
            obtain ⟨y1, y2⟩ := y
            cases h
            refine ⟨?_, by show (_ : Int) ≤ 0; decide, by show (0 : Int) < _; decide, by show (0 : Nat) < _; decide⟩
            show c :: l = 3 :: (esc (ByteArray.mk y1.toArray).data.toList ++ [0, 0]) ++ y2
            rw [k3, esc_cut l y1 y2 hr]
            simp
        · rw [if_neg k3] at h; cases h

theorem encP_cons (p : Pt) : ∃ c l, encP p = c :: l := by
  unfold encP
  split
  · exact ⟨_, _, rfl⟩
  · split
    · exact ⟨_, _, rfl⟩
    · exact ⟨_, _, rfl⟩

theorem decF_enc : ∀ (ps acc : List Pt) (n : Nat), ps.all mayB = true → (∀ p ∈ ps, Small p) → acc.length + ps.length ≤ 16 → (encL ps).length ≤ n → decF n (encL ps) acc = some (acc ++ ps)
  | [], acc, n, _, _, _, _ => by
    show decF n [] acc = _
    rw [List.append_nil]
    cases n <;> rfl
  | p :: ps, acc, n, ha, hs, hl, hn => by
    simp only [List.all_cons, Bool.and_eq_true] at ha
    have e : encL (p :: ps) = encP p ++ encL ps := by simp [encL]
    obtain ⟨c, q, hq⟩ := encP_cons p
    have hd := decP_enc p (encL ps) ha.1 (hs p (by simp))
    rw [e] at hn ⊢
    rw [hq, List.cons_append] at hd hn ⊢
    simp only [List.length_cons, List.length_append] at hn hl
    obtain ⟨m, rfl⟩ : ∃ m, n = m + 1 := ⟨n - 1, by omega⟩
    show (match decP (c :: (q ++ encL ps)) with | none => none | some x => if mayB x.1 && decide (acc.length ≠ 16) then decF m x.2 (acc ++ [x.1]) else none) = _
    rw [hd]
    dsimp only
    rw [ha.1, decide_eq_true (by omega), Bool.and_true, if_pos rfl, decF_enc ps (acc ++ [p]) m ha.2 (fun x hx => hs x (List.mem_cons_of_mem _ hx)) (by simp; omega) (by omega)]
    simp
theorem decL_enc (ps : List Pt) (h : keyB ps = true) (hs : ∀ p ∈ ps, Small p) : decL (encL ps) = some ps := by
  obtain ⟨h1, h2⟩ := keyB_parts h
  have := decF_enc ps [] (encL ps).length h2 hs (by simpa using h1) (Nat.le_refl _)
  simpa [decL] using this

theorem enc_decF : ∀ (n : Nat) (l : List UInt8) (acc qs : List Pt), acc.length ≤ 16 → decF n l acc = some qs → ∃ ps, qs = acc ++ ps ∧ l = encL ps ∧ ps.all mayB = true ∧ (∀ p ∈ ps, Small p) ∧ qs.length ≤ 16
  | n, [], acc, qs, hl, h => by
    have : decF n [] acc = some acc := by cases n <;> rfl
    rw [this] at h
    cases h
    exact ⟨[], by simp, rfl, rfl, by simp, hl⟩
  | 0, c :: l, acc, qs, _, h => by cases h
  | n + 1, c :: l, acc, qs, hl, h => by
    have h' : (match decP (c :: l) with | none => none | some x => if mayB x.1 && decide (acc.length ≠ 16) then decF n x.2 (acc ++ [x.1]) else none) = some qs := h
    cases hx : decP (c :: l) with
    | none => rw [hx] at h'; cases h'
    | some x =>
      obtain ⟨p, r⟩ := x
      rw [hx] at h'
      dsimp only at h'
      cases hm : mayB p
      · rw [hm] at h'; simp at h'
      · by_cases h16 : acc.length = 16
        · rw [h16] at h'; simp at h'
        · rw [hm, decide_eq_true h16, Bool.and_true, if_pos rfl] at h'
          obtain ⟨e1, e2⟩ := enc_decP (c :: l) p r hx
          obtain ⟨ps, q1, q2, q3, q4, q5⟩ := enc_decF n r (acc ++ [p]) qs (by simp; omega) h'
          refine ⟨p :: ps, by rw [q1]; simp, ?_, by simp [hm, q3], ?_, q5⟩
          · rw [e1, q2]; simp [encL]
          · intro x hx'
            rcases List.mem_cons.1 hx' with rfl | hx'
            · exact e2
            · exact q4 x hx'
theorem enc_decL (l : List UInt8) (ps : List Pt) (h : decL l = some ps) : encL ps = l ∧ keyB ps = true ∧ ∀ p ∈ ps, Small p := by
  obtain ⟨qs, q1, q2, q3, q4, q5⟩ := enc_decF l.length l [] ps (by simp) h
  rw [List.nil_append] at q1
  subst q1
  exact ⟨q2.symm, by unfold keyB; rw [q3, decide_eq_true q5]; rfl, q4⟩
end Go.Proofs.YtghneolphdfdlabDoor
