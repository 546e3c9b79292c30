/- Plain facts: characters' bytes, one behind the other, are a text, and its characters are these. -/
import Derived.Test.YtikbomagmedemaaPuts
import Derived.Test.YtikbomagmedemaaSame
namespace Go.Proofs.Ytikbomagmedemaa
open Go.RowKit Go.Lib

theorem points_tail (s t : ByteArray) : ∀ (n q : Nat) (a : List Int), t.size - q ≤ n → walk (s ++ t) (pointsStep (s ++ t)) (s.size + q) a = walk t (pointsStep t) q a := by
  intro n
  induction n with
  | zero =>
    intro q a hq
    rw [walk_end (by rw [ByteArray.size_append]; omega), walk_end (by omega)]
  | succ n ih =>
    intro q a hq
    by_cases h : q < t.size
    · have hw := dec_w t q h
      obtain ⟨e1, e2⟩ := stC_same (dec_app2 s t q)
      rw [walk_step (by rw [ByteArray.size_append]; omega), walk_step h]
      simp only [pointsStep, if_true]
      rw [e1, e2, Nat.add_assoc]
      exact ih _ _ (by omega)
    · rw [walk_end (by rw [ByteArray.size_append]; omega), walk_end h]

theorem points_acc (t : ByteArray) : ∀ (n q : Nat) (a b : List Int), t.size - q ≤ n → walk t (pointsStep t) q (a ++ b) = a ++ walk t (pointsStep t) q b := by
  intro n
  induction n with
  | zero =>
    intro q a b hq
    rw [walk_end (by omega), walk_end (by omega)]
  | succ n ih =>
    intro q a b hq
    by_cases h : q < t.size
    · have hw := dec_w t q h
      rw [walk_step h, walk_step h]
      simp only [pointsStep, if_true]
      rw [List.append_assoc]
      exact ih _ _ _ (by omega)
    · rw [walk_end h, walk_end h]

theorem cut_app (s t : ByteArray) : (s ++ t).extract 0 (0 + s.size) = s := by
  have hz := size_cut (s ++ t) 0 (0 + s.size) (by rw [ByteArray.size_append]; omega)
  refine ext_get (by omega) fun i hi => ?_
  rw [get_cut (s ++ t) 0 (0 + s.size) i (by rw [ByteArray.size_append]; omega) (by omega), Nat.zero_add, get_app s t i (by omega)]

theorem st_of (s : ByteArray) (p c k : Nat) (hd : Utf8.decode s p = (c, k)) (hne : (c, k) ≠ (65533, 1)) : stC s p = (c : Int) ∧ stW s p = k := by
  have h1 : Utf8.decode s p ≠ (65533, 1) := by rw [hd]; exact hne
  have h2 : stC s p = ((Utf8.decode s p).1 : Int) := by unfold stC; rw [if_neg h1]
  have h3 : stW s p = (Utf8.decode s p).2 := rfl
  have e2 : (Utf8.decode s p).1 = c := by rw [hd]
  have e3 : (Utf8.decode s p).2 = k := by rw [hd]
  rw [e2] at h2
  rw [e3] at h3
  exact ⟨h2, h3⟩

theorem char_ahead (c : Int) (t : ByteArray) (h : charB c = true) : 0 < (Utf8.encode c).size ∧ stC (Utf8.encode c ++ t) 0 = c ∧ stW (Utf8.encode c ++ t) 0 = (Utf8.encode c).size := by
  have hd := charB_bd h
  obtain ⟨n, rfl⟩ : ∃ n : Nat, c = n := ⟨c.toNat, by omega⟩
  have hs := encode_size n h
  have hl := encL_le n
  have hdec := dec_of_enc (Utf8.encode (n : Int) ++ t) 0 n h (by rw [ByteArray.size_append]; omega) (cut_app _ _)
  have := st_of _ _ _ _ hdec (char_not_err n h)
  exact ⟨by omega, this.1, this.2⟩

theorem text_char (c : Int) (t : ByteArray) (h : charB c = true) : validS (Utf8.encode c ++ t) = validS t ∧ pointsS (Utf8.encode c ++ t) = c :: pointsS t := by
  obtain ⟨h0, h1, h2⟩ := char_ahead c t h
  have hp : 0 < (Utf8.encode c ++ t).size := by rw [ByteArray.size_append]; omega
  have hd := charB_bd h
  constructor
  · rw [validS_eq, vF_step _ _ hp, h1, h2, Nat.zero_add]
    have e : (c != -1) = true := by simp; omega
    rw [e, Bool.true_and]
    exact vF_tail (Utf8.encode c) t t.size 0 (by omega)
  · unfold pointsS
    rw [walk_step hp]
    simp only [pointsStep, if_true, List.nil_append]
    rw [h1, h2, Nat.zero_add]
    have e := points_tail (Utf8.encode c) t t.size 0 [c] (by omega)
    rw [Nat.add_zero] at e
    rw [e]
    exact points_acc t t.size 0 [c] [] (by omega)

/-- Characters' bytes, one behind the other. -/
def encs : List Int → List UInt8
  | [] => []
  | c :: r => (Utf8.encode c).data.toList ++ encs r

theorem encs_app (a b : List Int) : encs (a ++ b) = encs a ++ encs b := by
  induction a with
  | nil => rfl
  | cons c r ih => simp [encs, ih]
theorem bytes_app (a : ByteArray) (l : List UInt8) : (⟨(a.data.toList ++ l).toArray⟩ : ByteArray) = a ++ ⟨l.toArray⟩ := by
  apply ByteArray.ext
  rw [ByteArray.data_append]
  apply Array.toList_inj.1
  simp
theorem encs_text (cs : List Int) (h : ∀ c ∈ cs, charB c = true) : validS ⟨(encs cs).toArray⟩ = true ∧ pointsS ⟨(encs cs).toArray⟩ = cs := by
  induction cs with
  | nil => exact ⟨by decide +kernel, by decide +kernel⟩
  | cons c r ih =>
    have ih := ih fun x hx => h x (List.mem_cons_of_mem _ hx)
    have := text_char c ⟨(encs r).toArray⟩ (h c List.mem_cons_self)
    rw [← bytes_app, ih.1, ih.2] at this
    exact this
theorem encs_len (cs : List Int) (h : ∀ c ∈ cs, charB c = true) : (encs cs).length ≤ 4 * cs.length := by
  induction cs with
  | nil => simp [encs]
  | cons c r ih =>
    have ih := ih fun x hx => h x (List.mem_cons_of_mem _ hx)
    have h4 := enc_small c (h c List.mem_cons_self)
    have e : (Utf8.encode c).data.toList.length = (Utf8.encode c).size := by rw [Array.length_toList]; rfl
    simp only [encs, List.length_append, List.length_cons]
    omega

end Go.Proofs.Ytikbomagmedemaa
