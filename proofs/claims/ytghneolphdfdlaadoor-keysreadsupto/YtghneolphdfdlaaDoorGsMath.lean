/- The part that bytes seem to begin with, by the document: the plain mathematics. -/
import Derived.Test.YtghneolphdfdlaaDoorBackMath
namespace Go.Proofs.YtghneolphdfdlaaDoor
open Go Go.RowKit

/-- The text that is read up to a byte 0 that no byte 255 follows. -/
def guessT : List UInt8 → List UInt8
  | [] => []
  | [c] => if c = 0 then [] else [c]
  | c :: d :: r => if c = 0 then (if d = 255 then 0 :: guessT r else []) else c :: guessT (d :: r)
theorem guessT_cons (c : UInt8) (l : List UInt8) (h : c ≠ 0) : guessT (c :: l) = c :: guessT l := by
  cases l with
  | nil => simp [guessT, h]
  | cons d r => rw [guessT, if_neg h]
theorem guessT_esc : ∀ (t r : List UInt8), guessT (esc t ++ 0 :: 0 :: r) = t
  | [], r => by simp [esc, guessT]
  | c :: t, r => by
    have ih := guessT_esc t r
    by_cases hc : c = 0
    · subst hc
      show guessT (0 :: 255 :: (esc t ++ 0 :: 0 :: r)) = _
      rw [guessT, if_pos rfl, if_pos rfl, ih]
    · have e : esc (c :: t) = c :: esc t := by show (if c = 0 then _ else _) = _; rw [if_neg hc]
      rw [e, List.cons_append, guessT_cons c _ hc, ih]
theorem guess_cut (l : List UInt8) (x : List UInt8 × List UInt8) (h : cutT l = some x) : guessT l = x.1 := by
  rw [esc_cut l x.1 x.2 h]
  exact guessT_esc _ _

/-- The part that bytes seem to begin with. -/
def guessP : List UInt8 → Pt
  | [] => ⟨-1, 0, 0, ⟨#[]⟩⟩
  | c :: r => if c = 3 then ⟨2, 0, 0, ⟨(guessT r).toArray⟩⟩
    else if c = 1 ∧ 8 ≤ r.length then ⟨0, (valB (r.take 8) : Int) - 9223372036854775808, 0, ⟨#[]⟩⟩
    else if c = 2 ∧ 8 ≤ r.length then ⟨1, 0, fromN (valB (r.take 8)), ⟨#[]⟩⟩
    else ⟨(c.toNat : Int) - 1, 0, 0, ⟨#[]⟩⟩
theorem guess_dec (l : List UInt8) (x : Pt × List UInt8) (h : decP l = some x) : guessP l = x.1 := by
  cases l with
  | nil => cases h
  | cons c r =>
    rw [decP] at h
    rw [guessP]
    by_cases k1 : c = 1
    · rw [if_pos k1] at h
      by_cases h8 : 8 ≤ r.length
      · rw [if_pos h8] at h; cases h
        rw [if_neg (by rw [k1]; decide), if_pos ⟨k1, h8⟩]
      · rw [if_neg h8] at h; cases h
    · rw [if_neg k1] at h
      by_cases k2 : c = 2
      · rw [if_pos k2] at h
        by_cases h8 : 8 ≤ r.length
        · rw [if_pos h8] at h
          cases hk : inK (valB (r.take 8))
          · rw [hk, if_neg (by decide)] at h; cases h
          · rw [hk, if_pos rfl] at h
            cases h
            rw [if_neg (by rw [k2]; decide), if_neg (fun e => k1 e.1), if_pos ⟨k2, h8⟩]
        · rw [if_neg h8] at h; cases h
      · rw [if_neg k2] at h
        by_cases k3 : c = 3
        · rw [if_pos k3] at h
          rw [if_pos k3]
          cases hr : cutT r with
          | none => rw [hr] at h; cases h
          | some y =>
            rw [hr] at h
            cases h
            rw [guess_cut r y hr]
        · rw [if_neg k3] at h; cases h
theorem fromN_lt (k : Nat) : fromN k < 18446744073709551616 := by
  unfold fromN
  cases hk : inK k
  · simp
  · have hk' : 4503599627370496 ≤ k ∧ k ≤ 18442240474082181120 := of_decide_eq_true hk
    rw [if_pos rfl]
    split <;> omega
theorem guess_small (l : List UInt8) : Small (guessP l) := by
  cases l with
  | nil => exact ⟨by decide, by decide, by decide⟩
  | cons c r =>
    rw [guessP]
    have hv := val8_lt r
    by_cases k3 : c = 3
    · rw [if_pos k3]; exact ⟨by show -9223372036854775808 ≤ (0 : Int); decide, by show (0 : Int) < _; decide, by show 0 < _; decide⟩
    · rw [if_neg k3]
      by_cases k1 : c = 1 ∧ 8 ≤ r.length
      · rw [if_pos k1]
        exact ⟨by show -9223372036854775808 ≤ (valB (r.take 8) : Int) - 9223372036854775808; omega, by show (valB (r.take 8) : Int) - 9223372036854775808 < _; omega, by show 0 < _; decide⟩
      · rw [if_neg k1]
        by_cases k2 : c = 2 ∧ 8 ≤ r.length
        · rw [if_pos k2]
          exact ⟨by show -9223372036854775808 ≤ (0 : Int); decide, by show (0 : Int) < _; decide, fromN_lt _⟩
        · rw [if_neg k2]
          exact ⟨by show -9223372036854775808 ≤ (0 : Int); decide, by show (0 : Int) < _; decide, by show 0 < _; decide⟩

/-- What comes of bytes that are left, behind some parts. -/
def outF (n : Nat) (l : List UInt8) (acc : List Pt) : Option (List Pt) := if acc.length ≤ 16 then decF n l acc else none
theorem out_start (s : List UInt8) : outF s.length s [] = decL s := rfl
theorem out_end (n : Nat) (acc : List Pt) : outF n [] acc = if acc.length ≤ 16 then some acc else none := by
  unfold outF
  cases n <;> rfl
theorem decF_succ (n : Nat) (c : UInt8) (l : List UInt8) (acc : List Pt) : decF (n + 1) (c :: l) acc = match decP (c :: l) with
    | none => none
    | some x => if mayB x.1 && decide (acc.length ≠ 16) then decF n x.2 (acc ++ [x.1]) else none := rfl
theorem out_yes (n : Nat) (c : UInt8) (l r : List UInt8) (acc : List Pt) (hm : mayB (guessP (c :: l)) = true) (he : c :: l = encP (guessP (c :: l)) ++ r) :
    outF (n + 1) (c :: l) acc = outF n r (acc ++ [guessP (c :: l)]) := by
  have hs := guess_small (c :: l)
  have hd : decP (c :: l) = some (guessP (c :: l), r) := by
    have := decP_enc (guessP (c :: l)) r hm hs
    rw [← he] at this
    exact this
  unfold outF
  rw [decF_succ, hd, List.length_append]
  dsimp only
  rw [hm, Bool.true_and]
  by_cases h : acc.length ≤ 16
  · rw [if_pos h]
    by_cases h2 : acc.length = 16
    · rw [decide_eq_false (by simpa using h2), if_neg (by decide), if_neg (by simp; omega)]
    · rw [decide_eq_true h2, if_pos rfl, if_pos (by simp; omega)]
  · rw [if_neg h, if_neg (by simp; omega)]
theorem out_no (n : Nat) (c : UInt8) (l : List UInt8) (acc : List Pt) (h : mayB (guessP (c :: l)) = true → ∀ r, ¬ c :: l = encP (guessP (c :: l)) ++ r) :
    outF (n + 1) (c :: l) acc = none := by
  unfold outF
  rw [decF_succ]
  have hn : (match decP (c :: l) with
    | none => none
    | some x => if mayB x.1 && decide (acc.length ≠ 16) then decF n x.2 (acc ++ [x.1]) else none) = none := by
    cases hx : decP (c :: l) with
    | none => rfl
    | some x =>
      dsimp only
      have hg := guess_dec (c :: l) x hx
      obtain ⟨e, _⟩ := enc_decP (c :: l) x.1 x.2 hx
      cases hm : mayB x.1
      · rfl
      · exfalso
        rw [hg] at h
        exact h hm x.2 e
  rw [hn]
  split <;> rfl
end Go.Proofs.YtghneolphdfdlaaDoor
