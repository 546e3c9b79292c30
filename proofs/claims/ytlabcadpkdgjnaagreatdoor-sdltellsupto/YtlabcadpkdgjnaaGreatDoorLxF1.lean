/- The tokens told one by one: the plain mathematics; the iterator. -/
import Derived.Test.YtlabcadpkdgjnaaGreatDoorLxZ
import Derived.RangeFuncNested
import Derived.RangeFuncBound
import Derived.RangeFuncCalls
import Derived.RangeFuncLeaves
import Derived.RecoverIn
import Derived.Shelf.RegionOpen
import Derived.WalkKit
import Derived.OwnWalkIn
import Derived.TacticsInMore
import Derived.LoopNIn
import Derived.LoopIn
namespace Go.Proofs.YtlabcadpkdgjnaaGreatDoor
open Go Go.RowKit Go.Shelf

theorem comS_suf {l m : Bs} (h : comS l = some (.inl m)) : m <:+ l := by
  unfold comS at h
  by_cases hp : List.isPrefixOf [35] l = true
  · rw [if_pos hp] at h
    have e : m = spanN endL (l.drop 1) := by
      cases hs : srcB (ahead l (spanN endL (l.drop 1))) with
      | none => rw [hs] at h; injection h with h; injection h with h; exact h.symm
      | some k => rw [hs] at h; simp at h
    rw [e]
    exact (spanN_suf _ _).trans (drop_suf 1 l)
  · rw [if_neg hp] at h; cases h
theorem skipF_suf : ∀ (n : Nat) (l m : Bs), skipF n l = .inl m → m <:+ l
  | 0, l, m, h => by cases h; exact List.suffix_refl _
  | n + 1, l, m, h => by
    unfold skipF at h
    by_cases h1 : headIn ignL l = true
    · rw [if_pos h1] at h
      exact (skipF_suf n _ m h).trans (spanR_suf _ _)
    · rw [if_neg h1] at h
      by_cases h2 : List.isPrefixOf [239, 187, 191] l = true
      · rw [if_pos h2] at h
        exact (skipF_suf n _ m h).trans (drop_suf 3 l)
      · rw [if_neg h2] at h
        cases hc : comS l with
        | none => rw [hc] at h; cases h; exact List.suffix_refl _
        | some x =>
          rw [hc] at h
          cases x with
          | inl r => exact (skipF_suf n r m h).trans (comS_suf hc)
          | inr k => cases h
theorem skipS_suf {l m : Bs} (h : skipS l = .inl m) : m <:+ l := skipF_suf _ _ _ h
theorem lexF_fuel (N : Nat) : ∀ (n m c : Nat) (l : Bs), l.length < n → l.length < m → lexF N n c l = lexF N m c l
  | 0, _, _, _, h, _ => absurd h (Nat.not_lt_zero _)
  | _ + 1, 0, _, _, _, h => absurd h (Nat.not_lt_zero _)
  | n + 1, m + 1, c, l, hn, hm => by
    unfold lexF
    cases hs : skipS l with
    | inr k => rfl
    | inl q =>
      cases q with
      | nil => rfl
      | cons x l1 =>
        have h1 := (skipS_suf hs).length_le
        simp only
        by_cases hc : c = 2048
        · rw [if_pos hc, if_pos hc]
        · rw [if_neg hc, if_neg hc]
          cases ht : tokS (x :: l1) with
          | bad e => rfl
          | ok k t r =>
            have h2 := (tokS_facts ht).2
            simp only
            rw [lexF_fuel N n m (c + 1) r (by omega) (by omega)]
/-- The tokens from here on. -/
def lexG (N c : Nat) (l : Bs) : (Nat × Int) ⊕ List Tok := lexF N (l.length + 1) c l
/-- What was told already ahead of the rest. -/
def withL (pre : List Tok) : (Nat × Int) ⊕ List Tok → (Nat × Int) ⊕ List Tok
  | .inl p => .inl p
  | .inr ts => .inr (pre ++ ts)
theorem withL_nil (r : (Nat × Int) ⊕ List Tok) : withL [] r = r := by cases r <;> rfl
theorem lexG_wrong {N c k : Nat} {l : Bs} (h : skipS l = .inr k) : lexG N c l = .inl (N - k, 50) := by
  unfold lexG lexF; rw [h]
theorem lexG_end {N c : Nat} {l : Bs} (h : skipS l = .inl []) : lexG N c l = .inr [] := by
  unfold lexG lexF; rw [h]
theorem lexG_many {N c : Nat} {x : UInt8} {l l1 : Bs} (h : skipS l = .inl (x :: l1)) (hc : c = 2048) : lexG N c l = .inl (N - (x :: l1).length, 53) := by
  unfold lexG lexF; rw [h]; simp only; rw [if_pos hc]
theorem lexG_bad {N c : Nat} {x : UInt8} {l l1 : Bs} {e : Int} (h : skipS l = .inl (x :: l1)) (hc : c ≠ 2048) (ht : tokS (x :: l1) = .bad e) : lexG N c l = .inl (N - (x :: l1).length, e) := by
  unfold lexG lexF; rw [h]; simp only; rw [if_neg hc, ht]
theorem lexG_ok {N c : Nat} {x : UInt8} {l l1 t r : Bs} {k : Int} (h : skipS l = .inl (x :: l1)) (hc : c ≠ 2048) (ht : tokS (x :: l1) = .ok k t r) : lexG N c l = withL [⟨k, t, N - (x :: l1).length, N - r.length⟩] (lexG N (c + 1) r) := by
  have h1 := (skipS_suf h).length_le
  have h2 := (tokS_facts ht).2
  unfold lexG
  conv => lhs; unfold lexF
  rw [h]; simp only; rw [if_neg hc, ht]
  simp only
  rw [lexF_fuel N l.length (r.length + 1) (c + 1) r (by omega) (by omega)]
  cases lexF N (r.length + 1) (c + 1) r <;> rfl
theorem withL_withL (a b : List Tok) (r : (Nat × Int) ⊕ List Tok) : withL a (withL b r) = withL (a ++ b) r := by
  cases r with
  | inl p => rfl
  | inr ts => simp [withL]
/-- A token as a value. -/
abbrev tkV (t : Tok) : Value := tokV t.k t.t t.b t.e
/-- What the iterator comes to. -/
def IterP (J : List Tok → World → Prop) (r : (Nat × Int) ⊕ List Tok) (e : Ending) (W' : World) : Prop := match r with
  | .inr ts => e = .returned (.tuple #[]) ∧ J ts W'
  | .inl p => e = Dies p.1 p.2 ∧ ∃ ts, J ts W'

end Go.Proofs.YtlabcadpkdgjnaaGreatDoor
