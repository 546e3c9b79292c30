/- What is ignored, taken apart: plain mathematics. -/
import Derived.Test.YthficamlgngaaaaGreatDoorLxG3
namespace Go.Proofs.YthficamlgngaaaaGreatDoor
open Go Go.RowKit

/-! ### What is ignored -/
theorem skip_nil : skipS [] = .inl [] := by
  unfold skipS skipF; rfl
theorem skip_one {c : UInt8} (h : ignL.contains c = true) (l : Bs) : skipS (c :: l) = skipS l := by
  have h1 : headIn ignL (c :: l) = true := h
  rw [skipS_ign h1]
  have e : spanR ignL (c :: l) = spanR ignL l := by
    conv => lhs; unfold spanR
    rw [if_pos h]
  rw [e]
  by_cases h2 : headIn ignL l = true
  · exact (skipS_ign h2).symm
  · rw [spanR_stop ignL l (Bool.eq_false_iff.2 h2)]
theorem skip_bom (l : Bs) : skipS (239 :: 187 :: 191 :: l) = skipS l :=
  skipS_mark (l := 239 :: 187 :: 191 :: l) rfl rfl
theorem skip_com {l r : Bs} (h : comS l = some (.inl r)) : skipS l = skipS r := by
  unfold comS at h
  by_cases hp : List.isPrefixOf [35] l = true
  · obtain ⟨m, rfl⟩ : ∃ m, l = 35 :: m := by
      cases l with
      | nil => cases hp
      | cons c m =>
        have e : (35 == c) = true := by simpa [List.isPrefixOf] using hp
        exact ⟨m, by rw [← (beq_iff_eq.1 e)]⟩
    have h' : comS (35 :: m) = some (.inl r) := h
    rw [skipS_com (l := 35 :: m) rfl rfl, h']
  · rw [if_neg hp] at h; cases h
theorem skip_bad {l : Bs} {k : Nat} (h : comS l = some (.inr k)) : skipS l = .inr (l.length - k) := by
  unfold comS at h
  by_cases hp : List.isPrefixOf [35] l = true
  · obtain ⟨m, rfl⟩ : ∃ m, l = 35 :: m := by
      cases l with
      | nil => cases hp
      | cons c m =>
        have e : (35 == c) = true := by simpa [List.isPrefixOf] using hp
        exact ⟨m, by rw [← (beq_iff_eq.1 e)]⟩
    have h' : comS (35 :: m) = some (.inr k) := h
    rw [skipS_com (l := 35 :: m) rfl rfl, h']
  · rw [if_neg hp] at h; cases h
/-- Which way what is ignored goes on. -/
theorem skip_cases (l : Bs) : l = [] ∨ (∃ c r, l = c :: r ∧ ignL.contains c = true) ∨ (∃ r, l = 239 :: 187 :: 191 :: r) ∨ (∃ r, comS l = some (.inl r)) ∨ (∃ k, comS l = some (.inr k)) ∨ (l ≠ [] ∧ skipS l = .inl l) := by
  cases l with
  | nil => exact Or.inl rfl
  | cons c r =>
    right
    by_cases h1 : ignL.contains c = true
    · exact Or.inl ⟨c, r, rfl, h1⟩
    · right
      have h1' : headIn ignL (c :: r) = false := Bool.eq_false_iff.2 h1
      by_cases h2 : List.isPrefixOf [239, 187, 191] (c :: r) = true
      · left
        obtain ⟨t, ht⟩ := List.isPrefixOf_iff_prefix.1 h2
        exact ⟨t, ht.symm⟩
      · right
        have h2' : List.isPrefixOf [239, 187, 191] (c :: r) = false := Bool.eq_false_iff.2 h2
        cases hc : comS (c :: r) with
        | none =>
          right; right
          refine ⟨by simp, ?_⟩
          rw [skipS_com h1' h2', hc]
        | some x =>
          cases x with
          | inl r' => exact Or.inl ⟨r', rfl⟩
          | inr k => exact Or.inr (Or.inl ⟨k, rfl⟩)
/-- Whatever stands behind, this is gone over. -/
def Gap (q : Bs) : Prop := ∀ m, skipS (q ++ m) = skipS m
theorem Gap.nil : Gap [] := fun _ => rfl
theorem Gap.one {c : UInt8} (h : ignL.contains c = true) : Gap [c] := fun m => skip_one h m
theorem Gap.bom : Gap [239, 187, 191] := fun m => skip_bom m
theorem Gap.app {a b : Bs} (ha : Gap a) (hb : Gap b) : Gap (a ++ b) := fun m => by
  rw [List.append_assoc, ha, hb]
theorem spanN_all (S : Bs) : ∀ l : Bs, ∃ p, l = p ++ spanN S l ∧ (∀ c ∈ p, S.contains c = false) ∧ ∀ c m, spanN S l = c :: m → S.contains c = true
  | [] => ⟨[], rfl, fun _ h => (by cases h), fun _ _ h => (by cases h)⟩
  | c :: l => by
    by_cases h : S.contains c = true
    · refine ⟨[], ?_, fun _ h => (by cases h), ?_⟩
      · rw [spanN_stop S c l h]; rfl
      · rw [spanN_stop S c l h]
        intro d m e
        cases e
        exact h
    · have h' := Bool.eq_false_iff.2 h
      obtain ⟨p, h1, h2, h3⟩ := spanN_all S l
      rw [spanN_head S c l h']
      refine ⟨c :: p, ?_, ?_, h3⟩
      · rw [List.cons_append, ← h1]
      · intro d hd
        rcases List.mem_cons.1 hd with rfl | hd
        · exact h'
        · exact h2 d hd
theorem spanN_app (S : Bs) : ∀ (p m : Bs), (∀ c ∈ p, S.contains c = false) → spanN S (p ++ m) = spanN S m
  | [], _, _ => rfl
  | c :: p, m, h => by
    rw [List.cons_append, spanN_head S c _ (h c List.mem_cons_self)]
    exact spanN_app S p m fun d hd => h d (List.mem_cons_of_mem _ hd)
theorem ahead_app (p r : Bs) : ahead (p ++ r) r = p := by
  unfold ahead
  simp
/-- A comment: its body, and what is behind it. -/
theorem com_parts {l : Bs} {x : Bs ⊕ Nat} (h : comS l = some x) : ∃ body r, l = 35 :: (body ++ r) ∧ (∀ c ∈ body, endL.contains c = false) ∧ (∀ c m, r = c :: m → endL.contains c = true) ∧ (match srcB (35 :: body) with | none => x = .inl r | some k => x = .inr k) := by
  unfold comS at h
  by_cases hp : List.isPrefixOf [35] l = true
  · rw [if_pos hp] at h
    obtain ⟨m, rfl⟩ : ∃ m, l = 35 :: m := by
      obtain ⟨t, ht⟩ := List.isPrefixOf_iff_prefix.1 hp
      exact ⟨t, ht.symm⟩
    obtain ⟨p, h1, h2, h3⟩ := spanN_all endL m
    refine ⟨p, spanN endL m, by rw [← h1], h2, h3, ?_⟩
    have e : ahead (35 :: m) (spanN endL m) = 35 :: p := by
      have : 35 :: m = (35 :: p) ++ spanN endL m := by rw [List.cons_append, ← h1]
      conv => lhs; arg 1; rw [this]
      exact ahead_app _ _
    have h' := Option.some.inj h
    simp only [List.drop_succ_cons, List.drop_zero] at h'
    rw [e] at h'
    cases hs : srcB (35 :: p) with
    | none => rw [hs] at h'; exact h'.symm
    | some k => rw [hs] at h'; exact h'.symm
  · rw [if_neg hp] at h; cases h
theorem com_make {body r : Bs} (h1 : ∀ c ∈ body, endL.contains c = false) (h2 : ∀ c m, r = c :: m → endL.contains c = true) (hs : srcB (35 :: body) = none) : comS (35 :: (body ++ r)) = some (.inl r) := by
  have e : spanN endL (body ++ r) = r := by
    rw [spanN_app endL body r h1]
    cases r with
    | nil => rfl
    | cons c m => exact spanN_stop endL c m (h2 c m rfl)
  unfold comS
  rw [if_pos (by rfl)]
  simp only [List.drop_succ_cons, List.drop_zero]
  rw [e, show ahead (35 :: (body ++ r)) r = 35 :: body from ahead_app (35 :: body) r, hs]
theorem end_ign {c : UInt8} (h : endL.contains c = true) : ignL.contains c = true := by
  have : c = 10 ∨ c = 13 := by simpa [endL] using h
  rcases this with rfl | rfl <;> rfl
theorem Gap.com {body : Bs} {c : UInt8} (h1 : ∀ c ∈ body, endL.contains c = false) (hs : srcB (35 :: body) = none) (hc : endL.contains c = true) : Gap (35 :: (body ++ [c])) := fun m => by
  have e : 35 :: (body ++ [c]) ++ m = 35 :: (body ++ c :: m) := by simp
  rw [e, skip_com (com_make h1 (fun d k e => by cases e; exact hc) hs), skip_one (end_ign hc)]
/-- What is ignored, taken apart. -/
def SkipP (l : Bs) : Bs ⊕ Nat → Prop
  | .inl [] => ∀ m, skipS (l ++ 10 :: m) = skipS m
  | .inl (x :: l1) => ∃ q, l = q ++ x :: l1 ∧ Gap q
  | .inr k => ∃ q c j, l = q ++ c ∧ Gap q ∧ comS c = some (.inr j) ∧ k = c.length - j
theorem SkipP.ahead {q l : Bs} (hq : Gap q) {x : Bs ⊕ Nat} (h : SkipP l x) : SkipP (q ++ l) x := by
  match x, h with
  | .inl [], h => exact fun m => by rw [List.append_assoc, hq]; exact h m
  | .inl (x :: l1), ⟨p, e, hg⟩ => exact ⟨q ++ p, by rw [e, List.append_assoc], hq.app hg⟩
  | .inr k, ⟨p, c, j, e, hg, h1, h2⟩ => exact ⟨q ++ p, c, j, by rw [e, List.append_assoc], hq.app hg, h1, h2⟩
theorem skip_dec : ∀ (n : Nat) (l : Bs), l.length ≤ n → SkipP l (skipS l) := by
  intro n
  induction n with
  | zero =>
    intro l hl
    obtain rfl : l = [] := List.length_eq_zero_iff.1 (by omega)
    rw [skip_nil]
    exact fun m => skip_one (c := 10) rfl m
  | succ n ih =>
    intro l hl
    rcases skip_cases l with rfl | ⟨c, r, rfl, hc⟩ | ⟨r, rfl⟩ | ⟨r, hc⟩ | ⟨k, hc⟩ | ⟨hne, hs⟩
    · rw [skip_nil]
      exact fun m => skip_one (c := 10) rfl m
    · rw [skip_one hc]
      exact (ih r (by simp at hl; omega)).ahead (Gap.one hc)
    · rw [skip_bom]
      exact (ih r (by simp at hl; omega)).ahead Gap.bom
    · rw [skip_com hc]
      obtain ⟨body, r', rfl, h1, h2, h3⟩ := com_parts hc
      have hs : srcB (35 :: body) = none := by
        cases hs : srcB (35 :: body) with
        | none => rfl
        | some k => rw [hs] at h3; cases h3
      rw [hs] at h3
      simp only [Sum.inl.injEq] at h3
      subst h3
      cases r with
      | nil =>
        rw [skip_nil]
        intro m
        have e : 35 :: (body ++ []) ++ 10 :: m = 35 :: (body ++ 10 :: m) := by simp
        rw [e, skip_com (com_make h1 (fun d k e => by cases e; rfl) hs), skip_one (c := 10) rfl]
      | cons c m =>
        have hc2 := h2 c m rfl
        rw [skip_one (end_ign hc2)]
        have e : 35 :: (body ++ c :: m) = 35 :: (body ++ [c]) ++ m := by simp
        rw [e]
        exact (ih m (by simp at hl; omega)).ahead (Gap.com h1 hs hc2)
    · rw [skip_bad hc]
      exact ⟨[], l, k, rfl, Gap.nil, hc, rfl⟩
    · rw [hs]
      cases l with
      | nil => exact absurd rfl hne
      | cons x l1 => exact ⟨[], rfl, Gap.nil⟩
theorem skip_parts (l : Bs) : SkipP l (skipS l) := skip_dec l.length l (Nat.le_refl _)
theorem lexG_skip {N c : Nat} {l l' : Bs} (h : skipS l = skipS l') : lexG N c l = lexG N c l' := by
  cases hs : skipS l' with
  | inr k => rw [lexG_wrong (h.trans hs), lexG_wrong hs]
  | inl q =>
    cases q with
    | nil => rw [lexG_end (h.trans hs), lexG_end hs]
    | cons x l1 =>
      by_cases hc : c = 2048
      · rw [lexG_many (h.trans hs) hc, lexG_many hs hc]
      · cases ht : tokS (x :: l1) with
        | bad e => rw [lexG_bad (h.trans hs) hc ht, lexG_bad hs hc ht]
        | ok k t r => rw [lexG_ok (h.trans hs) hc ht, lexG_ok hs hc ht]
end Go.Proofs.YthficamlgngaaaaGreatDoor
