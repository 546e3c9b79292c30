/- Numbers and strings by themselves, and with something behind them: plain mathematics. -/
import Derived.Test.YthficamlgngaaaaGreatDoorMtA
namespace Go.Proofs.YthficamlgngaaaaGreatDoor
open Go Go.RowKit

/-! ### A token by itself, and with something behind it -/
theorem pre_app {p a r : Bs} (h : p.length ≤ a.length) : List.isPrefixOf p (a ++ r) = List.isPrefixOf p a := by
  rw [Bool.eq_iff_iff, List.isPrefixOf_iff_prefix, List.isPrefixOf_iff_prefix]
  constructor
  · intro h1
    exact List.prefix_of_prefix_length_le h1 (List.prefix_append a r) h
  · intro h1
    exact h1.trans (List.prefix_append a r)
theorem pre_not {p a r : Bs} (h : List.isPrefixOf p (a ++ r) = false) : List.isPrefixOf p a = false := by
  rw [Bool.eq_false_iff] at h ⊢
  intro h1
  exact h (List.isPrefixOf_iff_prefix.2 ((List.isPrefixOf_iff_prefix.1 h1).trans (List.prefix_append a r)))
theorem head_app {S a r : Bs} (h : a ≠ []) : headIn S (a ++ r) = headIn S a := by
  cases a with
  | nil => exact absurd rfl h
  | cons c a => rfl
theorem head_app0 {S a r : Bs} (h : headIn S r = false) : headIn S (a ++ r) = headIn S a := by
  cases a with
  | nil => exact h
  | cons c a => rfl
theorem head_sub {S T r : Bs} (hST : ∀ c, S.contains c = true → T.contains c = true) (h : headIn T r = false) : headIn S r = false := by
  cases r with
  | nil => rfl
  | cons c r =>
    have h' : T.contains c = false := h
    show S.contains c = false
    rw [Bool.eq_false_iff]
    intro e
    rw [hST c e] at h'
    cases h'
theorem spanR_app {S : Bs} : ∀ (a r : Bs), headIn S r = false → spanR S (a ++ r) = spanR S a ++ r
  | [], r, h => spanR_stop S r h
  | c :: a, r, h => by
    show spanR S (c :: (a ++ r)) = _
    unfold spanR
    split
    · exact spanR_app a r h
    · rfl
theorem drop_app1 {a r : Bs} (n : Nat) (h : n ≤ a.length) : (a ++ r).drop n = a.drop n ++ r := by
  rw [List.drop_append_of_le_length h]
theorem pre_len1 {c : UInt8} {a : Bs} (h : List.isPrefixOf [c] a = true) : a ≠ [] := by
  intro e
  subst e
  cases h
theorem pre_head {c : UInt8} {a r : Bs} (h : headIn [c] r = false) : List.isPrefixOf [c] (a ++ r) = List.isPrefixOf [c] a := by
  cases a with
  | cons d a => exact pre_app (by simp)
  | nil =>
    cases r with
    | nil => rfl
    | cons d r =>
      have h' : [c].contains d = false := h
      simp only [List.nil_append, List.isPrefixOf, Bool.and_true]
      rw [beq_eq_false_iff_ne]
      rintro rfl
      simp at h'
/-! numbers -/
abbrev numX : Bs := digL ++ 46 :: letL
theorem needD_app {a r : Bs} (h : headIn digL r = false) : needD (a ++ r) = (needD a).map (· ++ r) := by
  unfold needD
  rw [head_app0 h]
  split
  · rw [spanR_app a r h]; rfl
  · rfl
theorem numX_dig {r : Bs} (h : headIn numX r = false) : headIn digL r = false := head_sub (fun c hc => by
  rw [List.contains_iff_mem] at hc ⊢
  exact List.mem_append_left _ hc) h
theorem numX_let {r : Bs} (h : headIn numX r = false) : headIn letL r = false := head_sub (fun c hc => by
  rw [List.contains_iff_mem] at hc ⊢
  exact List.mem_append_right _ (List.mem_cons_of_mem _ hc)) h
theorem numX_of {x : UInt8} (hx : numX.contains x = true) {r : Bs} (h : headIn numX r = false) : headIn [x] r = false := head_sub (fun c hc => by
  have : c = x := by simpa using hc
  rw [this]; exact hx) h
theorem numA_app {a r : Bs} (h : headIn numX r = false) : numA (a ++ r) = (numA a).map (· ++ r) := by
  unfold numA
  rw [pre_head (numX_of (x := 48) rfl h)]
  split
  · rename_i hp
    have := prefix_le hp
    rw [drop_app1 1 (by simpa using this)]
    rfl
  · exact needD_app (numX_dig h)
theorem numB_app {a r : Bs} (h : headIn numX r = false) : numB (a ++ r) = (numB a).map fun p => (p.1, p.2 ++ r) := by
  unfold numB
  rw [pre_head (numX_of (x := 46) rfl h)]
  split
  · rename_i hp
    have := prefix_le hp
    rw [drop_app1 1 (by simpa using this), needD_app (numX_dig h)]
    cases needD (a.drop 1) <;> rfl
  · rfl
theorem eE_let {r : Bs} (h : headIn numX r = false) : headIn [101, 69] r = false := head_sub (fun c hc => by
  have : c = 101 ∨ c = 69 := by simpa using hc
  rcases this with rfl | rfl <;> rfl) h
theorem optO_app {S a r : Bs} (h : a ≠ []) : optO S (a ++ r) = optO S a ++ r := by
  unfold optO
  rw [head_app h]
  split
  · rw [drop_app1 1 (by cases a with
      | nil => exact absurd rfl h
      | cons c a => simp)]
  · rfl
theorem needD_nil : needD [] = none := rfl
theorem numC_ext {k : Int} {a b r : Bs} {k' : Int} (h : headIn numX r = false) (hn : numC k a = some (k', b)) : numC k (a ++ r) = some (k', b ++ r) := by
  unfold numC at hn ⊢
  rw [head_app0 (eE_let h)]
  split at hn
  · rename_i hh
    rw [if_pos hh]
    have ha : a ≠ [] := by rintro rfl; cases hh
    have hl : 1 ≤ a.length := by cases a with
      | nil => exact absurd rfl ha
      | cons c a => simp
    rw [drop_app1 1 hl]
    have hd : a.drop 1 ≠ [] := by
      intro e
      rw [e] at hn
      cases hn
    rw [optO_app hd, needD_app (numX_dig h)]
    cases hx : needD (optO [43, 45] (a.drop 1)) with
    | none => rw [hx] at hn; cases hn
    | some y =>
      rw [hx] at hn
      simp only [Option.map_some, Option.some.injEq, Prod.mk.injEq] at hn ⊢
      exact ⟨hn.1, by rw [hn.2]⟩
  · rename_i hh
    rw [if_neg hh]
    simp only [Option.some.injEq, Prod.mk.injEq] at hn ⊢
    exact ⟨hn.1, by rw [hn.2]⟩
theorem numC_cut {k : Int} {a b r : Bs} {k' : Int} (h : headIn numX r = false) (hn : numC k (a ++ r) = some (k', b ++ r)) : numC k a = some (k', b) := by
  unfold numC at hn ⊢
  rw [head_app0 (eE_let h)] at hn
  split at hn
  · rename_i hh
    rw [if_pos hh]
    have ha : a ≠ [] := by rintro rfl; cases hh
    have hl : 1 ≤ a.length := by cases a with
      | nil => exact absurd rfl ha
      | cons c a => simp
    rw [drop_app1 1 hl] at hn
    have hd : a.drop 1 ≠ [] := by
      intro e
      rw [e, List.nil_append] at hn
      cases hx : needD (optO [43, 45] r) with
      | none => rw [hx] at hn; cases hn
      | some y =>
        rw [hx] at hn
        simp only [Option.map_some, Option.some.injEq, Prod.mk.injEq] at hn
        have h1 := (needD_facts hx).2
        have h2 := (optO_suf [43, 45] r).length_le
        have h3 := congrArg List.length hn.2
        rw [List.length_append] at h3
        omega
    rw [optO_app hd, needD_app (numX_dig h)] at hn
    cases hx : needD (optO [43, 45] (a.drop 1)) with
    | none => rw [hx] at hn; cases hn
    | some y =>
      rw [hx] at hn
      simp only [Option.map_some, Option.some.injEq, Prod.mk.injEq] at hn ⊢
      exact ⟨hn.1, List.append_cancel_right hn.2⟩
  · rename_i hh
    rw [if_neg hh]
    simp only [Option.some.injEq, Prod.mk.injEq] at hn ⊢
    exact ⟨hn.1, List.append_cancel_right hn.2⟩
theorem optT_app {q a r : Bs} (h : q.length ≤ a.length) : optT q (a ++ r) = optT q a ++ r := by
  unfold optT
  rw [pre_app h]
  split
  · rw [drop_app1 _ h]
  · rfl
theorem numS_cut {a r : Bs} {k : Int} (ha : a ≠ []) (hn : numS (a ++ r) = some (k, r)) : numS a = some (k, []) ∧ headIn numX r = false := by
  have hl : 1 ≤ a.length := by cases a with
    | nil => exact absurd rfl ha
    | cons c a => simp
  unfold numS at hn ⊢
  rw [optT_app (by simpa using hl)] at hn
  -- what is behind a number
  have hr : headIn numX r = false := by
    cases h1 : numA (optT [45] a ++ r) with
    | none => rw [h1] at hn; cases hn
    | some l1 =>
      rw [h1, Option.bind_some] at hn
      cases h2 : numB l1 with
      | none => rw [h2] at hn; cases hn
      | some q =>
        rw [h2, Option.bind_some] at hn
        cases h3 : numC q.1 q.2 with
        | none => rw [h3] at hn; cases hn
        | some u =>
          rw [h3, Option.bind_some] at hn
          unfold numD at hn
          split at hn
          · cases hn
          · rename_i hh
            simp only [Option.some.injEq, Prod.mk.injEq] at hn
            rw [hn.2] at hh
            exact Bool.eq_false_iff.2 hh
  refine ⟨?_, hr⟩
  rw [numA_app hr] at hn
  cases h1 : numA (optT [45] a) with
  | none => rw [h1] at hn; cases hn
  | some l1 =>
    rw [h1, Option.map_some, Option.bind_some, numB_app hr] at hn
    rw [Option.bind_some]
    cases h2 : numB l1 with
    | none => rw [h2] at hn; cases hn
    | some q =>
      rw [h2, Option.map_some, Option.bind_some] at hn
      rw [Option.bind_some]
      cases h3 : numC q.1 (q.2 ++ r) with
      | none => rw [h3] at hn; cases hn
      | some u =>
        rw [h3, Option.bind_some] at hn
        obtain ⟨u1, u2⟩ := u
        unfold numD at hn
        split at hn
        · cases hn
        · simp only [Option.some.injEq, Prod.mk.injEq] at hn
          obtain ⟨e1, e2⟩ := hn
          have h3' : numC q.1 (q.2 ++ r) = some (u1, [] ++ r) := by rw [h3, e2]; rfl
          rw [numC_cut hr h3', Option.bind_some]
          show numD u1 [] = _
          rw [← e1]
          rfl
theorem numS_ext {a r : Bs} {k : Int} (hn : numS a = some (k, [])) (hr : headIn numX r = false) : numS (a ++ r) = some (k, r) := by
  have hl : 1 ≤ a.length := by
    have := (numS_facts hn).2
    simp at this
    omega
  unfold numS at hn ⊢
  rw [optT_app (by simpa using hl), numA_app hr]
  cases h1 : numA (optT [45] a) with
  | none => rw [h1] at hn; cases hn
  | some l1 =>
    rw [h1, Option.bind_some] at hn
    rw [Option.map_some, Option.bind_some, numB_app hr]
    cases h2 : numB l1 with
    | none => rw [h2] at hn; cases hn
    | some q =>
      rw [h2, Option.bind_some] at hn
      rw [Option.map_some, Option.bind_some]
      cases h3 : numC q.1 q.2 with
      | none => rw [h3] at hn; cases hn
      | some u =>
        rw [h3, Option.bind_some] at hn
        obtain ⟨u1, u2⟩ := u
        rw [numC_ext hr h3, Option.bind_some]
        unfold numD at hn
        split at hn
        · cases hn
        · simp only [Option.some.injEq, Prod.mk.injEq] at hn
          rw [hn.2, hn.1]
          unfold numD
          rw [if_neg (by rw [List.nil_append, hr]; decide)]
          rfl
/-! strings -/
theorem rawF_lt : ∀ (n : Nat) (l t r : Bs), rawF n l = some (t, r) → r.length + 3 ≤ l.length := by
  intro n
  induction n with
  | zero => intro l t r h; cases h
  | succ n ih =>
    intro l t r h
    unfold rawF at h
    split at h
    · rename_i hp
      have := prefix_le hp
      simp only [Option.some.injEq, Prod.mk.injEq] at h
      rw [← h.2, List.length_drop]
      simp at this
      omega
    · split at h
      · rename_i hp
        have := prefix_le hp
        cases hx : rawF n (l.drop 4) with
        | none => rw [hx] at h; cases h
        | some q =>
          rw [hx] at h
          simp only [Option.map_some, Option.some.injEq, Prod.mk.injEq] at h
          have := ih _ q.1 q.2 hx
          rw [List.length_drop] at this
          rw [← h.2]
          omega
      · split at h
        · cases h
        · rename_i c m _ _
          cases hx : rawF n m with
          | none => rw [hx] at h; cases h
          | some q =>
            rw [hx] at h
            simp only [Option.map_some, Option.some.injEq, Prod.mk.injEq] at h
            have := ih _ q.1 q.2 hx
            rw [← h.2]
            simp
            omega
theorem rawF_cut : ∀ (n : Nat) (a r t : Bs), rawF n (a ++ r) = some (t, r) → rawF n a = some (t, []) := by
  intro n
  induction n with
  | zero => intro a r t h; cases h
  | succ n ih =>
    intro a r t h
    have hlen := rawF_lt _ _ _ _ h
    rw [List.length_append] at hlen
    have h0 := h
    unfold rawF at h ⊢
    rw [pre_app (by simp; omega)] at h
    by_cases hp : List.isPrefixOf [34, 34, 34] a = true
    · rw [if_pos hp] at h ⊢
      rw [drop_app1 3 (by omega)] at h
      simp only [Option.some.injEq, Prod.mk.injEq] at h ⊢
      refine ⟨h.1, ?_⟩
      have := h.2
      exact List.append_left_eq_self.1 this
    · rw [if_neg hp] at h ⊢
      by_cases hp4 : List.isPrefixOf [92, 34, 34, 34] (a ++ r) = true
      · rw [if_pos hp4] at h
        cases hx : rawF n ((a ++ r).drop 4) with
        | none => rw [hx] at h; cases h
        | some q =>
          rw [hx] at h
          simp only [Option.map_some, Option.some.injEq, Prod.mk.injEq] at h
          have h4 := rawF_lt _ _ _ _ hx
          rw [h.2, List.length_drop, List.length_append] at h4
          rw [pre_app (by simp; omega)] at hp4
          rw [if_pos hp4]
          rw [drop_app1 4 (by omega)] at hx
          have hq : q = (q.1, r) := by rw [← h.2]
          rw [hq] at hx
          rw [ih _ _ _ hx]
          simp only [Option.map_some, Option.some.injEq, Prod.mk.injEq, and_true]
          exact h.1
      · rw [if_neg hp4] at h
        have hp4' := pre_not (Bool.eq_false_iff.2 hp4)
        rw [if_neg (by rw [hp4']; decide)]
        cases a with
        | nil => exact absurd hlen (by simp only [List.length_nil]; omega)
        | cons c a =>
          simp only [List.cons_append] at h ⊢
          cases hx : rawF n (a ++ r) with
          | none => rw [hx] at h; cases h
          | some q =>
            rw [hx] at h
            simp only [Option.map_some, Option.some.injEq, Prod.mk.injEq] at h
            have hq : q = (q.1, r) := by rw [← h.2]
            rw [hq] at hx
            rw [ih _ _ _ hx]
            simp only [Option.map_some, Option.some.injEq, Prod.mk.injEq, and_true]
            exact h.1
theorem rawF_ext : ∀ (n : Nat) (a r t : Bs), rawF n a = some (t, []) → rawF n (a ++ r) = some (t, r) := by
  intro n
  induction n with
  | zero => intro a r t h; cases h
  | succ n ih =>
    intro a r t h
    have hlen := rawF_lt _ _ _ _ h
    unfold rawF at h ⊢
    rw [pre_app (by simp at hlen ⊢; omega)]
    by_cases hp : List.isPrefixOf [34, 34, 34] a = true
    · rw [if_pos hp] at h ⊢
      rw [drop_app1 3 (by simp at hlen; omega)]
      simp only [Option.some.injEq, Prod.mk.injEq] at h ⊢
      refine ⟨h.1, ?_⟩
      rw [h.2]; rfl
    · rw [if_neg hp] at h ⊢
      by_cases hp4 : List.isPrefixOf [92, 34, 34, 34] a = true
      · rw [if_pos hp4] at h
        have h4 := prefix_le hp4
        rw [pre_app h4, if_pos hp4]
        rw [drop_app1 4 (by simpa using h4)]
        cases hx : rawF n (a.drop 4) with
        | none => rw [hx] at h; cases h
        | some q =>
          rw [hx] at h
          simp only [Option.map_some, Option.some.injEq, Prod.mk.injEq] at h
          have hq : q = (q.1, []) := by rw [← h.2]
          rw [hq] at hx
          rw [ih _ r _ hx]
          simp only [Option.map_some, Option.some.injEq, Prod.mk.injEq, and_true]
          exact h.1
      · rw [if_neg hp4] at h
        cases a with
        | nil => exact absurd hlen (by simp only [List.length_nil]; omega)
        | cons c a =>
          simp only at h
          cases hx : rawF n a with
          | none => rw [hx] at h; cases h
          | some q =>
            have h5 := rawF_lt _ _ _ _ hx
            rw [pre_app (by simp; omega), if_neg hp4]
            simp only [List.cons_append]
            rw [hx] at h
            simp only [Option.map_some, Option.some.injEq, Prod.mk.injEq] at h
            have hq : q = (q.1, []) := by rw [← h.2]
            rw [hq] at hx
            rw [ih _ r _ hx]
            simp only [Option.map_some, Option.some.injEq, Prod.mk.injEq, and_true]
            exact h.1
def hexQ (a b c d : UInt8) : Option Nat := (hexV a).bind fun x => (hexV b).bind fun y => (hexV c).bind fun z => (hexV d).bind fun t => some (x * 4096 + y * 256 + z * 16 + t)
theorem nmbS_four (a b c d : UInt8) (m : Bs) : nmbS (a :: b :: c :: d :: m) = (hexQ a b c d).map fun V => (unitS V, m) := by
  show ((hexV a).bind fun x => (hexV b).bind fun y => (hexV c).bind fun z => (hexV d).bind fun t => some (unitS (x * 4096 + y * 256 + z * 16 + t), m)) = _
  unfold hexQ
  cases hexV a with
  | none => rfl
  | some x =>
    cases hexV b with
    | none => rfl
    | some y =>
      cases hexV c with
      | none => rfl
      | some z => cases hexV d <;> rfl
theorem nmbS_ext {a b x : Bs} (r : Bs) (h : nmbS a = some (x, b)) : nmbS (a ++ r) = some (x, b ++ r) := by
  match a, h with
  | c0 :: c1 :: c2 :: c3 :: m, h =>
    simp only [List.cons_append]
    rw [nmbS_four] at h ⊢
    cases hq : hexQ c0 c1 c2 c3 with
    | none => rw [hq] at h; cases h
    | some V =>
      rw [hq] at h
      simp only [Option.map_some, Option.some.injEq, Prod.mk.injEq] at h ⊢
      exact ⟨h.1, by rw [h.2]⟩
theorem nmbS_cut {a b x r : Bs} (h : nmbS (a ++ r) = some (x, b ++ r)) : nmbS a = some (x, b) := by
  have hlen : 4 ≤ a.length := by
    match hl : a ++ r, h with
    | c0 :: c1 :: c2 :: c3 :: m, h =>
      rw [nmbS_four] at h
      cases hq : hexQ c0 c1 c2 c3 with
      | none => rw [hq] at h; cases h
      | some V =>
        rw [hq] at h
        simp only [Option.map_some, Option.some.injEq, Prod.mk.injEq] at h
        have e := congrArg List.length hl
        rw [h.2] at e
        simp only [List.length_append, List.length_cons] at e
        omega
  match a, hlen, h with
  | c0 :: c1 :: c2 :: c3 :: m, _, h =>
    simp only [List.cons_append] at h
    rw [nmbS_four] at h ⊢
    cases hq : hexQ c0 c1 c2 c3 with
    | none => rw [hq] at h; cases h
    | some V =>
      rw [hq] at h
      simp only [Option.map_some, Option.some.injEq, Prod.mk.injEq] at h ⊢
      exact ⟨h.1, List.append_cancel_right h.2⟩
theorem escS_ext {a b x : Bs} (r : Bs) (h : escS a = some (x, b)) : escS (a ++ r) = some (x, b ++ r) := by
  cases a with
  | nil => cases h
  | cons c m =>
    unfold escS at h ⊢
    rw [pre_app (by simp)]
    split at h
    · rename_i hp
      rw [if_pos hp]
      exact nmbS_ext r h
    · rename_i hp
      rw [if_neg hp]
      simp only [List.cons_append] at h ⊢
      split at h
      · rename_i hc
        rw [if_pos hc]
        simp only [Option.some.injEq, Prod.mk.injEq] at h ⊢
        exact ⟨h.1, by rw [h.2]⟩
      · cases h
theorem escS_cut {a b x r : Bs} (h : escS (a ++ r) = some (x, b ++ r)) : escS a = some (x, b) := by
  have hlen := (escS_facts h).2.1
  rw [List.length_append, List.length_append] at hlen
  cases a with
  | nil => exact absurd hlen (by simp only [List.length_nil]; omega)
  | cons c m =>
    unfold escS at h ⊢
    rw [pre_app (by simp)] at h
    split at h
    · rename_i hp
      rw [if_pos hp]
      exact nmbS_cut h
    · rename_i hp
      rw [if_neg hp]
      simp only [List.cons_append] at h ⊢
      split at h
      · rename_i hc
        rw [if_pos hc]
        simp only [Option.some.injEq, Prod.mk.injEq] at h ⊢
        exact ⟨h.1, List.append_cancel_right h.2⟩
      · cases h
theorem lineF_lt : ∀ (n : Nat) (l t r : Bs), lineF n l = some (t, r) → r.length < l.length := by
  intro n
  induction n with
  | zero => intro l t r h; cases h
  | succ n ih =>
    intro l t r h
    unfold lineF at h
    split at h
    · rename_i hp
      have := prefix_le hp
      simp only [Option.some.injEq, Prod.mk.injEq] at h
      rw [← h.2, List.length_drop]
      simp at this
      omega
    · split at h
      · rename_i hp
        have := prefix_le hp
        cases hy : escS (l.drop 1) with
        | none => rw [hy] at h; cases h
        | some p =>
          rw [hy, Option.bind_some] at h
          cases hx : lineF n p.2 with
          | none => rw [hx] at h; cases h
          | some q =>
            rw [hx] at h
            simp only [Option.map_some, Option.some.injEq, Prod.mk.injEq] at h
            have h1 := ih _ q.1 q.2 hx
            have h2 := (escS_facts (t := p.1) (r := p.2) hy).2.1
            rw [List.length_drop] at h2
            rw [← h.2]
            omega
      · split at h
        · cases h
        · rename_i c m _ _
          split at h
          · cases h
          · cases hx : lineF n m with
            | none => rw [hx] at h; cases h
            | some q =>
              rw [hx] at h
              simp only [Option.map_some, Option.some.injEq, Prod.mk.injEq] at h
              have := ih _ q.1 q.2 hx
              rw [← h.2]
              simp
              omega
theorem lineF_cut : ∀ (n : Nat) (a r t : Bs), lineF n (a ++ r) = some (t, r) → lineF n a = some (t, []) := by
  intro n
  induction n with
  | zero => intro a r t h; cases h
  | succ n ih =>
    intro a r t h
    have hlen := lineF_lt _ _ _ _ h
    rw [List.length_append] at hlen
    unfold lineF at h ⊢
    rw [pre_app (by simp; omega), pre_app (by simp; omega)] at h
    by_cases hp : List.isPrefixOf [34] a = true
    · rw [if_pos hp] at h ⊢
      rw [drop_app1 1 (by omega)] at h
      simp only [Option.some.injEq, Prod.mk.injEq] at h ⊢
      exact ⟨h.1, List.append_left_eq_self.1 h.2⟩
    · rw [if_neg hp] at h ⊢
      by_cases hp4 : List.isPrefixOf [92] a = true
      · rw [if_pos hp4] at h ⊢
        rw [drop_app1 1 (by omega)] at h
        cases hy : escS (a.drop 1 ++ r) with
        | none => rw [hy] at h; cases h
        | some p =>
          rw [hy, Option.bind_some] at h
          cases hx : lineF n p.2 with
          | none => rw [hx] at h; cases h
          | some q =>
            rw [hx] at h
            simp only [Option.map_some, Option.some.injEq, Prod.mk.injEq] at h
            have hq : q = (q.1, r) := by rw [← h.2]
            rw [hq] at hx
            obtain ⟨b, hb⟩ := lineF_suf _ _ _ _ hx
            have hy' : escS (a.drop 1 ++ r) = some (p.1, b ++ r) := by rw [hy, hb]
            rw [escS_cut hy', Option.bind_some]
            rw [← hb] at hx
            rw [ih _ _ _ hx]
            simp only [Option.map_some, Option.some.injEq, Prod.mk.injEq, and_true]
            exact h.1
      · rw [if_neg hp4] at h ⊢
        cases a with
        | nil => exact absurd hlen (by simp only [List.length_nil]; omega)
        | cons c a =>
          simp only [List.cons_append] at h ⊢
          split at h
          · cases h
          · rename_i hc
            rw [if_neg hc]
            cases hx : lineF n (a ++ r) with
            | none => rw [hx] at h; cases h
            | some q =>
              rw [hx] at h
              simp only [Option.map_some, Option.some.injEq, Prod.mk.injEq] at h
              have hq : q = (q.1, r) := by rw [← h.2]
              rw [hq] at hx
              rw [ih _ _ _ hx]
              simp only [Option.map_some, Option.some.injEq, Prod.mk.injEq, and_true]
              exact h.1
theorem lineF_ext : ∀ (n : Nat) (a r t : Bs), lineF n a = some (t, []) → lineF n (a ++ r) = some (t, r) := by
  intro n
  induction n with
  | zero => intro a r t h; cases h
  | succ n ih =>
    intro a r t h
    have hlen := lineF_lt _ _ _ _ h
    simp only [List.length_nil] at hlen
    unfold lineF at h ⊢
    rw [pre_app (by simp; omega), pre_app (by simp; omega)]
    by_cases hp : List.isPrefixOf [34] a = true
    · rw [if_pos hp] at h ⊢
      rw [drop_app1 1 (by omega)]
      simp only [Option.some.injEq, Prod.mk.injEq] at h ⊢
      exact ⟨h.1, by rw [h.2]; rfl⟩
    · rw [if_neg hp] at h ⊢
      by_cases hp4 : List.isPrefixOf [92] a = true
      · rw [if_pos hp4] at h ⊢
        rw [drop_app1 1 (by omega)]
        cases hy : escS (a.drop 1) with
        | none => rw [hy] at h; cases h
        | some p =>
          rw [hy, Option.bind_some] at h
          cases hx : lineF n p.2 with
          | none => rw [hx] at h; cases h
          | some q =>
            rw [hx] at h
            simp only [Option.map_some, Option.some.injEq, Prod.mk.injEq] at h
            have hq : q = (q.1, []) := by rw [← h.2]
            rw [hq] at hx
            rw [escS_ext (x := p.1) (b := p.2) r hy, Option.bind_some, ih _ r _ hx]
            simp only [Option.map_some, Option.some.injEq, Prod.mk.injEq, and_true]
            exact h.1
      · rw [if_neg hp4] at h ⊢
        cases a with
        | nil => exact absurd hlen (by simp only [List.length_nil]; omega)
        | cons c a =>
          simp only [List.cons_append] at h ⊢
          split at h
          · cases h
          · rename_i hc
            rw [if_neg hc]
            cases hx : lineF n a with
            | none => rw [hx] at h; cases h
            | some q =>
              rw [hx] at h
              simp only [Option.map_some, Option.some.injEq, Prod.mk.injEq] at h
              have hq : q = (q.1, []) := by rw [← h.2]
              rw [hq] at hx
              rw [ih _ r _ hx]
              simp only [Option.map_some, Option.some.injEq, Prod.mk.injEq, and_true]
              exact h.1
end Go.Proofs.YthficamlgngaaaaGreatDoor
