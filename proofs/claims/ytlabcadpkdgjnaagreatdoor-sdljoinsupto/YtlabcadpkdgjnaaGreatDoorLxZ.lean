/- A token, all ways together. -/
import Derived.Test.YtlabcadpkdgjnaaGreatDoorLxY
namespace Go.Proofs.YtlabcadpkdgjnaaGreatDoor
open Go Go.RowKit

theorem needD_facts {l r : Bs} (h : needD l = some r) : r <:+ l ∧ r.length < l.length := by
  unfold needD at h
  by_cases hh : headIn digL l = true
  · rw [if_pos hh] at h
    cases h
    exact ⟨spanR_suf _ _, spanR_lt _ _ hh⟩
  · rw [if_neg hh] at h; cases h
theorem numA_facts {l r : Bs} (h : numA l = some r) : r <:+ l ∧ r.length < l.length := by
  unfold numA at h
  by_cases hh : List.isPrefixOf [48] l = true
  · rw [if_pos hh] at h
    cases h
    have := prefix_le hh
    simp only [List.length_cons, List.length_nil] at this
    exact ⟨drop_suf 1 l, by rw [List.length_drop]; omega⟩
  · rw [if_neg hh] at h
    exact needD_facts h
theorem numB_facts {l : Bs} {p : Int × Bs} (h : numB l = some p) : p.2 <:+ l := by
  unfold numB at h
  by_cases hh : List.isPrefixOf [46] l = true
  · rw [if_pos hh] at h
    cases hd : needD (l.drop 1) with
    | none => rw [hd] at h; cases h
    | some r => rw [hd] at h; cases h; exact (needD_facts hd).1.trans (drop_suf 1 l)
  · rw [if_neg hh] at h
    cases h
    exact List.suffix_refl _
theorem numC_facts {k : Int} {l : Bs} {p : Int × Bs} (h : numC k l = some p) : p.2 <:+ l := by
  unfold numC at h
  by_cases hh : headIn [101, 69] l = true
  · rw [if_pos hh] at h
    cases hd : needD (optO [43, 45] (l.drop 1)) with
    | none => rw [hd] at h; cases h
    | some r => rw [hd] at h; cases h; exact (needD_facts hd).1.trans ((optO_suf _ _).trans (drop_suf 1 l))
  · rw [if_neg hh] at h
    cases h
    exact List.suffix_refl _
theorem numS_facts {l : Bs} {p : Int × Bs} (h : numS l = some p) : p.2 <:+ l ∧ p.2.length < l.length := by
  unfold numS at h
  cases h1 : numA (optT [45] l) with
  | none => rw [h1] at h; cases h
  | some l1 =>
    rw [h1, Option.bind_some] at h
    cases h2 : numB l1 with
    | none => rw [h2] at h; cases h
    | some q =>
      rw [h2, Option.bind_some] at h
      cases h3 : numC q.1 q.2 with
      | none => rw [h3] at h; cases h
      | some u =>
        rw [h3, Option.bind_some] at h
        unfold numD at h
        by_cases hh : headIn (digL ++ 46 :: letL) u.2 = true
        · rw [if_pos hh] at h; cases h
        · rw [if_neg hh] at h
          have h' : u = p := by injection h
          subst h'
          have e1 := numA_facts h1
          have e2 := numB_facts h2
          have e3 := numC_facts h3
          have e0 := optT_suf [45] l
          refine ⟨e3.trans (e2.trans (e1.1.trans e0)), ?_⟩
          have a3 := e3.length_le
          have a2 := e2.length_le
          have a0 := e0.length_le
          have a1 := e1.2
          omega
theorem textS_facts {l : Bs} {p : Bs × Bs} (h : textS l = some p) (hq : headIn [34] l = true) : p.2 <:+ l ∧ p.2.length < l.length := by
  have hl : 0 < l.length := by
    cases l with
    | nil => cases hq
    | cons c l => simp
  unfold textS textR at h
  by_cases hb : List.isPrefixOf [34, 34, 34] l = true
  · rw [if_pos hb] at h
    have hp := prefix_le hb
    simp only [List.length_cons, List.length_nil] at hp
    cases hr : rawF (l.length + 1) (l.drop 3) with
    | none => rw [hr] at h; cases h
    | some q =>
      rw [hr, Option.map_some, Option.bind_some] at h
      by_cases hs : (srcB (ahead l q.2)).isSome = true
      · rw [if_pos hs] at h; cases h
      · rw [if_neg hs] at h
        have h' : (blockS q.1, q.2) = p := by injection h
        subst h'
        have h1 := (rawF_facts _ _ q.1 q.2 hr).1
        have h2 := h1.length_le
        rw [List.length_drop] at h2
        refine ⟨h1.trans (drop_suf 3 l), ?_⟩
        show q.2.length < l.length
        omega
  · rw [if_neg hb] at h
    cases hr : lineF (l.length + 1) (l.drop 1) with
    | none => rw [hr] at h; cases h
    | some q =>
      rw [hr, Option.bind_some] at h
      by_cases hs : (srcB (ahead l q.2)).isSome = true
      · rw [if_pos hs] at h; cases h
      · rw [if_neg hs] at h
        have h' : q = p := by injection h
        subst h'
        have h1 := lineF_suf _ _ q.1 q.2 hr
        have h2 := h1.length_le
        rw [List.length_drop] at h2
        exact ⟨h1.trans (drop_suf 1 l), by omega⟩
theorem head_lt {S l : Bs} (h : headIn S l = true) : 0 < l.length := by
  cases l with
  | nil => cases h
  | cons c l => simp
theorem tokS_facts {l t r : Bs} {k : Int} (h : tokS l = .ok k t r) : r <:+ l ∧ r.length < l.length := by
  unfold tokS at h
  by_cases h1 : headIn punL l = true
  · rw [if_pos h1] at h
    cases h
    have := head_lt h1
    exact ⟨drop_suf 1 l, by rw [List.length_drop]; omega⟩
  · rw [if_neg h1] at h
    by_cases h2 : List.isPrefixOf [46, 46, 46] l = true
    · rw [if_pos h2] at h
      cases h
      have := prefix_le h2
      simp only [List.length_cons, List.length_nil] at this
      exact ⟨drop_suf 3 l, by rw [List.length_drop]; omega⟩
    · rw [if_neg h2] at h
      by_cases h3 : headIn letL l = true
      · rw [if_pos h3] at h
        cases h
        have := head_lt h3
        have h4 := (spanR_suf (letL ++ digL) (l.drop 1))
        exact ⟨h4.trans (drop_suf 1 l), by have := h4.length_le; rw [List.length_drop] at this; omega⟩
      · rw [if_neg h3] at h
        by_cases h4 : headIn (45 :: digL) l = true
        · rw [if_pos h4] at h
          cases hn : numS l with
          | none => rw [hn] at h; cases h
          | some p => rw [hn] at h; cases h; exact numS_facts hn
        · rw [if_neg h4] at h
          by_cases h5 : headIn [34] l = true
          · rw [if_pos h5] at h
            cases hn : textS l with
            | none => rw [hn] at h; cases h
            | some p => rw [hn] at h; cases h; exact textS_facts hn h5
          · rw [if_neg h5] at h; cases h
section
variable {R : Nat} {s : Bs}

theorem tok_any (l : Bs) (w : World) (h : Rd w R s (s.length - l.length) l) : Calls Tryz.prog 50 #[.pointer (some ⟨R, 0, none⟩)] w (TokP R s l w (tokS l)) := by
  have hsuf := h.suf
  unfold tokS
  by_cases h1 : headIn punL l = true
  · rw [if_pos h1]
    exact tokw_pun _ _ l (l.drop 1) _ (one_yes _ _ h1) (fun w h => written_is 0 l (l.drop 1) (drop_suf 1 l) w h hsuf) w h
  · rw [if_neg h1]
    have O1 := one_no (R := R) (s := s) (b := s.length - l.length) punL l (Bool.eq_false_iff.2 h1)
    by_cases h2 : List.isPrefixOf [46, 46, 46] l = true
    · rw [if_pos h2]
      exact tokw_dot _ _ l (l.drop 3) _ O1 (take_yes _ _ h2) (fun w h => written_is 0 l (l.drop 3) (drop_suf 3 l) w h hsuf) w h
    · rw [if_neg h2]
      have T2 := take_no (R := R) (s := s) (b := s.length - l.length) [46, 46, 46] l (Bool.eq_false_iff.2 h2)
      by_cases h3 : headIn letL l = true
      · rw [if_pos h3]
        exact tokw_let _ _ l _ _ (l.drop 1) (headIn (letL ++ digL) (l.drop 1)) O1 T2 (one_yes _ _ h3) (fun w h => row_any _ _ w h) (fun w h => written_is 1 l _ ((spanR_suf _ _).trans (drop_suf 1 l)) w h hsuf) w h
      · rw [if_neg h3]
        have O3 := one_no (R := R) (s := s) (b := s.length - l.length) letL l (Bool.eq_false_iff.2 h3)
        by_cases h4 : headIn (45 :: digL) l = true
        · rw [if_pos h4]
          have S4 := sees_is (R := R) (s := s) (b := s.length - l.length) (45 :: digL) l true h4
          have N := fun w h => number_any (R := R) (s := s) (b := s.length - l.length) l w h
          cases hn : numS l with
          | none =>
            rw [hn] at N
            exact tokw_numx _ l O1 T2 O3 S4 N w h
          | some p =>
            rw [hn] at N
            exact tokw_num _ _ l p.2 _ p.1 O1 T2 O3 S4 (fun w h => (N w h).mono fun e w' ⟨⟨a, b⟩, c⟩ => ⟨a, b, c⟩) (fun w h => written_is p.1 l p.2 (numS_facts hn).1 w h hsuf) w h
        · rw [if_neg h4]
          have S4 := sees_is (R := R) (s := s) (b := s.length - l.length) (45 :: digL) l false (Bool.eq_false_iff.2 h4)
          by_cases h5 : headIn [34] l = true
          · rw [if_pos h5]
            have S5 := sees_is (R := R) (s := s) (b := s.length - l.length) [34] l true h5
            have N := fun w h => text_any (R := R) (s := s) l w h h5
            cases hn : textS l with
            | none =>
              rw [hn] at N
              exact tokw_textx _ l O1 T2 O3 S4 S5 N w h
            | some p =>
              rw [hn] at N
              exact tokw_text _ _ l p.2 p.1 O1 T2 O3 S4 S5 (fun w h => (N w h).mono fun e w' ⟨⟨a, b⟩, c⟩ => ⟨a, b, c⟩) rfl w h
          · rw [if_neg h5]
            exact tokw_none _ l O1 T2 O3 S4 (sees_is _ _ false (Bool.eq_false_iff.2 h5)) w h
end
end Go.Proofs.YtlabcadpkdgjnaaGreatDoor
