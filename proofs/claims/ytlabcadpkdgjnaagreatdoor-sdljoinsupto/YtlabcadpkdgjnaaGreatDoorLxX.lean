/- Strings and block strings, with their source characters. -/
import Derived.Test.YtlabcadpkdgjnaaGreatDoorLxW
import Derived.Deep.RegionHeld3
namespace Go.Proofs.YtlabcadpkdgjnaaGreatDoor
open Go Go.RowKit

theorem lineF_suf : ∀ (n : Nat) (l t r : Bs), lineF n l = some (t, r) → r <:+ l
  | 0, _, _, _, h => by cases h
  | n + 1, l, t, r, h => by
    unfold lineF at h
    by_cases h1 : List.isPrefixOf [34] l = true
    · rw [if_pos h1] at h
      cases h
      exact drop_suf 1 l
    · rw [if_neg h1] at h
      by_cases h2 : List.isPrefixOf [92] l = true
      · rw [if_pos h2] at h
        cases he : escS (l.drop 1) with
        | none => rw [he] at h; cases h
        | some p =>
          rw [he] at h
          cases hl : lineF n p.2 with
          | none => simp only [Option.bind_some, hl] at h; cases h
          | some q =>
            simp only [Option.bind_some, hl, Option.map_some, Option.some.injEq, Prod.mk.injEq] at h
            have := lineF_suf n p.2 q.1 q.2 hl
            rw [← h.2]
            exact this.trans ((escS_facts (show escS (l.drop 1) = some (p.1, p.2) from he)).2.2.trans (drop_suf 1 l))
      · rw [if_neg h2] at h
        cases l with
        | nil => cases h
        | cons c l =>
          simp only at h
          by_cases h3 : endL.contains c = true
          · rw [if_pos h3] at h; cases h
          · rw [if_neg h3] at h
            cases hl : lineF n l with
            | none => simp only [hl] at h; cases h
            | some q =>
              simp only [hl, Option.map_some, Option.some.injEq, Prod.mk.injEq] at h
              have := lineF_suf n l q.1 q.2 hl
              rw [← h.2]
              exact this.trans (tail_suf c l)
theorem rawF_facts : ∀ (n : Nat) (l t r : Bs), rawF n l = some (t, r) → r <:+ l ∧ t.length ≤ l.length
  | 0, _, _, _, h => by cases h
  | n + 1, l, t, r, h => by
    unfold rawF at h
    by_cases h1 : List.isPrefixOf [34, 34, 34] l = true
    · rw [if_pos h1] at h
      cases h
      exact ⟨drop_suf 3 l, Nat.zero_le _⟩
    · rw [if_neg h1] at h
      by_cases h2 : List.isPrefixOf [92, 34, 34, 34] l = true
      · rw [if_pos h2] at h
        have hp := prefix_le h2
        simp only [List.length_cons, List.length_nil] at hp
        cases hl : rawF n (l.drop 4) with
        | none => simp only [hl] at h; cases h
        | some q =>
          simp only [hl, Option.map_some, Option.some.injEq, Prod.mk.injEq] at h
          obtain ⟨g1, g2⟩ := rawF_facts n (l.drop 4) q.1 q.2 hl
          rw [List.length_drop] at g2
          rw [← h.2, ← h.1]
          exact ⟨g1.trans (drop_suf 4 l), by simp only [List.length_cons]; omega⟩
      · rw [if_neg h2] at h
        cases l with
        | nil => cases h
        | cons c l =>
          simp only at h
          cases hl : rawF n l with
          | none => simp only [hl] at h; cases h
          | some q =>
            simp only [hl, Option.map_some, Option.some.injEq, Prod.mk.injEq] at h
            obtain ⟨g1, g2⟩ := rawF_facts n l q.1 q.2 hl
            rw [← h.2, ← h.1]
            exact ⟨g1.trans (tail_suf c l), by simp only [List.length_cons]; omega⟩
section
variable {R : Nat} {s : Bs}

/-- What is asked of all that was read. -/
theorem text_end (l m : Bs) (hl : l <:+ s) (hs : s.length ≤ 16384) (w : World) (A2 : Int) (hA : (sourceS ⟨(ahead l m).toArray⟩).2 = A2) : Calls Tryz.prog 100 #[.string ⟨(ahead l m).toArray⟩] w fun e w' => (∃ a, e = .returned (.tuple #[.int .i64 a, .int .i64 A2])) ∧ Below w.heap.size w w' := by
  have := hl.length_le
  refine (source_any ⟨(ahead l m).toArray⟩ w (by rw [size_of]; unfold ahead; rw [List.length_take]; omega)).mono ?_
  rintro e w' ⟨rfl, hb⟩
  exact ⟨⟨_, by rw [hA]⟩, hb⟩

set_option maxHeartbeats 4000000 in
theorem text_line (l : Bs) (w : World) (h : Rd w R s (s.length - l.length) l) (hq : List.isPrefixOf [34] l = true) (hb : List.isPrefixOf [34, 34, 34] l = false) :
    Calls Tryz.prog 82 #[.pointer (some ⟨R, 0, none⟩)] w (StrP R s (s.length - l.length) w ((lineS (l.drop 1)).bind fun p => if (srcB (ahead l p.2)).isSome then none else some p)) := by
  have T := take_no (R := R) (s := s) (b := s.length - l.length) [34, 34, 34] l hb w h
  have L := fun w h => line_any (R := R) (s := s) (b := s.length - l.length) l w h hq
  have hsuf := h.suf
  have hsm := h.small
  cases hn : lineS (l.drop 1) with
  | none =>
    rw [hn] at L
    clear hn hb hq h
    go_enter Tryz.func82, Tryz.ntmps82
    go_wp2_with (first
      | (go_at_call 105; refine (L _ hr1).mono ?_; rintro e w2 ⟨rfl, hk2⟩)
      | (go_at_call 75; refine T.mono ?_; rintro e w1 ⟨rfl, hr1, hk1⟩)
      | fail)
    exact ⟨rfl, rfl, hk1.trans hk2⟩
  | some p =>
    rw [hn] at L
    have hp2 : p.2 <:+ l := (lineF_suf _ _ p.1 p.2 hn).trans (drop_suf 1 l)
    have hcut := cut_ahead hsuf hp2
    have hle := hp2.length_le
    have hle2 := hsuf.length_le
    have fin : ∀ w3, Rd w3 R s (s.length - l.length) p.2 → w3.cell? ⟨R, 0, none⟩ = some (.string ⟨s.toArray⟩) ∧ w3.cell? ⟨R, 1, none⟩ = some (.int .i64 ((s.length - l.length : Nat) : Int)) ∧ w3.cell? ⟨R, 2, none⟩ = some (.int .i64 ((s.length - p.2.length : Nat) : Int)) := fun w3 h3 => ⟨h3.c0, h3.c1, h3.c2⟩
    have hsz := size_of s
    have g1 : ((s.length - l.length : Nat) : Int) ≤ ((s.length - p.2.length : Nat) : Int) := by omega
    have g2 : ((s.length - p.2.length : Nat) : Int) ≤ (s.length : Int) := by omega
    have g3 : (0 : Int) ≤ ((s.length - l.length : Nat) : Int) := by omega
    show Calls _ _ _ _ (StrP R s (s.length - l.length) w (if (srcB (ahead l p.2)).isSome then none else some p))
    rcases sourceS_cases (ahead l p.2) with ⟨e1, e2⟩ | ⟨k, hk, e1, e2⟩
    · rw [e1]
      have S := fun w => text_end l p.2 hsuf hsm w 0 e2
      clear hn hb hq h e1 e2 hle hle2 hp2 hsuf hsm
      generalize (ByteArray.mk (ahead l p.2).toArray) = X at *
      generalize s.length - l.length = A at *
      generalize s.length - p.2.length = C at *
      obtain ⟨D, hD⟩ : ∃ D, ByteArray.mk s.toArray = D := ⟨_, rfl⟩
      rw [hD] at hcut hsz
      simp only [hD] at fin
      clear hD
      go_enter Tryz.func82, Tryz.ntmps82
      go_wp2_with (first
        | (go_at_call 105; refine (L _ hr1).mono ?_; rintro e w2 ⟨⟨rfl, hr2⟩, hk2⟩; obtain ⟨d0, d1, d2⟩ := fin _ hr2)
        | (go_at_call 75; refine T.mono ?_; rintro e w1 ⟨rfl, hr1, hk1⟩)
        | fail)
      go_region_held3 (fun w' => w'.cell? ⟨R, 0, none⟩ = some (.string D) ∧ w'.cell? ⟨R, 1, none⟩ = some (.int .i64 (A : Int)) ∧ w'.cell? ⟨R, 2, none⟩ = some (.int .i64 (C : Int))) (go_keep)
        ((go_at_call 100; refine (S _).mono ?_; rintro e w4 ⟨⟨a, rfl⟩, hb4⟩; have hr4 := (hr2.drewN 1).below hb4 hr2.lt; obtain ⟨f0, f1, f2⟩ := fin _ hr4))
      all_goals
        go_wp2
        go_ret
        exact ⟨⟨rfl, hr4⟩, ((hk1.trans hk2).drewN 1).then_below (hb4.mono (hk1.trans hk2).size)⟩
    · rw [e1]
      have S := fun w => text_end l p.2 hsuf hsm w 10 (by rw [e2])
      clear hn hb hq h e1 e2 hle hle2 hp2 hsuf hsm hk
      generalize (ByteArray.mk (ahead l p.2).toArray) = X at *
      generalize s.length - l.length = A at *
      generalize s.length - p.2.length = C at *
      obtain ⟨D, hD⟩ : ∃ D, ByteArray.mk s.toArray = D := ⟨_, rfl⟩
      rw [hD] at hcut hsz
      simp only [hD] at fin
      clear hD
      go_enter Tryz.func82, Tryz.ntmps82
      go_wp2_with (first
        | (go_at_call 105; refine (L _ hr1).mono ?_; rintro e w2 ⟨⟨rfl, hr2⟩, hk2⟩; obtain ⟨d0, d1, d2⟩ := fin _ hr2)
        | (go_at_call 75; refine T.mono ?_; rintro e w1 ⟨rfl, hr1, hk1⟩)
        | fail)
      go_region_held3 (fun w' => w'.cell? ⟨R, 0, none⟩ = some (.string D) ∧ w'.cell? ⟨R, 1, none⟩ = some (.int .i64 (A : Int)) ∧ w'.cell? ⟨R, 2, none⟩ = some (.int .i64 (C : Int))) (go_keep)
        ((go_at_call 100; refine (S _).mono ?_; rintro e w4 ⟨⟨a, rfl⟩, hb4⟩; have hr4 := (hr2.drewN 1).below hb4 hr2.lt; obtain ⟨f0, f1, f2⟩ := fin _ hr4))
      all_goals
        go_wp2_with (go_at_call 49; refine (fail_any _ _ _ hr4).mono ?_; rintro e w5 ⟨rfl, rfl⟩)
        exact ⟨rfl, rfl, ((hk1.trans hk2).drewN 1).then_below (hb4.mono (hk1.trans hk2).size)⟩

set_option maxHeartbeats 4000000 in
theorem text_raw (l : Bs) (w : World) (h : Rd w R s (s.length - l.length) l) (hb : List.isPrefixOf [34, 34, 34] l = true) :
    Calls Tryz.prog 82 #[.pointer (some ⟨R, 0, none⟩)] w (StrP R s (s.length - l.length) w ((rawS (l.drop 3)).bind fun p => if (srcB (ahead l p.2)).isSome then none else some (blockS p.1, p.2))) := by
  have T : Calls Tryz.prog 75 #[.pointer (some ⟨R, 0, none⟩), .string ⟨#[34, 34, 34]⟩] w fun e w' => e = .returned (.bool true) ∧ Rd w' R s (s.length - l.length) (l.drop 3) ∧ Kp (Own1 R) w w' := take_yes (R := R) (s := s) (b := s.length - l.length) [34, 34, 34] l hb w h
  have L := fun w h => raw_any (R := R) (s := s) (b := s.length - l.length) (l.drop 3) w h
  have hsuf := h.suf
  have hsm := h.small
  cases hn : rawS (l.drop 3) with
  | none =>
    rw [hn] at L
    clear hn hb h
    go_enter Tryz.func82, Tryz.ntmps82
    go_wp2_with (first
      | (go_at_call 104; refine (L _ hr1).mono ?_; rintro e w2 ⟨rfl, hk2⟩)
      | (go_at_call 75; refine T.mono ?_; rintro e w1 ⟨rfl, hr1, hk1⟩)
      | fail)
    exact ⟨rfl, rfl, hk1.trans hk2⟩
  | some p =>
    rw [hn] at L
    obtain ⟨hp1, hpl⟩ := rawF_facts _ _ p.1 p.2 hn
    have hp2 : p.2 <:+ l := hp1.trans (drop_suf 3 l)
    have hcut := cut_ahead hsuf hp2
    have hle := hp2.length_le
    have hle2 := hsuf.length_le
    have BK := fun w g => block_any p.1 (by rw [List.length_drop] at hpl; omega) w g
    have fin : ∀ w3, Rd w3 R s (s.length - l.length) p.2 → w3.cell? ⟨R, 0, none⟩ = some (.string ⟨s.toArray⟩) ∧ w3.cell? ⟨R, 1, none⟩ = some (.int .i64 ((s.length - l.length : Nat) : Int)) ∧ w3.cell? ⟨R, 2, none⟩ = some (.int .i64 ((s.length - p.2.length : Nat) : Int)) := fun w3 h3 => ⟨h3.c0, h3.c1, h3.c2⟩
    have hsz := size_of s
    have g1 : ((s.length - l.length : Nat) : Int) ≤ ((s.length - p.2.length : Nat) : Int) := by omega
    have g2 : ((s.length - p.2.length : Nat) : Int) ≤ (s.length : Int) := by omega
    have g3 : (0 : Int) ≤ ((s.length - l.length : Nat) : Int) := by omega
    clear hp1 hpl
    show Calls _ _ _ _ (StrP R s (s.length - l.length) w (if (srcB (ahead l p.2)).isSome then none else some (blockS p.1, p.2)))
    rcases sourceS_cases (ahead l p.2) with ⟨e1, e2⟩ | ⟨k, hk, e1, e2⟩
    · rw [e1]
      have S := fun w => text_end l p.2 hsuf hsm w 0 e2
      clear hn hb h e1 e2 hle hle2 hp2 hsuf hsm
      generalize (ByteArray.mk (ahead l p.2).toArray) = X at *
      generalize s.length - l.length = A at *
      generalize s.length - p.2.length = C at *
      obtain ⟨D, hD⟩ : ∃ D, ByteArray.mk s.toArray = D := ⟨_, rfl⟩
      rw [hD] at hcut hsz
      simp only [hD] at fin
      clear hD
      go_enter Tryz.func82, Tryz.ntmps82
      go_wp2_with (first
        | (go_at_call 103; refine (BK _ hr0.gl).mono ?_; rintro e w2 ⟨rfl, hb2⟩; have hr2 := hr0.below hb2 hr0.lt; obtain ⟨d0, d1, d2⟩ := fin _ hr2)
        | (go_at_call 104; refine (L _ hr1).mono ?_; rintro e w0 ⟨⟨rfl, hr0⟩, hk0⟩)
        | (go_at_call 75; refine T.mono ?_; rintro e w1 ⟨rfl, hr1, hk1⟩)
        | fail)
      go_region_held3 (fun w' => w'.cell? ⟨R, 0, none⟩ = some (.string D) ∧ w'.cell? ⟨R, 1, none⟩ = some (.int .i64 (A : Int)) ∧ w'.cell? ⟨R, 2, none⟩ = some (.int .i64 (C : Int))) (go_keep)
        ((go_at_call 100; refine (S _).mono ?_; rintro e w4 ⟨⟨a, rfl⟩, hb4⟩; have hr4 := (hr2.drewN 1).below hb4 hr2.lt; obtain ⟨f0, f1, f2⟩ := fin _ hr4))
      all_goals
        go_wp2
        go_ret
        exact ⟨⟨rfl, hr4⟩, (((hk1.trans hk0).trans (Kp.of_below hb2)).drewN 1).then_below (hb4.mono ((hk1.trans hk0).trans (Kp.of_below hb2)).size)⟩
    · rw [e1]
      have S := fun w => text_end l p.2 hsuf hsm w 10 (by rw [e2])
      clear hn hb h e1 e2 hle hle2 hp2 hsuf hsm hk
      generalize (ByteArray.mk (ahead l p.2).toArray) = X at *
      generalize s.length - l.length = A at *
      generalize s.length - p.2.length = C at *
      obtain ⟨D, hD⟩ : ∃ D, ByteArray.mk s.toArray = D := ⟨_, rfl⟩
      rw [hD] at hcut hsz
      simp only [hD] at fin
      clear hD
      go_enter Tryz.func82, Tryz.ntmps82
      go_wp2_with (first
        | (go_at_call 103; refine (BK _ hr0.gl).mono ?_; rintro e w2 ⟨rfl, hb2⟩; have hr2 := hr0.below hb2 hr0.lt; obtain ⟨d0, d1, d2⟩ := fin _ hr2)
        | (go_at_call 104; refine (L _ hr1).mono ?_; rintro e w0 ⟨⟨rfl, hr0⟩, hk0⟩)
        | (go_at_call 75; refine T.mono ?_; rintro e w1 ⟨rfl, hr1, hk1⟩)
        | fail)
      go_region_held3 (fun w' => w'.cell? ⟨R, 0, none⟩ = some (.string D) ∧ w'.cell? ⟨R, 1, none⟩ = some (.int .i64 (A : Int)) ∧ w'.cell? ⟨R, 2, none⟩ = some (.int .i64 (C : Int))) (go_keep)
        ((go_at_call 100; refine (S _).mono ?_; rintro e w4 ⟨⟨a, rfl⟩, hb4⟩; have hr4 := (hr2.drewN 1).below hb4 hr2.lt; obtain ⟨f0, f1, f2⟩ := fin _ hr4))
      all_goals
        go_wp2_with (go_at_call 49; refine (fail_any _ _ _ hr4).mono ?_; rintro e w5 ⟨rfl, rfl⟩)
        exact ⟨rfl, rfl, (((hk1.trans hk0).trans (Kp.of_below hb2)).drewN 1).then_below (hb4.mono ((hk1.trans hk0).trans (Kp.of_below hb2)).size)⟩
theorem text_any (l : Bs) (w : World) (h : Rd w R s (s.length - l.length) l) (hq : headIn [34] l = true) : Calls Tryz.prog 82 #[.pointer (some ⟨R, 0, none⟩)] w (StrP R s (s.length - l.length) w (textS l)) := by
  have hq' : List.isPrefixOf [34] l = true := by
    cases l with
    | nil => cases hq
    | cons c l =>
      have : c = 34 := by simpa [headIn] using hq
      subst this
      simp [List.isPrefixOf]
  by_cases hb : List.isPrefixOf [34, 34, 34] l = true
  · have e : textS l = ((rawS (l.drop 3)).bind fun p => if (srcB (ahead l p.2)).isSome then none else some (blockS p.1, p.2)) := by
      unfold textS textR
      rw [if_pos hb, rawF_fuel (l.length + 1) ((l.drop 3).length + 1) (l.drop 3) (by rw [List.length_drop]; omega) (by omega)]
      show ((rawS (l.drop 3)).map _).bind _ = _
      cases rawS (l.drop 3) <;> rfl
    rw [e]
    exact text_raw l w h hb
  · have e : textS l = ((lineS (l.drop 1)).bind fun p => if (srcB (ahead l p.2)).isSome then none else some p) := by
      unfold textS textR
      rw [if_neg hb, lineF_fuel (l.length + 1) ((l.drop 1).length + 1) (l.drop 1) (by rw [List.length_drop]; omega) (by omega)]
      rfl
    rw [e]
    exact text_line l w h hq' (Bool.eq_false_iff.2 hb)
end
end Go.Proofs.YtlabcadpkdgjnaaGreatDoor
