/- What is ignored. -/
import Derived.Test.YtlabcadpkdgjnaaGreatDoorLxD
namespace Go.Proofs.YtlabcadpkdgjnaaGreatDoor
open Go Go.RowKit

theorem spanR_lt (S l : Bs) (h : headIn S l = true) : (spanR S l).length < l.length := by
  rw [← spanR_head S l h]
  have := (spanR_suf S (l.drop 1)).length_le
  rw [List.length_drop] at this
  cases l with
  | nil => cases h
  | cons c l => simp only [List.length_cons] at this ⊢; omega
theorem prefix_le {p l : Bs} (h : p.isPrefixOf l = true) : p.length ≤ l.length := (List.isPrefixOf_iff_prefix.1 h).length_le
theorem comS_lt {l m : Bs} (h : comS l = some (.inl m)) : m.length < l.length := by
  unfold comS at h
  by_cases hp : List.isPrefixOf [35] l = true
  · rw [if_pos hp] at h
    have h1 := prefix_le hp
    have h2 := (spanN_suf endL (l.drop 1)).length_le
    rw [List.length_drop] at h2
    simp only [List.length_cons, List.length_nil] at h1
    have e : m = spanN endL (l.drop 1) := by
      cases hs : srcB (ahead l (spanN endL (l.drop 1))) with
      | none => rw [hs] at h; injection h with h; injection h with h; exact h.symm
      | some k => rw [hs] at h; simp at h
    rw [e]; omega
  · rw [if_neg hp] at h; cases h
theorem skipF_fuel : ∀ (n m : Nat) (l : Bs), l.length < n → l.length < m → skipF n l = skipF m l
  | 0, _, _, h, _ => absurd h (Nat.not_lt_zero _)
  | _ + 1, 0, _, _, h => absurd h (Nat.not_lt_zero _)
  | n + 1, m + 1, l, hn, hm => by
    unfold skipF
    by_cases h1 : headIn ignL l = true
    · rw [if_pos h1, if_pos h1]
      have := spanR_lt ignL l h1
      exact skipF_fuel n m _ (by omega) (by omega)
    · rw [if_neg h1, if_neg h1]
      by_cases h2 : List.isPrefixOf [239, 187, 191] l = true
      · rw [if_pos h2, if_pos h2]
        have := prefix_le h2
        simp only [List.length_cons, List.length_nil] at this
        exact skipF_fuel n m _ (by rw [List.length_drop]; omega) (by rw [List.length_drop]; omega)
      · rw [if_neg h2, if_neg h2]
        cases hc : comS l with
        | none => rfl
        | some x =>
          cases x with
          | inl r =>
            have := comS_lt hc
            exact skipF_fuel n m _ (by omega) (by omega)
          | inr k => rfl
theorem skipS_ign {l : Bs} (h : headIn ignL l = true) : skipS l = skipS (spanR ignL l) := by
  have := spanR_lt ignL l h
  show skipF (l.length + 1) l = _
  unfold skipF
  rw [if_pos h]
  exact skipF_fuel _ _ _ (by omega) (by omega)
theorem skipS_mark {l : Bs} (h : headIn ignL l = false) (h2 : List.isPrefixOf [239, 187, 191] l = true) : skipS l = skipS (l.drop 3) := by
  have := prefix_le h2
  simp only [List.length_cons, List.length_nil] at this
  show skipF (l.length + 1) l = _
  unfold skipF
  rw [if_neg (by rw [h]; simp), if_pos h2]
  exact skipF_fuel _ _ _ (by rw [List.length_drop]; omega) (by omega)
theorem skipS_com {l : Bs} (h : headIn ignL l = false) (h2 : List.isPrefixOf [239, 187, 191] l = false) : skipS l = match comS l with
    | none => .inl l
    | some (.inl r) => skipS r
    | some (.inr k) => .inr (l.length - k) := by
  show skipF (l.length + 1) l = _
  unfold skipF
  rw [if_neg (by rw [h]; simp), if_neg (by rw [h2]; simp)]
  cases hc : comS l with
  | none => rfl
  | some x =>
    cases x with
    | inl r =>
      have := comS_lt hc
      exact skipF_fuel _ _ _ (by omega) (by omega)
    | inr k => rfl
section
variable {R : Nat} {s : Bs} {b : Nat}

theorem comment_any (l : Bs) (w : World) (h : Rd w R s b l) : Calls Tryz.prog 76 #[.pointer (some ⟨R, 0, none⟩)] w (ComP R s b w l (comS l)) := by
  by_cases hp : List.isPrefixOf [35] l = true
  · rcases sourceS_cases (ahead l (spanN endL (l.drop 1))) with ⟨h1, h2⟩ | ⟨k, hk, h1, h2⟩
    · rw [show comS l = some (.inl (spanN endL (l.drop 1))) by unfold comS; rw [if_pos hp, h1]]
      rcases walkF_source ⟨(ahead l (spanN endL (l.drop 1))).toArray⟩ ((ByteArray.mk (ahead l (spanN endL (l.drop 1))).toArray).size - 0) 0 with hs | ⟨q, _, hs⟩
      · refine com_walk l w h hp _ rfl 0 0 hs _ (fun _ w' h1 h2 => ⟨⟨rfl, h1⟩, h2⟩) (fun h => absurd rfl h) (by decide) (by decide)
      · have hs' : sourceS ⟨(ahead l (spanN endL (l.drop 1))).toArray⟩ = ((q : Int), 10) := hs
        rw [hs'] at h2
        cases h2
    · rw [show comS l = some (.inr k) by unfold comS; rw [if_pos hp, h1]]
      have hle := h.le
      have hsm := h.small
      have hkl : k ≤ 16384 := by
        unfold ahead at hk
        rw [List.length_take] at hk
        omega
      refine com_walk l w h hp _ rfl (k : Int) 10 h2 _ (fun h => by cases h) (fun _ w' h1 => ⟨?_, h1⟩) (by omega) (by omega)
      show _ = Dies _ _
      unfold Dies
      rw [Int.natCast_add]
  · have hp' : List.isPrefixOf [35] l = false := Bool.eq_false_iff.2 hp
    rw [show comS l = none by unfold comS; rw [if_neg hp]]
    have T := take_no (R := R) (s := s) (b := b) [35] l hp' w h
    have c2 := h.c2
    go_enter Tryz.func76, Tryz.ntmps76
    go_wp2_with (go_at_call 75; refine T.mono ?_; rintro e w1 ⟨rfl, hr1, hk1⟩)
    go_ret
    exact ⟨⟨rfl, hr1⟩, hk1⟩

/-- What 'next' comes to. -/
def NextP (R : Nat) (s : Bs) (w : World) (r : Bs ⊕ Nat) (e : Ending) (w' : World) : Prop := (match r with
    | .inl m => e = .returned (.bool (!m.isEmpty)) ∧ Rd w' R s (s.length - m.length) m
    | .inr k => e = Dies (s.length - k) 50) ∧ Kp (Own1 R) w w'

set_option maxHeartbeats 4000000 in
theorem next_any (l : Bs) (w : World) (h : Rd w R s b l) : Calls Tryz.prog 48 #[.pointer (some ⟨R, 0, none⟩)] w (NextP R s w (skipS l)) := by
  go_enter Tryz.func48, Tryz.ntmps48
  go_wp2
  go_loopw [12] (fun _ wr => ∃ l', Rd wr R s b l' ∧ skipS l' = skipS l ∧ Kp (Own1 R) w wr) (fun _ wr => s.length - (atOf wr R).toNat)
  case atStart => exact ⟨_, h, rfl, Kp.refl _ _⟩
  case round =>
    clear h
    obtain ⟨l', hr, hsp, hk⟩ := hrel
    have ha := atOf_eq hr
    have hle := hr.le
    have HA : Hid (atOf wr R = ((s.length - l'.length : Nat) : Int)) := ha
    clear ha
    by_cases h1 : headIn ignL l' = true
    · have O := row_any ignL l' wr hr
      rw [h1] at O
      have HSP : Hid (skipS (spanR ignL l') = skipS l) := (skipS_ign h1).symm.trans hsp
      have HLT : Hid ((spanR ignL l').length < l'.length) := spanR_lt ignL l' h1
      clear hsp h1 hr
      go_wp2_with (go_at_call 74; refine O.mono ?_; rintro e w1 ⟨rfl, hr1, hk1⟩)
      refine ⟨⟨_, hr1, HSP.out, hk.trans hk1⟩, ?_⟩
      rw [atOf_eq hr1, HA.out]
      have := HLT.out
      simp only [Int.toNat_natCast]
      omega
    · have h1' : headIn ignL l' = false := Bool.eq_false_iff.2 h1
      have O := row_any ignL l' wr hr
      rw [h1', spanR_stop ignL l' h1'] at O
      by_cases h2 : List.isPrefixOf [239, 187, 191] l' = true
      · have T := take_yes (R := R) (s := s) (b := b) [239, 187, 191] l' h2
        have HSP : Hid (skipS (l'.drop 3) = skipS l) := (skipS_mark h1' h2).symm.trans hsp
        have HLT : Hid ((l'.drop 3).length < l'.length) := by
          have := prefix_le h2
          simp only [List.length_cons, List.length_nil] at this
          show (l'.drop 3).length < _
          rw [List.length_drop]; omega
        clear hsp h1 h1' h2
        go_wp2_with (first
          | (go_at_call 75; refine (T _ hr1).mono ?_; rintro e w2 ⟨rfl, hr2, hk2⟩)
          | (go_at_call 74; refine O.mono ?_; rintro e w1 ⟨rfl, hr1, hk1⟩)
          | fail)
        refine ⟨⟨_, hr2, HSP.out, (hk.trans hk1).trans hk2⟩, ?_⟩
        have hr2' : Rd w2 R s b (l'.drop 3) := hr2
        rw [atOf_eq hr2', HA.out]
        have := HLT.out
        simp only [Int.toNat_natCast]
        omega
      · have h2' : List.isPrefixOf [239, 187, 191] l' = false := Bool.eq_false_iff.2 h2
        have T := take_no (R := R) (s := s) (b := b) [239, 187, 191] l' h2'
        have M := fun w h => comment_any (R := R) (s := s) (b := b) l' w h
        have HSP := (skipS_com h1' h2').symm.trans hsp
        clear hsp h1 h1' h2 h2'
        cases hc : comS l' with
        | none =>
          rw [hc] at HSP M
          have HQ : Hid ((.inl l' : Bs ⊕ Nat) = skipS l) := HSP
          clear HSP hc
          have fin : ∀ w3, Rd w3 R s b l' → w3.cell? ⟨R, 2, none⟩ = some (.int .i64 ((s.length - l'.length : Nat) : Int)) ∧ w3.frozen? ⟨R, 1, none⟩ = false ∧ w3.cell? ⟨R, 1, none⟩ = some (.int .i64 (b : Int)) := fun w3 h3 => ⟨h3.c2, h3.free 1, h3.c1⟩
          cases l' with
          | nil =>
            have E := fun w (h : Rd w R s (s.length - ([] : Bs).length) []) => ends_yes w h
            go_wp2_with (first
              | (go_at_call 77; refine (E _ (hr3.begin _ _ rfl)).mono ?_; rintro e w4 ⟨rfl, m, rfl⟩)
              | (go_at_call 76; refine (M _ hr2).mono ?_; rintro e w3 ⟨⟨rfl, hr3⟩, hk3⟩; obtain ⟨d2, f1, d1⟩ := fin _ hr3)
              | (go_at_call 75; refine (T _ hr1).mono ?_; rintro e w2 ⟨rfl, hr2, hk2⟩)
              | (go_at_call 74; refine O.mono ?_; rintro e w1 ⟨rfl, hr1, hk1⟩)
              | fail)
            go_ret
            rw [← HQ.out]
            exact ⟨⟨rfl, (hr3.begin _ _ rfl).drewN _⟩, ((((hk.trans hk1).trans hk2).trans hk3).trans (Kp.own R 1 _)).drewN _⟩
          | cons c l' =>
            have E := fun w (h : Rd w R s (s.length - (c :: l').length) (c :: l')) => ends_no c l' w h
            generalize hn : s.length - (c :: l').length = A at *
            go_wp2_with (first
              | (go_at_call 77; refine (E _ (hr3.begin _ _ rfl)).mono ?_; rintro e w4 ⟨rfl, m, rfl⟩)
              | (go_at_call 76; refine (M _ hr2).mono ?_; rintro e w3 ⟨⟨rfl, hr3⟩, hk3⟩; obtain ⟨d2, f1, d1⟩ := fin _ hr3)
              | (go_at_call 75; refine (T _ hr1).mono ?_; rintro e w2 ⟨rfl, hr2, hk2⟩)
              | (go_at_call 74; refine O.mono ?_; rintro e w1 ⟨rfl, hr1, hk1⟩)
              | fail)
            go_ret
            rw [← HQ.out]
            subst hn
            exact ⟨⟨rfl, (hr3.begin _ _ rfl).drewN _⟩, ((((hk.trans hk1).trans hk2).trans hk3).trans (Kp.own R 1 _)).drewN _⟩
        | some x =>
          rw [hc] at HSP M
          cases x with
          | inl m =>
            have HQ : Hid (skipS m = skipS l) := HSP
            have HLT : Hid (m.length < l'.length) := comS_lt hc
            clear HSP hc
            go_wp2_with (first
              | (go_at_call 76; refine (M _ hr2).mono ?_; rintro e w3 ⟨⟨rfl, hr3⟩, hk3⟩)
              | (go_at_call 75; refine (T _ hr1).mono ?_; rintro e w2 ⟨rfl, hr2, hk2⟩)
              | (go_at_call 74; refine O.mono ?_; rintro e w1 ⟨rfl, hr1, hk1⟩)
              | fail)
            refine ⟨⟨_, hr3, HQ.out, ((hk.trans hk1).trans hk2).trans hk3⟩, ?_⟩
            rw [atOf_eq hr3, HA.out]
            have := HLT.out
            simp only [Int.toNat_natCast]
            omega
          | inr k =>
            have HQ : Hid ((.inr (l'.length - k) : Bs ⊕ Nat) = skipS l) := HSP
            have HK : Hid (s.length - l'.length + k = s.length - (l'.length - k)) := by
              show _ = _
              rcases sourceS_cases (ahead l' (spanN endL (l'.drop 1))) with ⟨h1, _⟩ | ⟨q, hq, h1, _⟩
              · unfold comS at hc
                by_cases hp : List.isPrefixOf [35] l' = true
                · rw [if_pos hp, h1] at hc; simp at hc
                · rw [if_neg hp] at hc; cases hc
              · unfold comS at hc
                by_cases hp : List.isPrefixOf [35] l' = true
                · rw [if_pos hp, h1] at hc
                  simp at hc
                  unfold ahead at hq
                  rw [List.length_take] at hq
                  omega
                · rw [if_neg hp] at hc; cases hc
            clear HSP hc
            go_wp2_with (first
              | (go_at_call 76; refine (M _ hr2).mono ?_; rintro e w3 ⟨rfl, hk3⟩)
              | (go_at_call 75; refine (T _ hr1).mono ?_; rintro e w2 ⟨rfl, hr2, hk2⟩)
              | (go_at_call 74; refine O.mono ?_; rintro e w1 ⟨rfl, hr1, hk1⟩)
              | fail)
            refine ⟨rfl, ?_⟩
            rw [← HQ.out]
            refine ⟨?_, ((hk.trans hk1).trans hk2).trans hk3⟩
            show _ = Dies _ _
            rw [← HK.out]
            unfold Dies
            rw [Int.natCast_add]
end
end Go.Proofs.YtlabcadpkdgjnaaGreatDoor
