/- Trees in memory: cells and rows; a row that grows in a variable. -/
import Derived.Test.YthficamlgngaaaaGreatDoorSyB
import Derived.Deep.AppendLies
namespace Go.Proofs.YthficamlgngaaaaGreatDoor
open Go Go.RowKit
section
variable {R g cap : Nat} {T : List Tok} {w w' : World} {l : List Tok} {fx : Bool} {a b c : Nat}

/-- What a step of the reader comes to: it gives up, or it reads something and tells it. -/
def Out {α : Type} (R g cap : Nat) (T : List Tok) (w : World) (fx : Bool) (a b c : Nat) (r : Rs α) (V : α → Value → World → Prop) (e : Ending) (w' : World) : Prop :=
  (∃ p, r = .error p ∧ e = DiesY p ∧ Kp (Own1 R) w w') ∨ (∃ x m v, r = .ok (x, m) ∧ e = .returned v ∧ V x v w' ∧ Sx R g cap T w' m fx a b c ∧ m ≠ [] ∧ Kp (Own1 R) w w')
theorem isP_cons (s : Bs) (t : Tok) (r : List Tok) : isP s (t :: r) = (t.k == 0 && t.t == s) := rfl
theorem tok_of_isP {s : Bs} {t : Tok} {r : List Tok} (h : isP s (t :: r) = true) : t.k = 0 ∧ t.t = s := by simpa [isP] using h
theorem Sx.next (h : Sx R g cap T w l fx a b c) {s : Bs} (hs : s ≠ []) (hp : isP s l = true) : l.tail ≠ [] := by
  cases l with
  | nil => cases hp
  | cons t r =>
    obtain ⟨h1, h2⟩ := tok_of_isP hp
    exact h.full.more h.suf (fun e => hs (h2.symm.trans e.2))
theorem Sx.nextK (h : Sx R g cap T w l fx a b c) {k : Int} (hk : k ≠ 0) (hp : isK k l = true) : l.tail ≠ [] := by
  cases l with
  | nil => cases hp
  | cons t r => exact h.full.more h.suf (fun e => hk (by have : t.k = k := (by simpa [isK] using hp); omega))
theorem Sx.nextW (h : Sx R g cap T w l fx a b c) {s : Bs} (hp : isW s l = true) : l.tail ≠ [] := by
  cases l with
  | nil => cases hp
  | cons t r => exact h.full.more h.suf (fun e => by have : t.k = 1 ∧ t.t = s := (by simpa [isW] using hp); omega)
theorem see_any (s : Bs) (h : Sx R g cap T w l fx a b c) (hl : l ≠ []) : Calls Tryz.prog 59 #[.pointer (some ⟨R, 0, none⟩), .string ⟨s.toArray⟩] w fun e w' => e = .returned (.bool (isP s l)) ∧ Kp Non w w' := by
  cases l with
  | nil => exact absurd rfl hl
  | cons t r => exact sees_eq s h
theorem seeW_any (s : Bs) (h : Sx R g cap T w l fx a b c) (hl : l ≠ []) : Calls Tryz.prog 54 #[.pointer (some ⟨R, 0, none⟩), .string ⟨s.toArray⟩] w fun e w' => e = .returned (.bool (isW s l)) ∧ Kp Non w w' := by
  cases l with
  | nil => exact absurd rfl hl
  | cons t r => exact seesWord_eq s h
theorem seeK_any (k : Int) (h : Sx R g cap T w l fx a b c) (hl : l ≠ []) : Calls Tryz.prog 61 #[.pointer (some ⟨R, 0, none⟩), .int .i64 k] w fun e w' => e = .returned (.bool (isK k l)) ∧ Kp Non w w' := by
  cases l with
  | nil => exact absurd rfl hl
  | cons t r => exact seesKind_any k h
/-- That punctuator is gone over if it is next. -/
theorem ytake_any (s : Bs) (h : Sx R g cap T w l fx a b c) (hl : l ≠ []) : Calls Tryz.prog 87 #[.pointer (some ⟨R, 0, none⟩), .string ⟨s.toArray⟩] w fun e w' =>
    (isP s l = true ∧ e = .returned (.bool true) ∧ Sx R g cap T w' l.tail fx a b c ∧ Kp (Own1 R) w w') ∨ (isP s l = false ∧ e = .returned (.bool false) ∧ Sx R g cap T w' l fx a b c ∧ Kp (Own1 R) w w') := by
  cases l with
  | nil => exact absurd rfl hl
  | cons t r =>
    refine (take_eq s h).mono ?_
    rintro e w' ⟨rfl, h1, k1⟩
    rw [isP_cons]
    cases hb : (t.k == 0 && t.t == s) with
    | true => rw [hb] at h1; exact Or.inl ⟨rfl, rfl, h1, k1⟩
    | false => rw [hb] at h1; exact Or.inr ⟨rfl, rfl, h1, k1⟩
theorem ytakeW_any (s : Bs) (h : Sx R g cap T w l fx a b c) (hl : l ≠ []) : Calls Tryz.prog 35 #[.pointer (some ⟨R, 0, none⟩), .string ⟨s.toArray⟩] w fun e w' =>
    (isW s l = true ∧ e = .returned (.bool true) ∧ Sx R g cap T w' l.tail fx a b c ∧ Kp (Own1 R) w w') ∨ (isW s l = false ∧ e = .returned (.bool false) ∧ Sx R g cap T w' l fx a b c ∧ Kp (Own1 R) w w') := by
  cases l with
  | nil => exact absurd rfl hl
  | cons t r =>
    refine (takeWord_eq s h).mono ?_
    rintro e w' ⟨rfl, h1, k1⟩
    rw [show isW s (t :: r) = (t.k == 1 && t.t == s) from rfl]
    cases hb : (t.k == 1 && t.t == s) with
    | true => rw [hb] at h1; exact Or.inl ⟨rfl, rfl, h1, k1⟩
    | false => rw [hb] at h1; exact Or.inr ⟨rfl, rfl, h1, k1⟩
theorem yread_any (h : Sx R g cap T w l fx a b c) (hl : l ≠ []) : Calls Tryz.prog 90 #[.pointer (some ⟨R, 0, none⟩)] w fun e w' => e = .returned (.string ⟨(txT l).toArray⟩) ∧ Sx R g cap T w' l.tail fx a b c ∧ Kp (Own1 R) w w' := by
  cases l with
  | nil => exact absurd rfl hl
  | cons t r => exact read_any h
theorem need_dies (h : Sx R g cap T w l fx a b c) (hl : l ≠ []) : Calls Tryz.prog 55 #[.pointer (some ⟨R, 0, none⟩), .bool false] w fun e w' => e = DiesY (atT l, 60) ∧ Kp Non w w' := by
  cases l with
  | nil => exact absurd rfl hl
  | cons t r => exact yneed_no h
theorem yfault_any (x : Int) (h : Sx R g cap T w l fx a b c) (hl : l ≠ []) : Calls Tryz.prog 89 #[.pointer (some ⟨R, 0, none⟩), .int .i64 x] w fun e w' => e = .returned (.agg #[.int .i64 (atT l : Int), .int .i64 x]) ∧ Kp Non w w' := by
  cases l with
  | nil => exact absurd rfl hl
  | cons t r => exact fault_any x h
/-- What a name's reading tells. -/
abbrev StrV : Bs → Value → World → Prop := fun t v _ => v = .string ⟨t.toArray⟩
theorem name_any (h : Sx R g cap T w l fx a b c) (hl : l ≠ []) : Calls Tryz.prog 56 #[.pointer (some ⟨R, 0, none⟩)] w (Out R g cap T w fx a b c (nameS l) StrV) := by
  have X := seeK_any 1 h hl
  by_cases hk : isK 1 l = true
  · rw [hk] at X
    have hne := h.nextK (by decide) hk
    have HE : Hid (nameS l = .ok (txT l, l.tail)) := if_pos hk
    clear hk
    go_enter Tryz.func56, Tryz.ntmps56
    go_wp2_with (first
      | (go_at_call 90; refine (yread_any (h.non k1) hl).mono ?_; rintro e w3 ⟨rfl, h3, k3⟩)
      | (go_at_call 55; refine (yneed_yes _).mono ?_; rintro e w2 ⟨rfl, rfl⟩)
      | (go_at_call 61; refine X.mono ?_; rintro e w1 ⟨rfl, k1⟩))
    go_ret
    exact Or.inr ⟨_, _, _, HE.out, rfl, rfl, h3, hne, k1.any.trans k3⟩
  · have hk' : isK 1 l = false := Bool.eq_false_iff.2 hk
    rw [hk'] at X
    have HE : Hid (nameS l = .error (atT l, 60)) := if_neg hk
    clear hk hk'
    go_enter Tryz.func56, Tryz.ntmps56
    go_wp2_with (first
      | (go_at_call 55; refine (need_dies (h.non k1) hl).mono ?_; rintro e w2 ⟨rfl, k2⟩)
      | (go_at_call 61; refine X.mono ?_; rintro e w1 ⟨rfl, k1⟩))
    exact ⟨rfl, Or.inl ⟨_, HE.out, rfl, k1.any.trans k2.any⟩⟩
/-- What a sign that must be next comes to: a call of take, then of need. -/
theorem variable_any (h : Sx R g cap T w l fx a b c) (hl : l ≠ []) : Calls Tryz.prog 118 #[.pointer (some ⟨R, 0, none⟩)] w (Out R g cap T w fx a b c (varS l) StrV) := by
  have X := ytake_any [36] h hl
  have N := fun w1 (h1 : Sx R g cap T w1 l.tail fx a b c) (hp : isP [36] l = true) => name_any h1 (h.next (by simp) hp)
  go_enter Tryz.func118, Tryz.ntmps118
  go_wp2_with (first
    | (go_at_call 56; refine (N _ h1 hp).mono ?_; rintro e w3 (⟨p, hq, rfl, k3⟩ | ⟨x, m, v, hq, rfl, rfl, h3, n3, k3⟩))
    | (go_at_call 55; first | ((with_reducible refine (yneed_yes _).mono ?_); rintro e w2 ⟨rfl, rfl⟩) | ((with_reducible refine (need_dies h1 hl).mono ?_); rintro e w2 ⟨rfl, k2⟩))
    | (go_at_call 87; refine X.mono ?_; rintro e w1 (⟨hp, rfl, h1, k1⟩ | ⟨hp, rfl, h1, k1⟩)))
  · exact ⟨rfl, Or.inl ⟨p, by simp only [varS, mustS, hp, if_true, go_ok, hq], rfl, k1.trans k3⟩⟩
  · go_ret
    exact Or.inr ⟨_, _, _, by simp only [varS, mustS, hp, if_true, go_ok, hq], rfl, rfl, h3, n3, k1.trans k3⟩
  · exact ⟨rfl, Or.inl ⟨(atT l, 60), by simp only [varS, mustS, hp, Bool.false_eq_true, if_false, go_error], rfl, k1.trans k2.any⟩⟩

set_option maxHeartbeats 2000000 in
/-- One more is open, of kind 0. -/
theorem open0_any (s : Bs) (hs : s ≠ []) (h : Sx R g cap T w l fx a b c) (hl : l ≠ []) (hp : isP s l = true) (hd : a < 32) : Calls Tryz.prog 94 #[.pointer (some ⟨R, 0, none⟩), .int .i64 0, .string ⟨s.toArray⟩] w fun e w' => e = .returned (.tuple #[]) ∧ Sx R g cap T w' l.tail fx (a + 1) b c ∧ l.tail ≠ [] ∧ Kp (Own1 R) w w' := by
  have X := see_any s h hl
  rw [hp] at X
  have hne := h.next hs hp
  have hle := h.le
  have hpos := isP_pos hp
  have hsm := h.full.small
  have hdI : ((a : Nat) : Int) < 32 := by omega
  have hd0 : (0 : Int) ≤ ((a : Nat) : Int) := by omega
  have hd32 : (((a : Nat) : Int) == 32) = false := by rw [beq_eq_false_iff_ne]; omega
  have hA2 : ((T.length - l.length : Nat) : Int) ≤ 2049 := by omega
  have hA0 : (0 : Int) ≤ ((T.length - l.length : Nat) : Int) := by omega
  have HM : ∀ w1, Kp Non w w1 → Hid (Sx R g cap T ((w1.setCell ⟨R, 3, none⟩ (.int .i64 (((a : Nat) : Int) + 1))).setCell ⟨R, 1, none⟩ (.int .i64 (((T.length - l.length : Nat) : Int) + 1))) l.tail fx (a + 1) b c) := fun w1 k =>
    ((h.non k).set3 _ (a + 1) (by omega) (by omega)).move (List.tail_suffix l) _ (by rw [List.length_tail]; omega)
  go_enter Tryz.func94, Tryz.ntmps94
  go_wp2_with (first
    | (go_at_call 55; refine (yneed_yes _).mono ?_; rintro e w2 ⟨rfl, rfl⟩)
    | (go_at_call 59; refine X.mono ?_; rintro e w1 ⟨rfl, k1⟩; have cF := (h.non k1).c3; have c1 := (h.non k1).c1; have fF := (h.non k1).free 3; have f1 := (h.non k1).free 1; have HM1 := HM w1 k1; clear HM; generalize T.length - l.length = A at *))
  go_region
  all_goals go_wp2
  all_goals go_end0
  all_goals exact ⟨rfl, by first | exact HM1.out | exact HM1.out.drew | exact HM1.out.drewN 1, hne, by first | exact (k1.any.trans ((Kp.own R 3 _).trans (Kp.own R 1 _))).drew | exact (k1.any.trans ((Kp.own R 3 _).trans (Kp.own R 1 _))).drewN _⟩
theorem open0_shut (s : Bs) (h : Sx R g cap T w l fx a b c) (hl : l ≠ []) (hp : isP s l = false) : Calls Tryz.prog 94 #[.pointer (some ⟨R, 0, none⟩), .int .i64 0, .string ⟨s.toArray⟩] w fun e w' => e = DiesY (atT l, 60) ∧ Kp (Own1 R) w w' := by
  have X := see_any s h hl
  rw [hp] at X
  go_enter Tryz.func94, Tryz.ntmps94
  go_wp2_with (first
    | (go_at_call 55; refine (need_dies (h.non k1) hl).mono ?_; rintro e w2 ⟨rfl, k2⟩)
    | (go_at_call 59; refine X.mono ?_; rintro e w1 ⟨rfl, k1⟩))
  exact ⟨rfl, rfl, k1.any.trans k2.any⟩
theorem open0_deep (s : Bs) (h : Sx R g cap T w l fx 32 b c) (hl : l ≠ []) (hp : isP s l = true) : Calls Tryz.prog 94 #[.pointer (some ⟨R, 0, none⟩), .int .i64 0, .string ⟨s.toArray⟩] w fun e w' => e = DiesY (atT l, 61) ∧ Kp (Own1 R) w w' := by
  have X := see_any s h hl
  rw [hp] at X
  go_enter Tryz.func94, Tryz.ntmps94
  go_wp2_with (first
    | (go_at_call 89; refine (yfault_any _ (h.non k1) hl).mono ?_; rintro e w3 ⟨rfl, k3⟩)
    | (go_at_call 55; refine (yneed_yes _).mono ?_; rintro e w2 ⟨rfl, rfl⟩)
    | (go_at_call 59; refine X.mono ?_; rintro e w1 ⟨rfl, k1⟩; have cF := (h.non k1).c3))
  exact ⟨rfl, rfl, k1.any.trans k3.any⟩

set_option maxHeartbeats 2000000 in
/-- One more is open, of kind 1. -/
theorem open1_any (s : Bs) (hs : s ≠ []) (h : Sx R g cap T w l fx a b c) (hl : l ≠ []) (hp : isP s l = true) (hd : b < 32) : Calls Tryz.prog 94 #[.pointer (some ⟨R, 0, none⟩), .int .i64 1, .string ⟨s.toArray⟩] w fun e w' => e = .returned (.tuple #[]) ∧ Sx R g cap T w' l.tail fx a (b + 1) c ∧ l.tail ≠ [] ∧ Kp (Own1 R) w w' := by
  have X := see_any s h hl
  rw [hp] at X
  have hne := h.next hs hp
  have hle := h.le
  have hpos := isP_pos hp
  have hsm := h.full.small
  have hdI : ((b : Nat) : Int) < 32 := by omega
  have hd0 : (0 : Int) ≤ ((b : Nat) : Int) := by omega
  have hd32 : (((b : Nat) : Int) == 32) = false := by rw [beq_eq_false_iff_ne]; omega
  have hA2 : ((T.length - l.length : Nat) : Int) ≤ 2049 := by omega
  have hA0 : (0 : Int) ≤ ((T.length - l.length : Nat) : Int) := by omega
  have HM : ∀ w1, Kp Non w w1 → Hid (Sx R g cap T ((w1.setCell ⟨R, 4, none⟩ (.int .i64 (((b : Nat) : Int) + 1))).setCell ⟨R, 1, none⟩ (.int .i64 (((T.length - l.length : Nat) : Int) + 1))) l.tail fx a (b + 1) c) := fun w1 k =>
    ((h.non k).set4 _ (b + 1) (by omega) (by omega)).move (List.tail_suffix l) _ (by rw [List.length_tail]; omega)
  go_enter Tryz.func94, Tryz.ntmps94
  go_wp2_with (first
    | (go_at_call 55; refine (yneed_yes _).mono ?_; rintro e w2 ⟨rfl, rfl⟩)
    | (go_at_call 59; refine X.mono ?_; rintro e w1 ⟨rfl, k1⟩; have cF := (h.non k1).c4; have c1 := (h.non k1).c1; have fF := (h.non k1).free 4; have f1 := (h.non k1).free 1; have HM1 := HM w1 k1; clear HM; generalize T.length - l.length = A at *))
  go_region
  all_goals go_wp2
  all_goals go_end0
  all_goals exact ⟨rfl, by first | exact HM1.out | exact HM1.out.drew | exact HM1.out.drewN 1, hne, by first | exact (k1.any.trans ((Kp.own R 4 _).trans (Kp.own R 1 _))).drew | exact (k1.any.trans ((Kp.own R 4 _).trans (Kp.own R 1 _))).drewN _⟩
theorem open1_shut (s : Bs) (h : Sx R g cap T w l fx a b c) (hl : l ≠ []) (hp : isP s l = false) : Calls Tryz.prog 94 #[.pointer (some ⟨R, 0, none⟩), .int .i64 1, .string ⟨s.toArray⟩] w fun e w' => e = DiesY (atT l, 60) ∧ Kp (Own1 R) w w' := by
  have X := see_any s h hl
  rw [hp] at X
  go_enter Tryz.func94, Tryz.ntmps94
  go_wp2_with (first
    | (go_at_call 55; refine (need_dies (h.non k1) hl).mono ?_; rintro e w2 ⟨rfl, k2⟩)
    | (go_at_call 59; refine X.mono ?_; rintro e w1 ⟨rfl, k1⟩))
  exact ⟨rfl, rfl, k1.any.trans k2.any⟩
theorem open1_deep (s : Bs) (h : Sx R g cap T w l fx a 32 c) (hl : l ≠ []) (hp : isP s l = true) : Calls Tryz.prog 94 #[.pointer (some ⟨R, 0, none⟩), .int .i64 1, .string ⟨s.toArray⟩] w fun e w' => e = DiesY (atT l, 61) ∧ Kp (Own1 R) w w' := by
  have X := see_any s h hl
  rw [hp] at X
  go_enter Tryz.func94, Tryz.ntmps94
  go_wp2_with (first
    | (go_at_call 89; refine (yfault_any _ (h.non k1) hl).mono ?_; rintro e w3 ⟨rfl, k3⟩)
    | (go_at_call 55; refine (yneed_yes _).mono ?_; rintro e w2 ⟨rfl, rfl⟩)
    | (go_at_call 59; refine X.mono ?_; rintro e w1 ⟨rfl, k1⟩; have cF := (h.non k1).c4))
  exact ⟨rfl, rfl, k1.any.trans k3.any⟩

set_option maxHeartbeats 2000000 in
/-- One more is open, of kind 2. -/
theorem open2_any (s : Bs) (hs : s ≠ []) (h : Sx R g cap T w l fx a b c) (hl : l ≠ []) (hp : isP s l = true) (hd : c < 32) : Calls Tryz.prog 94 #[.pointer (some ⟨R, 0, none⟩), .int .i64 2, .string ⟨s.toArray⟩] w fun e w' => e = .returned (.tuple #[]) ∧ Sx R g cap T w' l.tail fx a b (c + 1) ∧ l.tail ≠ [] ∧ Kp (Own1 R) w w' := by
  have X := see_any s h hl
  rw [hp] at X
  have hne := h.next hs hp
  have hle := h.le
  have hpos := isP_pos hp
  have hsm := h.full.small
  have hdI : ((c : Nat) : Int) < 32 := by omega
  have hd0 : (0 : Int) ≤ ((c : Nat) : Int) := by omega
  have hd32 : (((c : Nat) : Int) == 32) = false := by rw [beq_eq_false_iff_ne]; omega
  have hA2 : ((T.length - l.length : Nat) : Int) ≤ 2049 := by omega
  have hA0 : (0 : Int) ≤ ((T.length - l.length : Nat) : Int) := by omega
  have HM : ∀ w1, Kp Non w w1 → Hid (Sx R g cap T ((w1.setCell ⟨R, 5, none⟩ (.int .i64 (((c : Nat) : Int) + 1))).setCell ⟨R, 1, none⟩ (.int .i64 (((T.length - l.length : Nat) : Int) + 1))) l.tail fx a b (c + 1)) := fun w1 k =>
    ((h.non k).set5 _ (c + 1) (by omega) (by omega)).move (List.tail_suffix l) _ (by rw [List.length_tail]; omega)
  go_enter Tryz.func94, Tryz.ntmps94
  go_wp2_with (first
    | (go_at_call 55; refine (yneed_yes _).mono ?_; rintro e w2 ⟨rfl, rfl⟩)
    | (go_at_call 59; refine X.mono ?_; rintro e w1 ⟨rfl, k1⟩; have cF := (h.non k1).c5; have c1 := (h.non k1).c1; have fF := (h.non k1).free 5; have f1 := (h.non k1).free 1; have HM1 := HM w1 k1; clear HM; generalize T.length - l.length = A at *))
  go_region
  all_goals go_wp2
  all_goals go_end0
  all_goals exact ⟨rfl, by first | exact HM1.out | exact HM1.out.drew | exact HM1.out.drewN 1, hne, by first | exact (k1.any.trans ((Kp.own R 5 _).trans (Kp.own R 1 _))).drew | exact (k1.any.trans ((Kp.own R 5 _).trans (Kp.own R 1 _))).drewN _⟩
theorem open2_shut (s : Bs) (h : Sx R g cap T w l fx a b c) (hl : l ≠ []) (hp : isP s l = false) : Calls Tryz.prog 94 #[.pointer (some ⟨R, 0, none⟩), .int .i64 2, .string ⟨s.toArray⟩] w fun e w' => e = DiesY (atT l, 60) ∧ Kp (Own1 R) w w' := by
  have X := see_any s h hl
  rw [hp] at X
  go_enter Tryz.func94, Tryz.ntmps94
  go_wp2_with (first
    | (go_at_call 55; refine (need_dies (h.non k1) hl).mono ?_; rintro e w2 ⟨rfl, k2⟩)
    | (go_at_call 59; refine X.mono ?_; rintro e w1 ⟨rfl, k1⟩))
  exact ⟨rfl, rfl, k1.any.trans k2.any⟩
theorem open2_deep (s : Bs) (h : Sx R g cap T w l fx a b 32) (hl : l ≠ []) (hp : isP s l = true) : Calls Tryz.prog 94 #[.pointer (some ⟨R, 0, none⟩), .int .i64 2, .string ⟨s.toArray⟩] w fun e w' => e = DiesY (atT l, 61) ∧ Kp (Own1 R) w w' := by
  have X := see_any s h hl
  rw [hp] at X
  go_enter Tryz.func94, Tryz.ntmps94
  go_wp2_with (first
    | (go_at_call 89; refine (yfault_any _ (h.non k1) hl).mono ?_; rintro e w3 ⟨rfl, k3⟩)
    | (go_at_call 55; refine (yneed_yes _).mono ?_; rintro e w2 ⟨rfl, rfl⟩)
    | (go_at_call 59; refine X.mono ?_; rintro e w1 ⟨rfl, k1⟩; have cF := (h.non k1).c5))
  exact ⟨rfl, rfl, k1.any.trans k3.any⟩
end
end Go.Proofs.YthficamlgngaaaaGreatDoor
namespace Go.Proofs.YthficamlgngaaaaGreatDoor
open Go Go.RowKit

/-- In this world, in these blocks, the value holds this cell of a tree. -/
inductive At (w : World) (D : Nat → Prop) : CT → Value → Prop
  | lf (v : Value) : At w D (.lf v) v
  | nil (E sz : Nat) : At w D (.rw E sz 0 []) (.slice none 0 0)
  | row {E sz n q cp : Nat} {ys : List CT} {cur : Array Value} (hb : w.heap[q]? = some (.cells cur E (0, 0))) (hD : D q) (hn : n ≤ cp) (hl : ys.length = n * sz) (hc : n * sz ≤ cur.size)
      (hy : ∀ (j : Nat) y u, ys[j]? = some y → cur[j]? = some u → At w D y u) : At w D (.rw E sz n ys) (.slice (some ⟨q, 0, none⟩) n cp)
theorem At.keep {w w' : World} {D : Nat → Prop} {y : CT} {u : Value} (h : At w D y u) (hk : ∀ k, D k → w'.heap[k]? = w.heap[k]?) : At w' D y u := by
  induction h with
  | lf v => exact .lf v
  | nil E sz => exact .nil E sz
  | row hb hD hn hl hc _ ih => exact .row ((hk _ hD).trans hb) hD hn hl hc ih
theorem At.mono {w : World} {D D' : Nat → Prop} {y : CT} {u : Value} (h : At w D y u) (hk : ∀ k, D k → D' k) : At w D' y u := by
  induction h with
  | lf v => exact .lf v
  | nil E sz => exact .nil E sz
  | row hb hD hn hl hc _ ih => exact .row hb (hk _ hD) hn hl hc ih
/-- The same, cell by cell. -/
structure Ats (w : World) (D : Nat → Prop) (ys : List CT) (us : List Value) : Prop where
  len : ys.length = us.length
  all : ∀ (j : Nat) y u, ys[j]? = some y → us[j]? = some u → At w D y u
theorem Ats.keep {w w' : World} {D : Nat → Prop} {ys : List CT} {us : List Value} (h : Ats w D ys us) (hk : ∀ k, D k → w'.heap[k]? = w.heap[k]?) : Ats w' D ys us := ⟨h.len, fun j y u h1 h2 => (h.all j y u h1 h2).keep hk⟩
theorem Ats.mono {w : World} {D D' : Nat → Prop} {ys : List CT} {us : List Value} (h : Ats w D ys us) (hk : ∀ k, D k → D' k) : Ats w D' ys us := ⟨h.len, fun j y u h1 h2 => (h.all j y u h1 h2).mono hk⟩
theorem Ats.nil {w : World} {D : Nat → Prop} : Ats w D [] [] := ⟨rfl, fun j y u h => by simp at h⟩
theorem Ats.cons {w : World} {D : Nat → Prop} {y : CT} {u : Value} {ys : List CT} {us : List Value} (h0 : At w D y u) (h : Ats w D ys us) : Ats w D (y :: ys) (u :: us) := by
  refine ⟨by simp [h.len], fun j x v h1 h2 => ?_⟩
  cases j with
  | zero => simp at h1 h2; subst h1 h2; exact h0
  | succ j => exact h.all j x v (by simpa using h1) (by simpa using h2)
theorem Ats.append {w : World} {D : Nat → Prop} {ys zs : List CT} {us vs : List Value} (h1 : Ats w D ys us) (h2 : Ats w D zs vs) : Ats w D (ys ++ zs) (us ++ vs) := by
  refine ⟨by simp [h1.len, h2.len], fun j x v hx hv => ?_⟩
  by_cases hj : j < ys.length
  · rw [List.getElem?_append_left hj] at hx
    rw [List.getElem?_append_left (by rw [← h1.len]; exact hj)] at hv
    exact h1.all j x v hx hv
  · rw [List.getElem?_append_right (by omega)] at hx
    rw [List.getElem?_append_right (by rw [← h1.len]; omega), ← h1.len] at hv
    exact h2.all _ x v hx hv
abbrev Iv (lo hi : Nat) : Nat → Prop := fun k => lo ≤ k ∧ k < hi
theorem Ats.later {w w' : World} {S : Nat → Prop} {lo hi lo' hi' : Nat} {ys : List CT} {us : List Value} (h : Ats w (Iv lo hi) ys us) (k : Kp S w w') (hh : hi ≤ w.heap.size) (hS : ∀ k, lo ≤ k → k < hi → ¬ S k) (h1 : lo' ≤ lo) (h2 : hi ≤ hi') : Ats w' (Iv lo' hi') ys us :=
  (h.keep (fun j hj => k.block j (by omega) (hS j hj.1 hj.2))).mono (fun j hj => ⟨Nat.le_trans h1 hj.1, Nat.lt_of_lt_of_le hj.2 h2⟩)
theorem At.later {w w' : World} {S : Nat → Prop} {lo hi lo' hi' : Nat} {y : CT} {u : Value} (h : At w (Iv lo hi) y u) (k : Kp S w w') (hh : hi ≤ w.heap.size) (hS : ∀ k, lo ≤ k → k < hi → ¬ S k) (h1 : lo' ≤ lo) (h2 : hi ≤ hi') : At w' (Iv lo' hi') y u :=
  (h.keep (fun j hj => k.block j (by omega) (hS j hj.1 hj.2))).mono (fun j hj => ⟨Nat.le_trans h1 hj.1, Nat.lt_of_lt_of_le hj.2 h2⟩)

theorem Kp.trans2 {S S' : Nat → Prop} {a b c : World} (h : Kp S a b) (h' : Kp S' b c) (hS : ∀ k, k < a.heap.size → S' k → S k) : Kp S a c :=
  ⟨h'.os.trans h.os, h'.tape.trans h.tape, h'.output.trans h.output, Nat.le_trans h.size h'.size, fun k hk hn => (h'.block k (Nat.lt_of_lt_of_le hk h.size) (fun e => hn (hS k hk e))).trans (h.block k hk hn)⟩
theorem Kp.grew {S : Nat → Prop} {a b c : World} {v : Value} (h : Kp S a b) (hg : b.grownBy c v.ownBlock) (hS : ∀ k, v.ownBlock = some k → a.heap.size ≤ k ∨ S k) : Kp S a c := by
  refine ⟨hg.os.trans h.os, hg.tape.trans h.tape, hg.output.trans h.output, Nat.le_trans h.size hg.size, fun k hk hn => ?_⟩
  refine (hg.block k (Nat.lt_of_lt_of_le hk h.size) (fun e => ?_)).trans (h.block k hk hn)
  rcases hS k e.symm with h1 | h1
  · omega
  · exact hn h1
theorem own_keep {w w' : World} {B E sz n : Nat} {v : Value} {xs : List Value} (h : w.ownsRow B E sz v n xs) (hk : ∀ q, v.ownBlock = some q → w'.heap[q]? = w.heap[q]?) : w'.ownsRow B E sz v n xs := by
  refine ⟨h.1, ?_⟩
  rcases h.2 with h2 | ⟨q, cp, cur, hv, hb, hg, r⟩
  · exact Or.inl h2
  · exact Or.inr ⟨q, cp, cur, hv, hb, (hk q (by rw [hv]; rfl)).trans hg, r⟩
theorem own_block {w : World} {B E sz n : Nat} {v : Value} {xs : List Value} (h : w.ownsRow B E sz v n xs) {q : Nat} (hq : v.ownBlock = some q) : B ≤ q ∧ q < w.heap.size := by
  rcases h.2 with ⟨rfl, _⟩ | ⟨q', cp, cur, hv, hb, hg, _⟩
  · cases hq
  · rw [hv] at hq
    have e : q' = q := by simpa [Value.ownBlock] using hq
    subst e
    exact ⟨hb, lt_of_block hg⟩

/-- Where the variable V, the box P, the reader R and its tokens g lie: below B, apart. -/
structure Pl (R g V P B : Nat) : Prop where
  bR : R < B
  bg : g < B
  bV : V < B
  bP : P < B
  VR : V ≠ R
  Vg : V ≠ g
  PR : P ≠ R
  VP : V ≠ P
/-- A row that grows in the cell i of the variable V. -/
structure Js (R V P B : Nat) (cur : Array Value) (ty tp : TypeId) (i E sz : Nat) (w : World) (els : List (List CT)) (lv : Value) (xs : List Value) (D : Nat → Prop) : Prop where
  var : w.heap[V]? = some (.cells (cur.setIfInBounds i lv) ty (0, 0))
  box : w.heap[P]? = some (.cells #[.pointer (some ⟨R, 0, none⟩)] tp (0, 0))
  own : w.ownsRow B E sz lv els.length xs
  ats : Ats w D els.flatten xs
  far : ∀ k, D k → B ≤ k ∧ k < w.heap.size ∧ lv.ownBlock ≠ some k
  size : B ≤ w.heap.size
section
variable {R g V P B : Nat} {cur : Array Value} {ty tp : TypeId} {i E sz : Nat} {w : World} {els : List (List CT)} {lv : Value} {xs : List Value} {D : Nat → Prop}
theorem Js.kp {w' : World} (h : Js R V P B cur ty tp i E sz w els lv xs D) (pl : Pl R g V P B) (k : Kp (Own1 R) w w') : Js R V P B cur ty tp i E sz w' els lv xs D where
  var := (k.block V (lt_of_block h.var) pl.VR).trans h.var
  box := (k.block P (lt_of_block h.box) pl.PR).trans h.box
  own := own_keep h.own (fun q hq => k.block q (own_block h.own hq).2 (fun e => by have := (own_block h.own hq).1; have := pl.bR; have e' : q = R := e; omega))
  ats := h.ats.keep (fun q hq => k.block q (h.far q hq).2.1 (fun e => by have := (h.far q hq).1; have := pl.bR; have e' : q = R := e; omega))
  far := fun q hq => ⟨(h.far q hq).1, Nat.lt_of_lt_of_le (h.far q hq).2.1 k.size, (h.far q hq).2.2⟩
  size := Nat.le_trans h.size k.size
theorem Js.slice (h : Js R V P B cur ty tp i E sz w els lv xs D) : ∃ o c, lv = .slice o els.length c := by
  rcases h.own.2 with ⟨h1, h2⟩ | ⟨q, cp, cu, hv, _⟩
  · exact ⟨none, 0, by rw [h1, h2]⟩
  · exact ⟨_, _, hv⟩
theorem Js.cell (h : Js R V P B cur ty tp i E sz w els lv xs D) (hi : i < cur.size) : w.cell? ⟨V, i, none⟩ = some lv := by
  simp [World.cell?, h.var, hi]
theorem Js.free (h : Js R V P B cur ty tp i E sz w els lv xs D) (j : Nat) : w.frozen? ⟨V, j, none⟩ = false := frozen_of_row w V j _ _ h.var
theorem Js.ptr (h : Js R V P B cur ty tp i E sz w els lv xs D) : w.cell? ⟨P, 0, none⟩ = some (.pointer (some ⟨R, 0, none⟩)) := by
  simp [World.cell?, h.box]
theorem Js.var2 {W w1 W2 w2 : World} (h : Js R V P B cur ty tp i E sz w els lv xs D) (pl : Pl R g V P B) (hW : Kp Non w W) (hk : Kp (Own1 R) W w1) (hW2 : Kp Non w1 W2) (hgr : W2.grownBy w2 lv.ownBlock) : w2.heap[V]? = some (.cells (cur.setIfInBounds i lv) ty (0, 0)) := by
  have hv := lt_of_block h.var
  have z1 := hW.size
  have z2 := hk.size
  have z3 := hW2.size
  have p2 := pl.bV
  exact (hgr.block V (by omega) (fun e => by have := (own_block h.own e.symm).1; omega)).trans ((hW2.block V (by omega) (fun e => e)).trans ((hk.block V (by omega) pl.VR).trans ((hW.block V hv (fun e => e)).trans h.var)))
/-- One more element, which lies in De: a place for it taken from W2 to w2, laid, and the variable set, in w4. -/
theorem Js.pushG {w1 W2 w2 w4 : World} {el : List CT} {us : List Value} {q cp : Nat} {De : Nat → Prop} (h : Js R V P B cur ty tp i E sz w els lv xs D) (pl : Pl R g V P B) (hk : Kp (Own1 R) w w1)
    (hel : Ats w1 De el us) (hDe : ∀ k, De k → B ≤ k ∧ k < w1.heap.size ∧ lv.ownBlock ≠ some k) (hW2 : Kp Non w1 W2) (hgr : W2.grownBy w2 lv.ownBlock) (hat : lv.ownBlock = some q ∨ W2.heap.size ≤ q) (h4 : Kp (fun k => k = q ∨ k = V) w2 w4)
    (var4 : w4.heap[V]? = some (.cells (cur.setIfInBounds i (.slice (some ⟨q, 0, none⟩) (els.length + 1) cp)) ty (0, 0)))
    (own4 : w4.ownsRow B E sz (.slice (some ⟨q, 0, none⟩) (els.length + 1) cp) (els.length + 1) (xs ++ us)) :
    Js R V P B cur ty tp i E sz w4 (els ++ [el]) (.slice (some ⟨q, 0, none⟩) (els.length + 1) cp) (xs ++ us) (fun k => D k ∨ De k) ∧
    Kp (fun k => k = R ∨ k = V ∨ lv.ownBlock = some k) w w4 := by
  have z0 := h.size
  have z2 := hk.size
  have z3 := hW2.size
  have z4 := hgr.size
  have z5 := h4.size
  have hold : ∀ k, lv.ownBlock = some k → B ≤ k ∧ k < w.heap.size := fun k e => own_block h.own e
  have hBq : B ≤ q := (own_block own4 rfl).1
  have p1 := pl.bR; have p2 := pl.bV; have p3 := pl.bP
  have M : ∀ k, k < w1.heap.size → k ≠ q → k ≠ V → lv.ownBlock ≠ some k → w4.heap[k]? = w1.heap[k]? := fun k hk hq hV ho =>
    (h4.block k (by omega) (by rintro (e | e); exact hq e; exact hV e)).trans ((hgr.block k (by omega) (fun e => ho e.symm)).trans (hW2.block k hk (fun e => e)))
  have M0 : ∀ k, k < w.heap.size → k ≠ R → w1.heap[k]? = w.heap[k]? := fun k hk0 hR => hk.block k hk0 hR
  have hq2 : ∀ k, D k → k ≠ q := fun k hd e => by
    subst e
    rcases hat with e | e
    · exact (h.far k hd).2.2 e
    · have := (h.far k hd).2.1; omega
  have hq3 : ∀ k, De k → k ≠ q := fun k hd e => by
    subst e
    rcases hat with e | e
    · exact (hDe k hd).2.2 e
    · have := (hDe k hd).2.1; omega
  refine ⟨⟨var4, ?_, ?_, ?_, ?_, ?_⟩, ?_⟩
  · exact (M P (by have := lt_of_block h.box; omega) (by omega) (fun e => pl.VP e.symm) (fun e => by have := (hold P e).1; omega)).trans ((M0 P (lt_of_block h.box) pl.PR).trans h.box)
  · rw [List.length_append]
    exact own4
  · rw [List.flatten_append]
    refine Ats.append ((h.ats.keep (fun k hd => ?_)).mono (fun k hd => Or.inl hd)) (((by simpa using hel : Ats w1 De [el].flatten us).keep (fun k hd => ?_)).mono (fun k hd => Or.inr hd))
    · have f := h.far k hd
      exact (M k (by omega) (hq2 k hd) (by omega) f.2.2).trans (M0 k f.2.1 (by omega))
    · have f := hDe k hd
      exact M k f.2.1 (hq3 k hd) (by omega) f.2.2
  · intro k hd
    rcases hd with hd | hd
    · have f := h.far k hd
      exact ⟨f.1, by omega, fun e => hq2 k hd (by simpa [Value.ownBlock] using e.symm)⟩
    · have f := hDe k hd
      exact ⟨f.1, by omega, fun e => hq3 k hd (by simpa [Value.ownBlock] using e.symm)⟩
  · omega
  · have K1 : Kp (fun k => k = R ∨ k = V ∨ lv.ownBlock = some k) w w1 := hk.mono (fun k _ e => Or.inl e)
    have K2 := (K1.trans hW2.any).grew hgr (fun k e => Or.inr (Or.inr (Or.inr e)))
    refine K2.trans2 h4 (fun k hk e => ?_)
    rcases e with e | e
    · subst e
      rcases hat with e | e
      · exact Or.inr (Or.inr e)
      · omega
    · exact Or.inr (Or.inl e)
/-- One more element: read from W to w1, a place for it taken from W2 to w2, laid, and the variable set, in w4. -/
theorem Js.push {W w1 W2 w2 w4 : World} {el : List CT} {us : List Value} {q cp : Nat} (h : Js R V P B cur ty tp i E sz w els lv xs D) (pl : Pl R g V P B) (hW : Kp Non w W) (hk : Kp (Own1 R) W w1)
    (hel : Ats w1 (Iv W.heap.size w1.heap.size) el us) (hW2 : Kp Non w1 W2) (hgr : W2.grownBy w2 lv.ownBlock) (hat : lv.ownBlock = some q ∨ W2.heap.size ≤ q) (h4 : Kp (fun k => k = q ∨ k = V) w2 w4)
    (var4 : w4.heap[V]? = some (.cells (cur.setIfInBounds i (.slice (some ⟨q, 0, none⟩) (els.length + 1) cp)) ty (0, 0)))
    (own4 : w4.ownsRow B E sz (.slice (some ⟨q, 0, none⟩) (els.length + 1) cp) (els.length + 1) (xs ++ us)) :
    Js R V P B cur ty tp i E sz w4 (els ++ [el]) (.slice (some ⟨q, 0, none⟩) (els.length + 1) cp) (xs ++ us) (fun k => D k ∨ Iv W.heap.size w1.heap.size k) ∧
    Kp (fun k => k = R ∨ k = V ∨ lv.ownBlock = some k) w w4 :=
  h.pushG pl (hW.any.trans hk) hel (fun k hd => ⟨by have := hd.1; have := h.size; have := hW.size; omega, hd.2, fun e => by have := (own_block h.own e).2; have := hd.1; have := hW.size; omega⟩) hW2 hgr hat h4 var4 own4
/-- Another row of the same variable grew. -/
theorem Js.other {w' : World} {ov : Value} {cur' : Array Value} (h : Js R V P B cur ty tp i E sz w els lv xs D) (pl : Pl R g V P B) (k : Kp (fun k => k = R ∨ k = V ∨ ov.ownBlock = some k) w w') (hv : w'.heap[V]? = some (.cells (cur'.setIfInBounds i lv) ty (0, 0)))
    (ho : ∀ q, ov.ownBlock = some q → B ≤ q ∧ lv.ownBlock ≠ some q ∧ ¬ D q) : Js R V P B cur' ty tp i E sz w' els lv xs D where
  var := hv
  box := (k.block P (lt_of_block h.box) (by have := pl.bP; rintro (e | e | e); exact pl.PR e; exact pl.VP e.symm; have := (ho P e).1; omega)).trans h.box
  own := own_keep h.own (fun q hq => k.block q (own_block h.own hq).2 (by have := (own_block h.own hq).1; have := pl.bR; have := pl.bV; rintro (e | e | e); omega; omega; exact (ho q e).2.1 hq))
  ats := h.ats.keep (fun q hq => k.block q (h.far q hq).2.1 (by have := (h.far q hq).1; have := pl.bR; have := pl.bV; rintro (e | e | e); omega; omega; exact (ho q e).2.2 hq))
  far := fun q hq => ⟨(h.far q hq).1, Nat.lt_of_lt_of_le (h.far q hq).2.1 k.size, (h.far q hq).2.2⟩
  size := Nat.le_trans h.size k.size
end
end Go.Proofs.YthficamlgngaaaaGreatDoor
