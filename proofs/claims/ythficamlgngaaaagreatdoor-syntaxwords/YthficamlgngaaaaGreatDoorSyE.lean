/- None or more, one or more, each behind a sign: for whatever reads one. -/
import Derived.Test.YthficamlgngaaaaGreatDoorSyD
namespace Go.Proofs.YthficamlgngaaaaGreatDoor
open Go Go.RowKit

/-- How far the reader is, read off its own cell. -/
def atY (w : World) (R : Nat) : Int := match w.cell? ⟨R, 1, none⟩ with | some (.int _ n) => n | _ => 0
theorem atY_eq {R g cap : Nat} {T : List Tok} {w : World} {l : List Tok} {fx : Bool} {a b c : Nat} (h : Sx R g cap T w l fx a b c) : atY w R = ((T.length - l.length : Nat) : Int) := by
  unfold atY; rw [h.c1]
/-- What one reading by a function value comes to: KK holds of the world where it gives up. -/
def OneR {α : Type} (R g cap : Nat) (T : List Tok) (fx : Bool) (a b c : Nat) (K : Nat) (caps : Array Value) (f : List Tok → Rs α) (J : List α → List Tok → World → Prop) (KK : World → Prop) : Prop :=
  ∀ xs l w, J xs l w → Sx R g cap T w l fx a b c → l ≠ [] → Calls Tryz.prog K caps w fun e w' => (∃ p, f l = .error p ∧ e = DiesY p ∧ KK w') ∨ (∃ x m, f l = .ok (x, m) ∧ e = .returned (.tuple #[]) ∧ J (xs ++ [x]) m w' ∧ Sx R g cap T w' m fx a b c ∧ m ≠ [])
theorem go_more {α : Type} (r : Rs (List α)) (x : α) (ys : List α) : (r.go fun b l2 => .ok (x :: b, l2)).go (fun b l2 => (.ok (ys ++ b, l2) : Rs (List α))) = r.go fun b l2 => .ok ((ys ++ [x]) ++ b, l2) := by
  cases r with
  | error p => rfl
  | ok p => simp [Rs.go]
theorem go_none {α : Type} (r : Rs (List α)) : r = r.go fun b l2 => .ok ([] ++ b, l2) := by
  cases r with
  | error p => rfl
  | ok p => rfl
section
variable {R g cap : Nat} {T : List Tok} {fx : Bool} {a b c : Nat} {α : Type}

set_option maxHeartbeats 1000000 in
set_option maxRecDepth 100000 in
theorem any_any (K : Nat) (caps : Array Value) (hK : ∀ args W, Sem.run Tryz.prog (callFunc K args) W = .ok (.enter K args) W) (last : Bs) (f : List Tok → Rs α) (hf : Eats f) (J : List α → List Tok → World → Prop) (KK : World → Prop)
    (hJ : ∀ xs l m w w', J xs l w → Kp (Own1 R) w w' → m.length ≤ l.length → J xs m w') (one : OneR R g cap T fx a b c K caps f J KK)
    (xs : List α) (l : List Tok) (w : World) (h0 : J xs l w) (h : Sx R g cap T w l fx a b c) (hl : l ≠ []) :
    Calls Tryz.prog 53 #[.pointer (some ⟨R, 0, none⟩), .string ⟨last.toArray⟩, .func (.func K) #[] caps] w fun e w' => (∃ p, anyS f last l = .error p ∧ e = DiesY p ∧ KK w') ∨ (∃ ys m, anyS f last l = .ok (ys, m) ∧ e = .returned (.tuple #[]) ∧ J (xs ++ ys) m w' ∧ Sx R g cap T w' m fx a b c ∧ (last ≠ [] → m ≠ [])) := by
  have HS : Hid (Sx R g cap T w l fx a b c) := h
  have HJ0 : Hid (J xs l w) := h0
  clear h h0
  go_enter Tryz.func53, Tryz.ntmps53
  go_wp2
  go_loopw [] (fun wr => ∃ ys l', J (xs ++ ys) l' wr ∧ Sx R g cap T wr l' fx a b c ∧ l' ≠ [] ∧ anyS f last l = (anyS f last l').go fun b l2 => .ok (ys ++ b, l2)) (fun wr => T.length - (atY wr R).toNat)
  case atStart => exact ⟨[], l, by simpa using HJ0.out, HS.out, hl, go_none _⟩
  case round =>
    obtain ⟨ys, l', hJ', hS', hl', he⟩ := hrel
    have X := ytake_any last hS' hl'
    have ha := atY_eq hS'
    have hle := hS'.le
    have HE : Hid (anyS f last l = (anyS f last l').go fun b l2 => .ok (ys ++ b, l2)) := he
    have HL : ∀ w1, J (xs ++ ys) l' w1 → Sx R g cap T w1 l' fx a b c → _ := fun w1 h1 h2 => one _ _ w1 h1 h2 hl'
    clear he
    have hlen : l' ≠ [] → 0 < l'.length := fun h => List.length_pos_iff.2 h
    go_wp2_with (first
      | (go_at_call 87; refine X.mono ?_; rintro e w1 (⟨hp, rfl, h1, k1⟩ | ⟨hp, rfl, h1, k1⟩)))
    · go_end0
      refine Or.inr ⟨ys, l'.tail, ?_, rfl, hJ _ _ _ _ _ hJ' k1 (by simp), h1, fun hn => hS'.next hn hp⟩
      rw [HE.out, anyS_eq hf, if_pos hp]
      simp [go_ok]
    · refine (HL _ (hJ _ _ _ _ _ hJ' k1 (Nat.le_refl _)) h1).mono ?_
      have hp' : ¬ isP last l' = true := by rw [hp]; simp
      rintro e w2 (⟨p, hq, rfl, k2⟩ | ⟨x, m, hq, rfl, hJ2, h2, n2⟩)
      · refine ⟨rfl, Or.inl ⟨p, ?_, rfl, k2⟩⟩
        rw [HE.out, anyS_eq hf, if_neg hp', hq, go_error, go_error]
      · have hx := hf _ _ _ hq
        have h3 := atY_eq h2
        have h4 := h2.le
        go_wp2
        refine ⟨⟨ys ++ [x], m, by rw [← List.append_assoc]; exact hJ2, h2, n2, ?_⟩, ?_⟩
        · rw [HE.out, anyS_eq hf, if_neg hp', hq, go_ok, go_more]
        · rw [h3, ha]
          simp only [Int.toNat_natCast]
          omega

set_option maxHeartbeats 1000000 in
set_option maxRecDepth 100000 in
theorem some_any (K : Nat) (caps : Array Value) (hK : ∀ args W, Sem.run Tryz.prog (callFunc K args) W = .ok (.enter K args) W) (last : Bs) (f : List Tok → Rs α) (hf : Eats f) (J : List α → List Tok → World → Prop) (KK : World → Prop)
    (hJ : ∀ xs l m w w', J xs l w → Kp (Own1 R) w w' → m.length ≤ l.length → J xs m w') (one : OneR R g cap T fx a b c K caps f J KK)
    (xs : List α) (l : List Tok) (w : World) (h0 : J xs l w) (h : Sx R g cap T w l fx a b c) (hl : l ≠ []) :
    Calls Tryz.prog 33 #[.pointer (some ⟨R, 0, none⟩), .string ⟨last.toArray⟩, .func (.func K) #[] caps] w fun e w' => (∃ p, someS f last l = .error p ∧ e = DiesY p ∧ KK w') ∨ (∃ ys m, someS f last l = .ok (ys, m) ∧ e = .returned (.tuple #[]) ∧ J (xs ++ ys) m w' ∧ Sx R g cap T w' m fx a b c ∧ (last ≠ [] → m ≠ [])) := by
  have X := one xs l w h0 h hl
  have A := any_any K caps hK last f hf J KK hJ one
  clear h h0 one
  go_enter Tryz.func33, Tryz.ntmps33
  go_wp2
  refine X.mono ?_
  rintro e w1 (⟨p, hq, rfl, k1⟩ | ⟨x, m, hq, rfl, hJ1, h1, n1⟩)
  · exact ⟨rfl, Or.inl ⟨p, by unfold someS; rw [hq, go_error], rfl, k1⟩⟩
  · go_wp2_with (go_at_call 53; refine (A _ _ _ hJ1 h1 n1).mono ?_; rintro e w2 (⟨p, hq2, rfl, k2⟩ | ⟨ys, m2, hq2, rfl, hJ2, h2, n2⟩))
    · exact ⟨rfl, Or.inl ⟨p, by unfold someS; rw [hq, go_ok, hq2, go_error], rfl, k2⟩⟩
    · go_end0
      exact Or.inr ⟨x :: ys, m2, by unfold someS; rw [hq, go_ok, hq2, go_ok], rfl, by rw [List.append_assoc] at hJ2; exact hJ2, h2, n2⟩

set_option maxHeartbeats 1000000 in
set_option maxRecDepth 100000 in
theorem led_any (K : Nat) (caps : Array Value) (hK : ∀ args W, Sem.run Tryz.prog (callFunc K args) W = .ok (.enter K args) W) (first : Bs) (hfi : first ≠ []) (f : List Tok → Rs α) (hf : Keeps f) (J : List α → List Tok → World → Prop) (KK : World → Prop)
    (hJ : ∀ xs l m w w', J xs l w → Kp (Own1 R) w w' → m.length ≤ l.length → J xs m w') (one : OneR R g cap T fx a b c K caps f J KK)
    (xs : List α) (l : List Tok) (w : World) (h0 : J xs l w) (h : Sx R g cap T w l fx a b c) (hl : l ≠ []) :
    Calls Tryz.prog 91 #[.pointer (some ⟨R, 0, none⟩), .string ⟨first.toArray⟩, .func (.func K) #[] caps] w fun e w' => (∃ p, ledS f first l = .error p ∧ e = DiesY p ∧ KK w') ∨ (∃ ys m, ledS f first l = .ok (ys, m) ∧ e = .returned (.tuple #[]) ∧ J (xs ++ ys) m w' ∧ Sx R g cap T w' m fx a b c ∧ m ≠ []) := by
  have HS : Hid (Sx R g cap T w l fx a b c) := h
  have HJ0 : Hid (J xs l w) := h0
  clear h h0
  go_enter Tryz.func91, Tryz.ntmps91
  go_wp2
  go_loopw [] (fun wr => ∃ ys l', J (xs ++ ys) l' wr ∧ Sx R g cap T wr l' fx a b c ∧ l' ≠ [] ∧ ledS f first l = (ledS f first l').go fun b l2 => .ok (ys ++ b, l2)) (fun wr => T.length - (atY wr R).toNat)
  case atStart => exact ⟨[], l, by simpa using HJ0.out, HS.out, hl, go_none _⟩
  case round =>
    obtain ⟨ys, l', hJ', hS', hl', he⟩ := hrel
    have X := ytake_any first hS' hl'
    have ha := atY_eq hS'
    have hle := hS'.le
    have HE : Hid (ledS f first l = (ledS f first l').go fun b l2 => .ok (ys ++ b, l2)) := he
    have HL : ∀ w1, isP first l' = true → J (xs ++ ys) l'.tail w1 → Sx R g cap T w1 l'.tail fx a b c → _ := fun w1 hp h1 h2 => one _ _ w1 h1 h2 (hS'.next hfi hp)
    clear he
    go_wp2_with (first
      | (go_at_call 87; refine X.mono ?_; rintro e w1 (⟨hp, rfl, h1, k1⟩ | ⟨hp, rfl, h1, k1⟩)))
    · refine (HL _ hp (hJ _ _ _ _ _ hJ' k1 (by simp)) h1).mono ?_
      rintro e w2 (⟨p, hq, rfl, k2⟩ | ⟨x, m, hq, rfl, hJ2, h2, n2⟩)
      · refine ⟨rfl, Or.inl ⟨p, ?_, rfl, k2⟩⟩
        rw [HE.out, ledS_eq hf, if_pos hp, hq, go_error, go_error]
      · have hx := hf _ _ _ hq
        have h3 := atY_eq h2
        have h4 := h2.le
        have h5 := isP_pos hp
        rw [List.length_tail] at hx
        go_wp2
        refine ⟨⟨ys ++ [x], m, by rw [← List.append_assoc]; exact hJ2, h2, n2, ?_⟩, ?_⟩
        · rw [HE.out, ledS_eq hf, if_pos hp, hq, go_ok, go_more]
        · rw [h3, ha]
          simp only [Int.toNat_natCast]
          omega
    · have hp' : ¬ isP first l' = true := by rw [hp]; simp
      go_end0
      refine Or.inr ⟨ys, l', ?_, rfl, hJ _ _ _ _ _ hJ' k1 (Nat.le_refl _), h1, hl'⟩
      rw [HE.out, ledS_eq hf, if_neg hp']
      simp [go_ok]
end
end Go.Proofs.YthficamlgngaaaaGreatDoor
