/- Escapes; a string read to its end. -/
import Derived.Test.YtlabcadpkdgjnaaGreatDoorLxJ
namespace Go.Proofs.YtlabcadpkdgjnaaGreatDoor
open Go Go.RowKit

theorem encode_le (c : Int) : (Utf8.encode c).data.toList.length ≤ 4 := by
  unfold Utf8.encode
  simp only []
  repeat' split
  all_goals simp
theorem unitS_le (V : Nat) : (unitS V).length ≤ 4 := by
  by_cases hh : 55296 ≤ V ∧ V ≤ 57343
  · rw [show unitS V = halfS V from if_pos hh]; simp [halfS]
  · rw [unitS_else V hh]; exact encode_le _
theorem nmbS_facts {l t r : Bs} (h : nmbS l = some (t, r)) : t.length ≤ 4 ∧ r.length < l.length ∧ r <:+ l := by
  match l, h with
  | [], h => cases h
  | [_], h => cases h
  | [_, _], h => cases h
  | [_, _, _], h => cases h
  | x0 :: x1 :: x2 :: x3 :: q, h =>
    rw [nmbS_eq] at h
    cases hx : hexF [x0, x1, x2, x3] 0 with
    | none => rw [hx] at h; cases h
    | some V =>
      rw [hx, Option.map_some] at h
      injection h with h
      injection h with h1 h2
      subst h1 h2
      exact ⟨unitS_le V, by simp only [List.length_cons]; omega, ⟨[x0, x1, x2, x3], rfl⟩⟩
theorem escS_facts {l t r : Bs} (h : escS l = some (t, r)) : t.length ≤ 4 ∧ r.length < l.length ∧ r <:+ l := by
  unfold escS at h
  by_cases hp : List.isPrefixOf [117] l = true
  · rw [if_pos hp] at h
    obtain ⟨h1, h2, h3⟩ := nmbS_facts h
    rw [List.length_drop] at h2
    exact ⟨h1, by omega, h3.trans (drop_suf 1 l)⟩
  · rw [if_neg hp] at h
    cases l with
    | nil => cases h
    | cons c l =>
      simp only at h
      by_cases hc : escL.contains c = true
      · rw [if_pos hc] at h
        injection h with h
        injection h with h1 h2
        subst h1 h2
        exact ⟨by simp, by simp, tail_suf c l⟩
      · rw [if_neg hc] at h; cases h
/-- A string behind its first quote. -/
def lineS (l : Bs) : Option (Bs × Bs) := lineF (l.length + 1) l
theorem lineF_fuel : ∀ (n m : Nat) (l : Bs), l.length < n → l.length < m → lineF n l = lineF m l
  | 0, _, _, h, _ => absurd h (Nat.not_lt_zero _)
  | _ + 1, 0, _, _, h => absurd h (Nat.not_lt_zero _)
  | n + 1, m + 1, l, hn, hm => by
    unfold lineF
    by_cases h1 : List.isPrefixOf [34] l = true
    · rw [if_pos h1, if_pos h1]
    · rw [if_neg h1, if_neg h1]
      by_cases h2 : List.isPrefixOf [92] l = true
      · rw [if_pos h2, if_pos h2]
        cases he : escS (l.drop 1) with
        | none => rfl
        | some p =>
          have := (escS_facts (show escS (l.drop 1) = some (p.1, p.2) from he)).2.1
          rw [List.length_drop] at this
          simp only [Option.bind_some]
          rw [lineF_fuel n m p.2 (by omega) (by omega)]
      · rw [if_neg h2, if_neg h2]
        cases l with
        | nil => rfl
        | cons c r =>
          simp only [List.length_cons] at hn hm
          simp only
          rw [lineF_fuel n m r (by omega) (by omega)]
theorem lineS_esc {l : Bs} (h1 : List.isPrefixOf [34] l = false) (h2 : List.isPrefixOf [92] l = true) : lineS l = (escS (l.drop 1)).bind fun p => (lineS p.2).map fun q => (p.1 ++ q.1, q.2) := by
  show lineF (l.length + 1) l = _
  unfold lineF
  rw [if_neg (by rw [h1]; simp), if_pos h2]
  cases he : escS (l.drop 1) with
  | none => rfl
  | some p =>
    have := (escS_facts (show escS (l.drop 1) = some (p.1, p.2) from he)).2.1
    rw [List.length_drop] at this
    simp only [Option.bind_some]
    rw [lineF_fuel l.length (p.2.length + 1) p.2 (by omega) (by omega)]
    rfl
theorem lineS_stop {l : Bs} (h1 : List.isPrefixOf [34] l = true) : lineS l = some ([], l.drop 1) := by
  show lineF (l.length + 1) l = _
  unfold lineF
  rw [if_pos h1]
theorem lineS_nil : lineS [] = none := rfl
theorem lineS_end {c : UInt8} {r : Bs} (h1 : List.isPrefixOf [34] (c :: r) = false) (h2 : List.isPrefixOf [92] (c :: r) = false) (h3 : endL.contains c = true) : lineS (c :: r) = none := by
  show lineF ((c :: r).length + 1) (c :: r) = _
  unfold lineF
  rw [if_neg (by rw [h1]; simp), if_neg (by rw [h2]; simp)]
  show (if endL.contains c then _ else _) = _
  rw [if_pos h3]
theorem lineS_chr {c : UInt8} {r : Bs} (h1 : List.isPrefixOf [34] (c :: r) = false) (h2 : List.isPrefixOf [92] (c :: r) = false) (h3 : endL.contains c = false) : lineS (c :: r) = (lineS r).map fun q => (c :: q.1, q.2) := by
  show lineF ((c :: r).length + 1) (c :: r) = _
  unfold lineF
  rw [if_neg (by rw [h1]; simp), if_neg (by rw [h2]; simp)]
  show (if endL.contains c then _ else _) = _
  rw [if_neg (by rw [h3]; simp)]
  rfl
section
variable {R : Nat} {s : Bs} {b : Nat}

theorem said_at (c : UInt8) (h : escL.contains c = true) : ∃ i : Nat, i < 8 ∧ Lib.indexByte escL c = (i : Int) ∧ (ByteArray.mk #[34, 92, 47, 8, 12, 10, 13, 9]).extract i (i + 1) = ⟨#[saidL.getD (escL.idxOf c) 0]⟩ := by
  have h' : c = 34 ∨ c = 92 ∨ c = 47 ∨ c = 98 ∨ c = 102 ∨ c = 110 ∨ c = 114 ∨ c = 116 := by
    simpa [escL] using h
  rcases h' with rfl | rfl | rfl | rfl | rfl | rfl | rfl | rfl
  · exact ⟨0, by decide, by decide, by decide⟩
  · exact ⟨1, by decide, by decide, by decide⟩
  · exact ⟨2, by decide, by decide, by decide⟩
  · exact ⟨3, by decide, by decide, by decide⟩
  · exact ⟨4, by decide, by decide, by decide⟩
  · exact ⟨5, by decide, by decide, by decide⟩
  · exact ⟨6, by decide, by decide, by decide⟩
  · exact ⟨7, by decide, by decide, by decide⟩

set_option maxHeartbeats 1000000 in
theorem esc_any (l : Bs) (w : World) (h : Rd w R s b l) : Calls Tryz.prog 125 #[.pointer (some ⟨R, 0, none⟩)] w (StrP R s b w (escS l)) := by
  by_cases hp : List.isPrefixOf [117] l = true
  · have T := take_yes (R := R) (s := s) (b := b) [117] l hp w h
    rw [show escS l = nmbS (l.drop 1) by unfold escS; rw [if_pos hp]]
    have N := fun w h => nmb_any (R := R) (s := s) (b := b) (l.drop 1) w h
    cases hn : nmbS (l.drop 1) with
    | none =>
      rw [hn] at N
      clear hn hp
      go_enter Tryz.func125, Tryz.ntmps125
      go_wp2_with (first
        | (go_at_call 132; refine (N _ hr1).mono ?_; rintro e w2 ⟨rfl, hk2⟩)
        | (go_at_call 75; refine T.mono ?_; rintro e w1 ⟨rfl, hr1, hk1⟩)
        | fail)
      exact ⟨rfl, rfl, hk1.trans hk2⟩
    | some p =>
      rw [hn] at N
      clear hn hp
      go_enter Tryz.func125, Tryz.ntmps125
      go_wp2_with (first
        | (go_at_call 132; refine (N _ hr1).mono ?_; rintro e w2 ⟨⟨rfl, hr2⟩, hk2⟩)
        | (go_at_call 75; refine T.mono ?_; rintro e w1 ⟨rfl, hr1, hk1⟩)
        | fail)
      go_ret
      exact ⟨⟨rfl, hr2⟩, hk1.trans hk2⟩
  · have hp' : List.isPrefixOf [117] l = false := Bool.eq_false_iff.2 hp
    have T := take_no (R := R) (s := s) (b := b) [117] l hp' w h
    by_cases hs : headIn escL l = true
    · cases l with
      | nil => cases hs
      | cons c l =>
        have hc : escL.contains c = true := hs
        obtain ⟨i, hi, hix, hex⟩ := said_at c hc
        rw [show escS (c :: l) = some ([saidL.getD (escL.idxOf c) 0], l) by unfold escS; rw [if_neg hp]; simp only; rw [if_pos hc]]
        have E := sees_is (R := R) (s := s) (b := b) escL (c :: l) true hs
        have Y := fun w h => byte_any (R := R) (s := s) (b := b) c l w h
        have I := fun w => Tryz.strings_IndexByte ⟨escL.toArray⟩ (c.toNat : Int) w
        have e8 : ((c.toNat : Int)).toNat.toUInt8 = c := by simp
        rw [e8] at I
        have I' : ∀ w, Calls Tryz.prog 101 #[.string ⟨escL.toArray⟩, .int .u8 (c.toNat : Int)] w fun e w' => e = .returned (.int .i64 (i : Int)) ∧ w' = w := by
          intro w
          rw [← hix]
          exact I w
        have i0 : (0 : Int) ≤ (i : Int) := by omega
        have i1 : (i : Int) < 8 := by omega
        have i2 : ((i : Int) + 1).toNat = i + 1 := by omega
        clear hix I e8 hi hp hp' hs hc
        generalize saidL.getD (escL.idxOf c) 0 = x at *
        go_enter Tryz.func125, Tryz.ntmps125
        go_wp2_with (first
          | (go_at_call 101; refine (I' _).mono ?_; rintro e w4 ⟨rfl, rfl⟩)
          | (go_at_call 99; refine (Y _ hr2).mono ?_; rintro e w3 ⟨rfl, hr3, hk3⟩)
          | (go_at_call 80; refine (E _ hr1).mono ?_; rintro e w2 ⟨rfl, hr2, hk2⟩)
          | (go_at_call 75; refine T.mono ?_; rintro e w1 ⟨rfl, hr1, hk1⟩)
          | fail)
        go_ret
        exact ⟨⟨rfl, hr3⟩, (hk1.trans hk2).trans hk3⟩
    · have hs' : headIn escL l = false := Bool.eq_false_iff.2 hs
      have E := sees_is (R := R) (s := s) (b := b) escL l false hs'
      rw [show escS l = none by
        unfold escS
        rw [if_neg hp]
        cases l with
        | nil => rfl
        | cons c l => simp only; rw [if_neg (show ¬ escL.contains c = true from hs)]]
      clear hp hp' hs hs'
      go_enter Tryz.func125, Tryz.ntmps125
      go_wp2_with (first
        | (go_at_call 49; refine (fail_any _ _ _ hr2).mono ?_; rintro e w3 ⟨rfl, rfl⟩)
        | (go_at_call 80; refine (E _ hr1).mono ?_; rintro e w2 ⟨rfl, hr2, hk2⟩)
        | (go_at_call 75; refine T.mono ?_; rintro e w1 ⟨rfl, hr1, hk1⟩)
        | fail)
      exact ⟨rfl, rfl, hk1.trans hk2⟩
end
end Go.Proofs.YtlabcadpkdgjnaaGreatDoor
