/- A block string's raw text, read to its end. -/
import Derived.Test.YtebojfipdcicaaaGreatDoorLxJ
namespace Go.Proofs.YtebojfipdcicaaaGreatDoor
open Go Go.RowKit

theorem encode_le (c : Int) : (Utf8.encode c).data.toList.length ≤ 4 := by
  unfold Utf8.encode
  simp only []
  repeat' split
  all_goals simp
theorem unitS_le (V : Nat) : (unitS V).length ≤ 4 := by
  by_cases hh : 55296 ≤ V ∧ V ≤ 57343
  · rw [show unitS V = halfS V from if_pos hh]; simp [halfS]
  · rw [unitS_else V hh]; exact encode_le _
theorem nmbS_facts {l t r : Bs} (h : nmbS l = some (t, r)) : t.length ≤ 4 ∧ r.length < l.length ∧ r <:+ l := by
  match l, h with
  | [], h => cases h
  | [_], h => cases h
  | [_, _], h => cases h
  | [_, _, _], h => cases h
  | x0 :: x1 :: x2 :: x3 :: q, h =>
    rw [nmbS_eq] at h
    cases hx : hexF [x0, x1, x2, x3] 0 with
    | none => rw [hx] at h; cases h
    | some V =>
      rw [hx, Option.map_some] at h
      injection h with h
      injection h with h1 h2
      subst h1 h2
      exact ⟨unitS_le V, by simp only [List.length_cons]; omega, ⟨[x0, x1, x2, x3], rfl⟩⟩
theorem escS_facts {l t r : Bs} (h : escS l = some (t, r)) : t.length ≤ 4 ∧ r.length < l.length ∧ r <:+ l := by
  unfold escS at h
  by_cases hp : List.isPrefixOf [117] l = true
  · rw [if_pos hp] at h
    obtain ⟨h1, h2, h3⟩ := nmbS_facts h
    rw [List.length_drop] at h2
    exact ⟨h1, by omega, h3.trans (drop_suf 1 l)⟩
  · rw [if_neg hp] at h
    cases l with
    | nil => cases h
    | cons c l =>
      simp only at h
      by_cases hc : escL.contains c = true
      · rw [if_pos hc] at h
        injection h with h
        injection h with h1 h2
        subst h1 h2
        exact ⟨by simp, by simp, tail_suf c l⟩
      · rw [if_neg hc] at h; cases h
/-- A string behind its first quote. -/
def lineS (l : Bs) : Option (Bs × Bs) := lineF (l.length + 1) l
theorem lineF_fuel : ∀ (n m : Nat) (l : Bs), l.length < n → l.length < m → lineF n l = lineF m l
  | 0, _, _, h, _ => absurd h (Nat.not_lt_zero _)
  | _ + 1, 0, _, _, h => absurd h (Nat.not_lt_zero _)
  | n + 1, m + 1, l, hn, hm => by
    unfold lineF
    by_cases h1 : List.isPrefixOf [34] l = true
    · rw [if_pos h1, if_pos h1]
    · rw [if_neg h1, if_neg h1]
      by_cases h2 : List.isPrefixOf [92] l = true
      · rw [if_pos h2, if_pos h2]
        cases he : escS (l.drop 1) with
        | none => rfl
        | some p =>
          have := (escS_facts (show escS (l.drop 1) = some (p.1, p.2) from he)).2.1
          rw [List.length_drop] at this
          simp only [Option.bind_some]
          rw [lineF_fuel n m p.2 (by omega) (by omega)]
      · rw [if_neg h2, if_neg h2]
        cases l with
        | nil => rfl
        | cons c r =>
          simp only [List.length_cons] at hn hm
          simp only
          rw [lineF_fuel n m r (by omega) (by omega)]
theorem lineS_esc {l : Bs} (h1 : List.isPrefixOf [34] l = false) (h2 : List.isPrefixOf [92] l = true) : lineS l = (escS (l.drop 1)).bind fun p => (lineS p.2).map fun q => (p.1 ++ q.1, q.2) := by
  show lineF (l.length + 1) l = _
  unfold lineF
  rw [if_neg (by rw [h1]; simp), if_pos h2]
  cases he : escS (l.drop 1) with
  | none => rfl
  | some p =>
    have := (escS_facts (show escS (l.drop 1) = some (p.1, p.2) from he)).2.1
    rw [List.length_drop] at this
    simp only [Option.bind_some]
    rw [lineF_fuel l.length (p.2.length + 1) p.2 (by omega) (by omega)]
    rfl
theorem lineS_stop {l : Bs} (h1 : List.isPrefixOf [34] l = true) : lineS l = some ([], l.drop 1) := by
  show lineF (l.length + 1) l = _
  unfold lineF
  rw [if_pos h1]
theorem lineS_nil : lineS [] = none := rfl
theorem lineS_end {c : UInt8} {r : Bs} (h1 : List.isPrefixOf [34] (c :: r) = false) (h2 : List.isPrefixOf [92] (c :: r) = false) (h3 : endL.contains c = true) : lineS (c :: r) = none := by
  show lineF ((c :: r).length + 1) (c :: r) = _
  unfold lineF
  rw [if_neg (by rw [h1]; simp), if_neg (by rw [h2]; simp)]
  show (if endL.contains c then _ else _) = _
  rw [if_pos h3]
theorem lineS_chr {c : UInt8} {r : Bs} (h1 : List.isPrefixOf [34] (c :: r) = false) (h2 : List.isPrefixOf [92] (c :: r) = false) (h3 : endL.contains c = false) : lineS (c :: r) = (lineS r).map fun q => (c :: q.1, q.2) := by
  show lineF ((c :: r).length + 1) (c :: r) = _
  unfold lineF
  rw [if_neg (by rw [h1]; simp), if_neg (by rw [h2]; simp)]
  show (if endL.contains c then _ else _) = _
  rw [if_neg (by rw [h3]; simp)]
  rfl
section
variable {R : Nat} {s : Bs} {b : Nat}

theorem said_at (c : UInt8) (h : escL.contains c = true) : ∃ i : Nat, i < 8 ∧ Lib.indexByte escL c = (i : Int) ∧ (ByteArray.mk #[34, 92, 47, 8, 12, 10, 13, 9]).extract i (i + 1) = ⟨#[saidL.getD (escL.idxOf c) 0]⟩ := by
  have h' : c = 34 ∨ c = 92 ∨ c = 47 ∨ c = 98 ∨ c = 102 ∨ c = 110 ∨ c = 114 ∨ c = 116 := by
    simpa [escL] using h
  rcases h' with rfl | rfl | rfl | rfl | rfl | rfl | rfl | rfl
  · exact ⟨0, by decide, by decide, by decide⟩
  · exact ⟨1, by decide, by decide, by decide⟩
  · exact ⟨2, by decide, by decide, by decide⟩
  · exact ⟨3, by decide, by decide, by decide⟩
  · exact ⟨4, by decide, by decide, by decide⟩
  · exact ⟨5, by decide, by decide, by decide⟩
  · exact ⟨6, by decide, by decide, by decide⟩
  · exact ⟨7, by decide, by decide, by decide⟩

set_option maxHeartbeats 1000000 in
theorem esc_any (l : Bs) (w : World) (h : Rd w R s b l) : Calls Tryz.prog 99 #[.pointer (some ⟨R, 0, none⟩)] w (StrP R s b w (escS l)) := by
  by_cases hp : List.isPrefixOf [117] l = true
  · have T := take_yes (R := R) (s := s) (b := b) [117] l hp w h
    rw [show escS l = nmbS (l.drop 1) by unfold escS; rw [if_pos hp]]
    have N := fun w h => nmb_any (R := R) (s := s) (b := b) (l.drop 1) w h
    cases hn : nmbS (l.drop 1) with
    | none =>
      rw [hn] at N
      clear hn hp
      go_enter Tryz.func99, Tryz.ntmps99
      go_wp2_with (first
        | (go_at_call 112; refine (N _ hr1).mono ?_; rintro e w2 ⟨rfl, hk2⟩)
        | (go_at_call 60; refine T.mono ?_; rintro e w1 ⟨rfl, hr1, hk1⟩)
        | fail)
      exact ⟨rfl, rfl, hk1.trans hk2⟩
    | some p =>
      rw [hn] at N
      clear hn hp
      go_enter Tryz.func99, Tryz.ntmps99
      go_wp2_with (first
        | (go_at_call 112; refine (N _ hr1).mono ?_; rintro e w2 ⟨⟨rfl, hr2⟩, hk2⟩)
        | (go_at_call 60; refine T.mono ?_; rintro e w1 ⟨rfl, hr1, hk1⟩)
        | fail)
      go_ret
      exact ⟨⟨rfl, hr2⟩, hk1.trans hk2⟩
  · have hp' : List.isPrefixOf [117] l = false := Bool.eq_false_iff.2 hp
    have T := take_no (R := R) (s := s) (b := b) [117] l hp' w h
    by_cases hs : headIn escL l = true
    · cases l with
      | nil => cases hs
      | cons c l =>
        have hc : escL.contains c = true := hs
        obtain ⟨i, hi, hix, hex⟩ := said_at c hc
        rw [show escS (c :: l) = some ([saidL.getD (escL.idxOf c) 0], l) by unfold escS; rw [if_neg hp]; simp only; rw [if_pos hc]]
        have E := sees_is (R := R) (s := s) (b := b) escL (c :: l) true hs
        have Y := fun w h => byte_any (R := R) (s := s) (b := b) c l w h
        have I := fun w => Tryz.strings_IndexByte ⟨escL.toArray⟩ (c.toNat : Int) w
        have e8 : ((c.toNat : Int)).toNat.toUInt8 = c := by simp
        rw [e8] at I
        have I' : ∀ w, Calls Tryz.prog 80 #[.string ⟨escL.toArray⟩, .int .u8 (c.toNat : Int)] w fun e w' => e = .returned (.int .i64 (i : Int)) ∧ w' = w := by
          intro w
          rw [← hix]
          exact I w
        have i0 : (0 : Int) ≤ (i : Int) := by omega
        have i1 : (i : Int) < 8 := by omega
        have i2 : ((i : Int) + 1).toNat = i + 1 := by omega
        clear hix I e8 hi hp hp' hs hc
        generalize saidL.getD (escL.idxOf c) 0 = x at *
        go_enter Tryz.func99, Tryz.ntmps99
        go_wp2_with (first
          | (go_at_call 80; refine (I' _).mono ?_; rintro e w4 ⟨rfl, rfl⟩)
          | (go_at_call 78; refine (Y _ hr2).mono ?_; rintro e w3 ⟨rfl, hr3, hk3⟩)
          | (go_at_call 65; refine (E _ hr1).mono ?_; rintro e w2 ⟨rfl, hr2, hk2⟩)
          | (go_at_call 60; refine T.mono ?_; rintro e w1 ⟨rfl, hr1, hk1⟩)
          | fail)
        go_ret
        exact ⟨⟨rfl, hr3⟩, (hk1.trans hk2).trans hk3⟩
    · have hs' : headIn escL l = false := Bool.eq_false_iff.2 hs
      have E := sees_is (R := R) (s := s) (b := b) escL l false hs'
      rw [show escS l = none by
        unfold escS
        rw [if_neg hp]
        cases l with
        | nil => rfl
        | cons c l => simp only; rw [if_neg (show ¬ escL.contains c = true from hs)]]
      clear hp hp' hs hs'
      go_enter Tryz.func99, Tryz.ntmps99
      go_wp2_with (first
        | (go_at_call 47; refine (fail_any _ _ _ hr2).mono ?_; rintro e w3 ⟨rfl, rfl⟩)
        | (go_at_call 65; refine (E _ hr1).mono ?_; rintro e w2 ⟨rfl, hr2, hk2⟩)
        | (go_at_call 60; refine T.mono ?_; rintro e w1 ⟨rfl, hr1, hk1⟩)
        | fail)
      exact ⟨rfl, rfl, hk1.trans hk2⟩
end
end Go.Proofs.YtebojfipdcicaaaGreatDoor
namespace Go.Proofs.YtebojfipdcicaaaGreatDoor
open Go Go.RowKit
section
variable {R : Nat} {s : Bs} {b : Nat}
theorem ends_is (l : Bs) (w : World) (h : Rd w R s b l) : Calls Tryz.prog 62 #[.pointer (some ⟨R, 0, none⟩)] w fun e w' => e = .returned (.bool l.isEmpty) ∧ Rd w' R s b l ∧ Kp (Own1 R) w w' := by
  cases l with
  | nil =>
    refine (ends_yes w h).mono ?_
    rintro e w' ⟨rfl, m, rfl⟩
    exact ⟨rfl, h.drewN m, Kp.n w m⟩
  | cons c l =>
    refine (ends_no c l w h).mono ?_
    rintro e w' ⟨rfl, m, rfl⟩
    exact ⟨rfl, h.drewN m, Kp.n w m⟩
abbrev isBl (B : Nat) (acc : Bs) (w : World) : Prop := Lib.IsBuilder 55 5 B B (Lib.byteCells acc) w
theorem ws_any (B : Nat) (acc c : Bs) (w : World) (h : isBl B acc w) (hl : acc.length + c.length ≤ 1048576) (hB : B ≤ w.heap.size) :
    Calls Tryz.prog 32 #[.pointer (some ⟨B, 0, none⟩), .string ⟨c.toArray⟩] w fun e w' => (∃ v, e = .returned v) ∧ isBl B (acc ++ c) w' ∧ Below B w w' := by
  refine (Tryz.Builder_WriteString B B (Lib.byteCells acc) ⟨c.toArray⟩ w h (by rw [size_of, cells_len]; omega) hB).mono ?_
  rintro e w' ⟨rfl, h1, h2⟩
  exact ⟨⟨_, rfl⟩, Or.inr (by rw [cells_app]; exact h1), h2⟩
theorem wb_any (B : Nat) (acc : Bs) (c : UInt8) (w : World) (h : isBl B acc w) (hl : acc.length + 1 ≤ 1048576) (hB : B ≤ w.heap.size) :
    Calls Tryz.prog 30 #[.pointer (some ⟨B, 0, none⟩), .int .u8 (c.toNat : Int)] w fun e w' => (∃ v, e = .returned v) ∧ isBl B (acc ++ [c]) w' ∧ Below B w w' := by
  refine (Tryz.Builder_WriteByte B B (Lib.byteCells acc) (c.toNat : Int) w h (by rw [cells_len]; omega) hB).mono ?_
  rintro e w' ⟨rfl, h1, h2⟩
  exact ⟨⟨_, rfl⟩, Or.inr (by rw [cells_app]; exact h1), h2⟩
/-- The state of a loop that reads on and writes to a Builder. -/
structure LoopS (R : Nat) (s : Bs) (b : Nat) (w : World) (f : Bs → Option (Bs × Bs)) (l1 : Bs) (wr : World) (l' acc : Bs) : Prop where
  rd : Rd wr R s b l'
  eq : (f l').map (fun q => (acc ++ q.1, q.2)) = f l1
  len : acc.length + 4 * l'.length ≤ 65536
  bl : isBl w.heap.size acc wr
  kp : Kp (Own1 R) w wr
theorem LoopS.next {w wr w' : World} {f : Bs → Option (Bs × Bs)} {l1 l' acc m c : Bs} (h : LoopS R s b w f l1 wr l' acc) (hf : f l' = (f m).map fun q => (c ++ q.1, q.2)) (hm : m.length < l'.length) (hc : c.length ≤ 4)
    (hr : Rd w' R s b m) (hb : isBl w.heap.size (acc ++ c) w') (hk : Kp (Own1 R) w w') : LoopS R s b w f l1 w' m (acc ++ c) := by
  refine ⟨hr, ?_, ?_, hb, hk⟩
  · rw [← h.eq, hf]
    cases f m with
    | none => rfl
    | some q => simp [List.append_assoc]
  · have := h.len
    rw [List.length_append]; omega

set_option maxHeartbeats 4000000 in
theorem line_any (l : Bs) (w : World) (h : Rd w R s b l) (hq : List.isPrefixOf [34] l = true) : Calls Tryz.prog 83 #[.pointer (some ⟨R, 0, none⟩)] w (StrP R s b w (lineS (l.drop 1))) := by
  have hR := h.lt
  have T := take_yes (R := R) (s := s) (b := b) [34] l hq _ (h.alloc (.cells #[.pointer none, .slice none 0 0] 55))
  have hB := isB_new w
  have hle := h.le
  have hsm := h.small
  have hk0 : Kp (Own1 R) w (w.alloc (.cells #[.pointer none, .slice none 0 0] 55)) := (Kp.refl _ w).alloc _
  clear h
  go_enter Tryz.func83, Tryz.ntmps83
  go_wp2_with (go_at_call 60; refine T.mono ?_; rintro e w1 ⟨rfl, hr1, hk1⟩)
  go_loopw [26] (fun _ wr => ∃ l' acc, LoopS R s b w lineS (l.drop 1) wr l' acc) (fun _ wr => s.length - (atOf wr R).toNat)
  case atStart =>
    refine ⟨_, [], hr1, ?_, ?_, kp_isB hB hk1 hR, hk0.trans hk1⟩
    · show (lineS (l.drop 1)).map _ = _
      cases lineS (l.drop 1) <;> rfl
    · show 0 + 4 * (l.drop 1).length ≤ 65536
      rw [List.length_drop]; omega
  case round =>
    clear T hr1 hk1 hB hk0 hq hle
    obtain ⟨l', acc, hL⟩ := hrel
    have hr := hL.rd
    have hk := hL.kp
    have hz := hk.size
    have hle' := hr.le
    have hlen := hL.len
    have HA : Hid (atOf wr R = ((s.length - l'.length : Nat) : Int)) := atOf_eq hr
    by_cases h1 : List.isPrefixOf [34] l' = true
    · have T := take_yes (R := R) (s := s) (b := b) [34] l' h1 wr hr
      have S := fun w2 (hb : isBl w.heap.size acc w2) (hz : w.heap.size ≤ w2.heap.size) => Tryz.Builder_String_any w.heap.size w.heap.size acc w2 hb hz
      have HE : Hid (some (acc, l'.drop 1) = lineS (l.drop 1)) := by
        show _ = _
        rw [← hL.eq, lineS_stop h1]
        simp
      have bl := hL.bl
      clear h1 hL
      go_wp2_with (first
        | (go_at_call 33; refine (S _ hb1 (by omega)).mono ?_; rintro e w2 ⟨rfl, hb2⟩)
        | (go_at_call 60; refine T.mono ?_; rintro e w1 ⟨rfl, hr1, hk1⟩; have hb1 := kp_isB bl hk1 hR; have hz1 := hk1.size)
        | fail)
      go_ret
      rw [← HE.out]
      exact ⟨⟨rfl, hr1.below hb2 hR⟩, (hk.trans hk1).then_below hb2⟩
    · have h1' : List.isPrefixOf [34] l' = false := Bool.eq_false_iff.2 h1
      have T := take_no (R := R) (s := s) (b := b) [34] l' h1' wr hr
      by_cases h2 : List.isPrefixOf [92] l' = true
      · have T2 := take_yes (R := R) (s := s) (b := b) [92] l' h2
        have E := fun w h => esc_any (R := R) (s := s) (b := b) (l'.drop 1) w h
        cases he : escS (l'.drop 1) with
        | none =>
          rw [he] at E
          have HE : Hid (none = lineS (l.drop 1)) := by
            show _ = _
            rw [← hL.eq, lineS_esc h1' h2, he]; rfl
          clear he h1 h1' h2 hL
          go_wp2_with (first
            | (go_at_call 99; refine (E _ hr2).mono ?_; rintro e w3 ⟨rfl, hk3⟩)
            | (go_at_call 60; refine (T2 _ hr1).mono ?_; rintro e w2 ⟨rfl, hr2, hk2⟩)
            | (go_at_call 60; refine T.mono ?_; rintro e w1 ⟨rfl, hr1, hk1⟩)
            | fail)
          refine ⟨rfl, ?_⟩
          rw [← HE.out]
          exact ⟨rfl, ((hk.trans hk1).trans hk2).trans hk3⟩
        | some p =>
          rw [he] at E
          obtain ⟨hp1, hp2, _⟩ := escS_facts (show escS (l'.drop 1) = some (p.1, p.2) from he)
          rw [List.length_drop] at hp2
          have hW := fun w2 (hb : isBl w.heap.size acc w2) (hz : w.heap.size ≤ w2.heap.size) => ws_any w.heap.size acc p.1 w2 hb (by omega) hz
          have HN : Hid (lineS l' = (lineS p.2).map fun q => (p.1 ++ q.1, q.2)) := by
            show _ = _
            rw [lineS_esc h1' h2, he]; rfl
          have HL : Hid (LoopS R s b w lineS (l.drop 1) wr l' acc) := hL
          have bl := hL.bl
          clear he h1 h1' h2 hL
          go_wp2_with (first
            | (go_at_call 32; refine (hW _ hb3 (by omega)).mono ?_; rintro e w4 ⟨⟨v4, rfl⟩, bl4, hb4⟩)
            | (go_at_call 99; refine (E _ hr2).mono ?_; rintro e w3 ⟨⟨rfl, hr3⟩, hk3⟩; have hb3 := kp_isB (kp_isB (kp_isB bl hk1 hR) hk2 hR) hk3 hR; have hz3 := ((hk1.trans hk2).trans hk3).size)
            | (go_at_call 60; refine (T2 _ hr1).mono ?_; rintro e w2 ⟨rfl, hr2, hk2⟩)
            | (go_at_call 60; refine T.mono ?_; rintro e w1 ⟨rfl, hr1, hk1⟩)
            | fail)
          have hr4 := hr3.below hb4 hR
          refine ⟨⟨_, _, HL.out.next HN.out (by omega) hp1 hr4 bl4 ((((hk.trans hk1).trans hk2).trans hk3).then_below hb4)⟩, ?_⟩
          rw [atOf_eq hr4, HA.out]
          simp only [Int.toNat_natCast]
          omega
      · have h2' : List.isPrefixOf [92] l' = false := Bool.eq_false_iff.2 h2
        have T2 := take_no (R := R) (s := s) (b := b) [92] l' h2'
        have E := fun w h => ends_is (R := R) (s := s) (b := b) l' w h
        cases l' with
        | nil =>
          have HE : Hid (none = lineS (l.drop 1)) := by
            show _ = _
            rw [← hL.eq]; rfl
          clear h1 h1' h2 h2' hL
          go_wp2_with (first
            | (go_at_call 47; refine (fail_any _ _ _ hr3).mono ?_; rintro e w4 ⟨rfl, rfl⟩)
            | (go_at_call 62; refine (E _ hr2).mono ?_; rintro e w3 ⟨rfl, hr3, hk3⟩)
            | (go_at_call 60; refine (T2 _ hr1).mono ?_; rintro e w2 ⟨rfl, hr2, hk2⟩)
            | (go_at_call 60; refine T.mono ?_; rintro e w1 ⟨rfl, hr1, hk1⟩)
            | fail)
          refine ⟨rfl, ?_⟩
          rw [← HE.out]
          exact ⟨rfl, ((hk.trans hk1).trans hk2).trans hk3⟩
        | cons c l' =>
          by_cases h3 : endL.contains c = true
          · have S := sees_is (R := R) (s := s) (b := b) endL (c :: l') true h3
            have HE : Hid (none = lineS (l.drop 1)) := by
              show _ = _
              rw [← hL.eq, lineS_end h1' h2' h3]; rfl
            clear h1 h1' h2 h2' h3 hL
            go_wp2_with (first
              | (go_at_call 47; refine (fail_any _ _ _ hr4).mono ?_; rintro e w5 ⟨rfl, rfl⟩)
              | (go_at_call 65; refine (S _ hr3).mono ?_; rintro e w4 ⟨rfl, hr4, hk4⟩)
              | (go_at_call 62; refine (E _ hr2).mono ?_; rintro e w3 ⟨rfl, hr3, hk3⟩)
              | (go_at_call 60; refine (T2 _ hr1).mono ?_; rintro e w2 ⟨rfl, hr2, hk2⟩)
              | (go_at_call 60; refine T.mono ?_; rintro e w1 ⟨rfl, hr1, hk1⟩)
              | fail)
            refine ⟨rfl, ?_⟩
            rw [← HE.out]
            exact ⟨rfl, (((hk.trans hk1).trans hk2).trans hk3).trans hk4⟩
          · have h3' : endL.contains c = false := Bool.eq_false_iff.2 h3
            have S := sees_is (R := R) (s := s) (b := b) endL (c :: l') false h3'
            have Y := fun w h => byte_any (R := R) (s := s) (b := b) c l' w h
            have hW := fun w2 (hb : isBl w.heap.size acc w2) (hz : w.heap.size ≤ w2.heap.size) => wb_any w.heap.size acc c w2 hb (by omega) hz
            have HN : Hid (lineS (c :: l') = (lineS l').map fun q => ([c] ++ q.1, q.2)) := lineS_chr h1' h2' h3'
            have HL : Hid (LoopS R s b w lineS (l.drop 1) wr (c :: l') acc) := hL
            have bl := hL.bl
            clear h1 h1' h2 h2' h3 h3' hL
            go_wp2_with (first
              | (go_at_call 30; refine (hW _ hb5 (by omega)).mono ?_; rintro e w6 ⟨⟨v6, rfl⟩, bl6, hb6⟩)
              | (go_at_call 78; refine (Y _ hr4).mono ?_; rintro e w5 ⟨rfl, hr5, hk5⟩; have hb5 := kp_isB bl ((((hk1.trans hk2).trans hk3).trans hk4).trans hk5) hR; have hz5 := ((((hk1.trans hk2).trans hk3).trans hk4).trans hk5).size)
              | (go_at_call 65; refine (S _ hr3).mono ?_; rintro e w4 ⟨rfl, hr4, hk4⟩)
              | (go_at_call 62; refine (E _ hr2).mono ?_; rintro e w3 ⟨rfl, hr3, hk3⟩)
              | (go_at_call 60; refine (T2 _ hr1).mono ?_; rintro e w2 ⟨rfl, hr2, hk2⟩)
              | (go_at_call 60; refine T.mono ?_; rintro e w1 ⟨rfl, hr1, hk1⟩)
              | fail)
            have hr6 := hr5.below hb6 hR
            refine ⟨⟨_, _, HL.out.next HN.out (by simp) (by simp) hr6 bl6 ((((((hk.trans hk1).trans hk2).trans hk3).trans hk4).trans hk5).then_below hb6)⟩, ?_⟩
            rw [atOf_eq hr6, HA.out]
            simp only [Int.toNat_natCast, List.length_cons] at hle' ⊢
            omega
end
end Go.Proofs.YtebojfipdcicaaaGreatDoor
namespace Go.Proofs.YtebojfipdcicaaaGreatDoor
open Go Go.RowKit
/-- A block string behind its first quotes. -/
def rawS (l : Bs) : Option (Bs × Bs) := rawF (l.length + 1) l
theorem rawF_fuel : ∀ (n m : Nat) (l : Bs), l.length < n → l.length < m → rawF n l = rawF m l
  | 0, _, _, h, _ => absurd h (Nat.not_lt_zero _)
  | _ + 1, 0, _, _, h => absurd h (Nat.not_lt_zero _)
  | n + 1, m + 1, l, hn, hm => by
    unfold rawF
    by_cases h1 : List.isPrefixOf [34, 34, 34] l = true
    · rw [if_pos h1, if_pos h1]
    · rw [if_neg h1, if_neg h1]
      by_cases h2 : List.isPrefixOf [92, 34, 34, 34] l = true
      · rw [if_pos h2, if_pos h2]
        have := prefix_le h2
        simp only [List.length_cons, List.length_nil] at this
        rw [rawF_fuel n m (l.drop 4) (by rw [List.length_drop]; omega) (by rw [List.length_drop]; omega)]
      · rw [if_neg h2, if_neg h2]
        cases l with
        | nil => rfl
        | cons c r =>
          simp only [List.length_cons] at hn hm
          simp only
          rw [rawF_fuel n m r (by omega) (by omega)]
theorem rawS_stop {l : Bs} (h1 : List.isPrefixOf [34, 34, 34] l = true) : rawS l = some ([], l.drop 3) := by
  show rawF (l.length + 1) l = _
  unfold rawF
  rw [if_pos h1]
theorem rawS_esc {l : Bs} (h1 : List.isPrefixOf [34, 34, 34] l = false) (h2 : List.isPrefixOf [92, 34, 34, 34] l = true) : rawS l = (rawS (l.drop 4)).map fun q => ([34, 34, 34] ++ q.1, q.2) := by
  show rawF (l.length + 1) l = _
  unfold rawF
  rw [if_neg (by rw [h1]; simp), if_pos h2]
  have := prefix_le h2
  simp only [List.length_cons, List.length_nil] at this
  rw [rawF_fuel l.length ((l.drop 4).length + 1) (l.drop 4) (by rw [List.length_drop]; omega) (by omega)]
  rfl
theorem rawS_chr {c : UInt8} {r : Bs} (h1 : List.isPrefixOf [34, 34, 34] (c :: r) = false) (h2 : List.isPrefixOf [92, 34, 34, 34] (c :: r) = false) : rawS (c :: r) = (rawS r).map fun q => ([c] ++ q.1, q.2) := by
  show rawF ((c :: r).length + 1) (c :: r) = _
  unfold rawF
  rw [if_neg (by rw [h1]; simp), if_neg (by rw [h2]; simp)]
  rfl
section
variable {R : Nat} {s : Bs} {b : Nat}

set_option maxHeartbeats 4000000 in
theorem raw_any (l : Bs) (w : World) (h : Rd w R s b l) : Calls Tryz.prog 82 #[.pointer (some ⟨R, 0, none⟩)] w (StrP R s b w (rawS l)) := by
  have hR := h.lt
  have hr0 := h.alloc (.cells #[.pointer none, .slice none 0 0] 55)
  have hB := isB_new w
  have hle := h.le
  have hsm := h.small
  have hk0 : Kp (Own1 R) w (w.alloc (.cells #[.pointer none, .slice none 0 0] 55)) := (Kp.refl _ w).alloc _
  clear h
  go_enter Tryz.func82, Tryz.ntmps82
  go_wp2
  go_loopw [18] (fun _ wr => ∃ l' acc, LoopS R s b w rawS l wr l' acc) (fun _ wr => s.length - (atOf wr R).toNat)
  case atStart =>
    refine ⟨_, [], hr0, ?_, ?_, hB, hk0⟩
    · show (rawS l).map _ = _
      cases rawS l <;> rfl
    · show 0 + 4 * l.length ≤ 65536
      omega
  case round =>
    clear hr0 hB hk0 hle
    obtain ⟨l', acc, hL⟩ := hrel
    have hr := hL.rd
    have hk := hL.kp
    have hz := hk.size
    have hle' := hr.le
    have hlen := hL.len
    have HA : Hid (atOf wr R = ((s.length - l'.length : Nat) : Int)) := atOf_eq hr
    by_cases h1 : List.isPrefixOf [34, 34, 34] l' = true
    · have T := take_yes (R := R) (s := s) (b := b) [34, 34, 34] l' h1 wr hr
      have S := fun w2 (hb : isBl w.heap.size acc w2) (hz : w.heap.size ≤ w2.heap.size) => Tryz.Builder_String_any w.heap.size w.heap.size acc w2 hb hz
      have HE : Hid (some (acc, l'.drop 3) = rawS l) := by
        show _ = _
        rw [← hL.eq, rawS_stop h1]
        simp
      have bl := hL.bl
      clear h1 hL
      go_wp2_with (first
        | (go_at_call 33; refine (S _ hb1 (by omega)).mono ?_; rintro e w2 ⟨rfl, hb2⟩)
        | (go_at_call 60; refine T.mono ?_; rintro e w1 ⟨rfl, hr1, hk1⟩; have hb1 := kp_isB bl hk1 hR; have hz1 := hk1.size)
        | fail)
      go_ret
      rw [← HE.out]
      exact ⟨⟨rfl, hr1.below hb2 hR⟩, (hk.trans hk1).then_below hb2⟩
    · have h1' : List.isPrefixOf [34, 34, 34] l' = false := Bool.eq_false_iff.2 h1
      have T := take_no (R := R) (s := s) (b := b) [34, 34, 34] l' h1' wr hr
      by_cases h2 : List.isPrefixOf [92, 34, 34, 34] l' = true
      · have T2 := take_yes (R := R) (s := s) (b := b) [92, 34, 34, 34] l' h2
        have hp2 := prefix_le h2
        simp only [List.length_cons, List.length_nil] at hp2
        have hW := fun w2 (hb : isBl w.heap.size acc w2) (hz : w.heap.size ≤ w2.heap.size) => ws_any w.heap.size acc [34, 34, 34] w2 hb (by simp only [List.length_cons, List.length_nil]; omega) hz
        have HN : Hid (rawS l' = (rawS (l'.drop 4)).map fun q => ([34, 34, 34] ++ q.1, q.2)) := rawS_esc h1' h2
        have HL : Hid (LoopS R s b w rawS l wr l' acc) := hL
        have bl := hL.bl
        clear h1 h1' h2 hL
        go_wp2_with (first
          | (go_at_call 32; refine (hW _ hb2 (by omega)).mono ?_; rintro e w4 ⟨⟨v4, rfl⟩, bl4, hb4⟩)
          | (go_at_call 60; refine (T2 _ hr1).mono ?_; rintro e w2 ⟨rfl, hr2, hk2⟩; have hb2 := kp_isB (kp_isB bl hk1 hR) hk2 hR; have hz2 := (hk1.trans hk2).size)
          | (go_at_call 60; refine T.mono ?_; rintro e w1 ⟨rfl, hr1, hk1⟩)
          | fail)
        have hr4 : Rd w4 R s b (l'.drop 4) := hr2.below hb4 hR
        refine ⟨⟨_, _, HL.out.next HN.out (by rw [List.length_drop]; omega) (by decide) hr4 bl4 (((hk.trans hk1).trans hk2).then_below hb4)⟩, ?_⟩
        rw [atOf_eq hr4, HA.out, List.length_drop]
        simp only [Int.toNat_natCast]
        omega
      · have h2' : List.isPrefixOf [92, 34, 34, 34] l' = false := Bool.eq_false_iff.2 h2
        have T2 := take_no (R := R) (s := s) (b := b) [92, 34, 34, 34] l' h2'
        have E := fun w h => ends_is (R := R) (s := s) (b := b) l' w h
        cases l' with
        | nil =>
          have HE : Hid (none = rawS l) := by
            show _ = _
            rw [← hL.eq]; rfl
          clear h1 h1' h2 h2' hL
          go_wp2_with (first
            | (go_at_call 47; refine (fail_any _ _ _ hr3).mono ?_; rintro e w4 ⟨rfl, rfl⟩)
            | (go_at_call 62; refine (E _ hr2).mono ?_; rintro e w3 ⟨rfl, hr3, hk3⟩)
            | (go_at_call 60; refine (T2 _ hr1).mono ?_; rintro e w2 ⟨rfl, hr2, hk2⟩)
            | (go_at_call 60; refine T.mono ?_; rintro e w1 ⟨rfl, hr1, hk1⟩)
            | fail)
          refine ⟨rfl, ?_⟩
          rw [← HE.out]
          exact ⟨rfl, ((hk.trans hk1).trans hk2).trans hk3⟩
        | cons c l' =>
          have Y := fun w h => byte_any (R := R) (s := s) (b := b) c l' w h
          have hW := fun w2 (hb : isBl w.heap.size acc w2) (hz : w.heap.size ≤ w2.heap.size) => wb_any w.heap.size acc c w2 hb (by omega) hz
          have HN : Hid (rawS (c :: l') = (rawS l').map fun q => ([c] ++ q.1, q.2)) := rawS_chr h1' h2'
          have HL : Hid (LoopS R s b w rawS l wr (c :: l') acc) := hL
          have bl := hL.bl
          clear h1 h1' h2 h2' hL
          go_wp2_with (first
            | (go_at_call 30; refine (hW _ hb5 (by omega)).mono ?_; rintro e w6 ⟨⟨v6, rfl⟩, bl6, hb6⟩)
            | (go_at_call 78; refine (Y _ hr3).mono ?_; rintro e w5 ⟨rfl, hr5, hk5⟩; have hb5 := kp_isB bl (((hk1.trans hk2).trans hk3).trans hk5) hR; have hz5 := (((hk1.trans hk2).trans hk3).trans hk5).size)
            | (go_at_call 62; refine (E _ hr2).mono ?_; rintro e w3 ⟨rfl, hr3, hk3⟩)
            | (go_at_call 60; refine (T2 _ hr1).mono ?_; rintro e w2 ⟨rfl, hr2, hk2⟩)
            | (go_at_call 60; refine T.mono ?_; rintro e w1 ⟨rfl, hr1, hk1⟩)
            | fail)
          have hr6 := hr5.below hb6 hR
          refine ⟨⟨_, _, HL.out.next HN.out (by simp) (by simp) hr6 bl6 (((((hk.trans hk1).trans hk2).trans hk3).trans hk5).then_below hb6)⟩, ?_⟩
          rw [atOf_eq hr6, HA.out]
          simp only [Int.toNat_natCast, List.length_cons] at hle' ⊢
          omega
end
end Go.Proofs.YtebojfipdcicaaaGreatDoor
