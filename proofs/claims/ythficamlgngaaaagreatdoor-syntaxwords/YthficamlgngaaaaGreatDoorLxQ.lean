/- Lines, as the library cuts them: the plain mathematics. -/
import Derived.Test.YthficamlgngaaaaGreatDoorLxL
import Derived.Lib.Replace
import Derived.Lib.SplitLaws
import Derived.Lib.Join
import Derived.Shelf.Strings.SlTrimAscii
namespace Go.Proofs.YthficamlgngaaaaGreatDoor
open Go Go.RowKit
section
variable {R : Nat} {s : Bs} {b : Nat}
theorem ends_is (l : Bs) (w : World) (h : Rd w R s b l) : Calls Tryz.prog 81 #[.pointer (some ⟨R, 0, none⟩)] w fun e w' => e = .returned (.bool l.isEmpty) ∧ Rd w' R s b l ∧ Kp (Own1 R) w w' := by
  cases l with
  | nil =>
    refine (ends_yes w h).mono ?_
    rintro e w' ⟨rfl, m, rfl⟩
    exact ⟨rfl, h.drewN m, Kp.n w m⟩
  | cons c l =>
    refine (ends_no c l w h).mono ?_
    rintro e w' ⟨rfl, m, rfl⟩
    exact ⟨rfl, h.drewN m, Kp.n w m⟩
abbrev isBl (B : Nat) (acc : Bs) (w : World) : Prop := Lib.IsBuilder 145 5 B B (Lib.byteCells acc) w
theorem ws_any (B : Nat) (acc c : Bs) (w : World) (h : isBl B acc w) (hl : acc.length + c.length ≤ 1048576) (hB : B ≤ w.heap.size) :
    Calls Tryz.prog 134 #[.pointer (some ⟨B, 0, none⟩), .string ⟨c.toArray⟩] w fun e w' => (∃ v, e = .returned v) ∧ isBl B (acc ++ c) w' ∧ Below B w w' := by
  refine (Tryz.Builder_WriteString B B (Lib.byteCells acc) ⟨c.toArray⟩ w h (by rw [size_of, cells_len]; omega) hB).mono ?_
  rintro e w' ⟨rfl, h1, h2⟩
  exact ⟨⟨_, rfl⟩, Or.inr (by rw [cells_app]; exact h1), h2⟩
theorem wb_any (B : Nat) (acc : Bs) (c : UInt8) (w : World) (h : isBl B acc w) (hl : acc.length + 1 ≤ 1048576) (hB : B ≤ w.heap.size) :
    Calls Tryz.prog 135 #[.pointer (some ⟨B, 0, none⟩), .int .u8 (c.toNat : Int)] w fun e w' => (∃ v, e = .returned v) ∧ isBl B (acc ++ [c]) w' ∧ Below B w w' := by
  refine (Tryz.Builder_WriteByte B B (Lib.byteCells acc) (c.toNat : Int) w h (by rw [cells_len]; omega) hB).mono ?_
  rintro e w' ⟨rfl, h1, h2⟩
  exact ⟨⟨_, rfl⟩, Or.inr (by rw [cells_app]; exact h1), h2⟩
/-- The state of a loop that reads on and writes to a Builder. -/
structure LoopS (R : Nat) (s : Bs) (b : Nat) (w : World) (f : Bs → Option (Bs × Bs)) (l1 : Bs) (wr : World) (l' acc : Bs) : Prop where
  rd : Rd wr R s b l'
  eq : (f l').map (fun q => (acc ++ q.1, q.2)) = f l1
  len : acc.length + 4 * l'.length ≤ 65536
  bl : isBl w.heap.size acc wr
  kp : Kp (Own1 R) w wr
theorem LoopS.next {w wr w' : World} {f : Bs → Option (Bs × Bs)} {l1 l' acc m c : Bs} (h : LoopS R s b w f l1 wr l' acc) (hf : f l' = (f m).map fun q => (c ++ q.1, q.2)) (hm : m.length < l'.length) (hc : c.length ≤ 4)
    (hr : Rd w' R s b m) (hb : isBl w.heap.size (acc ++ c) w') (hk : Kp (Own1 R) w w') : LoopS R s b w f l1 w' m (acc ++ c) := by
  refine ⟨hr, ?_, ?_, hb, hk⟩
  · rw [← h.eq, hf]
    cases f m with
    | none => rfl
    | some q => simp [List.append_assoc]
  · have := h.len
    rw [List.length_append]; omega

set_option maxHeartbeats 4000000 in
theorem line_any (l : Bs) (w : World) (h : Rd w R s b l) (hq : List.isPrefixOf [34] l = true) : Calls Tryz.prog 112 #[.pointer (some ⟨R, 0, none⟩)] w (StrP R s b w (lineS (l.drop 1))) := by
  have hR := h.lt
  have T := take_yes (R := R) (s := s) (b := b) [34] l hq _ (h.alloc (.cells #[.pointer none, .slice none 0 0] 145))
  have hB := isB_new w
  have hle := h.le
  have hsm := h.small
  have hk0 : Kp (Own1 R) w (w.alloc (.cells #[.pointer none, .slice none 0 0] 145)) := (Kp.refl _ w).alloc _
  clear h
  go_enter Tryz.func112, Tryz.ntmps112
  go_wp2_with (go_at_call 79; refine T.mono ?_; rintro e w1 ⟨rfl, hr1, hk1⟩)
  go_loopw [26] (fun _ wr => ∃ l' acc, LoopS R s b w lineS (l.drop 1) wr l' acc) (fun _ wr => s.length - (atOf wr R).toNat)
  case atStart =>
    refine ⟨_, [], hr1, ?_, ?_, kp_isB hB hk1 hR, hk0.trans hk1⟩
    · show (lineS (l.drop 1)).map _ = _
      cases lineS (l.drop 1) <;> rfl
    · show 0 + 4 * (l.drop 1).length ≤ 65536
      rw [List.length_drop]; omega
  case round =>
    clear T hr1 hk1 hB hk0 hq hle
    obtain ⟨l', acc, hL⟩ := hrel
    have hr := hL.rd
    have hk := hL.kp
    have hz := hk.size
    have hle' := hr.le
    have hlen := hL.len
    have HA : Hid (atOf wr R = ((s.length - l'.length : Nat) : Int)) := atOf_eq hr
    by_cases h1 : List.isPrefixOf [34] l' = true
    · have T := take_yes (R := R) (s := s) (b := b) [34] l' h1 wr hr
      have S := fun w2 (hb : isBl w.heap.size acc w2) (hz : w.heap.size ≤ w2.heap.size) => Tryz.Builder_String_any w.heap.size w.heap.size acc w2 hb hz
      have HE : Hid (some (acc, l'.drop 1) = lineS (l.drop 1)) := by
        show _ = _
        rw [← hL.eq, lineS_stop h1]
        simp
      have bl := hL.bl
      clear h1 hL
      go_wp2_with (first
        | (go_at_call 136; refine (S _ hb1 (by omega)).mono ?_; rintro e w2 ⟨rfl, hb2⟩)
        | (go_at_call 79; refine T.mono ?_; rintro e w1 ⟨rfl, hr1, hk1⟩; have hb1 := kp_isB bl hk1 hR; have hz1 := hk1.size)
        | fail)
      go_ret
      rw [← HE.out]
      exact ⟨⟨rfl, hr1.below hb2 hR⟩, (hk.trans hk1).then_below hb2⟩
    · have h1' : List.isPrefixOf [34] l' = false := Bool.eq_false_iff.2 h1
      have T := take_no (R := R) (s := s) (b := b) [34] l' h1' wr hr
      by_cases h2 : List.isPrefixOf [92] l' = true
      · have T2 := take_yes (R := R) (s := s) (b := b) [92] l' h2
        have E := fun w h => esc_any (R := R) (s := s) (b := b) (l'.drop 1) w h
        cases he : escS (l'.drop 1) with
        | none =>
          rw [he] at E
          have HE : Hid (none = lineS (l.drop 1)) := by
            show _ = _
            rw [← hL.eq, lineS_esc h1' h2, he]; rfl
          clear he h1 h1' h2 hL
          go_wp2_with (first
            | (go_at_call 137; refine (E _ hr2).mono ?_; rintro e w3 ⟨rfl, hk3⟩)
            | (go_at_call 79; refine (T2 _ hr1).mono ?_; rintro e w2 ⟨rfl, hr2, hk2⟩)
            | (go_at_call 79; refine T.mono ?_; rintro e w1 ⟨rfl, hr1, hk1⟩)
            | fail)
          refine ⟨rfl, ?_⟩
          rw [← HE.out]
          exact ⟨rfl, ((hk.trans hk1).trans hk2).trans hk3⟩
        | some p =>
          rw [he] at E
          obtain ⟨hp1, hp2, _⟩ := escS_facts (show escS (l'.drop 1) = some (p.1, p.2) from he)
          rw [List.length_drop] at hp2
          have hW := fun w2 (hb : isBl w.heap.size acc w2) (hz : w.heap.size ≤ w2.heap.size) => ws_any w.heap.size acc p.1 w2 hb (by omega) hz
          have HN : Hid (lineS l' = (lineS p.2).map fun q => (p.1 ++ q.1, q.2)) := by
            show _ = _
            rw [lineS_esc h1' h2, he]; rfl
          have HL : Hid (LoopS R s b w lineS (l.drop 1) wr l' acc) := hL
          have bl := hL.bl
          clear he h1 h1' h2 hL
          go_wp2_with (first
            | (go_at_call 134; refine (hW _ hb3 (by omega)).mono ?_; rintro e w4 ⟨⟨v4, rfl⟩, bl4, hb4⟩)
            | (go_at_call 137; refine (E _ hr2).mono ?_; rintro e w3 ⟨⟨rfl, hr3⟩, hk3⟩; have hb3 := kp_isB (kp_isB (kp_isB bl hk1 hR) hk2 hR) hk3 hR; have hz3 := ((hk1.trans hk2).trans hk3).size)
            | (go_at_call 79; refine (T2 _ hr1).mono ?_; rintro e w2 ⟨rfl, hr2, hk2⟩)
            | (go_at_call 79; refine T.mono ?_; rintro e w1 ⟨rfl, hr1, hk1⟩)
            | fail)
          have hr4 := hr3.below hb4 hR
          refine ⟨⟨_, _, HL.out.next HN.out (by omega) hp1 hr4 bl4 ((((hk.trans hk1).trans hk2).trans hk3).then_below hb4)⟩, ?_⟩
          rw [atOf_eq hr4, HA.out]
          simp only [Int.toNat_natCast]
          omega
      · have h2' : List.isPrefixOf [92] l' = false := Bool.eq_false_iff.2 h2
        have T2 := take_no (R := R) (s := s) (b := b) [92] l' h2'
        have E := fun w h => ends_is (R := R) (s := s) (b := b) l' w h
        cases l' with
        | nil =>
          have HE : Hid (none = lineS (l.drop 1)) := by
            show _ = _
            rw [← hL.eq]; rfl
          clear h1 h1' h2 h2' hL
          go_wp2_with (first
            | (go_at_call 51; refine (fail_any _ _ _ hr3).mono ?_; rintro e w4 ⟨rfl, rfl⟩)
            | (go_at_call 81; refine (E _ hr2).mono ?_; rintro e w3 ⟨rfl, hr3, hk3⟩)
            | (go_at_call 79; refine (T2 _ hr1).mono ?_; rintro e w2 ⟨rfl, hr2, hk2⟩)
            | (go_at_call 79; refine T.mono ?_; rintro e w1 ⟨rfl, hr1, hk1⟩)
            | fail)
          refine ⟨rfl, ?_⟩
          rw [← HE.out]
          exact ⟨rfl, ((hk.trans hk1).trans hk2).trans hk3⟩
        | cons c l' =>
          by_cases h3 : endL.contains c = true
          · have S := sees_is (R := R) (s := s) (b := b) endL (c :: l') true h3
            have HE : Hid (none = lineS (l.drop 1)) := by
              show _ = _
              rw [← hL.eq, lineS_end h1' h2' h3]; rfl
            clear h1 h1' h2 h2' h3 hL
            go_wp2_with (first
              | (go_at_call 51; refine (fail_any _ _ _ hr4).mono ?_; rintro e w5 ⟨rfl, rfl⟩)
              | (go_at_call 84; refine (S _ hr3).mono ?_; rintro e w4 ⟨rfl, hr4, hk4⟩)
              | (go_at_call 81; refine (E _ hr2).mono ?_; rintro e w3 ⟨rfl, hr3, hk3⟩)
              | (go_at_call 79; refine (T2 _ hr1).mono ?_; rintro e w2 ⟨rfl, hr2, hk2⟩)
              | (go_at_call 79; refine T.mono ?_; rintro e w1 ⟨rfl, hr1, hk1⟩)
              | fail)
            refine ⟨rfl, ?_⟩
            rw [← HE.out]
            exact ⟨rfl, (((hk.trans hk1).trans hk2).trans hk3).trans hk4⟩
          · have h3' : endL.contains c = false := Bool.eq_false_iff.2 h3
            have S := sees_is (R := R) (s := s) (b := b) endL (c :: l') false h3'
            have Y := fun w h => byte_any (R := R) (s := s) (b := b) c l' w h
            have hW := fun w2 (hb : isBl w.heap.size acc w2) (hz : w.heap.size ≤ w2.heap.size) => wb_any w.heap.size acc c w2 hb (by omega) hz
            have HN : Hid (lineS (c :: l') = (lineS l').map fun q => ([c] ++ q.1, q.2)) := lineS_chr h1' h2' h3'
            have HL : Hid (LoopS R s b w lineS (l.drop 1) wr (c :: l') acc) := hL
            have bl := hL.bl
            clear h1 h1' h2 h2' h3 h3' hL
            go_wp2_with (first
              | (go_at_call 135; refine (hW _ hb5 (by omega)).mono ?_; rintro e w6 ⟨⟨v6, rfl⟩, bl6, hb6⟩)
              | (go_at_call 106; refine (Y _ hr4).mono ?_; rintro e w5 ⟨rfl, hr5, hk5⟩; have hb5 := kp_isB bl ((((hk1.trans hk2).trans hk3).trans hk4).trans hk5) hR; have hz5 := ((((hk1.trans hk2).trans hk3).trans hk4).trans hk5).size)
              | (go_at_call 84; refine (S _ hr3).mono ?_; rintro e w4 ⟨rfl, hr4, hk4⟩)
              | (go_at_call 81; refine (E _ hr2).mono ?_; rintro e w3 ⟨rfl, hr3, hk3⟩)
              | (go_at_call 79; refine (T2 _ hr1).mono ?_; rintro e w2 ⟨rfl, hr2, hk2⟩)
              | (go_at_call 79; refine T.mono ?_; rintro e w1 ⟨rfl, hr1, hk1⟩)
              | fail)
            have hr6 := hr5.below hb6 hR
            refine ⟨⟨_, _, HL.out.next HN.out (by simp) (by simp) hr6 bl6 ((((((hk.trans hk1).trans hk2).trans hk3).trans hk4).trans hk5).then_below hb6)⟩, ?_⟩
            rw [atOf_eq hr6, HA.out]
            simp only [Int.toNat_natCast, List.length_cons] at hle' ⊢
            omega
end
end Go.Proofs.YthficamlgngaaaaGreatDoor
namespace Go.Proofs.YthficamlgngaaaaGreatDoor
open Go Go.RowKit
/-- A block string behind its first quotes. -/
def rawS (l : Bs) : Option (Bs × Bs) := rawF (l.length + 1) l
theorem rawF_fuel : ∀ (n m : Nat) (l : Bs), l.length < n → l.length < m → rawF n l = rawF m l
  | 0, _, _, h, _ => absurd h (Nat.not_lt_zero _)
  | _ + 1, 0, _, _, h => absurd h (Nat.not_lt_zero _)
  | n + 1, m + 1, l, hn, hm => by
    unfold rawF
    by_cases h1 : List.isPrefixOf [34, 34, 34] l = true
    · rw [if_pos h1, if_pos h1]
    · rw [if_neg h1, if_neg h1]
      by_cases h2 : List.isPrefixOf [92, 34, 34, 34] l = true
      · rw [if_pos h2, if_pos h2]
        have := prefix_le h2
        simp only [List.length_cons, List.length_nil] at this
        rw [rawF_fuel n m (l.drop 4) (by rw [List.length_drop]; omega) (by rw [List.length_drop]; omega)]
      · rw [if_neg h2, if_neg h2]
        cases l with
        | nil => rfl
        | cons c r =>
          simp only [List.length_cons] at hn hm
          simp only
          rw [rawF_fuel n m r (by omega) (by omega)]
theorem rawS_stop {l : Bs} (h1 : List.isPrefixOf [34, 34, 34] l = true) : rawS l = some ([], l.drop 3) := by
  show rawF (l.length + 1) l = _
  unfold rawF
  rw [if_pos h1]
theorem rawS_esc {l : Bs} (h1 : List.isPrefixOf [34, 34, 34] l = false) (h2 : List.isPrefixOf [92, 34, 34, 34] l = true) : rawS l = (rawS (l.drop 4)).map fun q => ([34, 34, 34] ++ q.1, q.2) := by
  show rawF (l.length + 1) l = _
  unfold rawF
  rw [if_neg (by rw [h1]; simp), if_pos h2]
  have := prefix_le h2
  simp only [List.length_cons, List.length_nil] at this
  rw [rawF_fuel l.length ((l.drop 4).length + 1) (l.drop 4) (by rw [List.length_drop]; omega) (by omega)]
  rfl
theorem rawS_chr {c : UInt8} {r : Bs} (h1 : List.isPrefixOf [34, 34, 34] (c :: r) = false) (h2 : List.isPrefixOf [92, 34, 34, 34] (c :: r) = false) : rawS (c :: r) = (rawS r).map fun q => ([c] ++ q.1, q.2) := by
  show rawF ((c :: r).length + 1) (c :: r) = _
  unfold rawF
  rw [if_neg (by rw [h1]; simp), if_neg (by rw [h2]; simp)]
  rfl
section
variable {R : Nat} {s : Bs} {b : Nat}

set_option maxHeartbeats 4000000 in
theorem raw_any (l : Bs) (w : World) (h : Rd w R s b l) : Calls Tryz.prog 111 #[.pointer (some ⟨R, 0, none⟩)] w (StrP R s b w (rawS l)) := by
  have hR := h.lt
  have hr0 := h.alloc (.cells #[.pointer none, .slice none 0 0] 145)
  have hB := isB_new w
  have hle := h.le
  have hsm := h.small
  have hk0 : Kp (Own1 R) w (w.alloc (.cells #[.pointer none, .slice none 0 0] 145)) := (Kp.refl _ w).alloc _
  clear h
  go_enter Tryz.func111, Tryz.ntmps111
  go_wp2
  go_loopw [18] (fun _ wr => ∃ l' acc, LoopS R s b w rawS l wr l' acc) (fun _ wr => s.length - (atOf wr R).toNat)
  case atStart =>
    refine ⟨_, [], hr0, ?_, ?_, hB, hk0⟩
    · show (rawS l).map _ = _
      cases rawS l <;> rfl
    · show 0 + 4 * l.length ≤ 65536
      omega
  case round =>
    clear hr0 hB hk0 hle
    obtain ⟨l', acc, hL⟩ := hrel
    have hr := hL.rd
    have hk := hL.kp
    have hz := hk.size
    have hle' := hr.le
    have hlen := hL.len
    have HA : Hid (atOf wr R = ((s.length - l'.length : Nat) : Int)) := atOf_eq hr
    by_cases h1 : List.isPrefixOf [34, 34, 34] l' = true
    · have T := take_yes (R := R) (s := s) (b := b) [34, 34, 34] l' h1 wr hr
      have S := fun w2 (hb : isBl w.heap.size acc w2) (hz : w.heap.size ≤ w2.heap.size) => Tryz.Builder_String_any w.heap.size w.heap.size acc w2 hb hz
      have HE : Hid (some (acc, l'.drop 3) = rawS l) := by
        show _ = _
        rw [← hL.eq, rawS_stop h1]
        simp
      have bl := hL.bl
      clear h1 hL
      go_wp2_with (first
        | (go_at_call 136; refine (S _ hb1 (by omega)).mono ?_; rintro e w2 ⟨rfl, hb2⟩)
        | (go_at_call 79; refine T.mono ?_; rintro e w1 ⟨rfl, hr1, hk1⟩; have hb1 := kp_isB bl hk1 hR; have hz1 := hk1.size)
        | fail)
      go_ret
      rw [← HE.out]
      exact ⟨⟨rfl, hr1.below hb2 hR⟩, (hk.trans hk1).then_below hb2⟩
    · have h1' : List.isPrefixOf [34, 34, 34] l' = false := Bool.eq_false_iff.2 h1
      have T := take_no (R := R) (s := s) (b := b) [34, 34, 34] l' h1' wr hr
      by_cases h2 : List.isPrefixOf [92, 34, 34, 34] l' = true
      · have T2 := take_yes (R := R) (s := s) (b := b) [92, 34, 34, 34] l' h2
        have hp2 := prefix_le h2
        simp only [List.length_cons, List.length_nil] at hp2
        have hW := fun w2 (hb : isBl w.heap.size acc w2) (hz : w.heap.size ≤ w2.heap.size) => ws_any w.heap.size acc [34, 34, 34] w2 hb (by simp only [List.length_cons, List.length_nil]; omega) hz
        have HN : Hid (rawS l' = (rawS (l'.drop 4)).map fun q => ([34, 34, 34] ++ q.1, q.2)) := rawS_esc h1' h2
        have HL : Hid (LoopS R s b w rawS l wr l' acc) := hL
        have bl := hL.bl
        clear h1 h1' h2 hL
        go_wp2_with (first
          | (go_at_call 134; refine (hW _ hb2 (by omega)).mono ?_; rintro e w4 ⟨⟨v4, rfl⟩, bl4, hb4⟩)
          | (go_at_call 79; refine (T2 _ hr1).mono ?_; rintro e w2 ⟨rfl, hr2, hk2⟩; have hb2 := kp_isB (kp_isB bl hk1 hR) hk2 hR; have hz2 := (hk1.trans hk2).size)
          | (go_at_call 79; refine T.mono ?_; rintro e w1 ⟨rfl, hr1, hk1⟩)
          | fail)
        have hr4 : Rd w4 R s b (l'.drop 4) := hr2.below hb4 hR
        refine ⟨⟨_, _, HL.out.next HN.out (by rw [List.length_drop]; omega) (by decide) hr4 bl4 (((hk.trans hk1).trans hk2).then_below hb4)⟩, ?_⟩
        rw [atOf_eq hr4, HA.out, List.length_drop]
        simp only [Int.toNat_natCast]
        omega
      · have h2' : List.isPrefixOf [92, 34, 34, 34] l' = false := Bool.eq_false_iff.2 h2
        have T2 := take_no (R := R) (s := s) (b := b) [92, 34, 34, 34] l' h2'
        have E := fun w h => ends_is (R := R) (s := s) (b := b) l' w h
        cases l' with
        | nil =>
          have HE : Hid (none = rawS l) := by
            show _ = _
            rw [← hL.eq]; rfl
          clear h1 h1' h2 h2' hL
          go_wp2_with (first
            | (go_at_call 51; refine (fail_any _ _ _ hr3).mono ?_; rintro e w4 ⟨rfl, rfl⟩)
            | (go_at_call 81; refine (E _ hr2).mono ?_; rintro e w3 ⟨rfl, hr3, hk3⟩)
            | (go_at_call 79; refine (T2 _ hr1).mono ?_; rintro e w2 ⟨rfl, hr2, hk2⟩)
            | (go_at_call 79; refine T.mono ?_; rintro e w1 ⟨rfl, hr1, hk1⟩)
            | fail)
          refine ⟨rfl, ?_⟩
          rw [← HE.out]
          exact ⟨rfl, ((hk.trans hk1).trans hk2).trans hk3⟩
        | cons c l' =>
          have Y := fun w h => byte_any (R := R) (s := s) (b := b) c l' w h
          have hW := fun w2 (hb : isBl w.heap.size acc w2) (hz : w.heap.size ≤ w2.heap.size) => wb_any w.heap.size acc c w2 hb (by omega) hz
          have HN : Hid (rawS (c :: l') = (rawS l').map fun q => ([c] ++ q.1, q.2)) := rawS_chr h1' h2'
          have HL : Hid (LoopS R s b w rawS l wr (c :: l') acc) := hL
          have bl := hL.bl
          clear h1 h1' h2 h2' hL
          go_wp2_with (first
            | (go_at_call 135; refine (hW _ hb5 (by omega)).mono ?_; rintro e w6 ⟨⟨v6, rfl⟩, bl6, hb6⟩)
            | (go_at_call 106; refine (Y _ hr3).mono ?_; rintro e w5 ⟨rfl, hr5, hk5⟩; have hb5 := kp_isB bl (((hk1.trans hk2).trans hk3).trans hk5) hR; have hz5 := (((hk1.trans hk2).trans hk3).trans hk5).size)
            | (go_at_call 81; refine (E _ hr2).mono ?_; rintro e w3 ⟨rfl, hr3, hk3⟩)
            | (go_at_call 79; refine (T2 _ hr1).mono ?_; rintro e w2 ⟨rfl, hr2, hk2⟩)
            | (go_at_call 79; refine T.mono ?_; rintro e w1 ⟨rfl, hr1, hk1⟩)
            | fail)
          have hr6 := hr5.below hb6 hR
          refine ⟨⟨_, _, HL.out.next HN.out (by simp) (by simp) hr6 bl6 (((((hk.trans hk1).trans hk2).trans hk3).trans hk5).then_below hb6)⟩, ?_⟩
          rw [atOf_eq hr6, HA.out]
          simp only [Int.toNat_natCast, List.length_cons] at hle' ⊢
          omega
end
end Go.Proofs.YthficamlgngaaaaGreatDoor
namespace Go.Proofs.YthficamlgngaaaaGreatDoor
open Go Go.Lib

theorem index_cons_no {c : UInt8} {l old : Bs} (h : old.isPrefixOf (c :: l) = false) : index (c :: l) old = if index l old == -1 then -1 else index l old + 1 := by
  rw [index, if_neg (by rw [h]; simp)]
theorem index_cons_yes {c : UInt8} {l old : Bs} (h : old.isPrefixOf (c :: l) = true) : index (c :: l) old = 0 := by
  rw [index, if_pos h]
theorem count_cons_no {c : UInt8} {l old : Bs} (ho : old ≠ []) (h : old.isPrefixOf (c :: l) = false) : count (c :: l) old = count l old := by
  have hi := index_cons_no h
  by_cases hm : index l old = -1
  · rw [hm] at hi
    rw [count_miss hm, count_miss (by rw [hi]; rfl)]
  · have hge := index_ge l old
    obtain ⟨i, hi2⟩ : ∃ i : Nat, index l old = i := ⟨(index l old).toNat, by omega⟩
    have hi3 : index (c :: l) old = ((i + 1 : Nat) : Int) := by
      rw [hi, if_neg (by simpa using hm), hi2]; omega
    rw [count_hit ho hi2, count_hit ho hi3, show i + 1 + old.length = (i + old.length) + 1 by omega, List.drop_succ_cons]
theorem replaceK_no {c : UInt8} {l old new : Bs} (h : old.isPrefixOf (c :: l) = false) : ∀ k, replaceK old new k (c :: l) = c :: replaceK old new k l
  | 0 => rfl
  | k + 1 => by
    have hi := index_cons_no h
    by_cases hm : index l old = -1
    · rw [hm] at hi
      have hi' : index (c :: l) old = -1 := by rw [hi]; rfl
      rw [replaceK, if_pos (by rw [hi']; rfl), replaceK, if_pos (by rw [hm]; rfl)]
    · have hge := index_ge l old
      obtain ⟨i, hi2⟩ : ∃ i : Nat, index l old = i := ⟨(index l old).toNat, by omega⟩
      have hi3 : index (c :: l) old = ((i + 1 : Nat) : Int) := by
        rw [hi, if_neg (by simpa using hm), hi2]; omega
      rw [replaceK_hit old new k l i hi2, replaceK_hit old new k (c :: l) (i + 1) hi3, show i + 1 + old.length = (i + old.length) + 1 by omega, List.drop_succ_cons, List.take_succ_cons]
      rfl
/-- All instances replaced, from the left. -/
def rep (old new s : Bs) : Bs := replaceK old new (count s old) s
theorem rep_nil {old new : Bs} (ho : old ≠ []) : rep old new [] = [] := by
  unfold rep
  have : index ([] : Bs) old = -1 := by
    rw [index, if_neg]
    cases old with
    | nil => exact absurd rfl ho
    | cons c l => simp
  rw [count_miss this]
  rfl
theorem rep_no {c : UInt8} {l old new : Bs} (ho : old ≠ []) (h : old.isPrefixOf (c :: l) = false) : rep old new (c :: l) = c :: rep old new l := by
  unfold rep
  rw [count_cons_no ho h, replaceK_no h]
theorem rep_yes {c : UInt8} {l old new : Bs} (ho : old ≠ []) (h : old.isPrefixOf (c :: l) = true) : rep old new (c :: l) = new ++ rep old new ((c :: l).drop old.length) := by
  have h0 : index (c :: l) old = ((0 : Nat) : Int) := index_cons_yes h
  unfold rep
  rw [count_hit ho h0, Nat.zero_add, Nat.add_comm, replaceK_hit old new _ _ 0 h0, Nat.zero_add]
  rfl
theorem replaceAll_rep {s old new : Bs} (hne : (old == new) = false) : replaceAll s old new = rep old new s := by
  unfold replaceAll replace replaceNum rep
  rw [if_neg (by rw [hne]; simp), if_pos (Or.inl (by decide))]
theorem rep_len (old new : Bs) (h : new.length ≤ old.length) (ho : old ≠ []) : ∀ (n : Nat) (s : Bs), s.length ≤ n → (rep old new s).length ≤ s.length
  | 0, s, hs => by
    have : s = [] := List.length_eq_zero_iff.1 (by omega)
    subst this
    rw [rep_nil ho]; simp
  | n + 1, [], _ => by rw [rep_nil ho]; simp
  | n + 1, c :: l, hs => by
    simp only [List.length_cons] at hs
    by_cases hp : old.isPrefixOf (c :: l) = true
    · rw [rep_yes ho hp, List.length_append]
      have h1 := (List.isPrefixOf_iff_prefix.1 hp).length_le
      have h2 : 0 < old.length := List.length_pos_iff.2 ho
      have h3 := rep_len old new h ho n ((c :: l).drop old.length) (by rw [List.length_drop, List.length_cons]; omega)
      rw [List.length_drop] at h3
      omega
    · rw [rep_no ho (Bool.eq_false_iff.2 hp), List.length_cons, List.length_cons]
      have := rep_len old new h ho n l (by omega)
      omega
theorem rep13 : ∀ l : Bs, rep [13] [10] l = l.map fun c => if c = 13 then 10 else c
  | [] => rep_nil (by simp)
  | c :: l => by
    by_cases h : c = 13
    · subst h
      rw [rep_yes (by simp) (by simp [List.isPrefixOf])]
      show [10] ++ rep [13] [10] l = _
      rw [rep13 l]
      simp
    · rw [rep_no (by simp) (by simp [List.isPrefixOf]; exact fun e => h e.symm), rep13 l, List.map_cons, if_neg h]
theorem norm_rep : ∀ (n : Nat) (l : Bs), l.length ≤ n → rep [13] [10] (rep [13, 10] [10] l) = normS l
  | _, [], _ => by rw [rep_nil (by simp), rep_nil (by simp)]; rfl
  | _, [c], _ => by
    rw [rep_no (by simp) (by simp [List.isPrefixOf]), rep_nil (by simp), rep13]
    rfl
  | 0, _ :: _ :: _, h => by simp at h
  | n + 1, c :: d :: l, h => by
    simp only [List.length_cons] at h
    by_cases hc : c = 13
    · subst hc
      by_cases hd : d = 10
      · subst hd
        rw [rep_yes (by simp) (by simp [List.isPrefixOf])]
        show rep [13] [10] (10 :: rep [13, 10] [10] l) = _
        rw [rep_no (by simp) (by simp [List.isPrefixOf]), norm_rep n l (by omega)]
        simp [normS]
      · rw [rep_no (by simp) (by simp [List.isPrefixOf]; exact fun e => hd e.symm), rep_yes (by simp) (by simp [List.isPrefixOf])]
        show [10] ++ rep [13] [10] (rep [13, 10] [10] (d :: l)) = _
        rw [norm_rep n (d :: l) (by simp; omega)]
        simp [normS, hd]
    · rw [rep_no (by simp) (by simp [List.isPrefixOf]; intro e; exact absurd e.symm hc), rep_no (by simp) (by simp [List.isPrefixOf]; exact fun e => hc e.symm), norm_rep n (d :: l) (by simp; omega)]
      simp [normS, hc]
theorem splitK_no {c : UInt8} {l : Bs} (h : c ≠ 10) : ∀ k, splitK [10] 0 k (c :: l) = match splitK [10] 0 k l with
    | [] => [[c]]
    | x :: xs => (c :: x) :: xs
  | 0 => rfl
  | k + 1 => by
    have hp : List.isPrefixOf [10] (c :: l) = false := by simp [List.isPrefixOf]; exact fun e => h e.symm
    have hi := index_cons_no hp
    by_cases hm : index l [10] = -1
    · rw [hm] at hi
      have hi' : index (c :: l) [10] = -1 := by rw [hi]; rfl
      rw [splitK, if_pos (by rw [hi']; rfl), splitK, if_pos (by rw [hm]; rfl)]
    · have hge := index_ge l [10]
      obtain ⟨i, hi2⟩ : ∃ i : Nat, index l [10] = i := ⟨(index l [10]).toNat, by omega⟩
      have hi3 : index (c :: l) [10] = ((i + 1 : Nat) : Int) := by
        rw [hi, if_neg (by simpa using hm), hi2]; omega
      have e1 : (((i + 1 : Nat) : Int)).toNat = i + 1 := by omega
      have e2 : ((i : Nat) : Int).toNat = i := by omega
      rw [splitK, if_neg (by rw [hi3]; simp; omega), splitK, if_neg (by simpa using hm), hi3, hi2, e1, e2]
      simp
theorem split_eq : ∀ l : Bs, splitK [10] 0 (count l [10]) l = split10 l
  | [] => by
    rw [show count ([] : Bs) [10] = 0 by decide]
    rfl
  | c :: l => by
    by_cases h : c = 10
    · subst h
      rw [count_cons_eq, Nat.add_comm, splitK, if_neg (by rw [index_cons_yes (by simp [List.isPrefixOf])]; decide), index_cons_yes (by simp [List.isPrefixOf])]
      show [] :: splitK [10] 0 (count l [10]) l = _
      rw [split_eq l]
      simp [split10]
    · rw [count_cons_ne c 10 l h, splitK_no h, split_eq l]
      conv => rhs; unfold split10
      rw [if_neg h]
      cases split10 l <;> rfl
theorem split10_ne : ∀ l : Bs, split10 l ≠ []
  | [] => by simp [split10]
  | c :: l => by
    unfold split10
    split
    · simp
    · cases split10 l <;> simp
theorem join_eq : ∀ xs : List Bs, Lib.join xs [10] = joinS xs
  | [] => rfl
  | [x] => join_one x [10]
  | x :: y :: xs => by
    rw [join_cons]
    have := join_eq (y :: xs)
    rw [join_cons] at this
    show x ++ joinTail [10] (y :: xs) = x ++ 10 :: joinS (y :: xs)
    rw [← this]
    simp [joinTail]
theorem trimLeft_eq (S : Bs) : ∀ l : Bs, Lib.trimLeftS l S = spanR S l
  | [] => rfl
  | c :: l => by
    unfold Lib.trimLeftS spanR
    rw [List.dropWhile_cons]
    by_cases h : S.contains c = true
    · rw [if_pos h, if_pos h]; exact trimLeft_eq S l
    · rw [if_neg h, if_neg h]
end Go.Proofs.YthficamlgngaaaaGreatDoor
