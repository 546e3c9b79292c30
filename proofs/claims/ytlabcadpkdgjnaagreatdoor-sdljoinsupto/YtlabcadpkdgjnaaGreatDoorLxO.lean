/- A string, and a block string's raw text, read to their end. -/
import Derived.Test.YtlabcadpkdgjnaaGreatDoorLxL
namespace Go.Proofs.YtlabcadpkdgjnaaGreatDoor
open Go Go.RowKit
section
variable {R : Nat} {s : Bs} {b : Nat}
theorem ends_is (l : Bs) (w : World) (h : Rd w R s b l) : Calls Tryz.prog 77 #[.pointer (some ⟨R, 0, none⟩)] w fun e w' => e = .returned (.bool l.isEmpty) ∧ Rd w' R s b l ∧ Kp (Own1 R) w w' := by
  cases l with
  | nil =>
    refine (ends_yes w h).mono ?_
    rintro e w' ⟨rfl, m, rfl⟩
    exact ⟨rfl, h.drewN m, Kp.n w m⟩
  | cons c l =>
    refine (ends_no c l w h).mono ?_
    rintro e w' ⟨rfl, m, rfl⟩
    exact ⟨rfl, h.drewN m, Kp.n w m⟩
abbrev isBl (B : Nat) (acc : Bs) (w : World) : Prop := Lib.IsBuilder 94 5 B B (Lib.byteCells acc) w
theorem ws_any (B : Nat) (acc c : Bs) (w : World) (h : isBl B acc w) (hl : acc.length + c.length ≤ 1048576) (hB : B ≤ w.heap.size) :
    Calls Tryz.prog 43 #[.pointer (some ⟨B, 0, none⟩), .string ⟨c.toArray⟩] w fun e w' => (∃ v, e = .returned v) ∧ isBl B (acc ++ c) w' ∧ Below B w w' := by
  refine (Tryz.Builder_WriteString B B (Lib.byteCells acc) ⟨c.toArray⟩ w h (by rw [size_of, cells_len]; omega) hB).mono ?_
  rintro e w' ⟨rfl, h1, h2⟩
  exact ⟨⟨_, rfl⟩, Or.inr (by rw [cells_app]; exact h1), h2⟩
theorem wb_any (B : Nat) (acc : Bs) (c : UInt8) (w : World) (h : isBl B acc w) (hl : acc.length + 1 ≤ 1048576) (hB : B ≤ w.heap.size) :
    Calls Tryz.prog 124 #[.pointer (some ⟨B, 0, none⟩), .int .u8 (c.toNat : Int)] w fun e w' => (∃ v, e = .returned v) ∧ isBl B (acc ++ [c]) w' ∧ Below B w w' := by
  refine (Tryz.Builder_WriteByte B B (Lib.byteCells acc) (c.toNat : Int) w h (by rw [cells_len]; omega) hB).mono ?_
  rintro e w' ⟨rfl, h1, h2⟩
  exact ⟨⟨_, rfl⟩, Or.inr (by rw [cells_app]; exact h1), h2⟩
/-- The state of a loop that reads on and writes to a Builder. -/
structure LoopS (R : Nat) (s : Bs) (b : Nat) (w : World) (f : Bs → Option (Bs × Bs)) (l1 : Bs) (wr : World) (l' acc : Bs) : Prop where
  rd : Rd wr R s b l'
  eq : (f l').map (fun q => (acc ++ q.1, q.2)) = f l1
  len : acc.length + 4 * l'.length ≤ 65536
  bl : isBl w.heap.size acc wr
  kp : Kp (Own1 R) w wr
theorem LoopS.next {w wr w' : World} {f : Bs → Option (Bs × Bs)} {l1 l' acc m c : Bs} (h : LoopS R s b w f l1 wr l' acc) (hf : f l' = (f m).map fun q => (c ++ q.1, q.2)) (hm : m.length < l'.length) (hc : c.length ≤ 4)
    (hr : Rd w' R s b m) (hb : isBl w.heap.size (acc ++ c) w') (hk : Kp (Own1 R) w w') : LoopS R s b w f l1 w' m (acc ++ c) := by
  refine ⟨hr, ?_, ?_, hb, hk⟩
  · rw [← h.eq, hf]
    cases f m with
    | none => rfl
    | some q => simp [List.append_assoc]
  · have := h.len
    rw [List.length_append]; omega

set_option maxHeartbeats 4000000 in
theorem line_any (l : Bs) (w : World) (h : Rd w R s b l) (hq : List.isPrefixOf [34] l = true) : Calls Tryz.prog 105 #[.pointer (some ⟨R, 0, none⟩)] w (StrP R s b w (lineS (l.drop 1))) := by
  have hR := h.lt
  have T := take_yes (R := R) (s := s) (b := b) [34] l hq _ (h.alloc (.cells #[.pointer none, .slice none 0 0] 94))
  have hB := isB_new w
  have hle := h.le
  have hsm := h.small
  have hk0 : Kp (Own1 R) w (w.alloc (.cells #[.pointer none, .slice none 0 0] 94)) := (Kp.refl _ w).alloc _
  clear h
  go_enter Tryz.func105, Tryz.ntmps105
  go_wp2_with (go_at_call 75; refine T.mono ?_; rintro e w1 ⟨rfl, hr1, hk1⟩)
  go_loopw [26] (fun _ wr => ∃ l' acc, LoopS R s b w lineS (l.drop 1) wr l' acc) (fun _ wr => s.length - (atOf wr R).toNat)
  case atStart =>
    refine ⟨_, [], hr1, ?_, ?_, kp_isB hB hk1 hR, hk0.trans hk1⟩
    · show (lineS (l.drop 1)).map _ = _
      cases lineS (l.drop 1) <;> rfl
    · show 0 + 4 * (l.drop 1).length ≤ 65536
      rw [List.length_drop]; omega
  case round =>
    clear T hr1 hk1 hB hk0 hq hle
    obtain ⟨l', acc, hL⟩ := hrel
    have hr := hL.rd
    have hk := hL.kp
    have hz := hk.size
    have hle' := hr.le
    have hlen := hL.len
    have HA : Hid (atOf wr R = ((s.length - l'.length : Nat) : Int)) := atOf_eq hr
    by_cases h1 : List.isPrefixOf [34] l' = true
    · have T := take_yes (R := R) (s := s) (b := b) [34] l' h1 wr hr
      have S := fun w2 (hb : isBl w.heap.size acc w2) (hz : w.heap.size ≤ w2.heap.size) => Tryz.Builder_String_any w.heap.size w.heap.size acc w2 hb hz
      have HE : Hid (some (acc, l'.drop 1) = lineS (l.drop 1)) := by
        show _ = _
        rw [← hL.eq, lineS_stop h1]
        simp
      have bl := hL.bl
      clear h1 hL
      go_wp2_with (first
        | (go_at_call 44; refine (S _ hb1 (by omega)).mono ?_; rintro e w2 ⟨rfl, hb2⟩)
        | (go_at_call 75; refine T.mono ?_; rintro e w1 ⟨rfl, hr1, hk1⟩; have hb1 := kp_isB bl hk1 hR; have hz1 := hk1.size)
        | fail)
      go_ret
      rw [← HE.out]
      exact ⟨⟨rfl, hr1.below hb2 hR⟩, (hk.trans hk1).then_below hb2⟩
    · have h1' : List.isPrefixOf [34] l' = false := Bool.eq_false_iff.2 h1
      have T := take_no (R := R) (s := s) (b := b) [34] l' h1' wr hr
      by_cases h2 : List.isPrefixOf [92] l' = true
      · have T2 := take_yes (R := R) (s := s) (b := b) [92] l' h2
        have E := fun w h => esc_any (R := R) (s := s) (b := b) (l'.drop 1) w h
        cases he : escS (l'.drop 1) with
        | none =>
          rw [he] at E
          have HE : Hid (none = lineS (l.drop 1)) := by
            show _ = _
            rw [← hL.eq, lineS_esc h1' h2, he]; rfl
          clear he h1 h1' h2 hL
          go_wp2_with (first
            | (go_at_call 125; refine (E _ hr2).mono ?_; rintro e w3 ⟨rfl, hk3⟩)
            | (go_at_call 75; refine (T2 _ hr1).mono ?_; rintro e w2 ⟨rfl, hr2, hk2⟩)
            | (go_at_call 75; refine T.mono ?_; rintro e w1 ⟨rfl, hr1, hk1⟩)
            | fail)
          refine ⟨rfl, ?_⟩
          rw [← HE.out]
          exact ⟨rfl, ((hk.trans hk1).trans hk2).trans hk3⟩
        | some p =>
          rw [he] at E
          obtain ⟨hp1, hp2, _⟩ := escS_facts (show escS (l'.drop 1) = some (p.1, p.2) from he)
          rw [List.length_drop] at hp2
          have hW := fun w2 (hb : isBl w.heap.size acc w2) (hz : w.heap.size ≤ w2.heap.size) => ws_any w.heap.size acc p.1 w2 hb (by omega) hz
          have HN : Hid (lineS l' = (lineS p.2).map fun q => (p.1 ++ q.1, q.2)) := by
            show _ = _
            rw [lineS_esc h1' h2, he]; rfl
          have HL : Hid (LoopS R s b w lineS (l.drop 1) wr l' acc) := hL
          have bl := hL.bl
          clear he h1 h1' h2 hL
          go_wp2_with (first
            | (go_at_call 43; refine (hW _ hb3 (by omega)).mono ?_; rintro e w4 ⟨⟨v4, rfl⟩, bl4, hb4⟩)
            | (go_at_call 125; refine (E _ hr2).mono ?_; rintro e w3 ⟨⟨rfl, hr3⟩, hk3⟩; have hb3 := kp_isB (kp_isB (kp_isB bl hk1 hR) hk2 hR) hk3 hR; have hz3 := ((hk1.trans hk2).trans hk3).size)
            | (go_at_call 75; refine (T2 _ hr1).mono ?_; rintro e w2 ⟨rfl, hr2, hk2⟩)
            | (go_at_call 75; refine T.mono ?_; rintro e w1 ⟨rfl, hr1, hk1⟩)
            | fail)
          have hr4 := hr3.below hb4 hR
          refine ⟨⟨_, _, HL.out.next HN.out (by omega) hp1 hr4 bl4 ((((hk.trans hk1).trans hk2).trans hk3).then_below hb4)⟩, ?_⟩
          rw [atOf_eq hr4, HA.out]
          simp only [Int.toNat_natCast]
          omega
      · have h2' : List.isPrefixOf [92] l' = false := Bool.eq_false_iff.2 h2
        have T2 := take_no (R := R) (s := s) (b := b) [92] l' h2'
        have E := fun w h => ends_is (R := R) (s := s) (b := b) l' w h
        cases l' with
        | nil =>
          have HE : Hid (none = lineS (l.drop 1)) := by
            show _ = _
            rw [← hL.eq]; rfl
          clear h1 h1' h2 h2' hL
          go_wp2_with (first
            | (go_at_call 49; refine (fail_any _ _ _ hr3).mono ?_; rintro e w4 ⟨rfl, rfl⟩)
            | (go_at_call 77; refine (E _ hr2).mono ?_; rintro e w3 ⟨rfl, hr3, hk3⟩)
            | (go_at_call 75; refine (T2 _ hr1).mono ?_; rintro e w2 ⟨rfl, hr2, hk2⟩)
            | (go_at_call 75; refine T.mono ?_; rintro e w1 ⟨rfl, hr1, hk1⟩)
            | fail)
          refine ⟨rfl, ?_⟩
          rw [← HE.out]
          exact ⟨rfl, ((hk.trans hk1).trans hk2).trans hk3⟩
        | cons c l' =>
          by_cases h3 : endL.contains c = true
          · have S := sees_is (R := R) (s := s) (b := b) endL (c :: l') true h3
            have HE : Hid (none = lineS (l.drop 1)) := by
              show _ = _
              rw [← hL.eq, lineS_end h1' h2' h3]; rfl
            clear h1 h1' h2 h2' h3 hL
            go_wp2_with (first
              | (go_at_call 49; refine (fail_any _ _ _ hr4).mono ?_; rintro e w5 ⟨rfl, rfl⟩)
              | (go_at_call 80; refine (S _ hr3).mono ?_; rintro e w4 ⟨rfl, hr4, hk4⟩)
              | (go_at_call 77; refine (E _ hr2).mono ?_; rintro e w3 ⟨rfl, hr3, hk3⟩)
              | (go_at_call 75; refine (T2 _ hr1).mono ?_; rintro e w2 ⟨rfl, hr2, hk2⟩)
              | (go_at_call 75; refine T.mono ?_; rintro e w1 ⟨rfl, hr1, hk1⟩)
              | fail)
            refine ⟨rfl, ?_⟩
            rw [← HE.out]
            exact ⟨rfl, (((hk.trans hk1).trans hk2).trans hk3).trans hk4⟩
          · have h3' : endL.contains c = false := Bool.eq_false_iff.2 h3
            have S := sees_is (R := R) (s := s) (b := b) endL (c :: l') false h3'
            have Y := fun w h => byte_any (R := R) (s := s) (b := b) c l' w h
            have hW := fun w2 (hb : isBl w.heap.size acc w2) (hz : w.heap.size ≤ w2.heap.size) => wb_any w.heap.size acc c w2 hb (by omega) hz
            have HN : Hid (lineS (c :: l') = (lineS l').map fun q => ([c] ++ q.1, q.2)) := lineS_chr h1' h2' h3'
            have HL : Hid (LoopS R s b w lineS (l.drop 1) wr (c :: l') acc) := hL
            have bl := hL.bl
            clear h1 h1' h2 h2' h3 h3' hL
            go_wp2_with (first
              | (go_at_call 124; refine (hW _ hb5 (by omega)).mono ?_; rintro e w6 ⟨⟨v6, rfl⟩, bl6, hb6⟩)
              | (go_at_call 99; refine (Y _ hr4).mono ?_; rintro e w5 ⟨rfl, hr5, hk5⟩; have hb5 := kp_isB bl ((((hk1.trans hk2).trans hk3).trans hk4).trans hk5) hR; have hz5 := ((((hk1.trans hk2).trans hk3).trans hk4).trans hk5).size)
              | (go_at_call 80; refine (S _ hr3).mono ?_; rintro e w4 ⟨rfl, hr4, hk4⟩)
              | (go_at_call 77; refine (E _ hr2).mono ?_; rintro e w3 ⟨rfl, hr3, hk3⟩)
              | (go_at_call 75; refine (T2 _ hr1).mono ?_; rintro e w2 ⟨rfl, hr2, hk2⟩)
              | (go_at_call 75; refine T.mono ?_; rintro e w1 ⟨rfl, hr1, hk1⟩)
              | fail)
            have hr6 := hr5.below hb6 hR
            refine ⟨⟨_, _, HL.out.next HN.out (by simp) (by simp) hr6 bl6 ((((((hk.trans hk1).trans hk2).trans hk3).trans hk4).trans hk5).then_below hb6)⟩, ?_⟩
            rw [atOf_eq hr6, HA.out]
            simp only [Int.toNat_natCast, List.length_cons] at hle' ⊢
            omega
end
end Go.Proofs.YtlabcadpkdgjnaaGreatDoor
