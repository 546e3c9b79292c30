/- A block string's raw text, read to its end. -/
import Derived.Test.YtlabcadpkdgjnaaGreatDoorLxO
namespace Go.Proofs.YtlabcadpkdgjnaaGreatDoor
open Go Go.RowKit
/-- A block string behind its first quotes. -/
def rawS (l : Bs) : Option (Bs × Bs) := rawF (l.length + 1) l
theorem rawF_fuel : ∀ (n m : Nat) (l : Bs), l.length < n → l.length < m → rawF n l = rawF m l
  | 0, _, _, h, _ => absurd h (Nat.not_lt_zero _)
  | _ + 1, 0, _, _, h => absurd h (Nat.not_lt_zero _)
  | n + 1, m + 1, l, hn, hm => by
    unfold rawF
    by_cases h1 : List.isPrefixOf [34, 34, 34] l = true
    · rw [if_pos h1, if_pos h1]
    · rw [if_neg h1, if_neg h1]
      by_cases h2 : List.isPrefixOf [92, 34, 34, 34] l = true
      · rw [if_pos h2, if_pos h2]
        have := prefix_le h2
        simp only [List.length_cons, List.length_nil] at this
        rw [rawF_fuel n m (l.drop 4) (by rw [List.length_drop]; omega) (by rw [List.length_drop]; omega)]
      · rw [if_neg h2, if_neg h2]
        cases l with
        | nil => rfl
        | cons c r =>
          simp only [List.length_cons] at hn hm
          simp only
          rw [rawF_fuel n m r (by omega) (by omega)]
theorem rawS_stop {l : Bs} (h1 : List.isPrefixOf [34, 34, 34] l = true) : rawS l = some ([], l.drop 3) := by
  show rawF (l.length + 1) l = _
  unfold rawF
  rw [if_pos h1]
theorem rawS_esc {l : Bs} (h1 : List.isPrefixOf [34, 34, 34] l = false) (h2 : List.isPrefixOf [92, 34, 34, 34] l = true) : rawS l = (rawS (l.drop 4)).map fun q => ([34, 34, 34] ++ q.1, q.2) := by
  show rawF (l.length + 1) l = _
  unfold rawF
  rw [if_neg (by rw [h1]; simp), if_pos h2]
  have := prefix_le h2
  simp only [List.length_cons, List.length_nil] at this
  rw [rawF_fuel l.length ((l.drop 4).length + 1) (l.drop 4) (by rw [List.length_drop]; omega) (by omega)]
  rfl
theorem rawS_chr {c : UInt8} {r : Bs} (h1 : List.isPrefixOf [34, 34, 34] (c :: r) = false) (h2 : List.isPrefixOf [92, 34, 34, 34] (c :: r) = false) : rawS (c :: r) = (rawS r).map fun q => ([c] ++ q.1, q.2) := by
  show rawF ((c :: r).length + 1) (c :: r) = _
  unfold rawF
  rw [if_neg (by rw [h1]; simp), if_neg (by rw [h2]; simp)]
  rfl
section
variable {R : Nat} {s : Bs} {b : Nat}

set_option maxHeartbeats 4000000 in
theorem raw_any (l : Bs) (w : World) (h : Rd w R s b l) : Calls Tryz.prog 104 #[.pointer (some ⟨R, 0, none⟩)] w (StrP R s b w (rawS l)) := by
  have hR := h.lt
  have hr0 := h.alloc (.cells #[.pointer none, .slice none 0 0] 94)
  have hB := isB_new w
  have hle := h.le
  have hsm := h.small
  have hk0 : Kp (Own1 R) w (w.alloc (.cells #[.pointer none, .slice none 0 0] 94)) := (Kp.refl _ w).alloc _
  clear h
  go_enter Tryz.func104, Tryz.ntmps104
  go_wp2
  go_loopw [18] (fun _ wr => ∃ l' acc, LoopS R s b w rawS l wr l' acc) (fun _ wr => s.length - (atOf wr R).toNat)
  case atStart =>
    refine ⟨_, [], hr0, ?_, ?_, hB, hk0⟩
    · show (rawS l).map _ = _
      cases rawS l <;> rfl
    · show 0 + 4 * l.length ≤ 65536
      omega
  case round =>
    clear hr0 hB hk0 hle
    obtain ⟨l', acc, hL⟩ := hrel
    have hr := hL.rd
    have hk := hL.kp
    have hz := hk.size
    have hle' := hr.le
    have hlen := hL.len
    have HA : Hid (atOf wr R = ((s.length - l'.length : Nat) : Int)) := atOf_eq hr
    by_cases h1 : List.isPrefixOf [34, 34, 34] l' = true
    · have T := take_yes (R := R) (s := s) (b := b) [34, 34, 34] l' h1 wr hr
      have S := fun w2 (hb : isBl w.heap.size acc w2) (hz : w.heap.size ≤ w2.heap.size) => Tryz.Builder_String_any w.heap.size w.heap.size acc w2 hb hz
      have HE : Hid (some (acc, l'.drop 3) = rawS l) := by
        show _ = _
        rw [← hL.eq, rawS_stop h1]
        simp
      have bl := hL.bl
      clear h1 hL
      go_wp2_with (first
        | (go_at_call 44; refine (S _ hb1 (by omega)).mono ?_; rintro e w2 ⟨rfl, hb2⟩)
        | (go_at_call 75; refine T.mono ?_; rintro e w1 ⟨rfl, hr1, hk1⟩; have hb1 := kp_isB bl hk1 hR; have hz1 := hk1.size)
        | fail)
      go_ret
      rw [← HE.out]
      exact ⟨⟨rfl, hr1.below hb2 hR⟩, (hk.trans hk1).then_below hb2⟩
    · have h1' : List.isPrefixOf [34, 34, 34] l' = false := Bool.eq_false_iff.2 h1
      have T := take_no (R := R) (s := s) (b := b) [34, 34, 34] l' h1' wr hr
      by_cases h2 : List.isPrefixOf [92, 34, 34, 34] l' = true
      · have T2 := take_yes (R := R) (s := s) (b := b) [92, 34, 34, 34] l' h2
        have hp2 := prefix_le h2
        simp only [List.length_cons, List.length_nil] at hp2
        have hW := fun w2 (hb : isBl w.heap.size acc w2) (hz : w.heap.size ≤ w2.heap.size) => ws_any w.heap.size acc [34, 34, 34] w2 hb (by simp only [List.length_cons, List.length_nil]; omega) hz
        have HN : Hid (rawS l' = (rawS (l'.drop 4)).map fun q => ([34, 34, 34] ++ q.1, q.2)) := rawS_esc h1' h2
        have HL : Hid (LoopS R s b w rawS l wr l' acc) := hL
        have bl := hL.bl
        clear h1 h1' h2 hL
        go_wp2_with (first
          | (go_at_call 43; refine (hW _ hb2 (by omega)).mono ?_; rintro e w4 ⟨⟨v4, rfl⟩, bl4, hb4⟩)
          | (go_at_call 75; refine (T2 _ hr1).mono ?_; rintro e w2 ⟨rfl, hr2, hk2⟩; have hb2 := kp_isB (kp_isB bl hk1 hR) hk2 hR; have hz2 := (hk1.trans hk2).size)
          | (go_at_call 75; refine T.mono ?_; rintro e w1 ⟨rfl, hr1, hk1⟩)
          | fail)
        have hr4 : Rd w4 R s b (l'.drop 4) := hr2.below hb4 hR
        refine ⟨⟨_, _, HL.out.next HN.out (by rw [List.length_drop]; omega) (by decide) hr4 bl4 (((hk.trans hk1).trans hk2).then_below hb4)⟩, ?_⟩
        rw [atOf_eq hr4, HA.out, List.length_drop]
        simp only [Int.toNat_natCast]
        omega
      · have h2' : List.isPrefixOf [92, 34, 34, 34] l' = false := Bool.eq_false_iff.2 h2
        have T2 := take_no (R := R) (s := s) (b := b) [92, 34, 34, 34] l' h2'
        have E := fun w h => ends_is (R := R) (s := s) (b := b) l' w h
        cases l' with
        | nil =>
          have HE : Hid (none = rawS l) := by
            show _ = _
            rw [← hL.eq]; rfl
          clear h1 h1' h2 h2' hL
          go_wp2_with (first
            | (go_at_call 49; refine (fail_any _ _ _ hr3).mono ?_; rintro e w4 ⟨rfl, rfl⟩)
            | (go_at_call 77; refine (E _ hr2).mono ?_; rintro e w3 ⟨rfl, hr3, hk3⟩)
            | (go_at_call 75; refine (T2 _ hr1).mono ?_; rintro e w2 ⟨rfl, hr2, hk2⟩)
            | (go_at_call 75; refine T.mono ?_; rintro e w1 ⟨rfl, hr1, hk1⟩)
            | fail)
          refine ⟨rfl, ?_⟩
          rw [← HE.out]
          exact ⟨rfl, ((hk.trans hk1).trans hk2).trans hk3⟩
        | cons c l' =>
          have Y := fun w h => byte_any (R := R) (s := s) (b := b) c l' w h
          have hW := fun w2 (hb : isBl w.heap.size acc w2) (hz : w.heap.size ≤ w2.heap.size) => wb_any w.heap.size acc c w2 hb (by omega) hz
          have HN : Hid (rawS (c :: l') = (rawS l').map fun q => ([c] ++ q.1, q.2)) := rawS_chr h1' h2'
          have HL : Hid (LoopS R s b w rawS l wr (c :: l') acc) := hL
          have bl := hL.bl
          clear h1 h1' h2 h2' hL
          go_wp2_with (first
            | (go_at_call 124; refine (hW _ hb5 (by omega)).mono ?_; rintro e w6 ⟨⟨v6, rfl⟩, bl6, hb6⟩)
            | (go_at_call 99; refine (Y _ hr3).mono ?_; rintro e w5 ⟨rfl, hr5, hk5⟩; have hb5 := kp_isB bl (((hk1.trans hk2).trans hk3).trans hk5) hR; have hz5 := (((hk1.trans hk2).trans hk3).trans hk5).size)
            | (go_at_call 77; refine (E _ hr2).mono ?_; rintro e w3 ⟨rfl, hr3, hk3⟩)
            | (go_at_call 75; refine (T2 _ hr1).mono ?_; rintro e w2 ⟨rfl, hr2, hk2⟩)
            | (go_at_call 75; refine T.mono ?_; rintro e w1 ⟨rfl, hr1, hk1⟩)
            | fail)
          have hr6 := hr5.below hb6 hR
          refine ⟨⟨_, _, HL.out.next HN.out (by simp) (by simp) hr6 bl6 (((((hk.trans hk1).trans hk2).trans hk3).trans hk5).then_below hb6)⟩, ?_⟩
          rw [atOf_eq hr6, HA.out]
          simp only [Int.toNat_natCast, List.length_cons] at hle' ⊢
          omega
end
end Go.Proofs.YtlabcadpkdgjnaaGreatDoor
