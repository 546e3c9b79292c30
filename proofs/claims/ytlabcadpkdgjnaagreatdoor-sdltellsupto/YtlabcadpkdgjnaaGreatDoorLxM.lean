/- Rows of signs, numbers, tokens as they are written. -/
import Derived.Test.YtlabcadpkdgjnaaGreatDoorLxR
import Derived.BigRegion
namespace Go.Proofs.YtlabcadpkdgjnaaGreatDoor
open Go Go.RowKit
section
variable {R : Nat} {s : Bs} {b : Nat}

/-- How much is left, read off the reader. -/
def atOf (w : World) (R : Nat) : Int := match w.cell? ⟨R, 2, none⟩ with | some (.int _ n) => n | _ => 0
theorem atOf_eq {w : World} {l : Bs} (h : Rd w R s b l) : atOf w R = ((s.length - l.length : Nat) : Int) := by
  unfold atOf; rw [h.c2]

theorem spanR_head (S : Bs) : ∀ l : Bs, headIn S l = true → spanR S (l.drop 1) = spanR S l
  | [], h => by cases h
  | c :: l, h => by
    have h' : S.contains c = true := h
    show spanR S l = spanR S (c :: l)
    conv => rhs; unfold spanR
    rw [if_pos h']
theorem spanR_stop (S : Bs) : ∀ l : Bs, headIn S l = false → spanR S l = l
  | [], _ => rfl
  | c :: l, h => by
    have h' : ¬ S.contains c = true := by rw [show S.contains c = false from h]; simp
    unfold spanR
    rw [if_neg h']

set_option maxHeartbeats 1000000 in
theorem row_any (S l : Bs) (w : World) (h : Rd w R s b l) : Calls Tryz.prog 74 #[.pointer (some ⟨R, 0, none⟩), .string ⟨S.toArray⟩] w fun e w' => e = .returned (.bool (headIn S l)) ∧ Rd w' R s b (spanR S l) ∧ Kp (Own1 R) w w' := by
  have c2 := h.c2
  have hle := h.le
  have hB : Hid (headIn S l = decide (s.length - l.length < s.length - (spanR S l).length)) := by
    show _ = _
    have hs := (spanR_suf S l).length_le
    by_cases hh : headIn S l = true
    · rw [hh]
      symm
      rw [decide_eq_true_eq]
      rw [← spanR_head S l hh]
      have := (spanR_suf S (l.drop 1)).length_le
      have hl : 0 < l.length := by
        cases l with
        | nil => cases hh
        | cons c l => simp
      rw [List.length_drop] at this
      omega
    · have hh' : headIn S l = false := Bool.eq_false_iff.2 hh
      rw [hh', spanR_stop S l hh']
      simp
  have hA0 : (0 : Int) ≤ ((s.length - l.length : Nat) : Int) := by omega
  have HH : Hid (Rd w R s b l) := h
  clear h
  go_enter Tryz.func74, Tryz.ntmps74
  go_wp2
  go_loopw [12] (fun _ wr => ∃ l', Rd wr R s b l' ∧ spanR S l' = spanR S l ∧ Kp (Own1 R) w wr) (fun _ wr => s.length - (atOf wr R).toNat)
  case atStart => exact ⟨l, HH.out, rfl, Kp.refl _ _⟩
  case round =>
    obtain ⟨l', hr, hsp, hk⟩ := hrel
    have O := one_any S l' wr hr
    have ha := atOf_eq hr
    have HSP : Hid (spanR S l' = spanR S l) := hsp
    clear hsp
    have hle' := hr.le
    by_cases hh : headIn S l' = true
    · rw [hh] at O
      have ho : optO S l' = l'.drop 1 := if_pos hh
      rw [ho] at O
      have hl : 0 < l'.length := by
        cases l' with
        | nil => cases hh
        | cons c l => simp
      have HH' : Hid (headIn S l' = true) := hh
      clear hh ho
      go_wp2_with (go_at_call 78; refine O.mono ?_; rintro e w1 ⟨rfl, hr1, hk1⟩)
      refine ⟨⟨_, hr1, (spanR_head S l' HH'.out).trans HSP.out, hk.trans hk1⟩, ?_⟩
      rw [atOf_eq hr1, ha, List.length_drop]
      simp only [Int.toNat_natCast]
      omega
    · have hh' : headIn S l' = false := Bool.eq_false_iff.2 hh
      rw [hh'] at O
      have ho : optO S l' = l' := if_neg hh
      rw [ho] at O
      have HE : Hid (l' = spanR S l) := (spanR_stop S l' hh').symm.trans HSP.out
      clear hh ho hh'
      go_wp2_with (go_at_call 78; refine O.mono ?_; rintro e w1 ⟨rfl, hr1, hk1⟩; have d2 := hr1.c2)
      go_ret
      have e := HE.out
      subst e
      exact ⟨by rw [hB.out]; rfl, hr1, hk.trans hk1⟩

theorem need_yes (l : Bs) (w : World) (h : Rd w R s b l) (hh : headIn digL l = true) : Calls Tryz.prog 102 #[.pointer (some ⟨R, 0, none⟩)] w fun e w' => e = .returned (.tuple #[]) ∧ Rd w' R s b (spanR digL l) ∧ Kp (Own1 R) w w' := by
  have O := row_any digL l w h
  rw [hh] at O
  clear hh
  go_enter Tryz.func102, Tryz.ntmps102
  go_wp2_with (go_at_call 74; refine O.mono ?_; rintro e w1 ⟨rfl, hr1, hk1⟩)
  go_end0
  exact ⟨rfl, hr1, hk1⟩
theorem need_no (l : Bs) (w : World) (h : Rd w R s b l) (hh : headIn digL l = false) : Calls Tryz.prog 102 #[.pointer (some ⟨R, 0, none⟩)] w fun e w' => e = Dies b 51 ∧ Kp (Own1 R) w w' := by
  have O := row_any digL l w h
  rw [hh] at O
  clear hh
  go_enter Tryz.func102, Tryz.ntmps102
  go_wp2_with (first
    | (go_at_call 74; refine O.mono ?_; rintro e w1 ⟨rfl, hr1, hk1⟩)
    | (go_at_call 49; refine (fail_any _ _ _ hr1).mono ?_; rintro e w2 ⟨rfl, rfl⟩))
  exact ⟨rfl, rfl, hk1⟩

/-- A step of the reader that tells this. -/
def Goes (f : FuncId) (R : Nat) (s : Bs) (b : Nat) (l : Bs) (v : Value) (m : Bs) : Prop := ∀ w, Rd w R s b l → Calls Tryz.prog f #[.pointer (some ⟨R, 0, none⟩)] w fun e w' => e = .returned v ∧ Rd w' R s b m ∧ Kp (Own1 R) w w'
/-- A step of the reader that gives up. -/
def Gives (f : FuncId) (R : Nat) (s : Bs) (b : Nat) (l : Bs) (x : Int) : Prop := ∀ w, Rd w R s b l → Calls Tryz.prog f #[.pointer (some ⟨R, 0, none⟩)] w fun e w' => e = Dies b x ∧ Kp (Own1 R) w w'
theorem needD_yes (l r : Bs) (h : needD l = some r) : Goes 102 R s b l (.tuple #[]) r := by
  intro w hr
  unfold needD at h
  by_cases hh : headIn digL l = true
  · rw [if_pos hh] at h; cases h; exact need_yes l w hr hh
  · rw [if_neg hh] at h; cases h
theorem needD_no (l : Bs) (h : needD l = none) : Gives 102 R s b l 51 := by
  intro w hr
  unfold needD at h
  by_cases hh : headIn digL l = true
  · rw [if_pos hh] at h; cases h
  · exact need_no l w hr (Bool.eq_false_iff.2 hh)
/-- What follows a number may not be one of these. -/
def numL : Bs := digL ++ 46 :: letL

end
end Go.Proofs.YtlabcadpkdgjnaaGreatDoor
