/- The reader's small steps. -/
import Derived.Test.YtlabcadpkdgjnaaGreatDoorLxK
namespace Go.Proofs.YtlabcadpkdgjnaaGreatDoor
open Go Go.RowKit
section
variable {R : Nat} {s : Bs} {b : Nat}

theorem ends_yes (w : World) (h : Rd w R s b []) : Calls Tryz.prog 77 #[.pointer (some ⟨R, 0, none⟩)] w fun e w' => e = .returned (.bool true) ∧ ∃ m, w' = w.drewN m := by
  have c0 := h.c0
  have c2 := h.c2
  obtain ⟨h1, _, _⟩ := suf_facts h.suf
  rw [show s.length - ([] : Bs).length = s.length from rfl] at c2
  generalize (ByteArray.mk s.toArray) = S at *
  go_enter Tryz.func77, Tryz.ntmps77
  go_wp2
  go_quiet (fail)
  go_wp2
  go_ret
  exact ⟨rfl, _, rfl⟩
theorem ends_no (c : UInt8) (l : Bs) (w : World) (h : Rd w R s b (c :: l)) : Calls Tryz.prog 77 #[.pointer (some ⟨R, 0, none⟩)] w fun e w' => e = .returned (.bool false) ∧ ∃ m, w' = w.drewN m := by
  have c0 := h.c0
  have c2 := h.c2
  have hle := h.le
  obtain ⟨h1, _, h3⟩ := suf_facts h.suf
  have hne : (((s.length - (c :: l).length : Nat) : Int) == (s.length : Int)) = false := by
    rw [beq_eq_false_iff_ne]; simp only [List.length_cons] at h3 hle ⊢; omega
  generalize s.length - (c :: l).length = A at *
  generalize (ByteArray.mk s.toArray) = S at *
  go_enter Tryz.func77, Tryz.ntmps77
  go_wp2
  go_quiet (fail)
  go_wp2
  go_ret
  exact ⟨rfl, _, rfl⟩

set_option maxHeartbeats 1000000 in
theorem sees_any (S l : Bs) (w : World) (h : Rd w R s b l) : Calls Tryz.prog 80 #[.pointer (some ⟨R, 0, none⟩), .string ⟨S.toArray⟩] w fun e w' => e = .returned (.bool (headIn S l)) ∧ ∃ m, w' = w.drewN m := by
  cases l with
  | nil =>
    have E := fun n => ends_yes (w.drewN n) (h.drewN n)
    go_enter Tryz.func80, Tryz.ntmps80
    go_wp2
    go_quiet ((go_at_call 77; exact Calls.quiet_of (E _)))
    go_wp2
    go_ret
    exact ⟨rfl, _, rfl⟩
  | cons c l =>
    have E := fun n => ends_no c l (w.drewN n) (h.drewN n)
    have c0 := h.c0
    have c2 := h.c2
    have hle := h.le
    obtain ⟨h1, _, h3⟩ := suf_facts h.suf
    have hg := suf_get h.suf
    have hlt : ((s.length - (c :: l).length : Nat) : Int) < s.length := by simp only [List.length_cons] at h3 hle ⊢; omega
    have I := fun w => Tryz.strings_IndexByte ⟨S.toArray⟩ (c.toNat : Int) w
    have e8 : ((c.toNat : Int)).toNat.toUInt8 = c := by simp
    rw [e8] at I
    have hx : decide (0 ≤ Lib.indexByte S c) = headIn S (c :: l) := index_ge0 S c
    generalize headIn S (c :: l) = T at *
    have I' : ∀ w, Calls Tryz.prog 101 #[.string ⟨S.toArray⟩, .int .u8 (c.toNat : Int)] w fun e w' => e = .returned (.int .i64 (Lib.indexByte S c)) ∧ w' = w := I
    clear I
    generalize Lib.indexByte S c = x at *
    generalize s.length - (c :: l).length = A at *
    generalize (ByteArray.mk s.toArray) = D at *
    have hA : ((A : Nat) : Int).toNat = A := by omega
    go_enter Tryz.func80, Tryz.ntmps80
    go_wp2
    go_quiet (first
      | (go_at_call 77; exact Calls.quiet_of (E _))
      | (go_at_call 101; exact Calls.quiet_of_same (I' _)))
    go_wp2
    go_ret
    exact ⟨by rw [← hx]; rfl, _, rfl⟩

set_option maxHeartbeats 1000000 in
theorem take_any (p l : Bs) (w : World) (h : Rd w R s b l) : Calls Tryz.prog 75 #[.pointer (some ⟨R, 0, none⟩), .string ⟨p.toArray⟩] w fun e w' => e = .returned (.bool (p.isPrefixOf l)) ∧ Rd w' R s b (optT p l) ∧ Kp (Own1 R) w w' := by
  have c0 := h.c0
  have c2 := h.c2
  have hf := h.free 2
  have hle := h.le
  have hsm := h.small
  obtain ⟨h1, h2, h3⟩ := suf_facts h.suf
  have H := fun w => Tryz.strings_HasPrefix ⟨l.toArray⟩ ⟨p.toArray⟩ w
  have H' : ∀ w, Calls Tryz.prog 98 #[.string ⟨l.toArray⟩, .string ⟨p.toArray⟩] w fun e w' => e = .returned (.bool (p.isPrefixOf l)) ∧ w' = w := H
  clear H
  have hA0 : (0 : Int) ≤ ((s.length - l.length : Nat) : Int) := by omega
  have hA1 : ((s.length - l.length : Nat) : Int) ≤ (s.length : Int) := by omega
  by_cases hp : p.isPrefixOf l = true
  · have hpl : p.length ≤ l.length := (List.isPrefixOf_iff_prefix.1 hp).length_le
    have hmv := h.move (drop_suf p.length l) (((s.length - l.length : Nat) : Int) + (p.length : Int)) (by rw [List.length_drop]; omega)
    have ho : optT p l = l.drop p.length := if_pos hp
    rw [ho, hp]
    rw [hp] at H'
    have hp1 := size_of p
    have HM : Hid (Rd (w.setCell ⟨R, 2, none⟩ (.int .i64 (((s.length - l.length : Nat) : Int) + (p.length : Int)))) R s b (l.drop p.length)) := hmv
    have hpI : (p.length : Int) ≤ 16384 := by omega
    have hAI : ((s.length - l.length : Nat) : Int) ≤ 16384 := by omega
    have hpI0 : (0 : Int) ≤ (p.length : Int) := by omega
    clear hmv h hp ho
    generalize s.length - l.length = A at *
    generalize (ByteArray.mk s.toArray) = D at *
    generalize (ByteArray.mk l.toArray) = L at *
    generalize (ByteArray.mk p.toArray) = P at *
    go_enter Tryz.func75, Tryz.ntmps75
    go_wp2
    go_quiet ((go_at_call 98; exact Calls.quiet_of_same (H' _)))
    go_wp2
    go_ret
    exact ⟨rfl, HM.out.drewN _, by first | exact (Kp.own R 2 _).drewN _ | exact (Kp.n w _).trans (Kp.own R 2 _)⟩
  · have hp' : p.isPrefixOf l = false := Bool.eq_false_iff.2 hp
    have ho : optT p l = l := if_neg hp
    rw [ho, hp']
    rw [hp'] at H'
    have HM : Hid (Rd w R s b l) := h
    clear h hp ho hp'
    generalize s.length - l.length = A at *
    generalize (ByteArray.mk s.toArray) = D at *
    generalize (ByteArray.mk l.toArray) = L at *
    generalize (ByteArray.mk p.toArray) = P at *
    go_enter Tryz.func75, Tryz.ntmps75
    go_wp2
    go_quiet ((go_at_call 98; exact Calls.quiet_of_same (H' _)))
    go_wp2
    go_ret
    exact ⟨rfl, HM.out.drewN _, (Kp.refl _ _).drewN _⟩

set_option maxHeartbeats 1000000 in
theorem one_any (S l : Bs) (w : World) (h : Rd w R s b l) : Calls Tryz.prog 78 #[.pointer (some ⟨R, 0, none⟩), .string ⟨S.toArray⟩] w fun e w' => e = .returned (.bool (headIn S l)) ∧ Rd w' R s b (optO S l) ∧ Kp (Own1 R) w w' := by
  have E := sees_any S l w h
  have c2 := h.c2
  have hf := h.free 2
  have hle := h.le
  have hsm := h.small
  by_cases hp : headIn S l = true
  · cases l with
    | nil => cases hp
    | cons c l =>
      have ho : optO S (c :: l) = l := by unfold optO; rw [if_pos hp]; rfl
      have hmv := h.move (tail_suf c l) (((s.length - (c :: l).length : Nat) : Int) + 1) (by simp only [List.length_cons] at hle ⊢; omega)
      rw [ho, hp]
      rw [hp] at E
      have HM : Hid (Rd (w.setCell ⟨R, 2, none⟩ (.int .i64 (((s.length - (c :: l).length : Nat) : Int) + 1))) R s b l) := hmv
      have hAI : ((s.length - (c :: l).length : Nat) : Int) ≤ 16384 := by omega
      have hA0 : (0 : Int) ≤ ((s.length - (c :: l).length : Nat) : Int) := by omega
      clear hmv h hp ho
      generalize s.length - (c :: l).length = A at *
      go_enter Tryz.func78, Tryz.ntmps78
      go_wp2_with (go_at_call 80; refine E.mono ?_; rintro e w1 ⟨rfl, m, rfl⟩)
      go_ret
      exact ⟨rfl, HM.out.drewN _, by first | exact (Kp.own R 2 _).drewN _ | exact (Kp.n w _).trans (Kp.own R 2 _)⟩
  · have hp' : headIn S l = false := by simpa using hp
    have ho : optO S l = l := if_neg hp
    rw [ho, hp']
    rw [hp'] at E
    have HM : Hid (Rd w R s b l) := h
    clear h hp ho hp'
    go_enter Tryz.func78, Tryz.ntmps78
    go_wp2_with (go_at_call 80; refine E.mono ?_; rintro e w1 ⟨rfl, m, rfl⟩)
    go_ret
    exact ⟨rfl, HM.out.drewN _, (Kp.refl _ _).drewN _⟩

theorem byte_any (c : UInt8) (l : Bs) (w : World) (h : Rd w R s b (c :: l)) : Calls Tryz.prog 99 #[.pointer (some ⟨R, 0, none⟩)] w fun e w' => e = .returned (.int .u8 (c.toNat : Int)) ∧ Rd w' R s b l ∧ Kp (Own1 R) w w' := by
  have c0 := h.c0
  have c2 := h.c2
  have hf := h.free 2
  have hle := h.le
  have hsm := h.small
  obtain ⟨h1, _, h3⟩ := suf_facts h.suf
  have hg := suf_get h.suf
  have hmv := h.move (tail_suf c l) (((s.length - (c :: l).length : Nat) : Int) + 1) (by simp only [List.length_cons] at hle ⊢; omega)
  have HM : Hid (Rd (w.setCell ⟨R, 2, none⟩ (.int .i64 (((s.length - (c :: l).length : Nat) : Int) + 1))) R s b l) := hmv
  have hAI : ((s.length - (c :: l).length : Nat) : Int) ≤ 16384 := by omega
  have hlt : ((s.length - (c :: l).length : Nat) : Int) < s.length := by simp only [List.length_cons] at h3 hle ⊢; omega
  have hA0 : (0 : Int) ≤ ((s.length - (c :: l).length : Nat) : Int) := by omega
  clear hmv h
  generalize s.length - (c :: l).length = A at *
  generalize (ByteArray.mk s.toArray) = D at *
  have e1 : (A : Int) + 1 - 1 = A := by omega
  have hA : ((A : Nat) : Int).toNat = A := by omega
  go_enter Tryz.func99, Tryz.ntmps99
  go_wp2
  go_quiet (fail)
  go_wp2
  go_ret
  exact ⟨rfl, HM.out.drewN _, by first | exact (Kp.own R 2 _).drewN _ | exact (Kp.n w _).trans (Kp.own R 2 _)⟩

theorem fail_any (l : Bs) (x : Int) (w : World) (h : Rd w R s b l) : Calls Tryz.prog 49 #[.pointer (some ⟨R, 0, none⟩), .int .i64 x] w fun e w' => e = Dies b x ∧ w' = w := by
  have c1 := h.c1
  go_enter Tryz.func49, Tryz.ntmps49
  go_wp2
  exact ⟨rfl, rfl, rfl⟩
end
end Go.Proofs.YtlabcadpkdgjnaaGreatDoor
