/- A number, way by way. -/
import Derived.Test.YtlabcadpkdgjnaaGreatDoorLxM
namespace Go.Proofs.YtlabcadpkdgjnaaGreatDoor
open Go Go.RowKit
section
variable {R : Nat} {s : Bs} {b : Nat}
/-- The number's post. -/
def NumP (R : Nat) (s : Bs) (b : Nat) (w : World) (r : Option (Int × Bs)) (e : Ending) (w' : World) : Prop := (match r with
    | some p => e = .returned (.int .i64 p.1) ∧ Rd w' R s b p.2
    | none => e = Dies b 51) ∧ Kp (Own1 R) w w'

set_option maxHeartbeats 1000000 in
theorem num_1 (l l0 l1 : Bs) (B0 : Bool) (T0 : ∀ w, Rd w R s b l → Calls Tryz.prog 75 #[.pointer (some ⟨R, 0, none⟩), .string ⟨#[45]⟩] w fun e w' => e = .returned (.bool B0) ∧ Rd w' R s b l0 ∧ Kp (Own1 R) w w') (T1 : ∀ w, Rd w R s b l0 → Calls Tryz.prog 75 #[.pointer (some ⟨R, 0, none⟩), .string ⟨#[48]⟩] w fun e w' => e = .returned (.bool true) ∧ Rd w' R s b l1 ∧ Kp (Own1 R) w w') (T2 : ∀ w, Rd w R s b l1 → Calls Tryz.prog 75 #[.pointer (some ⟨R, 0, none⟩), .string ⟨#[46]⟩] w fun e w' => e = .returned (.bool false) ∧ Rd w' R s b l1 ∧ Kp (Own1 R) w w') (O3 : ∀ w, Rd w R s b l1 → Calls Tryz.prog 78 #[.pointer (some ⟨R, 0, none⟩), .string ⟨#[101, 69]⟩] w fun e w' => e = .returned (.bool false) ∧ Rd w' R s b l1 ∧ Kp (Own1 R) w w') (S5 : ∀ w, Rd w R s b l1 → Calls Tryz.prog 80 #[.pointer (some ⟨R, 0, none⟩), .string ⟨numL.toArray⟩] w fun e w' => e = .returned (.bool false) ∧ Rd w' R s b l1 ∧ Kp (Own1 R) w w') (w : World) (h : Rd w R s b l) : Calls Tryz.prog 81 #[.pointer (some ⟨R, 0, none⟩)] w (NumP R s b w (some (2, l1))) := by
  go_enter Tryz.func81, Tryz.ntmps81
  go_wp2_with (first
    | (go_at_call 80; refine (S5 _ hr4).mono ?_; rintro e w5 ⟨rfl, hr5, hk5⟩)
    | (go_at_call 78; refine (O3 _ hr3).mono ?_; rintro e w4 ⟨rfl, hr4, hk4⟩)
    | (go_at_call 75; refine (T2 _ hr2).mono ?_; rintro e w3 ⟨rfl, hr3, hk3⟩)
    | (go_at_call 75; refine (T1 _ hr1).mono ?_; rintro e w2 ⟨rfl, hr2, hk2⟩)
    | (go_at_call 75; refine (T0 _ h).mono ?_; rintro e w1 ⟨rfl, hr1, hk1⟩)
    | fail)
  go_ret
  exact ⟨⟨rfl, hr5⟩, (((hk1.trans hk2).trans hk3).trans hk4).trans hk5⟩

set_option maxHeartbeats 1000000 in
theorem num_2 (l l0 l1 : Bs) (B0 : Bool) (T0 : ∀ w, Rd w R s b l → Calls Tryz.prog 75 #[.pointer (some ⟨R, 0, none⟩), .string ⟨#[45]⟩] w fun e w' => e = .returned (.bool B0) ∧ Rd w' R s b l0 ∧ Kp (Own1 R) w w') (T1 : ∀ w, Rd w R s b l0 → Calls Tryz.prog 75 #[.pointer (some ⟨R, 0, none⟩), .string ⟨#[48]⟩] w fun e w' => e = .returned (.bool true) ∧ Rd w' R s b l1 ∧ Kp (Own1 R) w w') (T2 : ∀ w, Rd w R s b l1 → Calls Tryz.prog 75 #[.pointer (some ⟨R, 0, none⟩), .string ⟨#[46]⟩] w fun e w' => e = .returned (.bool false) ∧ Rd w' R s b l1 ∧ Kp (Own1 R) w w') (O3 : ∀ w, Rd w R s b l1 → Calls Tryz.prog 78 #[.pointer (some ⟨R, 0, none⟩), .string ⟨#[101, 69]⟩] w fun e w' => e = .returned (.bool false) ∧ Rd w' R s b l1 ∧ Kp (Own1 R) w w') (S5 : ∀ w, Rd w R s b l1 → Calls Tryz.prog 80 #[.pointer (some ⟨R, 0, none⟩), .string ⟨numL.toArray⟩] w fun e w' => e = .returned (.bool true) ∧ Rd w' R s b l1 ∧ Kp (Own1 R) w w') (w : World) (h : Rd w R s b l) : Calls Tryz.prog 81 #[.pointer (some ⟨R, 0, none⟩)] w (NumP R s b w none) := by
  go_enter Tryz.func81, Tryz.ntmps81
  go_wp2_with (first
    | (go_at_call 49; refine (fail_any _ _ _ hr5).mono ?_; rintro e w6 ⟨rfl, rfl⟩)
    | (go_at_call 80; refine (S5 _ hr4).mono ?_; rintro e w5 ⟨rfl, hr5, hk5⟩)
    | (go_at_call 78; refine (O3 _ hr3).mono ?_; rintro e w4 ⟨rfl, hr4, hk4⟩)
    | (go_at_call 75; refine (T2 _ hr2).mono ?_; rintro e w3 ⟨rfl, hr3, hk3⟩)
    | (go_at_call 75; refine (T1 _ hr1).mono ?_; rintro e w2 ⟨rfl, hr2, hk2⟩)
    | (go_at_call 75; refine (T0 _ h).mono ?_; rintro e w1 ⟨rfl, hr1, hk1⟩)
    | fail)
  exact ⟨rfl, rfl, (((hk1.trans hk2).trans hk3).trans hk4).trans hk5⟩

set_option maxHeartbeats 1000000 in
theorem num_3 (l l0 l1 l3 m2 m3 : Bs) (B0 B4 : Bool) (T0 : ∀ w, Rd w R s b l → Calls Tryz.prog 75 #[.pointer (some ⟨R, 0, none⟩), .string ⟨#[45]⟩] w fun e w' => e = .returned (.bool B0) ∧ Rd w' R s b l0 ∧ Kp (Own1 R) w w') (T1 : ∀ w, Rd w R s b l0 → Calls Tryz.prog 75 #[.pointer (some ⟨R, 0, none⟩), .string ⟨#[48]⟩] w fun e w' => e = .returned (.bool true) ∧ Rd w' R s b l1 ∧ Kp (Own1 R) w w') (T2 : ∀ w, Rd w R s b l1 → Calls Tryz.prog 75 #[.pointer (some ⟨R, 0, none⟩), .string ⟨#[46]⟩] w fun e w' => e = .returned (.bool false) ∧ Rd w' R s b l1 ∧ Kp (Own1 R) w w') (O3 : ∀ w, Rd w R s b l1 → Calls Tryz.prog 78 #[.pointer (some ⟨R, 0, none⟩), .string ⟨#[101, 69]⟩] w fun e w' => e = .returned (.bool true) ∧ Rd w' R s b m2 ∧ Kp (Own1 R) w w') (O4 : ∀ w, Rd w R s b m2 → Calls Tryz.prog 78 #[.pointer (some ⟨R, 0, none⟩), .string ⟨#[43, 45]⟩] w fun e w' => e = .returned (.bool B4) ∧ Rd w' R s b m3 ∧ Kp (Own1 R) w w') (N3 : Goes 102 R s b m3 (.tuple #[]) l3) (S5 : ∀ w, Rd w R s b l3 → Calls Tryz.prog 80 #[.pointer (some ⟨R, 0, none⟩), .string ⟨numL.toArray⟩] w fun e w' => e = .returned (.bool false) ∧ Rd w' R s b l3 ∧ Kp (Own1 R) w w') (w : World) (h : Rd w R s b l) : Calls Tryz.prog 81 #[.pointer (some ⟨R, 0, none⟩)] w (NumP R s b w (some (3, l3))) := by
  go_enter Tryz.func81, Tryz.ntmps81
  go_wp2_with (first
    | (go_at_call 80; refine (S5 _ hr6).mono ?_; rintro e w7 ⟨rfl, hr7, hk7⟩)
    | (go_at_call 102; refine (N3 _ hr5).mono ?_; rintro e w6 ⟨rfl, hr6, hk6⟩)
    | (go_at_call 78; refine (O4 _ hr4).mono ?_; rintro e w5 ⟨rfl, hr5, hk5⟩)
    | (go_at_call 78; refine (O3 _ hr3).mono ?_; rintro e w4 ⟨rfl, hr4, hk4⟩)
    | (go_at_call 75; refine (T2 _ hr2).mono ?_; rintro e w3 ⟨rfl, hr3, hk3⟩)
    | (go_at_call 75; refine (T1 _ hr1).mono ?_; rintro e w2 ⟨rfl, hr2, hk2⟩)
    | (go_at_call 75; refine (T0 _ h).mono ?_; rintro e w1 ⟨rfl, hr1, hk1⟩)
    | fail)
  go_ret
  exact ⟨⟨rfl, hr7⟩, (((((hk1.trans hk2).trans hk3).trans hk4).trans hk5).trans hk6).trans hk7⟩

set_option maxHeartbeats 1000000 in
theorem num_4 (l l0 l1 l3 m2 m3 : Bs) (B0 B4 : Bool) (T0 : ∀ w, Rd w R s b l → Calls Tryz.prog 75 #[.pointer (some ⟨R, 0, none⟩), .string ⟨#[45]⟩] w fun e w' => e = .returned (.bool B0) ∧ Rd w' R s b l0 ∧ Kp (Own1 R) w w') (T1 : ∀ w, Rd w R s b l0 → Calls Tryz.prog 75 #[.pointer (some ⟨R, 0, none⟩), .string ⟨#[48]⟩] w fun e w' => e = .returned (.bool true) ∧ Rd w' R s b l1 ∧ Kp (Own1 R) w w') (T2 : ∀ w, Rd w R s b l1 → Calls Tryz.prog 75 #[.pointer (some ⟨R, 0, none⟩), .string ⟨#[46]⟩] w fun e w' => e = .returned (.bool false) ∧ Rd w' R s b l1 ∧ Kp (Own1 R) w w') (O3 : ∀ w, Rd w R s b l1 → Calls Tryz.prog 78 #[.pointer (some ⟨R, 0, none⟩), .string ⟨#[101, 69]⟩] w fun e w' => e = .returned (.bool true) ∧ Rd w' R s b m2 ∧ Kp (Own1 R) w w') (O4 : ∀ w, Rd w R s b m2 → Calls Tryz.prog 78 #[.pointer (some ⟨R, 0, none⟩), .string ⟨#[43, 45]⟩] w fun e w' => e = .returned (.bool B4) ∧ Rd w' R s b m3 ∧ Kp (Own1 R) w w') (N3 : Goes 102 R s b m3 (.tuple #[]) l3) (S5 : ∀ w, Rd w R s b l3 → Calls Tryz.prog 80 #[.pointer (some ⟨R, 0, none⟩), .string ⟨numL.toArray⟩] w fun e w' => e = .returned (.bool true) ∧ Rd w' R s b l3 ∧ Kp (Own1 R) w w') (w : World) (h : Rd w R s b l) : Calls Tryz.prog 81 #[.pointer (some ⟨R, 0, none⟩)] w (NumP R s b w none) := by
  go_enter Tryz.func81, Tryz.ntmps81
  go_wp2_with (first
    | (go_at_call 49; refine (fail_any _ _ _ hr7).mono ?_; rintro e w8 ⟨rfl, rfl⟩)
    | (go_at_call 80; refine (S5 _ hr6).mono ?_; rintro e w7 ⟨rfl, hr7, hk7⟩)
    | (go_at_call 102; refine (N3 _ hr5).mono ?_; rintro e w6 ⟨rfl, hr6, hk6⟩)
    | (go_at_call 78; refine (O4 _ hr4).mono ?_; rintro e w5 ⟨rfl, hr5, hk5⟩)
    | (go_at_call 78; refine (O3 _ hr3).mono ?_; rintro e w4 ⟨rfl, hr4, hk4⟩)
    | (go_at_call 75; refine (T2 _ hr2).mono ?_; rintro e w3 ⟨rfl, hr3, hk3⟩)
    | (go_at_call 75; refine (T1 _ hr1).mono ?_; rintro e w2 ⟨rfl, hr2, hk2⟩)
    | (go_at_call 75; refine (T0 _ h).mono ?_; rintro e w1 ⟨rfl, hr1, hk1⟩)
    | fail)
  exact ⟨rfl, rfl, (((((hk1.trans hk2).trans hk3).trans hk4).trans hk5).trans hk6).trans hk7⟩

set_option maxHeartbeats 1000000 in
theorem num_5 (l l0 l1 m2 m3 : Bs) (B0 B4 : Bool) (T0 : ∀ w, Rd w R s b l → Calls Tryz.prog 75 #[.pointer (some ⟨R, 0, none⟩), .string ⟨#[45]⟩] w fun e w' => e = .returned (.bool B0) ∧ Rd w' R s b l0 ∧ Kp (Own1 R) w w') (T1 : ∀ w, Rd w R s b l0 → Calls Tryz.prog 75 #[.pointer (some ⟨R, 0, none⟩), .string ⟨#[48]⟩] w fun e w' => e = .returned (.bool true) ∧ Rd w' R s b l1 ∧ Kp (Own1 R) w w') (T2 : ∀ w, Rd w R s b l1 → Calls Tryz.prog 75 #[.pointer (some ⟨R, 0, none⟩), .string ⟨#[46]⟩] w fun e w' => e = .returned (.bool false) ∧ Rd w' R s b l1 ∧ Kp (Own1 R) w w') (O3 : ∀ w, Rd w R s b l1 → Calls Tryz.prog 78 #[.pointer (some ⟨R, 0, none⟩), .string ⟨#[101, 69]⟩] w fun e w' => e = .returned (.bool true) ∧ Rd w' R s b m2 ∧ Kp (Own1 R) w w') (O4 : ∀ w, Rd w R s b m2 → Calls Tryz.prog 78 #[.pointer (some ⟨R, 0, none⟩), .string ⟨#[43, 45]⟩] w fun e w' => e = .returned (.bool B4) ∧ Rd w' R s b m3 ∧ Kp (Own1 R) w w') (N3 : Gives 102 R s b m3 51) (w : World) (h : Rd w R s b l) : Calls Tryz.prog 81 #[.pointer (some ⟨R, 0, none⟩)] w (NumP R s b w none) := by
  go_enter Tryz.func81, Tryz.ntmps81
  go_wp2_with (first
    | (go_at_call 102; refine (N3 _ hr5).mono ?_; rintro e w6 ⟨rfl, hk6⟩)
    | (go_at_call 78; refine (O4 _ hr4).mono ?_; rintro e w5 ⟨rfl, hr5, hk5⟩)
    | (go_at_call 78; refine (O3 _ hr3).mono ?_; rintro e w4 ⟨rfl, hr4, hk4⟩)
    | (go_at_call 75; refine (T2 _ hr2).mono ?_; rintro e w3 ⟨rfl, hr3, hk3⟩)
    | (go_at_call 75; refine (T1 _ hr1).mono ?_; rintro e w2 ⟨rfl, hr2, hk2⟩)
    | (go_at_call 75; refine (T0 _ h).mono ?_; rintro e w1 ⟨rfl, hr1, hk1⟩)
    | fail)
  exact ⟨rfl, rfl, ((((hk1.trans hk2).trans hk3).trans hk4).trans hk5).trans hk6⟩

set_option maxHeartbeats 1000000 in
theorem num_6 (l l0 l1 l2 m1 : Bs) (B0 : Bool) (T0 : ∀ w, Rd w R s b l → Calls Tryz.prog 75 #[.pointer (some ⟨R, 0, none⟩), .string ⟨#[45]⟩] w fun e w' => e = .returned (.bool B0) ∧ Rd w' R s b l0 ∧ Kp (Own1 R) w w') (T1 : ∀ w, Rd w R s b l0 → Calls Tryz.prog 75 #[.pointer (some ⟨R, 0, none⟩), .string ⟨#[48]⟩] w fun e w' => e = .returned (.bool true) ∧ Rd w' R s b l1 ∧ Kp (Own1 R) w w') (T2 : ∀ w, Rd w R s b l1 → Calls Tryz.prog 75 #[.pointer (some ⟨R, 0, none⟩), .string ⟨#[46]⟩] w fun e w' => e = .returned (.bool true) ∧ Rd w' R s b m1 ∧ Kp (Own1 R) w w') (N2 : Goes 102 R s b m1 (.tuple #[]) l2) (O3 : ∀ w, Rd w R s b l2 → Calls Tryz.prog 78 #[.pointer (some ⟨R, 0, none⟩), .string ⟨#[101, 69]⟩] w fun e w' => e = .returned (.bool false) ∧ Rd w' R s b l2 ∧ Kp (Own1 R) w w') (S5 : ∀ w, Rd w R s b l2 → Calls Tryz.prog 80 #[.pointer (some ⟨R, 0, none⟩), .string ⟨numL.toArray⟩] w fun e w' => e = .returned (.bool false) ∧ Rd w' R s b l2 ∧ Kp (Own1 R) w w') (w : World) (h : Rd w R s b l) : Calls Tryz.prog 81 #[.pointer (some ⟨R, 0, none⟩)] w (NumP R s b w (some (3, l2))) := by
  go_enter Tryz.func81, Tryz.ntmps81
  go_wp2_with (first
    | (go_at_call 80; refine (S5 _ hr5).mono ?_; rintro e w6 ⟨rfl, hr6, hk6⟩)
    | (go_at_call 78; refine (O3 _ hr4).mono ?_; rintro e w5 ⟨rfl, hr5, hk5⟩)
    | (go_at_call 102; refine (N2 _ hr3).mono ?_; rintro e w4 ⟨rfl, hr4, hk4⟩)
    | (go_at_call 75; refine (T2 _ hr2).mono ?_; rintro e w3 ⟨rfl, hr3, hk3⟩)
    | (go_at_call 75; refine (T1 _ hr1).mono ?_; rintro e w2 ⟨rfl, hr2, hk2⟩)
    | (go_at_call 75; refine (T0 _ h).mono ?_; rintro e w1 ⟨rfl, hr1, hk1⟩)
    | fail)
  go_ret
  exact ⟨⟨rfl, hr6⟩, ((((hk1.trans hk2).trans hk3).trans hk4).trans hk5).trans hk6⟩

set_option maxHeartbeats 1000000 in
theorem num_7 (l l0 l1 l2 m1 : Bs) (B0 : Bool) (T0 : ∀ w, Rd w R s b l → Calls Tryz.prog 75 #[.pointer (some ⟨R, 0, none⟩), .string ⟨#[45]⟩] w fun e w' => e = .returned (.bool B0) ∧ Rd w' R s b l0 ∧ Kp (Own1 R) w w') (T1 : ∀ w, Rd w R s b l0 → Calls Tryz.prog 75 #[.pointer (some ⟨R, 0, none⟩), .string ⟨#[48]⟩] w fun e w' => e = .returned (.bool true) ∧ Rd w' R s b l1 ∧ Kp (Own1 R) w w') (T2 : ∀ w, Rd w R s b l1 → Calls Tryz.prog 75 #[.pointer (some ⟨R, 0, none⟩), .string ⟨#[46]⟩] w fun e w' => e = .returned (.bool true) ∧ Rd w' R s b m1 ∧ Kp (Own1 R) w w') (N2 : Goes 102 R s b m1 (.tuple #[]) l2) (O3 : ∀ w, Rd w R s b l2 → Calls Tryz.prog 78 #[.pointer (some ⟨R, 0, none⟩), .string ⟨#[101, 69]⟩] w fun e w' => e = .returned (.bool false) ∧ Rd w' R s b l2 ∧ Kp (Own1 R) w w') (S5 : ∀ w, Rd w R s b l2 → Calls Tryz.prog 80 #[.pointer (some ⟨R, 0, none⟩), .string ⟨numL.toArray⟩] w fun e w' => e = .returned (.bool true) ∧ Rd w' R s b l2 ∧ Kp (Own1 R) w w') (w : World) (h : Rd w R s b l) : Calls Tryz.prog 81 #[.pointer (some ⟨R, 0, none⟩)] w (NumP R s b w none) := by
  go_enter Tryz.func81, Tryz.ntmps81
  go_wp2_with (first
    | (go_at_call 49; refine (fail_any _ _ _ hr6).mono ?_; rintro e w7 ⟨rfl, rfl⟩)
    | (go_at_call 80; refine (S5 _ hr5).mono ?_; rintro e w6 ⟨rfl, hr6, hk6⟩)
    | (go_at_call 78; refine (O3 _ hr4).mono ?_; rintro e w5 ⟨rfl, hr5, hk5⟩)
    | (go_at_call 102; refine (N2 _ hr3).mono ?_; rintro e w4 ⟨rfl, hr4, hk4⟩)
    | (go_at_call 75; refine (T2 _ hr2).mono ?_; rintro e w3 ⟨rfl, hr3, hk3⟩)
    | (go_at_call 75; refine (T1 _ hr1).mono ?_; rintro e w2 ⟨rfl, hr2, hk2⟩)
    | (go_at_call 75; refine (T0 _ h).mono ?_; rintro e w1 ⟨rfl, hr1, hk1⟩)
    | fail)
  exact ⟨rfl, rfl, ((((hk1.trans hk2).trans hk3).trans hk4).trans hk5).trans hk6⟩

set_option maxHeartbeats 1000000 in
theorem num_8 (l l0 l1 l2 l3 m1 m2 m3 : Bs) (B0 B4 : Bool) (T0 : ∀ w, Rd w R s b l → Calls Tryz.prog 75 #[.pointer (some ⟨R, 0, none⟩), .string ⟨#[45]⟩] w fun e w' => e = .returned (.bool B0) ∧ Rd w' R s b l0 ∧ Kp (Own1 R) w w') (T1 : ∀ w, Rd w R s b l0 → Calls Tryz.prog 75 #[.pointer (some ⟨R, 0, none⟩), .string ⟨#[48]⟩] w fun e w' => e = .returned (.bool true) ∧ Rd w' R s b l1 ∧ Kp (Own1 R) w w') (T2 : ∀ w, Rd w R s b l1 → Calls Tryz.prog 75 #[.pointer (some ⟨R, 0, none⟩), .string ⟨#[46]⟩] w fun e w' => e = .returned (.bool true) ∧ Rd w' R s b m1 ∧ Kp (Own1 R) w w') (N2 : Goes 102 R s b m1 (.tuple #[]) l2) (O3 : ∀ w, Rd w R s b l2 → Calls Tryz.prog 78 #[.pointer (some ⟨R, 0, none⟩), .string ⟨#[101, 69]⟩] w fun e w' => e = .returned (.bool true) ∧ Rd w' R s b m2 ∧ Kp (Own1 R) w w') (O4 : ∀ w, Rd w R s b m2 → Calls Tryz.prog 78 #[.pointer (some ⟨R, 0, none⟩), .string ⟨#[43, 45]⟩] w fun e w' => e = .returned (.bool B4) ∧ Rd w' R s b m3 ∧ Kp (Own1 R) w w') (N3 : Goes 102 R s b m3 (.tuple #[]) l3) (S5 : ∀ w, Rd w R s b l3 → Calls Tryz.prog 80 #[.pointer (some ⟨R, 0, none⟩), .string ⟨numL.toArray⟩] w fun e w' => e = .returned (.bool false) ∧ Rd w' R s b l3 ∧ Kp (Own1 R) w w') (w : World) (h : Rd w R s b l) : Calls Tryz.prog 81 #[.pointer (some ⟨R, 0, none⟩)] w (NumP R s b w (some (3, l3))) := by
  go_enter Tryz.func81, Tryz.ntmps81
  go_wp2_with (first
    | (go_at_call 80; refine (S5 _ hr7).mono ?_; rintro e w8 ⟨rfl, hr8, hk8⟩)
    | (go_at_call 102; refine (N3 _ hr6).mono ?_; rintro e w7 ⟨rfl, hr7, hk7⟩)
    | (go_at_call 78; refine (O4 _ hr5).mono ?_; rintro e w6 ⟨rfl, hr6, hk6⟩)
    | (go_at_call 78; refine (O3 _ hr4).mono ?_; rintro e w5 ⟨rfl, hr5, hk5⟩)
    | (go_at_call 102; refine (N2 _ hr3).mono ?_; rintro e w4 ⟨rfl, hr4, hk4⟩)
    | (go_at_call 75; refine (T2 _ hr2).mono ?_; rintro e w3 ⟨rfl, hr3, hk3⟩)
    | (go_at_call 75; refine (T1 _ hr1).mono ?_; rintro e w2 ⟨rfl, hr2, hk2⟩)
    | (go_at_call 75; refine (T0 _ h).mono ?_; rintro e w1 ⟨rfl, hr1, hk1⟩)
    | fail)
  go_ret
  exact ⟨⟨rfl, hr8⟩, ((((((hk1.trans hk2).trans hk3).trans hk4).trans hk5).trans hk6).trans hk7).trans hk8⟩

set_option maxHeartbeats 1000000 in
theorem num_9 (l l0 l1 l2 l3 m1 m2 m3 : Bs) (B0 B4 : Bool) (T0 : ∀ w, Rd w R s b l → Calls Tryz.prog 75 #[.pointer (some ⟨R, 0, none⟩), .string ⟨#[45]⟩] w fun e w' => e = .returned (.bool B0) ∧ Rd w' R s b l0 ∧ Kp (Own1 R) w w') (T1 : ∀ w, Rd w R s b l0 → Calls Tryz.prog 75 #[.pointer (some ⟨R, 0, none⟩), .string ⟨#[48]⟩] w fun e w' => e = .returned (.bool true) ∧ Rd w' R s b l1 ∧ Kp (Own1 R) w w') (T2 : ∀ w, Rd w R s b l1 → Calls Tryz.prog 75 #[.pointer (some ⟨R, 0, none⟩), .string ⟨#[46]⟩] w fun e w' => e = .returned (.bool true) ∧ Rd w' R s b m1 ∧ Kp (Own1 R) w w') (N2 : Goes 102 R s b m1 (.tuple #[]) l2) (O3 : ∀ w, Rd w R s b l2 → Calls Tryz.prog 78 #[.pointer (some ⟨R, 0, none⟩), .string ⟨#[101, 69]⟩] w fun e w' => e = .returned (.bool true) ∧ Rd w' R s b m2 ∧ Kp (Own1 R) w w') (O4 : ∀ w, Rd w R s b m2 → Calls Tryz.prog 78 #[.pointer (some ⟨R, 0, none⟩), .string ⟨#[43, 45]⟩] w fun e w' => e = .returned (.bool B4) ∧ Rd w' R s b m3 ∧ Kp (Own1 R) w w') (N3 : Goes 102 R s b m3 (.tuple #[]) l3) (S5 : ∀ w, Rd w R s b l3 → Calls Tryz.prog 80 #[.pointer (some ⟨R, 0, none⟩), .string ⟨numL.toArray⟩] w fun e w' => e = .returned (.bool true) ∧ Rd w' R s b l3 ∧ Kp (Own1 R) w w') (w : World) (h : Rd w R s b l) : Calls Tryz.prog 81 #[.pointer (some ⟨R, 0, none⟩)] w (NumP R s b w none) := by
  go_enter Tryz.func81, Tryz.ntmps81
  go_wp2_with (first
    | (go_at_call 49; refine (fail_any _ _ _ hr8).mono ?_; rintro e w9 ⟨rfl, rfl⟩)
    | (go_at_call 80; refine (S5 _ hr7).mono ?_; rintro e w8 ⟨rfl, hr8, hk8⟩)
    | (go_at_call 102; refine (N3 _ hr6).mono ?_; rintro e w7 ⟨rfl, hr7, hk7⟩)
    | (go_at_call 78; refine (O4 _ hr5).mono ?_; rintro e w6 ⟨rfl, hr6, hk6⟩)
    | (go_at_call 78; refine (O3 _ hr4).mono ?_; rintro e w5 ⟨rfl, hr5, hk5⟩)
    | (go_at_call 102; refine (N2 _ hr3).mono ?_; rintro e w4 ⟨rfl, hr4, hk4⟩)
    | (go_at_call 75; refine (T2 _ hr2).mono ?_; rintro e w3 ⟨rfl, hr3, hk3⟩)
    | (go_at_call 75; refine (T1 _ hr1).mono ?_; rintro e w2 ⟨rfl, hr2, hk2⟩)
    | (go_at_call 75; refine (T0 _ h).mono ?_; rintro e w1 ⟨rfl, hr1, hk1⟩)
    | fail)
  exact ⟨rfl, rfl, ((((((hk1.trans hk2).trans hk3).trans hk4).trans hk5).trans hk6).trans hk7).trans hk8⟩

set_option maxHeartbeats 1000000 in
theorem num_10 (l l0 l1 l2 m1 m2 m3 : Bs) (B0 B4 : Bool) (T0 : ∀ w, Rd w R s b l → Calls Tryz.prog 75 #[.pointer (some ⟨R, 0, none⟩), .string ⟨#[45]⟩] w fun e w' => e = .returned (.bool B0) ∧ Rd w' R s b l0 ∧ Kp (Own1 R) w w') (T1 : ∀ w, Rd w R s b l0 → Calls Tryz.prog 75 #[.pointer (some ⟨R, 0, none⟩), .string ⟨#[48]⟩] w fun e w' => e = .returned (.bool true) ∧ Rd w' R s b l1 ∧ Kp (Own1 R) w w') (T2 : ∀ w, Rd w R s b l1 → Calls Tryz.prog 75 #[.pointer (some ⟨R, 0, none⟩), .string ⟨#[46]⟩] w fun e w' => e = .returned (.bool true) ∧ Rd w' R s b m1 ∧ Kp (Own1 R) w w') (N2 : Goes 102 R s b m1 (.tuple #[]) l2) (O3 : ∀ w, Rd w R s b l2 → Calls Tryz.prog 78 #[.pointer (some ⟨R, 0, none⟩), .string ⟨#[101, 69]⟩] w fun e w' => e = .returned (.bool true) ∧ Rd w' R s b m2 ∧ Kp (Own1 R) w w') (O4 : ∀ w, Rd w R s b m2 → Calls Tryz.prog 78 #[.pointer (some ⟨R, 0, none⟩), .string ⟨#[43, 45]⟩] w fun e w' => e = .returned (.bool B4) ∧ Rd w' R s b m3 ∧ Kp (Own1 R) w w') (N3 : Gives 102 R s b m3 51) (w : World) (h : Rd w R s b l) : Calls Tryz.prog 81 #[.pointer (some ⟨R, 0, none⟩)] w (NumP R s b w none) := by
  go_enter Tryz.func81, Tryz.ntmps81
  go_wp2_with (first
    | (go_at_call 102; refine (N3 _ hr6).mono ?_; rintro e w7 ⟨rfl, hk7⟩)
    | (go_at_call 78; refine (O4 _ hr5).mono ?_; rintro e w6 ⟨rfl, hr6, hk6⟩)
    | (go_at_call 78; refine (O3 _ hr4).mono ?_; rintro e w5 ⟨rfl, hr5, hk5⟩)
    | (go_at_call 102; refine (N2 _ hr3).mono ?_; rintro e w4 ⟨rfl, hr4, hk4⟩)
    | (go_at_call 75; refine (T2 _ hr2).mono ?_; rintro e w3 ⟨rfl, hr3, hk3⟩)
    | (go_at_call 75; refine (T1 _ hr1).mono ?_; rintro e w2 ⟨rfl, hr2, hk2⟩)
    | (go_at_call 75; refine (T0 _ h).mono ?_; rintro e w1 ⟨rfl, hr1, hk1⟩)
    | fail)
  exact ⟨rfl, rfl, (((((hk1.trans hk2).trans hk3).trans hk4).trans hk5).trans hk6).trans hk7⟩

set_option maxHeartbeats 1000000 in
theorem num_11 (l l0 l1 m1 : Bs) (B0 : Bool) (T0 : ∀ w, Rd w R s b l → Calls Tryz.prog 75 #[.pointer (some ⟨R, 0, none⟩), .string ⟨#[45]⟩] w fun e w' => e = .returned (.bool B0) ∧ Rd w' R s b l0 ∧ Kp (Own1 R) w w') (T1 : ∀ w, Rd w R s b l0 → Calls Tryz.prog 75 #[.pointer (some ⟨R, 0, none⟩), .string ⟨#[48]⟩] w fun e w' => e = .returned (.bool true) ∧ Rd w' R s b l1 ∧ Kp (Own1 R) w w') (T2 : ∀ w, Rd w R s b l1 → Calls Tryz.prog 75 #[.pointer (some ⟨R, 0, none⟩), .string ⟨#[46]⟩] w fun e w' => e = .returned (.bool true) ∧ Rd w' R s b m1 ∧ Kp (Own1 R) w w') (N2 : Gives 102 R s b m1 51) (w : World) (h : Rd w R s b l) : Calls Tryz.prog 81 #[.pointer (some ⟨R, 0, none⟩)] w (NumP R s b w none) := by
  go_enter Tryz.func81, Tryz.ntmps81
  go_wp2_with (first
    | (go_at_call 102; refine (N2 _ hr3).mono ?_; rintro e w4 ⟨rfl, hk4⟩)
    | (go_at_call 75; refine (T2 _ hr2).mono ?_; rintro e w3 ⟨rfl, hr3, hk3⟩)
    | (go_at_call 75; refine (T1 _ hr1).mono ?_; rintro e w2 ⟨rfl, hr2, hk2⟩)
    | (go_at_call 75; refine (T0 _ h).mono ?_; rintro e w1 ⟨rfl, hr1, hk1⟩)
    | fail)
  exact ⟨rfl, rfl, ((hk1.trans hk2).trans hk3).trans hk4⟩

set_option maxHeartbeats 1000000 in
theorem num_12 (l l0 l1 : Bs) (B0 : Bool) (T0 : ∀ w, Rd w R s b l → Calls Tryz.prog 75 #[.pointer (some ⟨R, 0, none⟩), .string ⟨#[45]⟩] w fun e w' => e = .returned (.bool B0) ∧ Rd w' R s b l0 ∧ Kp (Own1 R) w w') (T1 : ∀ w, Rd w R s b l0 → Calls Tryz.prog 75 #[.pointer (some ⟨R, 0, none⟩), .string ⟨#[48]⟩] w fun e w' => e = .returned (.bool false) ∧ Rd w' R s b l0 ∧ Kp (Own1 R) w w') (N1 : Goes 102 R s b l0 (.tuple #[]) l1) (T2 : ∀ w, Rd w R s b l1 → Calls Tryz.prog 75 #[.pointer (some ⟨R, 0, none⟩), .string ⟨#[46]⟩] w fun e w' => e = .returned (.bool false) ∧ Rd w' R s b l1 ∧ Kp (Own1 R) w w') (O3 : ∀ w, Rd w R s b l1 → Calls Tryz.prog 78 #[.pointer (some ⟨R, 0, none⟩), .string ⟨#[101, 69]⟩] w fun e w' => e = .returned (.bool false) ∧ Rd w' R s b l1 ∧ Kp (Own1 R) w w') (S5 : ∀ w, Rd w R s b l1 → Calls Tryz.prog 80 #[.pointer (some ⟨R, 0, none⟩), .string ⟨numL.toArray⟩] w fun e w' => e = .returned (.bool false) ∧ Rd w' R s b l1 ∧ Kp (Own1 R) w w') (w : World) (h : Rd w R s b l) : Calls Tryz.prog 81 #[.pointer (some ⟨R, 0, none⟩)] w (NumP R s b w (some (2, l1))) := by
  go_enter Tryz.func81, Tryz.ntmps81
  go_wp2_with (first
    | (go_at_call 80; refine (S5 _ hr5).mono ?_; rintro e w6 ⟨rfl, hr6, hk6⟩)
    | (go_at_call 78; refine (O3 _ hr4).mono ?_; rintro e w5 ⟨rfl, hr5, hk5⟩)
    | (go_at_call 75; refine (T2 _ hr3).mono ?_; rintro e w4 ⟨rfl, hr4, hk4⟩)
    | (go_at_call 102; refine (N1 _ hr2).mono ?_; rintro e w3 ⟨rfl, hr3, hk3⟩)
    | (go_at_call 75; refine (T1 _ hr1).mono ?_; rintro e w2 ⟨rfl, hr2, hk2⟩)
    | (go_at_call 75; refine (T0 _ h).mono ?_; rintro e w1 ⟨rfl, hr1, hk1⟩)
    | fail)
  go_ret
  exact ⟨⟨rfl, hr6⟩, ((((hk1.trans hk2).trans hk3).trans hk4).trans hk5).trans hk6⟩

set_option maxHeartbeats 1000000 in
theorem num_13 (l l0 l1 : Bs) (B0 : Bool) (T0 : ∀ w, Rd w R s b l → Calls Tryz.prog 75 #[.pointer (some ⟨R, 0, none⟩), .string ⟨#[45]⟩] w fun e w' => e = .returned (.bool B0) ∧ Rd w' R s b l0 ∧ Kp (Own1 R) w w') (T1 : ∀ w, Rd w R s b l0 → Calls Tryz.prog 75 #[.pointer (some ⟨R, 0, none⟩), .string ⟨#[48]⟩] w fun e w' => e = .returned (.bool false) ∧ Rd w' R s b l0 ∧ Kp (Own1 R) w w') (N1 : Goes 102 R s b l0 (.tuple #[]) l1) (T2 : ∀ w, Rd w R s b l1 → Calls Tryz.prog 75 #[.pointer (some ⟨R, 0, none⟩), .string ⟨#[46]⟩] w fun e w' => e = .returned (.bool false) ∧ Rd w' R s b l1 ∧ Kp (Own1 R) w w') (O3 : ∀ w, Rd w R s b l1 → Calls Tryz.prog 78 #[.pointer (some ⟨R, 0, none⟩), .string ⟨#[101, 69]⟩] w fun e w' => e = .returned (.bool false) ∧ Rd w' R s b l1 ∧ Kp (Own1 R) w w') (S5 : ∀ w, Rd w R s b l1 → Calls Tryz.prog 80 #[.pointer (some ⟨R, 0, none⟩), .string ⟨numL.toArray⟩] w fun e w' => e = .returned (.bool true) ∧ Rd w' R s b l1 ∧ Kp (Own1 R) w w') (w : World) (h : Rd w R s b l) : Calls Tryz.prog 81 #[.pointer (some ⟨R, 0, none⟩)] w (NumP R s b w none) := by
  go_enter Tryz.func81, Tryz.ntmps81
  go_wp2_with (first
    | (go_at_call 49; refine (fail_any _ _ _ hr6).mono ?_; rintro e w7 ⟨rfl, rfl⟩)
    | (go_at_call 80; refine (S5 _ hr5).mono ?_; rintro e w6 ⟨rfl, hr6, hk6⟩)
    | (go_at_call 78; refine (O3 _ hr4).mono ?_; rintro e w5 ⟨rfl, hr5, hk5⟩)
    | (go_at_call 75; refine (T2 _ hr3).mono ?_; rintro e w4 ⟨rfl, hr4, hk4⟩)
    | (go_at_call 102; refine (N1 _ hr2).mono ?_; rintro e w3 ⟨rfl, hr3, hk3⟩)
    | (go_at_call 75; refine (T1 _ hr1).mono ?_; rintro e w2 ⟨rfl, hr2, hk2⟩)
    | (go_at_call 75; refine (T0 _ h).mono ?_; rintro e w1 ⟨rfl, hr1, hk1⟩)
    | fail)
  exact ⟨rfl, rfl, ((((hk1.trans hk2).trans hk3).trans hk4).trans hk5).trans hk6⟩

set_option maxHeartbeats 1000000 in
theorem num_14 (l l0 l1 l3 m2 m3 : Bs) (B0 B4 : Bool) (T0 : ∀ w, Rd w R s b l → Calls Tryz.prog 75 #[.pointer (some ⟨R, 0, none⟩), .string ⟨#[45]⟩] w fun e w' => e = .returned (.bool B0) ∧ Rd w' R s b l0 ∧ Kp (Own1 R) w w') (T1 : ∀ w, Rd w R s b l0 → Calls Tryz.prog 75 #[.pointer (some ⟨R, 0, none⟩), .string ⟨#[48]⟩] w fun e w' => e = .returned (.bool false) ∧ Rd w' R s b l0 ∧ Kp (Own1 R) w w') (N1 : Goes 102 R s b l0 (.tuple #[]) l1) (T2 : ∀ w, Rd w R s b l1 → Calls Tryz.prog 75 #[.pointer (some ⟨R, 0, none⟩), .string ⟨#[46]⟩] w fun e w' => e = .returned (.bool false) ∧ Rd w' R s b l1 ∧ Kp (Own1 R) w w') (O3 : ∀ w, Rd w R s b l1 → Calls Tryz.prog 78 #[.pointer (some ⟨R, 0, none⟩), .string ⟨#[101, 69]⟩] w fun e w' => e = .returned (.bool true) ∧ Rd w' R s b m2 ∧ Kp (Own1 R) w w') (O4 : ∀ w, Rd w R s b m2 → Calls Tryz.prog 78 #[.pointer (some ⟨R, 0, none⟩), .string ⟨#[43, 45]⟩] w fun e w' => e = .returned (.bool B4) ∧ Rd w' R s b m3 ∧ Kp (Own1 R) w w') (N3 : Goes 102 R s b m3 (.tuple #[]) l3) (S5 : ∀ w, Rd w R s b l3 → Calls Tryz.prog 80 #[.pointer (some ⟨R, 0, none⟩), .string ⟨numL.toArray⟩] w fun e w' => e = .returned (.bool false) ∧ Rd w' R s b l3 ∧ Kp (Own1 R) w w') (w : World) (h : Rd w R s b l) : Calls Tryz.prog 81 #[.pointer (some ⟨R, 0, none⟩)] w (NumP R s b w (some (3, l3))) := by
  go_enter Tryz.func81, Tryz.ntmps81
  go_wp2_with (first
    | (go_at_call 80; refine (S5 _ hr7).mono ?_; rintro e w8 ⟨rfl, hr8, hk8⟩)
    | (go_at_call 102; refine (N3 _ hr6).mono ?_; rintro e w7 ⟨rfl, hr7, hk7⟩)
    | (go_at_call 78; refine (O4 _ hr5).mono ?_; rintro e w6 ⟨rfl, hr6, hk6⟩)
    | (go_at_call 78; refine (O3 _ hr4).mono ?_; rintro e w5 ⟨rfl, hr5, hk5⟩)
    | (go_at_call 75; refine (T2 _ hr3).mono ?_; rintro e w4 ⟨rfl, hr4, hk4⟩)
    | (go_at_call 102; refine (N1 _ hr2).mono ?_; rintro e w3 ⟨rfl, hr3, hk3⟩)
    | (go_at_call 75; refine (T1 _ hr1).mono ?_; rintro e w2 ⟨rfl, hr2, hk2⟩)
    | (go_at_call 75; refine (T0 _ h).mono ?_; rintro e w1 ⟨rfl, hr1, hk1⟩)
    | fail)
  go_ret
  exact ⟨⟨rfl, hr8⟩, ((((((hk1.trans hk2).trans hk3).trans hk4).trans hk5).trans hk6).trans hk7).trans hk8⟩

set_option maxHeartbeats 1000000 in
theorem num_15 (l l0 l1 l3 m2 m3 : Bs) (B0 B4 : Bool) (T0 : ∀ w, Rd w R s b l → Calls Tryz.prog 75 #[.pointer (some ⟨R, 0, none⟩), .string ⟨#[45]⟩] w fun e w' => e = .returned (.bool B0) ∧ Rd w' R s b l0 ∧ Kp (Own1 R) w w') (T1 : ∀ w, Rd w R s b l0 → Calls Tryz.prog 75 #[.pointer (some ⟨R, 0, none⟩), .string ⟨#[48]⟩] w fun e w' => e = .returned (.bool false) ∧ Rd w' R s b l0 ∧ Kp (Own1 R) w w') (N1 : Goes 102 R s b l0 (.tuple #[]) l1) (T2 : ∀ w, Rd w R s b l1 → Calls Tryz.prog 75 #[.pointer (some ⟨R, 0, none⟩), .string ⟨#[46]⟩] w fun e w' => e = .returned (.bool false) ∧ Rd w' R s b l1 ∧ Kp (Own1 R) w w') (O3 : ∀ w, Rd w R s b l1 → Calls Tryz.prog 78 #[.pointer (some ⟨R, 0, none⟩), .string ⟨#[101, 69]⟩] w fun e w' => e = .returned (.bool true) ∧ Rd w' R s b m2 ∧ Kp (Own1 R) w w') (O4 : ∀ w, Rd w R s b m2 → Calls Tryz.prog 78 #[.pointer (some ⟨R, 0, none⟩), .string ⟨#[43, 45]⟩] w fun e w' => e = .returned (.bool B4) ∧ Rd w' R s b m3 ∧ Kp (Own1 R) w w') (N3 : Goes 102 R s b m3 (.tuple #[]) l3) (S5 : ∀ w, Rd w R s b l3 → Calls Tryz.prog 80 #[.pointer (some ⟨R, 0, none⟩), .string ⟨numL.toArray⟩] w fun e w' => e = .returned (.bool true) ∧ Rd w' R s b l3 ∧ Kp (Own1 R) w w') (w : World) (h : Rd w R s b l) : Calls Tryz.prog 81 #[.pointer (some ⟨R, 0, none⟩)] w (NumP R s b w none) := by
  go_enter Tryz.func81, Tryz.ntmps81
  go_wp2_with (first
    | (go_at_call 49; refine (fail_any _ _ _ hr8).mono ?_; rintro e w9 ⟨rfl, rfl⟩)
    | (go_at_call 80; refine (S5 _ hr7).mono ?_; rintro e w8 ⟨rfl, hr8, hk8⟩)
    | (go_at_call 102; refine (N3 _ hr6).mono ?_; rintro e w7 ⟨rfl, hr7, hk7⟩)
    | (go_at_call 78; refine (O4 _ hr5).mono ?_; rintro e w6 ⟨rfl, hr6, hk6⟩)
    | (go_at_call 78; refine (O3 _ hr4).mono ?_; rintro e w5 ⟨rfl, hr5, hk5⟩)
    | (go_at_call 75; refine (T2 _ hr3).mono ?_; rintro e w4 ⟨rfl, hr4, hk4⟩)
    | (go_at_call 102; refine (N1 _ hr2).mono ?_; rintro e w3 ⟨rfl, hr3, hk3⟩)
    | (go_at_call 75; refine (T1 _ hr1).mono ?_; rintro e w2 ⟨rfl, hr2, hk2⟩)
    | (go_at_call 75; refine (T0 _ h).mono ?_; rintro e w1 ⟨rfl, hr1, hk1⟩)
    | fail)
  exact ⟨rfl, rfl, ((((((hk1.trans hk2).trans hk3).trans hk4).trans hk5).trans hk6).trans hk7).trans hk8⟩

set_option maxHeartbeats 1000000 in
theorem num_16 (l l0 l1 m2 m3 : Bs) (B0 B4 : Bool) (T0 : ∀ w, Rd w R s b l → Calls Tryz.prog 75 #[.pointer (some ⟨R, 0, none⟩), .string ⟨#[45]⟩] w fun e w' => e = .returned (.bool B0) ∧ Rd w' R s b l0 ∧ Kp (Own1 R) w w') (T1 : ∀ w, Rd w R s b l0 → Calls Tryz.prog 75 #[.pointer (some ⟨R, 0, none⟩), .string ⟨#[48]⟩] w fun e w' => e = .returned (.bool false) ∧ Rd w' R s b l0 ∧ Kp (Own1 R) w w') (N1 : Goes 102 R s b l0 (.tuple #[]) l1) (T2 : ∀ w, Rd w R s b l1 → Calls Tryz.prog 75 #[.pointer (some ⟨R, 0, none⟩), .string ⟨#[46]⟩] w fun e w' => e = .returned (.bool false) ∧ Rd w' R s b l1 ∧ Kp (Own1 R) w w') (O3 : ∀ w, Rd w R s b l1 → Calls Tryz.prog 78 #[.pointer (some ⟨R, 0, none⟩), .string ⟨#[101, 69]⟩] w fun e w' => e = .returned (.bool true) ∧ Rd w' R s b m2 ∧ Kp (Own1 R) w w') (O4 : ∀ w, Rd w R s b m2 → Calls Tryz.prog 78 #[.pointer (some ⟨R, 0, none⟩), .string ⟨#[43, 45]⟩] w fun e w' => e = .returned (.bool B4) ∧ Rd w' R s b m3 ∧ Kp (Own1 R) w w') (N3 : Gives 102 R s b m3 51) (w : World) (h : Rd w R s b l) : Calls Tryz.prog 81 #[.pointer (some ⟨R, 0, none⟩)] w (NumP R s b w none) := by
  go_enter Tryz.func81, Tryz.ntmps81
  go_wp2_with (first
    | (go_at_call 102; refine (N3 _ hr6).mono ?_; rintro e w7 ⟨rfl, hk7⟩)
    | (go_at_call 78; refine (O4 _ hr5).mono ?_; rintro e w6 ⟨rfl, hr6, hk6⟩)
    | (go_at_call 78; refine (O3 _ hr4).mono ?_; rintro e w5 ⟨rfl, hr5, hk5⟩)
    | (go_at_call 75; refine (T2 _ hr3).mono ?_; rintro e w4 ⟨rfl, hr4, hk4⟩)
    | (go_at_call 102; refine (N1 _ hr2).mono ?_; rintro e w3 ⟨rfl, hr3, hk3⟩)
    | (go_at_call 75; refine (T1 _ hr1).mono ?_; rintro e w2 ⟨rfl, hr2, hk2⟩)
    | (go_at_call 75; refine (T0 _ h).mono ?_; rintro e w1 ⟨rfl, hr1, hk1⟩)
    | fail)
  exact ⟨rfl, rfl, (((((hk1.trans hk2).trans hk3).trans hk4).trans hk5).trans hk6).trans hk7⟩

set_option maxHeartbeats 1000000 in
theorem num_17 (l l0 l1 l2 m1 : Bs) (B0 : Bool) (T0 : ∀ w, Rd w R s b l → Calls Tryz.prog 75 #[.pointer (some ⟨R, 0, none⟩), .string ⟨#[45]⟩] w fun e w' => e = .returned (.bool B0) ∧ Rd w' R s b l0 ∧ Kp (Own1 R) w w') (T1 : ∀ w, Rd w R s b l0 → Calls Tryz.prog 75 #[.pointer (some ⟨R, 0, none⟩), .string ⟨#[48]⟩] w fun e w' => e = .returned (.bool false) ∧ Rd w' R s b l0 ∧ Kp (Own1 R) w w') (N1 : Goes 102 R s b l0 (.tuple #[]) l1) (T2 : ∀ w, Rd w R s b l1 → Calls Tryz.prog 75 #[.pointer (some ⟨R, 0, none⟩), .string ⟨#[46]⟩] w fun e w' => e = .returned (.bool true) ∧ Rd w' R s b m1 ∧ Kp (Own1 R) w w') (N2 : Goes 102 R s b m1 (.tuple #[]) l2) (O3 : ∀ w, Rd w R s b l2 → Calls Tryz.prog 78 #[.pointer (some ⟨R, 0, none⟩), .string ⟨#[101, 69]⟩] w fun e w' => e = .returned (.bool false) ∧ Rd w' R s b l2 ∧ Kp (Own1 R) w w') (S5 : ∀ w, Rd w R s b l2 → Calls Tryz.prog 80 #[.pointer (some ⟨R, 0, none⟩), .string ⟨numL.toArray⟩] w fun e w' => e = .returned (.bool false) ∧ Rd w' R s b l2 ∧ Kp (Own1 R) w w') (w : World) (h : Rd w R s b l) : Calls Tryz.prog 81 #[.pointer (some ⟨R, 0, none⟩)] w (NumP R s b w (some (3, l2))) := by
  go_enter Tryz.func81, Tryz.ntmps81
  go_wp2_with (first
    | (go_at_call 80; refine (S5 _ hr6).mono ?_; rintro e w7 ⟨rfl, hr7, hk7⟩)
    | (go_at_call 78; refine (O3 _ hr5).mono ?_; rintro e w6 ⟨rfl, hr6, hk6⟩)
    | (go_at_call 102; refine (N2 _ hr4).mono ?_; rintro e w5 ⟨rfl, hr5, hk5⟩)
    | (go_at_call 75; refine (T2 _ hr3).mono ?_; rintro e w4 ⟨rfl, hr4, hk4⟩)
    | (go_at_call 102; refine (N1 _ hr2).mono ?_; rintro e w3 ⟨rfl, hr3, hk3⟩)
    | (go_at_call 75; refine (T1 _ hr1).mono ?_; rintro e w2 ⟨rfl, hr2, hk2⟩)
    | (go_at_call 75; refine (T0 _ h).mono ?_; rintro e w1 ⟨rfl, hr1, hk1⟩)
    | fail)
  go_ret
  exact ⟨⟨rfl, hr7⟩, (((((hk1.trans hk2).trans hk3).trans hk4).trans hk5).trans hk6).trans hk7⟩

set_option maxHeartbeats 1000000 in
theorem num_18 (l l0 l1 l2 m1 : Bs) (B0 : Bool) (T0 : ∀ w, Rd w R s b l → Calls Tryz.prog 75 #[.pointer (some ⟨R, 0, none⟩), .string ⟨#[45]⟩] w fun e w' => e = .returned (.bool B0) ∧ Rd w' R s b l0 ∧ Kp (Own1 R) w w') (T1 : ∀ w, Rd w R s b l0 → Calls Tryz.prog 75 #[.pointer (some ⟨R, 0, none⟩), .string ⟨#[48]⟩] w fun e w' => e = .returned (.bool false) ∧ Rd w' R s b l0 ∧ Kp (Own1 R) w w') (N1 : Goes 102 R s b l0 (.tuple #[]) l1) (T2 : ∀ w, Rd w R s b l1 → Calls Tryz.prog 75 #[.pointer (some ⟨R, 0, none⟩), .string ⟨#[46]⟩] w fun e w' => e = .returned (.bool true) ∧ Rd w' R s b m1 ∧ Kp (Own1 R) w w') (N2 : Goes 102 R s b m1 (.tuple #[]) l2) (O3 : ∀ w, Rd w R s b l2 → Calls Tryz.prog 78 #[.pointer (some ⟨R, 0, none⟩), .string ⟨#[101, 69]⟩] w fun e w' => e = .returned (.bool false) ∧ Rd w' R s b l2 ∧ Kp (Own1 R) w w') (S5 : ∀ w, Rd w R s b l2 → Calls Tryz.prog 80 #[.pointer (some ⟨R, 0, none⟩), .string ⟨numL.toArray⟩] w fun e w' => e = .returned (.bool true) ∧ Rd w' R s b l2 ∧ Kp (Own1 R) w w') (w : World) (h : Rd w R s b l) : Calls Tryz.prog 81 #[.pointer (some ⟨R, 0, none⟩)] w (NumP R s b w none) := by
  go_enter Tryz.func81, Tryz.ntmps81
  go_wp2_with (first
    | (go_at_call 49; refine (fail_any _ _ _ hr7).mono ?_; rintro e w8 ⟨rfl, rfl⟩)
    | (go_at_call 80; refine (S5 _ hr6).mono ?_; rintro e w7 ⟨rfl, hr7, hk7⟩)
    | (go_at_call 78; refine (O3 _ hr5).mono ?_; rintro e w6 ⟨rfl, hr6, hk6⟩)
    | (go_at_call 102; refine (N2 _ hr4).mono ?_; rintro e w5 ⟨rfl, hr5, hk5⟩)
    | (go_at_call 75; refine (T2 _ hr3).mono ?_; rintro e w4 ⟨rfl, hr4, hk4⟩)
    | (go_at_call 102; refine (N1 _ hr2).mono ?_; rintro e w3 ⟨rfl, hr3, hk3⟩)
    | (go_at_call 75; refine (T1 _ hr1).mono ?_; rintro e w2 ⟨rfl, hr2, hk2⟩)
    | (go_at_call 75; refine (T0 _ h).mono ?_; rintro e w1 ⟨rfl, hr1, hk1⟩)
    | fail)
  exact ⟨rfl, rfl, (((((hk1.trans hk2).trans hk3).trans hk4).trans hk5).trans hk6).trans hk7⟩

set_option maxHeartbeats 1000000 in
theorem num_19 (l l0 l1 l2 l3 m1 m2 m3 : Bs) (B0 B4 : Bool) (T0 : ∀ w, Rd w R s b l → Calls Tryz.prog 75 #[.pointer (some ⟨R, 0, none⟩), .string ⟨#[45]⟩] w fun e w' => e = .returned (.bool B0) ∧ Rd w' R s b l0 ∧ Kp (Own1 R) w w') (T1 : ∀ w, Rd w R s b l0 → Calls Tryz.prog 75 #[.pointer (some ⟨R, 0, none⟩), .string ⟨#[48]⟩] w fun e w' => e = .returned (.bool false) ∧ Rd w' R s b l0 ∧ Kp (Own1 R) w w') (N1 : Goes 102 R s b l0 (.tuple #[]) l1) (T2 : ∀ w, Rd w R s b l1 → Calls Tryz.prog 75 #[.pointer (some ⟨R, 0, none⟩), .string ⟨#[46]⟩] w fun e w' => e = .returned (.bool true) ∧ Rd w' R s b m1 ∧ Kp (Own1 R) w w') (N2 : Goes 102 R s b m1 (.tuple #[]) l2) (O3 : ∀ w, Rd w R s b l2 → Calls Tryz.prog 78 #[.pointer (some ⟨R, 0, none⟩), .string ⟨#[101, 69]⟩] w fun e w' => e = .returned (.bool true) ∧ Rd w' R s b m2 ∧ Kp (Own1 R) w w') (O4 : ∀ w, Rd w R s b m2 → Calls Tryz.prog 78 #[.pointer (some ⟨R, 0, none⟩), .string ⟨#[43, 45]⟩] w fun e w' => e = .returned (.bool B4) ∧ Rd w' R s b m3 ∧ Kp (Own1 R) w w') (N3 : Goes 102 R s b m3 (.tuple #[]) l3) (S5 : ∀ w, Rd w R s b l3 → Calls Tryz.prog 80 #[.pointer (some ⟨R, 0, none⟩), .string ⟨numL.toArray⟩] w fun e w' => e = .returned (.bool false) ∧ Rd w' R s b l3 ∧ Kp (Own1 R) w w') (w : World) (h : Rd w R s b l) : Calls Tryz.prog 81 #[.pointer (some ⟨R, 0, none⟩)] w (NumP R s b w (some (3, l3))) := by
  go_enter Tryz.func81, Tryz.ntmps81
  go_wp2_with (first
    | (go_at_call 80; refine (S5 _ hr8).mono ?_; rintro e w9 ⟨rfl, hr9, hk9⟩)
    | (go_at_call 102; refine (N3 _ hr7).mono ?_; rintro e w8 ⟨rfl, hr8, hk8⟩)
    | (go_at_call 78; refine (O4 _ hr6).mono ?_; rintro e w7 ⟨rfl, hr7, hk7⟩)
    | (go_at_call 78; refine (O3 _ hr5).mono ?_; rintro e w6 ⟨rfl, hr6, hk6⟩)
    | (go_at_call 102; refine (N2 _ hr4).mono ?_; rintro e w5 ⟨rfl, hr5, hk5⟩)
    | (go_at_call 75; refine (T2 _ hr3).mono ?_; rintro e w4 ⟨rfl, hr4, hk4⟩)
    | (go_at_call 102; refine (N1 _ hr2).mono ?_; rintro e w3 ⟨rfl, hr3, hk3⟩)
    | (go_at_call 75; refine (T1 _ hr1).mono ?_; rintro e w2 ⟨rfl, hr2, hk2⟩)
    | (go_at_call 75; refine (T0 _ h).mono ?_; rintro e w1 ⟨rfl, hr1, hk1⟩)
    | fail)
  go_ret
  exact ⟨⟨rfl, hr9⟩, (((((((hk1.trans hk2).trans hk3).trans hk4).trans hk5).trans hk6).trans hk7).trans hk8).trans hk9⟩

set_option maxHeartbeats 1000000 in
theorem num_20 (l l0 l1 l2 l3 m1 m2 m3 : Bs) (B0 B4 : Bool) (T0 : ∀ w, Rd w R s b l → Calls Tryz.prog 75 #[.pointer (some ⟨R, 0, none⟩), .string ⟨#[45]⟩] w fun e w' => e = .returned (.bool B0) ∧ Rd w' R s b l0 ∧ Kp (Own1 R) w w') (T1 : ∀ w, Rd w R s b l0 → Calls Tryz.prog 75 #[.pointer (some ⟨R, 0, none⟩), .string ⟨#[48]⟩] w fun e w' => e = .returned (.bool false) ∧ Rd w' R s b l0 ∧ Kp (Own1 R) w w') (N1 : Goes 102 R s b l0 (.tuple #[]) l1) (T2 : ∀ w, Rd w R s b l1 → Calls Tryz.prog 75 #[.pointer (some ⟨R, 0, none⟩), .string ⟨#[46]⟩] w fun e w' => e = .returned (.bool true) ∧ Rd w' R s b m1 ∧ Kp (Own1 R) w w') (N2 : Goes 102 R s b m1 (.tuple #[]) l2) (O3 : ∀ w, Rd w R s b l2 → Calls Tryz.prog 78 #[.pointer (some ⟨R, 0, none⟩), .string ⟨#[101, 69]⟩] w fun e w' => e = .returned (.bool true) ∧ Rd w' R s b m2 ∧ Kp (Own1 R) w w') (O4 : ∀ w, Rd w R s b m2 → Calls Tryz.prog 78 #[.pointer (some ⟨R, 0, none⟩), .string ⟨#[43, 45]⟩] w fun e w' => e = .returned (.bool B4) ∧ Rd w' R s b m3 ∧ Kp (Own1 R) w w') (N3 : Goes 102 R s b m3 (.tuple #[]) l3) (S5 : ∀ w, Rd w R s b l3 → Calls Tryz.prog 80 #[.pointer (some ⟨R, 0, none⟩), .string ⟨numL.toArray⟩] w fun e w' => e = .returned (.bool true) ∧ Rd w' R s b l3 ∧ Kp (Own1 R) w w') (w : World) (h : Rd w R s b l) : Calls Tryz.prog 81 #[.pointer (some ⟨R, 0, none⟩)] w (NumP R s b w none) := by
  go_enter Tryz.func81, Tryz.ntmps81
  go_wp2_with (first
    | (go_at_call 49; refine (fail_any _ _ _ hr9).mono ?_; rintro e w10 ⟨rfl, rfl⟩)
    | (go_at_call 80; refine (S5 _ hr8).mono ?_; rintro e w9 ⟨rfl, hr9, hk9⟩)
    | (go_at_call 102; refine (N3 _ hr7).mono ?_; rintro e w8 ⟨rfl, hr8, hk8⟩)
    | (go_at_call 78; refine (O4 _ hr6).mono ?_; rintro e w7 ⟨rfl, hr7, hk7⟩)
    | (go_at_call 78; refine (O3 _ hr5).mono ?_; rintro e w6 ⟨rfl, hr6, hk6⟩)
    | (go_at_call 102; refine (N2 _ hr4).mono ?_; rintro e w5 ⟨rfl, hr5, hk5⟩)
    | (go_at_call 75; refine (T2 _ hr3).mono ?_; rintro e w4 ⟨rfl, hr4, hk4⟩)
    | (go_at_call 102; refine (N1 _ hr2).mono ?_; rintro e w3 ⟨rfl, hr3, hk3⟩)
    | (go_at_call 75; refine (T1 _ hr1).mono ?_; rintro e w2 ⟨rfl, hr2, hk2⟩)
    | (go_at_call 75; refine (T0 _ h).mono ?_; rintro e w1 ⟨rfl, hr1, hk1⟩)
    | fail)
  exact ⟨rfl, rfl, (((((((hk1.trans hk2).trans hk3).trans hk4).trans hk5).trans hk6).trans hk7).trans hk8).trans hk9⟩

set_option maxHeartbeats 1000000 in
theorem num_21 (l l0 l1 l2 m1 m2 m3 : Bs) (B0 B4 : Bool) (T0 : ∀ w, Rd w R s b l → Calls Tryz.prog 75 #[.pointer (some ⟨R, 0, none⟩), .string ⟨#[45]⟩] w fun e w' => e = .returned (.bool B0) ∧ Rd w' R s b l0 ∧ Kp (Own1 R) w w') (T1 : ∀ w, Rd w R s b l0 → Calls Tryz.prog 75 #[.pointer (some ⟨R, 0, none⟩), .string ⟨#[48]⟩] w fun e w' => e = .returned (.bool false) ∧ Rd w' R s b l0 ∧ Kp (Own1 R) w w') (N1 : Goes 102 R s b l0 (.tuple #[]) l1) (T2 : ∀ w, Rd w R s b l1 → Calls Tryz.prog 75 #[.pointer (some ⟨R, 0, none⟩), .string ⟨#[46]⟩] w fun e w' => e = .returned (.bool true) ∧ Rd w' R s b m1 ∧ Kp (Own1 R) w w') (N2 : Goes 102 R s b m1 (.tuple #[]) l2) (O3 : ∀ w, Rd w R s b l2 → Calls Tryz.prog 78 #[.pointer (some ⟨R, 0, none⟩), .string ⟨#[101, 69]⟩] w fun e w' => e = .returned (.bool true) ∧ Rd w' R s b m2 ∧ Kp (Own1 R) w w') (O4 : ∀ w, Rd w R s b m2 → Calls Tryz.prog 78 #[.pointer (some ⟨R, 0, none⟩), .string ⟨#[43, 45]⟩] w fun e w' => e = .returned (.bool B4) ∧ Rd w' R s b m3 ∧ Kp (Own1 R) w w') (N3 : Gives 102 R s b m3 51) (w : World) (h : Rd w R s b l) : Calls Tryz.prog 81 #[.pointer (some ⟨R, 0, none⟩)] w (NumP R s b w none) := by
  go_enter Tryz.func81, Tryz.ntmps81
  go_wp2_with (first
    | (go_at_call 102; refine (N3 _ hr7).mono ?_; rintro e w8 ⟨rfl, hk8⟩)
    | (go_at_call 78; refine (O4 _ hr6).mono ?_; rintro e w7 ⟨rfl, hr7, hk7⟩)
    | (go_at_call 78; refine (O3 _ hr5).mono ?_; rintro e w6 ⟨rfl, hr6, hk6⟩)
    | (go_at_call 102; refine (N2 _ hr4).mono ?_; rintro e w5 ⟨rfl, hr5, hk5⟩)
    | (go_at_call 75; refine (T2 _ hr3).mono ?_; rintro e w4 ⟨rfl, hr4, hk4⟩)
    | (go_at_call 102; refine (N1 _ hr2).mono ?_; rintro e w3 ⟨rfl, hr3, hk3⟩)
    | (go_at_call 75; refine (T1 _ hr1).mono ?_; rintro e w2 ⟨rfl, hr2, hk2⟩)
    | (go_at_call 75; refine (T0 _ h).mono ?_; rintro e w1 ⟨rfl, hr1, hk1⟩)
    | fail)
  exact ⟨rfl, rfl, ((((((hk1.trans hk2).trans hk3).trans hk4).trans hk5).trans hk6).trans hk7).trans hk8⟩

set_option maxHeartbeats 1000000 in
theorem num_22 (l l0 l1 m1 : Bs) (B0 : Bool) (T0 : ∀ w, Rd w R s b l → Calls Tryz.prog 75 #[.pointer (some ⟨R, 0, none⟩), .string ⟨#[45]⟩] w fun e w' => e = .returned (.bool B0) ∧ Rd w' R s b l0 ∧ Kp (Own1 R) w w') (T1 : ∀ w, Rd w R s b l0 → Calls Tryz.prog 75 #[.pointer (some ⟨R, 0, none⟩), .string ⟨#[48]⟩] w fun e w' => e = .returned (.bool false) ∧ Rd w' R s b l0 ∧ Kp (Own1 R) w w') (N1 : Goes 102 R s b l0 (.tuple #[]) l1) (T2 : ∀ w, Rd w R s b l1 → Calls Tryz.prog 75 #[.pointer (some ⟨R, 0, none⟩), .string ⟨#[46]⟩] w fun e w' => e = .returned (.bool true) ∧ Rd w' R s b m1 ∧ Kp (Own1 R) w w') (N2 : Gives 102 R s b m1 51) (w : World) (h : Rd w R s b l) : Calls Tryz.prog 81 #[.pointer (some ⟨R, 0, none⟩)] w (NumP R s b w none) := by
  go_enter Tryz.func81, Tryz.ntmps81
  go_wp2_with (first
    | (go_at_call 102; refine (N2 _ hr4).mono ?_; rintro e w5 ⟨rfl, hk5⟩)
    | (go_at_call 75; refine (T2 _ hr3).mono ?_; rintro e w4 ⟨rfl, hr4, hk4⟩)
    | (go_at_call 102; refine (N1 _ hr2).mono ?_; rintro e w3 ⟨rfl, hr3, hk3⟩)
    | (go_at_call 75; refine (T1 _ hr1).mono ?_; rintro e w2 ⟨rfl, hr2, hk2⟩)
    | (go_at_call 75; refine (T0 _ h).mono ?_; rintro e w1 ⟨rfl, hr1, hk1⟩)
    | fail)
  exact ⟨rfl, rfl, (((hk1.trans hk2).trans hk3).trans hk4).trans hk5⟩

set_option maxHeartbeats 1000000 in
theorem num_23 (l l0 : Bs) (B0 : Bool) (T0 : ∀ w, Rd w R s b l → Calls Tryz.prog 75 #[.pointer (some ⟨R, 0, none⟩), .string ⟨#[45]⟩] w fun e w' => e = .returned (.bool B0) ∧ Rd w' R s b l0 ∧ Kp (Own1 R) w w') (T1 : ∀ w, Rd w R s b l0 → Calls Tryz.prog 75 #[.pointer (some ⟨R, 0, none⟩), .string ⟨#[48]⟩] w fun e w' => e = .returned (.bool false) ∧ Rd w' R s b l0 ∧ Kp (Own1 R) w w') (N1 : Gives 102 R s b l0 51) (w : World) (h : Rd w R s b l) : Calls Tryz.prog 81 #[.pointer (some ⟨R, 0, none⟩)] w (NumP R s b w none) := by
  go_enter Tryz.func81, Tryz.ntmps81
  go_wp2_with (first
    | (go_at_call 102; refine (N1 _ hr2).mono ?_; rintro e w3 ⟨rfl, hk3⟩)
    | (go_at_call 75; refine (T1 _ hr1).mono ?_; rintro e w2 ⟨rfl, hr2, hk2⟩)
    | (go_at_call 75; refine (T0 _ h).mono ?_; rintro e w1 ⟨rfl, hr1, hk1⟩)
    | fail)
  exact ⟨rfl, rfl, (hk1.trans hk2).trans hk3⟩

theorem take_yes (p l : Bs) (hp : p.isPrefixOf l = true) : ∀ w, Rd w R s b l → Calls Tryz.prog 75 #[.pointer (some ⟨R, 0, none⟩), .string ⟨p.toArray⟩] w fun e w' => e = .returned (.bool true) ∧ Rd w' R s b (l.drop p.length) ∧ Kp (Own1 R) w w' := by
  intro w h
  have := take_any p l w h
  rw [hp, show optT p l = l.drop p.length from if_pos hp] at this
  exact this
theorem take_no (p l : Bs) (hp : p.isPrefixOf l = false) : ∀ w, Rd w R s b l → Calls Tryz.prog 75 #[.pointer (some ⟨R, 0, none⟩), .string ⟨p.toArray⟩] w fun e w' => e = .returned (.bool false) ∧ Rd w' R s b l ∧ Kp (Own1 R) w w' := by
  intro w h
  have := take_any p l w h
  rw [hp, show optT p l = l from if_neg (by rw [hp]; simp)] at this
  exact this
theorem one_yes (p l : Bs) (hp : headIn p l = true) : ∀ w, Rd w R s b l → Calls Tryz.prog 78 #[.pointer (some ⟨R, 0, none⟩), .string ⟨p.toArray⟩] w fun e w' => e = .returned (.bool true) ∧ Rd w' R s b (l.drop 1) ∧ Kp (Own1 R) w w' := by
  intro w h
  have := one_any p l w h
  rw [hp, show optO p l = l.drop 1 from if_pos hp] at this
  exact this
theorem one_no (p l : Bs) (hp : headIn p l = false) : ∀ w, Rd w R s b l → Calls Tryz.prog 78 #[.pointer (some ⟨R, 0, none⟩), .string ⟨p.toArray⟩] w fun e w' => e = .returned (.bool false) ∧ Rd w' R s b l ∧ Kp (Own1 R) w w' := by
  intro w h
  have := one_any p l w h
  rw [hp, show optO p l = l from if_neg (by rw [hp]; simp)] at this
  exact this
theorem sees_is (p l : Bs) (B : Bool) (hp : headIn p l = B) : ∀ w, Rd w R s b l → Calls Tryz.prog 80 #[.pointer (some ⟨R, 0, none⟩), .string ⟨p.toArray⟩] w fun e w' => e = .returned (.bool B) ∧ Rd w' R s b l ∧ Kp (Own1 R) w w' := by
  intro w h
  refine (sees_any p l w h).mono ?_
  rintro e w' ⟨rfl, m, rfl⟩
  exact ⟨by rw [hp], h.drewN m, Kp.n w m⟩

theorem number_any (l : Bs) (w : World) (h : Rd w R s b l) : Calls Tryz.prog 81 #[.pointer (some ⟨R, 0, none⟩)] w (NumP R s b w (numS l)) := by
  have T0 : ∀ w, Rd w R s b l → Calls Tryz.prog 75 #[.pointer (some ⟨R, 0, none⟩), .string ⟨#[45]⟩] w fun e w' => e = .returned (.bool (List.isPrefixOf [45] l)) ∧ Rd w' R s b (optT [45] l) ∧ Kp (Own1 R) w w' := fun w h => take_any [45] l w h
  unfold numS
  generalize optT [45] l = l0 at *
  generalize List.isPrefixOf [45] l = B0 at *
  by_cases h1 : List.isPrefixOf [48] l0 = true
  · rw [show numA l0 = _ from if_pos h1]
    generalize h10 : l0.drop 1 = l1
    have T1 : ∀ w, Rd w R s b l0 → Calls Tryz.prog 75 #[.pointer (some ⟨R, 0, none⟩), .string ⟨#[48]⟩] w fun e w' => e = .returned (.bool true) ∧ Rd w' R s b l1 ∧ Kp (Own1 R) w w' := by rw [← h10]; exact take_yes [48] l0 h1
    rw [Option.bind_some]
    by_cases h2 : List.isPrefixOf [46] l1 = true
    · rw [show numB l1 = _ from if_pos h2]
      obtain hd | ⟨l2, hd2⟩ := (Option.eq_none_or_eq_some (needD (l1.drop 1)))
      · rw [hd]; refine num_11 _ _ _ _ _ T0 T1 (take_yes _ _ h2) (needD_no _ hd) w h
      · rw [hd2, Option.map_some]
        rw [Option.bind_some]
        by_cases h3 : headIn [101, 69] l2 = true
        · rw [show numC _ _ = _ from if_pos h3]
          obtain hd | ⟨l3, hd⟩ := (Option.eq_none_or_eq_some (needD (optO [43, 45] (l2.drop 1))))
          · rw [hd]; refine num_10 _ _ _ _ _ _ _ _ _ T0 T1 (take_yes _ _ h2) (needD_yes _ _ hd2) (one_yes _ _ h3) (one_any _ _) (needD_no _ hd) w h
          · rw [hd, Option.map_some, Option.bind_some]
            by_cases h5 : headIn numL l3 = true
            · rw [show numD _ _ = _ from if_pos h5]; refine num_9 _ _ _ _ _ _ _ _ _ _ T0 T1 (take_yes _ _ h2) (needD_yes _ _ hd2) (one_yes _ _ h3) (one_any _ _) (needD_yes _ _ hd) (sees_is numL l3 true h5) w h
            · rw [show numD _ _ = _ from if_neg h5]; refine num_8 _ _ _ _ _ _ _ _ _ _ T0 T1 (take_yes _ _ h2) (needD_yes _ _ hd2) (one_yes _ _ h3) (one_any _ _) (needD_yes _ _ hd) (sees_is numL l3 false (Bool.eq_false_iff.2 h5)) w h
        · rw [show numC _ _ = _ from if_neg h3, Option.bind_some]
          by_cases h5 : headIn numL l2 = true
          · rw [show numD _ _ = _ from if_pos h5]; refine num_7 _ _ _ _ _ _ T0 T1 (take_yes _ _ h2) (needD_yes _ _ hd2) (one_no _ _ (Bool.eq_false_iff.2 h3)) (sees_is numL l2 true h5) w h
          · rw [show numD _ _ = _ from if_neg h5]; refine num_6 _ _ _ _ _ _ T0 T1 (take_yes _ _ h2) (needD_yes _ _ hd2) (one_no _ _ (Bool.eq_false_iff.2 h3)) (sees_is numL l2 false (Bool.eq_false_iff.2 h5)) w h
    · rw [show numB l1 = _ from if_neg h2]
      rw [Option.bind_some]
      by_cases h3 : headIn [101, 69] l1 = true
      · rw [show numC _ _ = _ from if_pos h3]
        obtain hd | ⟨l3, hd⟩ := (Option.eq_none_or_eq_some (needD (optO [43, 45] (l1.drop 1))))
        · rw [hd]; refine num_5 _ _ _ _ _ _ _ T0 T1 (take_no _ _ (Bool.eq_false_iff.2 h2)) (one_yes _ _ h3) (one_any _ _) (needD_no _ hd) w h
        · rw [hd, Option.map_some, Option.bind_some]
          by_cases h5 : headIn numL l3 = true
          · rw [show numD _ _ = _ from if_pos h5]; refine num_4 _ _ _ _ _ _ _ _ T0 T1 (take_no _ _ (Bool.eq_false_iff.2 h2)) (one_yes _ _ h3) (one_any _ _) (needD_yes _ _ hd) (sees_is numL l3 true h5) w h
          · rw [show numD _ _ = _ from if_neg h5]; refine num_3 _ _ _ _ _ _ _ _ T0 T1 (take_no _ _ (Bool.eq_false_iff.2 h2)) (one_yes _ _ h3) (one_any _ _) (needD_yes _ _ hd) (sees_is numL l3 false (Bool.eq_false_iff.2 h5)) w h
      · rw [show numC _ _ = _ from if_neg h3, Option.bind_some]
        by_cases h5 : headIn numL l1 = true
        · rw [show numD _ _ = _ from if_pos h5]; refine num_2 _ _ _ _ T0 T1 (take_no _ _ (Bool.eq_false_iff.2 h2)) (one_no _ _ (Bool.eq_false_iff.2 h3)) (sees_is numL l1 true h5) w h
        · rw [show numD _ _ = _ from if_neg h5]; refine num_1 _ _ _ _ T0 T1 (take_no _ _ (Bool.eq_false_iff.2 h2)) (one_no _ _ (Bool.eq_false_iff.2 h3)) (sees_is numL l1 false (Bool.eq_false_iff.2 h5)) w h
  · rw [show numA l0 = _ from if_neg h1]
    obtain hd | ⟨l1, hd1⟩ := (Option.eq_none_or_eq_some (needD l0))
    · rw [hd]; refine num_23 _ _ _ T0 (take_no _ _ (Bool.eq_false_iff.2 h1)) (needD_no _ hd) w h
    · rw [hd1]
      rw [Option.bind_some]
      by_cases h2 : List.isPrefixOf [46] l1 = true
      · rw [show numB l1 = _ from if_pos h2]
        obtain hd | ⟨l2, hd2⟩ := (Option.eq_none_or_eq_some (needD (l1.drop 1)))
        · rw [hd]; refine num_22 _ _ _ _ _ T0 (take_no _ _ (Bool.eq_false_iff.2 h1)) (needD_yes _ _ hd1) (take_yes _ _ h2) (needD_no _ hd) w h
        · rw [hd2, Option.map_some]
          rw [Option.bind_some]
          by_cases h3 : headIn [101, 69] l2 = true
          · rw [show numC _ _ = _ from if_pos h3]
            obtain hd | ⟨l3, hd⟩ := (Option.eq_none_or_eq_some (needD (optO [43, 45] (l2.drop 1))))
            · rw [hd]; refine num_21 _ _ _ _ _ _ _ _ _ T0 (take_no _ _ (Bool.eq_false_iff.2 h1)) (needD_yes _ _ hd1) (take_yes _ _ h2) (needD_yes _ _ hd2) (one_yes _ _ h3) (one_any _ _) (needD_no _ hd) w h
            · rw [hd, Option.map_some, Option.bind_some]
              by_cases h5 : headIn numL l3 = true
              · rw [show numD _ _ = _ from if_pos h5]; refine num_20 _ _ _ _ _ _ _ _ _ _ T0 (take_no _ _ (Bool.eq_false_iff.2 h1)) (needD_yes _ _ hd1) (take_yes _ _ h2) (needD_yes _ _ hd2) (one_yes _ _ h3) (one_any _ _) (needD_yes _ _ hd) (sees_is numL l3 true h5) w h
              · rw [show numD _ _ = _ from if_neg h5]; refine num_19 _ _ _ _ _ _ _ _ _ _ T0 (take_no _ _ (Bool.eq_false_iff.2 h1)) (needD_yes _ _ hd1) (take_yes _ _ h2) (needD_yes _ _ hd2) (one_yes _ _ h3) (one_any _ _) (needD_yes _ _ hd) (sees_is numL l3 false (Bool.eq_false_iff.2 h5)) w h
          · rw [show numC _ _ = _ from if_neg h3, Option.bind_some]
            by_cases h5 : headIn numL l2 = true
            · rw [show numD _ _ = _ from if_pos h5]; refine num_18 _ _ _ _ _ _ T0 (take_no _ _ (Bool.eq_false_iff.2 h1)) (needD_yes _ _ hd1) (take_yes _ _ h2) (needD_yes _ _ hd2) (one_no _ _ (Bool.eq_false_iff.2 h3)) (sees_is numL l2 true h5) w h
            · rw [show numD _ _ = _ from if_neg h5]; refine num_17 _ _ _ _ _ _ T0 (take_no _ _ (Bool.eq_false_iff.2 h1)) (needD_yes _ _ hd1) (take_yes _ _ h2) (needD_yes _ _ hd2) (one_no _ _ (Bool.eq_false_iff.2 h3)) (sees_is numL l2 false (Bool.eq_false_iff.2 h5)) w h
      · rw [show numB l1 = _ from if_neg h2]
        rw [Option.bind_some]
        by_cases h3 : headIn [101, 69] l1 = true
        · rw [show numC _ _ = _ from if_pos h3]
          obtain hd | ⟨l3, hd⟩ := (Option.eq_none_or_eq_some (needD (optO [43, 45] (l1.drop 1))))
          · rw [hd]; refine num_16 _ _ _ _ _ _ _ T0 (take_no _ _ (Bool.eq_false_iff.2 h1)) (needD_yes _ _ hd1) (take_no _ _ (Bool.eq_false_iff.2 h2)) (one_yes _ _ h3) (one_any _ _) (needD_no _ hd) w h
          · rw [hd, Option.map_some, Option.bind_some]
            by_cases h5 : headIn numL l3 = true
            · rw [show numD _ _ = _ from if_pos h5]; refine num_15 _ _ _ _ _ _ _ _ T0 (take_no _ _ (Bool.eq_false_iff.2 h1)) (needD_yes _ _ hd1) (take_no _ _ (Bool.eq_false_iff.2 h2)) (one_yes _ _ h3) (one_any _ _) (needD_yes _ _ hd) (sees_is numL l3 true h5) w h
            · rw [show numD _ _ = _ from if_neg h5]; refine num_14 _ _ _ _ _ _ _ _ T0 (take_no _ _ (Bool.eq_false_iff.2 h1)) (needD_yes _ _ hd1) (take_no _ _ (Bool.eq_false_iff.2 h2)) (one_yes _ _ h3) (one_any _ _) (needD_yes _ _ hd) (sees_is numL l3 false (Bool.eq_false_iff.2 h5)) w h
        · rw [show numC _ _ = _ from if_neg h3, Option.bind_some]
          by_cases h5 : headIn numL l1 = true
          · rw [show numD _ _ = _ from if_pos h5]; refine num_13 _ _ _ _ T0 (take_no _ _ (Bool.eq_false_iff.2 h1)) (needD_yes _ _ hd1) (take_no _ _ (Bool.eq_false_iff.2 h2)) (one_no _ _ (Bool.eq_false_iff.2 h3)) (sees_is numL l1 true h5) w h
          · rw [show numD _ _ = _ from if_neg h5]; refine num_12 _ _ _ _ T0 (take_no _ _ (Bool.eq_false_iff.2 h1)) (needD_yes _ _ hd1) (take_no _ _ (Bool.eq_false_iff.2 h2)) (one_no _ _ (Bool.eq_false_iff.2 h3)) (sees_is numL l1 false (Bool.eq_false_iff.2 h5)) w h

end
end Go.Proofs.YtlabcadpkdgjnaaGreatDoor
