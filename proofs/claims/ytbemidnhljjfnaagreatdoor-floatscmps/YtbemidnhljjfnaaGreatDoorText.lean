/- The texts of the two numbers; an infinity has none. -/
import Derived.Test.YtbemidnhljjfnaaGreatDoorForm
import Derived.Lib.AtoiErrMem
namespace Go.Proofs.YtbemidnhljjfnaaGreatDoor
open Go Go.RowKit Go.Lib

theorem nanA (w : World) : Calls Tryz.prog 21 #[.float .f64 4591870180066957722] w fun e w' => e = .returned (.bool false) ∧ w' = w :=
  calls_of_run 100000 Tryz.f21 Tryz.func21 (fun _ _ => by kernel_rfl) (fun _ _ => by kernel_rfl) (fun _ _ => by kernel_rfl) (fun _ _ => by kernel_rfl) (fun _ _ => by kernel_rfl) (fun _ _ => by kernel_rfl) w
theorem infA (w : World) : Calls Tryz.prog 30 #[.float .f64 4591870180066957722, .int .i64 0] w fun e w' => e = .returned (.bool false) ∧ w' = w :=
  calls_of_run 100000 Tryz.f30 Tryz.func30 (fun _ _ => by kernel_rfl) (fun _ _ => by kernel_rfl) (fun _ _ => by kernel_rfl) (fun _ _ => by kernel_rfl) (fun _ _ => by kernel_rfl) (fun _ _ => by kernel_rfl) w
theorem nanB (w : World) : Calls Tryz.prog 21 #[.float .f64 1] w fun e w' => e = .returned (.bool false) ∧ w' = w :=
  calls_of_run 100000 Tryz.f21 Tryz.func21 (fun _ _ => by kernel_rfl) (fun _ _ => by kernel_rfl) (fun _ _ => by kernel_rfl) (fun _ _ => by kernel_rfl) (fun _ _ => by kernel_rfl) (fun _ _ => by kernel_rfl) w
theorem infB (w : World) : Calls Tryz.prog 30 #[.float .f64 1, .int .i64 0] w fun e w' => e = .returned (.bool false) ∧ w' = w :=
  calls_of_run 100000 Tryz.f30 Tryz.func30 (fun _ _ => by kernel_rfl) (fun _ _ => by kernel_rfl) (fun _ _ => by kernel_rfl) (fun _ _ => by kernel_rfl) (fun _ _ => by kernel_rfl) (fun _ _ => by kernel_rfl) w
theorem nanI (w : World) : Calls Tryz.prog 21 #[.float .f64 9218868437227405312] w fun e w' => e = .returned (.bool false) ∧ w' = w :=
  calls_of_run 100000 Tryz.f21 Tryz.func21 (fun _ _ => by kernel_rfl) (fun _ _ => by kernel_rfl) (fun _ _ => by kernel_rfl) (fun _ _ => by kernel_rfl) (fun _ _ => by kernel_rfl) (fun _ _ => by kernel_rfl) w
theorem infI (w : World) : Calls Tryz.prog 30 #[.float .f64 9218868437227405312, .int .i64 0] w fun e w' => e = .returned (.bool true) ∧ w' = w :=
  calls_of_run 100000 Tryz.f30 Tryz.func30 (fun _ _ => by kernel_rfl) (fun _ _ => by kernel_rfl) (fun _ _ => by kernel_rfl) (fun _ _ => by kernel_rfl) (fun _ _ => by kernel_rfl) (fun _ _ => by kernel_rfl) w

set_option maxHeartbeats 1000000 in
theorem cut_e (s a b : ByteArray) (i : Nat) (w : World) (hi : i < s.size) (hs : s.size ≤ 100) (hx : Lib.indexByte s.data.toList 101 = (i : Int)) (ha : s.extract 0 i = a) (hb : s.extract (i + 1) s.size = b) :
    Calls Tryz.prog 33 #[.string s, .string ⟨#[101]⟩] w fun e w' => e = .returned (.tuple #[.string a, .string b, .bool true]) ∧ w' = w.drew := by
  have X := fun w => Tryz.stringslite_Index_one s 101 w
  rw [hx] at X
  subst ha hb
  have h1 : (i : Int) + 1 ≤ s.size := by omega
  have h2 : (i : Int) ≤ s.size := by omega
  clear hx
  go_enter Tryz.func33, Tryz.ntmps33
  go_wp2_with (first
    | (go_at_call 61; refine (X _).mono ?_; rintro e w1 ⟨rfl, rfl⟩)
    | go_in)
  go_region
  go_wp2
  go_returns
  exact ⟨rfl, rfl⟩

set_option maxRecDepth 100000 in
set_option maxHeartbeats 4000000 in
theorem textA (w : World) (T : Tabs w) : Calls Tryz.prog 19 #[.int .u64 4591870180066957722] w fun e w' => e = .returned (.tuple #[.string ⟨#[49, 46, 48, 48, 48, 48, 48, 48, 48, 48, 48, 48, 48, 48, 48, 48, 48, 49, 101, 45, 49]⟩, .int .i64 0]) ∧ Below w.heap.size w w' := by
  have hf := run_from
  have F := formA w T
  have AT := fun w => Tryz.strconv_Atoi ⟨#[45, 48, 49]⟩ (-1) (by decide) (by decide +kernel) w
  have TR : ∀ w, Calls Tryz.prog 36 #[.string ⟨#[49, 46, 48, 48, 48, 48, 48, 48, 48, 48, 48, 48, 48, 48, 48, 48, 48, 49]⟩, .string ⟨#[48]⟩] w fun e w' => e = .returned (.string ⟨#[49, 46, 48, 48, 48, 48, 48, 48, 48, 48, 48, 48, 48, 48, 48, 48, 48, 49]⟩) ∧ w' = w := fun w => by
    have h := Tryz.strings_TrimRight_one ⟨#[49, 46, 48, 48, 48, 48, 48, 48, 48, 48, 48, 48, 48, 48, 48, 48, 48, 49]⟩ 48 (by decide) w (by decide)
    rw [show (⟨(Lib.trimRightB (⟨#[49, 46, 48, 48, 48, 48, 48, 48, 48, 48, 48, 48, 48, 48, 48, 48, 48, 49]⟩ : ByteArray).data.toList 48).toArray⟩ : ByteArray) = ⟨#[49, 46, 48, 48, 48, 48, 48, 48, 48, 48, 48, 48, 48, 48, 48, 48, 48, 49]⟩ by decide +kernel] at h
    exact h
  have TS : ∀ w, Calls Tryz.prog 35 #[.string ⟨#[49, 46, 48, 48, 48, 48, 48, 48, 48, 48, 48, 48, 48, 48, 48, 48, 48, 49]⟩, .string ⟨#[46]⟩] w fun e w' => e = .returned (.string ⟨#[49, 46, 48, 48, 48, 48, 48, 48, 48, 48, 48, 48, 48, 48, 48, 48, 48, 49]⟩) ∧ w' = w := fun w => by
    have h := Tryz.strings_TrimSuffix ⟨#[49, 46, 48, 48, 48, 48, 48, 48, 48, 48, 48, 48, 48, 48, 48, 48, 48, 49]⟩ ⟨#[46]⟩ w (by decide)
    rw [show (⟨(Lib.trimSuffix (⟨#[49, 46, 48, 48, 48, 48, 48, 48, 48, 48, 48, 48, 48, 48, 48, 48, 48, 49]⟩ : ByteArray).data.toList (⟨#[46]⟩ : ByteArray).data.toList).toArray⟩ : ByteArray) = ⟨#[49, 46, 48, 48, 48, 48, 48, 48, 48, 48, 48, 48, 48, 48, 48, 48, 48, 49]⟩ by decide +kernel] at h
    exact h
  have IT : ∀ w', Tabs w' → Calls Tryz.prog 38 #[.int .i64 (-1)] w' fun e w'' => e = .returned (.string ⟨#[45, 49]⟩) ∧ Below w'.heap.size w' w'' := fun w' T' => by
    have h := Tryz.strconv_Itoa (-1) (by decide) (by decide) w' T'.tens
    rw [show (⟨(Lib.itoa (-1)).toArray⟩ : ByteArray) = ⟨#[45, 49]⟩ by decide +kernel] at h
    refine h.mono ?_
    rintro e w'' ⟨rfl, k, os, rfl⟩
    exact ⟨rfl, below_grow _ _ (Nat.le_refl _) _ _⟩
  have cat1 : (⟨#[49, 46, 48, 48, 48, 48, 48, 48, 48, 48, 48, 48, 48, 48, 48, 48, 48, 49]⟩ : ByteArray) ++ (⟨#[101]⟩ : ByteArray) = ⟨#[49, 46, 48, 48, 48, 48, 48, 48, 48, 48, 48, 48, 48, 48, 48, 48, 48, 49, 101]⟩ := by decide +kernel
  have cat2 : (⟨#[49, 46, 48, 48, 48, 48, 48, 48, 48, 48, 48, 48, 48, 48, 48, 48, 48, 49, 101]⟩ : ByteArray) ++ (⟨#[45, 49]⟩ : ByteArray) = ⟨#[49, 46, 48, 48, 48, 48, 48, 48, 48, 48, 48, 48, 48, 48, 48, 48, 48, 49, 101, 45, 49]⟩ := by decide +kernel
  go_enter Tryz.func19, Tryz.ntmps19
  go_wp2_with (first
    | (go_at_call 21; refine (nanA _).mono ?_; rintro e w1 ⟨rfl, rfl⟩)
    | (go_at_call 30; refine (infA _).mono ?_; rintro e w1 ⟨rfl, rfl⟩)
    | (go_at_call 47; refine F.mono ?_; rintro e w2 ⟨rfl, hb2⟩; have T2 := T.later hb2.drew; have HB := (show Hid (Below _ _ w2.drew) from hb2.drew); clear hb2)
    | (go_at_call 33; refine (cut_e ⟨#[49, 46, 48, 48, 48, 48, 48, 48, 48, 48, 48, 48, 48, 48, 48, 48, 48, 49, 101, 45, 48, 49]⟩ ⟨#[49, 46, 48, 48, 48, 48, 48, 48, 48, 48, 48, 48, 48, 48, 48, 48, 48, 49]⟩ ⟨#[45, 48, 49]⟩ 18 _ (by decide) (by decide) (by decide +kernel) (by decide +kernel) (by decide +kernel)).mono ?_; rintro e w3 ⟨rfl, rfl⟩)
    | (go_at_call 36; refine (TR _).mono ?_; rintro e w4 ⟨rfl, rfl⟩)
    | (go_at_call 35; refine (TS _).mono ?_; rintro e w5 ⟨rfl, rfl⟩)
    | (go_at_call 37; refine (AT _).mono ?_; rintro e w6 ⟨rfl, t, hw6⟩; have hb6 : Below w2.drew.heap.size w2.drew w6 := (by rw [hw6]; exact bytesWorld_below _ _ _); have T6 := T2.later hb6; have HB6 := (show Hid (Below _ _ w6) from HB.out.trans (hb6.mono HB.out.size)); clear hb6 hw6)
    | (go_at_call 38; refine (IT _ T6).mono ?_; rintro e w7 ⟨rfl, hb7⟩)
    | go_in)
  go_returns
  exact ⟨rfl, HB6.out.trans (hb7.mono HB6.out.size)⟩

set_option maxRecDepth 100000 in
set_option maxHeartbeats 4000000 in
theorem textB (w : World) (T : Tabs w) : Calls Tryz.prog 19 #[.int .u64 1] w fun e w' => e = .returned (.tuple #[.string ⟨#[52, 46, 57, 52, 48, 54, 53, 54, 52, 53, 56, 52, 49, 50, 52, 54, 53, 52, 101, 45, 51, 50, 52]⟩, .int .i64 0]) ∧ Below w.heap.size w w' := by
  have hf := run_from
  have F := formB w T
  have AT := fun w => Tryz.strconv_Atoi ⟨#[45, 51, 50, 52]⟩ (-324) (by decide) (by decide +kernel) w
  have TR : ∀ w, Calls Tryz.prog 36 #[.string ⟨#[52, 46, 57, 52, 48, 54, 53, 54, 52, 53, 56, 52, 49, 50, 52, 54, 53, 52]⟩, .string ⟨#[48]⟩] w fun e w' => e = .returned (.string ⟨#[52, 46, 57, 52, 48, 54, 53, 54, 52, 53, 56, 52, 49, 50, 52, 54, 53, 52]⟩) ∧ w' = w := fun w => by
    have h := Tryz.strings_TrimRight_one ⟨#[52, 46, 57, 52, 48, 54, 53, 54, 52, 53, 56, 52, 49, 50, 52, 54, 53, 52]⟩ 48 (by decide) w (by decide)
    rw [show (⟨(Lib.trimRightB (⟨#[52, 46, 57, 52, 48, 54, 53, 54, 52, 53, 56, 52, 49, 50, 52, 54, 53, 52]⟩ : ByteArray).data.toList 48).toArray⟩ : ByteArray) = ⟨#[52, 46, 57, 52, 48, 54, 53, 54, 52, 53, 56, 52, 49, 50, 52, 54, 53, 52]⟩ by decide +kernel] at h
    exact h
  have TS : ∀ w, Calls Tryz.prog 35 #[.string ⟨#[52, 46, 57, 52, 48, 54, 53, 54, 52, 53, 56, 52, 49, 50, 52, 54, 53, 52]⟩, .string ⟨#[46]⟩] w fun e w' => e = .returned (.string ⟨#[52, 46, 57, 52, 48, 54, 53, 54, 52, 53, 56, 52, 49, 50, 52, 54, 53, 52]⟩) ∧ w' = w := fun w => by
    have h := Tryz.strings_TrimSuffix ⟨#[52, 46, 57, 52, 48, 54, 53, 54, 52, 53, 56, 52, 49, 50, 52, 54, 53, 52]⟩ ⟨#[46]⟩ w (by decide)
    rw [show (⟨(Lib.trimSuffix (⟨#[52, 46, 57, 52, 48, 54, 53, 54, 52, 53, 56, 52, 49, 50, 52, 54, 53, 52]⟩ : ByteArray).data.toList (⟨#[46]⟩ : ByteArray).data.toList).toArray⟩ : ByteArray) = ⟨#[52, 46, 57, 52, 48, 54, 53, 54, 52, 53, 56, 52, 49, 50, 52, 54, 53, 52]⟩ by decide +kernel] at h
    exact h
  have IT : ∀ w', Tabs w' → Calls Tryz.prog 38 #[.int .i64 (-324)] w' fun e w'' => e = .returned (.string ⟨#[45, 51, 50, 52]⟩) ∧ Below w'.heap.size w' w'' := fun w' T' => by
    have h := Tryz.strconv_Itoa (-324) (by decide) (by decide) w' T'.tens
    rw [show (⟨(Lib.itoa (-324)).toArray⟩ : ByteArray) = ⟨#[45, 51, 50, 52]⟩ by decide +kernel] at h
    refine h.mono ?_
    rintro e w'' ⟨rfl, k, os, rfl⟩
    exact ⟨rfl, below_grow _ _ (Nat.le_refl _) _ _⟩
  have cat1 : (⟨#[52, 46, 57, 52, 48, 54, 53, 54, 52, 53, 56, 52, 49, 50, 52, 54, 53, 52]⟩ : ByteArray) ++ (⟨#[101]⟩ : ByteArray) = ⟨#[52, 46, 57, 52, 48, 54, 53, 54, 52, 53, 56, 52, 49, 50, 52, 54, 53, 52, 101]⟩ := by decide +kernel
  have cat2 : (⟨#[52, 46, 57, 52, 48, 54, 53, 54, 52, 53, 56, 52, 49, 50, 52, 54, 53, 52, 101]⟩ : ByteArray) ++ (⟨#[45, 51, 50, 52]⟩ : ByteArray) = ⟨#[52, 46, 57, 52, 48, 54, 53, 54, 52, 53, 56, 52, 49, 50, 52, 54, 53, 52, 101, 45, 51, 50, 52]⟩ := by decide +kernel
  go_enter Tryz.func19, Tryz.ntmps19
  go_wp2_with (first
    | (go_at_call 21; refine (nanB _).mono ?_; rintro e w1 ⟨rfl, rfl⟩)
    | (go_at_call 30; refine (infB _).mono ?_; rintro e w1 ⟨rfl, rfl⟩)
    | (go_at_call 47; refine F.mono ?_; rintro e w2 ⟨rfl, hb2⟩; have T2 := T.later hb2.drew; have HB := (show Hid (Below _ _ w2.drew) from hb2.drew); clear hb2)
    | (go_at_call 33; refine (cut_e ⟨#[52, 46, 57, 52, 48, 54, 53, 54, 52, 53, 56, 52, 49, 50, 52, 54, 53, 52, 101, 45, 51, 50, 52]⟩ ⟨#[52, 46, 57, 52, 48, 54, 53, 54, 52, 53, 56, 52, 49, 50, 52, 54, 53, 52]⟩ ⟨#[45, 51, 50, 52]⟩ 18 _ (by decide) (by decide) (by decide +kernel) (by decide +kernel) (by decide +kernel)).mono ?_; rintro e w3 ⟨rfl, rfl⟩)
    | (go_at_call 36; refine (TR _).mono ?_; rintro e w4 ⟨rfl, rfl⟩)
    | (go_at_call 35; refine (TS _).mono ?_; rintro e w5 ⟨rfl, rfl⟩)
    | (go_at_call 37; refine (AT _).mono ?_; rintro e w6 ⟨rfl, t, hw6⟩; have hb6 : Below w2.drew.heap.size w2.drew w6 := (by rw [hw6]; exact bytesWorld_below _ _ _); have T6 := T2.later hb6; have HB6 := (show Hid (Below _ _ w6) from HB.out.trans (hb6.mono HB.out.size)); clear hb6 hw6)
    | (go_at_call 38; refine (IT _ T6).mono ?_; rintro e w7 ⟨rfl, hb7⟩)
    | go_in)
  go_returns
  exact ⟨rfl, HB6.out.trans (hb7.mono HB6.out.size)⟩

set_option maxRecDepth 100000 in
set_option maxHeartbeats 4000000 in
theorem textI (w : World) : Calls Tryz.prog 19 #[.int .u64 9218868437227405312] w fun e w' => e = .returned (.tuple #[.string ⟨#[]⟩, .int .i64 22]) ∧ w' = w := by
  have hf := run_from
  go_enter Tryz.func19, Tryz.ntmps19
  go_wp2_with (first
    | (go_at_call 21; refine (nanI _).mono ?_; rintro e w1 ⟨rfl, rfl⟩)
    | (go_at_call 30; refine (infI _).mono ?_; rintro e w1 ⟨rfl, rfl⟩)
    | go_in)
  go_returns
  exact ⟨rfl, rfl⟩
end Go.Proofs.YtbemidnhljjfnaaGreatDoor
