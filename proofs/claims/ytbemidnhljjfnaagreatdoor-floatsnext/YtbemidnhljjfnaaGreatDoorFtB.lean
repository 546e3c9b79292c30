/- ftoa64 at the least number above 0. -/
import Derived.Test.YtbemidnhljjfnaaGreatDoorFtLem
namespace Go.Proofs.YtbemidnhljjfnaaGreatDoor
open Go Go.RowKit Go.Lib

set_option maxRecDepth 100000 in
set_option maxHeartbeats 8000000 in
theorem ftoaB (D : Nat) (w : World) (T : Tabs w) (hD : D ≤ w.heap.size) (hown : w.ownsRow D 5 1 (.slice (some ⟨D, 0, none⟩) 0 24) 0 []) :
    Calls Tryz.prog 63 #[.slice (some ⟨D, 0, none⟩) 0 24, .float .f64 1, .int .u8 101, .int .i64 16] w fun e w' =>
      e = .returned (.slice (some ⟨D, 0, none⟩) 23 24) ∧ w'.ownsRow D 5 1 (.slice (some ⟨D, 0, none⟩) 23 24) 23 (((52 : Int) :: 46 :: [57, 52, 48, 54, 53, 54, 52, 53, 56, 52, 49, 50, 52, 54, 53, 52] ++ [101, 45, 51, 50, 52]).map (Value.int .u8)) ∧ Below D w w' := by
  have hf := run_ito
  have b1 : bits .and .i64 0 2047 = 0 := by decide +kernel
  have b2 : bits .and .u64 1 4503599627370495 = 1 := by decide +kernel
  have hopt := T.opt
  have hDw : D < w.heap.size := (hown.lt D rfl).2
  have HD : Hid (D < w.heap.size) := hDw
  clear hDw
  have L : ∀ w, Calls Tryz.prog 86 #[.int .u64 1] w fun e w' => e = .returned (.int .i64 1) ∧ w' = w := fun w => by
    have h := Tryz.bits_Len64 1 w (by decide) (by decide)
    rw [show Lib.bitLen ((1 : Int).toNat) = 1 by decide +kernel] at h
    exact h
  have hb0 := fun o => (Below.alloc (Below.refl w.heap.size w) (Nat.le_refl _) o).drew
  have HB : Hid (∀ o, Below w.heap.size w (w.alloc o).drew) := hb0
  clear hb0
  go_enter Tryz.func63, Tryz.ntmps63
  go_wp2_with (first
    | (go_at_call 86; refine (L _).mono ?_; rintro e w1 ⟨rfl, rfl⟩))
  go_region
  go_wp2_with (first
    | (go_at_call 86; refine (L _).mono ?_; rintro e w1 ⟨rfl, rfl⟩)
    | (go_at_call 91; refine (fixedB _ (T.later (HB.out _))).mono ?_; rintro e w1 ⟨rfl, hb1⟩))
  have hb2 : Below w.heap.size w w1.drew := ((HB.out _).trans (hb1.mono (by simp))).drew
  have TT : Lib.TabIs Tryz.prog w1.drew "internal/strconv.uint64pow10" .u64 Lib.pow10Tab := (T.later hb2).tens
  have hH : «Sort».Holds encB w1.drew w.heap.size 0 noughts := holds_new ((hb1.block w.heap.size (by simp)).trans (new_at w _))
  have HH : Hid («Sort».Holds encB w1.drew w.heap.size 0 noughts) := hH
  have ND : Calls Tryz.prog 89 #[.int .u64 49406564584124654] w1.drew fun e w'' => e = .returned (.int .i64 17) ∧ w'' = w1.drew := by
    have h := Tryz.internal_strconv_numDigits 49406564584124654 (by decide) (by decide) w1.drew TT
    rw [show nDigits 49406564584124654 = 17 by decide +kernel] at h
    exact h
  have SD := setDigits17 w.heap.size 49406564584124654 (-340) w1.drew hH (by decide) (by decide) (by decide) (by decide +kernel)
  clear TT hH
  have HB1 : Hid (Below w.heap.size w w1.drew) := hb2
  clear hb2 hb1
  go_region_with (first
    | (go_at_call 89; refine ND.mono ?_; rintro e w2 ⟨rfl, rfl⟩)
    | (go_at_call 88; refine SD.mono ?_; rintro e w2 ⟨rfl, n, dk, hsz, hdk, rfl⟩))
  have HE : Hid (Calls Tryz.prog 85 #[.slice (some ⟨D, 0, none⟩) 0 24, .bool false, .slice (some ⟨w.heap.size, 0, none⟩) 24 24, .int .i64 (-323), .int .i64 17, .int .i64 16, .int .u8 101, .bool false] ((«Sort».putRow encB w1.drew w.heap.size 0 dk).drewN n) fun e w' =>
      e = .returned (.slice (some ⟨D, 0, none⟩) 23 24) ∧ w'.ownsRow D 5 1 (.slice (some ⟨D, 0, none⟩) 23 24) 23 (((52 : Int) :: 46 :: [57, 52, 48, 54, 53, 54, 52, 53, 56, 52, 49, 50, 52, 54, 53, 52] ++ [101, 45, 51, 50, 52]).map (Value.int .u8)) ∧ Below D ((«Sort».putRow encB w1.drew w.heap.size 0 dk).drewN n) w') := by
    obtain ⟨k0, kc⟩ := digits_cells w1.drew w.heap.size 49406564584124654 n dk 52 [57, 52, 48, 54, 53, 54, 52, 53, 56, 52, 49, 50, 52, 54, 53, 52] HH.out hsz hdk (by decide +kernel) (by decide +kernel)
    have hg := putRow_grown w1.drew w.heap.size n dk
    exact efgB D w.heap.size 52 [57, 52, 48, 54, 53, 54, 52, 53, 56, 52, 49, 50, 52, 54, 53, 52] _ (Nat.ne_of_lt HD.out) (Nat.le_trans hD (Nat.le_trans HB1.out.size hg.size)) rfl ((owns_below hown HB1.out).kept hg (.inr (fun e => Nat.ne_of_lt HD.out (Option.some.inj e)))) k0 kc
  have HP : Hid (Below D w ((«Sort».putRow encB w1.drew w.heap.size 0 dk).drewN n)) := below_put (HB1.out.mono hD) (Nat.le_trans hD HB1.out.size) hD
  clear hsz hdk
  go_wp2_with (first
    | (go_at_call 85; refine HE.out.mono ?_; rintro e w3 ⟨rfl, ho3, hb3⟩))
  go_ret
  exact ⟨rfl, ho3, HP.out.trans hb3⟩

end Go.Proofs.YtbemidnhljjfnaaGreatDoor
