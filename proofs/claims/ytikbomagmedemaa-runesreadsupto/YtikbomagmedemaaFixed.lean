/- The calls whose answers the document fixes: all nine come out as it says. -/
import Derived.Test.YtikbomagmedemaaPoints
namespace Go.Proofs.Ytikbomagmedemaa
open Go.RowKit

theorem fx_rune0 : runeS ⟨#[195, 169]⟩ 0 = (233, 2) := by decide +kernel
theorem fx_rune1 : runeS ⟨#[195, 169]⟩ 1 = (0, 0) := by decide +kernel
theorem fx_put1 : Utf8.encode 8364 = ⟨#[226, 130, 172]⟩ := by decide +kernel
theorem fx_char1 : charB 8364 = true := by decide +kernel
theorem fx_char2 : charB 55296 = false := by decide +kernel
theorem fx_valid1 : validS ⟨#[97, 195, 169]⟩ = true := by decide +kernel
theorem fx_points : (pointsS ⟨#[97, 195, 169]⟩).length = 2 := by decide +kernel
theorem fx_source : sourceS ⟨#[97, 1]⟩ = (1, 10) := by decide +kernel
theorem fx_place : placeS ⟨#[97, 98, 13, 10, 99]⟩ (clampP ⟨#[97, 98, 13, 10, 99]⟩ 5) = (2, 2) := by decide +kernel
theorem fx_valid2 : validS ⟨#[]⟩ = true := by decide +kernel
theorem fx_valid3 : validS ⟨#[192, 128]⟩ = false := by decide +kernel

theorem fix_rune0 (w : World) : Calls Try.prog 9 #[.string ⟨#[195, 169]⟩, .int .i64 0] w fun e w' => e = .returned (.tuple #[.int .i64 233, .int .i64 2]) ∧ Below w.heap.size w w' := by
  have h := rune_in ⟨#[195, 169]⟩ 0 w (by decide) (by decide)
  rw [fx_rune0] at h
  exact h
theorem fix_rune1 (w : World) : Calls Try.prog 9 #[.string ⟨#[195, 169]⟩, .int .i64 1] w fun e w' => e = .returned (.tuple #[.int .i64 0, .int .i64 0]) ∧ Below w.heap.size w w' := by
  have h := rune_in ⟨#[195, 169]⟩ 1 w (by decide) (by decide)
  rw [fx_rune1] at h
  exact h
theorem fix_put1 (w : World) : Calls Try.prog 17 #[.int .i64 8364] w fun e w' => e = .returned (.tuple #[.string ⟨#[226, 130, 172]⟩, .int .i64 0]) ∧ Below w.heap.size w w' := by
  have h := put_yes 8364 w fx_char1
  rw [fx_put1] at h
  exact h.mono fun e w' ⟨h1, h2⟩ => ⟨h1, by rw [h2]; exact Below.refl _ _⟩
theorem fix_put2 (w : World) : Calls Try.prog 17 #[.int .i64 55296] w fun e w' => e = .returned (.tuple #[.string ⟨#[]⟩, .int .i64 10]) ∧ Below w.heap.size w w' :=
  (put_no 55296 w fx_char2).mono fun e w' ⟨h1, h2⟩ => ⟨h1, by rw [h2]; exact Below.refl _ _⟩
theorem fix_points (w : World) : Calls Try.prog 15 #[.string ⟨#[97, 195, 169]⟩] w fun e w' => (∃ g cap, e = .returned (.tuple #[.slice (some ⟨g, 0, none⟩) 2 cap, .bool true])) ∧ Below w.heap.size w w' := by
  refine (points_yes ⟨#[97, 195, 169]⟩ w (by decide) fx_valid1).mono ?_
  rintro e w' ⟨v, rfl, h2, h3⟩
  rw [fx_points] at h2
  rcases h2.2 with ⟨_, h⟩ | ⟨g, cap, cur, rfl, _⟩
  · omega
  · exact ⟨⟨g, cap, rfl⟩, h3⟩
theorem fix_source (w : World) : Calls Try.prog 19 #[.string ⟨#[97, 1]⟩] w fun e w' => e = .returned (.tuple #[.int .i64 1, .int .i64 10]) ∧ Below w.heap.size w w' := by
  have h := source_any ⟨#[97, 1]⟩ w (by decide)
  rw [fx_source] at h
  exact h
theorem fix_place (w : World) : Calls Try.prog 21 #[.string ⟨#[97, 98, 13, 10, 99]⟩, .int .i64 5] w fun e w' => e = .returned (.tuple #[.int .i64 2, .int .i64 2]) ∧ Below w.heap.size w w' := by
  have h := place_any ⟨#[97, 98, 13, 10, 99]⟩ 5 w (by decide)
  rw [fx_place] at h
  exact h
theorem fix_valid2 (w : World) : Calls Try.prog 12 #[.string ⟨#[]⟩] w fun e w' => e = .returned (.bool true) ∧ Below w.heap.size w w' := by
  have h := valid_any ⟨#[]⟩ w (by decide)
  rw [fx_valid2] at h
  exact h
theorem fix_valid3 (w : World) : Calls Try.prog 12 #[.string ⟨#[192, 128]⟩] w fun e w' => e = .returned (.bool false) ∧ Below w.heap.size w w' := by
  have h := valid_any ⟨#[192, 128]⟩ w (by decide)
  rw [fx_valid3] at h
  exact h

set_option maxHeartbeats 1000000 in
theorem fixed_any (w : World) : Calls Try.prog 11 #[] w fun e w' => e = .returned (.bool true) ∧ Below w.heap.size w w' := by
  have hb := Below.refl w.heap.size w
  go_enter Try.func11, Try.ntmps11
  go_wp2_with (first
    | (go_at_call 9; (first | with_reducible refine (fix_rune0 _).mono ?_ | with_reducible refine (fix_rune1 _).mono ?_); rintro e w1 ⟨rfl, hb1⟩; have hb := hb.trans (hb1.mono hb.size); clear hb1)
    | (go_at_call 17; (first | with_reducible refine (fix_put1 _).mono ?_ | with_reducible refine (fix_put2 _).mono ?_); rintro e w1 ⟨rfl, hb1⟩; have hb := hb.trans (hb1.mono hb.size); clear hb1)
    | (go_at_call 15; refine (fix_points _).mono ?_; rintro e w1 ⟨⟨g, cap, rfl⟩, hb1⟩; have hb := hb.trans (hb1.mono hb.size); clear hb1)
    | (go_at_call 19; refine (fix_source _).mono ?_; rintro e w1 ⟨rfl, hb1⟩; have hb := hb.trans (hb1.mono hb.size); clear hb1)
    | (go_at_call 21; refine (fix_place _).mono ?_; rintro e w1 ⟨rfl, hb1⟩; have hb := hb.trans (hb1.mono hb.size); clear hb1)
    | (go_at_call 12; (first | with_reducible refine (fix_valid2 _).mono ?_ | with_reducible refine (fix_valid3 _).mono ?_); rintro e w1 ⟨rfl, hb1⟩; have hb := hb.trans (hb1.mono hb.size); clear hb1))
  go_ret
  exact ⟨rfl, hb⟩

end Go.Proofs.Ytikbomagmedemaa
