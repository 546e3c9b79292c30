/- The calls whose answers the document fixes: all come out as it says. -/
import Derived.Test.YtghneolphdfdlabDoorDec
import Derived.Test.YtghneolphdfdlabDoorAft
import Derived.Test.YtghneolphdfdlabDoorCmpL
namespace Go.Proofs.YtghneolphdfdlabDoor
open Go Go.RowKit

theorem parts_one (w : World) (p : Pt) : PartsAt (w.alloc (.cells p.cells 29)) (.slice (some ⟨w.heap.size, 0, none⟩) 1 1) [p] := by
  refine ⟨_, _, rfl, Nat.le_refl _, fun _ => ⟨w.heap.size, 0, rfl, by simp, fun i q hq => ?_⟩⟩
  match i, hq with
  | 0, hq =>
    simp at hq
    subst hq
    have hh := heap_alloc_new w (.cells p.cells 29)
    exact cells4 hh

theorem grow1 {w w' : World} {o : Obj} (h : Below (w.alloc o).heap.size (w.alloc o) w') : Below w.heap.size w w' := ((Below.refl w.heap.size w).alloc (Nat.le_refl _) o).trans (h.mono (by simp))
theorem max1 {w : World} (h : SomeMax w) (o : Obj) : SomeMax (w.alloc o) := h.below ((Below.refl w.heap.size w).alloc (Nat.le_refl _) o) h.lt

theorem fixE1 (w : World) (hM : SomeMax w) : Calls Tryd.prog 9 #[.slice (some ⟨w.heap.size, 0, none⟩) 1 1] (w.alloc (.cells #[.int .i64 0, .int .i64 (-1), .int .u64 0, .string ⟨#[]⟩] 29)) fun e w' => e = .returned (.tuple #[.string ⟨#[1, 127, 255, 255, 255, 255, 255, 255, 255]⟩, .int .i64 0]) ∧ Below w.heap.size w w' := by
  have h := encode_yes _ [⟨0, -1, 0, ⟨#[]⟩⟩] _ (parts_one w ⟨0, -1, 0, ⟨#[]⟩⟩) (by intro p hp; simp at hp; subst hp; decide) (max1 hM _) (by kernel_rfl)
  have e : encL [⟨0, -1, 0, ⟨#[]⟩⟩] = [1, 127, 255, 255, 255, 255, 255, 255, 255] := by kernel_rfl
  rw [e] at h
  exact h.mono fun e w' ⟨h1, h2⟩ => ⟨h1, grow1 h2⟩
theorem fixE2 (w : World) (hM : SomeMax w) : Calls Tryd.prog 9 #[.slice (some ⟨w.heap.size, 0, none⟩) 1 1] (w.alloc (.cells #[.int .i64 2, .int .i64 0, .int .u64 0, .string ⟨#[97, 0]⟩] 29)) fun e w' => e = .returned (.tuple #[.string ⟨#[3, 97, 0, 255, 0, 0]⟩, .int .i64 0]) ∧ Below w.heap.size w w' := by
  have h := encode_yes _ [⟨2, 0, 0, ⟨#[97, 0]⟩⟩] _ (parts_one w ⟨2, 0, 0, ⟨#[97, 0]⟩⟩) (by intro p hp; simp at hp; subst hp; decide) (max1 hM _) (by kernel_rfl)
  have e : encL [⟨2, 0, 0, ⟨#[97, 0]⟩⟩] = [3, 97, 0, 255, 0, 0] := by kernel_rfl
  rw [e] at h
  exact h.mono fun e w' ⟨h1, h2⟩ => ⟨h1, grow1 h2⟩
theorem fixD1 (w : World) (hM : SomeMax w) : Calls Tryd.prog 10 #[.string ⟨#[3, 97, 0, 255, 0, 0]⟩] w fun e w' => ∃ g cap, e = .returned (.tuple #[.slice (some ⟨g, 0, none⟩) 1 cap, .int .i64 0]) ∧ w'.cell? ⟨g, 3, none⟩ = some (.string ⟨#[97, 0]⟩) ∧ g < w'.heap.size ∧ Below w.heap.size w w' := by
  have h := decode_any [3, 97, 0, 255, 0, 0] w (by decide) hM
  have e : decL [3, 97, 0, 255, 0, 0] = some [⟨2, 0, 0, ⟨#[97, 0]⟩⟩] := by kernel_rfl
  rw [e] at h
  refine h.mono fun e w' ⟨⟨v, h1, h2, _⟩, h3⟩ => ?_
  have h20 := h2
  rcases h2.2 with ⟨_, h0⟩ | ⟨g, cap, cur, rfl, hg, hh, r⟩
  · simp at h0
  · refine ⟨g, cap, h1, ?_, lt_of_block hh, h3⟩
    have := h20.cellAt 3 (by simp)
    rw [this]
    rfl
theorem fixD2 (w : World) (hM : SomeMax w) : Calls Tryd.prog 10 #[.string ⟨#[3, 97, 0]⟩] w fun e w' => e = .returned (.tuple #[.slice none 0 0, .int .i64 31]) ∧ Below w.heap.size w w' := by
  have h := decode_any [3, 97, 0] w (by decide) hM
  have e : decL [3, 97, 0] = none := by kernel_rfl
  rw [e] at h
  exact h
theorem fixA1 (w : World) : Calls Tryd.prog 5 #[.string ⟨#[97, 98]⟩] w fun e w' => e = .returned (.tuple #[.string ⟨#[97, 99]⟩, .bool true]) ∧ Below w.heap.size w w' := by
  have h := after_any ⟨#[97, 98]⟩ w (by decide)
  have e1 : afterS (ByteArray.mk #[97, 98]).data.toList = [97, 99] := by kernel_rfl
  have e2 : afterB (ByteArray.mk #[97, 98]).data.toList = true := by kernel_rfl
  rw [e1, e2] at h
  exact h
theorem fixA2 (w : World) : Calls Tryd.prog 5 #[.string ⟨#[255]⟩] w fun e w' => e = .returned (.tuple #[.string ⟨#[]⟩, .bool false]) ∧ Below w.heap.size w w' := by
  have h := after_any ⟨#[255]⟩ w (by decide)
  have e1 : afterS (ByteArray.mk #[255]).data.toList = [] := by kernel_rfl
  have e2 : afterB (ByteArray.mk #[255]).data.toList = false := by kernel_rfl
  rw [e1, e2] at h
  exact h
theorem fixC (w : World) : Calls Tryd.prog 8 #[.slice (some ⟨w.heap.size, 0, none⟩) 1 1, .slice (some ⟨w.heap.size + 1, 0, none⟩) 1 1] ((w.alloc (.cells #[.int .i64 0, .int .i64 5, .int .u64 0, .string ⟨#[]⟩] 29)).alloc (.cells #[.int .i64 2, .int .i64 0, .int .u64 0, .string ⟨#[]⟩] 29)) fun e w' => e = .returned (.int .i64 (-1)) ∧ Below w.heap.size w w' := by
  have p1 := parts_one w ⟨0, 5, 0, ⟨#[]⟩⟩
  have p2 := parts_one (w.alloc (.cells #[.int .i64 0, .int .i64 5, .int .u64 0, .string ⟨#[]⟩] 29)) ⟨2, 0, 0, ⟨#[]⟩⟩
  have e0 : (w.alloc (.cells #[.int .i64 0, .int .i64 5, .int .u64 0, .string ⟨#[]⟩] 29)).heap.size = w.heap.size + 1 := by simp
  rw [e0] at p2
  have h := kcmp_any _ _ [⟨0, 5, 0, ⟨#[]⟩⟩] [⟨2, 0, 0, ⟨#[]⟩⟩] _ (p1.below ((Below.refl _ _).alloc (Nat.le_refl _) (.cells #[.int .i64 2, .int .i64 0, .int .u64 0, .string ⟨#[]⟩] 29))) p2 (by decide) (by decide)
  have e1 : cmpL [⟨0, 5, 0, ⟨#[]⟩⟩] [⟨2, 0, 0, ⟨#[]⟩⟩] = -1 := by kernel_rfl
  rw [e1] at h
  exact h.mono fun e w' ⟨h1, h2⟩ => ⟨h1, grow1 (grow1 h2)⟩
theorem fixK (w : World) : Calls Tryd.prog 7 #[.slice (some ⟨w.heap.size, 0, none⟩) 1 1] (w.alloc (.cells #[.int .i64 3, .int .i64 0, .int .u64 0, .string ⟨#[]⟩] 29)) fun e w' => e = .returned (.int .i64 30) ∧ Below w.heap.size w w' := by
  have h := check_any _ [⟨3, 0, 0, ⟨#[]⟩⟩] _ (parts_one w ⟨3, 0, 0, ⟨#[]⟩⟩) (by intro p hp; simp at hp; subst hp; decide)
  have e : checkI [⟨3, 0, 0, ⟨#[]⟩⟩] = 30 := by kernel_rfl
  rw [e] at h
  exact h.mono fun e w' ⟨h1, h2⟩ => ⟨h1, grow1 h2⟩

theorem carry {w w' : World} {g : Nat} {v : Value} (hb : Below w.heap.size w w') (h : w.cell? ⟨g, 3, none⟩ = some v) (hlt : g < w.heap.size) : w'.cell? ⟨g, 3, none⟩ = some v ∧ g < w'.heap.size :=
  ⟨(hb.cell (p := ⟨g, 3, none⟩) hlt).trans h, Nat.lt_of_lt_of_le hlt hb.size⟩
theorem maxB {w w' : World} (h : SomeMax w) (hb : Below w.heap.size w w') : SomeMax w' := h.below hb h.lt

set_option maxRecDepth 100000 in
set_option maxHeartbeats 4000000 in
theorem fixed_any (w : World) (hM : SomeMax w) : Calls Tryd.prog 6 #[] w fun e w' => e = .returned (.bool true) ∧ Below w.heap.size w w' := by
  go_enter Tryd.func6, Tryd.ntmps6
  go_wp2_with (first
    | (go_at_call 9; with_reducible refine (fixE1 _ hM).mono ?_; rintro e w1 ⟨rfl, hb1⟩; have hM1 := maxB hM hb1)
    | (go_at_call 9; with_reducible refine (fixE2 _ hM1).mono ?_; rintro e w2 ⟨rfl, hb2⟩; have hM2 := maxB hM1 hb2)
    | (go_at_call 10; with_reducible refine (fixD1 _ hM2).mono ?_; rintro e w3 ⟨g, cap, rfl, hc3, hl3, hb3⟩; have hM3 := maxB hM2 hb3)
    | (go_at_call 10; with_reducible refine (fixD2 _ hM3).mono ?_; rintro e w4 ⟨rfl, hb4⟩; obtain ⟨hc4, hl4⟩ := carry hb4 hc3 hl3)
    | (go_at_call 5; with_reducible refine (fixA1 _).mono ?_; rintro e w5 ⟨rfl, hb5⟩; obtain ⟨hc5, hl5⟩ := carry hb5 hc4 hl4)
    | (go_at_call 5; with_reducible refine (fixA2 _).mono ?_; rintro e w6 ⟨rfl, hb6⟩; obtain ⟨hc6, hl6⟩ := carry hb6 hc5 hl5)
    | (go_at_call 8; refine (fixC _).mono ?_; rintro e w7 ⟨rfl, hb7⟩)
    | (go_at_call 7; refine (fixK _).mono ?_; rintro e w8 ⟨rfl, hb8⟩))
  go_ret
  exact ⟨rfl, ((((((hb1.trans (hb2.mono hb1.size)).trans (hb3.mono (Nat.le_trans hb1.size hb2.size))).trans (hb4.mono (by have := hb1.size; have := hb2.size; have := hb3.size; omega))).trans (hb5.mono (by have := hb1.size; have := hb2.size; have := hb3.size; have := hb4.size; omega))).trans (hb6.mono (by have := hb1.size; have := hb2.size; have := hb3.size; have := hb4.size; have := hb5.size; omega))).trans (hb7.mono (by have := hb1.size; have := hb2.size; have := hb3.size; have := hb4.size; have := hb5.size; have := hb6.size; omega))).trans (hb8.mono (by have := hb1.size; have := hb2.size; have := hb3.size; have := hb4.size; have := hb5.size; have := hb6.size; have := hb7.size; omega))⟩
end Go.Proofs.YtghneolphdfdlabDoor
