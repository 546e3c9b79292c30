/- Which parts any bytes are, and that what is told is its owner's: the walk of the statement. -/
import Derived.Test.YtghneolphdfdlaaDoorQDec
import Derived.Test.YtghneolphdfdlaaDoorBack
namespace Go.Proofs.YtghneolphdfdlaaDoor
open Go Go.RowKit

theorem own_at {w : World} {B e g n cap : Nat} {xs : List Value} (h : w.ownsRow B e 4 (.slice (some ⟨g, 0, none⟩) n cap) n xs) {j : Nat} (hj : j < n * 4) : ∃ v, w.cell? ⟨g, j, none⟩ = some v := by
  have hl : xs.length = n * 4 := h.1
  exact ⟨xs[j], (h.cellAt j hj).trans (List.getElem?_eq_getElem (by omega))⟩

theorem own_four {w : World} {B e g n cap : Nat} {xs : List Value} (h : w.ownsRow B e 4 (.slice (some ⟨g, 0, none⟩) n cap) n xs) (j : Nat) (a b c d : Value) :
    ∃ xs', ((((w.setCell ⟨g, j, none⟩ a).setCell ⟨g, j + 1, none⟩ b).setCell ⟨g, j + 2, none⟩ c).setCell ⟨g, j + 3, none⟩ d).ownsRow B e 4 (.slice (some ⟨g, 0, none⟩) n cap) n xs' := by
  have h1 := (h.stored j a).1
  have h2 := (h1.stored (j + 1) b).1
  have h3 := (h2.stored (j + 2) c).1
  exact ⟨_, (h3.stored (j + 3) d).1⟩
theorem setG {B g o : Nat} {a w : World} {v : Value} (hg : B ≤ g) (h : Below B a w) : Below B a (w.setCell ⟨g, o, none⟩ v) := h.setCell (p := ⟨g, o, none⟩) hg v

set_option maxRecDepth 100000 in
set_option maxHeartbeats 2000000 in
theorem keysReads_some (s : List UInt8) (ps : List Pt) (w : World) (hs : s.length ≤ 3999999999) (hM : SomeMax w) (hd : decL s = some ps) :
    Calls Tryd.prog 4 #[.string ⟨s.toArray⟩] w fun e w' => e = .returned (.bool true) ∧ Below w.heap.size w w' := by
  have Q := qdecode_any s w hs
  have D := fun w1 (hM1 : SomeMax w1) => decode_any s w1 hs hM1
  rw [hd] at Q D
  simp only [toldL] at Q D
  clear hd
  go_enter Tryd.func4, Tryd.ntmps4
  go_wp2_with (go_at_call 13; refine Q.mono ?_; rintro e w1 ⟨⟨vm, rfl, hPm, h16⟩, hb1⟩)
  have hM1 := maxB hM hb1
  have hpm := parts_of_own hPm
  have SM := fun v1 w3 (hp1 : PartsAt w3 v1 ps) (hp2 : PartsAt w3 vm ps) => same_yes v1 vm ps w3 hp1 hp2 (by omega)
  clear hPm Q
  go_loopw [5] (fun t wr => ∃ k : Nat, k ≤ 2 ∧ t = .int .i64 k ∧ SomeMax wr ∧ PartsAt wr vm ps ∧ Below w.heap.size w wr) (fun t _ => 2 - (intOf t).toNat)
  case atStart => exact ⟨0, by decide, rfl, hM1, hpm, hb1⟩
  case round =>
    obtain ⟨k, hk, rfl, hMr, hpr, hbr⟩ := hrel
    have hz := hbr.size
    by_cases h2 : k < 2
    · have h2' : (k : Int) < 2 := by omega
      go_wp2_with (first
        | (go_at_call 14; refine (D _ hMr).mono ?_; rintro e w2 ⟨⟨vl, rfl, hPl, _⟩, hb2⟩; have hM2 := maxB hMr hb2; have hp2 := hpr.below hb2)
        | (go_at_call 15; refine (SM _ _ (parts_of_own hPl) hp2).mono ?_; rintro e w3 ⟨rfl, n, rfl⟩))
      have hb2' : Below wr.heap.size wr (w2.drewN n) := below_drewN hb2 n
      have hPl' : Parts (w2.drewN n) wr.heap.size vl ps := owns_below hPl (below_drewN (Below.refl _ _) n)
      generalize w2.drewN n = w3 at *
      clear hPl hM2 hp2 SM D
      rcases hPl'.2 with ⟨rfl, hnil⟩ | ⟨g, cap, cur, rfl, hg, hh, hr'⟩
      · go_loopw [8] (fun i wi => i = .int .i64 0 ∧ wi = w3) (fun _ _ => 0)
        case atStart => exact ⟨rfl, rfl⟩
        case round =>
          obtain ⟨rfl, rfl⟩ := hrel
          go_wp2
          go_roundw
          case rel => exact ⟨k + 1, by omega, by go_num, maxB hMr hb2', hpr.below hb2', hbr.trans (hb2'.mono hz)⟩
          case measure => simp [intOf]; omega
      · have hown0 := own_hid hPl'
        clear hPl' hh hr'
        go_loopw [8] (fun i wi => ∃ (j : Nat) (xs : List Value), j ≤ ps.length ∧ i = .int .i64 j ∧ wi.ownsRow wr.heap.size 34 4 (.slice (some ⟨g, 0, none⟩) ps.length cap) ps.length xs ∧ Below wr.heap.size wr wi) (fun i _ => ps.length - (intOf i).toNat)
        case atStart => exact ⟨0, _, Nat.zero_le _, rfl, hown0.out, hb2'⟩
        case round =>
          obtain ⟨j, xs, hj, rfl, hor, hbi⟩ := hrel
          by_cases hlt : j < ps.length
          · obtain ⟨v0, c0⟩ := own_at hor (j := j * 4) (by omega)
            obtain ⟨v1, c1⟩ := own_at hor (j := j * 4 + 1) (by omega)
            obtain ⟨v2, c2⟩ := own_at hor (j := j * 4 + 2) (by omega)
            obtain ⟨v3, c3⟩ := own_at hor (j := j * 4 + 3) (by omega)
            have f0 := hor.frozenAt (j * 4)
            have f1 := hor.frozenAt (j * 4 + 1)
            have f2 := hor.frozenAt (j * 4 + 2)
            have f3 := hor.frozenAt (j * 4 + 3)
            obtain ⟨xs', hor4⟩ := own_four hor (j * 4) (.int .i64 0) (.int .i64 0) (.int .u64 0) (.string ⟨#[115, 112, 111, 105, 108, 116]⟩)
            have HO := own_hid hor4
            clear hor hor4 hown0
            go_wp2
            go_roundw
            case rel => exact ⟨j + 1, xs', by omega, by go_num, HO.out, setG hg (setG hg (setG hg (setG hg hbi)))⟩
            case measure => simp [intOf]; omega
          · clear hor hown0
            go_wp2
            go_roundw
            case rel => exact ⟨k + 1, by omega, by go_num, maxB hMr hbi, hpr.below hbi, hbr.trans (hbi.mono hz)⟩
            case measure => simp [intOf]; omega
    · obtain rfl : k = 2 := by omega
      go_wp2_with (go_at_call 11; refine (fixed_any _ hMr).mono ?_; rintro e w3 ⟨rfl, hb3⟩)
      go_ret
      exact ⟨rfl, hbr.trans (hb3.mono hz)⟩
theorem parts_nil (w : World) : PartsAt w (.slice none 0 0) [] := ⟨_, _, rfl, Nat.le_refl _, fun h => absurd rfl h⟩

set_option maxRecDepth 100000 in
set_option maxHeartbeats 2000000 in
theorem keysReads_none (s : List UInt8) (w : World) (hs : s.length ≤ 3999999999) (hM : SomeMax w) (hd : decL s = none) :
    Calls Tryd.prog 4 #[.string ⟨s.toArray⟩] w fun e w' => e = .returned (.bool true) ∧ Below w.heap.size w w' := by
  have Q := qdecode_any s w hs
  have D := fun w1 (hM1 : SomeMax w1) => decode_any s w1 hs hM1
  rw [hd] at Q D
  simp only [toldL] at Q D
  have SM := fun w3 => same_yes (.slice none 0 0) (.slice none 0 0) [] w3 (parts_nil w3) (parts_nil w3) (by simp)
  clear hd
  go_enter Tryd.func4, Tryd.ntmps4
  go_wp2_with (go_at_call 13; refine Q.mono ?_; rintro e w1 ⟨rfl, hb1⟩)
  have hM1 := maxB hM hb1
  clear Q
  go_loopw [5] (fun t wr => ∃ k : Nat, k ≤ 2 ∧ t = .int .i64 k ∧ SomeMax wr ∧ Below w.heap.size w wr) (fun t _ => 2 - (intOf t).toNat)
  case atStart => exact ⟨0, by decide, rfl, hM1, hb1⟩
  case round =>
    obtain ⟨k, hk, rfl, hMr, hbr⟩ := hrel
    have hz := hbr.size
    by_cases h2 : k < 2
    · have h2' : (k : Int) < 2 := by omega
      go_wp2_with (first
        | (go_at_call 14; refine (D _ hMr).mono ?_; rintro e w2 ⟨rfl, hb2⟩; have hM2 := maxB hMr hb2)
        | (go_at_call 15; refine (SM _).mono ?_; rintro e w3 ⟨rfl, n, rfl⟩))
      have hb2' : Below wr.heap.size wr (w2.drewN n) := below_drewN hb2 n
      generalize w2.drewN n = w3 at *
      clear hM2 SM D
      go_loopw [8] (fun i wi => i = .int .i64 0 ∧ wi = w3) (fun _ _ => 0)
      case atStart => exact ⟨rfl, rfl⟩
      case round =>
        obtain ⟨rfl, rfl⟩ := hrel
        go_wp2
        go_roundw
        case rel => exact ⟨k + 1, by omega, by go_num, maxB hMr hb2', hbr.trans (hb2'.mono hz)⟩
        case measure => simp [intOf]; omega
    · obtain rfl : k = 2 := by omega
      go_wp2_with (go_at_call 11; refine (fixed_any _ hMr).mono ?_; rintro e w3 ⟨rfl, hb3⟩)
      go_ret
      exact ⟨rfl, hbr.trans (hb3.mono hz)⟩
theorem keysReads_walk (s : List UInt8) (w : World) (hs : s.length ≤ 3999999999) (hM : SomeMax w) :
    Calls Tryd.prog 4 #[.string ⟨s.toArray⟩] w fun e w' => e = .returned (.bool true) ∧ Below w.heap.size w w' := by
  cases hd : decL s with
  | none => exact keysReads_none s w hs hM hd
  | some ps => exact keysReads_some s ps w hs hM hd
end Go.Proofs.YtghneolphdfdlaaDoor
