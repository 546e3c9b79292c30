/- A number in base sixteen. -/
import Derived.Test.YthficamlgngaaaaGreatDoorVrC1
import Derived.Test.YthficamlgngaaaaGreatDoorSyZ
import Derived.Laws.Bits64b
namespace Go.Proofs.YthficamlgngaaaaGreatDoor
open Go.RowKit Go.Lib

set_option maxRecDepth 100000 in
set_option maxHeartbeats 8000000 in
theorem rrune_r2 (s : ByteArray) (p : Nat) (w : World) (hs : s.size ≤ 1125899906842624) (hp : p < s.size) (hg : 128 ≤ gB s p ∧ gB s p < 224) :
    Calls Tryz.prog 99 #[.string s, .int .i64 p] w fun e w' => e = .returned (.tuple #[.int .i64 (refRune s p).1, .int .i64 (refRune s p).2]) ∧ Below w.heap.size w w' := by
  have hb0 := byte_lt (s[p]'hp)
  have hp1 : ¬ s.size ≤ p := by omega
  have hp2 : ¬ (p : Int) < 0 := by omega
  go_enter Tryz.func99, Tryz.ntmps99
  go_wp2
  go_loopw [7] (fun i wr => ∃ j : Nat, 1 ≤ j ∧ j ≤ 4 ∧ p + j ≤ s.size ∧ i = .int .i64 j ∧ wr = w.alloc (.cells (four s p j) 3)) (fun i _ => 4 - (RowKit.intOf i).toNat)
  case atStart =>
    refine ⟨1, by omega, by omega, by omega, rfl, ?_⟩
    unfold four
    rw [gB_in s p hp]
    rfl
  case round =>
    obtain ⟨j, h1, h2, h3, rfl, rfl⟩ := hrel
    by_cases hj : j < 4 ∧ p + j < s.size
    · obtain ⟨hj1, hj2⟩ := hj
      have hbj := byte_lt (s[p + j]'hj2)
      rcases (by omega : j = 1 ∨ j = 2 ∨ j = 3) with rfl | rfl | rfl
      · have e1 : four s p 1 = #[.int .i64 (gB s p), .int .i64 (-1), .int .i64 (-1), .int .i64 (-1)] := rfl
        rw [e1]
        clear e1
        go_wp2
        go_roundw
        case rel =>
          refine ⟨2, by omega, by omega, by omega, rfl, ?_⟩
          have e2 : four s p 2 = #[.int .i64 (gB s p), .int .i64 (gB s (p + 1)), .int .i64 (-1), .int .i64 (-1)] := rfl
          rw [e2, gB_in s (p + 1) hj2]
        case measure => simp [RowKit.intOf]
      · have e1 : four s p 2 = #[.int .i64 (gB s p), .int .i64 (gB s (p + 1)), .int .i64 (-1), .int .i64 (-1)] := rfl
        rw [e1]
        clear e1
        go_wp2
        go_roundw
        case rel =>
          refine ⟨3, by omega, by omega, by omega, rfl, ?_⟩
          have e2 : four s p 3 = #[.int .i64 (gB s p), .int .i64 (gB s (p + 1)), .int .i64 (gB s (p + 2)), .int .i64 (-1)] := rfl
          rw [e2, gB_in s (p + 2) hj2]
        case measure => simp [RowKit.intOf]
      · have e1 : four s p 3 = #[.int .i64 (gB s p), .int .i64 (gB s (p + 1)), .int .i64 (gB s (p + 2)), .int .i64 (-1)] := rfl
        rw [e1]
        clear e1
        go_wp2
        go_roundw
        case rel =>
          refine ⟨4, by omega, by omega, by omega, rfl, ?_⟩
          have e2 : four s p 4 = #[.int .i64 (gB s p), .int .i64 (gB s (p + 1)), .int .i64 (gB s (p + 2)), .int .i64 (gB s (p + 3))] := rfl
          rw [e2, gB_in s (p + 3) hj2]
        case measure => simp [RowKit.intOf]
    · rw [four_end s p j h1 h2 hj]
      have d0 := gB_bd s p
      have d1 := gB_bd s (p + 1)
      have d2 := gB_bd s (p + 2)
      have d3 := gB_bd s (p + 3)
      have hj' : j < 4 → ¬ ((p : Int) + j < s.size) := fun h => by omega
      obtain ⟨g0, e0⟩ : ∃ g, gB s p = g := ⟨_, rfl⟩
      obtain ⟨g1, e1⟩ : ∃ g, gB s (p + 1) = g := ⟨_, rfl⟩
      obtain ⟨g2, e2⟩ : ∃ g, gB s (p + 2) = g := ⟨_, rfl⟩
      obtain ⟨g3, e3⟩ : ∃ g, gB s (p + 3) = g := ⟨_, rfl⟩
      have hC0 : refC s p = refN g0 g1 g2 g3 := by unfold refC; rw [e0, e1, e2, e3]
      rw [e0] at d0 hg
      rw [e1] at d1
      rw [e2] at d2
      rw [e3] at d3
      rw [e0, e1, e2, e3]
      clear e0 e1 e2 e3
      obtain ⟨n, hn⟩ : ∃ n, (g0 - 192) * 64 + g1 - 128 = n := ⟨_, rfl⟩
      have hC : refC s p = n := by rw [hC0, ← hn]; unfold refN; rw [if_neg (by omega), if_pos (by omega)]
      clear hC0
      obtain ⟨hg1, hg2⟩ := hg
      obtain ⟨d01, d02⟩ := d0
      obtain ⟨d11, d12⟩ := d1
      obtain ⟨d21, d22⟩ := d2
      obtain ⟨d31, d32⟩ := d3
      by_cases hc : charB n = true
      · have hz := enc_small n hc
        by_cases hl : p + (Utf8.encode n).size ≤ s.size
        · by_cases he : s.extract p (p + (Utf8.encode n).size) = Utf8.encode n
          · have hR := refRune_yes hC hc hl he
            by_cases h4 : j < 4
            · have h5 : ¬ (p : Int) + j < s.size := by omega
              go_wp2
              go_quiet (fail)
              go_wp2_with (first | (go_at_call 121; refine (ris_any _ _).mono ?_; rintro e w' ⟨rfl, rfl⟩) | (go_at_call 122; refine (rbytes_all _ _ hc).mono ?_; rintro e w1 ⟨rfl, hb⟩))
              all_goals (go_ret2; exact ⟨by rw [hR] <;> rfl, by first | exact ((Below.refl _ w).alloc (Nat.le_refl _) _).trans (hb.mono (by simp)) | exact (below_drewN1 ((Below.refl _ w).alloc (Nat.le_refl _) _) _).trans (hb.mono (by simp))⟩)
            · go_wp2
              go_quiet (fail)
              go_wp2_with (first | (go_at_call 121; refine (ris_any _ _).mono ?_; rintro e w' ⟨rfl, rfl⟩) | (go_at_call 122; refine (rbytes_all _ _ hc).mono ?_; rintro e w1 ⟨rfl, hb⟩))
              all_goals (go_ret2; exact ⟨by rw [hR] <;> rfl, by first | exact ((Below.refl _ w).alloc (Nat.le_refl _) _).trans (hb.mono (by simp)) | exact (below_drewN1 ((Below.refl _ w).alloc (Nat.le_refl _) _) _).trans (hb.mono (by simp))⟩)
          · have hR := refRune_other hC hc (fun h => he h.2)
            have he' : ((s.extract p (p + (Utf8.encode n).size)).toList == (Utf8.encode n).toList) = false := by rw [beq_eq_false_iff_ne]; exact fun h => he (toList_inj.1 h)
            by_cases h4 : j < 4
            · have h5 : ¬ (p : Int) + j < s.size := by omega
              go_wp2
              go_quiet (fail)
              go_wp2_with (first | (go_at_call 121; refine (ris_any _ _).mono ?_; rintro e w' ⟨rfl, rfl⟩) | (go_at_call 122; refine (rbytes_all _ _ hc).mono ?_; rintro e w1 ⟨rfl, hb⟩))
              all_goals (go_ret2; exact ⟨by rw [hR] <;> rfl, by first | exact ((Below.refl _ w).alloc (Nat.le_refl _) _).trans (hb.mono (by simp)) | exact (below_drewN1 ((Below.refl _ w).alloc (Nat.le_refl _) _) _).trans (hb.mono (by simp))⟩)
            · go_wp2
              go_quiet (fail)
              go_wp2_with (first | (go_at_call 121; refine (ris_any _ _).mono ?_; rintro e w' ⟨rfl, rfl⟩) | (go_at_call 122; refine (rbytes_all _ _ hc).mono ?_; rintro e w1 ⟨rfl, hb⟩))
              all_goals (go_ret2; exact ⟨by rw [hR] <;> rfl, by first | exact ((Below.refl _ w).alloc (Nat.le_refl _) _).trans (hb.mono (by simp)) | exact (below_drewN1 ((Below.refl _ w).alloc (Nat.le_refl _) _) _).trans (hb.mono (by simp))⟩)
        · have hR := refRune_other hC hc (fun h => hl h.1)
          have hl' : (s.size : Int) - p < (Utf8.encode n).size := by omega
          by_cases h4 : j < 4
          · have h5 : ¬ (p : Int) + j < s.size := by omega
            go_wp2
            go_quiet (fail)
            go_wp2_with (first | (go_at_call 121; refine (ris_any _ _).mono ?_; rintro e w' ⟨rfl, rfl⟩) | (go_at_call 122; refine (rbytes_all _ _ hc).mono ?_; rintro e w1 ⟨rfl, hb⟩))
            all_goals (go_ret2; exact ⟨by rw [hR] <;> rfl, by first | exact ((Below.refl _ w).alloc (Nat.le_refl _) _).trans (hb.mono (by simp)) | exact (below_drewN1 ((Below.refl _ w).alloc (Nat.le_refl _) _) _).trans (hb.mono (by simp))⟩)
          · exfalso
            omega
      · have hc' : charB n = false := by simpa using hc
        have hR := refRune_no hC hc'
        clear hc
        by_cases h4 : j < 4
        · have h5 : ¬ (p : Int) + j < s.size := by omega
          go_wp2
          go_quiet (fail)
          go_wp2_with (go_at_call 121; refine (ris_any _ _).mono ?_; rintro e w' ⟨rfl, rfl⟩)
          all_goals (go_ret2; exact ⟨by rw [hR] <;> rfl, by first | exact (Below.refl _ w).alloc (Nat.le_refl _) _ | exact below_drewN1 ((Below.refl _ w).alloc (Nat.le_refl _) _) _⟩)
        · go_wp2
          go_quiet (fail)
          go_wp2_with (go_at_call 121; refine (ris_any _ _).mono ?_; rintro e w' ⟨rfl, rfl⟩)
          all_goals (go_ret2; exact ⟨by rw [hR] <;> rfl, by first | exact (Below.refl _ w).alloc (Nat.le_refl _) _ | exact below_drewN1 ((Below.refl _ w).alloc (Nat.le_refl _) _) _⟩)

end Go.Proofs.YthficamlgngaaaaGreatDoor
namespace Go.Proofs.YthficamlgngaaaaGreatDoor
open Go.RowKit Go.Lib

set_option maxRecDepth 100000 in
set_option maxHeartbeats 8000000 in
theorem rrune_r3 (s : ByteArray) (p : Nat) (w : World) (hs : s.size ≤ 1125899906842624) (hp : p < s.size) (hg : 224 ≤ gB s p ∧ gB s p < 240) :
    Calls Tryz.prog 99 #[.string s, .int .i64 p] w fun e w' => e = .returned (.tuple #[.int .i64 (refRune s p).1, .int .i64 (refRune s p).2]) ∧ Below w.heap.size w w' := by
  have hb0 := byte_lt (s[p]'hp)
  have hp1 : ¬ s.size ≤ p := by omega
  have hp2 : ¬ (p : Int) < 0 := by omega
  go_enter Tryz.func99, Tryz.ntmps99
  go_wp2
  go_loopw [7] (fun i wr => ∃ j : Nat, 1 ≤ j ∧ j ≤ 4 ∧ p + j ≤ s.size ∧ i = .int .i64 j ∧ wr = w.alloc (.cells (four s p j) 3)) (fun i _ => 4 - (RowKit.intOf i).toNat)
  case atStart =>
    refine ⟨1, by omega, by omega, by omega, rfl, ?_⟩
    unfold four
    rw [gB_in s p hp]
    rfl
  case round =>
    obtain ⟨j, h1, h2, h3, rfl, rfl⟩ := hrel
    by_cases hj : j < 4 ∧ p + j < s.size
    · obtain ⟨hj1, hj2⟩ := hj
      have hbj := byte_lt (s[p + j]'hj2)
      rcases (by omega : j = 1 ∨ j = 2 ∨ j = 3) with rfl | rfl | rfl
      · have e1 : four s p 1 = #[.int .i64 (gB s p), .int .i64 (-1), .int .i64 (-1), .int .i64 (-1)] := rfl
        rw [e1]
        clear e1
        go_wp2
        go_roundw
        case rel =>
          refine ⟨2, by omega, by omega, by omega, rfl, ?_⟩
          have e2 : four s p 2 = #[.int .i64 (gB s p), .int .i64 (gB s (p + 1)), .int .i64 (-1), .int .i64 (-1)] := rfl
          rw [e2, gB_in s (p + 1) hj2]
        case measure => simp [RowKit.intOf]
      · have e1 : four s p 2 = #[.int .i64 (gB s p), .int .i64 (gB s (p + 1)), .int .i64 (-1), .int .i64 (-1)] := rfl
        rw [e1]
        clear e1
        go_wp2
        go_roundw
        case rel =>
          refine ⟨3, by omega, by omega, by omega, rfl, ?_⟩
          have e2 : four s p 3 = #[.int .i64 (gB s p), .int .i64 (gB s (p + 1)), .int .i64 (gB s (p + 2)), .int .i64 (-1)] := rfl
          rw [e2, gB_in s (p + 2) hj2]
        case measure => simp [RowKit.intOf]
      · have e1 : four s p 3 = #[.int .i64 (gB s p), .int .i64 (gB s (p + 1)), .int .i64 (gB s (p + 2)), .int .i64 (-1)] := rfl
        rw [e1]
        clear e1
        go_wp2
        go_roundw
        case rel =>
          refine ⟨4, by omega, by omega, by omega, rfl, ?_⟩
          have e2 : four s p 4 = #[.int .i64 (gB s p), .int .i64 (gB s (p + 1)), .int .i64 (gB s (p + 2)), .int .i64 (gB s (p + 3))] := rfl
          rw [e2, gB_in s (p + 3) hj2]
        case measure => simp [RowKit.intOf]
    · rw [four_end s p j h1 h2 hj]
      have d0 := gB_bd s p
      have d1 := gB_bd s (p + 1)
      have d2 := gB_bd s (p + 2)
      have d3 := gB_bd s (p + 3)
      have hj' : j < 4 → ¬ ((p : Int) + j < s.size) := fun h => by omega
      obtain ⟨g0, e0⟩ : ∃ g, gB s p = g := ⟨_, rfl⟩
      obtain ⟨g1, e1⟩ : ∃ g, gB s (p + 1) = g := ⟨_, rfl⟩
      obtain ⟨g2, e2⟩ : ∃ g, gB s (p + 2) = g := ⟨_, rfl⟩
      obtain ⟨g3, e3⟩ : ∃ g, gB s (p + 3) = g := ⟨_, rfl⟩
      have hC0 : refC s p = refN g0 g1 g2 g3 := by unfold refC; rw [e0, e1, e2, e3]
      rw [e0] at d0 hg
      rw [e1] at d1
      rw [e2] at d2
      rw [e3] at d3
      rw [e0, e1, e2, e3]
      clear e0 e1 e2 e3
      obtain ⟨n, hn⟩ : ∃ n, (g0 - 224) * 4096 + (g1 - 128) * 64 + g2 - 128 = n := ⟨_, rfl⟩
      have hC : refC s p = n := by rw [hC0, ← hn]; unfold refN; rw [if_neg (by omega), if_neg (by omega), if_pos (by omega)]
      clear hC0
      obtain ⟨hg1, hg2⟩ := hg
      obtain ⟨d01, d02⟩ := d0
      obtain ⟨d11, d12⟩ := d1
      obtain ⟨d21, d22⟩ := d2
      obtain ⟨d31, d32⟩ := d3
      by_cases hc : charB n = true
      · have hz := enc_small n hc
        by_cases hl : p + (Utf8.encode n).size ≤ s.size
        · by_cases he : s.extract p (p + (Utf8.encode n).size) = Utf8.encode n
          · have hR := refRune_yes hC hc hl he
            by_cases h4 : j < 4
            · have h5 : ¬ (p : Int) + j < s.size := by omega
              go_wp2
              go_quiet (fail)
              go_wp2_with (first | (go_at_call 121; refine (ris_any _ _).mono ?_; rintro e w' ⟨rfl, rfl⟩) | (go_at_call 122; refine (rbytes_all _ _ hc).mono ?_; rintro e w1 ⟨rfl, hb⟩))
              all_goals (go_ret2; exact ⟨by rw [hR] <;> rfl, by first | exact ((Below.refl _ w).alloc (Nat.le_refl _) _).trans (hb.mono (by simp)) | exact (below_drewN1 ((Below.refl _ w).alloc (Nat.le_refl _) _) _).trans (hb.mono (by simp))⟩)
            · go_wp2
              go_quiet (fail)
              go_wp2_with (first | (go_at_call 121; refine (ris_any _ _).mono ?_; rintro e w' ⟨rfl, rfl⟩) | (go_at_call 122; refine (rbytes_all _ _ hc).mono ?_; rintro e w1 ⟨rfl, hb⟩))
              all_goals (go_ret2; exact ⟨by rw [hR] <;> rfl, by first | exact ((Below.refl _ w).alloc (Nat.le_refl _) _).trans (hb.mono (by simp)) | exact (below_drewN1 ((Below.refl _ w).alloc (Nat.le_refl _) _) _).trans (hb.mono (by simp))⟩)
          · have hR := refRune_other hC hc (fun h => he h.2)
            have he' : ((s.extract p (p + (Utf8.encode n).size)).toList == (Utf8.encode n).toList) = false := by rw [beq_eq_false_iff_ne]; exact fun h => he (toList_inj.1 h)
            by_cases h4 : j < 4
            · have h5 : ¬ (p : Int) + j < s.size := by omega
              go_wp2
              go_quiet (fail)
              go_wp2_with (first | (go_at_call 121; refine (ris_any _ _).mono ?_; rintro e w' ⟨rfl, rfl⟩) | (go_at_call 122; refine (rbytes_all _ _ hc).mono ?_; rintro e w1 ⟨rfl, hb⟩))
              all_goals (go_ret2; exact ⟨by rw [hR] <;> rfl, by first | exact ((Below.refl _ w).alloc (Nat.le_refl _) _).trans (hb.mono (by simp)) | exact (below_drewN1 ((Below.refl _ w).alloc (Nat.le_refl _) _) _).trans (hb.mono (by simp))⟩)
            · go_wp2
              go_quiet (fail)
              go_wp2_with (first | (go_at_call 121; refine (ris_any _ _).mono ?_; rintro e w' ⟨rfl, rfl⟩) | (go_at_call 122; refine (rbytes_all _ _ hc).mono ?_; rintro e w1 ⟨rfl, hb⟩))
              all_goals (go_ret2; exact ⟨by rw [hR] <;> rfl, by first | exact ((Below.refl _ w).alloc (Nat.le_refl _) _).trans (hb.mono (by simp)) | exact (below_drewN1 ((Below.refl _ w).alloc (Nat.le_refl _) _) _).trans (hb.mono (by simp))⟩)
        · have hR := refRune_other hC hc (fun h => hl h.1)
          have hl' : (s.size : Int) - p < (Utf8.encode n).size := by omega
          by_cases h4 : j < 4
          · have h5 : ¬ (p : Int) + j < s.size := by omega
            go_wp2
            go_quiet (fail)
            go_wp2_with (first | (go_at_call 121; refine (ris_any _ _).mono ?_; rintro e w' ⟨rfl, rfl⟩) | (go_at_call 122; refine (rbytes_all _ _ hc).mono ?_; rintro e w1 ⟨rfl, hb⟩))
            all_goals (go_ret2; exact ⟨by rw [hR] <;> rfl, by first | exact ((Below.refl _ w).alloc (Nat.le_refl _) _).trans (hb.mono (by simp)) | exact (below_drewN1 ((Below.refl _ w).alloc (Nat.le_refl _) _) _).trans (hb.mono (by simp))⟩)
          · exfalso
            omega
      · have hc' : charB n = false := by simpa using hc
        have hR := refRune_no hC hc'
        clear hc
        by_cases h4 : j < 4
        · have h5 : ¬ (p : Int) + j < s.size := by omega
          go_wp2
          go_quiet (fail)
          go_wp2_with (go_at_call 121; refine (ris_any _ _).mono ?_; rintro e w' ⟨rfl, rfl⟩)
          all_goals (go_ret2; exact ⟨by rw [hR] <;> rfl, by first | exact (Below.refl _ w).alloc (Nat.le_refl _) _ | exact below_drewN1 ((Below.refl _ w).alloc (Nat.le_refl _) _) _⟩)
        · go_wp2
          go_quiet (fail)
          go_wp2_with (go_at_call 121; refine (ris_any _ _).mono ?_; rintro e w' ⟨rfl, rfl⟩)
          all_goals (go_ret2; exact ⟨by rw [hR] <;> rfl, by first | exact (Below.refl _ w).alloc (Nat.le_refl _) _ | exact below_drewN1 ((Below.refl _ w).alloc (Nat.le_refl _) _) _⟩)

end Go.Proofs.YthficamlgngaaaaGreatDoor
namespace Go.Proofs.YthficamlgngaaaaGreatDoor
open Go.RowKit Go.Lib

set_option maxRecDepth 100000 in
set_option maxHeartbeats 8000000 in
theorem rrune_r4 (s : ByteArray) (p : Nat) (w : World) (hs : s.size ≤ 1125899906842624) (hp : p < s.size) (hg : 240 ≤ gB s p) :
    Calls Tryz.prog 99 #[.string s, .int .i64 p] w fun e w' => e = .returned (.tuple #[.int .i64 (refRune s p).1, .int .i64 (refRune s p).2]) ∧ Below w.heap.size w w' := by
  have hb0 := byte_lt (s[p]'hp)
  have hp1 : ¬ s.size ≤ p := by omega
  have hp2 : ¬ (p : Int) < 0 := by omega
  go_enter Tryz.func99, Tryz.ntmps99
  go_wp2
  go_loopw [7] (fun i wr => ∃ j : Nat, 1 ≤ j ∧ j ≤ 4 ∧ p + j ≤ s.size ∧ i = .int .i64 j ∧ wr = w.alloc (.cells (four s p j) 3)) (fun i _ => 4 - (RowKit.intOf i).toNat)
  case atStart =>
    refine ⟨1, by omega, by omega, by omega, rfl, ?_⟩
    unfold four
    rw [gB_in s p hp]
    rfl
  case round =>
    obtain ⟨j, h1, h2, h3, rfl, rfl⟩ := hrel
    by_cases hj : j < 4 ∧ p + j < s.size
    · obtain ⟨hj1, hj2⟩ := hj
      have hbj := byte_lt (s[p + j]'hj2)
      rcases (by omega : j = 1 ∨ j = 2 ∨ j = 3) with rfl | rfl | rfl
      · have e1 : four s p 1 = #[.int .i64 (gB s p), .int .i64 (-1), .int .i64 (-1), .int .i64 (-1)] := rfl
        rw [e1]
        clear e1
        go_wp2
        go_roundw
        case rel =>
          refine ⟨2, by omega, by omega, by omega, rfl, ?_⟩
          have e2 : four s p 2 = #[.int .i64 (gB s p), .int .i64 (gB s (p + 1)), .int .i64 (-1), .int .i64 (-1)] := rfl
          rw [e2, gB_in s (p + 1) hj2]
        case measure => simp [RowKit.intOf]
      · have e1 : four s p 2 = #[.int .i64 (gB s p), .int .i64 (gB s (p + 1)), .int .i64 (-1), .int .i64 (-1)] := rfl
        rw [e1]
        clear e1
        go_wp2
        go_roundw
        case rel =>
          refine ⟨3, by omega, by omega, by omega, rfl, ?_⟩
          have e2 : four s p 3 = #[.int .i64 (gB s p), .int .i64 (gB s (p + 1)), .int .i64 (gB s (p + 2)), .int .i64 (-1)] := rfl
          rw [e2, gB_in s (p + 2) hj2]
        case measure => simp [RowKit.intOf]
      · have e1 : four s p 3 = #[.int .i64 (gB s p), .int .i64 (gB s (p + 1)), .int .i64 (gB s (p + 2)), .int .i64 (-1)] := rfl
        rw [e1]
        clear e1
        go_wp2
        go_roundw
        case rel =>
          refine ⟨4, by omega, by omega, by omega, rfl, ?_⟩
          have e2 : four s p 4 = #[.int .i64 (gB s p), .int .i64 (gB s (p + 1)), .int .i64 (gB s (p + 2)), .int .i64 (gB s (p + 3))] := rfl
          rw [e2, gB_in s (p + 3) hj2]
        case measure => simp [RowKit.intOf]
    · rw [four_end s p j h1 h2 hj]
      have d0 := gB_bd s p
      have d1 := gB_bd s (p + 1)
      have d2 := gB_bd s (p + 2)
      have d3 := gB_bd s (p + 3)
      have hj' : j < 4 → ¬ ((p : Int) + j < s.size) := fun h => by omega
      obtain ⟨g0, e0⟩ : ∃ g, gB s p = g := ⟨_, rfl⟩
      obtain ⟨g1, e1⟩ : ∃ g, gB s (p + 1) = g := ⟨_, rfl⟩
      obtain ⟨g2, e2⟩ : ∃ g, gB s (p + 2) = g := ⟨_, rfl⟩
      obtain ⟨g3, e3⟩ : ∃ g, gB s (p + 3) = g := ⟨_, rfl⟩
      have hC0 : refC s p = refN g0 g1 g2 g3 := by unfold refC; rw [e0, e1, e2, e3]
      rw [e0] at d0 hg
      rw [e1] at d1
      rw [e2] at d2
      rw [e3] at d3
      rw [e0, e1, e2, e3]
      clear e0 e1 e2 e3
      obtain ⟨n, hn⟩ : ∃ n, (g0 - 240) * 262144 + (g1 - 128) * 4096 + (g2 - 128) * 64 + g3 - 128 = n := ⟨_, rfl⟩
      have hC : refC s p = n := by rw [hC0, ← hn]; unfold refN; rw [if_neg (by omega), if_neg (by omega), if_neg (by omega)]
      clear hC0
      obtain ⟨d01, d02⟩ := d0
      obtain ⟨d11, d12⟩ := d1
      obtain ⟨d21, d22⟩ := d2
      obtain ⟨d31, d32⟩ := d3
      by_cases hc : charB n = true
      · have hz := enc_small n hc
        by_cases hl : p + (Utf8.encode n).size ≤ s.size
        · by_cases he : s.extract p (p + (Utf8.encode n).size) = Utf8.encode n
          · have hR := refRune_yes hC hc hl he
            by_cases h4 : j < 4
            · have h5 : ¬ (p : Int) + j < s.size := by omega
              go_wp2
              go_quiet (fail)
              go_wp2_with (first | (go_at_call 121; refine (ris_any _ _).mono ?_; rintro e w' ⟨rfl, rfl⟩) | (go_at_call 122; refine (rbytes_all _ _ hc).mono ?_; rintro e w1 ⟨rfl, hb⟩))
              all_goals (go_ret2; exact ⟨by rw [hR] <;> rfl, by first | exact ((Below.refl _ w).alloc (Nat.le_refl _) _).trans (hb.mono (by simp)) | exact (below_drewN1 ((Below.refl _ w).alloc (Nat.le_refl _) _) _).trans (hb.mono (by simp))⟩)
            · go_wp2
              go_quiet (fail)
              go_wp2_with (first | (go_at_call 121; refine (ris_any _ _).mono ?_; rintro e w' ⟨rfl, rfl⟩) | (go_at_call 122; refine (rbytes_all _ _ hc).mono ?_; rintro e w1 ⟨rfl, hb⟩))
              all_goals (go_ret2; exact ⟨by rw [hR] <;> rfl, by first | exact ((Below.refl _ w).alloc (Nat.le_refl _) _).trans (hb.mono (by simp)) | exact (below_drewN1 ((Below.refl _ w).alloc (Nat.le_refl _) _) _).trans (hb.mono (by simp))⟩)
          · have hR := refRune_other hC hc (fun h => he h.2)
            have he' : ((s.extract p (p + (Utf8.encode n).size)).toList == (Utf8.encode n).toList) = false := by rw [beq_eq_false_iff_ne]; exact fun h => he (toList_inj.1 h)
            by_cases h4 : j < 4
            · have h5 : ¬ (p : Int) + j < s.size := by omega
              go_wp2
              go_quiet (fail)
              go_wp2_with (first | (go_at_call 121; refine (ris_any _ _).mono ?_; rintro e w' ⟨rfl, rfl⟩) | (go_at_call 122; refine (rbytes_all _ _ hc).mono ?_; rintro e w1 ⟨rfl, hb⟩))
              all_goals (go_ret2; exact ⟨by rw [hR] <;> rfl, by first | exact ((Below.refl _ w).alloc (Nat.le_refl _) _).trans (hb.mono (by simp)) | exact (below_drewN1 ((Below.refl _ w).alloc (Nat.le_refl _) _) _).trans (hb.mono (by simp))⟩)
            · go_wp2
              go_quiet (fail)
              go_wp2_with (first | (go_at_call 121; refine (ris_any _ _).mono ?_; rintro e w' ⟨rfl, rfl⟩) | (go_at_call 122; refine (rbytes_all _ _ hc).mono ?_; rintro e w1 ⟨rfl, hb⟩))
              all_goals (go_ret2; exact ⟨by rw [hR] <;> rfl, by first | exact ((Below.refl _ w).alloc (Nat.le_refl _) _).trans (hb.mono (by simp)) | exact (below_drewN1 ((Below.refl _ w).alloc (Nat.le_refl _) _) _).trans (hb.mono (by simp))⟩)
        · have hR := refRune_other hC hc (fun h => hl h.1)
          have hl' : (s.size : Int) - p < (Utf8.encode n).size := by omega
          by_cases h4 : j < 4
          · have h5 : ¬ (p : Int) + j < s.size := by omega
            go_wp2
            go_quiet (fail)
            go_wp2_with (first | (go_at_call 121; refine (ris_any _ _).mono ?_; rintro e w' ⟨rfl, rfl⟩) | (go_at_call 122; refine (rbytes_all _ _ hc).mono ?_; rintro e w1 ⟨rfl, hb⟩))
            all_goals (go_ret2; exact ⟨by rw [hR] <;> rfl, by first | exact ((Below.refl _ w).alloc (Nat.le_refl _) _).trans (hb.mono (by simp)) | exact (below_drewN1 ((Below.refl _ w).alloc (Nat.le_refl _) _) _).trans (hb.mono (by simp))⟩)
          · exfalso
            omega
      · have hc' : charB n = false := by simpa using hc
        have hR := refRune_no hC hc'
        clear hc
        by_cases h4 : j < 4
        · have h5 : ¬ (p : Int) + j < s.size := by omega
          go_wp2
          go_quiet (fail)
          go_wp2_with (go_at_call 121; refine (ris_any _ _).mono ?_; rintro e w' ⟨rfl, rfl⟩)
          all_goals (go_ret2; exact ⟨by rw [hR] <;> rfl, by first | exact (Below.refl _ w).alloc (Nat.le_refl _) _ | exact below_drewN1 ((Below.refl _ w).alloc (Nat.le_refl _) _) _⟩)
        · go_wp2
          go_quiet (fail)
          go_wp2_with (go_at_call 121; refine (ris_any _ _).mono ?_; rintro e w' ⟨rfl, rfl⟩)
          all_goals (go_ret2; exact ⟨by rw [hR] <;> rfl, by first | exact (Below.refl _ w).alloc (Nat.le_refl _) _ | exact below_drewN1 ((Below.refl _ w).alloc (Nat.le_refl _) _) _⟩)

end Go.Proofs.YthficamlgngaaaaGreatDoor
namespace Go.Proofs.YthficamlgngaaaaGreatDoor
open Go.RowKit Go.Lib

theorem rrune_in (s : ByteArray) (p : Nat) (w : World) (hs : s.size ≤ 1125899906842624) (hp : p < s.size) :
    Calls Tryz.prog 99 #[.string s, .int .i64 p] w fun e w' => e = .returned (.tuple #[.int .i64 (runeS s p).1, .int .i64 (runeS s p).2]) ∧ Below w.heap.size w w' := by
  rw [← refRune_eq s p hp]
  by_cases h1 : gB s p < 128
  · exact rrune_r1 s p w hs hp h1
  · by_cases h2 : gB s p < 224
    · exact rrune_r2 s p w hs hp ⟨by omega, h2⟩
    · by_cases h3 : gB s p < 240
      · exact rrune_r3 s p w hs hp ⟨by omega, h3⟩
      · exact rrune_r4 s p w hs hp (by omega)

end Go.Proofs.YthficamlgngaaaaGreatDoor
namespace Go.Proofs.YthficamlgngaaaaGreatDoor
open Go Go.RowKit Go.Lib

abbrev gT : Nat := 7
/-- The table's place that is read. -/
def Tz (w : World) : Prop := w.cell? ⟨gT, 15, none⟩ = some (.int .u8 4)
theorem Tz.below {w w' : World} (h : Tz w) {B : Nat} (hb : Below B w w') (hB : w.heap.size ≤ B) : Tz w' := by
  have hl : gT < w.heap.size := World.block_lt_of_cell? w _ h
  unfold Tz World.cell? at h ⊢
  rw [hb.block gT (Nat.lt_of_lt_of_le hl hB)]
  exact h
theorem tz_e1 : IntKind.u64.wrap (-16) = 18446744073709551600 := by decide
theorem tz_e2 : bits .and .u64 16 18446744073709551600 = 16 := by decide +kernel
theorem tz_e3 : IntKind.u64.wrap 4573923408821661840 = 4573923408821661840 := by decide
set_option maxRecDepth 100000 in
set_option maxHeartbeats 1000000 in
theorem tz64_any (w : World) (h : Tz w) : Calls Tryz.prog 206 #[.int .u64 16] w fun e w' => e = .returned (.int .i64 4) ∧ w' = w := by
  have h' : w.cell? ⟨7, 15, none⟩ = some (.int .u8 4) := h
  have e1 := tz_e1
  have e2 := tz_e2
  have e3 := tz_e3
  go_enter Tryz.func206, Tryz.ntmps206
  go_wp2
  go_ret
  exact ⟨rfl, rfl⟩
theorem tz_any (w : World) (h : Tz w) : Calls Tryz.prog 204 #[.int .u64 16] w fun e w' => e = .returned (.int .i64 4) ∧ w' = w := by
  have T := tz64_any w h
  go_enter Tryz.func204, Tryz.ntmps204
  go_wp2_with (go_at_call 206; refine T.mono ?_; rintro e w1 ⟨rfl, rfl⟩)
  go_ret
  exact ⟨rfl, rfl⟩
theorem pow2_any (w : World) : Calls Tryz.prog 203 #[.int .i64 16] w fun e w' => e = .returned (.bool true) ∧ w' = w := by
  have e1 : bits .and .i64 16 15 = 0 := by decide
  go_enter Tryz.func203, Tryz.ntmps203
  go_wp2
  go_ret
  exact ⟨rfl, rfl⟩
/-- The digits of a number. -/
def hexS (n : Nat) : Bs := if n < 16 then [hexD n] else hexS (n / 16) ++ [hexD (n % 16)]
termination_by n
decreasing_by omega
theorem hexS_small {n : Nat} (h : n < 16) : hexS n = [hexD n] := by unfold hexS; rw [if_pos h]
theorem hexS_great {n : Nat} (h : ¬ n < 16) : hexS n = hexS (n / 16) ++ [hexD (n % 16)] := by conv => lhs; unfold hexS; rw [if_neg h]
theorem and15 (n : Nat) (h : n < 18446744073709551616) : bits .and .u64 (n : Int) 15 = ((n % 16 : Nat) : Int) := by
  have := bits_and_u64_nat n 15 h (by decide)
  rw [show ((15 : Nat) : Int) = 15 from rfl] at this
  rw [this, show (15 : Nat) = 2 ^ 4 - 1 from rfl, Nat.and_two_pow_sub_one_eq_mod]
/-- The digits' signs. -/
def digS : Array UInt8 := #[48, 49, 50, 51, 52, 53, 54, 55, 56, 57, 97, 98, 99, 100, 101, 102, 103, 104, 105, 106, 107, 108, 109, 110, 111, 112, 113, 114, 115, 116, 117, 118, 119, 120, 121, 122]
theorem digS_at : ∀ j : Fin 16, (ByteArray.mk digS)[j.val]'(by have := j.isLt; show j.val < 36; omega) = hexD j.val := by decide
/-- The array while the digits are laid from its end. -/
structure ArrS (W : World) (A : Nat) (d : Bs) : Prop where
  row : ∃ cur : Array Value, W.heap[A]? = some (.cells cur 211 (0, 0)) ∧ cur.size = 65 ∧ cur.toList.drop (65 - d.length) = Lib.byteCells d
  len : d.length ≤ 64
theorem ArrS.put {W : World} {A : Nat} {d : Bs} (h : ArrS W A d) (hd : d.length ≤ 63) (c : UInt8) : ArrS (W.setCell ⟨A, 65 - d.length - 1, none⟩ (.int .u8 (c.toNat : Int))) A (c :: d) := by
  obtain ⟨cur, h1, h2, h3⟩ := h.row
  refine ⟨⟨_, heap_setCell_same W A (65 - d.length - 1) _ _ _ h1, by simp [h2], ?_⟩, by simp; omega⟩
  have hl : cur.toList.length = 65 := by simp [h2]
  rw [Array.toList_setIfInBounds]
  have e : 65 - (c :: d).length = 65 - d.length - 1 := by simp; omega
  rw [e]
  have e2 : (cur.toList.set (65 - d.length - 1) (.int .u8 (c.toNat : Int))).drop (65 - d.length - 1) = .int .u8 (c.toNat : Int) :: cur.toList.drop (65 - d.length) := by
    rw [List.drop_eq_getElem_cons (by simp; omega), List.getElem_set_self]
    congr 1
    rw [List.drop_set_of_lt (by omega)]
    congr 1
    omega
  rw [e2, h3]
  rfl
theorem ArrS.cell {W : World} {A : Nat} {d : Bs} (h : ArrS W A d) (i : Nat) (hi : i < 65) : ∃ v, W.cell? ⟨A, i, none⟩ = some v := by
  obtain ⟨cur, h1, h2, h3⟩ := h.row
  refine ⟨cur[i]'(by omega), ?_⟩
  simp [World.cell?, h1, h2, hi]
theorem ArrS.free {W : World} {A : Nat} {d : Bs} (h : ArrS W A d) (i : Nat) : W.frozen? ⟨A, i, none⟩ = false := by
  obtain ⟨cur, h1, _⟩ := h.row
  exact frozen_of_row W A i _ _ h1
end Go.Proofs.YthficamlgngaaaaGreatDoor
