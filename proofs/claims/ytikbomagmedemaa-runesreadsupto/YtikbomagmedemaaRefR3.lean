/- The document's own Rune, where the first byte lies in the 3. of four ranges. -/
import Derived.Test.YtikbomagmedemaaRefRune
namespace Go.Proofs.Ytikbomagmedemaa
open Go.RowKit Go.Lib

set_option maxRecDepth 100000 in
set_option maxHeartbeats 8000000 in
theorem rrune_r3 (s : ByteArray) (p : Nat) (w : World) (hs : s.size ≤ 1125899906842624) (hp : p < s.size) (hg : 224 ≤ gB s p ∧ gB s p < 240) :
    Calls Try.prog 10 #[.string s, .int .i64 p] w fun e w' => e = .returned (.tuple #[.int .i64 (refRune s p).1, .int .i64 (refRune s p).2]) ∧ Below w.heap.size w w' := by
  have hb0 := byte_lt (s[p]'hp)
  have hp1 : ¬ s.size ≤ p := by omega
  have hp2 : ¬ (p : Int) < 0 := by omega
  go_enter Try.func10, Try.ntmps10
  go_wp2
  go_loopw [7] (fun i wr => ∃ j : Nat, 1 ≤ j ∧ j ≤ 4 ∧ p + j ≤ s.size ∧ i = .int .i64 j ∧ wr = w.alloc (.cells (four s p j) 3)) (fun i _ => 4 - (intOf i).toNat)
  case atStart =>
    refine ⟨1, by omega, by omega, by omega, rfl, ?_⟩
    unfold four
    rw [gB_in s p hp]
    rfl
  case round =>
    obtain ⟨j, h1, h2, h3, rfl, rfl⟩ := hrel
    by_cases hj : j < 4 ∧ p + j < s.size
    · obtain ⟨hj1, hj2⟩ := hj
      have hbj := byte_lt (s[p + j]'hj2)
      rcases (by omega : j = 1 ∨ j = 2 ∨ j = 3) with rfl | rfl | rfl
      · have e1 : four s p 1 = #[.int .i64 (gB s p), .int .i64 (-1), .int .i64 (-1), .int .i64 (-1)] := rfl
        rw [e1]
        clear e1
        go_wp2
        go_roundw
        case rel =>
          refine ⟨2, by omega, by omega, by omega, rfl, ?_⟩
          have e2 : four s p 2 = #[.int .i64 (gB s p), .int .i64 (gB s (p + 1)), .int .i64 (-1), .int .i64 (-1)] := rfl
          rw [e2, gB_in s (p + 1) hj2]
        case measure => simp [intOf]
      · have e1 : four s p 2 = #[.int .i64 (gB s p), .int .i64 (gB s (p + 1)), .int .i64 (-1), .int .i64 (-1)] := rfl
        rw [e1]
        clear e1
        go_wp2
        go_roundw
        case rel =>
          refine ⟨3, by omega, by omega, by omega, rfl, ?_⟩
          have e2 : four s p 3 = #[.int .i64 (gB s p), .int .i64 (gB s (p + 1)), .int .i64 (gB s (p + 2)), .int .i64 (-1)] := rfl
          rw [e2, gB_in s (p + 2) hj2]
        case measure => simp [intOf]
      · have e1 : four s p 3 = #[.int .i64 (gB s p), .int .i64 (gB s (p + 1)), .int .i64 (gB s (p + 2)), .int .i64 (-1)] := rfl
        rw [e1]
        clear e1
        go_wp2
        go_roundw
        case rel =>
          refine ⟨4, by omega, by omega, by omega, rfl, ?_⟩
          have e2 : four s p 4 = #[.int .i64 (gB s p), .int .i64 (gB s (p + 1)), .int .i64 (gB s (p + 2)), .int .i64 (gB s (p + 3))] := rfl
          rw [e2, gB_in s (p + 3) hj2]
        case measure => simp [intOf]
    · rw [four_end s p j h1 h2 hj]
      have d0 := gB_bd s p
      have d1 := gB_bd s (p + 1)
      have d2 := gB_bd s (p + 2)
      have d3 := gB_bd s (p + 3)
      have hj' : j < 4 → ¬ ((p : Int) + j < s.size) := fun h => by omega
      obtain ⟨g0, e0⟩ : ∃ g, gB s p = g := ⟨_, rfl⟩
      obtain ⟨g1, e1⟩ : ∃ g, gB s (p + 1) = g := ⟨_, rfl⟩
      obtain ⟨g2, e2⟩ : ∃ g, gB s (p + 2) = g := ⟨_, rfl⟩
      obtain ⟨g3, e3⟩ : ∃ g, gB s (p + 3) = g := ⟨_, rfl⟩
      have hC0 : refC s p = refN g0 g1 g2 g3 := by unfold refC; rw [e0, e1, e2, e3]
      rw [e0] at d0 hg
      rw [e1] at d1
      rw [e2] at d2
      rw [e3] at d3
      rw [e0, e1, e2, e3]
      clear e0 e1 e2 e3
      obtain ⟨n, hn⟩ : ∃ n, (g0 - 224) * 4096 + (g1 - 128) * 64 + g2 - 128 = n := ⟨_, rfl⟩
      have hC : refC s p = n := by rw [hC0, ← hn]; unfold refN; rw [if_neg (by omega), if_neg (by omega), if_pos (by omega)]
      clear hC0
      obtain ⟨hg1, hg2⟩ := hg
      obtain ⟨d01, d02⟩ := d0
      obtain ⟨d11, d12⟩ := d1
      obtain ⟨d21, d22⟩ := d2
      obtain ⟨d31, d32⟩ := d3
      by_cases hc : charB n = true
      · have hz := enc_small n hc
        by_cases hl : p + (Utf8.encode n).size ≤ s.size
        · by_cases he : s.extract p (p + (Utf8.encode n).size) = Utf8.encode n
          · have hR := refRune_yes hC hc hl he
            by_cases h4 : j < 4
            · have h5 : ¬ (p : Int) + j < s.size := by omega
              go_wp2
              go_quiet (fail)
              go_wp2_with (first | (go_at_call 25; refine (ris_any _ _).mono ?_; rintro e w' ⟨rfl, rfl⟩) | (go_at_call 26; refine (rbytes_any _ _ hc).mono ?_; rintro e w1 ⟨rfl, hb⟩))
              all_goals (go_ret2; exact ⟨by rw [hR] <;> rfl, by first | exact ((Below.refl _ w).alloc (Nat.le_refl _) _).trans (hb.mono (by simp)) | exact (below_drewN1 ((Below.refl _ w).alloc (Nat.le_refl _) _) _).trans (hb.mono (by simp))⟩)
            · go_wp2
              go_quiet (fail)
              go_wp2_with (first | (go_at_call 25; refine (ris_any _ _).mono ?_; rintro e w' ⟨rfl, rfl⟩) | (go_at_call 26; refine (rbytes_any _ _ hc).mono ?_; rintro e w1 ⟨rfl, hb⟩))
              all_goals (go_ret2; exact ⟨by rw [hR] <;> rfl, by first | exact ((Below.refl _ w).alloc (Nat.le_refl _) _).trans (hb.mono (by simp)) | exact (below_drewN1 ((Below.refl _ w).alloc (Nat.le_refl _) _) _).trans (hb.mono (by simp))⟩)
          · have hR := refRune_other hC hc (fun h => he h.2)
            have he' : ((s.extract p (p + (Utf8.encode n).size)).toList == (Utf8.encode n).toList) = false := by rw [beq_eq_false_iff_ne]; exact fun h => he (toList_inj.1 h)
            by_cases h4 : j < 4
            · have h5 : ¬ (p : Int) + j < s.size := by omega
              go_wp2
              go_quiet (fail)
              go_wp2_with (first | (go_at_call 25; refine (ris_any _ _).mono ?_; rintro e w' ⟨rfl, rfl⟩) | (go_at_call 26; refine (rbytes_any _ _ hc).mono ?_; rintro e w1 ⟨rfl, hb⟩))
              all_goals (go_ret2; exact ⟨by rw [hR] <;> rfl, by first | exact ((Below.refl _ w).alloc (Nat.le_refl _) _).trans (hb.mono (by simp)) | exact (below_drewN1 ((Below.refl _ w).alloc (Nat.le_refl _) _) _).trans (hb.mono (by simp))⟩)
            · go_wp2
              go_quiet (fail)
              go_wp2_with (first | (go_at_call 25; refine (ris_any _ _).mono ?_; rintro e w' ⟨rfl, rfl⟩) | (go_at_call 26; refine (rbytes_any _ _ hc).mono ?_; rintro e w1 ⟨rfl, hb⟩))
              all_goals (go_ret2; exact ⟨by rw [hR] <;> rfl, by first | exact ((Below.refl _ w).alloc (Nat.le_refl _) _).trans (hb.mono (by simp)) | exact (below_drewN1 ((Below.refl _ w).alloc (Nat.le_refl _) _) _).trans (hb.mono (by simp))⟩)
        · have hR := refRune_other hC hc (fun h => hl h.1)
          have hl' : (s.size : Int) - p < (Utf8.encode n).size := by omega
          by_cases h4 : j < 4
          · have h5 : ¬ (p : Int) + j < s.size := by omega
            go_wp2
            go_quiet (fail)
            go_wp2_with (first | (go_at_call 25; refine (ris_any _ _).mono ?_; rintro e w' ⟨rfl, rfl⟩) | (go_at_call 26; refine (rbytes_any _ _ hc).mono ?_; rintro e w1 ⟨rfl, hb⟩))
            all_goals (go_ret2; exact ⟨by rw [hR] <;> rfl, by first | exact ((Below.refl _ w).alloc (Nat.le_refl _) _).trans (hb.mono (by simp)) | exact (below_drewN1 ((Below.refl _ w).alloc (Nat.le_refl _) _) _).trans (hb.mono (by simp))⟩)
          · exfalso
            omega
      · have hc' : charB n = false := by simpa using hc
        have hR := refRune_no hC hc'
        clear hc
        by_cases h4 : j < 4
        · have h5 : ¬ (p : Int) + j < s.size := by omega
          go_wp2
          go_quiet (fail)
          go_wp2_with (go_at_call 25; refine (ris_any _ _).mono ?_; rintro e w' ⟨rfl, rfl⟩)
          all_goals (go_ret2; exact ⟨by rw [hR] <;> rfl, by first | exact (Below.refl _ w).alloc (Nat.le_refl _) _ | exact below_drewN1 ((Below.refl _ w).alloc (Nat.le_refl _) _) _⟩)
        · go_wp2
          go_quiet (fail)
          go_wp2_with (go_at_call 25; refine (ris_any _ _).mono ?_; rintro e w' ⟨rfl, rfl⟩)
          all_goals (go_ret2; exact ⟨by rw [hR] <;> rfl, by first | exact (Below.refl _ w).alloc (Nat.le_refl _) _ | exact below_drewN1 ((Below.refl _ w).alloc (Nat.le_refl _) _) _⟩)

end Go.Proofs.Ytikbomagmedemaa
