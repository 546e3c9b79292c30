/- Escapes in capital and in small digits: the law's own walk. -/
import Derived.Test.YtlndpghkcbnmcabGreatDoorLxSm
import Derived.Test.YtlndpghkcbnmcabGreatDoorLxE1
import Derived.Test.YtlndpghkcbnmcabGreatDoorLxE2
namespace Go.Proofs.YtlndpghkcbnmcabGreatDoor
open Go Go.RowKit

theorem cut_low (q : Nat) (hq : q < 16) : (ByteArray.mk #[48, 49, 50, 51, 52, 53, 54, 55, 56, 57, 97, 98, 99, 100, 101, 102]).extract q (q + 1) = ⟨#[hexD q]⟩ :=
  (by decide +kernel : ∀ q : Fin 16, (ByteArray.mk #[48, 49, 50, 51, 52, 53, 54, 55, 56, 57, 97, 98, 99, 100, 101, 102]).extract q.1 (q.1 + 1) = ⟨#[hexD q.1]⟩) ⟨q, hq⟩
theorem cut_cap (q : Nat) (hq : q < 16) : (ByteArray.mk #[48, 49, 50, 51, 52, 53, 54, 55, 56, 57, 65, 66, 67, 68, 69, 70]).extract q (q + 1) = ⟨#[hexU q]⟩ :=
  (by decide +kernel : ∀ q : Fin 16, (ByteArray.mk #[48, 49, 50, 51, 52, 53, 54, 55, 56, 57, 65, 66, 67, 68, 69, 70]).extract q.1 (q.1 + 1) = ⟨#[hexU q.1]⟩) ⟨q, hq⟩
/-- The two texts, so far. -/
def EscT (n K : Nat) (SA SB : ByteArray) : Prop := (K = 4096 ∧ SA = ⟨#[34, 120, 92, 117]⟩ ∧ SB = ⟨#[34, 120, 92, 117]⟩) ∨ (K = 256 ∧ SA = ⟨#[34, 120, 92, 117, hexD (n / 4096 % 16)]⟩ ∧ SB = ⟨#[34, 120, 92, 117, hexU (n / 4096 % 16)]⟩) ∨ (K = 16 ∧ SA = ⟨#[34, 120, 92, 117, hexD (n / 4096 % 16), hexD (n / 256 % 16)]⟩ ∧ SB = ⟨#[34, 120, 92, 117, hexU (n / 4096 % 16), hexU (n / 256 % 16)]⟩) ∨ (K = 1 ∧ SA = ⟨#[34, 120, 92, 117, hexD (n / 4096 % 16), hexD (n / 256 % 16), hexD (n / 16 % 16)]⟩ ∧ SB = ⟨#[34, 120, 92, 117, hexU (n / 4096 % 16), hexU (n / 256 % 16), hexU (n / 16 % 16)]⟩) ∨ (K = 0 ∧ SA = ⟨#[34, 120, 92, 117, hexD (n / 4096 % 16), hexD (n / 256 % 16), hexD (n / 16 % 16), hexD (n / 1 % 16)]⟩ ∧ SB = ⟨#[34, 120, 92, 117, hexU (n / 4096 % 16), hexU (n / 256 % 16), hexU (n / 16 % 16), hexU (n / 1 % 16)]⟩)

theorem esc_out (c : Int) (hc : c < 0 ∨ 65535 < c) (w : World) (gl : Gl w) (hz : Tz w) : Calls Tryz.prog 3 #[.int .i64 c] w fun e w' => e = .returned (.bool true) ∧ Below w.heap.size w w' := by
  have F := fixed_any w gl hz
  rcases hc with hc | hc
  · go_enter Tryz.func3, Tryz.ntmps3
    go_wp2_with (go_at_call 4; refine F.mono ?_; rintro e w1 ⟨rfl, hb⟩)
    go_ret
    exact ⟨rfl, hb⟩
  · have h0 : ¬ c < 0 := by omega
    go_enter Tryz.func3, Tryz.ntmps3
    go_wp2_with (go_at_call 4; refine F.mono ?_; rintro e w1 ⟨rfl, hb⟩)
    go_ret
    exact ⟨rfl, hb⟩
theorem unit_len (n : Nat) (hn : n < 65536) : (unitS n).length ≤ 4 := by
  by_cases hh : 55296 ≤ n ∧ n ≤ 57343
  · rw [show unitS n = halfS n from if_pos hh]
    unfold halfS
    simp
  · rw [unitS_else n hh, encode_list n (charB_small _ (by omega) (by omega) (by omega))]
    unfold encL
    split
    · simp
    · split
      · simp
      · first | simp | (split <;> simp)
theorem below_drewN (w : World) (m : Nat) : Below w.heap.size w (w.drewN m) := ⟨rfl, rfl, rfl, Nat.le_refl _, fun _ _ => rfl⟩
/-- The one token of either text: what of it is looked at. -/
theorem tok_of {W w : World} {e : Ending} {t : Tok} (h : TokensP W (.inr [t]) e w) : ∃ g cap, e = .returned (.tuple #[.slice (some ⟨g, 0, none⟩) 1 cap, .int .i64 0, .int .i64 0]) ∧ 1 ≤ cap ∧ Toks w W.heap.size (.slice (some ⟨g, 0, none⟩) 1 cap) [t] ∧ g < w.heap.size ∧ w.cell? ⟨g, 1, none⟩ = some (.string ⟨t.t.toArray⟩) ∧ Below W.heap.size W w := by
  obtain ⟨⟨v, rfl, ht⟩, hb⟩ := h
  obtain ⟨g, cap, rfl, hc, _, hlt, hcell⟩ := toks_row ht (by simp)
  exact ⟨g, cap, rfl, hc, ht, hlt, (hcell 0 t rfl).2.1, hb⟩

set_option maxRecDepth 100000 in
set_option maxHeartbeats 4000000 in
theorem esc_in (n : Nat) (hn : n < 65536) (w : World) (gl : Gl w) (hz : Tz w) : Calls Tryz.prog 3 #[.int .i64 (n : Int)] w fun e w' => e = .returned (.bool true) ∧ Below w.heap.size w w' := by
  have x0 : (0 : Int) ≤ (n : Int) := by omega
  have x1 : (n : Int) ≤ 65535 := by omega
  have x2 : ¬ (n : Int) < 0 := by omega
  have x3 : ¬ (65535 : Int) < (n : Int) := by omega
  go_enter Tryz.func3, Tryz.ntmps3
  go_wp2
  go_loopw [5, 6, 7] (fun a b k wr => ∃ (K : Nat) (SA SB : ByteArray) (m : Nat), a = .string SA ∧ b = .string SB ∧ k = .int .i64 (K : Int) ∧ wr = w.drewN m ∧ EscT n K SA SB) (fun _ _ k _ => (RowKit.intOf k).toNat)
  case atStart => exact ⟨4096, _, _, 0, rfl, rfl, rfl, rfl, Or.inl ⟨rfl, rfl, rfl⟩⟩
  case round =>
    obtain ⟨K, SA, SB, m, rfl, rfl, rfl, rfl, hst⟩ := hrel
    rcases hst with ⟨rfl, hA, hB⟩ | ⟨rfl, hA, hB⟩ | ⟨rfl, hA, hB⟩ | ⟨rfl, hA, hB⟩ | ⟨rfl, hA, hB⟩
    · have hlt : n / 4096 % 16 < 16 := Nat.mod_lt _ (by decide)
      have sA : SA.size = 4 := by rw [hA]; rfl
      have sB : SB.size = 4 := by rw [hB]; rfl
      have HA : Hid (SA ++ ⟨#[hexD (n / 4096 % 16)]⟩ = ⟨#[34, 120, 92, 117, hexD (n / 4096 % 16)]⟩) := by show _ = _; rw [hA]; rfl
      have HB : Hid (SB ++ ⟨#[hexU (n / 4096 % 16)]⟩ = ⟨#[34, 120, 92, 117, hexU (n / 4096 % 16)]⟩) := by show _ = _; rw [hB]; rfl
      have c1 := cut_low (n / 4096 % 16) hlt
      have c2 := cut_cap (n / 4096 % 16) hlt
      have s1 : (ByteArray.mk #[48, 49, 50, 51, 52, 53, 54, 55, 56, 57, 97, 98, 99, 100, 101, 102]).size = 16 := rfl
      have s2 : (ByteArray.mk #[48, 49, 50, 51, 52, 53, 54, 55, 56, 57, 65, 66, 67, 68, 69, 70]).size = 16 := rfl
      have q1 : ((n / 4096 % 16 : Nat) : Int) < 16 := by omega
      have q4 : ((n / 4096 % 16 : Nat) : Int) + 1 ≤ 16 := by omega
      have q2 : (0 : Int) ≤ ((n / 4096 % 16 : Nat) : Int) := by omega
      have q3 : (((n / 4096 % 16 : Nat) : Int) + 1).toNat = n / 4096 % 16 + 1 := by omega
      have q5 : ((n / 4096 % 16 : Nat) : Int) ≤ ((n / 4096 % 16 : Nat) : Int) + 1 := by omega
      have d1 : (n : Int) / 4096 = ((n / 4096 : Nat) : Int) := by omega
      have y0 : (0 : Int) ≤ ((n / 4096 : Nat) : Int) := by omega
      have y1 : ((n / 4096 : Nat) : Int) ≤ 65535 := by omega
      have d2 : ((n / 4096 : Nat) : Int) % 16 = ((n / 4096 % 16 : Nat) : Int) := by omega
      generalize hgq : n / 4096 % 16 = q at *
      have HG : Hid (n / 4096 % 16 = q) := hgq
      clear hgq
      generalize n / 4096 = Y at d1 y0 y1 d2
      generalize (ByteArray.mk #[48, 49, 50, 51, 52, 53, 54, 55, 56, 57, 97, 98, 99, 100, 101, 102]) = LO at *
      generalize (ByteArray.mk #[48, 49, 50, 51, 52, 53, 54, 55, 56, 57, 65, 66, 67, 68, 69, 70]) = CA at *
      clear hA hB hlt
      go_wp2
      go_quiet (fail)
      obtain ⟨M, hM⟩ : ∃ M, (w.drewN m).drewN nq = w.drewN M := ⟨m + nq, by simp⟩
      try rw [hM]
      try (obtain ⟨M, hM⟩ : ∃ M, w.drewN (m + nq) = w.drewN M := ⟨m + nq, rfl⟩; rw [hM])
      clear hM
      go_wp2
      go_quiet (fail)
      go_wp2
      refine ⟨⟨256, _, _, M + nq, rfl, rfl, rfl, ?_, Or.inr (Or.inl ⟨rfl, ?_, ?_⟩)⟩, ?_⟩
      · simp
      · rw [HG.out]; exact HA.out
      · rw [HG.out]; exact HB.out
      · simp [RowKit.intOf]
    · have hlt : n / 256 % 16 < 16 := Nat.mod_lt _ (by decide)
      have sA : SA.size = 5 := by rw [hA]; rfl
      have sB : SB.size = 5 := by rw [hB]; rfl
      have HA : Hid (SA ++ ⟨#[hexD (n / 256 % 16)]⟩ = ⟨#[34, 120, 92, 117, hexD (n / 4096 % 16), hexD (n / 256 % 16)]⟩) := by show _ = _; rw [hA]; rfl
      have HB : Hid (SB ++ ⟨#[hexU (n / 256 % 16)]⟩ = ⟨#[34, 120, 92, 117, hexU (n / 4096 % 16), hexU (n / 256 % 16)]⟩) := by show _ = _; rw [hB]; rfl
      have c1 := cut_low (n / 256 % 16) hlt
      have c2 := cut_cap (n / 256 % 16) hlt
      have s1 : (ByteArray.mk #[48, 49, 50, 51, 52, 53, 54, 55, 56, 57, 97, 98, 99, 100, 101, 102]).size = 16 := rfl
      have s2 : (ByteArray.mk #[48, 49, 50, 51, 52, 53, 54, 55, 56, 57, 65, 66, 67, 68, 69, 70]).size = 16 := rfl
      have q1 : ((n / 256 % 16 : Nat) : Int) < 16 := by omega
      have q4 : ((n / 256 % 16 : Nat) : Int) + 1 ≤ 16 := by omega
      have q2 : (0 : Int) ≤ ((n / 256 % 16 : Nat) : Int) := by omega
      have q3 : (((n / 256 % 16 : Nat) : Int) + 1).toNat = n / 256 % 16 + 1 := by omega
      have q5 : ((n / 256 % 16 : Nat) : Int) ≤ ((n / 256 % 16 : Nat) : Int) + 1 := by omega
      have d1 : (n : Int) / 256 = ((n / 256 : Nat) : Int) := by omega
      have y0 : (0 : Int) ≤ ((n / 256 : Nat) : Int) := by omega
      have y1 : ((n / 256 : Nat) : Int) ≤ 65535 := by omega
      have d2 : ((n / 256 : Nat) : Int) % 16 = ((n / 256 % 16 : Nat) : Int) := by omega
      generalize hgq : n / 256 % 16 = q at *
      have HG : Hid (n / 256 % 16 = q) := hgq
      clear hgq
      generalize n / 256 = Y at d1 y0 y1 d2
      generalize (ByteArray.mk #[48, 49, 50, 51, 52, 53, 54, 55, 56, 57, 97, 98, 99, 100, 101, 102]) = LO at *
      generalize (ByteArray.mk #[48, 49, 50, 51, 52, 53, 54, 55, 56, 57, 65, 66, 67, 68, 69, 70]) = CA at *
      clear hA hB hlt
      go_wp2
      go_quiet (fail)
      obtain ⟨M, hM⟩ : ∃ M, (w.drewN m).drewN nq = w.drewN M := ⟨m + nq, by simp⟩
      try rw [hM]
      try (obtain ⟨M, hM⟩ : ∃ M, w.drewN (m + nq) = w.drewN M := ⟨m + nq, rfl⟩; rw [hM])
      clear hM
      go_wp2
      go_quiet (fail)
      go_wp2
      refine ⟨⟨16, _, _, M + nq, rfl, rfl, rfl, ?_, Or.inr (Or.inr (Or.inl ⟨rfl, ?_, ?_⟩))⟩, ?_⟩
      · simp
      · rw [HG.out]; exact HA.out
      · rw [HG.out]; exact HB.out
      · simp [RowKit.intOf]
    · have hlt : n / 16 % 16 < 16 := Nat.mod_lt _ (by decide)
      have sA : SA.size = 6 := by rw [hA]; rfl
      have sB : SB.size = 6 := by rw [hB]; rfl
      have HA : Hid (SA ++ ⟨#[hexD (n / 16 % 16)]⟩ = ⟨#[34, 120, 92, 117, hexD (n / 4096 % 16), hexD (n / 256 % 16), hexD (n / 16 % 16)]⟩) := by show _ = _; rw [hA]; rfl
      have HB : Hid (SB ++ ⟨#[hexU (n / 16 % 16)]⟩ = ⟨#[34, 120, 92, 117, hexU (n / 4096 % 16), hexU (n / 256 % 16), hexU (n / 16 % 16)]⟩) := by show _ = _; rw [hB]; rfl
      have c1 := cut_low (n / 16 % 16) hlt
      have c2 := cut_cap (n / 16 % 16) hlt
      have s1 : (ByteArray.mk #[48, 49, 50, 51, 52, 53, 54, 55, 56, 57, 97, 98, 99, 100, 101, 102]).size = 16 := rfl
      have s2 : (ByteArray.mk #[48, 49, 50, 51, 52, 53, 54, 55, 56, 57, 65, 66, 67, 68, 69, 70]).size = 16 := rfl
      have q1 : ((n / 16 % 16 : Nat) : Int) < 16 := by omega
      have q4 : ((n / 16 % 16 : Nat) : Int) + 1 ≤ 16 := by omega
      have q2 : (0 : Int) ≤ ((n / 16 % 16 : Nat) : Int) := by omega
      have q3 : (((n / 16 % 16 : Nat) : Int) + 1).toNat = n / 16 % 16 + 1 := by omega
      have q5 : ((n / 16 % 16 : Nat) : Int) ≤ ((n / 16 % 16 : Nat) : Int) + 1 := by omega
      have d1 : (n : Int) / 16 = ((n / 16 : Nat) : Int) := by omega
      have y0 : (0 : Int) ≤ ((n / 16 : Nat) : Int) := by omega
      have y1 : ((n / 16 : Nat) : Int) ≤ 65535 := by omega
      have d2 : ((n / 16 : Nat) : Int) % 16 = ((n / 16 % 16 : Nat) : Int) := by omega
      generalize hgq : n / 16 % 16 = q at *
      have HG : Hid (n / 16 % 16 = q) := hgq
      clear hgq
      generalize n / 16 = Y at d1 y0 y1 d2
      generalize (ByteArray.mk #[48, 49, 50, 51, 52, 53, 54, 55, 56, 57, 97, 98, 99, 100, 101, 102]) = LO at *
      generalize (ByteArray.mk #[48, 49, 50, 51, 52, 53, 54, 55, 56, 57, 65, 66, 67, 68, 69, 70]) = CA at *
      clear hA hB hlt
      go_wp2
      go_quiet (fail)
      obtain ⟨M, hM⟩ : ∃ M, (w.drewN m).drewN nq = w.drewN M := ⟨m + nq, by simp⟩
      try rw [hM]
      try (obtain ⟨M, hM⟩ : ∃ M, w.drewN (m + nq) = w.drewN M := ⟨m + nq, rfl⟩; rw [hM])
      clear hM
      go_wp2
      go_quiet (fail)
      go_wp2
      refine ⟨⟨1, _, _, M + nq, rfl, rfl, rfl, ?_, Or.inr (Or.inr (Or.inr (Or.inl ⟨rfl, ?_, ?_⟩)))⟩, ?_⟩
      · simp
      · rw [HG.out]; exact HA.out
      · rw [HG.out]; exact HB.out
      · simp [RowKit.intOf]
    · have hlt : n / 1 % 16 < 16 := Nat.mod_lt _ (by decide)
      have sA : SA.size = 7 := by rw [hA]; rfl
      have sB : SB.size = 7 := by rw [hB]; rfl
      have HA : Hid (SA ++ ⟨#[hexD (n / 1 % 16)]⟩ = ⟨#[34, 120, 92, 117, hexD (n / 4096 % 16), hexD (n / 256 % 16), hexD (n / 16 % 16), hexD (n / 1 % 16)]⟩) := by show _ = _; rw [hA]; rfl
      have HB : Hid (SB ++ ⟨#[hexU (n / 1 % 16)]⟩ = ⟨#[34, 120, 92, 117, hexU (n / 4096 % 16), hexU (n / 256 % 16), hexU (n / 16 % 16), hexU (n / 1 % 16)]⟩) := by show _ = _; rw [hB]; rfl
      have c1 := cut_low (n / 1 % 16) hlt
      have c2 := cut_cap (n / 1 % 16) hlt
      have s1 : (ByteArray.mk #[48, 49, 50, 51, 52, 53, 54, 55, 56, 57, 97, 98, 99, 100, 101, 102]).size = 16 := rfl
      have s2 : (ByteArray.mk #[48, 49, 50, 51, 52, 53, 54, 55, 56, 57, 65, 66, 67, 68, 69, 70]).size = 16 := rfl
      have q1 : ((n / 1 % 16 : Nat) : Int) < 16 := by omega
      have q4 : ((n / 1 % 16 : Nat) : Int) + 1 ≤ 16 := by omega
      have q2 : (0 : Int) ≤ ((n / 1 % 16 : Nat) : Int) := by omega
      have q3 : (((n / 1 % 16 : Nat) : Int) + 1).toNat = n / 1 % 16 + 1 := by omega
      have q5 : ((n / 1 % 16 : Nat) : Int) ≤ ((n / 1 % 16 : Nat) : Int) + 1 := by omega
      have d2 : (n : Int) % 16 = ((n / 1 % 16 : Nat) : Int) := by omega
      generalize hgq : n / 1 % 16 = q at *
      have HG : Hid (n / 1 % 16 = q) := hgq
      clear hgq
      generalize (ByteArray.mk #[48, 49, 50, 51, 52, 53, 54, 55, 56, 57, 97, 98, 99, 100, 101, 102]) = LO at *
      generalize (ByteArray.mk #[48, 49, 50, 51, 52, 53, 54, 55, 56, 57, 65, 66, 67, 68, 69, 70]) = CA at *
      clear hA hB hlt
      go_wp2
      go_quiet (fail)
      obtain ⟨M, hM⟩ : ∃ M, (w.drewN m).drewN nq = w.drewN M := ⟨m + nq, by simp⟩
      try rw [hM]
      try (obtain ⟨M, hM⟩ : ∃ M, w.drewN (m + nq) = w.drewN M := ⟨m + nq, rfl⟩; rw [hM])
      clear hM
      go_wp2
      go_quiet (fail)
      go_wp2
      refine ⟨⟨0, _, _, M + nq, rfl, rfl, rfl, ?_, Or.inr (Or.inr (Or.inr (Or.inr ⟨rfl, ?_, ?_⟩)))⟩, ?_⟩
      · simp
      · rw [HG.out]; exact HA.out
      · rw [HG.out]; exact HB.out
      · simp [RowKit.intOf]
    · have T1 := tokens_any [34, 120, 92, 117, hexD (n / 4096 % 16), hexD (n / 256 % 16), hexD (n / 16 % 16), hexD (n / 1 % 16), 121, 34] (w.drewN m) (gl.below (below_drewN w m) (Nat.le_refl _))
      have T2 := fun w g => tokens_any [34, 120, 92, 117, hexU (n / 4096 % 16), hexU (n / 256 % 16), hexU (n / 16 % 16), hexU (n / 1 % 16), 121, 34] w g
      rw [lexS_small n hn] at T1
      rw [lexS_great n hn] at T2
      have eA : (ByteArray.mk [34, 120, 92, 117, hexD (n / 4096 % 16), hexD (n / 256 % 16), hexD (n / 16 % 16), hexD (n / 1 % 16), 121, 34].toArray) = SA ++ ⟨#[121, 34]⟩ := by rw [hA]; rfl
      have eB : (ByteArray.mk [34, 120, 92, 117, hexU (n / 4096 % 16), hexU (n / 256 % 16), hexU (n / 16 % 16), hexU (n / 1 % 16), 121, 34].toArray) = SB ++ ⟨#[121, 34]⟩ := by rw [hB]; rfl
      have sA : SA.size = 8 := by rw [hA]; rfl
      have sB : SB.size = 8 := by rw [hB]; rfl
      rw [eA] at T1
      rw [eB] at T2
      have U := fun w => unit_any n hn w
      have hU : (unitS n).length ≤ 4 := unit_len n hn
      have sU := size_of (unitS n)
      have HU : Hid ((ByteArray.mk #[120] ++ ⟨(unitS n).toArray⟩) ++ ⟨#[121]⟩ = ⟨(120 :: (unitS n ++ [121])).toArray⟩) := by
        show _ = _
        apply ByteArray.ext; apply Array.toList_inj.1; simp
      clear hA hB eA eB
      generalize (unitS n).length = ul at *
      generalize (ByteArray.mk (unitS n).toArray) = UB at *
      generalize (120 :: (unitS n ++ [121])) = UT at *
      have z1 : ¬ 9223372036854775807 < 1 + ul := by omega
      have z2 : ¬ 9223372036854775807 < 1 + ul + 1 := by omega
      have okm : Ok w (w.drewN m) := ⟨below_drewN w m, gl.below (below_drewN w m) (Nat.le_refl _), hz.below (below_drewN w m) (Nat.le_refl _)⟩
      clear gl hz hn hU
      go_wp2_with (first
        | (go_at_call 5; refine (T2 _ ok1.gl).mono ?_; rintro e w2 hT2; obtain ⟨g2, cap2, rfl, hc2, ht2, hg2, hx2, hb2⟩ := tok_of hT2; have ok2 := ok1.go hb2; have hr2 := (toksAt_own ht1).below hb2; have hr3 := toksAt_own ht2; clear hT2)
        | (go_at_call 5; refine T1.mono ?_; rintro e w1 hT1; obtain ⟨g1, cap1, rfl, hc1, ht1, hg1, hx1, hb1⟩ := tok_of hT1; have ok1 := okm.go hb1; clear hT1)
        | fail)
      have ok2d : Ok w w2.drew := ok2.go (below_drewN w2 1)
      have hrA : ToksAt w2.drew _ _ := hr2.below (below_drewN w2 1)
      have hrB : ToksAt w2.drew _ _ := hr3.below (below_drewN w2 1)
      have hxA : w2.drew.cell? ⟨g1, 1, none⟩ = some (.string ⟨UT.toArray⟩) := (hb2.cell (p := ⟨g1, 1, none⟩) hg1).trans hx1
      have hgA : g1 < w2.drew.heap.size := Nat.lt_of_lt_of_le hg1 hb2.size
      have hHU := HU.out
      clear HU hr2 hr3 ht1 ht2 hx1 hx2 hg1 hg2 hb1 hb2 ok1 ok2 okm T1 T2
      go_region_held3 (fun w' => w'.cell? ⟨g1, 1, none⟩ = some (.string ⟨UT.toArray⟩)) (first | with_reducible exact hx5 | with_reducible exact hxD | with_reducible exact hxC | with_reducible exact hxA | go_keep) ((first
        | (go_at_call 7; refine (U _).mono ?_; rintro e w5 ⟨rfl, hb5⟩; have ok5 := ok4.go hb5; have hx5 := (hb5.cell (p := ⟨g1, 1, none⟩) hgD).trans hxD)
        | (go_at_call 6; refine (same_yes _ _ _ _ (by with_reducible exact hrC) (by with_reducible exact hrD) (by simp)).mono ?_; rintro e w4 ⟨rfl, k4, hw4⟩; have hb4 : Below w3.heap.size w3 w4 := hw4 ▸ below_drewN w3 k4; clear hw4; have ok4 := ok3.go hb4; have hxD := (hb4.cell (p := ⟨g1, 1, none⟩) hgC).trans hxC; have hgD := Nat.lt_of_lt_of_le hgC hb4.size)
        | (go_at_call 4; refine (fixed_any _ (by with_reducible exact ok2d.gl) (by with_reducible exact ok2d.tz)).mono ?_; rintro e w3 ⟨rfl, hb3⟩; have ok3 := ok2d.go hb3; have hrC := hrA.below hb3; have hrD := hrB.below hb3; have hxC := (hb3.cell (p := ⟨g1, 1, none⟩) hgA).trans hxA; have hgC := Nat.lt_of_lt_of_le hgA hb3.size)
        | fail))
      all_goals
        go_wp2
        go_ret
        exact ⟨by first | rfl | simp, ok5.bel⟩
theorem lexEscapes_walk (c : Int) (w : World) (gl : Gl w) (hz : Tz w) : Calls Tryz.prog 3 #[.int .i64 c] w fun e w' => e = .returned (.bool true) ∧ Below w.heap.size w w' := by
  by_cases h : c < 0 ∨ 65535 < c
  · exact esc_out c h w gl hz
  · obtain ⟨n, rfl⟩ : ∃ n : Nat, c = n := ⟨c.toNat, by omega⟩
    exact esc_in n (by omega) w gl hz
end Go.Proofs.YtlndpghkcbnmcabGreatDoor
