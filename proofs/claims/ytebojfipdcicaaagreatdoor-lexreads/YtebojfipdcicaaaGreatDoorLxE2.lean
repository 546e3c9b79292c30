/- The document's own answer: what a number's bytes are; are two rows of tokens the same? -/
import Derived.Test.YtebojfipdcicaaaGreatDoorLxI
import Derived.Test.YtebojfipdcicaaaGreatDoorLxJ
namespace Go.Proofs.YtebojfipdcicaaaGreatDoor
open Go Go.RowKit

def encL (n : Nat) : List Nat :=
  if n < 128 then [n] else if n < 2048 then [192 + n / 64, 128 + n % 64] else if n < 65536 then [224 + n / 4096, 128 + n / 64 % 64, 128 + n % 64] else [240 + n / 262144, 128 + n / 4096 % 64, 128 + n / 64 % 64, 128 + n % 64]
theorem valid_char (n : Nat) (h : charB (n : Int) = true) : Utf8.valid (n : Int) = true ∧ n ≤ 1114111 ∧ (n < 55296 ∨ 57343 < n) := by
  unfold charB validB at h
  unfold Utf8.valid
  simp only [Bool.and_eq_true, Bool.or_eq_true, decide_eq_true_eq] at h ⊢
  omega
theorem encode_list (n : Nat) (h : charB (n : Int) = true) : Utf8.encode (n : Int) = ⟨((encL n).map UInt8.ofNat).toArray⟩ := by
  have hv := (valid_char n h).1
  unfold Utf8.encode encL
  simp only [hv, if_true, Int.toNat_natCast]
  repeat' split
  all_goals first | rfl | (exfalso; omega)

set_option maxHeartbeats 400000 in
theorem ris_any (c : Int) (w : World) : Calls Tryz.prog 35 #[.int .i64 c] w fun e w' => e = .returned (.bool (charB c)) ∧ w' = w := by
  go_enter Tryz.func35, Tryz.ntmps35
  go_wp2
  all_goals (go_ret; refine ⟨ret_bool ?_, rfl⟩; go_light; unfold charB validB; first | (symm; simp; omega) | (rw [Bool.eq_iff_iff]; simp; omega))
theorem u8_cellO (x : Nat) (y : Int) (hx : x < 256) (hy : y = x) : Value.int .u8 y = .int .u8 ((UInt8.ofNat x).toNat : Int) := by
  rw [hy]
  simp
  omega

theorem rconv_1 (c : Int) (w : World) (hc : charB c = true) (h0 : 0 ≤ c) (h1 : c < 128) :
    (convert 33 9 (.slice (some ⟨w.heap.size, 0, none⟩) 1 1)).run Tryz.prog (w.alloc (.cells #[.int .u8 (c)] 5)) = .ok (.string (Utf8.encode c)) (w.alloc (.cells #[.int .u8 (c)] 5)) := by
  obtain ⟨n, rfl⟩ : ∃ n : Nat, c = n := ⟨c.toNat, by omega⟩
  have hl : encL n = [n] := by unfold encL; rw [if_pos (by omega)]
  have hcv := run_convert_bytes_back (P := Tryz.prog) (w.alloc (.cells #[.int .u8 ((n : Int))] 5)) 33 9 5 ⟨w.heap.size, 0, none⟩ 1 ((encL n).map UInt8.ofNat) Tryz.underlying33 Tryz.underlying5 Tryz.underlying9 (by
      rw [hl]
      intro j hj
      match j, hj with
      | 0, _ => exact (cell_new w _ _ _).trans (congrArg some (u8_cellO _ _ (by omega) (by omega)))
      | _ + 1, hj => simp at hj <;> omega)
  rw [← encode_list n hc, List.length_map, hl] at hcv
  exact hcv
set_option maxRecDepth 100000 in
set_option maxHeartbeats 400000 in
theorem rbytes_1 (c : Int) (w : World) (hc : charB c = true) (h0 : 0 ≤ c) (h1 : c < 128) : Calls Tryz.prog 36 #[.int .i64 c] w fun e w' => e = .returned (.string (Utf8.encode c)) ∧ Below w.heap.size w w' := by
  have hcv := rconv_1 c w hc h0 h1
  clear hc
  go_enter Tryz.func36, Tryz.ntmps36
  go_wp2
  go_ret
  exact ⟨rfl, (Below.refl _ _).alloc (Nat.le_refl _) _⟩

theorem rconv_2 (c : Int) (w : World) (hc : charB c = true) (h0 : 128 ≤ c) (h1 : c < 2048) :
    (convert 33 9 (.slice (some ⟨w.heap.size, 0, none⟩) 2 2)).run Tryz.prog (w.alloc (.cells #[.int .u8 (192 + c / 64), .int .u8 (128 + c % 64)] 5)) = .ok (.string (Utf8.encode c)) (w.alloc (.cells #[.int .u8 (192 + c / 64), .int .u8 (128 + c % 64)] 5)) := by
  obtain ⟨n, rfl⟩ : ∃ n : Nat, c = n := ⟨c.toNat, by omega⟩
  have hl : encL n = [192 + n / 64, 128 + n % 64] := by unfold encL; rw [if_neg (by omega), if_pos (by omega)]
  have hcv := run_convert_bytes_back (P := Tryz.prog) (w.alloc (.cells #[.int .u8 (192 + (n : Int) / 64), .int .u8 (128 + (n : Int) % 64)] 5)) 33 9 5 ⟨w.heap.size, 0, none⟩ 2 ((encL n).map UInt8.ofNat) Tryz.underlying33 Tryz.underlying5 Tryz.underlying9 (by
      rw [hl]
      intro j hj
      match j, hj with
      | 0, _ => exact (cell_new w _ _ _).trans (congrArg some (u8_cellO _ _ (by omega) (by omega)))
      | 1, _ => exact (cell_new w _ _ _).trans (congrArg some (u8_cellO _ _ (by omega) (by omega)))
      | _ + 2, hj => simp at hj <;> omega)
  rw [← encode_list n hc, List.length_map, hl] at hcv
  exact hcv
set_option maxRecDepth 100000 in
set_option maxHeartbeats 400000 in
theorem rbytes_2 (c : Int) (w : World) (hc : charB c = true) (h0 : 128 ≤ c) (h1 : c < 2048) : Calls Tryz.prog 36 #[.int .i64 c] w fun e w' => e = .returned (.string (Utf8.encode c)) ∧ Below w.heap.size w w' := by
  have hcv := rconv_2 c w hc h0 h1
  clear hc
  go_enter Tryz.func36, Tryz.ntmps36
  go_wp2
  go_ret
  exact ⟨rfl, (Below.refl _ _).alloc (Nat.le_refl _) _⟩

theorem rconv_3 (c : Int) (w : World) (hc : charB c = true) (h0 : 2048 ≤ c) (h1 : c < 65536) :
    (convert 33 9 (.slice (some ⟨w.heap.size, 0, none⟩) 3 3)).run Tryz.prog (w.alloc (.cells #[.int .u8 (224 + c / 4096), .int .u8 (128 + c / 64 % 64), .int .u8 (128 + c % 64)] 5)) = .ok (.string (Utf8.encode c)) (w.alloc (.cells #[.int .u8 (224 + c / 4096), .int .u8 (128 + c / 64 % 64), .int .u8 (128 + c % 64)] 5)) := by
  obtain ⟨n, rfl⟩ : ∃ n : Nat, c = n := ⟨c.toNat, by omega⟩
  have hl : encL n = [224 + n / 4096, 128 + n / 64 % 64, 128 + n % 64] := by unfold encL; rw [if_neg (by omega), if_neg (by omega), if_pos (by omega)]
  have hcv := run_convert_bytes_back (P := Tryz.prog) (w.alloc (.cells #[.int .u8 (224 + (n : Int) / 4096), .int .u8 (128 + (n : Int) / 64 % 64), .int .u8 (128 + (n : Int) % 64)] 5)) 33 9 5 ⟨w.heap.size, 0, none⟩ 3 ((encL n).map UInt8.ofNat) Tryz.underlying33 Tryz.underlying5 Tryz.underlying9 (by
      rw [hl]
      intro j hj
      match j, hj with
      | 0, _ => exact (cell_new w _ _ _).trans (congrArg some (u8_cellO _ _ (by omega) (by omega)))
      | 1, _ => exact (cell_new w _ _ _).trans (congrArg some (u8_cellO _ _ (by omega) (by omega)))
      | 2, _ => exact (cell_new w _ _ _).trans (congrArg some (u8_cellO _ _ (by omega) (by omega)))
      | _ + 3, hj => simp at hj <;> omega)
  rw [← encode_list n hc, List.length_map, hl] at hcv
  exact hcv
set_option maxRecDepth 100000 in
set_option maxHeartbeats 400000 in
theorem rbytes_3 (c : Int) (w : World) (hc : charB c = true) (h0 : 2048 ≤ c) (h1 : c < 65536) : Calls Tryz.prog 36 #[.int .i64 c] w fun e w' => e = .returned (.string (Utf8.encode c)) ∧ Below w.heap.size w w' := by
  have hcv := rconv_3 c w hc h0 h1
  clear hc
  go_enter Tryz.func36, Tryz.ntmps36
  go_wp2
  go_ret
  exact ⟨rfl, (Below.refl _ _).alloc (Nat.le_refl _) _⟩

theorem rbytes_any (c : Int) (w : World) (hc : charB c = true) (h3 : c < 65536) : Calls Tryz.prog 36 #[.int .i64 c] w fun e w' => e = .returned (.string (Utf8.encode c)) ∧ Below w.heap.size w w' := by
  have hd := charB_bd hc
  by_cases h1 : c < 128
  · exact rbytes_1 c w hc hd.1 h1
  · by_cases h2 : c < 2048
    · exact rbytes_2 c w hc (by omega) h2
    · exact rbytes_3 c w hc (by omega) h3

set_option maxRecDepth 100000 in
set_option maxHeartbeats 1000000 in
theorem unit_any (n : Nat) (hn : n < 65536) (w : World) : Calls Tryz.prog 17 #[.int .i64 (n : Int)] w fun e w' => e = .returned (.string ⟨(unitS n).toArray⟩) ∧ Below w.heap.size w w' := by
  have I := ris_any (n : Int) w
  by_cases hh : 55296 ≤ n ∧ n ≤ 57343
  · rw [show unitS n = halfS n from if_pos hh]
    have hf : charB (n : Int) = false := by
      unfold charB validB
      simp
      omega
    rw [hf] at I
    have hcv := hconv n w (by omega) hn
    have h0' : 2048 ≤ (n : Int) := by omega
    have h1' : (n : Int) < 65536 := by omega
    clear hh hf hn
    generalize halfS n = H at *
    generalize (n : Int) = c at *
    go_enter Tryz.func17, Tryz.ntmps17
    go_wp2_with (go_at_call 35; refine I.mono ?_; rintro e w1 ⟨rfl, rfl⟩)
    go_ret
    exact ⟨rfl, (Below.refl _ _).alloc (Nat.le_refl _) _⟩
  · rw [unitS_else n hh, mk_toList]
    have hf : charB (n : Int) = true := charB_small _ (by omega) (by omega) (by omega)
    rw [hf] at I
    have Y := rbytes_any (n : Int) w hf (by omega)
    clear hh hf hn
    generalize Utf8.encode (n : Int) = H at *
    generalize (n : Int) = c at *
    go_enter Tryz.func17, Tryz.ntmps17
    go_wp2_with (first
      | (go_at_call 35; refine I.mono ?_; rintro e w1 ⟨rfl, rfl⟩)
      | (go_at_call 36; refine Y.mono ?_; rintro e w1 ⟨rfl, hb⟩)
      | fail)
    go_ret
    exact ⟨rfl, hb⟩
end Go.Proofs.YtebojfipdcicaaaGreatDoor
