/- The document's own answer (package rhizomeref01): what its functions return. -/
import Derived.Test.YtikbomagmedemaaEnc
namespace Go.Proofs.Ytikbomagmedemaa
open Go.RowKit Go.Lib

set_option maxHeartbeats 400000 in
theorem ris_any (c : Int) (w : World) : Calls Try.prog 25 #[.int .i64 c] w fun e w' => e = .returned (.bool (charB c)) ∧ w' = w := by
  go_enter Try.func25, Try.ntmps25
  go_wp2
  all_goals (go_ret; refine ⟨ret_bool ?_, rfl⟩; go_light; unfold charB validB; first | (symm; simp; omega) | (rw [Bool.eq_iff_iff]; simp; omega))

theorem cell_new (w : World) (cs : Array Value) (t : TypeId) (j : Nat) : (w.alloc (.cells cs t)).cell? ((⟨w.heap.size, 0, none⟩ : Addr).add j) = cs[j]? := by
  rw [Addr.add_lit, Nat.zero_add]
  unfold World.cell?
  rw [show (w.alloc (.cells cs t)).heap[w.heap.size]? = some (.cells cs t (0, 0)) from heap_alloc_new _ _]
  rfl
theorem u8_cell (x : Nat) (y : Int) (hx : x < 256) (hy : y = x) : Value.int .u8 y = .int .u8 ((UInt8.ofNat x).toNat : Int) := by
  rw [hy]
  simp
  omega

theorem rconv_1 (c : Int) (w : World) (hc : charB c = true) (h0 : 0 ≤ c) (h1 : c < 128) :
    (convert 37 9 (.slice (some ⟨w.heap.size, 0, none⟩) 1 1)).run Try.prog (w.alloc (.cells #[.int .u8 (c)] 5)) = .ok (.string (Utf8.encode c)) (w.alloc (.cells #[.int .u8 (c)] 5)) := by
  obtain ⟨n, rfl⟩ : ∃ n : Nat, c = n := ⟨c.toNat, by omega⟩
  have hl : encL n = [n] := by unfold encL; rw [if_pos (by omega)]
  have hcv := run_convert_bytes_back (P := Try.prog) (w.alloc (.cells #[.int .u8 ((n : Int))] 5)) 37 9 5 ⟨w.heap.size, 0, none⟩ 1 ((encL n).map UInt8.ofNat) Try.underlying37 Try.underlying5 Try.underlying9 (by
      rw [hl]
      intro j hj
      match j, hj with
      | 0, _ => exact (cell_new w _ _ _).trans (congrArg some (u8_cell _ _ (by omega) (by omega)))
      | _ + 1, hj => simp at hj <;> omega)
  rw [← encode_list n hc, List.length_map, hl] at hcv
  exact hcv
set_option maxRecDepth 100000 in
set_option maxHeartbeats 400000 in
theorem rbytes_1 (c : Int) (w : World) (hc : charB c = true) (h0 : 0 ≤ c) (h1 : c < 128) : Calls Try.prog 26 #[.int .i64 c] w fun e w' => e = .returned (.string (Utf8.encode c)) ∧ Below w.heap.size w w' := by
  have hcv := rconv_1 c w hc h0 h1
  clear hc
  go_enter Try.func26, Try.ntmps26
  go_wp2
  go_ret
  exact ⟨rfl, (Below.refl _ _).alloc (Nat.le_refl _) _⟩

theorem rconv_2 (c : Int) (w : World) (hc : charB c = true) (h0 : 128 ≤ c) (h1 : c < 2048) :
    (convert 37 9 (.slice (some ⟨w.heap.size, 0, none⟩) 2 2)).run Try.prog (w.alloc (.cells #[.int .u8 (192 + c / 64), .int .u8 (128 + c % 64)] 5)) = .ok (.string (Utf8.encode c)) (w.alloc (.cells #[.int .u8 (192 + c / 64), .int .u8 (128 + c % 64)] 5)) := by
  obtain ⟨n, rfl⟩ : ∃ n : Nat, c = n := ⟨c.toNat, by omega⟩
  have hl : encL n = [192 + n / 64, 128 + n % 64] := by unfold encL; rw [if_neg (by omega), if_pos (by omega)]
  have hcv := run_convert_bytes_back (P := Try.prog) (w.alloc (.cells #[.int .u8 (192 + (n : Int) / 64), .int .u8 (128 + (n : Int) % 64)] 5)) 37 9 5 ⟨w.heap.size, 0, none⟩ 2 ((encL n).map UInt8.ofNat) Try.underlying37 Try.underlying5 Try.underlying9 (by
      rw [hl]
      intro j hj
      match j, hj with
      | 0, _ => exact (cell_new w _ _ _).trans (congrArg some (u8_cell _ _ (by omega) (by omega)))
      | 1, _ => exact (cell_new w _ _ _).trans (congrArg some (u8_cell _ _ (by omega) (by omega)))
      | _ + 2, hj => simp at hj <;> omega)
  rw [← encode_list n hc, List.length_map, hl] at hcv
  exact hcv
set_option maxRecDepth 100000 in
set_option maxHeartbeats 400000 in
theorem rbytes_2 (c : Int) (w : World) (hc : charB c = true) (h0 : 128 ≤ c) (h1 : c < 2048) : Calls Try.prog 26 #[.int .i64 c] w fun e w' => e = .returned (.string (Utf8.encode c)) ∧ Below w.heap.size w w' := by
  have hcv := rconv_2 c w hc h0 h1
  clear hc
  go_enter Try.func26, Try.ntmps26
  go_wp2
  go_ret
  exact ⟨rfl, (Below.refl _ _).alloc (Nat.le_refl _) _⟩

theorem rconv_3 (c : Int) (w : World) (hc : charB c = true) (h0 : 2048 ≤ c) (h1 : c < 65536) :
    (convert 37 9 (.slice (some ⟨w.heap.size, 0, none⟩) 3 3)).run Try.prog (w.alloc (.cells #[.int .u8 (224 + c / 4096), .int .u8 (128 + c / 64 % 64), .int .u8 (128 + c % 64)] 5)) = .ok (.string (Utf8.encode c)) (w.alloc (.cells #[.int .u8 (224 + c / 4096), .int .u8 (128 + c / 64 % 64), .int .u8 (128 + c % 64)] 5)) := by
  obtain ⟨n, rfl⟩ : ∃ n : Nat, c = n := ⟨c.toNat, by omega⟩
  have hl : encL n = [224 + n / 4096, 128 + n / 64 % 64, 128 + n % 64] := by unfold encL; rw [if_neg (by omega), if_neg (by omega), if_pos (by omega)]
  have hcv := run_convert_bytes_back (P := Try.prog) (w.alloc (.cells #[.int .u8 (224 + (n : Int) / 4096), .int .u8 (128 + (n : Int) / 64 % 64), .int .u8 (128 + (n : Int) % 64)] 5)) 37 9 5 ⟨w.heap.size, 0, none⟩ 3 ((encL n).map UInt8.ofNat) Try.underlying37 Try.underlying5 Try.underlying9 (by
      rw [hl]
      intro j hj
      match j, hj with
      | 0, _ => exact (cell_new w _ _ _).trans (congrArg some (u8_cell _ _ (by omega) (by omega)))
      | 1, _ => exact (cell_new w _ _ _).trans (congrArg some (u8_cell _ _ (by omega) (by omega)))
      | 2, _ => exact (cell_new w _ _ _).trans (congrArg some (u8_cell _ _ (by omega) (by omega)))
      | _ + 3, hj => simp at hj <;> omega)
  rw [← encode_list n hc, List.length_map, hl] at hcv
  exact hcv
set_option maxRecDepth 100000 in
set_option maxHeartbeats 400000 in
theorem rbytes_3 (c : Int) (w : World) (hc : charB c = true) (h0 : 2048 ≤ c) (h1 : c < 65536) : Calls Try.prog 26 #[.int .i64 c] w fun e w' => e = .returned (.string (Utf8.encode c)) ∧ Below w.heap.size w w' := by
  have hcv := rconv_3 c w hc h0 h1
  clear hc
  go_enter Try.func26, Try.ntmps26
  go_wp2
  go_ret
  exact ⟨rfl, (Below.refl _ _).alloc (Nat.le_refl _) _⟩

theorem rconv_4 (c : Int) (w : World) (hc : charB c = true) (h0 : 65536 ≤ c) (h1 : c ≤ 1114111) :
    (convert 37 9 (.slice (some ⟨w.heap.size, 0, none⟩) 4 4)).run Try.prog (w.alloc (.cells #[.int .u8 (240 + c / 262144), .int .u8 (128 + c / 4096 % 64), .int .u8 (128 + c / 64 % 64), .int .u8 (128 + c % 64)] 5)) = .ok (.string (Utf8.encode c)) (w.alloc (.cells #[.int .u8 (240 + c / 262144), .int .u8 (128 + c / 4096 % 64), .int .u8 (128 + c / 64 % 64), .int .u8 (128 + c % 64)] 5)) := by
  obtain ⟨n, rfl⟩ : ∃ n : Nat, c = n := ⟨c.toNat, by omega⟩
  have hl : encL n = [240 + n / 262144, 128 + n / 4096 % 64, 128 + n / 64 % 64, 128 + n % 64] := by unfold encL; rw [if_neg (by omega), if_neg (by omega), if_neg (by omega)]
  have hcv := run_convert_bytes_back (P := Try.prog) (w.alloc (.cells #[.int .u8 (240 + (n : Int) / 262144), .int .u8 (128 + (n : Int) / 4096 % 64), .int .u8 (128 + (n : Int) / 64 % 64), .int .u8 (128 + (n : Int) % 64)] 5)) 37 9 5 ⟨w.heap.size, 0, none⟩ 4 ((encL n).map UInt8.ofNat) Try.underlying37 Try.underlying5 Try.underlying9 (by
      rw [hl]
      intro j hj
      match j, hj with
      | 0, _ => exact (cell_new w _ _ _).trans (congrArg some (u8_cell _ _ (by omega) (by omega)))
      | 1, _ => exact (cell_new w _ _ _).trans (congrArg some (u8_cell _ _ (by omega) (by omega)))
      | 2, _ => exact (cell_new w _ _ _).trans (congrArg some (u8_cell _ _ (by omega) (by omega)))
      | 3, _ => exact (cell_new w _ _ _).trans (congrArg some (u8_cell _ _ (by omega) (by omega)))
      | _ + 4, hj => simp at hj <;> omega)
  rw [← encode_list n hc, List.length_map, hl] at hcv
  exact hcv
set_option maxRecDepth 100000 in
set_option maxHeartbeats 400000 in
theorem rbytes_4 (c : Int) (w : World) (hc : charB c = true) (h0 : 65536 ≤ c) (h1 : c ≤ 1114111) : Calls Try.prog 26 #[.int .i64 c] w fun e w' => e = .returned (.string (Utf8.encode c)) ∧ Below w.heap.size w w' := by
  have hcv := rconv_4 c w hc h0 h1
  clear hc
  go_enter Try.func26, Try.ntmps26
  go_wp2
  go_ret
  exact ⟨rfl, (Below.refl _ _).alloc (Nat.le_refl _) _⟩

theorem rbytes_any (c : Int) (w : World) (hc : charB c = true) : Calls Try.prog 26 #[.int .i64 c] w fun e w' => e = .returned (.string (Utf8.encode c)) ∧ Below w.heap.size w w' := by
  have hd := charB_bd hc
  by_cases h1 : c < 128
  · exact rbytes_1 c w hc hd.1 h1
  · by_cases h2 : c < 2048
    · exact rbytes_2 c w hc (by omega) h2
    · by_cases h3 : c < 65536
      · exact rbytes_3 c w hc (by omega) h3
      · exact rbytes_4 c w hc (by omega) hd.2

set_option maxHeartbeats 400000 in
theorem rput_yes (c : Int) (w : World) (h : charB c = true) : Calls Try.prog 18 #[.int .i64 c] w fun e w' => e = .returned (.tuple #[.string (Utf8.encode c), .int .i64 0]) ∧ Below w.heap.size w w' := by
  go_enter Try.func18, Try.ntmps18
  go_wp2_with (first | (go_at_call 25; refine (ris_any _ _).mono ?_; rintro e w' ⟨rfl, rfl⟩) | (go_at_call 26; refine (rbytes_any _ _ h).mono ?_; rintro e w1 ⟨rfl, hb⟩))
  go_ret2
  exact ⟨rfl, hb⟩

set_option maxHeartbeats 400000 in
theorem rput_no (c : Int) (w : World) (h : charB c = false) : Calls Try.prog 18 #[.int .i64 c] w fun e w' => e = .returned (.tuple #[.string ⟨#[]⟩, .int .i64 10]) ∧ w' = w := by
  go_enter Try.func18, Try.ntmps18
  go_wp2_with (go_at_call 25; refine (ris_any _ _).mono ?_; rintro e w' ⟨rfl, rfl⟩)
  go_ret2
  exact ⟨rfl, rfl⟩

theorem enc_small (c : Int) (h : charB c = true) : (Utf8.encode c).size ≤ 4 := by
  have hd := charB_bd h
  obtain ⟨n, rfl⟩ : ∃ n : Nat, c = n := ⟨c.toNat, by omega⟩
  rw [encode_size n h]
  exact (encL_le n).2

end Go.Proofs.Ytikbomagmedemaa
