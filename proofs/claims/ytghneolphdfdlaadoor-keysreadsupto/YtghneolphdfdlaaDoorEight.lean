/- A number in eight bytes, by the document. -/
import Derived.Test.YtghneolphdfdlaaDoorOwn
import Derived.Deep.OwnRows
namespace Go.Proofs.YtghneolphdfdlaaDoor
open Go Go.RowKit

/-- The bytes while they are written from the end: j noughts, then what is written. -/
def mid (n j : Nat) : List UInt8 := List.replicate j 0 ++ (be8 n).drop j
theorem mid_len (n j : Nat) (h : j ≤ 8) : (mid n j).length = 8 := by
  have e : (be8 n).length = 8 := beN_len n 8
  simp [mid, e]; omega
theorem mid_zero (n : Nat) : mid n 0 = be8 n := by simp [mid]
theorem mid_eight (n : Nat) : mid n 8 = [0, 0, 0, 0, 0, 0, 0, 0] := by
  have e : (be8 n).length = 8 := beN_len n 8
  unfold mid
  rw [List.drop_of_length_le (by omega)]
  rfl
theorem be8_at (n j : Nat) (h : j < 8) : (be8 n)[j]? = some (byteAt n j) := by
  unfold be8 beN
  simp [h]
theorem mid_set (n j : Nat) (h : j < 8) : (mid n (j + 1)).set j (byteAt n j) = mid n j := by
  have e : (be8 n).length = 8 := beN_len n 8
  have hj : j < (be8 n).length := by omega
  have hd : (be8 n).drop j = byteAt n j :: (be8 n).drop (j + 1) := by
    rw [List.drop_eq_getElem_cons hj]
    have := be8_at n j h
    rw [List.getElem?_eq_getElem hj] at this
    rw [Option.some.inj this]
  unfold mid
  rw [hd]
  generalize (be8 n).drop (j + 1) = D
  have e2 : List.replicate (j + 1) (0 : UInt8) ++ D = List.replicate j 0 ++ 0 :: D := by rw [List.replicate_succ', List.append_assoc]; rfl
  rw [e2, List.set_append]
  simp
theorem mid_cells (n j : Nat) (h : j < 8) (c : Int) (hc : c = ((byteAt n j).toNat : Int)) : (Lib.byteCells (mid n (j + 1))).set j (.int .u8 c) = Lib.byteCells (mid n j) := by
  subst hc
  rw [← mid_set n j h]
  simp [Lib.byteCells, List.map_set]

theorem mid_at (n j : Nat) : (Lib.byteCells (mid n (j + 1)))[j]? = some (.int .u8 0) := by
  unfold mid
  have e2 : List.replicate (j + 1) (0 : UInt8) ++ (be8 n).drop (j + 1) = List.replicate j 0 ++ 0 :: (be8 n).drop (j + 1) := by rw [List.replicate_succ', List.append_assoc]; rfl
  rw [e2]
  simp [Lib.byteCells]
theorem own_new (w : World) : (w.alloc (.cells (madeCells #[.int .u8 0] 8) 5)).ownsRow w.heap.size 5 1 (.slice (some ⟨w.heap.size, 0, none⟩) 8 8) 8 (Lib.byteCells [0, 0, 0, 0, 0, 0, 0, 0]) :=
  ⟨rfl, Or.inr ⟨w.heap.size, 8, _, rfl, Nat.le_refl _, heap_alloc_new _ _, Nat.le_refl _, by decide, by kernel_rfl, by kernel_rfl⟩⟩
theorem byte_mod (n j : Nat) : ((n / 2 ^ (8 * (7 - j)) : Nat) : Int) % 256 = ((byteAt n j).toNat : Int) := by
  have := byteAt_int n j
  rw [← this]
  simp
theorem quo_256 (n j : Nat) (h : j < 8) : n / 2 ^ (8 * (7 - j)) / 256 = n / 2 ^ (8 * (8 - j)) := by
  rw [Nat.div_div_eq_div_mul, show (256 : Nat) = 2 ^ 8 from rfl, ← Nat.pow_add]
  congr 2
  omega

theorem wrap_q (X : Nat) (h : X < 18446744073709551616) : IntKind.u64.wrap ((X : Int) / 256) = ((X / 256 : Nat) : Int) := by
  have e : IntKind.u64.wrap ((X : Int) / 256) = ((X : Int) / 256) % 18446744073709551616 := rfl
  rw [e]
  omega

set_option maxHeartbeats 1000000 in
theorem qeight_any (n : Nat) (w : World) (hn : n < 18446744073709551616) :
    Calls Tryd.prog 34 #[.int .u64 (n : Int)] w fun e w' => e = .returned (.string ⟨(be8 n).toArray⟩) ∧ Below w.heap.size w w' := by
  have hmk : ∀ w : World, (Instr.makeSlice 41 (.int .i64 8) (.int .i64 8)).run Tryd.prog w = .ok (.slice (some ⟨w.heap.size, 0, none⟩) 8 8) (w.alloc (.cells (madeCells #[.int .u8 0] 8) 5)) := fun w =>
    run_make_row' (P := Tryd.prog) 41 5 (.int .u8 0) 1 Tryd.underlying41 Tryd.infoByte rfl .i64 .i64 8 (by decide) (by decide) w
  go_enter Tryd.func34, Tryd.ntmps34
  go_wp2
  go_loopw [0, 4] (fun m i wr => ∃ j : Nat, j ≤ 8 ∧ i = .int .i64 ((j : Int) - 1) ∧ m = .int .u64 ((n / 2 ^ (8 * (8 - j)) : Nat) : Int) ∧ wr.ownsRow w.heap.size 5 1 (.slice (some ⟨w.heap.size, 0, none⟩) 8 8) 8 (Lib.byteCells (mid n j)) ∧ Below w.heap.size w wr) (fun _ i _ => (intOf i + 1).toNat)
  case atStart =>
    refine ⟨8, Nat.le_refl _, rfl, ?_, ?_, (Below.refl _ _).alloc (Nat.le_refl _) _⟩
    · simp
    · rw [mid_eight]
      exact own_new w
  case round =>
    obtain ⟨j, hj, rfl, rfl, hor, hbr⟩ := hrel
    cases j with
    | zero =>
      rw [mid_zero] at hor
      have e8 : (be8 n).length = 8 := beN_len n 8
      have hor2 := hor
      rw [← e8] at hor2
      have hcv := conv_row hor2
      rw [e8] at hcv
      clear hor2
      go_wp2
      go_ret
      exact ⟨rfl, hbr⟩
    | succ j =>
      have e1 : ((j + 1 : Nat) : Int) - 1 = (j : Int) := by omega
      rw [e1]
      have hlt : j < 8 := by omega
      have e2 : 8 - (j + 1) = 7 - j := by omega
      rw [e2]
      have hc := (hor.cellAt j (by omega)).trans (mid_at n j)
      have hf := hor.frozenAt j
      have HX := byte_mod n j
      have HQ := quo_256 n j hlt
      have hXn : n / 2 ^ (8 * (7 - j)) ≤ n := Nat.div_le_self _ _
      generalize n / 2 ^ (8 * (7 - j)) = X at *
      have hX2 : X < 18446744073709551616 := by omega
      have HW : Hid (IntKind.u64.wrap ((X : Int) / 256) = ((n / 2 ^ (8 * (8 - j)) : Nat) : Int)) := by
        rw [← HQ]
        exact wrap_q X hX2
      obtain ⟨st1, st2⟩ := hor.stored j (.int .u8 ((byteAt n j).toNat : Int))
      rw [mid_cells n j hlt _ rfl] at st1
      have S1 : Hid _ := st1
      have S2 : Hid _ := st2
      clear hn hXn hX2 st1 st2
      go_wp2
      refine ⟨⟨j, by omega, rfl, ?_, S1.out, hbr.setCell (p := ⟨w.heap.size, j, none⟩) (Nat.le_refl _) _⟩, ?_⟩
      · rw [HW.out]
      · simp [intOf]
end Go.Proofs.YtghneolphdfdlaaDoor
