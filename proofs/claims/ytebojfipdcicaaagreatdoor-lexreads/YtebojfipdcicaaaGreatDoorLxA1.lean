/- A number in base sixteen. -/
import Derived.Test.YtebojfipdcicaaaGreatDoorLxG5
import Derived.Laws.Bits64b
namespace Go.Proofs.YtebojfipdcicaaaGreatDoor
open Go Go.RowKit Go.Lib

abbrev gT : Nat := 5
/-- The table's place that is read. -/
def Tz (w : World) : Prop := w.cell? ⟨gT, 15, none⟩ = some (.int .u8 4)
theorem Tz.below {w w' : World} (h : Tz w) {B : Nat} (hb : Below B w w') (hB : w.heap.size ≤ B) : Tz w' := by
  have hl : gT < w.heap.size := World.block_lt_of_cell? w _ h
  unfold Tz World.cell? at h ⊢
  rw [hb.block gT (Nat.lt_of_lt_of_le hl hB)]
  exact h
theorem tz_e1 : IntKind.u64.wrap (-16) = 18446744073709551600 := by decide
theorem tz_e2 : bits .and .u64 16 18446744073709551600 = 16 := by decide +kernel
theorem tz_e3 : IntKind.u64.wrap 4573923408821661840 = 4573923408821661840 := by decide
set_option maxRecDepth 100000 in
set_option maxHeartbeats 1000000 in
theorem tz64_any (w : World) (h : Tz w) : Calls Tryz.prog 127 #[.int .u64 16] w fun e w' => e = .returned (.int .i64 4) ∧ w' = w := by
  have h' : w.cell? ⟨5, 15, none⟩ = some (.int .u8 4) := h
  have e1 := tz_e1
  have e2 := tz_e2
  have e3 := tz_e3
  go_enter Tryz.func127, Tryz.ntmps127
  go_wp2
  go_ret
  exact ⟨rfl, rfl⟩
theorem tz_any (w : World) (h : Tz w) : Calls Tryz.prog 121 #[.int .u64 16] w fun e w' => e = .returned (.int .i64 4) ∧ w' = w := by
  have T := tz64_any w h
  go_enter Tryz.func121, Tryz.ntmps121
  go_wp2_with (go_at_call 127; refine T.mono ?_; rintro e w1 ⟨rfl, rfl⟩)
  go_ret
  exact ⟨rfl, rfl⟩
theorem pow2_any (w : World) : Calls Tryz.prog 120 #[.int .i64 16] w fun e w' => e = .returned (.bool true) ∧ w' = w := by
  have e1 : bits .and .i64 16 15 = 0 := by decide
  go_enter Tryz.func120, Tryz.ntmps120
  go_wp2
  go_ret
  exact ⟨rfl, rfl⟩
/-- The digits of a number. -/
def hexS (n : Nat) : Bs := if n < 16 then [hexD n] else hexS (n / 16) ++ [hexD (n % 16)]
termination_by n
decreasing_by omega
theorem hexS_small {n : Nat} (h : n < 16) : hexS n = [hexD n] := by unfold hexS; rw [if_pos h]
theorem hexS_great {n : Nat} (h : ¬ n < 16) : hexS n = hexS (n / 16) ++ [hexD (n % 16)] := by conv => lhs; unfold hexS; rw [if_neg h]
theorem and15 (n : Nat) (h : n < 18446744073709551616) : bits .and .u64 (n : Int) 15 = ((n % 16 : Nat) : Int) := by
  have := bits_and_u64_nat n 15 h (by decide)
  rw [show ((15 : Nat) : Int) = 15 from rfl] at this
  rw [this, show (15 : Nat) = 2 ^ 4 - 1 from rfl, Nat.and_two_pow_sub_one_eq_mod]
/-- The digits' signs. -/
def digS : Array UInt8 := #[48, 49, 50, 51, 52, 53, 54, 55, 56, 57, 97, 98, 99, 100, 101, 102, 103, 104, 105, 106, 107, 108, 109, 110, 111, 112, 113, 114, 115, 116, 117, 118, 119, 120, 121, 122]
theorem digS_at : ∀ j : Fin 16, (ByteArray.mk digS)[j.val]'(by have := j.isLt; show j.val < 36; omega) = hexD j.val := by decide
/-- The array while the digits are laid from its end. -/
structure ArrS (W : World) (A : Nat) (d : Bs) : Prop where
  row : ∃ cur : Array Value, W.heap[A]? = some (.cells cur 134 (0, 0)) ∧ cur.size = 65 ∧ cur.toList.drop (65 - d.length) = Lib.byteCells d
  len : d.length ≤ 64
theorem ArrS.put {W : World} {A : Nat} {d : Bs} (h : ArrS W A d) (hd : d.length ≤ 63) (c : UInt8) : ArrS (W.setCell ⟨A, 65 - d.length - 1, none⟩ (.int .u8 (c.toNat : Int))) A (c :: d) := by
  obtain ⟨cur, h1, h2, h3⟩ := h.row
  refine ⟨⟨_, heap_setCell_same W A (65 - d.length - 1) _ _ _ h1, by simp [h2], ?_⟩, by simp; omega⟩
  have hl : cur.toList.length = 65 := by simp [h2]
  rw [Array.toList_setIfInBounds]
  have e : 65 - (c :: d).length = 65 - d.length - 1 := by simp; omega
  rw [e]
  have e2 : (cur.toList.set (65 - d.length - 1) (.int .u8 (c.toNat : Int))).drop (65 - d.length - 1) = .int .u8 (c.toNat : Int) :: cur.toList.drop (65 - d.length) := by
    rw [List.drop_eq_getElem_cons (by simp; omega), List.getElem_set_self]
    congr 1
    rw [List.drop_set_of_lt (by omega)]
    congr 1
    omega
  rw [e2, h3]
  rfl
theorem ArrS.cell {W : World} {A : Nat} {d : Bs} (h : ArrS W A d) (i : Nat) (hi : i < 65) : ∃ v, W.cell? ⟨A, i, none⟩ = some v := by
  obtain ⟨cur, h1, h2, h3⟩ := h.row
  refine ⟨cur[i]'(by omega), ?_⟩
  simp [World.cell?, h1, h2, hi]
theorem ArrS.free {W : World} {A : Nat} {d : Bs} (h : ArrS W A d) (i : Nat) : W.frozen? ⟨A, i, none⟩ = false := by
  obtain ⟨cur, h1, _⟩ := h.row
  exact frozen_of_row W A i _ _ h1
end Go.Proofs.YtebojfipdcicaaaGreatDoor
