/- A number read from its eight bytes. -/
import Derived.Test.YtghneolphdfdlabDoorEnc
import Derived.BigQuiet
import Derived.Deep.QuietTactic
namespace Go.Proofs.YtghneolphdfdlabDoor
open Go Go.RowKit

/-- The number that bytes are, the highest first. -/
def valB (l : List UInt8) : Nat := l.foldl (fun n c => n * 256 + c.toNat) 0
theorem valB_snoc (l : List UInt8) (c : UInt8) : valB (l ++ [c]) = valB l * 256 + c.toNat := by simp [valB]
theorem valB_lt (l : List UInt8) : valB l < 256 ^ l.length := by
  suffices ∀ (m : List UInt8), valB m.reverse < 256 ^ m.length by simpa using this l.reverse
  intro m
  induction m with
  | nil => decide
  | cons c m ih =>
    rw [List.reverse_cons, valB_snoc, List.length_cons, Nat.pow_succ]
    have := c.toNat_lt
    omega
theorem take_snoc (s : ByteArray) (k : Nat) (h : k < s.size) : s.data.toList.take (k + 1) = s.data.toList.take k ++ [s[k]] := by
  rw [List.take_succ_eq_append_getElem (by simpa using h)]; rfl

theorem or_low (n : Nat) (c : UInt8) (h : n < 72057594037927936) : bits BinOp.or IntKind.u64 ((n : Int) * 256) (IntKind.u64.wrap (c.toNat : Int)) = ((n * 256 + c.toNat : Nat) : Int) := by
  have hc := c.toNat_lt
  have e1 : IntKind.u64.wrap (c.toNat : Int) = (c.toNat : Int) := by
    simp only [IntKind.wrap_u64]; omega
  rw [e1]
  have e2 := u64_or_nat (n * 256) c.toNat (by omega) (by omega)
  have e3 : n * 256 ||| c.toNat = n * 256 + c.toNat := by
    have := Nat.two_pow_add_eq_or_of_lt (i := 8) (b := c.toNat) (by omega) n
    rw [show (256 : Nat) = 2 ^ 8 by decide, Nat.mul_comm n, ← this]
  rw [e3] at e2
  exact e2

theorem cutNumber_no (s : ByteArray) (w : World) (h : s.size < 8) : Calls Tryd.prog 23 #[.string s] w fun e w' => e = .returned (.tuple #[.int .u64 0, .string ⟨#[]⟩, .bool false]) ∧ w' = w := by
  go_enter Tryd.func23, Tryd.ntmps23
  go_wp2
  go_returns
  exact ⟨rfl, rfl⟩

set_option maxHeartbeats 2000000 in
theorem cutNumber_yes (s : ByteArray) (w : World) (h : 8 ≤ s.size) (hs : s.size ≤ 140737488351232) : Calls Tryd.prog 23 #[.string s] w fun e w' => e = .returned (.tuple #[.int .u64 ((valB (s.data.toList.take 8) : Nat) : Int), .string (s.extract 8 s.size), .bool true]) ∧ ∃ n, w' = w.drewN n := by
  go_enter Tryd.func23, Tryd.ntmps23
  go_wp2
  go_loop [5, 10] (fun n i => ∃ j : Nat, j ≤ 8 ∧ i = .int .i64 j ∧ n = .int .u64 ((valB (s.data.toList.take j) : Nat) : Int)) (fun _ i => 8 - (intOf i).toNat)
  case atStart => exact ⟨0, by decide, rfl, rfl⟩
  case round =>
    obtain ⟨j, hj, rfl, rfl⟩ := hrel
    by_cases hlt : j < 8
    · have hjs : j < s.size := by omega
      have HV : Hid (valB (s.data.toList.take (j + 1)) = valB (s.data.toList.take j) * 256 + s[j].toNat) := by
        show _ = _
        rw [take_snoc s j hjs, valB_snoc]
      have hb := valB_lt (s.data.toList.take j)
      have hb2 : valB (s.data.toList.take j) < 72057594037927936 := by
        refine Nat.lt_of_lt_of_le hb ?_
        have : (s.data.toList.take j).length ≤ 7 := by rw [List.length_take]; omega
        exact Nat.le_trans (Nat.pow_le_pow_right (by decide) this) (by decide)
      generalize valB (s.data.toList.take j) = n at *
      have HO : Hid (bits BinOp.or IntKind.u64 ((n : Int) * 256) (IntKind.u64.wrap (s[j].toNat : Int)) = ((n * 256 + s[j].toNat : Nat) : Int)) := or_low n s[j] hb2
      clear hb
      go_wp2
      refine ⟨⟨j + 1, by omega, by go_num, ?_⟩, ?_⟩
      · rw [HO.out, HV.out]
      · simp [intOf]; omega
    · obtain rfl : j = 8 := by omega
      have h8 : (8 : Int) ≤ s.size := by omega
      go_wp2
      go_quiet (fail)
      go_wp2
      go_returns
      exact ⟨rfl, _, rfl⟩
end Go.Proofs.YtghneolphdfdlabDoor
