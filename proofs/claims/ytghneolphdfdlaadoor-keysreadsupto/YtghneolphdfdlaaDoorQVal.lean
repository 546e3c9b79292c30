/- The number of eight bytes, by the document; the part that bytes seem to begin with. -/
import Derived.Test.YtghneolphdfdlaaDoorCutN
import Derived.Test.YtghneolphdfdlaaDoorQBytes
namespace Go.Proofs.YtghneolphdfdlaaDoor
open Go Go.RowKit

set_option maxHeartbeats 1000000 in
theorem qvalue_any (s : ByteArray) (w : World) (h : 8 ≤ s.size) : Calls Tryd.prog 37 #[.string s] w fun e w' => e = .returned (.int .u64 ((valB (s.data.toList.take 8) : Nat) : Int)) ∧ w' = w := by
  go_enter Tryd.func37, Tryd.ntmps37
  go_wp2
  go_loop [3, 4] (fun n i => ∃ j : Nat, j ≤ 8 ∧ i = .int .i64 j ∧ n = .int .u64 ((valB (s.data.toList.take j) : Nat) : Int)) (fun _ i => 8 - (intOf i).toNat)
  case atStart => exact ⟨0, by decide, rfl, rfl⟩
  case round =>
    obtain ⟨j, hj, rfl, rfl⟩ := hrel
    by_cases hlt : j < 8
    · have hjs : j < s.size := by omega
      have HV : Hid (valB (s.data.toList.take (j + 1)) = valB (s.data.toList.take j) * 256 + s[j].toNat) := by
        show _ = _
        rw [take_snoc s j hjs, valB_snoc]
      have hb := valB_lt (s.data.toList.take j)
      have hb2 : valB (s.data.toList.take j) < 72057594037927936 := by
        refine Nat.lt_of_lt_of_le hb ?_
        have : (s.data.toList.take j).length ≤ 7 := by rw [List.length_take]; omega
        exact Nat.le_trans (Nat.pow_le_pow_right (by decide) this) (by decide)
      generalize valB (s.data.toList.take j) = n at *
      have hcl := s[j].toNat_lt
      clear hb
      go_wp2
      refine ⟨⟨j + 1, by omega, by go_num, ?_⟩, ?_⟩
      · rw [HV.out]
        have e : 256 * (n : Int) + (s[j].toNat : Int) = ((n * 256 + s[j].toNat : Nat) : Int) := by omega
        rw [e]
      · simp [intOf]; omega
    · obtain rfl : j = 8 := by omega
      go_wp2
      go_ret
      exact ⟨rfl, rfl⟩
end Go.Proofs.YtghneolphdfdlaaDoor
