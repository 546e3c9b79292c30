/- What stands behind all bytes that begin so, by the document. -/
import Derived.Test.YtghneolphdfdlaaDoorAft
namespace Go.Proofs.YtghneolphdfdlaaDoor
open Go Go.RowKit

theorem belE2 {B : Nat} {a w : World} (h : Below B a w) : Below B a w.drew := h.trans ⟨rfl, rfl, rfl, Nat.le_refl _, fun _ _ => rfl⟩
theorem conv_one (w : World) (c : UInt8) (z : Int) (hz : z = (c.toNat : Int)) : (convert 41 9 (.slice (some ⟨w.heap.size, 0, none⟩) 1 1)).run Tryd.prog (w.alloc (.cells #[.int .u8 z] 5)).drew = .ok (.string ⟨#[c]⟩) (w.alloc (.cells #[.int .u8 z] 5)).drew := by
  subst hz
  have h := run_convert_bytes_back (P := Tryd.prog) (w.alloc (.cells #[.int .u8 (c.toNat : Int)] 5)).drew 41 9 5 ⟨w.heap.size, 0, none⟩ 1 [c] Tryd.underlying41 Tryd.underlying5 Tryd.underlying9 (by
    intro j hj
    obtain rfl : j = 0 := by simpa using hj
    have hh : (w.alloc (.cells #[.int .u8 (c.toNat : Int)] 5)).drew.heap[w.heap.size]? = some (.cells #[.int .u8 (c.toNat : Int)] 5 (0, 0)) := heap_alloc_new _ _
    generalize (w.alloc (.cells #[.int .u8 (c.toNat : Int)] 5)).drew = W at hh
    simp [Addr.add, World.cell?, hh])
  exact h

set_option maxHeartbeats 400000 in
theorem qafter_any (s : ByteArray) (w : World) (hs : s.size ≤ 140737488351232) :
    Calls Tryd.prog 17 #[.string s] w fun e w' => e = .returned (.tuple #[.string ⟨(afterS s.data.toList).toArray⟩, .bool (afterB s.data.toList)]) ∧ Below w.heap.size w w' := by
  have etl : s.data.toList.length = s.size := by rw [Array.length_toList]; rfl
  go_enter Tryd.func17, Tryd.ntmps17
  go_wp2
  go_loop [4] (fun i => ∃ k : Nat, k ≤ s.size ∧ i = .int .i64 (k : Int) ∧ backK s.data.toList k = afterK s.data.toList) (fun i => (intOf i).toNat)
  case atStart => exact ⟨s.size, Nat.le_refl _, rfl, by unfold afterK; rw [etl]⟩
  case round =>
    obtain ⟨k, hk, rfl, hb⟩ := hrel
    have HB : Hid (backK s.data.toList k = afterK s.data.toList) := hb
    clear hb
    cases k with
    | zero =>
      have HA : Hid (afterS s.data.toList = [] ∧ afterB s.data.toList = false) := after_no HB.out.symm
      go_wp2
      go_ret2
      rw [HA.out.1, HA.out.2]
      exact ⟨rfl, Below.refl _ _⟩
    | succ j =>
      have e1 : ((j + 1 : Nat) : Int) = (j : Int) + 1 := by omega
      rw [e1]
      have hj : j < s.size := by omega
      clear e1 hk
      have hgd := getD_byte s j hj
      by_cases hc : s[j] = 255
      · have hc' : (s[j].toNat : Int) = 255 := by rw [hc]; rfl
        have HB2 : Hid (backK s.data.toList j = afterK s.data.toList) := by
          have := HB.out
          unfold backK at this
          rw [if_pos (hgd.trans hc)] at this
          exact this
        clear hgd hc etl
        go_wp2
        go_round
        case rel => exact ⟨j, by omega, by go_num, HB2.out⟩
        case measure => simp [intOf]
      · have hlt := s[j].toNat_lt
        have hc' : ¬ (s[j].toNat : Int) = 255 := by
          intro e
          have e' : s[j].toNat = 255 := by omega
          exact hc (UInt8.toNat_inj.1 e')
        have HA : Hid (afterS s.data.toList = s.data.toList.take j ++ [s.data.toList.getD j 0 + 1] ∧ afterB s.data.toList = true) := by
          refine after_yes ?_
          have := HB.out
          unfold backK at this
          rw [if_neg (fun e => hc (hgd.symm.trans e))] at this
          exact this.symm
        have HG : Hid (s.data.toList.getD j 0 = s[j]) := hgd
        clear etl hgd HB hc hlt
        go_wp2
        have h0 : (0 : Int) ≤ (j : Int) := by omega
        have h1 : (j : Int) < s.size := by omega
        have h3 : j ≤ s.size := by omega
        have hx : ((s[j].toNat : Int) + 1) % 256 = ((s[j] + 1).toNat : Int) := by
          have e1 : (s[j] + 1).toNat = (s[j].toNat + 1) % 256 := UInt8.toNat_add ..
          rw [e1]
          omega
        have hcv := conv_one w (s[j] + 1) _ hx
        have HN : (s.extract 0 j).size = j := by
          rw [ByteArray.size_extract]; omega
        have hsum : ¬ 9223372036854775807 < j + 1 := by omega
        have HT : Hid ((s.extract 0 j) ++ ByteArray.mk #[s[j] + 1] = ⟨(s.data.toList.take j ++ [s[j] + 1]).toArray⟩) := by
          show _ = _
          apply ByteArray.ext
          apply Array.toList_inj.1
          simp
        clear hx
        go_region
        all_goals
          go_wp2
          go_ret2
          refine ⟨?_, belE2 ((Below.refl w.heap.size w).alloc (Nat.le_refl _) _)⟩
          rw [HA.out.1, HA.out.2, HG.out, ← HT.out]
          rfl
end Go.Proofs.YtghneolphdfdlaaDoor
