/- What stands behind all that begin with some bytes: the walk of the statement. -/
import Derived.Test.YtghneolphdfdlabDoorAftMath
import Derived.Test.YtghneolphdfdlabDoorFixed
namespace Go.Proofs.YtghneolphdfdlabDoor
open Go Go.RowKit

theorem pre_eq (s t : ByteArray) : s.data.toList.isPrefixOf t.data.toList = (decide (s.size ≤ t.size) && ((t.extract 0 s.size).toList == s.toList)) := by
  have e1 : (t.extract 0 s.size).toList = t.data.toList.take s.size := by
    rw [ByteArray.toList_eq]; simp
  have e2 : s.toList = s.data.toList := ByteArray.toList_eq s
  have e3 : s.data.toList.length = s.size := by rw [Array.length_toList]; rfl
  have e4 : t.data.toList.length = t.size := by rw [Array.length_toList]; rfl
  rw [e1, e2, Bool.eq_iff_iff, List.isPrefixOf_iff_prefix, List.prefix_iff_eq_take, e3, Bool.and_eq_true, decide_eq_true_iff, beq_iff_eq]
  constructor
  · intro h
    refine ⟨?_, h.symm⟩
    have := congrArg List.length h
    rw [List.length_take, e3, e4] at this
    omega
  · intro h; exact h.2.symm

set_option maxHeartbeats 2000000 in
theorem keysAfter_walk (s t : ByteArray) (w : World) (hM : SomeMax w) (hs : s.size ≤ 140737488351232) (_ht : t.size ≤ 140737488351232) :
    Calls Tryd.prog 3 #[.string s, .string t] w fun e w' => e = .returned (.bool true) ∧ Below w.heap.size w w' := by
  have A := fun w => after_any s w hs
  have hp := pre_eq s t
  have hlt : s.toList = s.data.toList := ByteArray.toList_eq s
  have htt : t.toList = t.data.toList := ByteArray.toList_eq t
  by_cases hk : afterK s.data.toList = 0
  · obtain ⟨a1, a2⟩ := after_no hk
    have hn := after_none s.data.toList t.data.toList hk
    rw [a1, a2] at A
    rw [hp, ← hlt, ← htt] at hn
    clear a1 a2 hk hp hlt htt
    cases l1 : Op.bytesLess t.toList s.toList
    · have h2 := hn l1
      rw [Bool.and_eq_true, decide_eq_true_iff] at h2
      obtain ⟨p1, p2⟩ := h2
      clear hn
      go_enter Tryd.func3, Tryd.ntmps3
      go_wp2_with (first
        | (go_at_call 5; refine (A _).mono ?_; rintro e w1 ⟨rfl, hb1⟩; have hM1 := maxB hM hb1)
        | (go_at_call 6; refine (fixed_any _ hM1).mono ?_; rintro e w2 ⟨rfl, hb2⟩))
      go_ret
      exact ⟨rfl, hb1.trans (hb2.mono hb1.size)⟩
    · clear hn
      by_cases p1 : s.size ≤ t.size
      all_goals
        generalize ((t.extract 0 s.size).toList == s.toList) = p2 at *
        go_enter Tryd.func3, Tryd.ntmps3
        go_wp2_with (first
          | (go_at_call 5; refine (A _).mono ?_; rintro e w1 ⟨rfl, hb1⟩; have hM1 := maxB hM hb1)
          | (go_at_call 6; refine (fixed_any _ hM1).mono ?_; rintro e w2 ⟨rfl, hb2⟩))
        go_ret
        exact ⟨rfl, hb1.trans (hb2.mono hb1.size)⟩
  · obtain ⟨k, hk1⟩ : ∃ k, afterK s.data.toList = k + 1 := ⟨afterK s.data.toList - 1, by omega⟩
    have a2 := (after_yes hk1).2
    have hsome := after_some s.data.toList t.data.toList hk
    rw [a2] at A
    obtain ⟨E, hE⟩ : ∃ E : ByteArray, E = ⟨(afterS s.data.toList).toArray⟩ := ⟨_, rfl⟩
    rw [← hE] at A
    have hE2 : afterS s.data.toList = E.toList := by rw [ByteArray.toList_eq, hE]
    rw [hp, hE2, ← hlt, ← htt] at hsome
    clear a2 hk hk1 hp hlt htt hE hE2
    by_cases p1 : s.size ≤ t.size
    · rw [decide_eq_true p1, Bool.true_and] at hsome
      cases l1 : Op.bytesLess t.toList s.toList
      · cases l2 : Op.bytesLess t.toList E.toList
        all_goals
          rw [l1, l2] at hsome
          simp only [Bool.not_false, Bool.true_and] at hsome
          go_enter Tryd.func3, Tryd.ntmps3
          go_wp2_with (first
            | (go_at_call 5; refine (A _).mono ?_; rintro e w1 ⟨rfl, hb1⟩; have hM1 := maxB hM hb1)
            | (go_at_call 6; refine (fixed_any _ hM1).mono ?_; rintro e w2 ⟨rfl, hb2⟩))
          go_ret
          exact ⟨rfl, hb1.trans (hb2.mono hb1.size)⟩
      · rw [l1] at hsome
        simp only [Bool.not_true, Bool.false_and] at hsome
        go_enter Tryd.func3, Tryd.ntmps3
        go_wp2_with (first
          | (go_at_call 5; refine (A _).mono ?_; rintro e w1 ⟨rfl, hb1⟩; have hM1 := maxB hM hb1)
          | (go_at_call 6; refine (fixed_any _ hM1).mono ?_; rintro e w2 ⟨rfl, hb2⟩))
        go_ret
        exact ⟨rfl, hb1.trans (hb2.mono hb1.size)⟩
    · rw [decide_eq_false p1, Bool.false_and] at hsome
      cases l1 : Op.bytesLess t.toList s.toList
      · have l2 : Op.bytesLess t.toList E.toList = false := by
          rw [l1] at hsome
          simpa using hsome.symm
        clear hsome
        go_enter Tryd.func3, Tryd.ntmps3
        go_wp2_with (first
          | (go_at_call 5; refine (A _).mono ?_; rintro e w1 ⟨rfl, hb1⟩; have hM1 := maxB hM hb1)
          | (go_at_call 6; refine (fixed_any _ hM1).mono ?_; rintro e w2 ⟨rfl, hb2⟩))
        go_ret
        exact ⟨rfl, hb1.trans (hb2.mono hb1.size)⟩
      · clear hsome
        go_enter Tryd.func3, Tryd.ntmps3
        go_wp2_with (first
          | (go_at_call 5; refine (A _).mono ?_; rintro e w1 ⟨rfl, hb1⟩; have hM1 := maxB hM hb1)
          | (go_at_call 6; refine (fixed_any _ hM1).mono ?_; rintro e w2 ⟨rfl, hb2⟩))
        go_ret
        exact ⟨rfl, hb1.trans (hb2.mono hb1.size)⟩
end Go.Proofs.YtghneolphdfdlabDoor
