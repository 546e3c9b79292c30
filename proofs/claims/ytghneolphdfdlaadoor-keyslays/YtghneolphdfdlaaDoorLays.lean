/- The bytes of any parts, or that they may not be a key's: the walk of the statement. -/
import Derived.Test.YtghneolphdfdlaaDoorQEnc
import Derived.Test.YtghneolphdfdlaaDoorFixed
namespace Go.Proofs.YtghneolphdfdlaaDoor
open Go Go.RowKit

theorem four_b {w w1 w2 w3 w4 : World} (h1 : Below w.heap.size w w1) (h2 : Below w1.heap.size w1 w2) (h3 : Below w2.heap.size w2 w3) (h4 : Below w3.heap.size w3 w4) : Below w.heap.size w w4 := by
  have a := h1.trans (h2.mono h1.size)
  have b := a.trans (h3.mono a.size)
  exact b.trans (h4.mono b.size)
theorem eqL (l : List UInt8) : ((ByteArray.mk l.toArray).toList == (ByteArray.mk l.toArray).toList) = true := by simp

set_option maxHeartbeats 2000000 in
theorem keysLays_walk (v : Value) (ps : List Pt) (w : World) (hp : PartsAt w v ps) (hW : Words ps) (hM : SomeMax w) (hl : ps.length ≤ 1099511627776000) :
    Calls Tryd.prog 3 #[v] w fun e w' => e = .returned (.bool true) ∧ Below w.heap.size w w' := by
  have CK := fun w1 (h : PartsAt w1 v ps) => check_any v ps w1 h hW
  cases k : keyB ps
  · have E1 := encode_no v ps w hp hW k
    have E2 := fun w1 (h : PartsAt w1 v ps) => qencode_no v ps w1 h hl k
    rw [check_no k] at CK
    clear k
    go_enter Tryd.func3, Tryd.ntmps3
    go_wp2_with (first
      | (go_at_call 9; refine E1.mono ?_; rintro e w1 ⟨rfl, hb1⟩; have hM1 := maxB hM hb1; have hp1 := hp.below hb1)
      | (go_at_call 10; refine (E2 _ hp1).mono ?_; rintro e w2 ⟨rfl, hb2⟩; have hM2 := maxB hM1 hb2; have hp2 := hp1.below hb2)
      | (go_at_call 11; refine (fixed_any _ hM2).mono ?_; rintro e w3 ⟨rfl, hb3⟩; have hp3 := hp2.below hb3)
      | (go_at_call 12; refine (CK _ hp3).mono ?_; rintro e w4 ⟨rfl, hb4⟩))
    go_ret
    exact ⟨rfl, four_b hb1 hb2 hb3 hb4⟩
  · have E1 := encode_yes v ps w hp hW hM k
    have E2 := fun w1 (h : PartsAt w1 v ps) => qencode_yes v ps w1 h hW k
    rw [check_yes k] at CK
    have hq := eqL (encL ps)
    generalize ByteArray.mk (encL ps).toArray = S at E1 E2 hq
    clear k
    go_enter Tryd.func3, Tryd.ntmps3
    go_wp2_with (first
      | (go_at_call 9; refine E1.mono ?_; rintro e w1 ⟨rfl, hb1⟩; have hM1 := maxB hM hb1; have hp1 := hp.below hb1)
      | (go_at_call 10; refine (E2 _ hp1).mono ?_; rintro e w2 ⟨rfl, hb2⟩; have hM2 := maxB hM1 hb2; have hp2 := hp1.below hb2)
      | (go_at_call 11; refine (fixed_any _ hM2).mono ?_; rintro e w3 ⟨rfl, hb3⟩; have hp3 := hp2.below hb3)
      | (go_at_call 12; refine (CK _ hp3).mono ?_; rintro e w4 ⟨rfl, hb4⟩))
    go_ret
    exact ⟨rfl, four_b hb1 hb2 hb3 hb4⟩
end Go.Proofs.YtghneolphdfdlaaDoor
