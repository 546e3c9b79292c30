/- What a raw text says and how a text is quoted, by the program and by the document: the law's own walk. -/
import Derived.Test.YtlndpghkcbnmcaaGreatDoorLxFx
import Derived.Test.YtlndpghkcbnmcaaGreatDoorLxV6
namespace Go.Proofs.YtlndpghkcbnmcaaGreatDoor
open Go Go.RowKit
set_option maxRecDepth 100000 in
set_option maxHeartbeats 4000000 in
theorem lexTexts_walk (s : Bs) (hs : s.length ≤ 1048576) (w : World) (gl : Gl w) (hz : Tz w) : Calls Tryz.prog 4 #[.string ⟨s.toArray⟩] w fun e w' => e = .returned (.bool true) ∧ Below w.heap.size w w' := by
  have ok : Ok w w := ⟨Below.refl _ _, gl, hz⟩
  have F := fixed_any w gl hz
  have B := fun w g => block_any s hs w g
  have XB := fun w => xblock_any s hs w
  have Q := fun w g => quote_any s hs w g
  have XQ := fun w => xquote_any s hs w
  unfold PostB at XB
  clear gl hz hs
  generalize (ByteArray.mk (blockS s).toArray) = BB at *
  generalize (ByteArray.mk (quoS s).toArray) = QQ at *
  generalize (ByteArray.mk s.toArray) = D at *
  go_enter Tryz.func4, Tryz.ntmps4
  go_wp2_with (first
    | (go_at_call 16; refine (XQ _).mono ?_; rintro e w5 ⟨rfl, hb5⟩; have ok5 := ok4.go hb5)
    | (go_at_call 15; refine (Q _ ok3.tz).mono ?_; rintro e w4 ⟨rfl, hb4⟩; have ok4 := ok3.go hb4)
    | (go_at_call 14; refine (XB _).mono ?_; rintro e w3 ⟨rfl, hb3⟩; have ok3 := ok2.go hb3)
    | (go_at_call 13; refine (B _ ok1.gl).mono ?_; rintro e w2 ⟨rfl, hb2⟩; have ok2 := ok1.go hb2)
    | (go_at_call 12; refine F.mono ?_; rintro e w1 ⟨rfl, hb1⟩; have ok1 := ok.go hb1)
    | fail)
  go_ret
  exact ⟨by first | rfl | simp, ok5.bel⟩
end Go.Proofs.YtlndpghkcbnmcaaGreatDoor
