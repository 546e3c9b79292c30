/- The deferred function that recovers. -/
import Derived.Test.YtlabcadpkdgjnaaGreatDoorLxF2
namespace Go.Proofs.YtlabcadpkdgjnaaGreatDoor
open Go Go.RowKit Go.Shelf

set_option maxRecDepth 100000 in
theorem told_any (b : Nat) (x : Int) (w : World) : Calls Tryz.prog 31 #[.iface 75 (.agg #[.int .i64 (b : Int), .int .i64 x])] w fun e w' => e = .returned (.tuple #[.slice none 0 0, .int .i64 (b : Int), .int .i64 x]) ∧ Below w.heap.size w w' := by
  have hta : ∀ w : World, (Instr.typeAssert (.iface 75 (.agg #[.int .i64 (b : Int), .int .i64 x])) 20 75 false).run Tryz.prog w = .ok (.agg #[.int .i64 (b : Int), .int .i64 x]) w := fun _ => by kernel_rfl
  go_enter Tryz.func31, Tryz.ntmps31
  go_wp2
  go_quiet (fail)
  go_wp2
  go_ret3
  exact ⟨rfl, ⟨rfl, rfl, rfl, by simp, fun k hk => Below.heap_alloc w _ k hk⟩⟩

/-- The three results' variables. -/
structure Res3 (W : World) (B : Nat) (v : Value) (y z : Int) : Prop where
  bl : Boxed W B 37 v
  ba : Boxed W (B + 1) 3 (.int .i64 y)
  be : Boxed W (B + 2) 26 (.int .i64 z)
theorem Res3.below {W W' : World} {B C : Nat} {v : Value} {y z : Int} (h : Res3 W B v y z) (hb : Below C W W') (hC : B + 2 < C) : Res3 W' B v y z :=
  ⟨(hb.block B (by omega)).trans h.bl, (hb.block (B + 1) (by omega)).trans h.ba, (hb.block (B + 2) hC).trans h.be⟩
theorem boxed_other {W : World} {B C : Nat} {t : TypeId} {v : Value} (h : Boxed W B t v) (hne : B ≠ C) (i : Nat) (u : Value) : Boxed (W.setCell ⟨C, i, none⟩ u) B t v := (Below.heap_setCell W ⟨C, i, none⟩ u B hne).trans h

set_option maxHeartbeats 1000000 in
theorem catch_dies (n B b : Nat) (x : Int) (v : Value) (y z : Int) (older : List PanicEntry) (W : World) (h : Res3 W B v y z) (hv : ∃ a m c, v = .slice a m c) :
    CallsDIn Fence.wide n Tryz.prog 30 #[.pointer (some ⟨B, 0, none⟩), .pointer (some ⟨B + 1, 0, none⟩), .pointer (some ⟨B + 2, 0, none⟩)] (.panicking ({ v := .iface 75 (.agg #[.int .i64 (b : Int), .int .i64 x]), recovered := false } :: older)) W fun e u' w' =>
      e = .returned (.tuple #[]) ∧ u' = .panicking ({ v := .iface 75 (.agg #[.int .i64 (b : Int), .int .i64 x]), recovered := true } :: older) ∧ Res3 w' B (.slice none 0 0) b x ∧ Below B W w' := by
  obtain ⟨a, m, c, rfl⟩ := hv
  have hn : Fence.wide.depth.isSome = true → 1 ≤ n := fun h => by simp [Fence.wide] at h
  have hlt := h.be.lt
  refine callsDIn_of_wpSIn Tryz.func30 rfl trivial fun c₀ cs hu => ?_
  apply wpSIn_seq
  apply wpSIn_region
  simp [wpOpsSIn, go_sem, recoverD, hu, Tryz.ntmps30, Exit.thenS, Oper.about]
  refine wpSIn_of_wpIn rfl ?_
  gi_wp2_with (refine ⟨trivial, hn, ?_⟩; gi_at_call 31; refine (callsIn_wide.2 (told_any b x _)).mono ?_; rintro e w1 ⟨rfl, hb1⟩; have r1 := h.below hb1 hlt; have d0 := r1.bl.cell; have d1 := r1.ba.cell; have d2 := r1.be.cell; have f0 := r1.bl.frozen; have f1 := r1.ba.frozen; have f2 := r1.be.frozen)
  refine ⟨rfl, _, rfl, .tuple #[], results_none rfl _ _ _, rfl, rfl, ⟨?_, ?_, ?_⟩, ?_⟩
  · exact boxed_other (boxed_other (r1.bl.set _) (by omega) _ _) (by omega) _ _
  · exact boxed_other ((boxed_other r1.ba (by omega) _ _).set _) (by omega) _ _
  · exact (boxed_other (boxed_other r1.be (by omega) _ _) (by omega) _ _).set _
  · have hbB : Below B W w1 := hb1.mono (by omega)
    exact ((hbB.setCell (p := ⟨B, 0, none⟩) (Nat.le_refl _) _).setCell (p := ⟨B + 1, 0, none⟩) (Nat.le_succ _) _).setCell (p := ⟨B + 2, 0, none⟩) (by show B ≤ B + 2; omega) _
theorem catch_idle (n B : Nat) (W : World) :
    CallsDIn Fence.wide n Tryz.prog 30 #[.pointer (some ⟨B, 0, none⟩), .pointer (some ⟨B + 1, 0, none⟩), .pointer (some ⟨B + 2, 0, none⟩)] .returning W fun e u' w' => e = .returned (.tuple #[]) ∧ u' = .returning ∧ w' = W := by
  refine callsDIn_of_wpSIn Tryz.func30 rfl trivial fun c₀ cs hu => ?_
  apply wpSIn_seq
  apply wpSIn_region
  simp [wpOpsSIn, go_sem, recoverD, hu, Tryz.ntmps30, Exit.thenS, Oper.about]
  refine wpSIn_of_wpIn rfl ?_
  gi_wp2
  refine ⟨rfl, .returning, ?_, .tuple #[], results_none rfl _ _ _, rfl, rfl, rfl⟩
  cases c₀
  simp_all
end Go.Proofs.YtlabcadpkdgjnaaGreatDoor
