/- Tokens of whatever bytes. -/
import Derived.Test.YtlabcadpkdgjnaaGreatDoorLxG4
namespace Go.Proofs.YtlabcadpkdgjnaaGreatDoor
open Go Go.RowKit Go.Shelf

theorem leave_one {B : Nat} {tmps : Array Value} {R : Ending → World → Prop} {u : FrameMode} {W : World} (hu : u ≠ .run)
    (h : CallsDIn Fence.wide 2 Tryz.prog 30 #[.pointer (some ⟨B, 0, none⟩), .pointer (some ⟨B + 1, 0, none⟩), .pointer (some ⟨B + 2, 0, none⟩)] u W fun
          | .returned _, u', w' => LeavesInM Fence.wide 3 Tryz.prog Tryz.f14 tmps R [] (settle u') w'
          | .panicked chain, u', w' => LeavesInM Fence.wide 3 Tryz.prog Tryz.f14 tmps R [] (raised u' chain) w'
          | .outgrown, _, w' => R .outgrown w') :
    LeavesInM Fence.wide 3 Tryz.prog Tryz.f14 tmps R [{ target := .fn (.func 30) #[.pointer (some ⟨B, 0, none⟩), .pointer (some ⟨B + 1, 0, none⟩), .pointer (some ⟨B + 2, 0, none⟩)], args := #[] }] u W := by
  refine ⟨hu, .inr ⟨fun h => by simp [Fence.wide] at h, _, _, 30, _, rfl, ?_, fun _ _ => trivial, h⟩⟩
  simp [invoke, go_sem]

set_option maxRecDepth 100000 in
set_option maxHeartbeats 4000000 in
theorem tokens_long (s : Bs) (hs : 16384 < s.length) (w : World) : Calls Tryz.prog 14 #[.string ⟨s.toArray⟩] w (TokensP w (.inl (0, 54))) := by
  have hmf : ∀ (fn : Fn) (first cap : Array Value) (w : World), (Instr.makeFunc fn first cap).run Tryz.prog w = .ok (.func fn first cap) w := fun _ _ _ _ => rfl
  have hsz := size_of s
  have hsI : (16384 : Int) < (s.length : Int) := by omega
  refine (callsIn_wide (n := 3)).1 ?_
  refine callsIn_of_wp_marks Tryz.func14 rfl trivial ?_ rfl
  simp only [Tryz.ntmps14, List.size_toArray, List.length_cons, List.length_nil, Nat.reduceAdd, Nat.reduceSub, Array.replicate_succ, Array.replicate_zero, List.push_toArray, List.append_toArray, List.nil_append, List.cons_append]
  gi_wp2
  have hr0 : Res3 (((w.alloc (.cells #[.slice none 0 0] 37)).alloc (.cells #[.int .i64 0] 3)).alloc (.cells #[.int .i64 0] 26)) w.heap.size (.slice none 0 0) 0 0 := by
    refine ⟨((Boxed.new w _ _).alloc _).alloc _, ?_, ?_⟩
    · have := (Boxed.new (w.alloc (.cells #[.slice none 0 0] 37)) 3 (.int .i64 0)).alloc (.cells #[.int .i64 0] 26)
      rw [World.size_alloc] at this
      exact this
    · have := Boxed.new ((w.alloc (.cells #[.slice none 0 0] 37)).alloc (.cells #[.int .i64 0] 3)) 26 (.int .i64 0)
      rw [World.size_alloc, World.size_alloc] at this
      exact this
  have hb0 : Below w.heap.size w (((w.alloc (.cells #[.slice none 0 0] 37)).alloc (.cells #[.int .i64 0] 3)).alloc (.cells #[.int .i64 0] 26)) :=
    (((Below.refl _ w).alloc (Nat.le_refl _) _).alloc (by simp) _).alloc (by simp; omega) _
  show LeavesInM _ _ _ _ _ _ _ _ _
  refine leave_one (B := w.heap.size) (by simp) ?_
  refine (catch_dies 2 w.heap.size 0 54 _ 0 0 [] _ hr0 ⟨_, _, _, rfl⟩).mono ?_
  rintro e u' w' ⟨rfl, rfl, hr', hb'⟩
  refine ⟨_, res3_run hr' rfl rfl rfl, ?_⟩
  exact ⟨rfl, hb0.trans hb'⟩
theorem tokens_any (s : Bs) (w : World) (gl : Gl w) : Calls Tryz.prog 14 #[.string ⟨s.toArray⟩] w (TokensP w (lexS s)) := by
  unfold lexS
  by_cases h : 16384 < s.length
  · rw [if_pos h]; exact tokens_long s h w
  · rw [if_neg h]; exact tokens_short s (by omega) w gl
end Go.Proofs.YtlabcadpkdgjnaaGreatDoor
