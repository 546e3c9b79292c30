/- A schema that may be written is read from its text as what it was; whatever is read may be written, unless that is too long, and is read from its text as it: for any schema and any string, together of bulk at most 1048576; the listed package variables are as the program's text lays them (tied). -/
import Derived.Test.YtglpabfjnngbnaaGreatDoorE7
import Derived.Test.YtglpabfjnngbnaaGreatDoorE6
import Derived.Test.YtglpabfjnngbnaaGreatDoorRows
import Derived.Test.YtglpabfjnngbnaaGreatDoorE5
import Derived.Deep.Slices
import Derived.OpenShut
import Derived.ProofKit
import Derived.SizedLaws
import Derived.Test.YtglpabfjnngbnaaGreatDoorTie
import Derived.Test.YtglpabfjnngbnaaGreatDoorCards
import Derived.Test.YtglpabfjnngbnaaGreatDoorSyLd
import Derived.ShutString
import Derived.LaidMore
import Derived.Lay
import Derived.SevenTiedAt
import Derived.Stop.Joined
import Derived.Shelf.Vars
import Derived.Carry
import Derived.Deep.DeepHandedRow
namespace Go.Proofs.YtglpabfjnngbnaaGreatDoor
open Go Go.RowKit Go.Shelf
theorem prn_none {s : Sch} {ov ev : Value} {w : World} (h : printD s = none) (hS : SchAt w ov ev s) (L : SchL s) (gl : Gl w) : Calls Tryz.prog 12 #[.agg #[ov, ev]] w fun e w' => e = .returned (.tuple #[.string ⟨#[]⟩, .int .i64 81]) ∧ Below w.heap.size w w' := by
  have P := dprint_any s ov ev w hS L gl
  rw [h] at P
  exact P.mono fun e w' h => h
theorem prn_some {s : Sch} {t : Bs} {ov ev : Value} {w : World} (h : printD s = some t) (hS : SchAt w ov ev s) (L : SchL s) (gl : Gl w) : Calls Tryz.prog 12 #[.agg #[ov, ev]] w fun e w' => e = .returned (.tuple #[.string ⟨t.toArray⟩, .int .i64 0]) ∧ Below w.heap.size w w' := by
  have P := dprint_any s ov ev w hS L gl
  rw [h] at P
  exact P.mono fun e w' h => h
theorem par_ok {t : Bs} {x : Sch} {w : World} (h : parseD t = .ok x) (gl : Gl w) : Calls Tryz.prog 8 #[.string ⟨t.toArray⟩] w fun e w' => ∃ p1 n1 m1 p2 n2 m2, e = .returned (.tuple #[.agg #[.slice p1 n1 m1, .slice p2 n2 m2], .int .i64 0, .int .i64 0]) ∧ SchAt w' (.slice p1 n1 m1) (.slice p2 n2 m2) x ∧ Below w.heap.size w w' := by
  refine (dparse_at t w gl).mono ?_
  rintro e w' (⟨p, hp, _⟩ | ⟨y, p1, n1, m1, p2, n2, m2, hp, he, hs, hb⟩)
  · rw [h] at hp
    cases hp.out
  · rw [h] at hp
    have := hp.out
    cases this
    exact ⟨p1, n1, m1, p2, n2, m2, he, hs, hb⟩
theorem par_err {t : Bs} {p : Nat × Int} {w : World} (h : parseD t = .error p) (gl : Gl w) : Calls Tryz.prog 8 #[.string ⟨t.toArray⟩] w fun e w' => e = .returned (.tuple #[.agg #[.slice none 0 0, .slice none 0 0], .int .i64 (p.1 : Int), .int .i64 p.2]) ∧ Below w.heap.size w w' := by
  refine (dparse_any t w gl).mono ?_
  rintro e w' ⟨hm, hb⟩
  rw [h] at hm
  exact ⟨hm, hb⟩
theorem blo {w0 w1 w2 : World} (h : Below w0.heap.size w0 w1) (hb : Below w1.heap.size w1 w2) : Below w0.heap.size w0 w2 := h.trans (hb.mono h.size)
set_option maxRecDepth 100000 in
set_option maxHeartbeats 8000000 in
theorem back_noneerr (s : Sch) (x : Bs) (ov ev : Value) (w : World) (hS : SchAt w ov ev s) (L : SchL s) (h1 : printD s = none) (p : Nat × Int) (h2 : parseD x = .error p) (hp : (p.2 == 0) = false) (gl : Gl w) : Calls Tryz.prog 5 #[.agg #[ov, ev], .string ⟨x.toArray⟩] w fun e w' => e = .returned (.bool true) ∧ Below w.heap.size w w' := by
  obtain ⟨ao, co, rfl, _, _⟩ := slD hS.os
  obtain ⟨ae, ce, rfl, _, _⟩ := slD hS.es
  obtain ⟨w0, hw0⟩ : ∃ w0, w0 = w.alloc (.cells #[.slice ao s.os.length co, .slice ae s.es.length ce] 25) := ⟨_, rfl⟩
  have b0 : Below w.heap.size w w0 := by rw [hw0]; exact al1 w _
  have S0 := hS.on b0
  have gl0 := gl.on b0
  have P0 : w0.heap[w.heap.size]? = some (.cells #[.slice ao s.os.length co, .slice ae s.es.length ce] 25 (0, 0)) := by rw [hw0]; exact heap_alloc_new w _
  have A : Hid (∀ W, Below w0.heap.size w0 W → W.cell? ⟨w.heap.size, 0, none⟩ = some (.slice ao s.os.length co) ∧ W.cell? ⟨w.heap.size, 1, none⟩ = some (.slice ae s.es.length ce)) := fun W F => row2' ((F.block _ (lt_of_block P0)).trans P0)
  clear P0 hS gl
  go_enter Tryz.func5, Tryz.ntmps5
  go_wp2_with (first
    | (go_at_call 11; (with_reducible refine (dsame_eq (nil_At _) (nil_At _)).mono ?_); rintro e w6 ⟨rfl, b6⟩; have B6 := blo B5 b6)
    | (go_at_call 8; (with_reducible refine (par_err h2 gl2).mono ?_); rintro e w5 ⟨rfl, b5⟩; have B5 := blo (blo B2 b5) (al1 w5 (.cells #[.slice none 0 0, .slice none 0 0] 25)))
    | (go_at_call 10; (with_reducible refine (dfixed_any _ gl1).mono ?_); rintro e w2 ⟨rfl, b2⟩; have B2 := blo B1 b2; have gl2 := gl1.on b2; obtain ⟨c0_2, c1_2⟩ := A.out _ B2)
    | (go_at_call 12; rw [← hw0]; (with_reducible refine (prn_none h1 S0 L gl0).mono ?_); rintro e w1 ⟨rfl, b1⟩; have B1 := b1; have gl1 := gl0.on b1; obtain ⟨c0_1, c1_1⟩ := A.out _ B1)
    | fail)
  go_ret
  exact ⟨rfl, blo b0 B6⟩
set_option maxRecDepth 100000 in
set_option maxHeartbeats 8000000 in
theorem back_nonenop (s : Sch) (x : Bs) (ov ev : Value) (w : World) (hS : SchAt w ov ev s) (L : SchL s) (h1 : printD s = none) (c : Sch) (h2 : parseD x = .ok c) (Lc : SchL c) (h3 : printD c = none) (hx : 5000 < x.length) (gl : Gl w) : Calls Tryz.prog 5 #[.agg #[ov, ev], .string ⟨x.toArray⟩] w fun e w' => e = .returned (.bool true) ∧ Below w.heap.size w w' := by
  obtain ⟨ao, co, rfl, _, _⟩ := slD hS.os
  obtain ⟨ae, ce, rfl, _, _⟩ := slD hS.es
  obtain ⟨w0, hw0⟩ : ∃ w0, w0 = w.alloc (.cells #[.slice ao s.os.length co, .slice ae s.es.length ce] 25) := ⟨_, rfl⟩
  have b0 : Below w.heap.size w w0 := by rw [hw0]; exact al1 w _
  have S0 := hS.on b0
  have gl0 := gl.on b0
  have P0 : w0.heap[w.heap.size]? = some (.cells #[.slice ao s.os.length co, .slice ae s.es.length ce] 25 (0, 0)) := by rw [hw0]; exact heap_alloc_new w _
  have A : Hid (∀ W, Below w0.heap.size w0 W → W.cell? ⟨w.heap.size, 0, none⟩ = some (.slice ao s.os.length co) ∧ W.cell? ⟨w.heap.size, 1, none⟩ = some (.slice ae s.es.length ce)) := fun W F => row2' ((F.block _ (lt_of_block P0)).trans P0)
  have hx2 : (5000 : Int) < (x.length : Int) := by omega
  clear P0 hS gl
  go_enter Tryz.func5, Tryz.ntmps5
  go_wp2_with (first
    | (go_at_call 12; (with_reducible refine (prn_none h3 T5 Lc gl5).mono ?_); rintro e w6 ⟨rfl, b6⟩; have B6 := blo B5 b6; have gl6 := gl5.on b6; have T6 := T5.on b6; have R6 := (b6.block _ (lt_of_block R5)).trans R5)
    | (go_at_call 8; (with_reducible refine (par_ok h2 gl2).mono ?_); rintro e w5 ⟨p5, n5, m5, q5, k5, l5, rfl, S5, b5⟩; have B5 := blo (blo B2 b5) (al1 w5 (.cells #[.slice p5 n5 m5, .slice q5 k5 l5] 25)); have gl5 := (gl2.on b5).alloc (.cells #[.slice p5 n5 m5, .slice q5 k5 l5] 25); have T5 := S5.on (al1 w5 (.cells #[.slice p5 n5 m5, .slice q5 k5 l5] 25)); have R5 := heap_alloc_new w5 (.cells #[.slice p5 n5 m5, .slice q5 k5 l5] 25); obtain ⟨c0_5, c1_5⟩ := A.out _ B5)
    | (go_at_call 10; (with_reducible refine (dfixed_any _ gl1).mono ?_); rintro e w2 ⟨rfl, b2⟩; have B2 := blo B1 b2; have gl2 := gl1.on b2; obtain ⟨c0_2, c1_2⟩ := A.out _ B2)
    | (go_at_call 12; rw [← hw0]; (with_reducible refine (prn_none h1 S0 L gl0).mono ?_); rintro e w1 ⟨rfl, b1⟩; have B1 := b1; have gl1 := gl0.on b1; obtain ⟨c0_1, c1_1⟩ := A.out _ B1)
    | fail)
  go_ret
  exact ⟨rfl, blo b0 B6⟩
set_option maxRecDepth 100000 in
set_option maxHeartbeats 8000000 in
theorem back_noneyes (s : Sch) (x : Bs) (ov ev : Value) (w : World) (hS : SchAt w ov ev s) (L : SchL s) (h1 : printD s = none) (c : Sch) (h2 : parseD x = .ok c) (Lc : SchL c) (u : Bs) (h3 : printD c = some u) (h3b : parseD u = .ok c) (gl : Gl w) : Calls Tryz.prog 5 #[.agg #[ov, ev], .string ⟨x.toArray⟩] w fun e w' => e = .returned (.bool true) ∧ Below w.heap.size w w' := by
  obtain ⟨ao, co, rfl, _, _⟩ := slD hS.os
  obtain ⟨ae, ce, rfl, _, _⟩ := slD hS.es
  obtain ⟨w0, hw0⟩ : ∃ w0, w0 = w.alloc (.cells #[.slice ao s.os.length co, .slice ae s.es.length ce] 25) := ⟨_, rfl⟩
  have b0 : Below w.heap.size w w0 := by rw [hw0]; exact al1 w _
  have S0 := hS.on b0
  have gl0 := gl.on b0
  have P0 : w0.heap[w.heap.size]? = some (.cells #[.slice ao s.os.length co, .slice ae s.es.length ce] 25 (0, 0)) := by rw [hw0]; exact heap_alloc_new w _
  have A : Hid (∀ W, Below w0.heap.size w0 W → W.cell? ⟨w.heap.size, 0, none⟩ = some (.slice ao s.os.length co) ∧ W.cell? ⟨w.heap.size, 1, none⟩ = some (.slice ae s.es.length ce)) := fun W F => row2' ((F.block _ (lt_of_block P0)).trans P0)
  clear P0 hS gl
  go_enter Tryz.func5, Tryz.ntmps5
  go_wp2_with (first
    | (go_at_call 11; (with_reducible refine (dsame_eq T7 ((T6.on b7).on (al1 w7 (.cells #[.slice p7 n7 m7, .slice q7 k7 l7] 25)))).mono ?_); rintro e w8 ⟨rfl, b8⟩; have B8 := blo B7 b8)
    | (go_at_call 8; (with_reducible refine (par_ok h3b gl6).mono ?_); rintro e w7 ⟨p7, n7, m7, q7, k7, l7, rfl, S7, b7⟩; have B7 := blo (blo B6 b7) (al1 w7 (.cells #[.slice p7 n7 m7, .slice q7 k7 l7] 25)); have gl7 := (gl6.on b7).alloc (.cells #[.slice p7 n7 m7, .slice q7 k7 l7] 25); have T7 := S7.on (al1 w7 (.cells #[.slice p7 n7 m7, .slice q7 k7 l7] 25)); have R7 := heap_alloc_new w7 (.cells #[.slice p7 n7 m7, .slice q7 k7 l7] 25); obtain ⟨c0_7, c1_7⟩ := A.out _ B7; have U7 := ((al1 w7 (.cells #[.slice p7 n7 m7, .slice q7 k7 l7] 25)).block _ (Nat.lt_of_lt_of_le (lt_of_block R6) b7.size)).trans ((b7.block _ (lt_of_block R6)).trans R6); obtain ⟨d0, d1⟩ := row2' U7)
    | (go_at_call 12; (with_reducible refine (prn_some h3 T5 Lc gl5).mono ?_); rintro e w6 ⟨rfl, b6⟩; have B6 := blo B5 b6; have gl6 := gl5.on b6; have T6 := T5.on b6; have R6 := (b6.block _ (lt_of_block R5)).trans R5)
    | (go_at_call 8; (with_reducible refine (par_ok h2 gl2).mono ?_); rintro e w5 ⟨p5, n5, m5, q5, k5, l5, rfl, S5, b5⟩; have B5 := blo (blo B2 b5) (al1 w5 (.cells #[.slice p5 n5 m5, .slice q5 k5 l5] 25)); have gl5 := (gl2.on b5).alloc (.cells #[.slice p5 n5 m5, .slice q5 k5 l5] 25); have T5 := S5.on (al1 w5 (.cells #[.slice p5 n5 m5, .slice q5 k5 l5] 25)); have R5 := heap_alloc_new w5 (.cells #[.slice p5 n5 m5, .slice q5 k5 l5] 25); obtain ⟨c0_5, c1_5⟩ := A.out _ B5)
    | (go_at_call 10; (with_reducible refine (dfixed_any _ gl1).mono ?_); rintro e w2 ⟨rfl, b2⟩; have B2 := blo B1 b2; have gl2 := gl1.on b2; obtain ⟨c0_2, c1_2⟩ := A.out _ B2)
    | (go_at_call 12; rw [← hw0]; (with_reducible refine (prn_none h1 S0 L gl0).mono ?_); rintro e w1 ⟨rfl, b1⟩; have B1 := b1; have gl1 := gl0.on b1; obtain ⟨c0_1, c1_1⟩ := A.out _ B1)
    | fail)
  go_ret
  exact ⟨rfl, blo b0 B8⟩
set_option maxRecDepth 100000 in
set_option maxHeartbeats 8000000 in
theorem back_someerr (s : Sch) (x : Bs) (ov ev : Value) (w : World) (hS : SchAt w ov ev s) (L : SchL s) (t : Bs) (h1 : printD s = some t) (h1b : parseD t = .ok s) (p : Nat × Int) (h2 : parseD x = .error p) (hp : (p.2 == 0) = false) (gl : Gl w) : Calls Tryz.prog 5 #[.agg #[ov, ev], .string ⟨x.toArray⟩] w fun e w' => e = .returned (.bool true) ∧ Below w.heap.size w w' := by
  obtain ⟨ao, co, rfl, _, _⟩ := slD hS.os
  obtain ⟨ae, ce, rfl, _, _⟩ := slD hS.es
  obtain ⟨w0, hw0⟩ : ∃ w0, w0 = w.alloc (.cells #[.slice ao s.os.length co, .slice ae s.es.length ce] 25) := ⟨_, rfl⟩
  have b0 : Below w.heap.size w w0 := by rw [hw0]; exact al1 w _
  have S0 := hS.on b0
  have gl0 := gl.on b0
  have P0 : w0.heap[w.heap.size]? = some (.cells #[.slice ao s.os.length co, .slice ae s.es.length ce] 25 (0, 0)) := by rw [hw0]; exact heap_alloc_new w _
  have A : Hid (∀ W, Below w0.heap.size w0 W → W.cell? ⟨w.heap.size, 0, none⟩ = some (.slice ao s.os.length co) ∧ W.cell? ⟨w.heap.size, 1, none⟩ = some (.slice ae s.es.length ce)) := fun W F => row2' ((F.block _ (lt_of_block P0)).trans P0)
  clear P0 hS gl
  go_enter Tryz.func5, Tryz.ntmps5
  go_wp2_with (first
    | (go_at_call 11; (with_reducible refine (dsame_eq (nil_At _) (nil_At _)).mono ?_); rintro e w6 ⟨rfl, b6⟩; have B6 := blo B5 b6)
    | (go_at_call 8; (with_reducible refine (par_err h2 gl4).mono ?_); rintro e w5 ⟨rfl, b5⟩; have B5 := blo (blo B4 b5) (al1 w5 (.cells #[.slice none 0 0, .slice none 0 0] 25)))
    | (go_at_call 11; (with_reducible refine (dsame_eq T3 (S0.on B3)).mono ?_); rintro e w4 ⟨rfl, b4⟩; have B4 := blo B3 b4; have gl4 := gl3.on b4; obtain ⟨c0_4, c1_4⟩ := A.out _ B4)
    | (go_at_call 8; (with_reducible refine (par_ok h1b gl2).mono ?_); rintro e w3 ⟨p3, n3, m3, q3, k3, l3, rfl, S3, b3⟩; have B3 := blo (blo B2 b3) (al1 w3 (.cells #[.slice p3 n3 m3, .slice q3 k3 l3] 25)); have gl3 := (gl2.on b3).alloc (.cells #[.slice p3 n3 m3, .slice q3 k3 l3] 25); have T3 := S3.on (al1 w3 (.cells #[.slice p3 n3 m3, .slice q3 k3 l3] 25)); have R3 := heap_alloc_new w3 (.cells #[.slice p3 n3 m3, .slice q3 k3 l3] 25); obtain ⟨c0_3, c1_3⟩ := A.out _ B3)
    | (go_at_call 10; (with_reducible refine (dfixed_any _ gl1).mono ?_); rintro e w2 ⟨rfl, b2⟩; have B2 := blo B1 b2; have gl2 := gl1.on b2; obtain ⟨c0_2, c1_2⟩ := A.out _ B2)
    | (go_at_call 12; rw [← hw0]; (with_reducible refine (prn_some h1 S0 L gl0).mono ?_); rintro e w1 ⟨rfl, b1⟩; have B1 := b1; have gl1 := gl0.on b1; obtain ⟨c0_1, c1_1⟩ := A.out _ B1)
    | fail)
  go_ret
  exact ⟨rfl, blo b0 B6⟩
set_option maxRecDepth 100000 in
set_option maxHeartbeats 8000000 in
theorem back_somenop (s : Sch) (x : Bs) (ov ev : Value) (w : World) (hS : SchAt w ov ev s) (L : SchL s) (t : Bs) (h1 : printD s = some t) (h1b : parseD t = .ok s) (c : Sch) (h2 : parseD x = .ok c) (Lc : SchL c) (h3 : printD c = none) (hx : 5000 < x.length) (gl : Gl w) : Calls Tryz.prog 5 #[.agg #[ov, ev], .string ⟨x.toArray⟩] w fun e w' => e = .returned (.bool true) ∧ Below w.heap.size w w' := by
  obtain ⟨ao, co, rfl, _, _⟩ := slD hS.os
  obtain ⟨ae, ce, rfl, _, _⟩ := slD hS.es
  obtain ⟨w0, hw0⟩ : ∃ w0, w0 = w.alloc (.cells #[.slice ao s.os.length co, .slice ae s.es.length ce] 25) := ⟨_, rfl⟩
  have b0 : Below w.heap.size w w0 := by rw [hw0]; exact al1 w _
  have S0 := hS.on b0
  have gl0 := gl.on b0
  have P0 : w0.heap[w.heap.size]? = some (.cells #[.slice ao s.os.length co, .slice ae s.es.length ce] 25 (0, 0)) := by rw [hw0]; exact heap_alloc_new w _
  have A : Hid (∀ W, Below w0.heap.size w0 W → W.cell? ⟨w.heap.size, 0, none⟩ = some (.slice ao s.os.length co) ∧ W.cell? ⟨w.heap.size, 1, none⟩ = some (.slice ae s.es.length ce)) := fun W F => row2' ((F.block _ (lt_of_block P0)).trans P0)
  have hx2 : (5000 : Int) < (x.length : Int) := by omega
  clear P0 hS gl
  go_enter Tryz.func5, Tryz.ntmps5
  go_wp2_with (first
    | (go_at_call 12; (with_reducible refine (prn_none h3 T5 Lc gl5).mono ?_); rintro e w6 ⟨rfl, b6⟩; have B6 := blo B5 b6; have gl6 := gl5.on b6; have T6 := T5.on b6; have R6 := (b6.block _ (lt_of_block R5)).trans R5)
    | (go_at_call 8; (with_reducible refine (par_ok h2 gl4).mono ?_); rintro e w5 ⟨p5, n5, m5, q5, k5, l5, rfl, S5, b5⟩; have B5 := blo (blo B4 b5) (al1 w5 (.cells #[.slice p5 n5 m5, .slice q5 k5 l5] 25)); have gl5 := (gl4.on b5).alloc (.cells #[.slice p5 n5 m5, .slice q5 k5 l5] 25); have T5 := S5.on (al1 w5 (.cells #[.slice p5 n5 m5, .slice q5 k5 l5] 25)); have R5 := heap_alloc_new w5 (.cells #[.slice p5 n5 m5, .slice q5 k5 l5] 25); obtain ⟨c0_5, c1_5⟩ := A.out _ B5)
    | (go_at_call 11; (with_reducible refine (dsame_eq T3 (S0.on B3)).mono ?_); rintro e w4 ⟨rfl, b4⟩; have B4 := blo B3 b4; have gl4 := gl3.on b4; obtain ⟨c0_4, c1_4⟩ := A.out _ B4)
    | (go_at_call 8; (with_reducible refine (par_ok h1b gl2).mono ?_); rintro e w3 ⟨p3, n3, m3, q3, k3, l3, rfl, S3, b3⟩; have B3 := blo (blo B2 b3) (al1 w3 (.cells #[.slice p3 n3 m3, .slice q3 k3 l3] 25)); have gl3 := (gl2.on b3).alloc (.cells #[.slice p3 n3 m3, .slice q3 k3 l3] 25); have T3 := S3.on (al1 w3 (.cells #[.slice p3 n3 m3, .slice q3 k3 l3] 25)); have R3 := heap_alloc_new w3 (.cells #[.slice p3 n3 m3, .slice q3 k3 l3] 25); obtain ⟨c0_3, c1_3⟩ := A.out _ B3)
    | (go_at_call 10; (with_reducible refine (dfixed_any _ gl1).mono ?_); rintro e w2 ⟨rfl, b2⟩; have B2 := blo B1 b2; have gl2 := gl1.on b2; obtain ⟨c0_2, c1_2⟩ := A.out _ B2)
    | (go_at_call 12; rw [← hw0]; (with_reducible refine (prn_some h1 S0 L gl0).mono ?_); rintro e w1 ⟨rfl, b1⟩; have B1 := b1; have gl1 := gl0.on b1; obtain ⟨c0_1, c1_1⟩ := A.out _ B1)
    | fail)
  go_ret
  exact ⟨rfl, blo b0 B6⟩
set_option maxRecDepth 100000 in
set_option maxHeartbeats 8000000 in
theorem back_someyes (s : Sch) (x : Bs) (ov ev : Value) (w : World) (hS : SchAt w ov ev s) (L : SchL s) (t : Bs) (h1 : printD s = some t) (h1b : parseD t = .ok s) (c : Sch) (h2 : parseD x = .ok c) (Lc : SchL c) (u : Bs) (h3 : printD c = some u) (h3b : parseD u = .ok c) (gl : Gl w) : Calls Tryz.prog 5 #[.agg #[ov, ev], .string ⟨x.toArray⟩] w fun e w' => e = .returned (.bool true) ∧ Below w.heap.size w w' := by
  obtain ⟨ao, co, rfl, _, _⟩ := slD hS.os
  obtain ⟨ae, ce, rfl, _, _⟩ := slD hS.es
  obtain ⟨w0, hw0⟩ : ∃ w0, w0 = w.alloc (.cells #[.slice ao s.os.length co, .slice ae s.es.length ce] 25) := ⟨_, rfl⟩
  have b0 : Below w.heap.size w w0 := by rw [hw0]; exact al1 w _
  have S0 := hS.on b0
  have gl0 := gl.on b0
  have P0 : w0.heap[w.heap.size]? = some (.cells #[.slice ao s.os.length co, .slice ae s.es.length ce] 25 (0, 0)) := by rw [hw0]; exact heap_alloc_new w _
  have A : Hid (∀ W, Below w0.heap.size w0 W → W.cell? ⟨w.heap.size, 0, none⟩ = some (.slice ao s.os.length co) ∧ W.cell? ⟨w.heap.size, 1, none⟩ = some (.slice ae s.es.length ce)) := fun W F => row2' ((F.block _ (lt_of_block P0)).trans P0)
  clear P0 hS gl
  go_enter Tryz.func5, Tryz.ntmps5
  go_wp2_with (first
    | (go_at_call 11; (with_reducible refine (dsame_eq T7 ((T6.on b7).on (al1 w7 (.cells #[.slice p7 n7 m7, .slice q7 k7 l7] 25)))).mono ?_); rintro e w8 ⟨rfl, b8⟩; have B8 := blo B7 b8)
    | (go_at_call 8; (with_reducible refine (par_ok h3b gl6).mono ?_); rintro e w7 ⟨p7, n7, m7, q7, k7, l7, rfl, S7, b7⟩; have B7 := blo (blo B6 b7) (al1 w7 (.cells #[.slice p7 n7 m7, .slice q7 k7 l7] 25)); have gl7 := (gl6.on b7).alloc (.cells #[.slice p7 n7 m7, .slice q7 k7 l7] 25); have T7 := S7.on (al1 w7 (.cells #[.slice p7 n7 m7, .slice q7 k7 l7] 25)); have R7 := heap_alloc_new w7 (.cells #[.slice p7 n7 m7, .slice q7 k7 l7] 25); obtain ⟨c0_7, c1_7⟩ := A.out _ B7; have U7 := ((al1 w7 (.cells #[.slice p7 n7 m7, .slice q7 k7 l7] 25)).block _ (Nat.lt_of_lt_of_le (lt_of_block R6) b7.size)).trans ((b7.block _ (lt_of_block R6)).trans R6); obtain ⟨d0, d1⟩ := row2' U7)
    | (go_at_call 12; (with_reducible refine (prn_some h3 T5 Lc gl5).mono ?_); rintro e w6 ⟨rfl, b6⟩; have B6 := blo B5 b6; have gl6 := gl5.on b6; have T6 := T5.on b6; have R6 := (b6.block _ (lt_of_block R5)).trans R5)
    | (go_at_call 8; (with_reducible refine (par_ok h2 gl4).mono ?_); rintro e w5 ⟨p5, n5, m5, q5, k5, l5, rfl, S5, b5⟩; have B5 := blo (blo B4 b5) (al1 w5 (.cells #[.slice p5 n5 m5, .slice q5 k5 l5] 25)); have gl5 := (gl4.on b5).alloc (.cells #[.slice p5 n5 m5, .slice q5 k5 l5] 25); have T5 := S5.on (al1 w5 (.cells #[.slice p5 n5 m5, .slice q5 k5 l5] 25)); have R5 := heap_alloc_new w5 (.cells #[.slice p5 n5 m5, .slice q5 k5 l5] 25); obtain ⟨c0_5, c1_5⟩ := A.out _ B5)
    | (go_at_call 11; (with_reducible refine (dsame_eq T3 (S0.on B3)).mono ?_); rintro e w4 ⟨rfl, b4⟩; have B4 := blo B3 b4; have gl4 := gl3.on b4; obtain ⟨c0_4, c1_4⟩ := A.out _ B4)
    | (go_at_call 8; (with_reducible refine (par_ok h1b gl2).mono ?_); rintro e w3 ⟨p3, n3, m3, q3, k3, l3, rfl, S3, b3⟩; have B3 := blo (blo B2 b3) (al1 w3 (.cells #[.slice p3 n3 m3, .slice q3 k3 l3] 25)); have gl3 := (gl2.on b3).alloc (.cells #[.slice p3 n3 m3, .slice q3 k3 l3] 25); have T3 := S3.on (al1 w3 (.cells #[.slice p3 n3 m3, .slice q3 k3 l3] 25)); have R3 := heap_alloc_new w3 (.cells #[.slice p3 n3 m3, .slice q3 k3 l3] 25); obtain ⟨c0_3, c1_3⟩ := A.out _ B3)
    | (go_at_call 10; (with_reducible refine (dfixed_any _ gl1).mono ?_); rintro e w2 ⟨rfl, b2⟩; have B2 := blo B1 b2; have gl2 := gl1.on b2; obtain ⟨c0_2, c1_2⟩ := A.out _ B2)
    | (go_at_call 12; rw [← hw0]; (with_reducible refine (prn_some h1 S0 L gl0).mono ?_); rintro e w1 ⟨rfl, b1⟩; have B1 := b1; have gl1 := gl0.on b1; obtain ⟨c0_1, c1_1⟩ := A.out _ B1)
    | fail)
  go_ret
  exact ⟨rfl, blo b0 B8⟩
theorem back_walk (s : Sch) (x : Bs) (ov ev : Value) (w : World) (hS : SchAt w ov ev s) (L : SchL s) (gl : Gl w) : Calls Tryz.prog 5 #[.agg #[ov, ev], .string ⟨x.toArray⟩] w fun e w' => e = .returned (.bool true) ∧ Below w.heap.size w w' := by
  cases h1 : printD s with
  | none =>
    cases h2 : parseD x with
    | error p => exact back_noneerr s x ov ev w hS L h1 p h2 (by simpa using parseD_bad h2) gl
    | ok c =>
      obtain ⟨Lc, hc⟩ := read_back h2
      cases h3 : printD c with
      | none => exact back_nonenop s x ov ev w hS L h1 c h2 Lc h3 (Nat.lt_of_not_le fun hl => by obtain ⟨u, e⟩ := hc hl; rw [e] at h3; cases h3) gl
      | some u => exact back_noneyes s x ov ev w hS L h1 c h2 Lc u h3 (printD_ok h3) gl
  | some t =>
    cases h2 : parseD x with
    | error p => exact back_someerr s x ov ev w hS L t h1 (printD_ok h1) p h2 (by simpa using parseD_bad h2) gl
    | ok c =>
      obtain ⟨Lc, hc⟩ := read_back h2
      cases h3 : printD c with
      | none => exact back_somenop s x ov ev w hS L t h1 (printD_ok h1) c h2 Lc h3 (Nat.lt_of_not_le fun hl => by obtain ⟨u, e⟩ := hc hl; rw [e] at h3; cases h3) gl
      | some u => exact back_someyes s x ov ev w hS L t h1 (printD_ok h1) c h2 Lc u h3 (printD_ok h3) gl
end Go.Proofs.YtglpabfjnngbnaaGreatDoor
namespace Go.Proofs.YtglpabfjnngbnaaGreatDoor
open Go Go.RowKit Go.ChangeShapes Go.WideShapes Go.Deep
/-- It is of bulk at most 1048576. -/
def Wu {H : Type} (d : DataW H) : Prop := Rows.uptoBulk d ≤ 1048576
theorem bulk_mem {H : Type} {d : DataW H} : ∀ {l : List (DataW H)}, d ∈ l → Rows.uptoBulk d ≤ Rows.uptoBulkAll l
  | x :: r, h => by
    simp only [Rows.uptoBulkAll]
    rcases List.mem_cons.1 h with rfl | h
    · omega
    · have := bulk_mem h
      omega
theorem bulk_pos {H : Type} : ∀ d : DataW H, 1 ≤ Rows.uptoBulk d := by
  intro d
  cases d with
  | lit l => cases l <;> simp [Rows.uptoBulk]
  | _ => simp [Rows.uptoBulk]
theorem bulk_len {H : Type} : ∀ l : List (DataW H), l.length ≤ Rows.uptoBulkAll l
  | [] => Nat.zero_le _
  | x :: r => by
    have h1 := bulk_pos x
    have h2 := bulk_len r
    simp only [Rows.uptoBulkAll, List.length_cons]
    omega
theorem Wu.elem {H : Type} {el sp : List (DataW H)} (h : Wu (.slice el sp)) {d : DataW H} (hd : d ∈ el) : Wu d := by
  have h1 : Rows.uptoBulk (DataW.slice el sp) ≤ 1048576 := h
  have h2 := bulk_mem hd
  simp only [Rows.uptoBulk] at h1
  show Rows.uptoBulk d ≤ 1048576
  omega
theorem Wu.len {H : Type} {el sp : List (DataW H)} (h : Wu (.slice el sp)) : el.length ≤ 140737488355328 := by
  have h1 : Rows.uptoBulk (DataW.slice el sp) ≤ 1048576 := h
  have h2 := bulk_len el
  simp only [Rows.uptoBulk] at h1
  omega
theorem Wu.part {H : Type} {parts : List (DataW H)} (h : Wu (.agg parts)) {j : Nat} {d : DataW H} (hd : parts[j]? = some d) : Wu d := by
  have h1 : Rows.uptoBulk (DataW.agg parts) ≤ 1048576 := h
  have h2 := bulk_mem (List.mem_of_getElem? hd)
  simp only [Rows.uptoBulk] at h1
  show Rows.uptoBulk d ≤ 1048576
  omega
theorem sl_split {α : Type} {w : World} {v : Value} {sz : Nat} {l : List α} {p : α → Nat → Nat → Prop} {Q : α → Prop} (h : Sl w v l.length sz (fun i b o => ∀ a, l[i]? = some a → p a b o ∧ Q a)) : Sl w v l.length sz (fun i b o => ∀ a, l[i]? = some a → p a b o) ∧ ∀ a ∈ l, Q a := by
  refine ⟨h.mono (Nat.le_refl _) fun i b o _ hp a ha => (hp a ha).1, fun a ha => ?_⟩
  obtain ⟨_, _, _, _, _, hr⟩ := h
  obtain ⟨i, hi, e⟩ := List.mem_iff_getElem.1 ha
  obtain ⟨b, o, _, _, hH⟩ := hr (by omega)
  exact (hH i hi a (by rw [List.getElem?_eq_getElem hi, e])).2
section
variable {H : Type} {enc : TypeId × Value → H} {w : World} {base : Nat} {spare : Nat → Bool} {held : Bool}
theorem open_slU {α : Type} {sz : Nat} {t e : TypeId} {p : α → Nat → Nat → Prop} (ht : Tryz.prog.underlying t = some (.slice e)) (hsz : Tryz.prog.cellsOf e = sz) (hs1 : 0 < sz) {fuel : Nat} {cs : List Value} {x : DataW H × List MemPlace} (h : DataW.trod enc Tryz.prog w base spare held fuel t cs = some x) (hw : Wu x.1)
    (each : ∀ (fuel : Nat) (cs : List Value) (y : DataW H × List MemPlace) (b o : Nat), DataW.trod enc Tryz.prog w base spare held fuel e cs = some y → Wu y.1 → cs.length = sz → (∀ j u, cs[j]? = some u → w.cell? ⟨b, o + j, none⟩ = some u) → ∃ a : α, p a b o) :
    ∃ (v : Value) (l : List α), cs = [v] ∧ Sl w v l.length sz (fun i b o => ∀ a, l[i]? = some a → p a b o) := by
  rcases open_slice ht h with ⟨hcs, _⟩ | ⟨ad, len, cap, m, n, D, Pl, hcs, _, hl, hm, hmm, rfl, hx⟩
  · exact ⟨_, [], hcs, _, 0, rfl, Nat.le_refl _, by simp, fun h => absurd h (by simp)⟩
  · have hlm : len ≤ m := by rw [hmm]; split <;> omega
    rw [hsz] at hx
    have hlen47 : len ≤ 140737488355328 := by
      have := hw.len
      simpa using this
    by_cases h0 : len = 0
    · subst h0
      exact ⟨_, [], hcs, some ad, cap, rfl, by simp, by simp, fun h => absurd h (by simp)⟩
    · obtain ⟨b, o, sp⟩ := ad
      have cell : ∀ i, i < len → ∃ cs', DataW.trod enc Tryz.prog w base spare held n e cs' = some (D i, Pl i) ∧ cs'.length = sz ∧ ∀ j, j < sz → w.cell? ((⟨b, o, sp⟩ : Addr).add (i * sz + j)) = cs'[j]? := by
        intro i hi
        obtain ⟨cs', h1, h2⟩ := hx i (by omega)
        obtain ⟨_, hlen, hcell⟩ := World.cells?_some h1
        refine ⟨cs', h2, hlen, fun j hj => ?_⟩
        have := hcell j hj
        rw [add_add] at this
        exact this
      obtain ⟨cs0, _, hl0, hc0⟩ := cell 0 (by omega)
      obtain ⟨u0, hu0⟩ : ∃ u, cs0[0]? = some u := ⟨_, List.getElem?_eq_getElem (by omega)⟩
      have hc00 := (hc0 0 hs1).trans hu0
      have hsp : sp = none := by simpa [Addr.add] using World.cell?_spot hc00
      subst hsp
      have hbl : b < w.heap.size := by
        have := World.block_lt_of_cell? w _ hc00
        simpa [Addr.add] using this
      have each' : ∀ i, i < len → ∃ a : α, p a b (o + i * sz) := by
        intro i hi
        obtain ⟨cs', h1, h2, h3⟩ := cell i hi
        refine each n cs' _ b (o + i * sz) h1 (hw.elem (List.mem_map.2 ⟨i, List.mem_range.2 hi, rfl⟩)) h2 fun j u hj => ?_
        have hjs : j < sz := by
          have := (List.getElem?_eq_some_iff.1 hj).1
          omega
        have h4 := (h3 j hjs).trans hj
        have e4 : (⟨b, o, none⟩ : Addr).add (i * sz + j) = ⟨b, o + i * sz + j, none⟩ := by simp [Addr.add, Nat.add_assoc]
        rw [e4] at h4
        exact h4
      obtain ⟨a0, _⟩ := each' 0 (by omega)
      haveI : Inhabited α := ⟨a0⟩
      obtain ⟨f, hf⟩ := choose_lt each'
      refine ⟨_, (List.range len).map f, hcs, some ⟨b, o, none⟩, cap, by simp, by simpa using hl, by simpa using hlen47, fun _ => ⟨b, o, rfl, hbl, fun i hi a ha => ?_⟩⟩
      have hi : i < len := by simpa using hi
      have hpf : a = f i := by
        simp [hi] at ha
        exact ha.symm
      subst hpf
      exact hf i hi
theorem Tryz.cStrU : Tryz.prog.cellsOf 9 = 1 := by kernel_rfl
theorem Tryz.cFldU : Tryz.prog.cellsOf 63 = 5 := by kernel_rfl
theorem Tryz.cRefU : Tryz.prog.cellsOf 61 = 2 := by kernel_rfl
theorem Tryz.cBoolU : Tryz.prog.cellsOf 4 = 1 := by kernel_rfl
theorem Tryz.cObU : Tryz.prog.cellsOf 58 = 2 := by kernel_rfl
theorem Tryz.cEnU : Tryz.prog.cellsOf 66 = 2 := by kernel_rfl
theorem Tryz.cSchU : Tryz.prog.cellsOf 25 = 2 := by kernel_rfl
theorem Tryz.cFsU : Tryz.prog.cellsOf 56 = 1 := by kernel_rfl
theorem Tryz.cWsU : Tryz.prog.cellsOf 41 = 1 := by kernel_rfl
theorem Tryz.cOsU : Tryz.prog.cellsOf 22 = 1 := by kernel_rfl
theorem Tryz.cEsU : Tryz.prog.cellsOf 23 = 1 := by kernel_rfl
theorem open_strU {fuel : Nat} {cs : List Value} {x : DataW H × List MemPlace} (h : DataW.trod enc Tryz.prog w base spare held fuel 9 cs = some x) (hw : Wu x.1) : ∃ b : Bs, cs = [.string ⟨b.toArray⟩] ∧ b.length ≤ 1048576 := by
  obtain ⟨t, e, ex, _⟩ := DataW.trod_string Tryz.underlying9 h
  refine ⟨t.data.toList, by rw [e], ?_⟩
  have hw' : Rows.uptoBulk x.1 ≤ 1048576 := hw
  rw [ex] at hw'
  simp only [Rows.uptoBulk] at hw'
  omega
set_option maxRecDepth 100000 in
theorem open_fldU {fuel : Nat} {cs : List Value} {x : DataW H × List MemPlace} (h : DataW.trod enc Tryz.prog w base spare held fuel 63 cs = some x) (hw : Wu x.1) :
    ∃ f : Fld, cs = [.string ⟨f.n.toArray⟩, .string ⟨f.t.toArray⟩, .string ⟨f.w.toArray⟩, .bool f.s, .string ⟨f.i.toArray⟩] ∧ FldL f := by
  obtain ⟨xs, n, _, rfl, hl, hxl, hf⟩ := DataW.trod_struct Tryz.underlying63 h
  rw [Tryz.cFldU] at hl
  match xs, hxl, cs, hl with
  | [y0, y1, y2, y3], _, [v0, v1, v2, v3, v4], _ =>
    have g0 := hf 0 _ rfl
    have g1 := hf 1 _ rfl
    have g2 := hf 2 _ rfl
    have g3 := hf 3 _ rfl
    simp [Tryz.cStrU, Tryz.cRefU, Tryz.cBoolU] at g0 g1 g2 g3
    obtain ⟨a0, e0, L0⟩ := open_strU g0 (hw.part (j := 0) rfl)
    have hw1 := hw.part (j := 1) rfl
    obtain ⟨ys, m, _, ey, _, hyl, hg⟩ := DataW.trod_struct Tryz.underlying61 g1
    match ys, hyl, ey with
    | [z0, z1], _, ey =>
      have hw2 : Wu y1.1 := hw1
      rw [ey] at hw2
      have q0 := hg 0 _ rfl
      have q1 := hg 1 _ rfl
      simp [Tryz.cStrU] at q0 q1
      obtain ⟨a1, e1, L1⟩ := open_strU q0 (hw2.part (j := 0) rfl)
      obtain ⟨a2, e2, L2⟩ := open_strU q1 (hw2.part (j := 1) rfl)
      obtain ⟨a3, e3, _, _⟩ := DataW.trod_bool Tryz.underlying4 g2
      obtain ⟨a4, e4, L4⟩ := open_strU g3 (hw.part (j := 3) rfl)
      simp at e0 e1 e2 e3 e4
      exact ⟨⟨a0, a1, a2, a3, a4⟩, by rw [e0, e1, e2, e3, e4], ⟨by show a0.length ≤ _; omega, by show a1.length ≤ _; omega, by show a2.length < _; omega, by show a4.length ≤ _; omega⟩⟩
theorem open_wdsU {fuel : Nat} {cs : List Value} {x : DataW H × List MemPlace} (h : DataW.trod enc Tryz.prog w base spare held fuel 41 cs = some x) (hw : Wu x.1) : ∃ (v : Value) (ws : List Bs), cs = [v] ∧ WdsAt w v ws ∧ ∀ x ∈ ws, x.length ≤ 1048576 := by
  obtain ⟨v, l, e, hl⟩ := open_slU (p := fun (a : Bs) b o => w.cell? ⟨b, o, none⟩ = some (.string ⟨a.toArray⟩) ∧ a.length ≤ 1048576) Tryz.underlying41 Tryz.cStrU (by decide) h hw fun fuel cs y b o hy hwy _ hc => by
    obtain ⟨a, rfl, La⟩ := open_strU hy hwy
    exact ⟨a, hc 0 _ rfl, La⟩
  exact ⟨v, l, e, (sl_split hl).1, (sl_split hl).2⟩
theorem open_fldsU {fuel : Nat} {cs : List Value} {x : DataW H × List MemPlace} (h : DataW.trod enc Tryz.prog w base spare held fuel 56 cs = some x) (hw : Wu x.1) : ∃ (v : Value) (fs : List Fld), cs = [v] ∧ FldsAt w v fs ∧ ∀ f ∈ fs, FldL f := by
  obtain ⟨v, l, e, hl⟩ := open_slU (p := fun (a : Fld) b o => FldAt w a b o ∧ FldL a) Tryz.underlying56 Tryz.cFldU (by decide) h hw fun fuel cs y b o hy hwy _ hc => by
    obtain ⟨f, rfl, Lf⟩ := open_fldU hy hwy
    exact ⟨f, ⟨hc 0 _ rfl, hc 1 _ rfl, hc 2 _ rfl, hc 3 _ rfl, hc 4 _ rfl⟩, Lf⟩
  exact ⟨v, l, e, (sl_split hl).1, (sl_split hl).2⟩
set_option maxRecDepth 100000 in
theorem open_obU {fuel : Nat} {cs : List Value} {x : DataW H × List MemPlace} (h : DataW.trod enc Tryz.prog w base spare held fuel 58 cs = some x) (hw : Wu x.1) :
    ∃ (o : Ob) (fv : Value), cs = [.string ⟨o.n.toArray⟩, fv] ∧ FldsAt w fv o.fs ∧ o.n.length ≤ 1048576 ∧ ∀ f ∈ o.fs, FldL f := by
  obtain ⟨xs, n, _, rfl, hl, hxl, hf⟩ := DataW.trod_struct Tryz.underlying58 h
  rw [Tryz.cObU] at hl
  match xs, hxl, cs, hl with
  | [y0, y1], _, [v0, v1], _ =>
    have g0 := hf 0 _ rfl
    have g1 := hf 1 _ rfl
    simp [Tryz.cStrU, Tryz.cFsU] at g0 g1
    obtain ⟨a0, e0, L0⟩ := open_strU g0 (hw.part (j := 0) rfl)
    obtain ⟨fv, fs, e1, hfs, Lfs⟩ := open_fldsU g1 (hw.part (j := 1) rfl)
    simp at e0 e1
    exact ⟨⟨a0, fs⟩, fv, by rw [e0, e1], hfs, L0, Lfs⟩
set_option maxRecDepth 100000 in
theorem open_enU {fuel : Nat} {cs : List Value} {x : DataW H × List MemPlace} (h : DataW.trod enc Tryz.prog w base spare held fuel 66 cs = some x) (hw : Wu x.1) :
    ∃ (o : En) (fv : Value), cs = [.string ⟨o.n.toArray⟩, fv] ∧ WdsAt w fv o.ws ∧ o.n.length ≤ 1048576 ∧ ∀ x ∈ o.ws, x.length ≤ 1048576 := by
  obtain ⟨xs, n, _, rfl, hl, hxl, hf⟩ := DataW.trod_struct Tryz.underlying66 h
  rw [Tryz.cEnU] at hl
  match xs, hxl, cs, hl with
  | [y0, y1], _, [v0, v1], _ =>
    have g0 := hf 0 _ rfl
    have g1 := hf 1 _ rfl
    simp [Tryz.cStrU, Tryz.cWsU] at g0 g1
    obtain ⟨a0, e0, L0⟩ := open_strU g0 (hw.part (j := 0) rfl)
    obtain ⟨fv, fs, e1, hfs, Lfs⟩ := open_wdsU g1 (hw.part (j := 1) rfl)
    simp at e0 e1
    exact ⟨⟨a0, fs⟩, fv, by rw [e0, e1], hfs, L0, Lfs⟩
theorem open_obsU {fuel : Nat} {cs : List Value} {x : DataW H × List MemPlace} (h : DataW.trod enc Tryz.prog w base spare held fuel 22 cs = some x) (hw : Wu x.1) : ∃ (v : Value) (fs : List Ob), cs = [v] ∧ ObsAt w v fs ∧ ∀ o ∈ fs, o.n.length ≤ 1048576 ∧ ∀ f ∈ o.fs, FldL f := by
  obtain ⟨v, l, e, hl⟩ := open_slU (p := fun (a : Ob) b o => ObAt w a b o ∧ (a.n.length ≤ 1048576 ∧ ∀ f ∈ a.fs, FldL f)) Tryz.underlying22 Tryz.cObU (by decide) h hw fun fuel cs y b o hy hwy _ hc => by
    obtain ⟨f, fv, rfl, hfs, L1, L2⟩ := open_obU hy hwy
    exact ⟨f, ⟨hc 0 _ rfl, fv, hc 1 _ rfl, hfs⟩, L1, L2⟩
  exact ⟨v, l, e, (sl_split hl).1, (sl_split hl).2⟩
theorem open_ensU {fuel : Nat} {cs : List Value} {x : DataW H × List MemPlace} (h : DataW.trod enc Tryz.prog w base spare held fuel 23 cs = some x) (hw : Wu x.1) : ∃ (v : Value) (fs : List En), cs = [v] ∧ EnsAt w v fs ∧ ∀ o ∈ fs, o.n.length ≤ 1048576 ∧ ∀ x ∈ o.ws, x.length ≤ 1048576 := by
  obtain ⟨v, l, e, hl⟩ := open_slU (p := fun (a : En) b o => EnAt w a b o ∧ (a.n.length ≤ 1048576 ∧ ∀ x ∈ a.ws, x.length ≤ 1048576)) Tryz.underlying23 Tryz.cEnU (by decide) h hw fun fuel cs y b o hy hwy _ hc => by
    obtain ⟨f, fv, rfl, hfs, L1, L2⟩ := open_enU hy hwy
    exact ⟨f, ⟨hc 0 _ rfl, fv, hc 1 _ rfl, hfs⟩, L1, L2⟩
  exact ⟨v, l, e, (sl_split hl).1, (sl_split hl).2⟩
set_option maxRecDepth 100000 in
theorem open_schU {fuel : Nat} {cs : List Value} {x : DataW H × List MemPlace} (h : DataW.trod enc Tryz.prog w base spare held fuel 25 cs = some x) (hw : Wu x.1) :
    ∃ (s : Sch) (ov ev : Value), cs = [ov, ev] ∧ SchAt w ov ev s ∧ SchL s := by
  obtain ⟨xs, n, _, rfl, hl, hxl, hf⟩ := DataW.trod_struct Tryz.underlying25 h
  rw [Tryz.cSchU] at hl
  match xs, hxl, cs, hl with
  | [y0, y1], _, [v0, v1], _ =>
    have g0 := hf 0 _ rfl
    have g1 := hf 1 _ rfl
    simp [Tryz.cOsU, Tryz.cEsU] at g0 g1
    obtain ⟨ov, os, e0, h0, L0⟩ := open_obsU g0 (hw.part (j := 0) rfl)
    obtain ⟨ev, es, e1, h1, L1⟩ := open_ensU g1 (hw.part (j := 1) rfl)
    simp at e0 e1
    exact ⟨⟨os, es⟩, ov, ev, by rw [e0, e1], ⟨h0, h1⟩, ⟨fun o ho => by have := (L0 o ho).1; omega, fun o ho => (L0 o ho).2, fun o ho => by have := (L1 o ho).1; omega, fun o ho x hx => by have := (L1 o ho).2 x hx; omega⟩⟩
end
end Go.Proofs.YtglpabfjnngbnaaGreatDoor
namespace Go.Proofs.YtglpabfjnngbnaaGreatDoor
open Go.ChangeShapes Go.WideShapes Go.ChangeAt Go.RowKit
open Go.ChangeMaps (open_string shut_string)

theorem Tryz.own : ownKnob Tryz.prog.godebug = none := by kernel_rfl
theorem Tryz.laidOut : laidOutB Tryz.prog = true := by kernel_rfl
theorem laid_met (os : Os) : laidMet Tryz.prog listed ((World.laidAll Tryz.prog os listed).forCall (fun _ _ => 0) ⟨#[], #[.agg #[.slice none 0 0, .slice none 0 0], .string ByteArray.empty], []⟩).memory :=
  laidMet_laidAll _ (by kernel_rfl) (by kernel_rfl)
theorem reads (os : Os) {H : Type} (enc : TypeId × Value → H) : ∃ places, DataW.whole enc Tryz.prog ((World.laidAll Tryz.prog os listed).forCall (fun _ _ => 0) ⟨#[], #[.agg #[.slice none 0 0, .slice none 0 0], .string ByteArray.empty], []⟩).memory Tryz.f5.params.toList Rows.sdlBackSpec.vars false #[Value.agg #[.slice none 0 0, .slice none 0 0], .string ByteArray.empty].toList 8 = some ([.agg [.nil, .nil], .lit (.string [])], [], places) :=
  ⟨[], by kernel_rfl⟩

set_option maxRecDepth 100000 in
theorem sdlBack_lifted (os : Os) (started : os.Started) (H : Type) (enc : TypeId × Value → H) (F : Stop.Interp) :
    ReturnsInHanded {} Tryz.checked os 5 .any ((Rows.OpenSpec.upto Rows.sdlBackSpec).preRow enc Tryz.prog Tryz.f5 Rows.sdlBackUptoRow.domain false Rows.sdlBackUptoRow.laid) (((Rows.OpenSpec.upto Rows.sdlBackSpec).at F).post enc Tryz.prog Tryz.f5 false true false false) := by
  obtain ⟨places, hx⟩ := reads os enc
  refine returnsInHanded_of_row (C := Tryz.checked) (s := Rows.OpenSpec.upto Rows.sdlBackSpec) Tryz.own started (by kernel_rfl) Tryz.func5
    (witness_row_at (enc := enc) (C := Tryz.checked) false (World.laidAll Tryz.prog os listed) #[.agg #[.slice none 0 0, .slice none 0 0], .string ByteArray.empty] (World.laidAll_os _ _ _) (by kernel_rfl) (by kernel_rfl) (by kernel_rfl)
      (OpenSpec.preRow_of_cond 8 hx (by kernel_rfl) (fun k hk => by cases hk; kernel_rfl) (by kernel_rfl) (laid_met os))) ?_
  intro W base args ds gs before hval0 hW _ hcond _ hL hsh _
  have hval : ∀ (j : Nat) t v, Tryz.f5.params[j]? = some t → args[j]? = some v → Value.okWide Tryz.prog W .any base t v := hval0
  have hW' := hW
  obtain ⟨p, q, hA0, hV, rfl, hfz, hnd⟩ := hW
  have hA : DataW.TrodAll enc Tryz.prog W 0 (fun _ => true) true Tryz.f5.params.toList args.toList ds p := hA0
  rw [Tryz.params5] at hA hval
  obtain ⟨v0, vs0, d0, ds0, p0, q0, hargs, rfl, rfl, h0, r0⟩ := trodAll_cons hA
  obtain ⟨v1, vs1, d1, ds1, p1, q1, rfl, rfl, rfl, h1, r1⟩ := trodAll_cons r0
  obtain ⟨rfl, rfl, rfl⟩ := trodAll_nil r1
  obtain rfl : args = #[v0, v1] := by cases args; simp_all
  obtain ⟨rfl, rfl⟩ := trodVars_none hV
  have hk := hcond _ rfl
  have hk2 : Rows.uptoBulkAll [d0, d1] ≤ 1048576 := of_decide_eq_true hk
  simp only [Rows.uptoBulkAll] at hk2
  have wu0 : Wu d0 := by show Rows.uptoBulk d0 ≤ 1048576; omega
  obtain ⟨c0, rfl, _⟩ := okWide_struct Tryz.underlying25 (hval 0 25 v0 rfl rfl)
  have k0 := h0
  have lt0 : ∀ x ∈ p0, x.block < W.heap.size := by obtain ⟨m, hm⟩ := k0; exact DataW.trod_lt m _ _ _ hm
  obtain ⟨s0, ov0, ev0, hc0, hS0, hL0⟩ : ∃ (s : Sch) (ov ev : Value), (Value.agg c0).cells.toList = [ov, ev] ∧ SchAt W ov ev s ∧ SchL s := by
    obtain ⟨fuel, hf⟩ := h0
    exact open_schU hf wu0
  obtain rfl : c0 = #[ov0, ev0] := Array.toList_inj.1 hc0
  obtain ⟨a1, rfl, rfl, rfl, w1⟩ := open_string Tryz.underlying9 (hval 1 9 v1 rfl rfl) h1
  have hL2 : laidMetH Tryz.prog listed W := hL
  rw [MakeChecks.laidMetH_plain _ _ _ (by kernel_rfl)] at hL2
  have gl := gl_laid hL2 hsh
  clear hA0 hval0 hk hk2 hcond hL hL2
  have wk := back_walk s0 a1.data.toList ov0 ev0 W hS0 hL0 gl
  rw [mk_toList] at wk
  refine wk.mono fun e W' ⟨he, bel⟩ => ?_
  subst he
  exact ⟨_, rfl, _, _, _, [], _, [], hW', trodAll_mk1 (shut_bool Tryz.underlying4 _), (trodAll_cons_mk (Below.trod Tryz.laidOut (by kernel_rfl) (of_decide_eq_true (by kernel_rfl)) k0 bel lt0) (trodAll_cons_mk (shut_string Tryz.underlying9 w1) trodAll_mk0)), rfl, bel.frame _, fun h => by cases h⟩

theorem sdlBack_row : Rows.SdlBackUptoSaid :=
  OpenClaim.holds_of_cond 5 Tryz.f5 rfl rfl rfl rfl rfl rfl rfl ⟨rfl, rfl, rfl, rfl, rfl⟩ rfl rfl rfl rfl rfl (by kernel_rfl) Tryz.func5 (by kernel_rfl)
    (of_decide_eq_true (by kernel_rfl)) (by unfold Func.isWrapper; first | (rw [if_pos (by decide +kernel)]; kernel_rfl) | (rw [if_neg (by decide +kernel)]; exact ⟨rfl, rfl⟩))
    (fun os started H enc _ F => by rw [OpenClaim.pre_eq_preRow]; exact sdlBack_lifted os started H enc F)

theorem sdlBack_holds : Rows.SdlBackUptoCardSaid :=
  Claim7.holds_tied_plain_at .later [] _ _ _ _ sdlBack_row (fun _ h => by cases h) (by kernel_rfl) (fun _ h => by cases h) sdlBackUpto_row_tie rfl ⟨rfl, rfl⟩ (by kernel_rfl) rfl
    (fun f fn hf hfn => by
      obtain rfl : f = 5 := Option.some.inj ((show Tryz.prog.funcNamed "rhizome/rhizomelaw08.SdlBack" = some 5 by kernel_rfl).symm.trans hf) |>.symm
      obtain rfl : fn = Tryz.f5 := (Option.some.inj (Tryz.func5.symm.trans hfn)).symm
      exact ⟨by kernel_rfl, fun j t ht => by
        rw [Tryz.params5] at ht
        have hm : t ∈ [25, 9] := by simpa using Array.mem_of_getElem? ht
        have hall : ([25, 9].all fun u => !Tryz.prog.wantsStandIn u) = true := by kernel_rfl
        exact (show Tryz.prog.wantsStandIn t = false by simpa using List.all_eq_true.1 hall t hm)⟩)
    (by kernel_rfl)
#print axioms sdlBack_holds
end Go.Proofs.YtglpabfjnngbnaaGreatDoor
