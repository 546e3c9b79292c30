/- SdlJoins: the law at any two schemas. -/
import Derived.Test.YtlabcadpkdgjnaaGreatDoorJ1
import Derived.Test.YtlabcadpkdgjnaaGreatDoorE6
import Derived.Test.YtlabcadpkdgjnaaGreatDoorE7
namespace Go.Proofs.YtlabcadpkdgjnaaGreatDoor
open Go Go.RowKit Go.Shelf
theorem ble {w0 w1 w2 : World} (h : Below w0.heap.size w0 w1) (hb : Below w1.heap.size w1 w2) : Below w0.heap.size w0 w2 := h.trans (hb.mono h.size)
theorem catS (s t : Bs) : (⟨s.toArray⟩ : ByteArray) ++ ⟨#[32]⟩ ++ ⟨t.toArray⟩ = ⟨(s ++ 32 :: t).toArray⟩ := by
  apply ByteArray.ext
  simp [ByteArray.data_append]
theorem tprn_none {s : Sch} {ov ev : Value} {w : World} (h : printD s = none) (hS : SchAt w ov ev s) (L : SchL s) (gl : Gl w) : Calls Tryz.prog 12 #[.agg #[ov, ev]] w fun e w' => e = .returned (.tuple #[.string ⟨#[]⟩, .int .i64 81]) ∧ Below w.heap.size w w' := by
  have P := dprint_any s ov ev w hS L gl
  rw [h] at P
  exact P.mono fun e w' h => h
theorem tprn_some {s : Sch} {t : Bs} {ov ev : Value} {w : World} (h : printD s = some t) (hS : SchAt w ov ev s) (L : SchL s) (gl : Gl w) : Calls Tryz.prog 12 #[.agg #[ov, ev]] w fun e w' => e = .returned (.tuple #[.string ⟨t.toArray⟩, .int .i64 0]) ∧ Below w.heap.size w w' := by
  have P := dprint_any s ov ev w hS L gl
  rw [h] at P
  exact P.mono fun e w' h => h
theorem jpar_ok {t : Bs} {x : Sch} {w : World} (h : parseD t = .ok x) (gl : Gl w) : Calls Tryz.prog 8 #[.string ⟨t.toArray⟩] w fun e w' => ∃ p1 n1 m1 p2 n2 m2, e = .returned (.tuple #[.agg #[.slice p1 n1 m1, .slice p2 n2 m2], .int .i64 0, .int .i64 0]) ∧ SchAt w' (.slice p1 n1 m1) (.slice p2 n2 m2) x ∧ Below w.heap.size w w' := by
  refine (dparse_at t w gl).mono ?_
  rintro e w' (⟨p, hp, _⟩ | ⟨y, p1, n1, m1, p2, n2, m2, hp, he, hs, hb⟩)
  · rw [h] at hp
    cases hp.out
  · rw [h] at hp
    have := hp.out
    cases this
    exact ⟨p1, n1, m1, p2, n2, m2, he, hs, hb⟩
theorem jpar_err {t : Bs} {p : Nat × Int} {w : World} (h : parseD t = .error p) (gl : Gl w) : Calls Tryz.prog 8 #[.string ⟨t.toArray⟩] w fun e w' => e = .returned (.tuple #[.agg #[.slice none 0 0, .slice none 0 0], .int .i64 (p.1 : Int), .int .i64 p.2]) ∧ Below w.heap.size w w' := by
  refine (dparse_any t w gl).mono ?_
  rintro e w' ⟨hm, hb⟩
  rw [h] at hm
  exact ⟨hm, hb⟩
set_option maxRecDepth 100000 in
set_option maxHeartbeats 8000000 in
theorem joins_nonenone (a b : Sch) (oa ea ob eb : Value) (w : World) (hA : SchAt w oa ea a) (hB : SchAt w ob eb b) (LA : SchL a) (LB : SchL b) (h1 : printD a = none) (h2 : printD b = none) (gl : Gl w) : Calls Tryz.prog 7 #[.agg #[oa, ea], .agg #[ob, eb]] w fun e w' => e = .returned (.bool true) ∧ Below w.heap.size w w' := by
  obtain ⟨o1, z1, rfl, _, _⟩ := slD hA.os
  obtain ⟨o2, z2, rfl, _, _⟩ := slD hA.es
  obtain ⟨p1, y1, rfl, _, _⟩ := slD hB.os
  obtain ⟨p2, y2, rfl, _, _⟩ := slD hB.es
  obtain ⟨w0, hw0⟩ : ∃ w0, w0 = (w.alloc (.cells #[.slice o1 a.os.length z1, .slice o2 a.es.length z2] 25)).alloc (.cells #[.slice p1 b.os.length y1, .slice p2 b.es.length y2] 25) := ⟨_, rfl⟩
  have b0 : Below w.heap.size w w0 := by rw [hw0]; exact two_blk _ _ _
  have P1 : w0.heap[w.heap.size]? = some (.cells #[.slice o1 a.os.length z1, .slice o2 a.es.length z2] 25 (0, 0)) := by rw [hw0]; exact rowOld (heap_alloc_new w _) ((Kp.refl Non _).alloc _) (fun e => e)
  have P2 : w0.heap[w.heap.size + 1]? = some (.cells #[.slice p1 b.os.length y1, .slice p2 b.es.length y2] 25 (0, 0)) := by
    rw [hw0]
    have := heap_alloc_new (w.alloc (.cells #[.slice o1 a.os.length z1, .slice o2 a.es.length z2] 25)) (.cells #[.slice p1 b.os.length y1, .slice p2 b.es.length y2] 25)
    rw [World.size_alloc] at this
    exact this
  have SA := hA.on b0
  have SB := hB.on b0
  have gl0 := gl.on b0
  have A : Hid (∀ W, Below w0.heap.size w0 W → W.cell? ⟨w.heap.size, 0, none⟩ = some (.slice o1 a.os.length z1) ∧ W.cell? ⟨w.heap.size, 1, none⟩ = some (.slice o2 a.es.length z2) ∧ W.cell? ⟨w.heap.size + 1, 0, none⟩ = some (.slice p1 b.os.length y1) ∧ W.cell? ⟨w.heap.size + 1, 1, none⟩ = some (.slice p2 b.es.length y2)) := (fun W F => by
    have q1 := (F.block _ (lt_of_block P1)).trans P1
    have q2 := (F.block _ (lt_of_block P2)).trans P2
    exact ⟨(row2' q1).1, (row2' q1).2, (row2' q2).1, (row2' q2).2⟩)
  clear P1 P2 hA hB gl
  go_enter Tryz.func7, Tryz.ntmps7
  go_wp2_with (first
    | (go_at_call 10; (with_reducible refine (dfixed_any _ gl3).mono ?_); rintro e w4 ⟨rfl, b4⟩; have B4 := ble B3 b4; have gl4 := gl3.on b4)
    | (go_at_call 10; (with_reducible refine (dfixed_any _ gl2).mono ?_); rintro e w3 ⟨rfl, b3⟩; have B3 := ble B2 b3; have gl3 := gl2.on b3; obtain ⟨c30, c31, c32, c33⟩ := A.out _ B3)
    | (go_at_call 12; (with_reducible refine (tprn_none h2 (SB.on B1) LB gl1).mono ?_); rintro e w2 ⟨rfl, b2⟩; have B2 := ble B1 b2; have gl2 := gl1.on b2; obtain ⟨c20, c21, c22, c23⟩ := A.out _ B2)
    | (go_at_call 12; rw [← hw0]; (with_reducible refine (tprn_none h1 SA LA gl0).mono ?_); rintro e w1 ⟨rfl, b1⟩; have B1 := b1; have gl1 := gl0.on b1; obtain ⟨c10, c11, c12, c13⟩ := A.out _ B1)
    | fail)
  go_ret
  exact ⟨rfl, ble b0 B4⟩
set_option maxRecDepth 100000 in
set_option maxHeartbeats 8000000 in
theorem joins_nonesome (a b : Sch) (oa ea ob eb : Value) (w : World) (hA : SchAt w oa ea a) (hB : SchAt w ob eb b) (LA : SchL a) (LB : SchL b) (h1 : printD a = none) (sy : Bs) (h2 : printD b = some sy) (gl : Gl w) : Calls Tryz.prog 7 #[.agg #[oa, ea], .agg #[ob, eb]] w fun e w' => e = .returned (.bool true) ∧ Below w.heap.size w w' := by
  obtain ⟨o1, z1, rfl, _, _⟩ := slD hA.os
  obtain ⟨o2, z2, rfl, _, _⟩ := slD hA.es
  obtain ⟨p1, y1, rfl, _, _⟩ := slD hB.os
  obtain ⟨p2, y2, rfl, _, _⟩ := slD hB.es
  obtain ⟨w0, hw0⟩ : ∃ w0, w0 = (w.alloc (.cells #[.slice o1 a.os.length z1, .slice o2 a.es.length z2] 25)).alloc (.cells #[.slice p1 b.os.length y1, .slice p2 b.es.length y2] 25) := ⟨_, rfl⟩
  have b0 : Below w.heap.size w w0 := by rw [hw0]; exact two_blk _ _ _
  have P1 : w0.heap[w.heap.size]? = some (.cells #[.slice o1 a.os.length z1, .slice o2 a.es.length z2] 25 (0, 0)) := by rw [hw0]; exact rowOld (heap_alloc_new w _) ((Kp.refl Non _).alloc _) (fun e => e)
  have P2 : w0.heap[w.heap.size + 1]? = some (.cells #[.slice p1 b.os.length y1, .slice p2 b.es.length y2] 25 (0, 0)) := by
    rw [hw0]
    have := heap_alloc_new (w.alloc (.cells #[.slice o1 a.os.length z1, .slice o2 a.es.length z2] 25)) (.cells #[.slice p1 b.os.length y1, .slice p2 b.es.length y2] 25)
    rw [World.size_alloc] at this
    exact this
  have SA := hA.on b0
  have SB := hB.on b0
  have gl0 := gl.on b0
  have A : Hid (∀ W, Below w0.heap.size w0 W → W.cell? ⟨w.heap.size, 0, none⟩ = some (.slice o1 a.os.length z1) ∧ W.cell? ⟨w.heap.size, 1, none⟩ = some (.slice o2 a.es.length z2) ∧ W.cell? ⟨w.heap.size + 1, 0, none⟩ = some (.slice p1 b.os.length y1) ∧ W.cell? ⟨w.heap.size + 1, 1, none⟩ = some (.slice p2 b.es.length y2)) := (fun W F => by
    have q1 := (F.block _ (lt_of_block P1)).trans P1
    have q2 := (F.block _ (lt_of_block P2)).trans P2
    exact ⟨(row2' q1).1, (row2' q1).2, (row2' q2).1, (row2' q2).2⟩)
  clear P1 P2 hA hB gl
  go_enter Tryz.func7, Tryz.ntmps7
  go_wp2_with (first
    | (go_at_call 10; (with_reducible refine (dfixed_any _ gl3).mono ?_); rintro e w4 ⟨rfl, b4⟩; have B4 := ble B3 b4; have gl4 := gl3.on b4)
    | (go_at_call 10; (with_reducible refine (dfixed_any _ gl2).mono ?_); rintro e w3 ⟨rfl, b3⟩; have B3 := ble B2 b3; have gl3 := gl2.on b3; obtain ⟨c30, c31, c32, c33⟩ := A.out _ B3)
    | (go_at_call 12; (with_reducible refine (tprn_some h2 (SB.on B1) LB gl1).mono ?_); rintro e w2 ⟨rfl, b2⟩; have B2 := ble B1 b2; have gl2 := gl1.on b2; obtain ⟨c20, c21, c22, c23⟩ := A.out _ B2)
    | (go_at_call 12; rw [← hw0]; (with_reducible refine (tprn_none h1 SA LA gl0).mono ?_); rintro e w1 ⟨rfl, b1⟩; have B1 := b1; have gl1 := gl0.on b1; obtain ⟨c10, c11, c12, c13⟩ := A.out _ B1)
    | fail)
  go_ret
  exact ⟨rfl, ble b0 B4⟩
set_option maxRecDepth 100000 in
set_option maxHeartbeats 8000000 in
theorem joins_somenone (a b : Sch) (oa ea ob eb : Value) (w : World) (hA : SchAt w oa ea a) (hB : SchAt w ob eb b) (LA : SchL a) (LB : SchL b) (sx : Bs) (h1 : printD a = some sx) (h2 : printD b = none) (gl : Gl w) : Calls Tryz.prog 7 #[.agg #[oa, ea], .agg #[ob, eb]] w fun e w' => e = .returned (.bool true) ∧ Below w.heap.size w w' := by
  obtain ⟨o1, z1, rfl, _, _⟩ := slD hA.os
  obtain ⟨o2, z2, rfl, _, _⟩ := slD hA.es
  obtain ⟨p1, y1, rfl, _, _⟩ := slD hB.os
  obtain ⟨p2, y2, rfl, _, _⟩ := slD hB.es
  obtain ⟨w0, hw0⟩ : ∃ w0, w0 = (w.alloc (.cells #[.slice o1 a.os.length z1, .slice o2 a.es.length z2] 25)).alloc (.cells #[.slice p1 b.os.length y1, .slice p2 b.es.length y2] 25) := ⟨_, rfl⟩
  have b0 : Below w.heap.size w w0 := by rw [hw0]; exact two_blk _ _ _
  have P1 : w0.heap[w.heap.size]? = some (.cells #[.slice o1 a.os.length z1, .slice o2 a.es.length z2] 25 (0, 0)) := by rw [hw0]; exact rowOld (heap_alloc_new w _) ((Kp.refl Non _).alloc _) (fun e => e)
  have P2 : w0.heap[w.heap.size + 1]? = some (.cells #[.slice p1 b.os.length y1, .slice p2 b.es.length y2] 25 (0, 0)) := by
    rw [hw0]
    have := heap_alloc_new (w.alloc (.cells #[.slice o1 a.os.length z1, .slice o2 a.es.length z2] 25)) (.cells #[.slice p1 b.os.length y1, .slice p2 b.es.length y2] 25)
    rw [World.size_alloc] at this
    exact this
  have SA := hA.on b0
  have SB := hB.on b0
  have gl0 := gl.on b0
  have A : Hid (∀ W, Below w0.heap.size w0 W → W.cell? ⟨w.heap.size, 0, none⟩ = some (.slice o1 a.os.length z1) ∧ W.cell? ⟨w.heap.size, 1, none⟩ = some (.slice o2 a.es.length z2) ∧ W.cell? ⟨w.heap.size + 1, 0, none⟩ = some (.slice p1 b.os.length y1) ∧ W.cell? ⟨w.heap.size + 1, 1, none⟩ = some (.slice p2 b.es.length y2)) := (fun W F => by
    have q1 := (F.block _ (lt_of_block P1)).trans P1
    have q2 := (F.block _ (lt_of_block P2)).trans P2
    exact ⟨(row2' q1).1, (row2' q1).2, (row2' q2).1, (row2' q2).2⟩)
  clear P1 P2 hA hB gl
  go_enter Tryz.func7, Tryz.ntmps7
  go_wp2_with (first
    | (go_at_call 10; (with_reducible refine (dfixed_any _ gl3).mono ?_); rintro e w4 ⟨rfl, b4⟩; have B4 := ble B3 b4; have gl4 := gl3.on b4)
    | (go_at_call 10; (with_reducible refine (dfixed_any _ gl2).mono ?_); rintro e w3 ⟨rfl, b3⟩; have B3 := ble B2 b3; have gl3 := gl2.on b3; obtain ⟨c30, c31, c32, c33⟩ := A.out _ B3)
    | (go_at_call 12; (with_reducible refine (tprn_none h2 (SB.on B1) LB gl1).mono ?_); rintro e w2 ⟨rfl, b2⟩; have B2 := ble B1 b2; have gl2 := gl1.on b2; obtain ⟨c20, c21, c22, c23⟩ := A.out _ B2)
    | (go_at_call 12; rw [← hw0]; (with_reducible refine (tprn_some h1 SA LA gl0).mono ?_); rintro e w1 ⟨rfl, b1⟩; have B1 := b1; have gl1 := gl0.on b1; obtain ⟨c10, c11, c12, c13⟩ := A.out _ B1)
    | fail)
  go_ret
  exact ⟨rfl, ble b0 B4⟩
set_option maxRecDepth 100000 in
set_option maxHeartbeats 8000000 in
theorem joins_big (a b : Sch) (oa ea ob eb : Value) (w : World) (hA : SchAt w oa ea a) (hB : SchAt w ob eb b) (LA : SchL a) (LB : SchL b) (us vs : List Bs) (h1 : printD a = some (joinW us)) (h2 : printD b = some (joinW vs)) (ts : List Tok) (ht1 : lexS (joinW us) = .inr ts) (hn1 : ts.length = us.length) (rs : List Tok) (ht2 : lexS (joinW vs) = .inr rs) (hn2 : rs.length = vs.length) (hb : (joinW us).length + (joinW vs).length + 1 > 16384) (gl : Gl w) : Calls Tryz.prog 7 #[.agg #[oa, ea], .agg #[ob, eb]] w fun e w' => e = .returned (.bool true) ∧ Below w.heap.size w w' := by
  obtain ⟨o1, z1, rfl, _, _⟩ := slD hA.os
  obtain ⟨o2, z2, rfl, _, _⟩ := slD hA.es
  obtain ⟨p1, y1, rfl, _, _⟩ := slD hB.os
  obtain ⟨p2, y2, rfl, _, _⟩ := slD hB.es
  obtain ⟨w0, hw0⟩ : ∃ w0, w0 = (w.alloc (.cells #[.slice o1 a.os.length z1, .slice o2 a.es.length z2] 25)).alloc (.cells #[.slice p1 b.os.length y1, .slice p2 b.es.length y2] 25) := ⟨_, rfl⟩
  have b0 : Below w.heap.size w w0 := by rw [hw0]; exact two_blk _ _ _
  have P1 : w0.heap[w.heap.size]? = some (.cells #[.slice o1 a.os.length z1, .slice o2 a.es.length z2] 25 (0, 0)) := by rw [hw0]; exact rowOld (heap_alloc_new w _) ((Kp.refl Non _).alloc _) (fun e => e)
  have P2 : w0.heap[w.heap.size + 1]? = some (.cells #[.slice p1 b.os.length y1, .slice p2 b.es.length y2] 25 (0, 0)) := by
    rw [hw0]
    have := heap_alloc_new (w.alloc (.cells #[.slice o1 a.os.length z1, .slice o2 a.es.length z2] 25)) (.cells #[.slice p1 b.os.length y1, .slice p2 b.es.length y2] 25)
    rw [World.size_alloc] at this
    exact this
  have SA := hA.on b0
  have SB := hB.on b0
  have gl0 := gl.on b0
  have A : Hid (∀ W, Below w0.heap.size w0 W → W.cell? ⟨w.heap.size, 0, none⟩ = some (.slice o1 a.os.length z1) ∧ W.cell? ⟨w.heap.size, 1, none⟩ = some (.slice o2 a.es.length z2) ∧ W.cell? ⟨w.heap.size + 1, 0, none⟩ = some (.slice p1 b.os.length y1) ∧ W.cell? ⟨w.heap.size + 1, 1, none⟩ = some (.slice p2 b.es.length y2)) := (fun W F => by
    have q1 := (F.block _ (lt_of_block P1)).trans P1
    have q2 := (F.block _ (lt_of_block P2)).trans P2
    exact ⟨(row2' q1).1, (row2' q1).2, (row2' q2).1, (row2' q2).2⟩)
  have T1 := fun W (g : Gl W) => tokens_any (joinW us) W g
  have T2 := fun W (g : Gl W) => tokens_any (joinW vs) W g
  rw [ht1] at T1
  rw [ht2] at T2
  have hs1 := (lexS_full ht1).2.1
  have hs2 := (lexS_full ht2).2.1
  have hm1 := (lexS_full ht1).1
  have hm2 := (lexS_full ht2).1
  clear ht1 ht2
  generalize joinW us = sx at *
  generalize joinW vs = sy at *
  have i1 : (sx.length : Int) + (sy.length : Int) + 1 > 16384 := by omega
  have i1' : (16384 : Int) < (sx.length : Int) + (sy.length : Int) + 1 := by omega
  clear P1 P2 hA hB gl
  go_enter Tryz.func7, Tryz.ntmps7
  go_wp2_with (first
    | (go_at_call 14; (with_reducible refine (T2 _ gl5).mono ?_); rintro e w6 ⟨⟨v6, rfl, ht6⟩, b6⟩; have B6 := ble B5 b6; have gl6 := gl5.on b6; obtain ⟨to2, tc2, rfl⟩ := own_slice ht6; rw [hn2])
    | (go_at_call 14; (with_reducible refine (T1 _ gl3).mono ?_); rintro e w5 ⟨⟨v5, rfl, ht5⟩, b5⟩; have B5 := ble B3 b5; have gl5 := gl3.on b5; obtain ⟨to1, tc1, rfl⟩ := own_slice ht5; rw [hn1])
    | (go_at_call 10; (with_reducible refine (dfixed_any _ gl2).mono ?_); rintro e w3 ⟨rfl, b3⟩; have B3 := ble B2 b3; have gl3 := gl2.on b3; obtain ⟨c30, c31, c32, c33⟩ := A.out _ B3)
    | (go_at_call 12; (with_reducible refine (tprn_some h2 (SB.on B1) LB gl1).mono ?_); rintro e w2 ⟨rfl, b2⟩; have B2 := ble B1 b2; have gl2 := gl1.on b2; obtain ⟨c20, c21, c22, c23⟩ := A.out _ B2)
    | (go_at_call 12; rw [← hw0]; (with_reducible refine (tprn_some h1 SA LA gl0).mono ?_); rintro e w1 ⟨rfl, b1⟩; have B1 := b1; have gl1 := gl0.on b1; obtain ⟨c10, c11, c12, c13⟩ := A.out _ B1)
    | fail)
  go_ret
  exact ⟨by first | rfl | simp, ble b0 B6⟩
set_option maxRecDepth 100000 in
set_option maxHeartbeats 8000000 in
theorem joins_many (a b : Sch) (oa ea ob eb : Value) (w : World) (hA : SchAt w oa ea a) (hB : SchAt w ob eb b) (LA : SchL a) (LB : SchL b) (us vs : List Bs) (h1 : printD a = some (joinW us)) (h2 : printD b = some (joinW vs)) (ts : List Tok) (ht1 : lexS (joinW us) = .inr ts) (hn1 : ts.length = us.length) (rs : List Tok) (ht2 : lexS (joinW vs) = .inr rs) (hn2 : rs.length = vs.length) (hb : ¬ (joinW us).length + (joinW vs).length + 1 > 16384) (hb2 : us.length + vs.length > 2048) (gl : Gl w) : Calls Tryz.prog 7 #[.agg #[oa, ea], .agg #[ob, eb]] w fun e w' => e = .returned (.bool true) ∧ Below w.heap.size w w' := by
  obtain ⟨o1, z1, rfl, _, _⟩ := slD hA.os
  obtain ⟨o2, z2, rfl, _, _⟩ := slD hA.es
  obtain ⟨p1, y1, rfl, _, _⟩ := slD hB.os
  obtain ⟨p2, y2, rfl, _, _⟩ := slD hB.es
  obtain ⟨w0, hw0⟩ : ∃ w0, w0 = (w.alloc (.cells #[.slice o1 a.os.length z1, .slice o2 a.es.length z2] 25)).alloc (.cells #[.slice p1 b.os.length y1, .slice p2 b.es.length y2] 25) := ⟨_, rfl⟩
  have b0 : Below w.heap.size w w0 := by rw [hw0]; exact two_blk _ _ _
  have P1 : w0.heap[w.heap.size]? = some (.cells #[.slice o1 a.os.length z1, .slice o2 a.es.length z2] 25 (0, 0)) := by rw [hw0]; exact rowOld (heap_alloc_new w _) ((Kp.refl Non _).alloc _) (fun e => e)
  have P2 : w0.heap[w.heap.size + 1]? = some (.cells #[.slice p1 b.os.length y1, .slice p2 b.es.length y2] 25 (0, 0)) := by
    rw [hw0]
    have := heap_alloc_new (w.alloc (.cells #[.slice o1 a.os.length z1, .slice o2 a.es.length z2] 25)) (.cells #[.slice p1 b.os.length y1, .slice p2 b.es.length y2] 25)
    rw [World.size_alloc] at this
    exact this
  have SA := hA.on b0
  have SB := hB.on b0
  have gl0 := gl.on b0
  have A : Hid (∀ W, Below w0.heap.size w0 W → W.cell? ⟨w.heap.size, 0, none⟩ = some (.slice o1 a.os.length z1) ∧ W.cell? ⟨w.heap.size, 1, none⟩ = some (.slice o2 a.es.length z2) ∧ W.cell? ⟨w.heap.size + 1, 0, none⟩ = some (.slice p1 b.os.length y1) ∧ W.cell? ⟨w.heap.size + 1, 1, none⟩ = some (.slice p2 b.es.length y2)) := (fun W F => by
    have q1 := (F.block _ (lt_of_block P1)).trans P1
    have q2 := (F.block _ (lt_of_block P2)).trans P2
    exact ⟨(row2' q1).1, (row2' q1).2, (row2' q2).1, (row2' q2).2⟩)
  have T1 := fun W (g : Gl W) => tokens_any (joinW us) W g
  have T2 := fun W (g : Gl W) => tokens_any (joinW vs) W g
  rw [ht1] at T1
  rw [ht2] at T2
  have hs1 := (lexS_full ht1).2.1
  have hs2 := (lexS_full ht2).2.1
  have hm1 := (lexS_full ht1).1
  have hm2 := (lexS_full ht2).1
  clear ht1 ht2
  generalize joinW us = sx at *
  generalize joinW vs = sy at *
  have i1 : ¬ (sx.length : Int) + (sy.length : Int) + 1 > 16384 := by omega
  have i1' : ¬ (16384 : Int) < (sx.length : Int) + (sy.length : Int) + 1 := by omega
  have i2 : (2048 : Int) < (us.length : Int) + (vs.length : Int) := by omega
  clear P1 P2 hA hB gl
  go_enter Tryz.func7, Tryz.ntmps7
  go_wp2_with (first
    | (go_at_call 14; (with_reducible refine (T2 _ gl5).mono ?_); rintro e w6 ⟨⟨v6, rfl, ht6⟩, b6⟩; have B6 := ble B5 b6; have gl6 := gl5.on b6; obtain ⟨to2, tc2, rfl⟩ := own_slice ht6; rw [hn2])
    | (go_at_call 14; (with_reducible refine (T1 _ gl3).mono ?_); rintro e w5 ⟨⟨v5, rfl, ht5⟩, b5⟩; have B5 := ble B3 b5; have gl5 := gl3.on b5; obtain ⟨to1, tc1, rfl⟩ := own_slice ht5; rw [hn1])
    | (go_at_call 10; (with_reducible refine (dfixed_any _ gl2).mono ?_); rintro e w3 ⟨rfl, b3⟩; have B3 := ble B2 b3; have gl3 := gl2.on b3; obtain ⟨c30, c31, c32, c33⟩ := A.out _ B3)
    | (go_at_call 12; (with_reducible refine (tprn_some h2 (SB.on B1) LB gl1).mono ?_); rintro e w2 ⟨rfl, b2⟩; have B2 := ble B1 b2; have gl2 := gl1.on b2; obtain ⟨c20, c21, c22, c23⟩ := A.out _ B2)
    | (go_at_call 12; rw [← hw0]; (with_reducible refine (tprn_some h1 SA LA gl0).mono ?_); rintro e w1 ⟨rfl, b1⟩; have B1 := b1; have gl1 := gl0.on b1; obtain ⟨c10, c11, c12, c13⟩ := A.out _ B1)
    | fail)
  go_ret
  exact ⟨by first | rfl | simp, ble b0 B6⟩
theorem jpar_both {t : Bs} {A C : List Ob} {E F : List En} {w : World} (h : parseD t = .ok (bothS ⟨A, E⟩ ⟨C, F⟩)) (gl : Gl w) : Calls Tryz.prog 8 #[.string ⟨t.toArray⟩] w fun e w' => ∃ o5 z5 o6 z6, e = .returned (.tuple #[.agg #[.slice o5 (A.length + C.length) z5, .slice o6 (E.length + F.length) z6], .int .i64 0, .int .i64 0]) ∧ SchAt w' (.slice o5 (A.length + C.length) z5) (.slice o6 (E.length + F.length) z6) (bothS ⟨A, E⟩ ⟨C, F⟩) ∧ Below w.heap.size w w' := by
  refine (jpar_ok h gl).mono ?_
  rintro e w' ⟨p1, n1, m1, p2, n2, m2, rfl, S, b⟩
  have h1 : ObsAt w' (.slice p1 n1 m1) (A ++ C) := S.os
  have h2 : EnsAt w' (.slice p2 n2 m2) (E ++ F) := S.es
  obtain ⟨_, _, e1, _, _⟩ := slD h1
  obtain ⟨_, _, e2, _, _⟩ := slD h2
  rw [List.length_append] at e1 e2
  cases e1
  cases e2
  exact ⟨_, _, _, _, rfl, S, b⟩
set_option maxRecDepth 100000 in
set_option maxHeartbeats 80000000 in
theorem joins_both (A C : List Ob) (E F : List En) (oa ea ob eb : Value) (w : World) (hA : SchAt w oa ea ⟨A, E⟩) (hB : SchAt w ob eb ⟨C, F⟩) (LA : SchL ⟨A, E⟩) (LB : SchL ⟨C, F⟩) (nA : Nn oa) (nE : Nn ea) (nC : Nn ob) (nF : Nn eb) (hl1 : A.length ≤ 1048576) (hl2 : C.length ≤ 1048576) (hl3 : E.length ≤ 1048576) (hl4 : F.length ≤ 1048576) (us vs : List Bs) (h1 : printD ⟨A, E⟩ = some (joinW us)) (h2 : printD ⟨C, F⟩ = some (joinW vs)) (ts : List Tok) (ht1 : lexS (joinW us) = .inr ts) (hn1 : ts.length = us.length) (rs : List Tok) (ht2 : lexS (joinW vs) = .inr rs) (hn2 : rs.length = vs.length) (hb : ¬ (joinW us).length + (joinW vs).length + 1 > 16384) (hb2 : ¬ us.length + vs.length > 2048) (hp : parseD (joinW us ++ 32 :: joinW vs) = .ok (bothS ⟨A, E⟩ ⟨C, F⟩)) (gl : Gl w) : Calls Tryz.prog 7 #[.agg #[oa, ea], .agg #[ob, eb]] w fun e w' => e = .returned (.bool true) ∧ Below w.heap.size w w' := by
  have hA1 : ObsAt w oa A := hA.os
  have hA2 : EnsAt w ea E := hA.es
  have hB1 : ObsAt w ob C := hB.os
  have hB2 : EnsAt w eb F := hB.es
  obtain ⟨o1, z1, rfl, _, _⟩ := slD hA1
  obtain ⟨o2, z2, rfl, _, _⟩ := slD hA2
  obtain ⟨p1, y1, rfl, _, _⟩ := slD hB1
  obtain ⟨p2, y2, rfl, _, _⟩ := slD hB2
  clear hA1 hA2 hB1 hB2
  obtain ⟨w0, hw0⟩ : ∃ w0, w0 = (w.alloc (.cells #[.slice o1 A.length z1, .slice o2 E.length z2] 25)).alloc (.cells #[.slice p1 C.length y1, .slice p2 F.length y2] 25) := ⟨_, rfl⟩
  have b0 : Below w.heap.size w w0 := by rw [hw0]; exact two_blk _ _ _
  have P1 : w0.heap[w.heap.size]? = some (.cells #[.slice o1 A.length z1, .slice o2 E.length z2] 25 (0, 0)) := by rw [hw0]; exact rowOld (heap_alloc_new w _) ((Kp.refl Non _).alloc _) (fun e => e)
  have P2 : w0.heap[w.heap.size + 1]? = some (.cells #[.slice p1 C.length y1, .slice p2 F.length y2] 25 (0, 0)) := by
    rw [hw0]
    have := heap_alloc_new (w.alloc (.cells #[.slice o1 A.length z1, .slice o2 E.length z2] 25)) (.cells #[.slice p1 C.length y1, .slice p2 F.length y2] 25)
    rw [World.size_alloc] at this
    exact this
  have SA := hA.on b0
  have SB := hB.on b0
  have gl0 := gl.on b0
  have AA : Hid (∀ W, Below w0.heap.size w0 W → W.cell? ⟨w.heap.size, 0, none⟩ = some (.slice o1 A.length z1) ∧ W.cell? ⟨w.heap.size, 1, none⟩ = some (.slice o2 E.length z2) ∧ W.cell? ⟨w.heap.size + 1, 0, none⟩ = some (.slice p1 C.length y1) ∧ W.cell? ⟨w.heap.size + 1, 1, none⟩ = some (.slice p2 F.length y2)) := (fun W F => by
    have q1 := (F.block _ (lt_of_block P1)).trans P1
    have q2 := (F.block _ (lt_of_block P2)).trans P2
    exact ⟨(row2' q1).1, (row2' q1).2, (row2' q2).1, (row2' q2).2⟩)
  have T1 := fun W (g : Gl W) => tokens_any (joinW us) W g
  have T2 := fun W (g : Gl W) => tokens_any (joinW vs) W g
  rw [ht1] at T1
  rw [ht2] at T2
  have hs1 := (lexS_full ht1).2.1
  have hs2 := (lexS_full ht2).2.1
  have hm1 := (lexS_full ht1).1
  have hm2 := (lexS_full ht2).1
  clear ht1 ht2
  generalize joinW us = sx at *
  generalize joinW vs = sy at *
  have i1 : ¬ (sx.length : Int) + (sy.length : Int) + 1 > 16384 := by omega
  have i1' : ¬ (16384 : Int) < (sx.length : Int) + (sy.length : Int) + 1 := by omega
  have i2 : ¬ (2048 : Int) < (us.length : Int) + (vs.length : Int) := by omega
  have hcat := catS sx sy
  have hsz1 := size_of sx
  have hsz2 := size_of sy
  have hk1 : ¬ 9223372036854775807 < sx.length + 1 := by omega
  have hk2 : ¬ 9223372036854775807 < sx.length + 1 + sy.length := by omega
  have l1 : ([] : List Ob).length + A.length ≤ 4000000 := by simp; omega
  have l2 : A.length + C.length ≤ 4000000 := by omega
  have l3 : ([] : List En).length + E.length ≤ 4000000 := by simp; omega
  have l4 : E.length + F.length ≤ 4000000 := by omega
  clear P1 P2 hA hB gl
  go_enter Tryz.func7, Tryz.ntmps7
  go_wp2_with (first
    | (go_at_call 8; (with_reducible refine (jpar_both hp gl6).mono ?_); rintro e w7 ⟨o5, z5, o6, z6, rfl, S7, b7⟩; have B7 := ble (ble B6 b7) (al1 w7 (.cells #[.slice o5 (A.length + C.length) z5, .slice o6 (E.length + F.length) z6] 25)); have S8 := S7.on (al1 w7 (.cells #[.slice o5 (A.length + C.length) z5, .slice o6 (E.length + F.length) z6] 25)))
    | (go_at_call 14; (with_reducible refine (T2 _ gl5).mono ?_); rintro e w6 ⟨⟨v6, rfl, ht6⟩, b6⟩; have B6 := ble B5 b6; have gl6 := gl5.on b6; obtain ⟨to2, tc2, rfl⟩ := own_slice ht6; rw [hn2])
    | (go_at_call 14; (with_reducible refine (T1 _ gl3).mono ?_); rintro e w5 ⟨⟨v5, rfl, ht5⟩, b5⟩; have B5 := ble B3 b5; have gl5 := gl3.on b5; obtain ⟨to1, tc1, rfl⟩ := own_slice ht5; rw [hn1])
    | (go_at_call 10; (with_reducible refine (dfixed_any _ gl2).mono ?_); rintro e w3 ⟨rfl, b3⟩; have B3 := ble B2 b3; have gl3 := gl2.on b3; obtain ⟨c30, c31, c32, c33⟩ := AA.out _ B3)
    | (go_at_call 12; (with_reducible refine (tprn_some h2 (SB.on B1) LB gl1).mono ?_); rintro e w2 ⟨rfl, b2⟩; have B2 := ble B1 b2; have gl2 := gl1.on b2; obtain ⟨c20, c21, c22, c23⟩ := AA.out _ B2)
    | (go_at_call 12; rw [← hw0]; (with_reducible refine (tprn_some h1 SA LA gl0).mono ?_); rintro e w1 ⟨rfl, b1⟩; have B1 := b1; have gl1 := gl0.on b1; obtain ⟨c10, c11, c12, c13⟩ := AA.out _ B1)
    | fail)
  obtain ⟨c0, c1, c2, c3⟩ := AA.out _ B7
  have c5 := (row2 (heap_alloc_new w7 (.cells #[.slice o5 (A.length + C.length) z5, .slice o6 (E.length + F.length) z6] 25))).1
  have c6 := (row2 (heap_alloc_new w7 (.cells #[.slice o5 (A.length + C.length) z5, .slice o6 (E.length + F.length) z6] 25))).2.1
  have SAW := SA.on B7
  have SBW := SB.on B7
  have okW := ble b0 B7
  obtain ⟨m1, sr1, cr1⟩ := src_obs SAW.os nA
  obtain ⟨m2, sr2, cr2⟩ := src_obs SBW.os nC
  obtain ⟨m3, sr3, cr3⟩ := src_ens SAW.es nE
  obtain ⟨m4, sr4, cr4⟩ := src_ens SBW.es nF
  have hq5 := World.block_lt_of_cell? _ _ c0
  have hq8 := World.block_lt_of_cell? _ _ c2
  have hq9 := World.block_lt_of_cell? _ _ c5
  have okW' : Hid (∀ x, Below (w7.alloc (.cells #[.slice o5 (A.length + C.length) z5, .slice o6 (E.length + F.length) z6] 25)).heap.size (w7.alloc (.cells #[.slice o5 (A.length + C.length) z5, .slice o6 (E.length + F.length) z6] 25)) x → Below w.heap.size w x) := fun x hx => ble okW hx
  clear okW
  generalize hq8e : w.heap.size + 1 = q8 at c2 c3 hq8
  generalize w7.heap.size = q9 at c5 c6 hq9 S8 ⊢
  generalize w7.alloc (.cells #[.slice o5 (A.length + C.length) z5, .slice o6 (E.length + F.length) z6] 25) = W at *
  clear hq8e
  have r := rs_begin W
  have d0 : W.drew.cell? ⟨w.heap.size, 0, none⟩ = some (.slice o1 A.length z1) := c0
  have d1 : W.drew.cell? ⟨w.heap.size, 1, none⟩ = some (.slice o2 E.length z2) := c1
  go_region_held3 (fun w' => w'.cell? ⟨w.heap.size, 0, none⟩ = some (.slice o1 A.length z1) ∧ w'.cell? ⟨w.heap.size, 1, none⟩ = some (.slice o2 E.length z2) ∧ w'.cell? ⟨q8, 0, none⟩ = some (.slice p1 C.length y1) ∧ w'.cell? ⟨q8, 1, none⟩ = some (.slice p2 F.length y2)) (first | exact ⟨(r.s.cell (p := ⟨w.heap.size, 0, none⟩) hq5).trans c0, (r.s.cell (p := ⟨w.heap.size, 1, none⟩) hq5).trans c1, (r.s.cell (p := ⟨q8, 0, none⟩) hq8).trans c2, (r.s.cell (p := ⟨q8, 1, none⟩) hq8).trans c3⟩ | exact ⟨((r.alloc _).s.cell (p := ⟨w.heap.size, 0, none⟩) hq5).trans c0, ((r.alloc _).s.cell (p := ⟨w.heap.size, 1, none⟩) hq5).trans c1, ((r.alloc _).s.cell (p := ⟨q8, 0, none⟩) hq8).trans c2, ((r.alloc _).s.cell (p := ⟨q8, 1, none⟩) hq8).trans c3⟩ | exact ⟨((rs_bel r _ _).cell (p := ⟨w.heap.size, 0, none⟩) hq5).trans c0, ((rs_bel r _ _).cell (p := ⟨w.heap.size, 1, none⟩) hq5).trans c1, ((rs_bel r _ _).cell (p := ⟨q8, 0, none⟩) hq8).trans c2, ((rs_bel r _ _).cell (p := ⟨q8, 1, none⟩) hq8).trans c3⟩ | exact ⟨(((r.alloc _).alloc _).s.cell (p := ⟨w.heap.size, 0, none⟩) hq5).trans c0, (((r.alloc _).alloc _).s.cell (p := ⟨w.heap.size, 1, none⟩) hq5).trans c1, (((r.alloc _).alloc _).s.cell (p := ⟨q8, 0, none⟩) hq8).trans c2, (((r.alloc _).alloc _).s.cell (p := ⟨q8, 1, none⟩) hq8).trans c3⟩ | exact ⟨((((r.alloc _).alloc _).alloc _).s.cell (p := ⟨w.heap.size, 0, none⟩) hq5).trans c0, ((((r.alloc _).alloc _).alloc _).s.cell (p := ⟨w.heap.size, 1, none⟩) hq5).trans c1, ((((r.alloc _).alloc _).alloc _).s.cell (p := ⟨q8, 0, none⟩) hq8).trans c2, ((((r.alloc _).alloc _).alloc _).s.cell (p := ⟨q8, 1, none⟩) hq8).trans c3⟩ | exact ⟨((r.alloc _).drew.s.cell (p := ⟨w.heap.size, 0, none⟩) hq5).trans c0, ((r.alloc _).drew.s.cell (p := ⟨w.heap.size, 1, none⟩) hq5).trans c1, ((r.alloc _).drew.s.cell (p := ⟨q8, 0, none⟩) hq8).trans c2, ((r.alloc _).drew.s.cell (p := ⟨q8, 1, none⟩) hq8).trans c3⟩ | exact ⟨(((r.alloc _).alloc _).drew.s.cell (p := ⟨w.heap.size, 0, none⟩) hq5).trans c0, (((r.alloc _).alloc _).drew.s.cell (p := ⟨w.heap.size, 1, none⟩) hq5).trans c1, (((r.alloc _).alloc _).drew.s.cell (p := ⟨q8, 0, none⟩) hq8).trans c2, (((r.alloc _).alloc _).drew.s.cell (p := ⟨q8, 1, none⟩) hq8).trans c3⟩ | exact ⟨((((r.alloc _).alloc _).alloc _).drew.s.cell (p := ⟨w.heap.size, 0, none⟩) hq5).trans c0, ((((r.alloc _).alloc _).alloc _).drew.s.cell (p := ⟨w.heap.size, 1, none⟩) hq5).trans c1, ((((r.alloc _).alloc _).alloc _).drew.s.cell (p := ⟨q8, 0, none⟩) hq8).trans c2, ((((r.alloc _).alloc _).alloc _).drew.s.cell (p := ⟨q8, 1, none⟩) hq8).trans c3⟩ | go_keep) (first
    | (refine rs_A (.tmp 76) (.tmp 78) _ _ [] A (.slice o1 A.length z1) rfl rfl rfl rfl m1 sr1 cr1 l1 (by first | exact r | exact (r.nA rfl) | exact (r.nA rfl).drew | exact (r.nB rfl) | exact (r.nB rfl).drew | exact (r.nC rfl) | exact (r.nC rfl).drew | exact ((r.nA rfl).nB (World.size_alloc _ _)) | exact ((r.nA rfl).nB (World.size_alloc _ _)).drew | exact ((r.nA rfl).nC (World.size_alloc _ _)) | exact ((r.nA rfl).nC (World.size_alloc _ _)).drew | exact ((r.nB rfl).nA (World.size_alloc _ _)) | exact ((r.nB rfl).nA (World.size_alloc _ _)).drew | exact ((r.nB rfl).nC (World.size_alloc _ _)) | exact ((r.nB rfl).nC (World.size_alloc _ _)).drew | exact ((r.nC rfl).nA (World.size_alloc _ _)) | exact ((r.nC rfl).nA (World.size_alloc _ _)).drew | exact ((r.nC rfl).nB (World.size_alloc _ _)) | exact ((r.nC rfl).nB (World.size_alloc _ _)).drew | exact (((r.nA rfl).nB (World.size_alloc _ _)).nC (size2J _ _ _)) | exact (((r.nA rfl).nB (World.size_alloc _ _)).nC (size2J _ _ _)).drew | exact (((r.nA rfl).nC (World.size_alloc _ _)).nB (size2J _ _ _)) | exact (((r.nA rfl).nC (World.size_alloc _ _)).nB (size2J _ _ _)).drew | exact (((r.nB rfl).nA (World.size_alloc _ _)).nC (size2J _ _ _)) | exact (((r.nB rfl).nA (World.size_alloc _ _)).nC (size2J _ _ _)).drew | exact (((r.nB rfl).nC (World.size_alloc _ _)).nA (size2J _ _ _)) | exact (((r.nB rfl).nC (World.size_alloc _ _)).nA (size2J _ _ _)).drew | exact (((r.nC rfl).nA (World.size_alloc _ _)).nB (size2J _ _ _)) | exact (((r.nC rfl).nA (World.size_alloc _ _)).nB (size2J _ _ _)).drew | exact (((r.nC rfl).nB (World.size_alloc _ _)).nA (size2J _ _ _)) | exact (((r.nC rfl).nB (World.size_alloc _ _)).nA (size2J _ _ _)).drew) ?_; clear r; intro qa capa w9 r; (try clear e0 e1 fz); (try (have hc := (r.c _ rfl).1; have e0 := (row2 hc).1; have e1 := (row2 hc).2.1; have fz := (row2 hc).2.2; clear hc)))
    | (refine rs_A (.tmp 79) (.tmp 81) _ _ A C (.slice p1 C.length y1) rfl rfl rfl rfl m2 sr2 cr2 l2 (by first | exact r | exact (r.nA rfl) | exact (r.nA rfl).drew | exact (r.nB rfl) | exact (r.nB rfl).drew | exact (r.nC rfl) | exact (r.nC rfl).drew | exact ((r.nA rfl).nB (World.size_alloc _ _)) | exact ((r.nA rfl).nB (World.size_alloc _ _)).drew | exact ((r.nA rfl).nC (World.size_alloc _ _)) | exact ((r.nA rfl).nC (World.size_alloc _ _)).drew | exact ((r.nB rfl).nA (World.size_alloc _ _)) | exact ((r.nB rfl).nA (World.size_alloc _ _)).drew | exact ((r.nB rfl).nC (World.size_alloc _ _)) | exact ((r.nB rfl).nC (World.size_alloc _ _)).drew | exact ((r.nC rfl).nA (World.size_alloc _ _)) | exact ((r.nC rfl).nA (World.size_alloc _ _)).drew | exact ((r.nC rfl).nB (World.size_alloc _ _)) | exact ((r.nC rfl).nB (World.size_alloc _ _)).drew | exact (((r.nA rfl).nB (World.size_alloc _ _)).nC (size2J _ _ _)) | exact (((r.nA rfl).nB (World.size_alloc _ _)).nC (size2J _ _ _)).drew | exact (((r.nA rfl).nC (World.size_alloc _ _)).nB (size2J _ _ _)) | exact (((r.nA rfl).nC (World.size_alloc _ _)).nB (size2J _ _ _)).drew | exact (((r.nB rfl).nA (World.size_alloc _ _)).nC (size2J _ _ _)) | exact (((r.nB rfl).nA (World.size_alloc _ _)).nC (size2J _ _ _)).drew | exact (((r.nB rfl).nC (World.size_alloc _ _)).nA (size2J _ _ _)) | exact (((r.nB rfl).nC (World.size_alloc _ _)).nA (size2J _ _ _)).drew | exact (((r.nC rfl).nA (World.size_alloc _ _)).nB (size2J _ _ _)) | exact (((r.nC rfl).nA (World.size_alloc _ _)).nB (size2J _ _ _)).drew | exact (((r.nC rfl).nB (World.size_alloc _ _)).nA (size2J _ _ _)) | exact (((r.nC rfl).nB (World.size_alloc _ _)).nA (size2J _ _ _)).drew) ?_; clear r; intro qa capa w9 r; (try clear e0 e1 fz); (try (have hc := (r.c _ rfl).1; have e0 := (row2 hc).1; have e1 := (row2 hc).2.1; have fz := (row2 hc).2.2; clear hc)))
    | (refine rs_B (.tmp 83) (.tmp 85) _ _ [] E (.slice o2 E.length z2) rfl rfl rfl rfl m3 sr3 cr3 l3 (by first | exact r | exact (r.nA rfl) | exact (r.nA rfl).drew | exact (r.nB rfl) | exact (r.nB rfl).drew | exact (r.nC rfl) | exact (r.nC rfl).drew | exact ((r.nA rfl).nB (World.size_alloc _ _)) | exact ((r.nA rfl).nB (World.size_alloc _ _)).drew | exact ((r.nA rfl).nC (World.size_alloc _ _)) | exact ((r.nA rfl).nC (World.size_alloc _ _)).drew | exact ((r.nB rfl).nA (World.size_alloc _ _)) | exact ((r.nB rfl).nA (World.size_alloc _ _)).drew | exact ((r.nB rfl).nC (World.size_alloc _ _)) | exact ((r.nB rfl).nC (World.size_alloc _ _)).drew | exact ((r.nC rfl).nA (World.size_alloc _ _)) | exact ((r.nC rfl).nA (World.size_alloc _ _)).drew | exact ((r.nC rfl).nB (World.size_alloc _ _)) | exact ((r.nC rfl).nB (World.size_alloc _ _)).drew | exact (((r.nA rfl).nB (World.size_alloc _ _)).nC (size2J _ _ _)) | exact (((r.nA rfl).nB (World.size_alloc _ _)).nC (size2J _ _ _)).drew | exact (((r.nA rfl).nC (World.size_alloc _ _)).nB (size2J _ _ _)) | exact (((r.nA rfl).nC (World.size_alloc _ _)).nB (size2J _ _ _)).drew | exact (((r.nB rfl).nA (World.size_alloc _ _)).nC (size2J _ _ _)) | exact (((r.nB rfl).nA (World.size_alloc _ _)).nC (size2J _ _ _)).drew | exact (((r.nB rfl).nC (World.size_alloc _ _)).nA (size2J _ _ _)) | exact (((r.nB rfl).nC (World.size_alloc _ _)).nA (size2J _ _ _)).drew | exact (((r.nC rfl).nA (World.size_alloc _ _)).nB (size2J _ _ _)) | exact (((r.nC rfl).nA (World.size_alloc _ _)).nB (size2J _ _ _)).drew | exact (((r.nC rfl).nB (World.size_alloc _ _)).nA (size2J _ _ _)) | exact (((r.nC rfl).nB (World.size_alloc _ _)).nA (size2J _ _ _)).drew) ?_; clear r; intro qb capb w9 r; (try clear e0 e1 fz); (try (have hc := (r.c _ rfl).1; have e0 := (row2 hc).1; have e1 := (row2 hc).2.1; have fz := (row2 hc).2.2; clear hc)))
    | (refine rs_B (.tmp 86) (.tmp 88) _ _ E F (.slice p2 F.length y2) rfl rfl rfl rfl m4 sr4 cr4 l4 (by first | exact r | exact (r.nA rfl) | exact (r.nA rfl).drew | exact (r.nB rfl) | exact (r.nB rfl).drew | exact (r.nC rfl) | exact (r.nC rfl).drew | exact ((r.nA rfl).nB (World.size_alloc _ _)) | exact ((r.nA rfl).nB (World.size_alloc _ _)).drew | exact ((r.nA rfl).nC (World.size_alloc _ _)) | exact ((r.nA rfl).nC (World.size_alloc _ _)).drew | exact ((r.nB rfl).nA (World.size_alloc _ _)) | exact ((r.nB rfl).nA (World.size_alloc _ _)).drew | exact ((r.nB rfl).nC (World.size_alloc _ _)) | exact ((r.nB rfl).nC (World.size_alloc _ _)).drew | exact ((r.nC rfl).nA (World.size_alloc _ _)) | exact ((r.nC rfl).nA (World.size_alloc _ _)).drew | exact ((r.nC rfl).nB (World.size_alloc _ _)) | exact ((r.nC rfl).nB (World.size_alloc _ _)).drew | exact (((r.nA rfl).nB (World.size_alloc _ _)).nC (size2J _ _ _)) | exact (((r.nA rfl).nB (World.size_alloc _ _)).nC (size2J _ _ _)).drew | exact (((r.nA rfl).nC (World.size_alloc _ _)).nB (size2J _ _ _)) | exact (((r.nA rfl).nC (World.size_alloc _ _)).nB (size2J _ _ _)).drew | exact (((r.nB rfl).nA (World.size_alloc _ _)).nC (size2J _ _ _)) | exact (((r.nB rfl).nA (World.size_alloc _ _)).nC (size2J _ _ _)).drew | exact (((r.nB rfl).nC (World.size_alloc _ _)).nA (size2J _ _ _)) | exact (((r.nB rfl).nC (World.size_alloc _ _)).nA (size2J _ _ _)).drew | exact (((r.nC rfl).nA (World.size_alloc _ _)).nB (size2J _ _ _)) | exact (((r.nC rfl).nA (World.size_alloc _ _)).nB (size2J _ _ _)).drew | exact (((r.nC rfl).nB (World.size_alloc _ _)).nA (size2J _ _ _)) | exact (((r.nC rfl).nB (World.size_alloc _ _)).nA (size2J _ _ _)).drew) ?_; clear r; intro qb capb w9 r; (try clear e0 e1 fz); (try (have hc := (r.c _ rfl).1; have e0 := (row2 hc).1; have e1 := (row2 hc).2.1; have fz := (row2 hc).2.2; clear hc)))
    | fail)
  all_goals
    first
    | (have EE := rs_endN r (.cells #[.slice (some ⟨qa, 0, none⟩) (A.length + C.length) capa, .slice (some ⟨qb, 0, none⟩) (E.length + F.length) capb] 25) (by rw [List.length_append]; omega) (by rw [List.length_append]; omega); obtain ⟨bel, VE⟩ := EE; have f0 := (row2 (heap_alloc_new w9 (.cells #[.slice (some ⟨qa, 0, none⟩) (A.length + C.length) capa, .slice (some ⟨qb, 0, none⟩) (E.length + F.length) capb] 25))).1; have f1 := (row2 (heap_alloc_new w9 (.cells #[.slice (some ⟨qa, 0, none⟩) (A.length + C.length) capa, .slice (some ⟨qb, 0, none⟩) (E.length + F.length) capb] 25))).2.1)
    | (have EE := rs_end r (na := A.length + C.length) (nb := E.length + F.length) (by simp) (by simp) (by omega) (by omega); obtain ⟨bel, VE⟩ := EE; have f0 := (row2 (set2J (a := .slice (some ⟨qa, 0, none⟩) (A.length + C.length) capa) (b := .slice (some ⟨qb, 0, none⟩) (E.length + F.length) capb) (r.c _ rfl).1)).1; have f1 := (row2 (set2J (a := .slice (some ⟨qa, 0, none⟩) (A.length + C.length) capa) (b := .slice (some ⟨qb, 0, none⟩) (E.length + F.length) capb) (r.c _ rfl).1)).2.1)
    have g0 := (bel.cell (p := ⟨q9, 0, none⟩) hq9).trans c5
    have g1 := (bel.cell (p := ⟨q9, 1, none⟩) hq9).trans c6
    try simp only [List.length_append] at VE
    have SM := dsame_eq (S8.on bel) VE
    have okb := okW'.out _ bel
    clear VE r bel
    go_wp2_with (first
      | (go_at_call 11; (with_reducible refine SM.mono ?_); rintro e w10 ⟨rfl, b10⟩)
      | fail)
    go_ret
    exact ⟨by first | rfl | simp, ble okb b10⟩
end Go.Proofs.YtlabcadpkdgjnaaGreatDoor
namespace Go.Proofs.YtlabcadpkdgjnaaGreatDoor
open Go Go.RowKit Go.Shelf
theorem szL_len {α : Type} {g : α → Nat} (h : ∀ x, 1 ≤ g x) : ∀ l : List α, l.length ≤ szL g l
  | [] => Nat.zero_le _
  | x :: l => by
    have h1 := h x
    have h2 := szL_len h l
    simp only [szL, List.length_cons]
    omega
theorem joins_walk (a b : Sch) (oa ea ob eb : Value) (w : World) (hA : SchAt w oa ea a) (hB : SchAt w ob eb b) (LA : SchL a) (LB : SchL b) (nA : Nn oa) (nE : Nn ea) (nC : Nn ob) (nF : Nn eb) (za : szS a ≤ 1048576) (zb : szS b ≤ 1048576) (gl : Gl w) : Calls Tryz.prog 7 #[.agg #[oa, ea], .agg #[ob, eb]] w fun e w' => e = .returned (.bool true) ∧ Below w.heap.size w w' := by
  cases h1 : printD a with
  | none =>
    cases h2 : printD b with
    | none => exact joins_nonenone a b oa ea ob eb w hA hB LA LB h1 h2 gl
    | some sy => exact joins_nonesome a b oa ea ob eb w hA hB LA LB h1 sy h2 gl
  | some sx =>
    cases h2 : printD b with
    | none => exact joins_somenone a b oa ea ob eb w hA hB LA LB sx h1 h2 gl
    | some sy =>
      obtain ⟨us, hu, e1, ga, lu, nu, su⟩ := printD_parts h1
      obtain ⟨vs, hv, e2, gb, lv, nv, sv⟩ := printD_parts h2
      subst e1 e2
      obtain ⟨ts, ht1, hn1⟩ := lex_count (okW_schema a us hu) lu su
      obtain ⟨rs, ht2, hn2⟩ := lex_count (okW_schema b vs hv) lv sv
      by_cases hb : (joinW us).length + (joinW vs).length + 1 > 16384
      · exact joins_big a b oa ea ob eb w hA hB LA LB us vs h1 h2 ts ht1 hn1 rs ht2 hn2 hb gl
      · by_cases hb2 : us.length + vs.length > 2048
        · exact joins_many a b oa ea ob eb w hA hB LA LB us vs h1 h2 ts ht1 hn1 rs ht2 hn2 hb hb2 gl
        · have hp := parse_both hu hv ga gb nu nv (by omega) (by omega)
          obtain ⟨A, E⟩ := a
          obtain ⟨C, F⟩ := b
          have q1 := szL_len (g := szO) (fun x => by unfold szO; omega) A
          have q2 := szL_len (g := szE) (fun x => by unfold szE; omega) E
          have q3 := szL_len (g := szO) (fun x => by unfold szO; omega) C
          have q4 := szL_len (g := szE) (fun x => by unfold szE; omega) F
          have z1 : szL szO A + szL szE E ≤ 1048576 := za
          have z2 : szL szO C + szL szE F ≤ 1048576 := zb
          exact joins_both A C E F oa ea ob eb w hA hB LA LB nA nE nC nF (by omega) (by omega) (by omega) (by omega) us vs h1 h2 ts ht1 hn1 rs ht2 hn2 hb hb2 hp gl
end Go.Proofs.YtlabcadpkdgjnaaGreatDoor
