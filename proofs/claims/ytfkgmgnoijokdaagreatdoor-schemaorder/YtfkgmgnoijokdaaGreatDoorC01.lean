/- Schemas: the calls whose answers the document fixes. -/
import Derived.Test.YtfkgmgnoijokdaaGreatDoorScL
namespace Go.Proofs.YtfkgmgnoijokdaaGreatDoor
open Go Go.RowKit Go.Shelf
abbrev sptV (x : Spt) : Value := .agg #[.int .i64 (x.o : Int), .int .i64 (x.k : Int), .string ⟨x.f.n.toArray⟩, .string ⟨x.f.t.toArray⟩, .string ⟨x.f.w.toArray⟩, .bool x.f.s, .string ⟨x.f.i.toArray⟩]
abbrev sptO (x : Spt) : Obj := .cells #[.int .i64 (x.o : Int), .int .i64 (x.k : Int), .string ⟨x.f.n.toArray⟩, .string ⟨x.f.t.toArray⟩, .string ⟨x.f.w.toArray⟩, .bool x.f.s, .string ⟨x.f.i.toArray⟩] 52
section
variable {w : World} {ov ev : Value} {s : Sch}
set_option maxRecDepth 100000 in
theorem hcheck1_any (x : Spt) (w : World) (gl : Gl w) : Calls Tryz.prog 27 (#[sptV x] ++ #[]) w fun e w' => e = .returned (.bool (frfS x.f.n)) ∧ Below w.heap.size w w' := by
  have FT := fun o => hfreeField_any x.f.n (w.alloc o) (gl.below (al1 w o) (Nat.le_refl _))
  show Calls Tryz.prog 27 #[sptV x] w _
  obtain ⟨xo, xk, fn, ft, fw, fs, fi⟩ := x
  go_enter Tryz.func27, Tryz.ntmps27
  go_wp2_with (first
    | (go_at_call 28; (with_reducible refine (FT _).mono ?_); rintro e w2 ⟨rfl, b2⟩)
    | fail)
  go_ret
  exact ⟨rfl, (al1 w _).trans (b2.mono (al1 w _).size)⟩
set_option maxRecDepth 100000 in
theorem hcheck2_any (x : Spt) (P : Nat) (h : SchAt w ov ev s) (h0 : w.cell? ⟨P, 0, none⟩ = some ov) (h1 : w.cell? ⟨P, 1, none⟩ = some ev) : Calls Tryz.prog 30 (#[sptV x] ++ #[.pointer (some ⟨P, 0, none⟩)]) w fun e w' => e = .returned (.bool (wtyS s x.f)) ∧ Below w.heap.size w w' := by
  have FT := fun o => hwellTyped_any (h.on (al1 w o)) x.f
  obtain ⟨a, c, rfl, _, _⟩ := h.os.slice
  obtain ⟨a', c', rfl, _, _⟩ := h.es.slice
  have g0 := fun o => cell_on (al1 w o) h0
  have g1 := fun o => cell_on (al1 w o) h1
  show Calls Tryz.prog 30 #[sptV x, .pointer (some ⟨P, 0, none⟩)] w _
  obtain ⟨xo, xk, fn, ft, fw, fs, fi⟩ := x
  go_enter Tryz.func30, Tryz.ntmps30
  go_wp2_with (first
    | (go_at_call 31; (with_reducible refine (FT _).mono ?_); rintro e w2 ⟨rfl, b2⟩)
    | fail)
  go_ret
  exact ⟨rfl, (al1 w _).trans (b2.mono (al1 w _).size)⟩
set_option maxRecDepth 100000 in
theorem hcheck3_any (x : Spt) (P : Nat) (h : SchAt w ov ev s) (h0 : w.cell? ⟨P, 0, none⟩ = some ov) (h1 : w.cell? ⟨P, 1, none⟩ = some ev) : Calls Tryz.prog 32 (#[sptV x] ++ #[.pointer (some ⟨P, 0, none⟩)]) w fun e w' => e = .returned (.bool (!x.f.s || decide (edgS s x.f < 0))) ∧ Below w.heap.size w w' := by
  have FT := fun o => hedge_any (h.on (al1 w o)) x.f
  obtain ⟨a, c, rfl, _, _⟩ := h.os.slice
  obtain ⟨a', c', rfl, _, _⟩ := h.es.slice
  have g0 := fun o => cell_on (al1 w o) h0
  have g1 := fun o => cell_on (al1 w o) h1
  show Calls Tryz.prog 32 #[sptV x, .pointer (some ⟨P, 0, none⟩)] w _
  obtain ⟨xo, xk, fn, ft, fw, fs, fi⟩ := x
  simp only at *
  generalize edgS s ⟨fn, ft, fw, fs, fi⟩ = k at *
  cases fs with
  | false =>
    go_enter Tryz.func32, Tryz.ntmps32
    go_wp2
    go_ret
    exact ⟨by simp, al1 w _⟩
  | true =>
    go_enter Tryz.func32, Tryz.ntmps32
    go_wp2_with (first
      | (go_at_call 18; (with_reducible refine (FT _).mono ?_); rintro e w2 ⟨rfl, b2⟩)
      | fail)
    go_ret
    exact ⟨by simp, (al1 w _).trans (b2.mono (al1 w _).size)⟩
def ledS (s : Sch) (x : Spt) : Bool := if backS s x.o x.k < 0 then false else match atI s.os (edgS s x.f) with
  | none => false
  | some p => match atI p.fs (backS s x.o x.k) with
    | none => false
    | some g => decide (edgS s g = (x.o : Int)) && (g.i == x.f.n)
end
end Go.Proofs.YtfkgmgnoijokdaaGreatDoor
namespace Go.Proofs.YtfkgmgnoijokdaaGreatDoor
open Go Go.RowKit Go.Shelf
theorem bel_drew9 (w : World) (o : Obj) : Below w.heap.size w (w.alloc o).drew := ⟨(al1 w o).os, (al1 w o).tape, (al1 w o).output, (al1 w o).size, (al1 w o).block⟩
theorem led_yes {s : Sch} {x : Spt} {o : Ob} (h1 : s.os[x.o]? = some o) (h2 : o.fs[x.k]? = some x.f) (h : ¬ backS s x.o x.k < 0) : ∃ (Tn An : Nat) (p : Ob) (g : Fld), edgS s x.f = (Tn : Int) ∧ backS s x.o x.k = (An : Int) ∧ s.os[Tn]? = some p ∧ p.fs[An]? = some g ∧ ledS s x = (decide (edgS s g = (x.o : Int)) && (g.i == x.f.n)) := by
  have e0 : backS s x.o x.k = if edgS s x.f < 0 ∨ x.f.i = [] then -1 else match atI s.os (edgS s x.f) with
      | none => -1
      | some p => plB x.f.i (p.fs.map (·.n)) := by
    unfold backS
    simp only [atI_some h1, atI_some h2]
    rfl
  have hr := edg_range s x.f
  by_cases hc : edgS s x.f < 0 ∨ x.f.i = []
  · rw [if_pos hc] at e0
    rw [e0] at h
    exact absurd (by decide) h
  · rw [if_neg hc] at e0
    have hge : 0 ≤ edgS s x.f := by
      rcases Int.lt_or_le (edgS s x.f) 0 with q | q
      · exact absurd (Or.inl q) hc
      · exact q
    obtain ⟨Tn, hT⟩ : ∃ Tn : Nat, edgS s x.f = (Tn : Int) := ⟨(edgS s x.f).toNat, by omega⟩
    obtain ⟨p, hp⟩ : ∃ p, s.os[Tn]? = some p := ⟨_, List.getElem?_eq_getElem (by omega)⟩
    rw [hT, atI_some hp] at e0
    simp only at e0
    have hpr := plB_range x.f.i (p.fs.map (·.n))
    rw [← e0] at hpr
    obtain ⟨An, hA⟩ : ∃ An : Nat, backS s x.o x.k = (An : Int) := ⟨(backS s x.o x.k).toNat, by omega⟩
    rw [hA, List.length_map] at hpr
    obtain ⟨g, hg⟩ : ∃ g, p.fs[An]? = some g := ⟨_, List.getElem?_eq_getElem (by omega)⟩
    refine ⟨Tn, An, p, g, hT, hA, hp, hg, ?_⟩
    unfold ledS
    rw [if_neg h, hT, atI_some hp]
    simp only
    rw [hA, atI_some hg]
section
variable {w : World} {ov ev : Value} {s : Sch}
set_option maxRecDepth 100000 in
set_option maxHeartbeats 8000000 in
theorem hledBack_any (h : SchAt w ov ev s) (x : Spt) (o : Ob) (h1 : s.os[x.o]? = some o) (h2 : o.fs[x.k]? = some x.f) : Calls Tryz.prog 34 #[.agg #[ov, ev], sptV x] w fun e w' => e = .returned (.bool (ledS s x)) ∧ Below w.heap.size w w' := by
  have BK := fun o o' => hback_any (h.on (al2 w o o')) (x.o : Int) (x.k : Int)
  have hh := h
  have hos := h.os
  obtain ⟨a, c, rfl, _, _⟩ := h.os.slice
  obtain ⟨a', c', rfl, _, _⟩ := h.es.slice
  by_cases hb : backS s x.o x.k < 0
  · have HL : Hid (ledS s x = false) := by
      show _ = _
      unfold ledS
      rw [if_pos hb]
    generalize backS s x.o x.k = k at *
    obtain ⟨xo, xk, fn, ft, fw, fs, fi⟩ := x
    go_enter Tryz.func34, Tryz.ntmps34
    go_wp2_with (first
      | (go_at_call 20; (with_reducible refine (BK _ _).mono ?_); rintro e w2 ⟨rfl, b2⟩)
      | fail)
    go_ret
    exact ⟨by rw [HL.out]; rfl, (al2 w _ _).trans (b2.mono (al2 w _ _).size)⟩
  · obtain ⟨Tn, An, p, g, hT, hA, hp, hg, hL⟩ := led_yes h1 h2 hb
    obtain ⟨b, o', c0, a1, c1, hv, hbl, _, e0, e1, hfs⟩ := ob_cells hos hp
    cases hv
    obtain ⟨b1, o1, rfl, hbl1, _, g0, g1, g2, g3, g4⟩ := fld_cells hfs hg
    have ED := fun W (bb : Below w.heap.size w W) => hedge_any (hh.on bb) x.f
    have EG := fun W (bb : Below w.heap.size w W) => hedge_any (hh.on bb) g
    rw [hA] at BK
    rw [hT] at ED
    have HL : Hid (ledS s x = (decide (edgS s g = (x.o : Int)) && (g.i == x.f.n))) := hL
    generalize edgS s g = kg at *
    have l1 : ((Tn : Nat) : Int) < (s.os.length : Int) := by have := (List.getElem?_eq_some_iff.1 hp).1; omega
    have l2 : ((An : Nat) : Int) < (p.fs.length : Int) := by have := (List.getElem?_eq_some_iff.1 hg).1; omega
    have hTn : ((Tn : Nat) : Int).toNat = Tn := by omega
    have hAn : ((An : Nat) : Int).toNat = An := by omega
    have hAd : decide (((An : Nat) : Int) < 0) = false := by rw [decide_eq_false_iff_not]; omega
    clear hb hT hA hL hp hg h1 h2
    obtain ⟨xo, xk, fn, ft, fw, fs, fi⟩ := x
    obtain ⟨gn, gt, gw, gs, gi⟩ := g
    simp only at *
    show Calls Tryz.prog 34 #[.agg #[.slice (some ⟨b, o', none⟩) s.os.length c, .slice a' s.es.length c'], .agg #[.int .i64 (xo : Int), .int .i64 (xk : Int), .string ⟨fn.toArray⟩, .string ⟨ft.toArray⟩, .string ⟨fw.toArray⟩, .bool fs, .string ⟨fi.toArray⟩]] w fun e w' => e = .returned (.bool (ledS s ⟨xo, xk, fn, ft, fw, fs, fi⟩)) ∧ Below w.heap.size w w'
    generalize ledS s ⟨xo, xk, fn, ft, fw, fs, fi⟩ = LB at *
    generalize ((xo : Nat) : Int) = X at *
    go_enter Tryz.func34, Tryz.ntmps34
    go_wp2_with (first
      | (go_at_call 20; (with_reducible refine (BK _ _).mono ?_); rintro e w2 ⟨rfl, b2⟩; have B2 := (al2 w _ _).trans (b2.mono (al2 w _ _).size); obtain ⟨q0, q1, fq⟩ := row2 ((b2.block _ (by rw [World.size_alloc, World.size_alloc]; omega)).trans (new1 w (.cells #[.slice (some ⟨b, o', none⟩) s.os.length c, .slice a' s.es.length c'] 25) (.cells #[.int .i64 X, .int .i64 (xk : Int), .string ⟨fn.toArray⟩, .string ⟨ft.toArray⟩, .string ⟨fw.toArray⟩, .bool fs, .string ⟨fi.toArray⟩] 52))); obtain ⟨n0, n1, n2, n3, n4, n5, n6, fn7⟩ := row7 ((b2.block _ (by rw [World.size_alloc, World.size_alloc]; omega)).trans (new2 w (.cells #[.slice (some ⟨b, o', none⟩) s.os.length c, .slice a' s.es.length c'] 25) (.cells #[.int .i64 X, .int .i64 (xk : Int), .string ⟨fn.toArray⟩, .string ⟨ft.toArray⟩, .string ⟨fw.toArray⟩, .bool fs, .string ⟨fi.toArray⟩] 52))); have r1 := cell_on B2 e1; have k0 := cell_on B2 g0; have k1 := cell_on B2 g1; have k2 := cell_on B2 g2; have k3 := cell_on B2 g3; have k4 := cell_on B2 g4)
      | fail)
    have bd2 : Below w2.heap.size w2 w2.drew := ⟨rfl, rfl, rfl, Nat.le_refl _, fun _ _ => rfl⟩
    have bd3 : Below w2.heap.size w2 (w2.alloc (.cells #[.string ⟨#[]⟩, .string ⟨#[]⟩, .string ⟨#[]⟩, .bool false, .string ⟨#[]⟩] 33)).drew := bel_drew9 w2 _
    have ne_q0 := World.new_ne w2 _ q0
    have ne_q1 := World.new_ne w2 _ q1
    have ne_n2 := World.new_ne w2 _ n2
    have ne_n3 := World.new_ne w2 _ n3
    have ne_n4 := World.new_ne w2 _ n4
    have ne_n5 := World.new_ne w2 _ n5
    have ne_n6 := World.new_ne w2 _ n6
    have ne_r1 := World.new_ne w2 _ r1
    have ne_k0 := World.new_ne w2 _ k0
    have ne_k1 := World.new_ne w2 _ k1
    have ne_k2 := World.new_ne w2 _ k2
    have ne_k3 := World.new_ne w2 _ k3
    have ne_k4 := World.new_ne w2 _ k4
    go_region_held3 (fun w' => w'.cell? ⟨w.heap.size, 0, none⟩ = some (.slice (some ⟨b, o', none⟩) s.os.length c) ∧ w'.cell? ⟨w.heap.size, 1, none⟩ = some (.slice a' s.es.length c') ∧ w'.cell? ⟨w.heap.size + 1, 2, none⟩ = some (.string ⟨fn.toArray⟩) ∧ w'.cell? ⟨w.heap.size + 1, 3, none⟩ = some (.string ⟨ft.toArray⟩) ∧ w'.cell? ⟨w.heap.size + 1, 4, none⟩ = some (.string ⟨fw.toArray⟩) ∧ w'.cell? ⟨w.heap.size + 1, 5, none⟩ = some (.bool fs) ∧ w'.cell? ⟨w.heap.size + 1, 6, none⟩ = some (.string ⟨fi.toArray⟩) ∧ w'.cell? ⟨b, o' + Tn * 2 + 1, none⟩ = some (.slice (some ⟨b1, o1, none⟩) p.fs.length c1) ∧ w'.cell? ⟨b1, o1 + An * 5, none⟩ = some (.string ⟨gn.toArray⟩) ∧ w'.cell? ⟨b1, o1 + An * 5 + 1, none⟩ = some (.string ⟨gt.toArray⟩) ∧ w'.cell? ⟨b1, o1 + An * 5 + 2, none⟩ = some (.string ⟨gw.toArray⟩) ∧ w'.cell? ⟨b1, o1 + An * 5 + 3, none⟩ = some (.bool gs) ∧ w'.cell? ⟨b1, o1 + An * 5 + 4, none⟩ = some (.string ⟨gi.toArray⟩)) (go_keep) ((first
      | (go_at_call 18; (with_reducible refine (ED _ (B2.trans (bd2.mono B2.size))).mono ?_); rintro e w3 ⟨rfl, b3⟩; have s0 := cell_on b3 q0; have s1 := cell_on b3 q1; have s2 := cell_on b3 n2; have s3 := cell_on b3 n3; have s4 := cell_on b3 n4; have s5 := cell_on b3 n5; have s6 := cell_on b3 n6; have t1 := cell_on b3 r1; have t2 := cell_on b3 k0; have t3 := cell_on b3 k1; have t4 := cell_on b3 k2; have t5 := cell_on b3 k3; have t6 := cell_on b3 k4)
      | (go_at_call 18; (with_reducible refine (ED _ (B2.trans (bd3.mono B2.size))).mono ?_); rintro e w3 ⟨rfl, b3⟩; have s0 := cell_on b3 (cell_on (al1 w2 (.cells #[.string ⟨#[]⟩, .string ⟨#[]⟩, .string ⟨#[]⟩, .bool false, .string ⟨#[]⟩] 33)) q0); have s1 := cell_on b3 (cell_on (al1 w2 (.cells #[.string ⟨#[]⟩, .string ⟨#[]⟩, .string ⟨#[]⟩, .bool false, .string ⟨#[]⟩] 33)) q1); have s2 := cell_on b3 (cell_on (al1 w2 (.cells #[.string ⟨#[]⟩, .string ⟨#[]⟩, .string ⟨#[]⟩, .bool false, .string ⟨#[]⟩] 33)) n2); have s3 := cell_on b3 (cell_on (al1 w2 (.cells #[.string ⟨#[]⟩, .string ⟨#[]⟩, .string ⟨#[]⟩, .bool false, .string ⟨#[]⟩] 33)) n3); have s4 := cell_on b3 (cell_on (al1 w2 (.cells #[.string ⟨#[]⟩, .string ⟨#[]⟩, .string ⟨#[]⟩, .bool false, .string ⟨#[]⟩] 33)) n4); have s5 := cell_on b3 (cell_on (al1 w2 (.cells #[.string ⟨#[]⟩, .string ⟨#[]⟩, .string ⟨#[]⟩, .bool false, .string ⟨#[]⟩] 33)) n5); have s6 := cell_on b3 (cell_on (al1 w2 (.cells #[.string ⟨#[]⟩, .string ⟨#[]⟩, .string ⟨#[]⟩, .bool false, .string ⟨#[]⟩] 33)) n6); have t1 := cell_on b3 (cell_on (al1 w2 (.cells #[.string ⟨#[]⟩, .string ⟨#[]⟩, .string ⟨#[]⟩, .bool false, .string ⟨#[]⟩] 33)) r1); have t2 := cell_on b3 (cell_on (al1 w2 (.cells #[.string ⟨#[]⟩, .string ⟨#[]⟩, .string ⟨#[]⟩, .bool false, .string ⟨#[]⟩] 33)) k0); have t3 := cell_on b3 (cell_on (al1 w2 (.cells #[.string ⟨#[]⟩, .string ⟨#[]⟩, .string ⟨#[]⟩, .bool false, .string ⟨#[]⟩] 33)) k1); have t4 := cell_on b3 (cell_on (al1 w2 (.cells #[.string ⟨#[]⟩, .string ⟨#[]⟩, .string ⟨#[]⟩, .bool false, .string ⟨#[]⟩] 33)) k2); have t5 := cell_on b3 (cell_on (al1 w2 (.cells #[.string ⟨#[]⟩, .string ⟨#[]⟩, .string ⟨#[]⟩, .bool false, .string ⟨#[]⟩] 33)) k3); have t6 := cell_on b3 (cell_on (al1 w2 (.cells #[.string ⟨#[]⟩, .string ⟨#[]⟩, .string ⟨#[]⟩, .bool false, .string ⟨#[]⟩] 33)) k4); obtain ⟨z0, z1, z2, z3, z4, fz⟩ := row5 ((b3.block _ (by show w2.heap.size < (World.alloc _ _).heap.size; rw [World.size_alloc]; omega)).trans (heap_alloc_new w2 (.cells #[.string ⟨#[]⟩, .string ⟨#[]⟩, .string ⟨#[]⟩, .bool false, .string ⟨#[]⟩] 33))))
      | fail))
    · have W1c := al1 w3 (.cells #[.string ⟨gn.toArray⟩, .string ⟨gt.toArray⟩, .string ⟨gw.toArray⟩, .bool gs, .string ⟨gi.toArray⟩] 33)
      have B3 := B2.trans (((bel_drew0 b3)).mono B2.size)
      have BW := B3.trans (W1c.mono B3.size)
      obtain ⟨m0, m1, m2, m3, m4, fm⟩ := row5 (heap_alloc_new w3 (.cells #[.string ⟨gn.toArray⟩, .string ⟨gt.toArray⟩, .string ⟨gw.toArray⟩, .bool gs, .string ⟨gi.toArray⟩] 33))
      have v0 := cell_on W1c s0
      have v1 := cell_on W1c s1
      have y0 := cell_on W1c (cell_on b3 n0)
      have y2 := cell_on W1c s2
      generalize hF : w3.heap.size = F9 at *
      clear hF
      generalize (w3.alloc (.cells #[.string ⟨gn.toArray⟩, .string ⟨gt.toArray⟩, .string ⟨gw.toArray⟩, .bool gs, .string ⟨gi.toArray⟩] 33)) = W9 at *
      have bdW : Below W9.heap.size W9 W9.drew := ⟨rfl, rfl, rfl, Nat.le_refl _, fun _ _ => rfl⟩
      cases hkd : (kg == X) with
      | true =>
        go_wp2
        go_region_held3 (fun w' => w'.cell? ⟨w.heap.size, 0, none⟩ = some (.slice (some ⟨b, o', none⟩) s.os.length c) ∧ w'.cell? ⟨w.heap.size, 1, none⟩ = some (.slice a' s.es.length c') ∧ w'.cell? ⟨F9, 0, none⟩ = some (.string ⟨gn.toArray⟩) ∧ w'.cell? ⟨F9, 1, none⟩ = some (.string ⟨gt.toArray⟩) ∧ w'.cell? ⟨F9, 2, none⟩ = some (.string ⟨gw.toArray⟩) ∧ w'.cell? ⟨F9, 3, none⟩ = some (.bool gs) ∧ w'.cell? ⟨F9, 4, none⟩ = some (.string ⟨gi.toArray⟩) ∧ w'.cell? ⟨w.heap.size + 1, 0, none⟩ = some (.int .i64 X) ∧ w'.cell? ⟨w.heap.size + 1, 2, none⟩ = some (.string ⟨fn.toArray⟩)) (go_keep) ((go_at_call 18; (with_reducible refine (EG _ (BW.trans (bdW.mono BW.size))).mono ?_); rintro e w5 ⟨rfl, b5⟩; have p0 := cell_on b5 v0; have p1 := cell_on b5 v1; have p2 := cell_on b5 m0; have p3 := cell_on b5 m1; have p4 := cell_on b5 m2; have p5 := cell_on b5 m3; have p6 := cell_on b5 m4; have p7 := cell_on b5 y0; have p8 := cell_on b5 y2))
        all_goals
          go_wp2
          go_ret
          exact ⟨by (rw [HL.out]; (try simp at hkd); simp [hkd]), BW.trans ((bel_drew0 b5).mono BW.size)⟩
      | false =>
        go_wp2
        refine wp_region_held_drew (S := (fun w' => w'.cell? ⟨w.heap.size, 0, none⟩ = some (.slice (some ⟨b, o', none⟩) s.os.length c) ∧ w'.cell? ⟨w.heap.size, 1, none⟩ = some (.slice a' s.es.length c') ∧ w'.cell? ⟨F9, 0, none⟩ = some (.string ⟨gn.toArray⟩) ∧ w'.cell? ⟨F9, 1, none⟩ = some (.string ⟨gt.toArray⟩) ∧ w'.cell? ⟨F9, 2, none⟩ = some (.string ⟨gw.toArray⟩) ∧ w'.cell? ⟨F9, 3, none⟩ = some (.bool gs) ∧ w'.cell? ⟨F9, 4, none⟩ = some (.string ⟨gi.toArray⟩) ∧ w'.cell? ⟨w.heap.size + 1, 0, none⟩ = some (.int .i64 X) ∧ w'.cell? ⟨w.heap.size + 1, 2, none⟩ = some (.string ⟨fn.toArray⟩))) (by kernel_rfl) ?_ (fun hHeld => ?_)
        · go_keep
        refine wpAnyH_take (i := 0) (oi := ⟨some 27, _, _, _, _, _⟩) (v := ?_) rfl (by kernel_rfl) (by kernel_rfl) (by kernel_rfl) (fun _ _ _ h => h) (Or.inl ⟨by rfl, ?_⟩) (by assumption) ?_
        rotate_left
        · intro w' hSw
          (try dsimp only at hSw)
          go_simp
          (try with_reducible rfl)
        simp only [Act.put, List.setIfInBounds_toArray, List.set_cons_zero, List.set_cons_succ]
        refine wpAnyH_take (i := 1) (oi := ⟨some 28, _, _, _, _, _⟩) (v := ?_) rfl (by kernel_rfl) (by kernel_rfl) (by kernel_rfl) (fun _ _ _ h => h) (Or.inl ⟨by rfl, ?_⟩) (by assumption) ?_
        rotate_left
        · intro w' hSw
          (try dsimp only at hSw)
          go_simp
          (try with_reducible rfl)
        simp only [Act.put, List.setIfInBounds_toArray, List.set_cons_zero, List.set_cons_succ]
        refine wpAnyH_take (i := 3) (oi := ⟨some 30, _, _, _, _, _⟩) (v := ?_) rfl (by kernel_rfl) (by kernel_rfl) (by kernel_rfl) (fun _ _ _ h => h) (Or.inl ⟨by rfl, ?_⟩) (by assumption) ?_
        rotate_left
        · intro w' hSw
          (try dsimp only at hSw)
          go_simp
          (try with_reducible rfl)
        simp only [Act.put, List.setIfInBounds_toArray, List.set_cons_zero, List.set_cons_succ]
        refine wpAnyH_take (i := 4) (oi := ⟨some 31, _, _, _, _, _⟩) (v := ?_) rfl (by kernel_rfl) (by kernel_rfl) (by kernel_rfl) (fun _ _ _ h => h) (Or.inl ⟨by rfl, ?_⟩) (by assumption) ?_
        rotate_left
        · intro w' hSw
          (try dsimp only at hSw)
          go_simp
          (try with_reducible rfl)
        simp only [Act.put, List.setIfInBounds_toArray, List.set_cons_zero, List.set_cons_succ]
        refine wpAnyH_ready (rs := [2]) (by kernel_rfl) (by simp) ?_
        refine AllReadyH.cons (o := ⟨some 29, _, _, _, _, _⟩) rfl (fun K hK => ?_) AllReadyH.nil
        go_simp
        (go_at_call 18; (with_reducible refine (EG _ (BW.trans (bdW.mono BW.size))).mono ?_); rintro e w5 ⟨rfl, b5⟩; have p0 := cell_on b5 v0; have p1 := cell_on b5 v1; have p2 := cell_on b5 m0; have p3 := cell_on b5 m1; have p4 := cell_on b5 m2; have p5 := cell_on b5 m3; have p6 := cell_on b5 m4; have p7 := cell_on b5 y0; have p8 := cell_on b5 y2)
        refine hK.out _ _ ?_ (fun hHeld => ?_)
        · go_keep
        clear hK K
        refine wpAnyH_take (i := 5) (oi := ⟨some 32, _, _, _, _, _⟩) (v := ?_) rfl (by kernel_rfl) (by kernel_rfl) (by kernel_rfl) (fun _ _ _ h => h) (Or.inl ⟨by rfl, ?_⟩) (by assumption) ?_
        rotate_left
        · intro w' hSw
          (try dsimp only at hSw)
          go_simp
          (try with_reducible rfl)
        simp only [Act.put, List.setIfInBounds_toArray, List.set_cons_zero, List.set_cons_succ]
        refine wpAnyH_take (i := 6) (oi := ⟨some 33, _, _, _, _, _⟩) (v := ?_) rfl (by kernel_rfl) (by kernel_rfl) (by kernel_rfl) (fun _ _ _ h => h) (Or.inl ⟨by rfl, ?_⟩) (by assumption) ?_
        rotate_left
        · intro w' hSw
          (try dsimp only at hSw)
          go_simp
          (try with_reducible rfl)
        simp only [Act.put, List.setIfInBounds_toArray, List.set_cons_zero, List.set_cons_succ]
        refine wpAnyH_take (i := 7) (oi := ⟨some 34, _, _, _, _, _⟩) (v := undef) rfl (by kernel_rfl) (by kernel_rfl) (by kernel_rfl) (fun _ _ _ h => h) (Or.inr ⟨by rfl, rfl⟩) (by assumption) ?_
        simp only [Act.put, List.setIfInBounds_toArray, List.set_cons_zero, List.set_cons_succ]
        refine wpAnyH_take (i := 8) (oi := ⟨some 35, _, _, _, _, _⟩) (v := undef) rfl (by kernel_rfl) (by kernel_rfl) (by kernel_rfl) (fun _ _ _ h => h) (Or.inr ⟨by rfl, rfl⟩) (by assumption) ?_
        simp only [Act.put, List.setIfInBounds_toArray, List.set_cons_zero, List.set_cons_succ]
        refine wpAnyH_take (i := 9) (oi := ⟨some 36, _, _, _, _, _⟩) (v := undef) rfl (by kernel_rfl) (by kernel_rfl) (by kernel_rfl) (fun _ _ _ h => h) (Or.inr ⟨by rfl, rfl⟩) (by assumption) ?_
        simp only [Act.put, List.setIfInBounds_toArray, List.set_cons_zero, List.set_cons_succ]
        refine wpAnyH_take (i := 10) (oi := ⟨some 37, _, _, _, _, _⟩) (v := undef) rfl (by kernel_rfl) (by kernel_rfl) (by kernel_rfl) (fun _ _ _ h => h) (Or.inr ⟨by rfl, rfl⟩) (by assumption) ?_
        simp only [Act.put, List.setIfInBounds_toArray, List.set_cons_zero, List.set_cons_succ]
        refine wpAnyH_take (i := 11) (oi := ⟨some 38, _, _, _, _, _⟩) (v := undef) rfl (by kernel_rfl) (by kernel_rfl) (by kernel_rfl) (fun _ _ _ h => h) (Or.inr ⟨by rfl, rfl⟩) (by assumption) ?_
        simp only [Act.put, List.setIfInBounds_toArray, List.set_cons_zero, List.set_cons_succ]
        refine wpAnyH_take (i := 12) (oi := ⟨some 39, _, _, _, _, _⟩) (v := undef) rfl (by kernel_rfl) (by kernel_rfl) (by kernel_rfl) (fun _ _ _ h => h) (Or.inr ⟨by rfl, rfl⟩) (by assumption) ?_
        simp only [Act.put, List.setIfInBounds_toArray, List.set_cons_zero, List.set_cons_succ]
        refine wpAnyH_take (i := 13) (oi := ⟨some 40, _, _, _, _, _⟩) (v := ?_) rfl (by kernel_rfl) (by kernel_rfl) (by kernel_rfl) (fun _ _ _ h => h) (Or.inl ⟨by rfl, ?_⟩) (by assumption) ?_
        rotate_left
        · intro w' hSw
          (try dsimp only at hSw)
          go_simp
          (try with_reducible rfl)
        simp only [Act.put, List.setIfInBounds_toArray, List.set_cons_zero, List.set_cons_succ]
        refine wpAnyH_take (i := 14) (oi := ⟨some 4, _, _, _, _, _⟩) (v := ?_) rfl (by kernel_rfl) (by kernel_rfl) (by kernel_rfl) (fun _ _ _ h => h) (Or.inl ⟨by rfl, ?_⟩) (by assumption) ?_
        rotate_left
        · intro w' hSw
          (try dsimp only at hSw)
          go_simp
          (try with_reducible rfl)
        simp only [Act.put, List.setIfInBounds_toArray, List.set_cons_zero, List.set_cons_succ]
        refine wpAnyH_done (by kernel_rfl) ?_ _
        all_goals
          go_wp2
          go_ret
          exact ⟨by (rw [HL.out]; (try simp at hkd); simp [hkd]), BW.trans ((bel_drew0 b5).mono BW.size)⟩
    · have hzb := (b3.block w2.heap.size (by show w2.heap.size < (World.alloc _ _).heap.size; rw [World.size_alloc]; omega)).trans (heap_alloc_new w2 (.cells #[.string ⟨#[]⟩, .string ⟨#[]⟩, .string ⟨#[]⟩, .bool false, .string ⟨#[]⟩] 33))
      have KW : Kp (fun k => k = w2.heap.size) w3 (((((w3.setCell ⟨w2.heap.size, 0, none⟩ (.string ⟨gn.toArray⟩)).setCell ⟨w2.heap.size, 1, none⟩ (.string ⟨gt.toArray⟩)).setCell ⟨w2.heap.size, 2, none⟩ (.string ⟨gw.toArray⟩)).setCell ⟨w2.heap.size, 3, none⟩ (.bool gs)).setCell ⟨w2.heap.size, 4, none⟩ (.string ⟨gi.toArray⟩)) := (((((Kp.refl (fun k => k = w2.heap.size) w3).set w2.heap.size 0 _ (Or.inr rfl)).set w2.heap.size 1 _ (Or.inr rfl)).set w2.heap.size 2 _ (Or.inr rfl)).set w2.heap.size 3 _ (Or.inr rfl)).set w2.heap.size 4 _ (Or.inr rfl)
      have hF9 : (((((w3.setCell ⟨w2.heap.size, 0, none⟩ (.string ⟨gn.toArray⟩)).setCell ⟨w2.heap.size, 1, none⟩ (.string ⟨gt.toArray⟩)).setCell ⟨w2.heap.size, 2, none⟩ (.string ⟨gw.toArray⟩)).setCell ⟨w2.heap.size, 3, none⟩ (.bool gs)).setCell ⟨w2.heap.size, 4, none⟩ (.string ⟨gi.toArray⟩)).heap[w2.heap.size]? = some (.cells #[.string ⟨gn.toArray⟩, .string ⟨gt.toArray⟩, .string ⟨gw.toArray⟩, .bool gs, .string ⟨gi.toArray⟩] 33) := by
        rw [heap_setCell_same _ _ 4 _ _ _ (heap_setCell_same _ _ 3 _ _ _ (heap_setCell_same _ _ 2 _ _ _ (heap_setCell_same _ _ 1 _ _ _ (heap_setCell_same _ _ 0 _ _ _ hzb))))]
        simp
      obtain ⟨m0, m1, m2, m3, m4, fm⟩ := row5 hF9
      have kc : ∀ {q j : Nat} {u : Value}, w3.cell? ⟨q, j, none⟩ = some u → w2.heap.size ≠ q → (((((w3.setCell ⟨w2.heap.size, 0, none⟩ (.string ⟨gn.toArray⟩)).setCell ⟨w2.heap.size, 1, none⟩ (.string ⟨gt.toArray⟩)).setCell ⟨w2.heap.size, 2, none⟩ (.string ⟨gw.toArray⟩)).setCell ⟨w2.heap.size, 3, none⟩ (.bool gs)).setCell ⟨w2.heap.size, 4, none⟩ (.string ⟨gi.toArray⟩)).cell? ⟨q, j, none⟩ = some u := fun hq hne => (World.cell?_of_block (KW.block _ (World.block_lt_of_cell? w3 _ hq) (fun e => hne e.symm))).trans hq
      have v0 := kc s0 ne_q0
      have v1 := kc s1 ne_q1
      have y0 := kc (cell_on b3 (cell_on (al1 w2 (.cells #[.string ⟨#[]⟩, .string ⟨#[]⟩, .string ⟨#[]⟩, .bool false, .string ⟨#[]⟩] 33)) n0)) ne_n2
      have y2 := kc s2 ne_n2
      have B3 := B2.trans (bel_drew b3 |>.mono B2.size)
      have hz2 := B2.size
      have BW : Below w.heap.size w (((((w3.setCell ⟨w2.heap.size, 0, none⟩ (.string ⟨gn.toArray⟩)).setCell ⟨w2.heap.size, 1, none⟩ (.string ⟨gt.toArray⟩)).setCell ⟨w2.heap.size, 2, none⟩ (.string ⟨gw.toArray⟩)).setCell ⟨w2.heap.size, 3, none⟩ (.bool gs)).setCell ⟨w2.heap.size, 4, none⟩ (.string ⟨gi.toArray⟩)) := ⟨KW.os.trans B3.os, KW.tape.trans B3.tape, KW.output.trans B3.output, Nat.le_trans B3.size KW.size, fun q hq => (KW.block q (by have := B3.size; omega) (fun e => by have e' : q = w2.heap.size := e; omega)).trans (B3.block q hq)⟩
      generalize (((((w3.setCell ⟨w2.heap.size, 0, none⟩ (.string ⟨gn.toArray⟩)).setCell ⟨w2.heap.size, 1, none⟩ (.string ⟨gt.toArray⟩)).setCell ⟨w2.heap.size, 2, none⟩ (.string ⟨gw.toArray⟩)).setCell ⟨w2.heap.size, 3, none⟩ (.bool gs)).setCell ⟨w2.heap.size, 4, none⟩ (.string ⟨gi.toArray⟩)) = W9 at *
      have bdW : Below W9.heap.size W9 W9.drew := ⟨rfl, rfl, rfl, Nat.le_refl _, fun _ _ => rfl⟩
      cases hkd : (kg == X) with
      | true =>
        go_wp2
        go_region_held3 (fun w' => w'.cell? ⟨w.heap.size, 0, none⟩ = some (.slice (some ⟨b, o', none⟩) s.os.length c) ∧ w'.cell? ⟨w.heap.size, 1, none⟩ = some (.slice a' s.es.length c') ∧ w'.cell? ⟨w2.heap.size, 0, none⟩ = some (.string ⟨gn.toArray⟩) ∧ w'.cell? ⟨w2.heap.size, 1, none⟩ = some (.string ⟨gt.toArray⟩) ∧ w'.cell? ⟨w2.heap.size, 2, none⟩ = some (.string ⟨gw.toArray⟩) ∧ w'.cell? ⟨w2.heap.size, 3, none⟩ = some (.bool gs) ∧ w'.cell? ⟨w2.heap.size, 4, none⟩ = some (.string ⟨gi.toArray⟩) ∧ w'.cell? ⟨w.heap.size + 1, 0, none⟩ = some (.int .i64 X) ∧ w'.cell? ⟨w.heap.size + 1, 2, none⟩ = some (.string ⟨fn.toArray⟩)) (go_keep) ((go_at_call 18; (with_reducible refine (EG _ (BW.trans (bdW.mono BW.size))).mono ?_); rintro e w5 ⟨rfl, b5⟩; have p0 := cell_on b5 v0; have p1 := cell_on b5 v1; have p2 := cell_on b5 m0; have p3 := cell_on b5 m1; have p4 := cell_on b5 m2; have p5 := cell_on b5 m3; have p6 := cell_on b5 m4; have p7 := cell_on b5 y0; have p8 := cell_on b5 y2))
        all_goals
          go_wp2
          go_ret
          exact ⟨by (rw [HL.out]; (try simp at hkd); simp [hkd]), BW.trans ((bel_drew0 b5).mono BW.size)⟩
      | false =>
        go_wp2
        refine wp_region_held_drew (S := (fun w' => w'.cell? ⟨w.heap.size, 0, none⟩ = some (.slice (some ⟨b, o', none⟩) s.os.length c) ∧ w'.cell? ⟨w.heap.size, 1, none⟩ = some (.slice a' s.es.length c') ∧ w'.cell? ⟨w2.heap.size, 0, none⟩ = some (.string ⟨gn.toArray⟩) ∧ w'.cell? ⟨w2.heap.size, 1, none⟩ = some (.string ⟨gt.toArray⟩) ∧ w'.cell? ⟨w2.heap.size, 2, none⟩ = some (.string ⟨gw.toArray⟩) ∧ w'.cell? ⟨w2.heap.size, 3, none⟩ = some (.bool gs) ∧ w'.cell? ⟨w2.heap.size, 4, none⟩ = some (.string ⟨gi.toArray⟩) ∧ w'.cell? ⟨w.heap.size + 1, 0, none⟩ = some (.int .i64 X) ∧ w'.cell? ⟨w.heap.size + 1, 2, none⟩ = some (.string ⟨fn.toArray⟩))) (by kernel_rfl) ?_ (fun hHeld => ?_)
        · go_keep
        refine wpAnyH_take (i := 0) (oi := ⟨some 27, _, _, _, _, _⟩) (v := ?_) rfl (by kernel_rfl) (by kernel_rfl) (by kernel_rfl) (fun _ _ _ h => h) (Or.inl ⟨by rfl, ?_⟩) (by assumption) ?_
        rotate_left
        · intro w' hSw
          (try dsimp only at hSw)
          go_simp
          (try with_reducible rfl)
        simp only [Act.put, List.setIfInBounds_toArray, List.set_cons_zero, List.set_cons_succ]
        refine wpAnyH_take (i := 1) (oi := ⟨some 28, _, _, _, _, _⟩) (v := ?_) rfl (by kernel_rfl) (by kernel_rfl) (by kernel_rfl) (fun _ _ _ h => h) (Or.inl ⟨by rfl, ?_⟩) (by assumption) ?_
        rotate_left
        · intro w' hSw
          (try dsimp only at hSw)
          go_simp
          (try with_reducible rfl)
        simp only [Act.put, List.setIfInBounds_toArray, List.set_cons_zero, List.set_cons_succ]
        refine wpAnyH_take (i := 3) (oi := ⟨some 30, _, _, _, _, _⟩) (v := ?_) rfl (by kernel_rfl) (by kernel_rfl) (by kernel_rfl) (fun _ _ _ h => h) (Or.inl ⟨by rfl, ?_⟩) (by assumption) ?_
        rotate_left
        · intro w' hSw
          (try dsimp only at hSw)
          go_simp
          (try with_reducible rfl)
        simp only [Act.put, List.setIfInBounds_toArray, List.set_cons_zero, List.set_cons_succ]
        refine wpAnyH_take (i := 4) (oi := ⟨some 31, _, _, _, _, _⟩) (v := ?_) rfl (by kernel_rfl) (by kernel_rfl) (by kernel_rfl) (fun _ _ _ h => h) (Or.inl ⟨by rfl, ?_⟩) (by assumption) ?_
        rotate_left
        · intro w' hSw
          (try dsimp only at hSw)
          go_simp
          (try with_reducible rfl)
        simp only [Act.put, List.setIfInBounds_toArray, List.set_cons_zero, List.set_cons_succ]
        refine wpAnyH_ready (rs := [2]) (by kernel_rfl) (by simp) ?_
        refine AllReadyH.cons (o := ⟨some 29, _, _, _, _, _⟩) rfl (fun K hK => ?_) AllReadyH.nil
        go_simp
        (go_at_call 18; (with_reducible refine (EG _ (BW.trans (bdW.mono BW.size))).mono ?_); rintro e w5 ⟨rfl, b5⟩; have p0 := cell_on b5 v0; have p1 := cell_on b5 v1; have p2 := cell_on b5 m0; have p3 := cell_on b5 m1; have p4 := cell_on b5 m2; have p5 := cell_on b5 m3; have p6 := cell_on b5 m4; have p7 := cell_on b5 y0; have p8 := cell_on b5 y2)
        refine hK.out _ _ ?_ (fun hHeld => ?_)
        · go_keep
        clear hK K
        refine wpAnyH_take (i := 5) (oi := ⟨some 32, _, _, _, _, _⟩) (v := ?_) rfl (by kernel_rfl) (by kernel_rfl) (by kernel_rfl) (fun _ _ _ h => h) (Or.inl ⟨by rfl, ?_⟩) (by assumption) ?_
        rotate_left
        · intro w' hSw
          (try dsimp only at hSw)
          go_simp
          (try with_reducible rfl)
        simp only [Act.put, List.setIfInBounds_toArray, List.set_cons_zero, List.set_cons_succ]
        refine wpAnyH_take (i := 6) (oi := ⟨some 33, _, _, _, _, _⟩) (v := ?_) rfl (by kernel_rfl) (by kernel_rfl) (by kernel_rfl) (fun _ _ _ h => h) (Or.inl ⟨by rfl, ?_⟩) (by assumption) ?_
        rotate_left
        · intro w' hSw
          (try dsimp only at hSw)
          go_simp
          (try with_reducible rfl)
        simp only [Act.put, List.setIfInBounds_toArray, List.set_cons_zero, List.set_cons_succ]
        refine wpAnyH_take (i := 7) (oi := ⟨some 34, _, _, _, _, _⟩) (v := undef) rfl (by kernel_rfl) (by kernel_rfl) (by kernel_rfl) (fun _ _ _ h => h) (Or.inr ⟨by rfl, rfl⟩) (by assumption) ?_
        simp only [Act.put, List.setIfInBounds_toArray, List.set_cons_zero, List.set_cons_succ]
        refine wpAnyH_take (i := 8) (oi := ⟨some 35, _, _, _, _, _⟩) (v := undef) rfl (by kernel_rfl) (by kernel_rfl) (by kernel_rfl) (fun _ _ _ h => h) (Or.inr ⟨by rfl, rfl⟩) (by assumption) ?_
        simp only [Act.put, List.setIfInBounds_toArray, List.set_cons_zero, List.set_cons_succ]
        refine wpAnyH_take (i := 9) (oi := ⟨some 36, _, _, _, _, _⟩) (v := undef) rfl (by kernel_rfl) (by kernel_rfl) (by kernel_rfl) (fun _ _ _ h => h) (Or.inr ⟨by rfl, rfl⟩) (by assumption) ?_
        simp only [Act.put, List.setIfInBounds_toArray, List.set_cons_zero, List.set_cons_succ]
        refine wpAnyH_take (i := 10) (oi := ⟨some 37, _, _, _, _, _⟩) (v := undef) rfl (by kernel_rfl) (by kernel_rfl) (by kernel_rfl) (fun _ _ _ h => h) (Or.inr ⟨by rfl, rfl⟩) (by assumption) ?_
        simp only [Act.put, List.setIfInBounds_toArray, List.set_cons_zero, List.set_cons_succ]
        refine wpAnyH_take (i := 11) (oi := ⟨some 38, _, _, _, _, _⟩) (v := undef) rfl (by kernel_rfl) (by kernel_rfl) (by kernel_rfl) (fun _ _ _ h => h) (Or.inr ⟨by rfl, rfl⟩) (by assumption) ?_
        simp only [Act.put, List.setIfInBounds_toArray, List.set_cons_zero, List.set_cons_succ]
        refine wpAnyH_take (i := 12) (oi := ⟨some 39, _, _, _, _, _⟩) (v := undef) rfl (by kernel_rfl) (by kernel_rfl) (by kernel_rfl) (fun _ _ _ h => h) (Or.inr ⟨by rfl, rfl⟩) (by assumption) ?_
        simp only [Act.put, List.setIfInBounds_toArray, List.set_cons_zero, List.set_cons_succ]
        refine wpAnyH_take (i := 13) (oi := ⟨some 40, _, _, _, _, _⟩) (v := ?_) rfl (by kernel_rfl) (by kernel_rfl) (by kernel_rfl) (fun _ _ _ h => h) (Or.inl ⟨by rfl, ?_⟩) (by assumption) ?_
        rotate_left
        · intro w' hSw
          (try dsimp only at hSw)
          go_simp
          (try with_reducible rfl)
        simp only [Act.put, List.setIfInBounds_toArray, List.set_cons_zero, List.set_cons_succ]
        refine wpAnyH_take (i := 14) (oi := ⟨some 4, _, _, _, _, _⟩) (v := ?_) rfl (by kernel_rfl) (by kernel_rfl) (by kernel_rfl) (fun _ _ _ h => h) (Or.inl ⟨by rfl, ?_⟩) (by assumption) ?_
        rotate_left
        · intro w' hSw
          (try dsimp only at hSw)
          go_simp
          (try with_reducible rfl)
        simp only [Act.put, List.setIfInBounds_toArray, List.set_cons_zero, List.set_cons_succ]
        refine wpAnyH_done (by kernel_rfl) ?_ _
        all_goals
          go_wp2
          go_ret
          exact ⟨by (rw [HL.out]; (try simp at hkd); simp [hkd]), BW.trans ((bel_drew0 b5).mono BW.size)⟩
end
end Go.Proofs.YtfkgmgnoijokdaaGreatDoor
namespace Go.Proofs.YtfkgmgnoijokdaaGreatDoor
open Go Go.RowKit Go.Shelf
/-- What schema.Check tells. -/
def chkS (s : Sch) : Int := if !manS s then 90 else if !(namS s && (sptS s).all (fun x => frfS x.f.n)) then 91 else if !oncS s then 92 else if !(sptS s).all (fun x => wtyS s x.f) then 93 else if !(sptS s).all (fun x => !x.f.s || decide (edgS s x.f < 0)) then 94 else if !(sptS s).all (fun x => (x.f.i == []) || ledS s x) then 95 else 0
theorem mem_fldsSp (i : Nat) (x : Spt) : ∀ (l : List Fld) (k : Nat), x ∈ fldsSp i k l ↔ x.o = i ∧ k ≤ x.k ∧ l[x.k - k]? = some x.f
  | [], k => by simp [fldsSp]
  | f :: r, k => by
    obtain ⟨xo, xk, xf⟩ := x
    simp only [fldsSp, List.mem_cons, mem_fldsSp i ⟨xo, xk, xf⟩ r (k + 1)]
    constructor
    · rintro (h | ⟨h1, h2, h3⟩)
      · cases h
        exact ⟨rfl, Nat.le_refl _, by simp⟩
      · refine ⟨h1, by omega, ?_⟩
        have e : xk - k = (xk - (k + 1)) + 1 := by omega
        rw [e, List.getElem?_cons_succ]
        exact h3
    · rintro ⟨h1, h2, h3⟩
      by_cases hk : xk = k
      · subst hk
        simp at h3
        exact Or.inl (by rw [h1, h3])
      · refine Or.inr ⟨h1, by omega, ?_⟩
        have e : xk - k = (xk - (k + 1)) + 1 := by omega
        rw [e, List.getElem?_cons_succ] at h3
        exact h3
theorem mem_obsSp (x : Spt) : ∀ (l : List Ob) (i : Nat), x ∈ obsSp i l ↔ i ≤ x.o ∧ ∃ o, l[x.o - i]? = some o ∧ o.fs[x.k]? = some x.f
  | [], i => by simp [obsSp]
  | y :: r, i => by
    obtain ⟨xo, xk, xf⟩ := x
    simp only [obsSp, List.mem_append, mem_obsSp ⟨xo, xk, xf⟩ r (i + 1), mem_fldsSp]
    constructor
    · rintro (⟨h1, _, h3⟩ | ⟨h1, o, h2, h3⟩)
      · refine ⟨by omega, y, ?_, by simpa using h3⟩
        simp [h1]
      · refine ⟨by omega, o, ?_, h3⟩
        have e : xo - i = (xo - (i + 1)) + 1 := by omega
        rw [e, List.getElem?_cons_succ]
        exact h2
    · rintro ⟨h1, o, h2, h3⟩
      by_cases hk : xo = i
      · subst hk
        simp at h2
        subst h2
        exact Or.inl ⟨rfl, Nat.zero_le _, by simpa using h3⟩
      · have e : xo - i = (xo - (i + 1)) + 1 := by omega
        rw [e, List.getElem?_cons_succ] at h2
        exact Or.inr ⟨by omega, o, h2, h3⟩
theorem mem_spt {s : Sch} {x : Spt} : x ∈ sptS s ↔ ∃ o, s.os[x.o]? = some o ∧ o.fs[x.k]? = some x.f := by
  unfold sptS
  rw [mem_obsSp]
  simp
theorem all_spt {s : Sch} {p : Spt → Bool} : (sptS s).all p = true ↔ ∀ (i : Nat) (o : Ob) (k : Nat) (f : Fld), s.os[i]? = some o → o.fs[k]? = some f → p ⟨i, k, f⟩ = true := by
  rw [List.all_eq_true]
  constructor
  · intro h i o k f h1 h2
    exact h _ (mem_spt.2 ⟨o, h1, h2⟩)
  · rintro h ⟨i, k, f⟩ hx
    obtain ⟨o, h1, h2⟩ := mem_spt.1 hx
    exact h i o k f h1 h2
theorem all_sptF {s : Sch} {p : Fld → Bool} : (sptS s).all (fun x => p x.f) = true ↔ ∀ o ∈ s.os, ∀ f ∈ o.fs, p f = true := by
  rw [all_spt]
  constructor
  · intro h o ho f hf
    obtain ⟨i, hi⟩ := List.mem_iff_getElem?.1 ho
    obtain ⟨k, hk⟩ := List.mem_iff_getElem?.1 hf
    exact h i o k f hi hk
  · intro h i o k f h1 h2
    exact h o (List.mem_of_getElem? h1) f (List.mem_of_getElem? h2)
theorem plB_nonneg {y : Bs} {l : List Bs} : 0 ≤ plB y l ↔ y ∈ l := by
  unfold plB
  split <;> simp_all
theorem plB_neg {y : Bs} {l : List Bs} : plB y l < 0 ↔ ¬ y ∈ l := by
  rw [← plB_nonneg]
  omega
/-- Of unlike names each stands where it stands. -/
theorem plB_at {l : List Bs} (h : l.Nodup) {i : Nat} {y : Bs} (hy : l[i]? = some y) : plB y l = (i : Int) := by
  refine plB_hit hy fun j z hj hz => ?_
  rw [beq_eq_false_iff_ne]
  rintro rfl
  obtain ⟨hi, e1⟩ := List.getElem?_eq_some_iff.1 hy
  obtain ⟨hj', e2⟩ := List.getElem?_eq_some_iff.1 hz
  have := List.pairwise_iff_getElem.1 h j i hj' hi hj
  exact this (e2.trans e1.symm)
theorem uni_iff {l : List Bs} : uniB l = true ↔ l.Nodup := by
  constructor
  · intro h
    unfold uniB at h
    rw [List.all_eq_true] at h
    rw [List.Nodup, List.pairwise_iff_getElem]
    intro i j hi hj hij e
    have h1 := h j (List.mem_range.2 hj)
    simp only [decide_eq_true_eq] at h1
    have e1 : l.getD j [] = l[j] := by rw [List.getD_eq_getElem?_getD, List.getElem?_eq_getElem hj]; rfl
    rw [e1] at h1
    have hm : l[j] ∈ l := List.getElem_mem hj
    unfold plB at h1
    rw [if_pos hm] at h1
    have hlt := List.idxOf_lt_length_iff.2 hm
    have hn := List.not_of_lt_findIdx (p := (· == l[j])) (xs := l) (i := i) (by
      show i < l.idxOf l[j]
      omega)
    simp [e] at hn
  · intro h
    refine uniB_true fun i x _ hx => ?_
    rw [plB_at h hx]
    exact Int.le_refl _
/-- Does a name lead to an object? -/
def edP (s : Sch) (t : Bs) : Prop := scaS t = false ∧ ¬ t ∈ s.es.map (·.n) ∧ t ∈ s.os.map (·.n)
theorem prp_iff {s : Sch} {f : Fld} : prpS s f = true ↔ scaS f.t = true ∨ f.t ∈ s.es.map (·.n) := by
  unfold prpS enuS
  rw [Bool.or_eq_true, decide_eq_true_eq, plB_nonneg]
theorem edg_iff {s : Sch} {f : Fld} : 0 ≤ edgS s f ↔ edP s f.t := by
  unfold edgS edP
  split
  · rename_i h
    rw [prp_iff] at h
    constructor
    · intro h; exact absurd h (by decide)
    · rintro ⟨h1, h2, _⟩
      rcases h with h | h
      · simp [h] at h1
      · exact absurd h h2
  · rename_i h
    rw [prp_iff] at h
    unfold objS
    rw [plB_nonneg]
    constructor
    · intro h3
      refine ⟨?_, fun h4 => h (Or.inr h4), h3⟩
      cases e : scaS f.t
      · rfl
      · exact absurd (Or.inl e) h
    · exact fun h => h.2.2
theorem edg_at {s : Sch} {f : Fld} (h : edP s f.t) : edgS s f = objS s f.t := by
  unfold edgS
  rw [if_neg]
  rw [prp_iff]
  rintro (h1 | h1)
  · rw [h.1] at h1; cases h1
  · exact h.2.1 h1
theorem once_iff {s : Sch} : oncS s = true ↔ (s.os.map (·.n)).Nodup ∧ (s.es.map (·.n)).Nodup ∧ (∀ e ∈ s.es, ¬ e.n ∈ s.os.map (·.n)) ∧ (∀ e ∈ s.es, e.ws.Nodup) ∧ ∀ o ∈ s.os, (o.fs.map (·.n)).Nodup := by
  unfold oncS
  simp only [Bool.and_eq_true, List.all_eq_true, uni_iff, decide_eq_true_eq, objS, plB_neg]
  constructor
  · rintro ⟨⟨⟨h1, h2⟩, h3⟩, h4⟩
    exact ⟨h1, h2, fun e he => (h3 e he).1, fun e he => (h3 e he).2, h4⟩
  · rintro ⟨h1, h2, h3, h4, h5⟩
    exact ⟨⟨⟨h1, h2⟩, fun e he => ⟨h3 e he, h4 e he⟩⟩, h5⟩
theorem wty_iff {s : Sch} {f : Fld} : wtyS s f = true ↔ ((scaS f.t = true ∨ f.t ∈ s.es.map (·.n)) ∧ (f.w = [] ∨ f.w = [33])) ∨ (edP s f.t ∧ (f.w = [] ∨ f.w = [33, 91, 33])) := by
  unfold wtyS
  by_cases h : prpS s f = true
  · rw [if_pos h, ← prp_iff]
    have h2 : ¬ edP s f.t := by
      rw [← edg_iff]
      unfold edgS
      rw [if_pos h]
      decide
    simp [h, h2]
  · rw [if_neg h, ← prp_iff, ← edg_iff]
    by_cases h2 : 0 ≤ edgS s f
    · simp [h, h2]
    · simp [h, h2]
/-- The one of a name. -/
theorem obj_of {s : Sch} (h : (s.os.map (·.n)).Nodup) {i : Nat} {o : Ob} (ho : s.os[i]? = some o) : objS s o.n = (i : Int) := plB_at h (by rw [List.getElem?_map, ho]; rfl)
theorem led_iff {s : Sch} {i k : Nat} {o : Ob} {f : Fld} (h : oncS s = true) (ho : s.os[i]? = some o) (hf : o.fs[k]? = some f) (hi : f.i ≠ []) : ledS s ⟨i, k, f⟩ = true ↔ edP s f.t ∧ ∃ p ∈ s.os, p.n = f.t ∧ ∃ g ∈ p.fs, g.n = f.i ∧ edP s g.t ∧ g.t = o.n ∧ g.i = f.n := by
  obtain ⟨u1, u2, u3, u4, u5⟩ := once_iff.1 h
  have e0 : backS s i k = if edgS s f < 0 ∨ f.i = [] then -1 else match atI s.os (edgS s f) with
      | none => -1
      | some p => plB f.i (p.fs.map (·.n)) := by
    unfold backS
    simp only [atI_some ho, atI_some hf]
    (try rfl)
  constructor
  · intro hl
    by_cases hb : backS s i k < 0
    · unfold ledS at hl
      rw [if_pos hb] at hl
      cases hl
    · obtain ⟨T, A, p, g, hT, hA, hp, hg, hL⟩ := led_yes (x := ⟨i, k, f⟩) ho hf hb
      rw [hl] at hL
      have hL := hL.symm
      simp only [Bool.and_eq_true, decide_eq_true_eq, beq_iff_eq] at hL
      have hT' : edgS s f = (T : Int) := hT
      have hA' : backS s i k = (A : Int) := hA
      have ed : edP s f.t := edg_iff.1 (by omega)
      have hn : ¬ (edgS s f < 0 ∨ f.i = []) := by
        rintro (h | h)
        · omega
        · exact hi h
      rw [if_neg hn, hT', atI_some hp] at e0
      simp only at e0
      rw [hA'] at e0
      refine ⟨ed, p, List.mem_of_getElem? hp, ?_, g, List.mem_of_getElem? hg, ?_, edg_iff.1 (by omega), ?_, hL.2⟩
      · have h1 := edg_at ed
        rw [hT'] at h1
        have h2 := plB_range f.t (s.os.map (·.n))
        have h3 : plB f.t (s.os.map (·.n)) = (T : Int) := h1.symm
        rw [h3] at h2
        have h4 := h2.2.2 (by omega)
        rw [Int.toNat_natCast, List.getElem?_map, hp] at h4
        simpa using h4
      · have h2 := plB_range f.i (p.fs.map (·.n))
        rw [← e0] at h2
        have h4 := h2.2.2 (by omega)
        rw [Int.toNat_natCast, List.getElem?_map, hg] at h4
        simpa using h4
      · have eg : edP s g.t := edg_iff.1 (by omega)
        have h1 := edg_at eg
        rw [hL.1] at h1
        have h2 := plB_range g.t (s.os.map (·.n))
        have h3 : plB g.t (s.os.map (·.n)) = (i : Int) := h1.symm
        rw [h3] at h2
        have h4 := h2.2.2 (by omega)
        rw [Int.toNat_natCast, List.getElem?_map, ho] at h4
        simpa using h4.symm
  · rintro ⟨ed, p, hp, hpn, g, hg, hgn, eg, hgo, hgi⟩
    obtain ⟨T, hT⟩ := List.mem_iff_getElem?.1 hp
    obtain ⟨A, hA⟩ := List.mem_iff_getElem?.1 hg
    have h1 : edgS s f = (T : Int) := by rw [edg_at ed, ← hpn]; exact obj_of u1 hT
    have h2 : plB f.i (p.fs.map (·.n)) = (A : Int) := by
      rw [← hgn]
      exact plB_at (u5 p hp) (by rw [List.getElem?_map, hA]; rfl)
    have hn : ¬ (edgS s f < 0 ∨ f.i = []) := by
      rintro (h | h)
      · omega
      · exact hi h
    rw [if_neg hn, h1, atI_some hT] at e0
    simp only at e0
    rw [h2] at e0
    have h3 : edgS s g = (i : Int) := by rw [edg_at eg, hgo]; exact obj_of u1 ho
    unfold ledS
    rw [if_neg (by show ¬ backS s i k < 0; omega)]
    show (match atI s.os (edgS s f) with
      | none => false
      | some p => match atI p.fs (backS s i k) with
        | none => false
        | some g => decide (edgS s g = (i : Int)) && (g.i == f.n)) = true
    rw [h1, atI_some hT]
    simp only
    rw [e0, atI_some hA]
    simp [h3, hgi]
/-- A schema that may be, rule by rule. -/
structure OkD (s : Sch) : Prop where
  m : manS s = true
  no : ∀ o ∈ s.os, frtS o.n = true ∧ ∀ f ∈ o.fs, frfS f.n = true
  ne : ∀ e ∈ s.es, frtS e.n = true ∧ ∀ x ∈ e.ws, frwS x = true
  u1 : (s.os.map (·.n)).Nodup
  u2 : (s.es.map (·.n)).Nodup
  u3 : ∀ e ∈ s.es, ¬ e.n ∈ s.os.map (·.n)
  u4 : ∀ e ∈ s.es, e.ws.Nodup
  u5 : ∀ o ∈ s.os, (o.fs.map (·.n)).Nodup
  ty : ∀ o ∈ s.os, ∀ f ∈ o.fs, wtyS s f = true
  se : ∀ o ∈ s.os, ∀ f ∈ o.fs, f.s = true → ¬ edP s f.t
  le : ∀ o ∈ s.os, ∀ f ∈ o.fs, f.i ≠ [] → edP s f.t ∧ ∃ p ∈ s.os, p.n = f.t ∧ ∃ g ∈ p.fs, g.n = f.i ∧ edP s g.t ∧ g.t = o.n ∧ g.i = f.n
theorem OkD.once {s : Sch} (h : OkD s) : oncS s = true := once_iff.2 ⟨h.u1, h.u2, h.u3, h.u4, h.u5⟩
theorem nam_iff {s : Sch} : (namS s && (sptS s).all (fun x => frfS x.f.n)) = true ↔ (∀ o ∈ s.os, frtS o.n = true ∧ ∀ f ∈ o.fs, frfS f.n = true) ∧ ∀ e ∈ s.es, frtS e.n = true ∧ ∀ x ∈ e.ws, frwS x = true := by
  rw [Bool.and_eq_true, all_sptF (p := fun f => frfS f.n)]
  unfold namS
  simp only [Bool.and_eq_true, List.all_eq_true]
  constructor
  · rintro ⟨⟨h1, h2⟩, h3⟩
    exact ⟨fun o ho => ⟨h1 o ho, h3 o ho⟩, h2⟩
  · rintro ⟨h1, h2⟩
    exact ⟨⟨fun o ho => (h1 o ho).1, h2⟩, fun o ho => (h1 o ho).2⟩
theorem sea_iff {s : Sch} : (sptS s).all (fun x => !x.f.s || decide (edgS s x.f < 0)) = true ↔ ∀ o ∈ s.os, ∀ f ∈ o.fs, f.s = true → ¬ edP s f.t := by
  rw [all_sptF (p := fun f => !f.s || decide (edgS s f < 0))]
  have e : ∀ f, (!f.s || decide (edgS s f < 0)) = true ↔ (f.s = true → ¬ edP s f.t) := by
    intro f
    rw [← edg_iff]
    cases f.s <;> simp
  constructor
  · exact fun h o ho f hf => (e f).1 (h o ho f hf)
  · exact fun h o ho f hf => (e f).2 (h o ho f hf)
theorem inv_iff {s : Sch} (h : oncS s = true) : (sptS s).all (fun x => (x.f.i == []) || ledS s x) = true ↔ ∀ o ∈ s.os, ∀ f ∈ o.fs, f.i ≠ [] → edP s f.t ∧ ∃ p ∈ s.os, p.n = f.t ∧ ∃ g ∈ p.fs, g.n = f.i ∧ edP s g.t ∧ g.t = o.n ∧ g.i = f.n := by
  rw [all_spt]
  constructor
  · intro hh o ho f hf hi
    obtain ⟨i, h1⟩ := List.mem_iff_getElem?.1 ho
    obtain ⟨k, h2⟩ := List.mem_iff_getElem?.1 hf
    refine (led_iff h h1 h2 hi).1 ?_
    have h3 := hh i o k f h1 h2
    have e : (f.i == ([] : Bs)) = false := by simpa using hi
    simpa [e] using h3
  · intro hh i o k f h1 h2
    by_cases hi : f.i = []
    · simp [hi]
    · have h3 := (led_iff h h1 h2 hi).2 (hh o (List.mem_of_getElem? h1) f (List.mem_of_getElem? h2) hi)
      simp [h3]
theorem chk_ok {s : Sch} : chkS s = 0 ↔ OkD s := by
  constructor
  · intro h
    unfold chkS at h
    split at h
    · cases h
    split at h
    · cases h
    split at h
    · cases h
    split at h
    · cases h
    split at h
    · cases h
    split at h
    · cases h
    rename_i h1 h2 h3 h4 h5 h6
    simp only [Bool.not_eq_true', Bool.not_eq_false] at h1 h2 h3 h4 h5 h6
    have hn := nam_iff.1 h2
    have hu := once_iff.1 h3
    exact ⟨h1, hn.1, hn.2, hu.1, hu.2.1, hu.2.2.1, hu.2.2.2.1, hu.2.2.2.2, all_sptF.1 h4, sea_iff.1 h5, (inv_iff h3).1 h6⟩
  · intro h
    have h2 := nam_iff.2 ⟨h.no, h.ne⟩
    have h4 := (all_sptF (p := fun f => wtyS s f)).2 h.ty
    have h5 := sea_iff.2 h.se
    have h6 := (inv_iff h.once).2 h.le
    unfold chkS
    simp only [h.m, h2, h.once, h4, h5, h6, Bool.not_true, Bool.false_eq_true, if_false]
theorem chk_cases (s : Sch) : chkS s = 90 ∨ chkS s = 91 ∨ chkS s = 92 ∨ chkS s = 93 ∨ chkS s = 94 ∨ chkS s = 95 ∨ chkS s = 0 := by
  unfold chkS
  split
  · simp
  split
  · simp
  split
  · simp
  split
  · simp
  split
  · simp
  split <;> simp
/-- Rules 1 to 3 hold. -/
theorem chk_low {s : Sch} : (chkS s = 90 ∨ chkS s = 91 ∨ chkS s = 92) ↔ ¬ (manS s = true ∧ ((∀ o ∈ s.os, frtS o.n = true ∧ ∀ f ∈ o.fs, frfS f.n = true) ∧ ∀ e ∈ s.es, frtS e.n = true ∧ ∀ x ∈ e.ws, frwS x = true) ∧ oncS s = true) := by
  rw [← nam_iff]
  unfold chkS
  by_cases h1 : manS s = true
  · by_cases h2 : (namS s && (sptS s).all (fun x => frfS x.f.n)) = true
    · by_cases h3 : oncS s = true
      · simp only [h1, h2, h3, Bool.not_true, Bool.false_eq_true, if_false]
        refine ⟨fun h => ?_, fun h => absurd ⟨trivial, trivial, trivial⟩ h⟩
        exfalso
        revert h
        split
        · simp
        split
        · simp
        split <;> simp
      · have h3' : oncS s = false := by simpa using h3
        simp only [h1, h2, h3', Bool.not_true, Bool.not_false, Bool.false_eq_true, if_false, if_true]
        simp
    · have h2' : (namS s && (sptS s).all (fun x => frfS x.f.n)) = false := by simpa using h2
      simp only [h1, h2', Bool.not_true, Bool.not_false, Bool.false_eq_true, if_false, if_true]
      simp
  · have h1' : manS s = false := by simpa using h1
    simp only [h1', Bool.not_false, if_true]
    simp
section back
variable {s : Sch} (h : OkD s) {i k : Nat} {o : Ob} {f : Fld} (ho : s.os[i]? = some o) (hf : o.fs[k]? = some f)
include h ho hf
theorem ok_prop : prpS s f = decide (edgS s f < 0) := by
  have ht := h.ty o (List.mem_of_getElem? ho) f (List.mem_of_getElem? hf)
  cases e : prpS s f with
  | true =>
    unfold edgS
    rw [if_pos e]
    rfl
  | false =>
    unfold wtyS at ht
    rw [e] at ht
    simp only [Bool.false_eq_true, if_false] at ht
    split at ht
    · symm
      rw [decide_eq_false_iff_not]
      omega
    · cases ht
omit h in
theorem back_at : backS s i k = if edgS s f < 0 ∨ f.i = [] then -1 else match atI s.os (edgS s f) with
      | none => -1
      | some p => plB f.i (p.fs.map (·.n)) := by
  unfold backS
  simp only [atI_some ho, atI_some hf]
  (try rfl)
omit h in
theorem ok_back0 (hi : f.i = []) : backS s i k = -1 := by
  rw [back_at ho hf, if_pos (Or.inr hi)]
theorem ok_back (hi : f.i ≠ []) (hne : ∀ x, frfS x = true → x ≠ []) : ∃ T A : Nat, edgS s f = (T : Int) ∧ backS s i k = (A : Int) ∧ backS s T A = (k : Int) ∧ prpS s f = false := by
  obtain ⟨ed, p, hp, hpn, g, hg, hgn, eg, hgo, hgi⟩ := h.le o (List.mem_of_getElem? ho) f (List.mem_of_getElem? hf) hi
  obtain ⟨T, hT⟩ := List.mem_iff_getElem?.1 hp
  obtain ⟨A, hA⟩ := List.mem_iff_getElem?.1 hg
  have h1 : edgS s f = (T : Int) := by rw [edg_at ed, ← hpn]; exact obj_of h.u1 hT
  have h2 : plB f.i (p.fs.map (·.n)) = (A : Int) := by
    rw [← hgn]
    exact plB_at (h.u5 p hp) (by rw [List.getElem?_map, hA]; rfl)
  have h3 : edgS s g = (i : Int) := by rw [edg_at eg, hgo]; exact obj_of h.u1 ho
  have h4 : plB g.i (o.fs.map (·.n)) = (k : Int) := by
    rw [hgi]
    exact plB_at (h.u5 o (List.mem_of_getElem? ho)) (by rw [List.getElem?_map, hf]; rfl)
  have hn : ¬ (edgS s f < 0 ∨ f.i = []) := by
    rintro (q | q)
    · omega
    · exact hi q
  have hgn0 : g.i ≠ [] := by
    rw [hgi]
    exact hne _ ((h.no o (List.mem_of_getElem? ho)).2 f (List.mem_of_getElem? hf))
  have hn2 : ¬ (edgS s g < 0 ∨ g.i = []) := by
    rintro (q | q)
    · omega
    · exact hgn0 q
  refine ⟨T, A, h1, ?_, ?_, ?_⟩
  · rw [back_at ho hf, if_neg hn, h1, atI_some hT]
    exact h2
  · rw [back_at hT hA, if_neg hn2, h3, atI_some ho]
    exact h4
  · rw [ok_prop h ho hf, h1]
    simp
end back
theorem chk90 {s : Sch} (h1 : manS s = false) : chkS s = 90 := by
  unfold chkS
  simp [h1]
theorem chk91 {s : Sch} (h1 : manS s = true) (h2 : (namS s && (sptS s).all (fun x => frfS x.f.n)) = false) : chkS s = 91 := by
  unfold chkS
  simp only [h1, h2, Bool.not_true, Bool.not_false, Bool.false_eq_true, if_false, if_true]
theorem chk92 {s : Sch} (h1 : manS s = true) (h2 : (namS s && (sptS s).all (fun x => frfS x.f.n)) = true) (h3 : oncS s = false) : chkS s = 92 := by
  unfold chkS
  simp only [h1, h2, h3, Bool.not_true, Bool.not_false, Bool.false_eq_true, if_false, if_true]
theorem chk93 {s : Sch} (h1 : manS s = true) (h2 : (namS s && (sptS s).all (fun x => frfS x.f.n)) = true) (h3 : oncS s = true) (h4 : (sptS s).all (fun x => wtyS s x.f) = false) : chkS s = 93 := by
  unfold chkS
  simp only [h1, h2, h3, h4, Bool.not_true, Bool.not_false, Bool.false_eq_true, if_false, if_true]
theorem man_iff {s : Sch} : manS s = true ↔ (1 ≤ s.os.length ∧ s.os.length ≤ 8) ∧ s.es.length ≤ 8 ∧ (∀ o ∈ s.os, 1 ≤ o.fs.length ∧ o.fs.length ≤ 12) ∧ ∀ e ∈ s.es, 1 ≤ e.ws.length ∧ e.ws.length ≤ 16 := by
  unfold manS betS
  simp only [Bool.and_eq_true, List.all_eq_true, decide_eq_true_eq]
  constructor
  · rintro ⟨⟨⟨⟨h1, h2⟩, h3⟩, h4⟩, h5⟩
    exact ⟨⟨by omega, by omega⟩, by omega, fun o ho => ⟨by have := h4 o ho; omega, by have := h4 o ho; omega⟩, fun e he => ⟨by have := h5 e he; omega, by have := h5 e he; omega⟩⟩
  · rintro ⟨⟨h1, h2⟩, h3, h4, h5⟩
    exact ⟨⟨⟨⟨by omega, by omega⟩, by omega⟩, fun o ho => ⟨by have := h4 o ho; omega, by have := h4 o ho; omega⟩⟩, fun e he => ⟨by have := h5 e he; omega, by have := h5 e he; omega⟩⟩
/-- An object of one property. -/
abbrev oneO (n : Bs) : Ob := ⟨n, [⟨[120], [73, 110, 116], [], false, []⟩]⟩
abbrev moreS (s : Sch) (n : Bs) : Sch := ⟨s.os ++ [oneO n], s.es⟩
theorem sca_int : scaS [73, 110, 116] = true := rfl
section more
variable (hx : frfS [120] = true)
include hx
theorem alone_ok {n : Bs} (h : frtS n = true) : chkS ⟨[oneO n], []⟩ = 0 := by
  rw [chk_ok]
  refine ⟨?_, ?_, ?_, ?_, ?_, ?_, ?_, ?_, ?_, ?_, ?_⟩
  · rw [man_iff]; simp
  · intro o ho
    rw [List.mem_singleton] at ho
    subst ho
    exact ⟨h, fun f hf => by rw [List.mem_singleton] at hf; subst hf; exact hx⟩
  · intro e he; simp at he
  · simp
  · simp
  · intro e he; simp at he
  · intro e he; simp at he
  · intro o ho
    rw [List.mem_singleton] at ho
    subst ho
    simp
  · intro o ho f hf
    rw [List.mem_singleton] at ho
    subst ho
    rw [List.mem_singleton] at hf
    subst hf
    exact wty_iff.2 (Or.inl ⟨Or.inl sca_int, Or.inl rfl⟩)
  · intro o ho f hf
    rw [List.mem_singleton] at ho
    subst ho
    rw [List.mem_singleton] at hf
    subst hf
    intro h; cases h
  · intro o ho f hf
    rw [List.mem_singleton] at ho
    subst ho
    rw [List.mem_singleton] at hf
    subst hf
    intro h; exact absurd rfl h
omit hx in
theorem alone_no {n : Bs} (h : frtS n = false) : chkS ⟨[oneO n], []⟩ = 91 := by
  refine chk91 (by rw [man_iff]; simp) ?_
  rw [← Bool.not_eq_true, nam_iff]
  rintro ⟨h1, _⟩
  have := (h1 (oneO n) (by simp)).1
  rw [show (oneO n).n = n from rfl, h] at this
  cases this
omit hx in
theorem more90 {s : Sch} {n : Bs} (h8 : 8 ≤ s.os.length) : chkS (moreS s n) = 90 := by
  refine chk90 ?_
  rw [← Bool.not_eq_true, man_iff]
  rintro ⟨⟨_, h⟩, _⟩
  rw [List.length_append] at h
  simp at h
  omega
omit hx in
theorem more_man {s : Sch} {n : Bs} (h : OkD s) (h8 : s.os.length < 8) : manS (moreS s n) = true := by
  obtain ⟨h1, h2, h3, h4⟩ := man_iff.1 h.m
  rw [man_iff]
  refine ⟨⟨by simp, by simp; omega⟩, h2, fun o ho => ?_, h4⟩
  rcases List.mem_append.1 ho with ho | ho
  · exact h3 o ho
  · rw [List.mem_singleton] at ho
    subst ho
    simp
omit hx in
theorem more91 {s : Sch} {n : Bs} (h : OkD s) (h8 : s.os.length < 8) (hn : frtS n = false) : chkS (moreS s n) = 91 := by
  refine chk91 (more_man h h8) ?_
  rw [← Bool.not_eq_true, nam_iff]
  rintro ⟨h1, _⟩
  have := (h1 (oneO n) (by simp)).1
  rw [show (oneO n).n = n from rfl, hn] at this
  cases this
theorem more_nam {s : Sch} {n : Bs} (h : OkD s) (hn : frtS n = true) : (∀ o ∈ (moreS s n).os, frtS o.n = true ∧ ∀ f ∈ o.fs, frfS f.n = true) ∧ ∀ e ∈ (moreS s n).es, frtS e.n = true ∧ ∀ x ∈ e.ws, frwS x = true := by
  refine ⟨fun o ho => ?_, h.ne⟩
  rcases List.mem_append.1 ho with ho | ho
  · exact h.no o ho
  · rw [List.mem_singleton] at ho
    subst ho
    exact ⟨hn, fun f hf => by rw [List.mem_singleton] at hf; subst hf; exact hx⟩
theorem more92 {s : Sch} {n : Bs} (h : OkD s) (h8 : s.os.length < 8) (hn : frtS n = true) (hm : n ∈ s.os.map (·.n) ∨ n ∈ s.es.map (·.n)) : chkS (moreS s n) = 92 := by
  refine chk92 (more_man h h8) (nam_iff.2 (more_nam hx h hn)) ?_
  rw [← Bool.not_eq_true, once_iff]
  rintro ⟨h1, _, h3, _⟩
  rcases hm with hm | hm
  · rw [List.map_append, List.nodup_append] at h1
    exact h1.2.2 n hm n (by simp) rfl
  · obtain ⟨e, he, hen⟩ := List.mem_map.1 hm
    exact h3 e he (by rw [hen]; simp)
theorem more0 {s : Sch} {n : Bs} (h : OkD s) (h8 : s.os.length < 8) (hn : frtS n = true) (h1 : ¬ n ∈ s.os.map (·.n)) (h2 : ¬ n ∈ s.es.map (·.n)) : chkS (moreS s n) = 0 := by
  have hN := more_nam hx h hn
  have ed : ∀ {t : Bs}, edP s t → edP (moreS s n) t := fun ⟨a, b, c⟩ => ⟨a, b, by rw [List.map_append]; exact List.mem_append_left _ c⟩
  have one : ∀ {o : Ob} {f : Fld}, o ∈ (moreS s n).os → f ∈ o.fs → (o ∈ s.os) ∨ f = ⟨[120], [73, 110, 116], [], false, []⟩ := by
    intro o f ho hf
    rcases List.mem_append.1 ho with ho | ho
    · exact Or.inl ho
    · rw [List.mem_singleton] at ho
      subst ho
      rw [List.mem_singleton] at hf
      exact Or.inr hf
  rw [chk_ok]
  refine ⟨more_man h h8, hN.1, hN.2, ?_, h.u2, ?_, h.u4, ?_, ?_, ?_, ?_⟩
  · rw [List.map_append, List.nodup_append]
    refine ⟨h.u1, by simp, fun a ha b hb e => ?_⟩
    simp at hb
    subst hb
    subst e
    exact h1 ha
  · intro e he hm
    rw [List.map_append] at hm
    rcases List.mem_append.1 hm with hm | hm
    · exact h.u3 e he hm
    · simp at hm
      exact h2 (List.mem_map.2 ⟨e, he, hm⟩)
  · intro o ho
    rcases List.mem_append.1 ho with ho | ho
    · exact h.u5 o ho
    · rw [List.mem_singleton] at ho
      subst ho
      simp
  · intro o ho f hf
    rcases one ho hf with q | q
    · rcases wty_iff.1 (h.ty o q f hf) with g | g
      · exact wty_iff.2 (Or.inl g)
      · exact wty_iff.2 (Or.inr ⟨ed g.1, g.2⟩)
    · subst q
      exact wty_iff.2 (Or.inl ⟨Or.inl sca_int, Or.inl rfl⟩)
  · intro o ho f hf hs
    rcases one ho hf with q | q
    · have h3 := h.se o q f hf hs
      rcases wty_iff.1 (h.ty o q f hf) with g | g
      · rintro ⟨a, b, _⟩
        rcases g.1 with g | g
        · rw [a] at g; cases g
        · exact b g
      · exact absurd g.1 h3
    · subst q; cases hs
  · intro o ho f hf hi
    rcases one ho hf with q | q
    · obtain ⟨a, p, hp, e1, g, hg, e2, e3, e4, e5⟩ := h.le o q f hf hi
      exact ⟨ed a, p, List.mem_append_left _ hp, e1, g, hg, e2, ed e3, e4, e5⟩
    · subst q; exact absurd rfl hi
end more
end Go.Proofs.YtfkgmgnoijokdaaGreatDoor
namespace Go.Proofs.YtfkgmgnoijokdaaGreatDoor
open Go Go.RowKit Go.Shelf
section
variable {w : World} {ov ev : Value} {s : Sch}
set_option maxRecDepth 100000 in
theorem hcheck4_any (x : Spt) (P : Nat) (hx : x ∈ sptS s) (h : SchAt w ov ev s) (h0 : w.cell? ⟨P, 0, none⟩ = some ov) (h1 : w.cell? ⟨P, 1, none⟩ = some ev) : Calls Tryz.prog 33 (#[sptV x] ++ #[.pointer (some ⟨P, 0, none⟩)]) w fun e w' => e = .returned (.bool ((x.f.i == []) || ledS s x)) ∧ Below w.heap.size w w' := by
  obtain ⟨o, hx1, hx2⟩ := mem_spt.1 hx
  have FT := fun o' => hledBack_any (h.on (al1 w o')) x o hx1 hx2
  obtain ⟨a, c, rfl, _, _⟩ := h.os.slice
  obtain ⟨a', c', rfl, _, _⟩ := h.es.slice
  have g0 := fun o => cell_on (al1 w o) h0
  have g1 := fun o => cell_on (al1 w o) h1
  clear hx hx1 hx2
  show Calls Tryz.prog 33 #[sptV x, .pointer (some ⟨P, 0, none⟩)] w _
  obtain ⟨xo, xk, fn, ft, fw, fs, fi⟩ := x
  simp only at *
  generalize ledS s ⟨xo, xk, fn, ft, fw, fs, fi⟩ = k at *
  cases hi : (fi == []) with
  | true =>
    go_enter Tryz.func33, Tryz.ntmps33
    go_wp2
    go_ret
    exact ⟨by simp, al1 w _⟩
  | false =>
    go_enter Tryz.func33, Tryz.ntmps33
    go_wp2_with (first
      | (go_at_call 34; (with_reducible refine (FT _).mono ?_); rintro e w2 ⟨rfl, b2⟩)
      | fail)
    go_ret
    exact ⟨by simp, (al1 w _).trans (b2.mono (al1 w _).size)⟩
set_option maxRecDepth 100000 in
set_option maxHeartbeats 8000000 in
theorem hcheck_any (h : SchAt w ov ev s) (gl : Gl w) : Calls Tryz.prog 10 #[.agg #[ov, ev]] w fun e w' => e = .returned (.int .i64 (chkS s)) ∧ Below w.heap.size w w' := by
  have hm8 : manS s = true → s.os.length ≤ 8 ∧ ∀ x ∈ s.os, x.fs.length ≤ 12 := fun hm => by
    have q := man_iff.1 hm
    exact ⟨q.1.2, fun x hx => (q.2.2.1 x hx).2⟩
  have hh := h
  have hmf := Tryz.makeFn
  obtain ⟨a, c, rfl, _, _⟩ := h.os.slice
  obtain ⟨a', c', rfl, _, _⟩ := h.es.slice
  obtain ⟨w0, hw0⟩ : ∃ w0, w0 = w.alloc (.cells #[.slice a s.os.length c, .slice a' s.es.length c'] 25) := ⟨_, rfl⟩
  have A0 : Below w.heap.size w w0 := by rw [hw0]; exact al1 w _
  have Z0 : w0.heap.size = w.heap.size + 1 := by rw [hw0, World.size_alloc]
  have HZ : ∀ {W : World}, Below w0.heap.size w0 W → Below w.heap.size w W := fun b => A0.trans (b.mono A0.size)
  have r0 : w0.cell? ⟨w.heap.size, 0, none⟩ = some (.slice a s.os.length c) := by rw [hw0]; exact (row2 (heap_alloc_new w _)).1
  have r1 : w0.cell? ⟨w.heap.size, 1, none⟩ = some (.slice a' s.es.length c') := by rw [hw0]; exact (row2 (heap_alloc_new w _)).2.1
  have M1 := fun o => hmany_any (hh.on (al1 w o))
  have M2 := fun (hm : manS s = true) W (b : Below w0.heap.size w0 W) => hspots_any (hh.on (HZ b)) (hm8 hm).1 (hm8 hm).2
  have M3 := fun W (b : Below w0.heap.size w0 W) => hwellNamed_any (hh.on (HZ b)) (gl.below (HZ b) (Nat.le_refl _))
  have M4 := fun (v : Value) W (b : Below w0.heap.size w0 W) (hv : SptsAt W v (sptS s)) => every_spot 27 #[] (fun x => frfS x.f.n) W hv (fun _ _ => rfl) (fun x W2 _ b2 => hcheck1_any x W2 ((gl.below (HZ b) (Nat.le_refl _)).below b2 (Nat.le_refl _)))
  have M5 := fun W (b : Below w0.heap.size w0 W) => hnamedOnce_any (hh.on (HZ b))
  have M6 := fun (v : Value) W (b : Below w0.heap.size w0 W) (hv : SptsAt W v (sptS s)) => every_spot 30 #[.pointer (some ⟨w.heap.size, 0, none⟩)] (fun x => wtyS s x.f) W hv (fun _ _ => rfl) (fun x W2 _ b2 => hcheck2_any x w.heap.size ((hh.on (HZ b)).on b2) (cell_on b2 (cell_on b r0)) (cell_on b2 (cell_on b r1)))
  have M7 := fun (v : Value) W (b : Below w0.heap.size w0 W) (hv : SptsAt W v (sptS s)) => every_spot 32 #[.pointer (some ⟨w.heap.size, 0, none⟩)] (fun x => !x.f.s || decide (edgS s x.f < 0)) W hv (fun _ _ => rfl) (fun x W2 _ b2 => hcheck3_any x w.heap.size ((hh.on (HZ b)).on b2) (cell_on b2 (cell_on b r0)) (cell_on b2 (cell_on b r1)))
  have M8 := fun (v : Value) W (b : Below w0.heap.size w0 W) (hv : SptsAt W v (sptS s)) => every_spot 33 #[.pointer (some ⟨w.heap.size, 0, none⟩)] (fun x => (x.f.i == []) || ledS s x) W hv (fun _ _ => rfl) (fun x W2 hx b2 => hcheck4_any x w.heap.size hx ((hh.on (HZ b)).on b2) (cell_on b2 (cell_on b r0)) (cell_on b2 (cell_on b r1)))
  have HW : Hid (w0 = w.alloc (.cells #[.slice a s.os.length c, .slice a' s.es.length c'] 25)) := hw0
  clear hw0 Z0
  unfold chkS
  clear hm8 h
  generalize manS s = k1 at *
  generalize namS s = k2 at *
  generalize (sptS s).all (fun x => frfS x.f.n) = k3 at *
  generalize oncS s = k4 at *
  generalize (sptS s).all (fun x => wtyS s x.f) = k5 at *
  generalize (sptS s).all (fun x => !x.f.s || decide (edgS s x.f < 0)) = k6 at *
  generalize (sptS s).all (fun x => (x.f.i == []) || ledS s x) = k7 at *
  cases k1 with
  | false =>
    go_enter Tryz.func10, Tryz.ntmps10
    go_wp2_with (first
      | (go_at_call 23; (with_reducible refine (M1 _).mono ?_); rintro e w1 ⟨rfl, b1⟩; have D1 : Below w0.heap.size w0 w1 := (by rw [HW.out]; exact b1); have p1 := cell_on D1 r0; have q1 := cell_on D1 r1)
      | fail)
    go_ret
    exact ⟨by simp, HZ D1⟩
  | true =>
    cases k2 with
    | false =>
      go_enter Tryz.func10, Tryz.ntmps10
      go_wp2_with (first
        | (go_at_call 25; (with_reducible refine (M3 _ D2).mono ?_); rintro e w3 ⟨rfl, b3⟩; have D3 := D2.trans (b3.mono D2.size); have p3 := cell_on D3 r0; have q3 := cell_on D3 r1; have hv3 := SptsAt.on b3 hv2)
        | (go_at_call 24; (with_reducible refine (M2 (by trivial) _ D1).mono ?_); rintro e w2 ⟨v, rfl, hv2, b2⟩; have D2 := D1.trans (b2.mono D1.size); have p2 := cell_on D2 r0; have q2 := cell_on D2 r1)
        | (go_at_call 23; (with_reducible refine (M1 _).mono ?_); rintro e w1 ⟨rfl, b1⟩; have D1 : Below w0.heap.size w0 w1 := (by rw [HW.out]; exact b1); have p1 := cell_on D1 r0; have q1 := cell_on D1 r1)
        | fail)
      go_ret
      exact ⟨by simp, HZ D3⟩
    | true =>
      cases k3 with
      | false =>
        go_enter Tryz.func10, Tryz.ntmps10
        go_wp2_with (first
          | (go_at_call 26; (with_reducible refine (M4 v _ D3 hv3).mono ?_); rintro e w4 ⟨rfl, b4⟩; have D4 := D3.trans (b4.mono D3.size); have p4 := cell_on D4 r0; have q4 := cell_on D4 r1; have hv4 := SptsAt.on b4 hv3)
          | (go_at_call 25; (with_reducible refine (M3 _ D2).mono ?_); rintro e w3 ⟨rfl, b3⟩; have D3 := D2.trans (b3.mono D2.size); have p3 := cell_on D3 r0; have q3 := cell_on D3 r1; have hv3 := SptsAt.on b3 hv2)
          | (go_at_call 24; (with_reducible refine (M2 (by trivial) _ D1).mono ?_); rintro e w2 ⟨v, rfl, hv2, b2⟩; have D2 := D1.trans (b2.mono D1.size); have p2 := cell_on D2 r0; have q2 := cell_on D2 r1)
          | (go_at_call 23; (with_reducible refine (M1 _).mono ?_); rintro e w1 ⟨rfl, b1⟩; have D1 : Below w0.heap.size w0 w1 := (by rw [HW.out]; exact b1); have p1 := cell_on D1 r0; have q1 := cell_on D1 r1)
          | fail)
        go_ret
        exact ⟨by simp, HZ D4⟩
      | true =>
        cases k4 with
        | false =>
          go_enter Tryz.func10, Tryz.ntmps10
          go_wp2_with (first
            | (go_at_call 29; (with_reducible refine (M5 _ D4).mono ?_); rintro e w5 ⟨rfl, b5⟩; have D5 := D4.trans (b5.mono D4.size); have p5 := cell_on D5 r0; have q5 := cell_on D5 r1; have hv5 := SptsAt.on b5 hv4)
            | (go_at_call 26; (with_reducible refine (M4 v _ D3 hv3).mono ?_); rintro e w4 ⟨rfl, b4⟩; have D4 := D3.trans (b4.mono D3.size); have p4 := cell_on D4 r0; have q4 := cell_on D4 r1; have hv4 := SptsAt.on b4 hv3)
            | (go_at_call 25; (with_reducible refine (M3 _ D2).mono ?_); rintro e w3 ⟨rfl, b3⟩; have D3 := D2.trans (b3.mono D2.size); have p3 := cell_on D3 r0; have q3 := cell_on D3 r1; have hv3 := SptsAt.on b3 hv2)
            | (go_at_call 24; (with_reducible refine (M2 (by trivial) _ D1).mono ?_); rintro e w2 ⟨v, rfl, hv2, b2⟩; have D2 := D1.trans (b2.mono D1.size); have p2 := cell_on D2 r0; have q2 := cell_on D2 r1)
            | (go_at_call 23; (with_reducible refine (M1 _).mono ?_); rintro e w1 ⟨rfl, b1⟩; have D1 : Below w0.heap.size w0 w1 := (by rw [HW.out]; exact b1); have p1 := cell_on D1 r0; have q1 := cell_on D1 r1)
            | fail)
          go_ret
          exact ⟨by simp, HZ D5⟩
        | true =>
          cases k5 with
          | false =>
            go_enter Tryz.func10, Tryz.ntmps10
            go_wp2_with (first
              | (go_at_call 26; (with_reducible refine (M6 v _ D5 hv5).mono ?_); rintro e w6 ⟨rfl, b6⟩; have D6 := D5.trans (b6.mono D5.size); have p6 := cell_on D6 r0; have q6 := cell_on D6 r1; have hv6 := SptsAt.on b6 hv5)
              | (go_at_call 29; (with_reducible refine (M5 _ D4).mono ?_); rintro e w5 ⟨rfl, b5⟩; have D5 := D4.trans (b5.mono D4.size); have p5 := cell_on D5 r0; have q5 := cell_on D5 r1; have hv5 := SptsAt.on b5 hv4)
              | (go_at_call 26; (with_reducible refine (M4 v _ D3 hv3).mono ?_); rintro e w4 ⟨rfl, b4⟩; have D4 := D3.trans (b4.mono D3.size); have p4 := cell_on D4 r0; have q4 := cell_on D4 r1; have hv4 := SptsAt.on b4 hv3)
              | (go_at_call 25; (with_reducible refine (M3 _ D2).mono ?_); rintro e w3 ⟨rfl, b3⟩; have D3 := D2.trans (b3.mono D2.size); have p3 := cell_on D3 r0; have q3 := cell_on D3 r1; have hv3 := SptsAt.on b3 hv2)
              | (go_at_call 24; (with_reducible refine (M2 (by trivial) _ D1).mono ?_); rintro e w2 ⟨v, rfl, hv2, b2⟩; have D2 := D1.trans (b2.mono D1.size); have p2 := cell_on D2 r0; have q2 := cell_on D2 r1)
              | (go_at_call 23; (with_reducible refine (M1 _).mono ?_); rintro e w1 ⟨rfl, b1⟩; have D1 : Below w0.heap.size w0 w1 := (by rw [HW.out]; exact b1); have p1 := cell_on D1 r0; have q1 := cell_on D1 r1)
              | fail)
            go_ret
            exact ⟨by simp, HZ D6⟩
          | true =>
            cases k6 with
            | false =>
              go_enter Tryz.func10, Tryz.ntmps10
              go_wp2_with (first
                | (go_at_call 26; (with_reducible refine (M7 v _ D6 hv6).mono ?_); rintro e w7 ⟨rfl, b7⟩; have D7 := D6.trans (b7.mono D6.size); have p7 := cell_on D7 r0; have q7 := cell_on D7 r1; have hv7 := SptsAt.on b7 hv6)
                | (go_at_call 26; (with_reducible refine (M6 v _ D5 hv5).mono ?_); rintro e w6 ⟨rfl, b6⟩; have D6 := D5.trans (b6.mono D5.size); have p6 := cell_on D6 r0; have q6 := cell_on D6 r1; have hv6 := SptsAt.on b6 hv5)
                | (go_at_call 29; (with_reducible refine (M5 _ D4).mono ?_); rintro e w5 ⟨rfl, b5⟩; have D5 := D4.trans (b5.mono D4.size); have p5 := cell_on D5 r0; have q5 := cell_on D5 r1; have hv5 := SptsAt.on b5 hv4)
                | (go_at_call 26; (with_reducible refine (M4 v _ D3 hv3).mono ?_); rintro e w4 ⟨rfl, b4⟩; have D4 := D3.trans (b4.mono D3.size); have p4 := cell_on D4 r0; have q4 := cell_on D4 r1; have hv4 := SptsAt.on b4 hv3)
                | (go_at_call 25; (with_reducible refine (M3 _ D2).mono ?_); rintro e w3 ⟨rfl, b3⟩; have D3 := D2.trans (b3.mono D2.size); have p3 := cell_on D3 r0; have q3 := cell_on D3 r1; have hv3 := SptsAt.on b3 hv2)
                | (go_at_call 24; (with_reducible refine (M2 (by trivial) _ D1).mono ?_); rintro e w2 ⟨v, rfl, hv2, b2⟩; have D2 := D1.trans (b2.mono D1.size); have p2 := cell_on D2 r0; have q2 := cell_on D2 r1)
                | (go_at_call 23; (with_reducible refine (M1 _).mono ?_); rintro e w1 ⟨rfl, b1⟩; have D1 : Below w0.heap.size w0 w1 := (by rw [HW.out]; exact b1); have p1 := cell_on D1 r0; have q1 := cell_on D1 r1)
                | fail)
              go_ret
              exact ⟨by simp, HZ D7⟩
            | true =>
              cases k7 with
              | false =>
                go_enter Tryz.func10, Tryz.ntmps10
                go_wp2_with (first
                  | (go_at_call 26; (with_reducible refine (M8 v _ D7 hv7).mono ?_); rintro e w8 ⟨rfl, b8⟩; have D8 := D7.trans (b8.mono D7.size); have p8 := cell_on D8 r0; have q8 := cell_on D8 r1; have hv8 := SptsAt.on b8 hv7)
                  | (go_at_call 26; (with_reducible refine (M7 v _ D6 hv6).mono ?_); rintro e w7 ⟨rfl, b7⟩; have D7 := D6.trans (b7.mono D6.size); have p7 := cell_on D7 r0; have q7 := cell_on D7 r1; have hv7 := SptsAt.on b7 hv6)
                  | (go_at_call 26; (with_reducible refine (M6 v _ D5 hv5).mono ?_); rintro e w6 ⟨rfl, b6⟩; have D6 := D5.trans (b6.mono D5.size); have p6 := cell_on D6 r0; have q6 := cell_on D6 r1; have hv6 := SptsAt.on b6 hv5)
                  | (go_at_call 29; (with_reducible refine (M5 _ D4).mono ?_); rintro e w5 ⟨rfl, b5⟩; have D5 := D4.trans (b5.mono D4.size); have p5 := cell_on D5 r0; have q5 := cell_on D5 r1; have hv5 := SptsAt.on b5 hv4)
                  | (go_at_call 26; (with_reducible refine (M4 v _ D3 hv3).mono ?_); rintro e w4 ⟨rfl, b4⟩; have D4 := D3.trans (b4.mono D3.size); have p4 := cell_on D4 r0; have q4 := cell_on D4 r1; have hv4 := SptsAt.on b4 hv3)
                  | (go_at_call 25; (with_reducible refine (M3 _ D2).mono ?_); rintro e w3 ⟨rfl, b3⟩; have D3 := D2.trans (b3.mono D2.size); have p3 := cell_on D3 r0; have q3 := cell_on D3 r1; have hv3 := SptsAt.on b3 hv2)
                  | (go_at_call 24; (with_reducible refine (M2 (by trivial) _ D1).mono ?_); rintro e w2 ⟨v, rfl, hv2, b2⟩; have D2 := D1.trans (b2.mono D1.size); have p2 := cell_on D2 r0; have q2 := cell_on D2 r1)
                  | (go_at_call 23; (with_reducible refine (M1 _).mono ?_); rintro e w1 ⟨rfl, b1⟩; have D1 : Below w0.heap.size w0 w1 := (by rw [HW.out]; exact b1); have p1 := cell_on D1 r0; have q1 := cell_on D1 r1)
                  | fail)
                go_ret
                exact ⟨by simp, HZ D8⟩
              | true =>
                go_enter Tryz.func10, Tryz.ntmps10
                go_wp2_with (first
                  | (go_at_call 26; (with_reducible refine (M8 v _ D7 hv7).mono ?_); rintro e w8 ⟨rfl, b8⟩; have D8 := D7.trans (b8.mono D7.size); have p8 := cell_on D8 r0; have q8 := cell_on D8 r1; have hv8 := SptsAt.on b8 hv7)
                  | (go_at_call 26; (with_reducible refine (M7 v _ D6 hv6).mono ?_); rintro e w7 ⟨rfl, b7⟩; have D7 := D6.trans (b7.mono D6.size); have p7 := cell_on D7 r0; have q7 := cell_on D7 r1; have hv7 := SptsAt.on b7 hv6)
                  | (go_at_call 26; (with_reducible refine (M6 v _ D5 hv5).mono ?_); rintro e w6 ⟨rfl, b6⟩; have D6 := D5.trans (b6.mono D5.size); have p6 := cell_on D6 r0; have q6 := cell_on D6 r1; have hv6 := SptsAt.on b6 hv5)
                  | (go_at_call 29; (with_reducible refine (M5 _ D4).mono ?_); rintro e w5 ⟨rfl, b5⟩; have D5 := D4.trans (b5.mono D4.size); have p5 := cell_on D5 r0; have q5 := cell_on D5 r1; have hv5 := SptsAt.on b5 hv4)
                  | (go_at_call 26; (with_reducible refine (M4 v _ D3 hv3).mono ?_); rintro e w4 ⟨rfl, b4⟩; have D4 := D3.trans (b4.mono D3.size); have p4 := cell_on D4 r0; have q4 := cell_on D4 r1; have hv4 := SptsAt.on b4 hv3)
                  | (go_at_call 25; (with_reducible refine (M3 _ D2).mono ?_); rintro e w3 ⟨rfl, b3⟩; have D3 := D2.trans (b3.mono D2.size); have p3 := cell_on D3 r0; have q3 := cell_on D3 r1; have hv3 := SptsAt.on b3 hv2)
                  | (go_at_call 24; (with_reducible refine (M2 (by trivial) _ D1).mono ?_); rintro e w2 ⟨v, rfl, hv2, b2⟩; have D2 := D1.trans (b2.mono D1.size); have p2 := cell_on D2 r0; have q2 := cell_on D2 r1)
                  | (go_at_call 23; (with_reducible refine (M1 _).mono ?_); rintro e w1 ⟨rfl, b1⟩; have D1 : Below w0.heap.size w0 w1 := (by rw [HW.out]; exact b1); have p1 := cell_on D1 r0; have q1 := cell_on D1 r1)
                  | fail)
                go_ret
                exact ⟨by simp, HZ D8⟩
end
end Go.Proofs.YtfkgmgnoijokdaaGreatDoor
namespace Go.Proofs.YtfkgmgnoijokdaaGreatDoor
open Go Go.RowKit Go.Shelf
abbrev exF : Obj := .cells #[.string ⟨#[97]⟩, .string ⟨#[73, 110, 116]⟩, .string ⟨#[33]⟩, .bool true, .string ⟨#[]⟩, .string ⟨#[98]⟩, .string ⟨#[84]⟩, .string ⟨#[33, 91, 33]⟩, .bool false, .string ⟨#[98]⟩] 33
abbrev exO (fb : Nat) : Obj := .cells #[.string ⟨#[84]⟩, .slice (some ⟨fb, 0, none⟩) 2 2] 41
set_option maxRecDepth 100000 in
set_option maxHeartbeats 2000000 in
theorem lexample_any (w : World) : Calls Tryz.prog 22 #[] w fun e w' => e = .returned (.agg #[.slice (some ⟨w.heap.size + 2, 0, none⟩) 1 1, .slice none 0 0]) ∧ Below w.heap.size w w' ∧ w'.heap[w.heap.size + 1]? = some exF ∧ w'.heap[w.heap.size + 2]? = some (exO (w.heap.size + 1)) ∧ w.heap.size + 3 ≤ w'.heap.size := by
  go_enter Tryz.func22, Tryz.ntmps22
  go_wp2
  refine bodyPost_ret (v := .agg #[.slice (some ⟨w.heap.size + 2, 0, none⟩) 1 1, .slice none 0 0]) (by simp [results, Tryz.results22, go_sem]) rfl ⟨rfl, ?_⟩
  refine ⟨(al2 w _ _).alloc (by simp; omega) _, ?_, ?_, ?_⟩
  · exact ((al1 _ _).block _ (by simp)).trans (new2 w _ _)
  · have := new2 (w.alloc (.cells #[.slice (some ⟨w.heap.size + 1 + 1, 0, none⟩) 1 1, .slice none 0 0] 25)) exF (exO (w.heap.size + 1))
    rw [World.size_alloc] at this
    exact this
  · rw [World.size_alloc, World.size_alloc, World.size_alloc]
    omega
theorem sch_two {W : World} {fb ob : Nat} {nm a0 a1 a2 a4 b0 b1 b2 b4 : Bs} {a3 b3 : Bool} (hF : W.heap[fb]? = some (.cells #[.string ⟨a0.toArray⟩, .string ⟨a1.toArray⟩, .string ⟨a2.toArray⟩, .bool a3, .string ⟨a4.toArray⟩, .string ⟨b0.toArray⟩, .string ⟨b1.toArray⟩, .string ⟨b2.toArray⟩, .bool b3, .string ⟨b4.toArray⟩] 33))
    (hO : W.heap[ob]? = some (.cells #[.string ⟨nm.toArray⟩, .slice (some ⟨fb, 0, none⟩) 2 2] 41)) : SchAt W (.slice (some ⟨ob, 0, none⟩) 1 1) (.slice none 0 0) ⟨[⟨nm, [⟨a0, a1, a2, a3, a4⟩, ⟨b0, b1, b2, b3, b4⟩]⟩], []⟩ := by
  have cF : ∀ j, W.cell? ⟨fb, j, none⟩ = (#[Value.string ⟨a0.toArray⟩, .string ⟨a1.toArray⟩, .string ⟨a2.toArray⟩, .bool a3, .string ⟨a4.toArray⟩, .string ⟨b0.toArray⟩, .string ⟨b1.toArray⟩, .string ⟨b2.toArray⟩, .bool b3, .string ⟨b4.toArray⟩] : Array Value)[j]? := fun j => by
    unfold World.cell?
    rw [hF]
    rfl
  have FA : FldsAt W (.slice (some ⟨fb, 0, none⟩) 2 2) [⟨a0, a1, a2, a3, a4⟩, ⟨b0, b1, b2, b3, b4⟩] := by
    refine ⟨_, 2, rfl, Nat.le_refl _, by simp, fun _ => ⟨fb, 0, rfl, lt_of_block hF, fun i hi x hx => ?_⟩⟩
    change i < 2 at hi
    rcases (show i = 0 ∨ i = 1 by omega) with rfl | rfl
    · simp only [List.getElem?_cons_zero] at hx
      cases hx
      exact ⟨cF 0, cF 1, cF 2, cF 3, cF 4⟩
    · simp only [List.getElem?_cons_zero, List.getElem?_cons_succ] at hx
      cases hx
      exact ⟨cF 5, cF 6, cF 7, cF 8, cF 9⟩
  refine ⟨⟨_, 1, rfl, Nat.le_refl _, by simp, fun _ => ⟨ob, 0, rfl, lt_of_block hO, fun i hi x hx => ?_⟩⟩, ⟨_, 0, rfl, Nat.le_refl _, by simp, fun h => absurd h (by simp)⟩⟩
  change i < 1 at hi
  have : i = 0 := by omega
  subst this
  simp only [List.getElem?_cons_zero] at hx
  cases hx
  obtain ⟨q0, q1, _⟩ := row2 hO
  exact ⟨q0, _, q1, FA⟩
theorem sch_none (W : World) : SchAt W (.slice none 0 0) (.slice none 0 0) ⟨[], []⟩ := ⟨⟨_, 0, rfl, Nat.le_refl _, by decide, fun h => absurd h (by decide)⟩, ⟨_, 0, rfl, Nat.le_refl _, by decide, fun h => absurd h (by decide)⟩⟩
abbrev exS : Sch := ⟨[⟨[84], [⟨[97], [73, 110, 116], [33], true, []⟩, ⟨[98], [84], [33, 91, 33], false, [98]⟩]⟩], []⟩
abbrev exT : Sch := ⟨[⟨[84], [⟨[97], [73, 110, 116], [33], true, []⟩, ⟨[98], [84], [91], false, [98]⟩]⟩], []⟩
abbrev exU : Sch := ⟨[⟨[84], [⟨[105, 100], [73, 110, 116], [33], true, []⟩, ⟨[98], [84], [33, 91, 33], false, [98]⟩]⟩], []⟩
theorem al3 (w : World) (o o' o'' : Obj) : Below w.heap.size w (((w.alloc o).alloc o').alloc o'') := (al2 w o o').alloc (by simp; omega) _
theorem fx_kp (V : World) (n1 n2 : Nat) : Kp (fun k => k = n1 + 1 ∨ k = n2 + 1) V ((V.setCell ⟨n1 + 1, 7, none⟩ (.string ⟨#[91]⟩)).setCell ⟨n2 + 1, 0, none⟩ (.string ⟨#[105, 100]⟩)) := (((Kp.refl (fun k => k = n1 + 1 ∨ k = n2 + 1) V).set (n1 + 1) 7 _ (Or.inr (Or.inl rfl))).set (n2 + 1) 0 _ (Or.inr (Or.inr rfl)))
theorem fx_kp1 (V : World) (n1 : Nat) : Kp (fun k => k = n1 + 1) V (V.setCell ⟨n1 + 1, 7, none⟩ (.string ⟨#[91]⟩)) := ((Kp.refl (fun k => k = n1 + 1) V).set (n1 + 1) 7 _ (Or.inr rfl))
section
variable {w w3 V : World} {n1 n2 : Nat} (hb : Below w.heap.size w w3) (hV : Below w3.heap.size w3 V) (h01 : w.heap.size + 3 ≤ n1) (h12 : n1 + 3 ≤ n2)
include hb hV h01 h12
theorem fx_below : Below w.heap.size w ((V.setCell ⟨n1 + 1, 7, none⟩ (.string ⟨#[91]⟩)).setCell ⟨n2 + 1, 0, none⟩ (.string ⟨#[105, 100]⟩)) := by
  have k := fx_kp V n1 n2
  have B := hb.trans (hV.mono hb.size)
  have := B.size
  exact ⟨k.os.trans B.os, k.tape.trans B.tape, k.output.trans B.output, Nat.le_trans B.size k.size, fun q hq => (k.block q (by omega) (fun e => by have e' : q = n1 + 1 ∨ q = n2 + 1 := e; omega)).trans (B.block q hq)⟩
omit hb h01 h12 in
/-- Other blocks stay. -/
theorem fx_keep {k : Nat} {o : Obj} (h : w3.heap[k]? = some o) (k1 : k ≠ n1 + 1) (k2 : k ≠ n2 + 1) : ((V.setCell ⟨n1 + 1, 7, none⟩ (.string ⟨#[91]⟩)).setCell ⟨n2 + 1, 0, none⟩ (.string ⟨#[105, 100]⟩)).heap[k]? = some o := by
  have hk : k < w3.heap.size := lt_of_block h
  have := hV.size
  exact ((fx_kp V n1 n2).block k (by omega) (fun e => by have e' : k = n1 + 1 ∨ k = n2 + 1 := e; omega)).trans ((hV.block k hk).trans h)
end
/-- What the fixed calls find in memory. -/
structure FxAt (w w3 V : World) (n1 n2 : Nat) : Prop where
  b : Below w.heap.size w ((V.setCell ⟨n1 + 1, 7, none⟩ (.string ⟨#[91]⟩)).setCell ⟨n2 + 1, 0, none⟩ (.string ⟨#[105, 100]⟩))
  s : SchAt ((V.setCell ⟨n1 + 1, 7, none⟩ (.string ⟨#[91]⟩)).setCell ⟨n2 + 1, 0, none⟩ (.string ⟨#[105, 100]⟩)) (.slice (some ⟨w.heap.size + 2, 0, none⟩) 1 1) (.slice none 0 0) exS
  t : SchAt ((V.setCell ⟨n1 + 1, 7, none⟩ (.string ⟨#[91]⟩)).setCell ⟨n2 + 1, 0, none⟩ (.string ⟨#[105, 100]⟩)) (.slice (some ⟨n1 + 2, 0, none⟩) 1 1) (.slice none 0 0) exT
  u : SchAt ((V.setCell ⟨n1 + 1, 7, none⟩ (.string ⟨#[91]⟩)).setCell ⟨n2 + 1, 0, none⟩ (.string ⟨#[105, 100]⟩)) (.slice (some ⟨n2 + 2, 0, none⟩) 1 1) (.slice none 0 0) exU
  o : ((V.setCell ⟨n1 + 1, 7, none⟩ (.string ⟨#[91]⟩)).setCell ⟨n2 + 1, 0, none⟩ (.string ⟨#[105, 100]⟩)).heap[w.heap.size + 2]? = some (exO (w.heap.size + 1))
  f : ((V.setCell ⟨n1 + 1, 7, none⟩ (.string ⟨#[91]⟩)).setCell ⟨n2 + 1, 0, none⟩ (.string ⟨#[105, 100]⟩)).heap[w.heap.size + 1]? = some exF
  k : ∀ q o, w3.heap.size ≤ q → V.heap[q]? = some o → ((V.setCell ⟨n1 + 1, 7, none⟩ (.string ⟨#[91]⟩)).setCell ⟨n2 + 1, 0, none⟩ (.string ⟨#[105, 100]⟩)).heap[q]? = some o
  c1 : V.cell? ⟨n1 + 2, 1, none⟩ = some (.slice (some ⟨n1 + 1, 0, none⟩) 2 2)
  c2 : V.cell? ⟨n1 + 1, 7, none⟩ = some (.string ⟨#[33, 91, 33]⟩)
  c3 : V.frozen? ⟨n1 + 1, 7, none⟩ = false
  d1 : (V.setCell ⟨n1 + 1, 7, none⟩ (.string ⟨#[91]⟩)).cell? ⟨n2 + 2, 1, none⟩ = some (.slice (some ⟨n2 + 1, 0, none⟩) 2 2)
  d2 : (V.setCell ⟨n1 + 1, 7, none⟩ (.string ⟨#[91]⟩)).cell? ⟨n2 + 1, 0, none⟩ = some (.string ⟨#[97]⟩)
  d3 : (V.setCell ⟨n1 + 1, 7, none⟩ (.string ⟨#[91]⟩)).frozen? ⟨n2 + 1, 0, none⟩ = false
  k1 : ∀ q o, w3.heap.size ≤ q → V.heap[q]? = some o → (V.setCell ⟨n1 + 1, 7, none⟩ (.string ⟨#[91]⟩)).heap[q]? = some o
theorem fx_at {w w3 V : World} {n1 n2 : Nat} (hb : Below w.heap.size w w3) (hV : Below w3.heap.size w3 V) (h01 : w.heap.size + 3 ≤ n1) (h12 : n1 + 3 ≤ n2) (h23 : n2 + 3 ≤ w3.heap.size)
    (s1 : w3.heap[w.heap.size + 1]? = some exF) (s2 : w3.heap[w.heap.size + 2]? = some (exO (w.heap.size + 1)))
    (t1 : w3.heap[n1 + 1]? = some exF) (t2 : w3.heap[n1 + 2]? = some (exO (n1 + 1)))
    (u1 : w3.heap[n2 + 1]? = some exF) (u2 : w3.heap[n2 + 2]? = some (exO (n2 + 1))) : FxAt w w3 V n1 n2 := by
  have T1 : V.heap[n1 + 1]? = some exF := (hV.block _ (lt_of_block t1)).trans t1
  have T2 : V.heap[n1 + 2]? = some (exO (n1 + 1)) := (hV.block _ (lt_of_block t2)).trans t2
  have U1 : (V.setCell ⟨n1 + 1, 7, none⟩ (.string ⟨#[91]⟩)).heap[n2 + 1]? = some exF := ((fx_kp1 V n1).block _ (by have := hV.size; omega) (fun e => by have e' : n2 + 1 = n1 + 1 := e; omega)).trans ((hV.block _ (lt_of_block u1)).trans u1)
  have U2 : (V.setCell ⟨n1 + 1, 7, none⟩ (.string ⟨#[91]⟩)).heap[n2 + 2]? = some (exO (n2 + 1)) := ((fx_kp1 V n1).block _ (by have := hV.size; omega) (fun e => by have e' : n2 + 2 = n1 + 1 := e; omega)).trans ((hV.block _ (lt_of_block u2)).trans u2)
  have keep := fun {k : Nat} {o : Obj} => fx_keep (n1 := n1) (n2 := n2) hV (k := k) (o := o)
  have HT : (V.setCell ⟨n1 + 1, 7, none⟩ (.string ⟨#[91]⟩)).heap[n1 + 1]? = some (.cells #[.string ⟨#[97]⟩, .string ⟨#[73, 110, 116]⟩, .string ⟨#[33]⟩, .bool true, .string ⟨#[]⟩, .string ⟨#[98]⟩, .string ⟨#[84]⟩, .string ⟨#[91]⟩, .bool false, .string ⟨#[98]⟩] 33) := by
    rw [heap_setCell_same _ _ 7 _ _ _ T1]
    rfl
  have HT2 : ((V.setCell ⟨n1 + 1, 7, none⟩ (.string ⟨#[91]⟩)).setCell ⟨n2 + 1, 0, none⟩ (.string ⟨#[105, 100]⟩)).heap[n1 + 1]? = some (.cells #[.string ⟨#[97]⟩, .string ⟨#[73, 110, 116]⟩, .string ⟨#[33]⟩, .bool true, .string ⟨#[]⟩, .string ⟨#[98]⟩, .string ⟨#[84]⟩, .string ⟨#[91]⟩, .bool false, .string ⟨#[98]⟩] 33) := (((Kp.refl (fun k => k = n2 + 1) (V.setCell ⟨n1 + 1, 7, none⟩ (.string ⟨#[91]⟩))).set (n2 + 1) 0 _ (Or.inr rfl)).block _ (lt_of_block HT) (fun e => by have e' : n1 + 1 = n2 + 1 := e; omega)).trans HT
  have HU : ((V.setCell ⟨n1 + 1, 7, none⟩ (.string ⟨#[91]⟩)).setCell ⟨n2 + 1, 0, none⟩ (.string ⟨#[105, 100]⟩)).heap[n2 + 1]? = some (.cells #[.string ⟨#[105, 100]⟩, .string ⟨#[73, 110, 116]⟩, .string ⟨#[33]⟩, .bool true, .string ⟨#[]⟩, .string ⟨#[98]⟩, .string ⟨#[84]⟩, .string ⟨#[33, 91, 33]⟩, .bool false, .string ⟨#[98]⟩] 33) := by
    rw [heap_setCell_same _ _ 0 _ _ _ U1]
    rfl
  refine ⟨fx_below hb hV h01 h12, sch_two (keep s1 (by omega) (by omega)) (keep s2 (by omega) (by omega)), sch_two HT2 (keep t2 (by omega) (by omega)), sch_two HU (keep u2 (by omega) (by omega)), keep s2 (by omega) (by omega), keep s1 (by omega) (by omega), ?_, ?_, ?_, ?_, ?_, ?_, ?_, ?_⟩
  · intro q o hq ho
    exact ((fx_kp V n1 n2).block q (lt_of_block ho) (fun e => by have e' : q = n1 + 1 ∨ q = n2 + 1 := e; omega)).trans ho
  · simp [World.cell?, T2]
  · simp [World.cell?, T1]
  · simp [World.frozen?, T1]
  · unfold World.cell?
    rw [U2]
    rfl
  · unfold World.cell?
    rw [U1]
    rfl
  · unfold World.frozen?
    rw [U1]
    rfl
  · intro q o hq ho
    exact ((fx_kp1 V n1).block q (lt_of_block ho) (fun e => by have e' : q = n1 + 1 := e; omega)).trans ho
theorem fx_v1 : chkS exS = 0 := by kernel_rfl
theorem fx_v2 : chkS exT = 93 := by kernel_rfl
theorem fx_v3 : chkS exU = 91 := by kernel_rfl
theorem fx_v4 : chkS ⟨[], []⟩ = 90 := by kernel_rfl
theorem fx_v5 : objS exS [84] = 0 := by kernel_rfl
theorem fx_v6 : objS exS [85] = -1 := by kernel_rfl
theorem fx_v7 : enuS exS [84] = -1 := by kernel_rfl
theorem fx_v8 : scaS [70, 108, 111, 97, 116] = true := by kernel_rfl
theorem fx_v9 : scaS [73, 68] = false := by kernel_rfl
theorem fx_v10 : edgS exS ⟨[98], [84], [33, 91, 33], false, [98]⟩ = 0 := by kernel_rfl
theorem fx_v11 : edgS exS ⟨[97], [73, 110, 116], [33], true, []⟩ = -1 := by kernel_rfl
theorem fx_v12 : backS exS 0 1 = 1 := by kernel_rfl
theorem fx_v13 : backS exS 0 0 = -1 := by kernel_rfl
theorem fx_v14 : backS exS 1 0 = -1 := by kernel_rfl
theorem new31 (w : World) (o o' o'' : Obj) : (((w.alloc o).alloc o').alloc o'').heap[w.heap.size]? = some o := ((al2 (w.alloc o) o' o'').block _ (by simp)).trans (heap_alloc_new w o)
theorem new32 (w : World) (o o' o'' : Obj) : (((w.alloc o).alloc o').alloc o'').heap[w.heap.size + 1]? = some o' := ((al1 ((w.alloc o).alloc o') o'').block _ (by simp)).trans (new2 w o o')
theorem new33 (w : World) (o o' o'' : Obj) : (((w.alloc o).alloc o').alloc o'').heap[w.heap.size + 1 + 1]? = some o'' := by
  have h := new2 (w.alloc o) o' o''
  rw [World.size_alloc] at h
  exact h
/-- The same, later. -/
structure FxL (w w3 : World) (n1 n2 : Nat) (W : World) : Prop where
  b : Below w.heap.size w W
  s : SchAt W (.slice (some ⟨w.heap.size + 2, 0, none⟩) 1 1) (.slice none 0 0) exS
  t : SchAt W (.slice (some ⟨n1 + 2, 0, none⟩) 1 1) (.slice none 0 0) exT
  u : SchAt W (.slice (some ⟨n2 + 2, 0, none⟩) 1 1) (.slice none 0 0) exU
  o : W.heap[w.heap.size + 2]? = some (exO (w.heap.size + 1))
  f : W.heap[w.heap.size + 1]? = some exF
  vs : W.heap[w3.heap.size]? = some (.cells #[.slice (some ⟨w.heap.size + 2, 0, none⟩) 1 1, .slice none 0 0] 25)
  vt : W.heap[w3.heap.size + 1]? = some (.cells #[.slice (some ⟨n1 + 2, 0, none⟩) 1 1, .slice none 0 0] 25)
  vu : W.heap[w3.heap.size + 1 + 1]? = some (.cells #[.slice (some ⟨n2 + 2, 0, none⟩) 1 1, .slice none 0 0] 25)
theorem FxL.on {w w3 W W' : World} {n1 n2 : Nat} (h : FxL w w3 n1 n2 W) (hb : Below W.heap.size W W') : FxL w w3 n1 n2 W' := by
  have kb : ∀ {q : Nat} {o : Obj}, W.heap[q]? = some o → W'.heap[q]? = some o := fun e => (hb.block _ (lt_of_block e)).trans e
  exact ⟨h.b.trans (hb.mono h.b.size), h.s.on hb, h.t.on hb, h.u.on hb, kb h.o, kb h.f, kb h.vs, kb h.vt, kb h.vu⟩
theorem FxL.obj {w w3 W : World} {n1 n2 : Nat} (h : FxL w w3 n1 n2 W) : W.cell? ⟨w.heap.size + 2, 1, none⟩ = some (.slice (some ⟨w.heap.size + 1, 0, none⟩) 2 2) := (row2 h.o).2.1
theorem FxL.fld {w w3 W : World} {n1 n2 : Nat} (h : FxL w w3 n1 n2 W) (j : Nat) : W.cell? ⟨w.heap.size + 1, j, none⟩ = (#[Value.string ⟨#[97]⟩, .string ⟨#[73, 110, 116]⟩, .string ⟨#[33]⟩, .bool true, .string ⟨#[]⟩, .string ⟨#[98]⟩, .string ⟨#[84]⟩, .string ⟨#[33, 91, 33]⟩, .bool false, .string ⟨#[98]⟩] : Array Value)[j]? := by
  unfold World.cell?
  rw [h.f]
  rfl
theorem FxL.S {w w3 W : World} {n1 n2 : Nat} (h : FxL w w3 n1 n2 W) : W.cell? ⟨w3.heap.size, 0, none⟩ = some (.slice (some ⟨w.heap.size + 2, 0, none⟩) 1 1) ∧ W.cell? ⟨w3.heap.size, 1, none⟩ = some (.slice none 0 0) ∧ W.cell? ⟨w3.heap.size + 1, 0, none⟩ = some (.slice (some ⟨n1 + 2, 0, none⟩) 1 1) ∧ W.cell? ⟨w3.heap.size + 1, 1, none⟩ = some (.slice none 0 0) ∧ W.cell? ⟨w3.heap.size + 1 + 1, 0, none⟩ = some (.slice (some ⟨n2 + 2, 0, none⟩) 1 1) ∧ W.cell? ⟨w3.heap.size + 1 + 1, 1, none⟩ = some (.slice none 0 0) ∧ W.cell? ⟨w.heap.size + 2, 1, none⟩ = some (.slice (some ⟨w.heap.size + 1, 0, none⟩) 2 2) ∧ W.cell? ⟨w.heap.size + 1, 0, none⟩ = some (.string ⟨#[97]⟩) ∧ W.cell? ⟨w.heap.size + 1, 1, none⟩ = some (.string ⟨#[73, 110, 116]⟩) ∧ W.cell? ⟨w.heap.size + 1, 2, none⟩ = some (.string ⟨#[33]⟩) ∧ W.cell? ⟨w.heap.size + 1, 3, none⟩ = some (.bool true) ∧ W.cell? ⟨w.heap.size + 1, 4, none⟩ = some (.string ⟨#[]⟩) ∧ W.cell? ⟨w.heap.size + 1, 5, none⟩ = some (.string ⟨#[98]⟩) ∧ W.cell? ⟨w.heap.size + 1, 6, none⟩ = some (.string ⟨#[84]⟩) ∧ W.cell? ⟨w.heap.size + 1, 7, none⟩ = some (.string ⟨#[33, 91, 33]⟩) ∧ W.cell? ⟨w.heap.size + 1, 8, none⟩ = some (.bool false) ∧ W.cell? ⟨w.heap.size + 1, 9, none⟩ = some (.string ⟨#[98]⟩) := ⟨(row2 h.vs).1, (row2 h.vs).2.1, (row2 h.vt).1, (row2 h.vt).2.1, (row2 h.vu).1, (row2 h.vu).2.1, h.obj, h.fld 0, h.fld 1, h.fld 2, h.fld 3, h.fld 4, h.fld 5, h.fld 6, h.fld 7, h.fld 8, h.fld 9⟩
theorem FxL.drew {w w3 W : World} {n1 n2 : Nat} (h : FxL w w3 n1 n2 W) : FxL w w3 n1 n2 W.drew := h.on ⟨rfl, rfl, rfl, Nat.le_refl _, fun _ _ => rfl⟩
set_option maxRecDepth 100000 in
set_option maxHeartbeats 8000000 in
theorem lfixed_any (w : World) (gl : Gl w) : Calls Tryz.prog 9 #[] w fun e w' => e = .returned (.bool true) ∧ Below w.heap.size w w' := by
  have EX := fun W => lexample_any W
  have GL := fun {W : World} (b : Below w.heap.size w W) => gl.below b (Nat.le_refl _)
  have C0 := fun {W3 W : World} {n1 n2 : Nat} (L : FxL w W3 n1 n2 W) => hcheck_any L.s (GL L.b)
  simp only [fx_v1] at C0
  have C1 := fun {W3 W : World} {n1 n2 : Nat} (L : FxL w W3 n1 n2 W) => hcheck_any L.t (GL L.b)
  simp only [fx_v2] at C1
  have C2 := fun {W3 W : World} {n1 n2 : Nat} (L : FxL w W3 n1 n2 W) => hcheck_any L.u (GL L.b)
  simp only [fx_v3] at C2
  have C3 := fun {W3 W : World} {n1 n2 : Nat} (L : FxL w W3 n1 n2 W) => hcheck_any (sch_none W) (GL L.b)
  simp only [fx_v4] at C3
  have C4 := fun {W3 W : World} {n1 n2 : Nat} (L : FxL w W3 n1 n2 W) => hobject_any L.s [84]
  simp only [fx_v5] at C4
  have C5 := fun {W3 W : World} {n1 n2 : Nat} (L : FxL w W3 n1 n2 W) => hobject_any L.s [85]
  simp only [fx_v6] at C5
  have C6 := fun {W3 W : World} {n1 n2 : Nat} (L : FxL w W3 n1 n2 W) => henum_any L.s [84]
  simp only [fx_v7] at C6
  have C7 := fun (W : World) => hscalar_any [70, 108, 111, 97, 116] W
  simp only [fx_v8] at C7
  have C8 := fun (W : World) => hscalar_any [73, 68] W
  simp only [fx_v9] at C8
  have C9 := fun {W3 W : World} {n1 n2 : Nat} (L : FxL w W3 n1 n2 W) => hedge_any L.s ⟨[98], [84], [33, 91, 33], false, [98]⟩
  simp only [fx_v10] at C9
  have C10 := fun {W3 W : World} {n1 n2 : Nat} (L : FxL w W3 n1 n2 W) => hedge_any L.s ⟨[97], [73, 110, 116], [33], true, []⟩
  simp only [fx_v11] at C10
  have C11 := fun {W3 W : World} {n1 n2 : Nat} (L : FxL w W3 n1 n2 W) => hback_any L.s 0 1
  simp only [fx_v12] at C11
  have C12 := fun {W3 W : World} {n1 n2 : Nat} (L : FxL w W3 n1 n2 W) => hback_any L.s 0 0
  simp only [fx_v13] at C12
  have C13 := fun {W3 W : World} {n1 n2 : Nat} (L : FxL w W3 n1 n2 W) => hback_any L.s 1 0
  simp only [fx_v14] at C13
  go_enter Tryz.func9, Tryz.ntmps9
  go_wp2_with (first
    | (go_at_call 22; (with_reducible refine (EX w2).mono ?_); rintro e w3 ⟨rfl, b3, u1, u2, hz3⟩; have B3 := B2.trans (b3.mono B2.size); have FX := fun o o' o'' => fx_at (w := w) (w3 := w3) (V := (((w3.alloc o).alloc o').alloc o'')) B3 (al3 w3 o o' o'') hz1 hz2 hz3 (kb3 b3 (kb2 s1)) (kb3 b3 (kb2 s2)) (kb3 b3 t1) (kb3 b3 t2) u1 u2; have L3 : ∀ o o' o'', o = (Obj.cells #[.slice (some ⟨w.heap.size + 2, 0, none⟩) 1 1, .slice none 0 0] 25) → o' = (Obj.cells #[.slice (some ⟨w1.heap.size + 2, 0, none⟩) 1 1, .slice none 0 0] 25) → o'' = (Obj.cells #[.slice (some ⟨w2.heap.size + 2, 0, none⟩) 1 1, .slice none 0 0] 25) → FxL w w3 w1.heap.size w2.heap.size (((((w3.alloc o).alloc o').alloc o'').setCell ⟨w1.heap.size + 1, 7, none⟩ (.string ⟨#[91]⟩)).setCell ⟨w2.heap.size + 1, 0, none⟩ (.string ⟨#[105, 100]⟩)) := fun o o' o'' e e' e'' => ⟨(FX o o' o'').b, (FX o o' o'').s, (FX o o' o'').t, (FX o o' o'').u, (FX o o' o'').o, (FX o o' o'').f, (FX o o' o'').k _ _ (Nat.le_refl _) (by rw [e]; exact new31 w3 _ _ _), (FX o o' o'').k _ _ (by omega) (by rw [e']; exact new32 w3 _ _ _), (FX o o' o'').k _ _ (by omega) (by rw [e'']; exact new33 w3 _ _ _)⟩; have c1 := fun o o' o'' => (FX o o' o'').c1; have c2 := fun o o' o'' => (FX o o' o'').c2; have c3 := fun o o' o'' => (FX o o' o'').c3; have d1 := fun o o' o'' => (FX o o' o'').d1; have d2 := fun o o' o'' => (FX o o' o'').d2; have d3 := fun o o' o'' => (FX o o' o'').d3; have v1 := fun o o' x y => (row2 ((FX o o' (Obj.cells #[x, y] 25)).k1 _ _ (by omega) (new33 w3 o o' (Obj.cells #[x, y] 25)))).1; have v2 := fun x y o' o'' => (row2 ((FX (Obj.cells #[x, y] 25) o' o'').k _ _ (Nat.le_refl _) (new31 w3 (Obj.cells #[x, y] 25) o' o''))).1; have v3 := fun x y o' o'' => (row2 ((FX (Obj.cells #[x, y] 25) o' o'').k _ _ (Nat.le_refl _) (new31 w3 (Obj.cells #[x, y] 25) o' o''))).2.1; clear FX)
    | (go_at_call 22; (with_reducible refine (EX w1).mono ?_); rintro e w2 ⟨rfl, b2, t1, t2, hz2⟩; have B2 := b1.trans (b2.mono b1.size); have kb2 : ∀ {q : Nat} {o : Obj}, w1.heap[q]? = some o → w2.heap[q]? = some o := fun e => (b2.block _ (lt_of_block e)).trans e; have kb3 : ∀ {w3 : World} {q : Nat} {o : Obj}, Below w2.heap.size w2 w3 → w2.heap[q]? = some o → w3.heap[q]? = some o := fun b e => (b.block _ (lt_of_block e)).trans e)
    | (go_at_call 22; (with_reducible refine (EX w).mono ?_); rintro e w1 ⟨rfl, b1, s1, s2, hz1⟩)
    | fail)
  have L4 := L3 _ _ _ rfl rfl rfl
  clear L3 c1 c2 c3 d1 d2 d3 v1 v2 v3
  generalize (((((w3.alloc (.cells #[.slice (some ⟨w.heap.size + 2, 0, none⟩) 1 1, .slice none 0 0] 25)).alloc (.cells #[.slice (some ⟨w1.heap.size + 2, 0, none⟩) 1 1, .slice none 0 0] 25)).alloc (.cells #[.slice (some ⟨w2.heap.size + 2, 0, none⟩) 1 1, .slice none 0 0] 25)).setCell ⟨w1.heap.size + 1, 7, none⟩ (.string ⟨#[91]⟩)).setCell ⟨w2.heap.size + 1, 0, none⟩ (.string ⟨#[105, 100]⟩)) = w4 at L4 ⊢
  simp only [List.append]
  go_region_held3 (fun w' => w'.cell? ⟨w3.heap.size, 0, none⟩ = some (.slice (some ⟨w.heap.size + 2, 0, none⟩) 1 1) ∧ w'.cell? ⟨w3.heap.size, 1, none⟩ = some (.slice none 0 0) ∧ w'.cell? ⟨w3.heap.size + 1, 0, none⟩ = some (.slice (some ⟨w1.heap.size + 2, 0, none⟩) 1 1) ∧ w'.cell? ⟨w3.heap.size + 1, 1, none⟩ = some (.slice none 0 0) ∧ w'.cell? ⟨w3.heap.size + 1 + 1, 0, none⟩ = some (.slice (some ⟨w2.heap.size + 2, 0, none⟩) 1 1) ∧ w'.cell? ⟨w3.heap.size + 1 + 1, 1, none⟩ = some (.slice none 0 0) ∧ w'.cell? ⟨w.heap.size + 2, 1, none⟩ = some (.slice (some ⟨w.heap.size + 1, 0, none⟩) 2 2) ∧ w'.cell? ⟨w.heap.size + 1, 0, none⟩ = some (.string ⟨#[97]⟩) ∧ w'.cell? ⟨w.heap.size + 1, 1, none⟩ = some (.string ⟨#[73, 110, 116]⟩) ∧ w'.cell? ⟨w.heap.size + 1, 2, none⟩ = some (.string ⟨#[33]⟩) ∧ w'.cell? ⟨w.heap.size + 1, 3, none⟩ = some (.bool true) ∧ w'.cell? ⟨w.heap.size + 1, 4, none⟩ = some (.string ⟨#[]⟩) ∧ w'.cell? ⟨w.heap.size + 1, 5, none⟩ = some (.string ⟨#[98]⟩) ∧ w'.cell? ⟨w.heap.size + 1, 6, none⟩ = some (.string ⟨#[84]⟩) ∧ w'.cell? ⟨w.heap.size + 1, 7, none⟩ = some (.string ⟨#[33, 91, 33]⟩) ∧ w'.cell? ⟨w.heap.size + 1, 8, none⟩ = some (.bool false) ∧ w'.cell? ⟨w.heap.size + 1, 9, none⟩ = some (.string ⟨#[98]⟩)) (first | exact L18.S | exact L17.S | exact L16.S | exact L15.S | exact L14.S | exact L13.S | exact L12.S | exact L11.S | exact L10.S | exact L9.S | exact L8.S | exact L7.S | exact L6.S | exact L5.S | exact L4.drew.S) ((first
      | (go_at_call 20; (with_reducible refine (C13 L17).mono ?_); rintro e w18 ⟨rfl, b18⟩; have L18 := L17.on b18; clear b18)
      | (go_at_call 20; (with_reducible refine (C12 L16).mono ?_); rintro e w17 ⟨rfl, b17⟩; have L17 := L16.on b17; clear b17)
      | (go_at_call 20; (with_reducible refine (C11 L15).mono ?_); rintro e w16 ⟨rfl, b16⟩; have L16 := L15.on b16; clear b16)
      | (go_at_call 18; (with_reducible refine (C10 L14).mono ?_); rintro e w15 ⟨rfl, b15⟩; have L15 := L14.on b15; clear b15)
      | (go_at_call 18; (with_reducible refine (C9 L13).mono ?_); rintro e w14 ⟨rfl, b14⟩; have L14 := L13.on b14; clear b14)
      | (go_at_call 16; (with_reducible refine (C8 w12).mono ?_); rintro e w13 ⟨rfl, hw13⟩; have L13 : FxL w w3 w1.heap.size w2.heap.size w13 := (by rw [hw13]; exact L12); clear hw13)
      | (go_at_call 16; (with_reducible refine (C7 w11).mono ?_); rintro e w12 ⟨rfl, hw12⟩; have L12 : FxL w w3 w1.heap.size w2.heap.size w12 := (by rw [hw12]; exact L11); clear hw12)
      | (go_at_call 14; (with_reducible refine (C6 L10).mono ?_); rintro e w11 ⟨rfl, b11⟩; have L11 := L10.on b11; clear b11)
      | (go_at_call 12; (with_reducible refine (C5 L9).mono ?_); rintro e w10 ⟨rfl, b10⟩; have L10 := L9.on b10; clear b10)
      | (go_at_call 12; (with_reducible refine (C4 L8).mono ?_); rintro e w9 ⟨rfl, b9⟩; have L9 := L8.on b9; clear b9)
      | (go_at_call 10; (with_reducible refine (C3 L7).mono ?_); rintro e w8 ⟨rfl, b8⟩; have L8 := L7.on b8; clear b8)
      | (go_at_call 10; (with_reducible refine (C2 L6).mono ?_); rintro e w7 ⟨rfl, b7⟩; have L7 := L6.on b7; clear b7)
      | (go_at_call 10; (with_reducible refine (C1 L5).mono ?_); rintro e w6 ⟨rfl, b6⟩; have L6 := L5.on b6; clear b6)
      | (go_at_call 10; (with_reducible refine (C0 L4.drew).mono ?_); rintro e w5 ⟨rfl, b5⟩; have L5 := (L4.drew).on b5; clear b5)
      | fail))
  go_wp2
  go_ret
  exact ⟨rfl, L18.b⟩
end Go.Proofs.YtfkgmgnoijokdaaGreatDoor
