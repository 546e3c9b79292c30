/- The document's own one: strings. -/
import Derived.Test.YtebojfipdcicaaaGreatDoorXrP
import Derived.Test.YtebojfipdcicaaaGreatDoorLxV6
namespace Go.Proofs.YtebojfipdcicaaaGreatDoor
open Go Go.RowKit
attribute [local irreducible] srcB

/-- The two tokens' blocks, behind a call. -/
structure Two (w w3 : World) (k p e : Int) : Prop where
  bel : Below w.heap.size w w3
  r0 : w3.heap[w.heap.size]? = some (.cells #[.int .i64 0, .string ⟨#[]⟩, .int .i64 0, .int .i64 0] 28 (0, 0))
  r1 : w3.heap[w.heap.size + 1]? = some (.cells #[.int .i64 k, .string ⟨#[]⟩, .int .i64 p, .int .i64 e] 28 (0, 0))
theorem two_of {w w3 : World} {k p e : Int} (h : Below ((w.alloc (tkO 0 ⟨#[]⟩ 0 0)).alloc (tkO k ⟨#[]⟩ p e)).heap.size ((w.alloc (tkO 0 ⟨#[]⟩ 0 0)).alloc (tkO k ⟨#[]⟩ p e)) w3) : Two w w3 k p e := by
  have hb : Below w.heap.size w ((w.alloc (tkO 0 ⟨#[]⟩ 0 0)).alloc (tkO k ⟨#[]⟩ p e)) := ((Below.refl _ _).alloc (Nat.le_refl _) _).alloc (by simp) _
  refine ⟨hb.trans (h.mono (by simp; omega)), ?_, ?_⟩
  · rw [h.block _ (by simp; omega), Below.heap_alloc _ _ _ (by simp)]
    exact heap_alloc_new w _
  · rw [h.block _ (by simp)]
    have := heap_alloc_new (w.alloc (tkO 0 ⟨#[]⟩ 0 0)) (tkO k ⟨#[]⟩ p e)
    rw [World.size_alloc] at this
    exact this
theorem Two.c0 {w w3 : World} {k p e : Int} (h : Two w w3 k p e) (i : Nat) : w3.cell? ⟨w.heap.size, i, none⟩ = (#[Value.int .i64 0, .string ⟨#[]⟩, .int .i64 0, .int .i64 0] : Array Value)[i]? := by simp [World.cell?, h.r0]
theorem Two.c1 {w w3 : World} {k p e : Int} (h : Two w w3 k p e) (i : Nat) : w3.cell? ⟨w.heap.size + 1, i, none⟩ = (#[Value.int .i64 k, .string ⟨#[]⟩, .int .i64 p, .int .i64 e] : Array Value)[i]? := by simp [World.cell?, h.r1]
theorem Two.f0 {w w3 : World} {k p e : Int} (h : Two w w3 k p e) (i : Nat) : w3.frozen? ⟨w.heap.size, i, none⟩ = false := frozen_of_row w3 _ i _ _ h.r0
theorem Two.f1 {w w3 : World} {k p e : Int} (h : Two w w3 k p e) (i : Nat) : w3.frozen? ⟨w.heap.size + 1, i, none⟩ = false := frozen_of_row w3 _ i _ _ h.r1

theorem Two.next {w w3 w4 : World} {k p e : Int} (h : Two w w3 k p e) (h4 : Below w3.heap.size w3 w4) : Two w w4 k p e := by
  have s0 : w.heap.size < w3.heap.size := (Array.getElem?_eq_some_iff.1 h.r0).1
  have s1 : w.heap.size + 1 < w3.heap.size := (Array.getElem?_eq_some_iff.1 h.r1).1
  exact ⟨h.bel.trans (h4.mono (by omega)), (h4.block _ s0).trans h.r0, (h4.block _ s1).trans h.r1⟩

/-- The result's block holds the token. -/
structure Out (w w5 : World) (c0 c1 c2 c3 : Value) : Prop where
  bel : Below w.heap.size w w5
  row : w5.heap[w.heap.size]? = some (.cells #[c0, c1, c2, c3] 28 (0, 0))
theorem Out.c {w w5 : World} {c0 c1 c2 c3 : Value} (h : Out w w5 c0 c1 c2 c3) (i : Nat) : w5.cell? ⟨w.heap.size, i, none⟩ = (#[c0, c1, c2, c3] : Array Value)[i]? := by simp [World.cell?, h.row]
theorem Two.out {w w3 : World} {k p e : Int} (h : Two w w3 k p e) (a b c0 c1 c2 c3 : Value) : Out w ((((((w3.setCell ⟨w.heap.size + 1, 1, none⟩ a).setCell ⟨w.heap.size + 1, 3, none⟩ b).setCell ⟨w.heap.size, 0, none⟩ c0).setCell ⟨w.heap.size, 1, none⟩ c1).setCell ⟨w.heap.size, 2, none⟩ c2).setCell ⟨w.heap.size, 3, none⟩ c3) c0 c1 c2 c3 := by
  refine ⟨((((((h.bel.setCell (by simp) _).setCell (by simp) _).setCell (by simp) _).setCell (by simp) _).setCell (by simp) _).setCell (by simp) _), ?_⟩
  simp [World.setCell, Array.getElem?_modify, h.r0]
theorem out_gen {P : Program} {F : _} {Q : Ending → World → Prop} {x : Exit} {A : Act} {w w5 : World} {c0 c1 c2 c3 : Value} (z : Out w w5 c0 c1 c2 c3) (h : ∀ w6, Out w w6 c0 c1 c2 c3 → bodyPost P F Q x A w6) : bodyPost P F Q x A w5 := h _ z

set_option maxRecDepth 100000 in
set_option maxHeartbeats 2000000 in
theorem one_text (s : Bs) (p : Nat) (r : Bs) (hl : s.drop p = 34 :: r) (hs : s.length ≤ 16384) (hq : List.isPrefixOf [34, 34, 34] (s.drop p) = false) (t : Bs) (e : Nat) (hxl : xl s (p + 1) = some (t, e)) (w : World) :
    Calls Tryz.prog 20 #[.string ⟨s.toArray⟩, .int .i64 (p : Int)] w fun e' w' => e' = .returned (.tuple #[tokV 4 t p e, .int .i64 0]) ∧ Below w.heap.size w w' := by
  have hb := bt_drop s p 34 r hl
  have hlen := congrArg List.length hl
  rw [List.length_drop, List.length_cons] at hlen
  have hp : p < s.length := by omega
  have hpI : (p : Int) < (s.length : Int) := by omega
  have hD : (ByteArray.mk s.toArray).size = s.length := rfl
  have ix := ix_of s p
  rw [hb] at ix
  have Lt := fun w : World => xletter_any 34 w
  have Dg := fun w : World => xdigit_any 34 w
  rw [show letL.contains 34 = false from rfl] at Lt
  rw [show digL.contains 34 = false from rfl] at Dg
  have BB : ∀ w : World, Calls Tryz.prog 37 #[.string ⟨s.toArray⟩, .int .i64 (p : Int), .string ⟨#[34, 34, 34]⟩] w fun e w' => e = .returned (.bool false) ∧ w = w' := fun w => by
    have := begins_any s p (by omega) hs [34, 34, 34] (by decide) w
    rw [hq] at this
    exact this.mono fun _ _ h => ⟨h.1, h.2.symm⟩
  have X : ∀ w, Calls Tryz.prog 44 #[.string ⟨s.toArray⟩, .int .i64 (p : Int)] w fun e' w' => e' = .returned (.tuple #[.string ⟨t.toArray⟩, .int .i64 (e : Int), .bool true]) ∧ Below w.heap.size w w' := fun w =>
    xtext_any (fun e' => e' = .returned (.tuple #[.string ⟨t.toArray⟩, .int .i64 (e : Int), .bool true])) s p hp hs (fun t' e' h => by rw [hxl] at h; cases h; rfl) (fun h => by rw [hxl] at h; cases h) w
  clear hb hl hlen hq hxl
  generalize (ByteArray.mk s.toArray) = D at *
  generalize hTB : (ByteArray.mk t.toArray) = TB at *
  go_enter Tryz.func20, Tryz.ntmps20
  go_wp2_with (first
    | (go_at_call 44; (with_reducible refine (X _).mono ?_); rintro e' w3 ⟨rfl, hb3⟩; have h2 := two_of hb3; have k0 := h2.c1 0; have k1 := h2.c1 1; have k2 := h2.c1 2; have k3 := h2.c1 3; have g0 := h2.f1 0; have g1 := h2.f1 1; have g2 := h2.f1 2; have g3 := h2.f1 3; have j0 := h2.f0 0; have j1 := h2.f0 1; have j2 := h2.f0 2; have j3 := h2.f0 3; have m0 := h2.c0 0; have m1 := h2.c0 1; have m2 := h2.c0 2; have m3 := h2.c0 3)
    | (go_at_call 37; (with_reducible refine (BB _).mono ?_); rintro e w0 ⟨rfl, rfl⟩)
    | (go_at_call 41; refine (Dg _).mono ?_; rintro e w0 ⟨rfl, hw⟩; subst hw)
    | (go_at_call 39; refine (Lt _).mono ?_; rintro e w0 ⟨rfl, hw⟩; subst hw)
    | fail)
  refine out_gen (h2.out _ _ _ _ _ _) ?_
  intro w6 z
  have z0 := z.c 0
  have z1 := z.c 1
  have z2 := z.c 2
  have z3 := z.c 3
  exact bodyPost_ret (by simp [results, Tryz.results20, go_sem, z0, z1, z2, z3, hTB]) rfl ⟨rfl, z.bel⟩

set_option maxRecDepth 100000 in
set_option maxHeartbeats 2000000 in
theorem one_text_no (s : Bs) (p : Nat) (r : Bs) (hl : s.drop p = 34 :: r) (hs : s.length ≤ 16384) (hq : List.isPrefixOf [34, 34, 34] (s.drop p) = false) (hxl : xl s (p + 1) = none) (w : World) :
    Calls Tryz.prog 20 #[.string ⟨s.toArray⟩, .int .i64 (p : Int)] w fun e' w' => e' = .returned (.tuple #[tokV 0 [] 0 0, .int .i64 52]) ∧ Below w.heap.size w w' := by
  have hb := bt_drop s p 34 r hl
  have hlen := congrArg List.length hl
  rw [List.length_drop, List.length_cons] at hlen
  have hp : p < s.length := by omega
  have hpI : (p : Int) < (s.length : Int) := by omega
  have hD : (ByteArray.mk s.toArray).size = s.length := rfl
  have ix := ix_of s p
  rw [hb] at ix
  have Lt := fun w : World => xletter_any 34 w
  have Dg := fun w : World => xdigit_any 34 w
  rw [show letL.contains 34 = false from rfl] at Lt
  rw [show digL.contains 34 = false from rfl] at Dg
  have BB : ∀ w : World, Calls Tryz.prog 37 #[.string ⟨s.toArray⟩, .int .i64 (p : Int), .string ⟨#[34, 34, 34]⟩] w fun e w' => e = .returned (.bool false) ∧ w = w' := fun w => by
    have := begins_any s p (by omega) hs [34, 34, 34] (by decide) w
    rw [hq] at this
    exact this.mono fun _ _ h => ⟨h.1, h.2.symm⟩
  have X : ∀ w, Calls Tryz.prog 44 #[.string ⟨s.toArray⟩, .int .i64 (p : Int)] w fun e' w' => (∃ a b, e' = .returned (.tuple #[.string a, .int .i64 b, .bool false])) ∧ Below w.heap.size w w' := fun w =>
    xtext_any (fun e' => ∃ a b, e' = .returned (.tuple #[.string a, .int .i64 b, .bool false])) s p hp hs (fun t' e' h => by rw [hxl] at h; cases h) (fun _ a b => ⟨a, b, rfl⟩) w
  clear hb hl hlen hq hxl
  generalize (ByteArray.mk s.toArray) = D at *
  go_enter Tryz.func20, Tryz.ntmps20
  go_wp2_with (first
    | (go_at_call 44; (with_reducible refine (X _).mono ?_); rintro e' w3 ⟨⟨ta, tb, rfl⟩, hb3⟩; have h2 := two_of hb3; have k0 := h2.c1 0; have k1 := h2.c1 1; have k2 := h2.c1 2; have k3 := h2.c1 3; have g0 := h2.f1 0; have g1 := h2.f1 1; have g2 := h2.f1 2; have g3 := h2.f1 3; have j0 := h2.f0 0; have j1 := h2.f0 1; have j2 := h2.f0 2; have j3 := h2.f0 3; have m0 := h2.c0 0; have m1 := h2.c0 1; have m2 := h2.c0 2; have m3 := h2.c0 3)
    | (go_at_call 37; (with_reducible refine (BB _).mono ?_); rintro e w0 ⟨rfl, rfl⟩)
    | (go_at_call 41; refine (Dg _).mono ?_; rintro e w0 ⟨rfl, hw⟩; subst hw)
    | (go_at_call 39; refine (Lt _).mono ?_; rintro e w0 ⟨rfl, hw⟩; subst hw)
    | fail)
  refine out_gen (h2.out _ _ _ _ _ _) ?_
  intro w6 z
  have z0 := z.c 0
  have z1 := z.c 1
  have z2 := z.c 2
  have z3 := z.c 3
  exact bodyPost_ret (by simp [results, Tryz.results20, go_sem, z0, z1, z2, z3]) rfl ⟨rfl, z.bel⟩

set_option maxRecDepth 100000 in
set_option maxHeartbeats 2000000 in
theorem one_block (s : Bs) (p : Nat) (r : Bs) (hl : s.drop p = 34 :: r) (hs : s.length ≤ 16384) (hq : List.isPrefixOf [34, 34, 34] (s.drop p) = true) (t : Bs) (e : Nat) (hxl : xr s (p + 3) = some (t, e)) (ht : t.length ≤ 16384) (w : World) :
    Calls Tryz.prog 20 #[.string ⟨s.toArray⟩, .int .i64 (p : Int)] w fun e' w' => e' = .returned (.tuple #[tokV 4 (blockS t) p e, .int .i64 0]) ∧ Below w.heap.size w w' := by
  have hb := bt_drop s p 34 r hl
  have hlen := congrArg List.length hl
  rw [List.length_drop, List.length_cons] at hlen
  have hp : p < s.length := by omega
  have hpI : (p : Int) < (s.length : Int) := by omega
  have hD : (ByteArray.mk s.toArray).size = s.length := rfl
  have ix := ix_of s p
  rw [hb] at ix
  have Lt := fun w : World => xletter_any 34 w
  have Dg := fun w : World => xdigit_any 34 w
  rw [show letL.contains 34 = false from rfl] at Lt
  rw [show digL.contains 34 = false from rfl] at Dg
  have BB : ∀ w : World, Calls Tryz.prog 37 #[.string ⟨s.toArray⟩, .int .i64 (p : Int), .string ⟨#[34, 34, 34]⟩] w fun e w' => e = .returned (.bool true) ∧ w = w' := fun w => by
    have := begins_any s p (by omega) hs [34, 34, 34] (by decide) w
    rw [hq] at this
    exact this.mono fun _ _ h => ⟨h.1, h.2.symm⟩
  have hp3 : p + 3 ≤ s.length := by have := (List.isPrefixOf_iff_prefix.1 hq).length_le; simp only [List.length_cons, List.length_nil, List.length_drop] at this; omega
  have X : ∀ w, Calls Tryz.prog 43 #[.string ⟨s.toArray⟩, .int .i64 (p : Int)] w fun e' w' => e' = .returned (.tuple #[.string ⟨t.toArray⟩, .int .i64 (e : Int), .bool true]) ∧ Below w.heap.size w w' := fun w =>
    xraw_any (fun e' => e' = .returned (.tuple #[.string ⟨t.toArray⟩, .int .i64 (e : Int), .bool true])) s p hp3 hs (fun t' e' h => by rw [hxl] at h; cases h; rfl) (fun h => by rw [hxl] at h; cases h) w
  have Y := fun w : World => xblock_any t (by omega) w
  clear hb hl hlen hq hxl
  generalize (ByteArray.mk s.toArray) = D at *
  generalize (ByteArray.mk t.toArray) = TB at *
  go_enter Tryz.func20, Tryz.ntmps20
  go_wp2_with (first
    | (go_at_call 43; (with_reducible refine (X _).mono ?_); rintro e' w3 ⟨rfl, hb3⟩; have h1 := two_of hb3)
    | (go_at_call 14; (with_reducible refine (Y _).mono ?_); rintro e' w4 ⟨rfl, hb4⟩; have h2 := h1.next hb4; have k0 := h2.c1 0; have k1 := h2.c1 1; have k2 := h2.c1 2; have k3 := h2.c1 3; have g0 := h2.f1 0; have g1 := h2.f1 1; have g2 := h2.f1 2; have g3 := h2.f1 3; have j0 := h2.f0 0; have j1 := h2.f0 1; have j2 := h2.f0 2; have j3 := h2.f0 3; have m0 := h2.c0 0; have m1 := h2.c0 1; have m2 := h2.c0 2; have m3 := h2.c0 3)
    | (go_at_call 37; (with_reducible refine (BB _).mono ?_); rintro e w0 ⟨rfl, rfl⟩)
    | (go_at_call 41; refine (Dg _).mono ?_; rintro e w0 ⟨rfl, hw⟩; subst hw)
    | (go_at_call 39; refine (Lt _).mono ?_; rintro e w0 ⟨rfl, hw⟩; subst hw)
    | fail)
  refine out_gen (h2.out _ _ _ _ _ _) ?_
  intro w6 z
  have z0 := z.c 0
  have z1 := z.c 1
  have z2 := z.c 2
  have z3 := z.c 3
  exact bodyPost_ret (by simp [results, Tryz.results20, go_sem, z0, z1, z2, z3]) rfl ⟨rfl, z.bel⟩

set_option maxRecDepth 100000 in
set_option maxHeartbeats 2000000 in
theorem one_block_no (s : Bs) (p : Nat) (r : Bs) (hl : s.drop p = 34 :: r) (hs : s.length ≤ 16384) (hq : List.isPrefixOf [34, 34, 34] (s.drop p) = true) (hxl : xr s (p + 3) = none) (w : World) :
    Calls Tryz.prog 20 #[.string ⟨s.toArray⟩, .int .i64 (p : Int)] w fun e' w' => e' = .returned (.tuple #[tokV 0 [] 0 0, .int .i64 52]) ∧ Below w.heap.size w w' := by
  have hb := bt_drop s p 34 r hl
  have hlen := congrArg List.length hl
  rw [List.length_drop, List.length_cons] at hlen
  have hp : p < s.length := by omega
  have hpI : (p : Int) < (s.length : Int) := by omega
  have hD : (ByteArray.mk s.toArray).size = s.length := rfl
  have ix := ix_of s p
  rw [hb] at ix
  have Lt := fun w : World => xletter_any 34 w
  have Dg := fun w : World => xdigit_any 34 w
  rw [show letL.contains 34 = false from rfl] at Lt
  rw [show digL.contains 34 = false from rfl] at Dg
  have BB : ∀ w : World, Calls Tryz.prog 37 #[.string ⟨s.toArray⟩, .int .i64 (p : Int), .string ⟨#[34, 34, 34]⟩] w fun e w' => e = .returned (.bool true) ∧ w = w' := fun w => by
    have := begins_any s p (by omega) hs [34, 34, 34] (by decide) w
    rw [hq] at this
    exact this.mono fun _ _ h => ⟨h.1, h.2.symm⟩
  have hp3 : p + 3 ≤ s.length := by have := (List.isPrefixOf_iff_prefix.1 hq).length_le; simp only [List.length_cons, List.length_nil, List.length_drop] at this; omega
  have X : ∀ w, Calls Tryz.prog 43 #[.string ⟨s.toArray⟩, .int .i64 (p : Int)] w fun e' w' => (∃ b, e' = .returned (.tuple #[.string ⟨#[]⟩, .int .i64 b, .bool false])) ∧ Below w.heap.size w w' := fun w =>
    xraw_any (fun e' => ∃ b, e' = .returned (.tuple #[.string ⟨#[]⟩, .int .i64 b, .bool false])) s p hp3 hs (fun t' e' h => by rw [hxl] at h; cases h) (fun _ b => ⟨b, rfl⟩) w
  have Y := fun w : World => xblock_any [] (by simp) w
  clear hb hl hlen hq hxl
  generalize (ByteArray.mk s.toArray) = D at *
  go_enter Tryz.func20, Tryz.ntmps20
  go_wp2_with (first
    | (go_at_call 43; (with_reducible refine (X _).mono ?_); rintro e' w3 ⟨⟨tb, rfl⟩, hb3⟩; have h1 := two_of hb3)
    | (go_at_call 14; (with_reducible refine (Y _).mono ?_); rintro e' w4 ⟨rfl, hb4⟩; have h2 := h1.next hb4; have k0 := h2.c1 0; have k1 := h2.c1 1; have k2 := h2.c1 2; have k3 := h2.c1 3; have g0 := h2.f1 0; have g1 := h2.f1 1; have g2 := h2.f1 2; have g3 := h2.f1 3; have j0 := h2.f0 0; have j1 := h2.f0 1; have j2 := h2.f0 2; have j3 := h2.f0 3; have m0 := h2.c0 0; have m1 := h2.c0 1; have m2 := h2.c0 2; have m3 := h2.c0 3)
    | (go_at_call 37; (with_reducible refine (BB _).mono ?_); rintro e w0 ⟨rfl, rfl⟩)
    | (go_at_call 41; refine (Dg _).mono ?_; rintro e w0 ⟨rfl, hw⟩; subst hw)
    | (go_at_call 39; refine (Lt _).mono ?_; rintro e w0 ⟨rfl, hw⟩; subst hw)
    | fail)
  refine out_gen (h2.out _ _ _ _ _ _) ?_
  intro w6 z
  have z0 := z.c 0
  have z1 := z.c 1
  have z2 := z.c 2
  have z3 := z.c 3
  exact bodyPost_ret (by simp [results, Tryz.results20, go_sem, z0, z1, z2, z3]) rfl ⟨rfl, z.bel⟩

end Go.Proofs.YtebojfipdcicaaaGreatDoor
