/- The document's own one against tokS. -/
import Derived.Test.YthficamlgngaaaaGreatDoorXrP
import Derived.Test.YthficamlgngaaaaGreatDoorLxV6
namespace Go.Proofs.YthficamlgngaaaaGreatDoor
open Go Go.RowKit
attribute [local irreducible] srcB

/-- The two tokens' blocks, behind a call. -/
structure Two (w w3 : World) (k p e : Int) : Prop where
  bel : Below w.heap.size w w3
  r0 : w3.heap[w.heap.size]? = some (.cells #[.int .i64 0, .string ⟨#[]⟩, .int .i64 0, .int .i64 0] 40 (0, 0))
  r1 : w3.heap[w.heap.size + 1]? = some (.cells #[.int .i64 k, .string ⟨#[]⟩, .int .i64 p, .int .i64 e] 40 (0, 0))
theorem two_of {w w3 : World} {k p e : Int} (h : Below ((w.alloc (tkO 0 ⟨#[]⟩ 0 0)).alloc (tkO k ⟨#[]⟩ p e)).heap.size ((w.alloc (tkO 0 ⟨#[]⟩ 0 0)).alloc (tkO k ⟨#[]⟩ p e)) w3) : Two w w3 k p e := by
  have hb : Below w.heap.size w ((w.alloc (tkO 0 ⟨#[]⟩ 0 0)).alloc (tkO k ⟨#[]⟩ p e)) := ((Below.refl _ _).alloc (Nat.le_refl _) _).alloc (by simp) _
  refine ⟨hb.trans (h.mono (by simp; omega)), ?_, ?_⟩
  · rw [h.block _ (by simp; omega), Below.heap_alloc _ _ _ (by simp)]
    exact heap_alloc_new w _
  · rw [h.block _ (by simp)]
    have := heap_alloc_new (w.alloc (tkO 0 ⟨#[]⟩ 0 0)) (tkO k ⟨#[]⟩ p e)
    rw [World.size_alloc] at this
    exact this
theorem Two.c0 {w w3 : World} {k p e : Int} (h : Two w w3 k p e) (i : Nat) : w3.cell? ⟨w.heap.size, i, none⟩ = (#[Value.int .i64 0, .string ⟨#[]⟩, .int .i64 0, .int .i64 0] : Array Value)[i]? := by simp [World.cell?, h.r0]
theorem Two.c1 {w w3 : World} {k p e : Int} (h : Two w w3 k p e) (i : Nat) : w3.cell? ⟨w.heap.size + 1, i, none⟩ = (#[Value.int .i64 k, .string ⟨#[]⟩, .int .i64 p, .int .i64 e] : Array Value)[i]? := by simp [World.cell?, h.r1]
theorem Two.f0 {w w3 : World} {k p e : Int} (h : Two w w3 k p e) (i : Nat) : w3.frozen? ⟨w.heap.size, i, none⟩ = false := frozen_of_row w3 _ i _ _ h.r0
theorem Two.f1 {w w3 : World} {k p e : Int} (h : Two w w3 k p e) (i : Nat) : w3.frozen? ⟨w.heap.size + 1, i, none⟩ = false := frozen_of_row w3 _ i _ _ h.r1

theorem Two.next {w w3 w4 : World} {k p e : Int} (h : Two w w3 k p e) (h4 : Below w3.heap.size w3 w4) : Two w w4 k p e := by
  have s0 : w.heap.size < w3.heap.size := (Array.getElem?_eq_some_iff.1 h.r0).1
  have s1 : w.heap.size + 1 < w3.heap.size := (Array.getElem?_eq_some_iff.1 h.r1).1
  exact ⟨h.bel.trans (h4.mono (by omega)), (h4.block _ s0).trans h.r0, (h4.block _ s1).trans h.r1⟩

/-- The result's block holds the token. -/
structure OutX (w w5 : World) (c0 c1 c2 c3 : Value) : Prop where
  bel : Below w.heap.size w w5
  row : w5.heap[w.heap.size]? = some (.cells #[c0, c1, c2, c3] 40 (0, 0))
theorem OutX.c {w w5 : World} {c0 c1 c2 c3 : Value} (h : OutX w w5 c0 c1 c2 c3) (i : Nat) : w5.cell? ⟨w.heap.size, i, none⟩ = (#[c0, c1, c2, c3] : Array Value)[i]? := by simp [World.cell?, h.row]
theorem Two.out {w w3 : World} {k p e : Int} (h : Two w w3 k p e) (a b c0 c1 c2 c3 : Value) : OutX w ((((((w3.setCell ⟨w.heap.size + 1, 1, none⟩ a).setCell ⟨w.heap.size + 1, 3, none⟩ b).setCell ⟨w.heap.size, 0, none⟩ c0).setCell ⟨w.heap.size, 1, none⟩ c1).setCell ⟨w.heap.size, 2, none⟩ c2).setCell ⟨w.heap.size, 3, none⟩ c3) c0 c1 c2 c3 := by
  refine ⟨((((((h.bel.setCell (by simp) _).setCell (by simp) _).setCell (by simp) _).setCell (by simp) _).setCell (by simp) _).setCell (by simp) _), ?_⟩
  simp [World.setCell, Array.getElem?_modify, h.r0]
theorem out_gen {P : Program} {F : _} {Q : Ending → World → Prop} {x : Exit} {A : Act} {w w5 : World} {c0 c1 c2 c3 : Value} (z : OutX w w5 c0 c1 c2 c3) (h : ∀ w6, OutX w w6 c0 c1 c2 c3 → bodyPost P F Q x A w6) : bodyPost P F Q x A w5 := h _ z

set_option maxRecDepth 100000 in
set_option maxHeartbeats 2000000 in
theorem one_text (s : Bs) (p : Nat) (r : Bs) (hl : s.drop p = 34 :: r) (hs : s.length ≤ 16384) (hq : List.isPrefixOf [34, 34, 34] (s.drop p) = false) (t : Bs) (e : Nat) (hxl : xl s (p + 1) = some (t, e)) (w : World) :
    Calls Tryz.prog 39 #[.string ⟨s.toArray⟩, .int .i64 (p : Int)] w fun e' w' => e' = .returned (.tuple #[tokV 4 t p e, .int .i64 0]) ∧ Below w.heap.size w w' := by
  have hb := bt_drop s p 34 r hl
  have hlen := congrArg List.length hl
  rw [List.length_drop, List.length_cons] at hlen
  have hp : p < s.length := by omega
  have hpI : (p : Int) < (s.length : Int) := by omega
  have hD : (ByteArray.mk s.toArray).size = s.length := rfl
  have ix := ix_of s p
  rw [hb] at ix
  have Lt := fun w : World => xletter_any 34 w
  have Dg := fun w : World => xdigit_any 34 w
  rw [show letL.contains 34 = false from rfl] at Lt
  rw [show digL.contains 34 = false from rfl] at Dg
  have BB : ∀ w : World, Calls Tryz.prog 63 #[.string ⟨s.toArray⟩, .int .i64 (p : Int), .string ⟨#[34, 34, 34]⟩] w fun e w' => e = .returned (.bool false) ∧ w = w' := fun w => by
    have := begins_any s p (by omega) hs [34, 34, 34] (by decide) w
    rw [hq] at this
    exact this.mono fun _ _ h => ⟨h.1, h.2.symm⟩
  have X : ∀ w, Calls Tryz.prog 71 #[.string ⟨s.toArray⟩, .int .i64 (p : Int)] w fun e' w' => e' = .returned (.tuple #[.string ⟨t.toArray⟩, .int .i64 (e : Int), .bool true]) ∧ Below w.heap.size w w' := fun w =>
    xtext_any (fun e' => e' = .returned (.tuple #[.string ⟨t.toArray⟩, .int .i64 (e : Int), .bool true])) s p hp hs (fun t' e' h => by rw [hxl] at h; cases h; rfl) (fun h => by rw [hxl] at h; cases h) w
  clear hb hl hlen hq hxl
  generalize (ByteArray.mk s.toArray) = D at *
  generalize hTB : (ByteArray.mk t.toArray) = TB at *
  go_enter Tryz.func39, Tryz.ntmps39
  go_wp2_with (first
    | (go_at_call 71; (with_reducible refine (X _).mono ?_); rintro e' w3 ⟨rfl, hb3⟩; have h2 := two_of hb3; have k0 := h2.c1 0; have k1 := h2.c1 1; have k2 := h2.c1 2; have k3 := h2.c1 3; have g0 := h2.f1 0; have g1 := h2.f1 1; have g2 := h2.f1 2; have g3 := h2.f1 3; have j0 := h2.f0 0; have j1 := h2.f0 1; have j2 := h2.f0 2; have j3 := h2.f0 3; have m0 := h2.c0 0; have m1 := h2.c0 1; have m2 := h2.c0 2; have m3 := h2.c0 3)
    | (go_at_call 63; (with_reducible refine (BB _).mono ?_); rintro e w0 ⟨rfl, rfl⟩)
    | (go_at_call 67; refine (Dg _).mono ?_; rintro e w0 ⟨rfl, hw⟩; subst hw)
    | (go_at_call 65; refine (Lt _).mono ?_; rintro e w0 ⟨rfl, hw⟩; subst hw)
    | fail)
  refine out_gen (h2.out _ _ _ _ _ _) ?_
  intro w6 z
  have z0 := z.c 0
  have z1 := z.c 1
  have z2 := z.c 2
  have z3 := z.c 3
  exact bodyPost_ret (by simp [results, Tryz.results39, go_sem, z0, z1, z2, z3, hTB]) rfl ⟨rfl, z.bel⟩

set_option maxRecDepth 100000 in
set_option maxHeartbeats 2000000 in
theorem one_text_no (s : Bs) (p : Nat) (r : Bs) (hl : s.drop p = 34 :: r) (hs : s.length ≤ 16384) (hq : List.isPrefixOf [34, 34, 34] (s.drop p) = false) (hxl : xl s (p + 1) = none) (w : World) :
    Calls Tryz.prog 39 #[.string ⟨s.toArray⟩, .int .i64 (p : Int)] w fun e' w' => e' = .returned (.tuple #[tokV 0 [] 0 0, .int .i64 52]) ∧ Below w.heap.size w w' := by
  have hb := bt_drop s p 34 r hl
  have hlen := congrArg List.length hl
  rw [List.length_drop, List.length_cons] at hlen
  have hp : p < s.length := by omega
  have hpI : (p : Int) < (s.length : Int) := by omega
  have hD : (ByteArray.mk s.toArray).size = s.length := rfl
  have ix := ix_of s p
  rw [hb] at ix
  have Lt := fun w : World => xletter_any 34 w
  have Dg := fun w : World => xdigit_any 34 w
  rw [show letL.contains 34 = false from rfl] at Lt
  rw [show digL.contains 34 = false from rfl] at Dg
  have BB : ∀ w : World, Calls Tryz.prog 63 #[.string ⟨s.toArray⟩, .int .i64 (p : Int), .string ⟨#[34, 34, 34]⟩] w fun e w' => e = .returned (.bool false) ∧ w = w' := fun w => by
    have := begins_any s p (by omega) hs [34, 34, 34] (by decide) w
    rw [hq] at this
    exact this.mono fun _ _ h => ⟨h.1, h.2.symm⟩
  have X : ∀ w, Calls Tryz.prog 71 #[.string ⟨s.toArray⟩, .int .i64 (p : Int)] w fun e' w' => (∃ a b, e' = .returned (.tuple #[.string a, .int .i64 b, .bool false])) ∧ Below w.heap.size w w' := fun w =>
    xtext_any (fun e' => ∃ a b, e' = .returned (.tuple #[.string a, .int .i64 b, .bool false])) s p hp hs (fun t' e' h => by rw [hxl] at h; cases h) (fun _ a b => ⟨a, b, rfl⟩) w
  clear hb hl hlen hq hxl
  generalize (ByteArray.mk s.toArray) = D at *
  go_enter Tryz.func39, Tryz.ntmps39
  go_wp2_with (first
    | (go_at_call 71; (with_reducible refine (X _).mono ?_); rintro e' w3 ⟨⟨ta, tb, rfl⟩, hb3⟩; have h2 := two_of hb3; have k0 := h2.c1 0; have k1 := h2.c1 1; have k2 := h2.c1 2; have k3 := h2.c1 3; have g0 := h2.f1 0; have g1 := h2.f1 1; have g2 := h2.f1 2; have g3 := h2.f1 3; have j0 := h2.f0 0; have j1 := h2.f0 1; have j2 := h2.f0 2; have j3 := h2.f0 3; have m0 := h2.c0 0; have m1 := h2.c0 1; have m2 := h2.c0 2; have m3 := h2.c0 3)
    | (go_at_call 63; (with_reducible refine (BB _).mono ?_); rintro e w0 ⟨rfl, rfl⟩)
    | (go_at_call 67; refine (Dg _).mono ?_; rintro e w0 ⟨rfl, hw⟩; subst hw)
    | (go_at_call 65; refine (Lt _).mono ?_; rintro e w0 ⟨rfl, hw⟩; subst hw)
    | fail)
  refine out_gen (h2.out _ _ _ _ _ _) ?_
  intro w6 z
  have z0 := z.c 0
  have z1 := z.c 1
  have z2 := z.c 2
  have z3 := z.c 3
  exact bodyPost_ret (by simp [results, Tryz.results39, go_sem, z0, z1, z2, z3]) rfl ⟨rfl, z.bel⟩

set_option maxRecDepth 100000 in
set_option maxHeartbeats 2000000 in
theorem one_block (s : Bs) (p : Nat) (r : Bs) (hl : s.drop p = 34 :: r) (hs : s.length ≤ 16384) (hq : List.isPrefixOf [34, 34, 34] (s.drop p) = true) (t : Bs) (e : Nat) (hxl : xr s (p + 3) = some (t, e)) (ht : t.length ≤ 16384) (w : World) :
    Calls Tryz.prog 39 #[.string ⟨s.toArray⟩, .int .i64 (p : Int)] w fun e' w' => e' = .returned (.tuple #[tokV 4 (blockS t) p e, .int .i64 0]) ∧ Below w.heap.size w w' := by
  have hb := bt_drop s p 34 r hl
  have hlen := congrArg List.length hl
  rw [List.length_drop, List.length_cons] at hlen
  have hp : p < s.length := by omega
  have hpI : (p : Int) < (s.length : Int) := by omega
  have hD : (ByteArray.mk s.toArray).size = s.length := rfl
  have ix := ix_of s p
  rw [hb] at ix
  have Lt := fun w : World => xletter_any 34 w
  have Dg := fun w : World => xdigit_any 34 w
  rw [show letL.contains 34 = false from rfl] at Lt
  rw [show digL.contains 34 = false from rfl] at Dg
  have BB : ∀ w : World, Calls Tryz.prog 63 #[.string ⟨s.toArray⟩, .int .i64 (p : Int), .string ⟨#[34, 34, 34]⟩] w fun e w' => e = .returned (.bool true) ∧ w = w' := fun w => by
    have := begins_any s p (by omega) hs [34, 34, 34] (by decide) w
    rw [hq] at this
    exact this.mono fun _ _ h => ⟨h.1, h.2.symm⟩
  have hp3 : p + 3 ≤ s.length := by have := (List.isPrefixOf_iff_prefix.1 hq).length_le; simp only [List.length_cons, List.length_nil, List.length_drop] at this; omega
  have X : ∀ w, Calls Tryz.prog 69 #[.string ⟨s.toArray⟩, .int .i64 (p : Int)] w fun e' w' => e' = .returned (.tuple #[.string ⟨t.toArray⟩, .int .i64 (e : Int), .bool true]) ∧ Below w.heap.size w w' := fun w =>
    xraw_any (fun e' => e' = .returned (.tuple #[.string ⟨t.toArray⟩, .int .i64 (e : Int), .bool true])) s p hp3 hs (fun t' e' h => by rw [hxl] at h; cases h; rfl) (fun h => by rw [hxl] at h; cases h) w
  have Y := fun w : World => xblock_any t (by omega) w
  clear hb hl hlen hq hxl
  generalize (ByteArray.mk s.toArray) = D at *
  generalize (ByteArray.mk t.toArray) = TB at *
  go_enter Tryz.func39, Tryz.ntmps39
  go_wp2_with (first
    | (go_at_call 69; (with_reducible refine (X _).mono ?_); rintro e' w3 ⟨rfl, hb3⟩; have h1 := two_of hb3)
    | (go_at_call 70; (with_reducible refine (Y _).mono ?_); rintro e' w4 ⟨rfl, hb4⟩; have h2 := h1.next hb4; have k0 := h2.c1 0; have k1 := h2.c1 1; have k2 := h2.c1 2; have k3 := h2.c1 3; have g0 := h2.f1 0; have g1 := h2.f1 1; have g2 := h2.f1 2; have g3 := h2.f1 3; have j0 := h2.f0 0; have j1 := h2.f0 1; have j2 := h2.f0 2; have j3 := h2.f0 3; have m0 := h2.c0 0; have m1 := h2.c0 1; have m2 := h2.c0 2; have m3 := h2.c0 3)
    | (go_at_call 63; (with_reducible refine (BB _).mono ?_); rintro e w0 ⟨rfl, rfl⟩)
    | (go_at_call 67; refine (Dg _).mono ?_; rintro e w0 ⟨rfl, hw⟩; subst hw)
    | (go_at_call 65; refine (Lt _).mono ?_; rintro e w0 ⟨rfl, hw⟩; subst hw)
    | fail)
  refine out_gen (h2.out _ _ _ _ _ _) ?_
  intro w6 z
  have z0 := z.c 0
  have z1 := z.c 1
  have z2 := z.c 2
  have z3 := z.c 3
  exact bodyPost_ret (by simp [results, Tryz.results39, go_sem, z0, z1, z2, z3]) rfl ⟨rfl, z.bel⟩

set_option maxRecDepth 100000 in
set_option maxHeartbeats 2000000 in
theorem one_block_no (s : Bs) (p : Nat) (r : Bs) (hl : s.drop p = 34 :: r) (hs : s.length ≤ 16384) (hq : List.isPrefixOf [34, 34, 34] (s.drop p) = true) (hxl : xr s (p + 3) = none) (w : World) :
    Calls Tryz.prog 39 #[.string ⟨s.toArray⟩, .int .i64 (p : Int)] w fun e' w' => e' = .returned (.tuple #[tokV 0 [] 0 0, .int .i64 52]) ∧ Below w.heap.size w w' := by
  have hb := bt_drop s p 34 r hl
  have hlen := congrArg List.length hl
  rw [List.length_drop, List.length_cons] at hlen
  have hp : p < s.length := by omega
  have hpI : (p : Int) < (s.length : Int) := by omega
  have hD : (ByteArray.mk s.toArray).size = s.length := rfl
  have ix := ix_of s p
  rw [hb] at ix
  have Lt := fun w : World => xletter_any 34 w
  have Dg := fun w : World => xdigit_any 34 w
  rw [show letL.contains 34 = false from rfl] at Lt
  rw [show digL.contains 34 = false from rfl] at Dg
  have BB : ∀ w : World, Calls Tryz.prog 63 #[.string ⟨s.toArray⟩, .int .i64 (p : Int), .string ⟨#[34, 34, 34]⟩] w fun e w' => e = .returned (.bool true) ∧ w = w' := fun w => by
    have := begins_any s p (by omega) hs [34, 34, 34] (by decide) w
    rw [hq] at this
    exact this.mono fun _ _ h => ⟨h.1, h.2.symm⟩
  have hp3 : p + 3 ≤ s.length := by have := (List.isPrefixOf_iff_prefix.1 hq).length_le; simp only [List.length_cons, List.length_nil, List.length_drop] at this; omega
  have X : ∀ w, Calls Tryz.prog 69 #[.string ⟨s.toArray⟩, .int .i64 (p : Int)] w fun e' w' => (∃ b, e' = .returned (.tuple #[.string ⟨#[]⟩, .int .i64 b, .bool false])) ∧ Below w.heap.size w w' := fun w =>
    xraw_any (fun e' => ∃ b, e' = .returned (.tuple #[.string ⟨#[]⟩, .int .i64 b, .bool false])) s p hp3 hs (fun t' e' h => by rw [hxl] at h; cases h) (fun _ b => ⟨b, rfl⟩) w
  have Y := fun w : World => xblock_any [] (by simp) w
  clear hb hl hlen hq hxl
  generalize (ByteArray.mk s.toArray) = D at *
  go_enter Tryz.func39, Tryz.ntmps39
  go_wp2_with (first
    | (go_at_call 69; (with_reducible refine (X _).mono ?_); rintro e' w3 ⟨⟨tb, rfl⟩, hb3⟩; have h1 := two_of hb3)
    | (go_at_call 70; (with_reducible refine (Y _).mono ?_); rintro e' w4 ⟨rfl, hb4⟩; have h2 := h1.next hb4; have k0 := h2.c1 0; have k1 := h2.c1 1; have k2 := h2.c1 2; have k3 := h2.c1 3; have g0 := h2.f1 0; have g1 := h2.f1 1; have g2 := h2.f1 2; have g3 := h2.f1 3; have j0 := h2.f0 0; have j1 := h2.f0 1; have j2 := h2.f0 2; have j3 := h2.f0 3; have m0 := h2.c0 0; have m1 := h2.c0 1; have m2 := h2.c0 2; have m3 := h2.c0 3)
    | (go_at_call 63; (with_reducible refine (BB _).mono ?_); rintro e w0 ⟨rfl, rfl⟩)
    | (go_at_call 67; refine (Dg _).mono ?_; rintro e w0 ⟨rfl, hw⟩; subst hw)
    | (go_at_call 65; refine (Lt _).mono ?_; rintro e w0 ⟨rfl, hw⟩; subst hw)
    | fail)
  refine out_gen (h2.out _ _ _ _ _ _) ?_
  intro w6 z
  have z0 := z.c 0
  have z1 := z.c 1
  have z2 := z.c 2
  have z3 := z.c 3
  exact bodyPost_ret (by simp [results, Tryz.results39, go_sem, z0, z1, z2, z3]) rfl ⟨rfl, z.bel⟩

end Go.Proofs.YthficamlgngaaaaGreatDoor
namespace Go.Proofs.YthficamlgngaaaaGreatDoor
open Go Go.RowKit
attribute [local irreducible] srcB unitS

theorem xlF_le (s : Bs) : ∀ (n i : Nat) (t : Bs) (e : Nat), xlF s n i = some (t, e) → e ≤ s.length := by
  intro n
  induction n with
  | zero => intro i t e h; cases h
  | succ n ih =>
    intro i t e h
    unfold xlF at h
    cases hs : srcC s i with
    | none => rw [hs] at h; cases h
    | some k =>
      rw [hs] at h
      have hH := hs
      rw [srcC_H] at hH
      obtain ⟨k1, k2, _, _⟩ := srcH_facts hH
      rw [List.length_drop] at k2
      simp only at h
      split at h
      · cases h
      · split at h
        · cases h; omega
        · split at h
          · split at h
            · cases h
            · obtain ⟨q, hq, he⟩ := Option.map_eq_some_iff.1 h
              cases he
              exact ih _ q.1 q.2 hq
          · obtain ⟨q, hq, he⟩ := Option.map_eq_some_iff.1 h
            cases he
            exact ih _ q.1 q.2 hq
theorem xrF_le (s : Bs) : ∀ (n i : Nat) (t : Bs) (e : Nat), xrF s n i = some (t, e) → e ≤ s.length := by
  intro n
  induction n with
  | zero => intro i t e h; cases h
  | succ n ih =>
    intro i t e h
    unfold xrF at h
    by_cases h4 : List.isPrefixOf [92, 34, 34, 34] (s.drop i) = true
    · rw [if_pos h4] at h
      obtain ⟨q, hq, he⟩ := Option.map_eq_some_iff.1 h
      cases he
      exact ih _ q.1 q.2 hq
    · rw [if_neg h4] at h
      by_cases h3 : List.isPrefixOf [34, 34, 34] (s.drop i) = true
      · rw [if_pos h3] at h
        have := (pre_pos h3).resolve_right (by simp)
        cases h
        simpa using this
      · rw [if_neg h3] at h
        cases hs : srcC s i with
        | none => rw [hs] at h; cases h
        | some k =>
          rw [hs] at h
          simp only at h
          obtain ⟨q, hq, he⟩ := Option.map_eq_some_iff.1 h
          cases he
          exact ih _ q.1 q.2 hq
theorem textR_line {r : Bs} (hq : List.isPrefixOf [34, 34, 34] (34 :: r) = false) : textR (34 :: r) = lineS r := by
  unfold textR
  rw [if_neg (by rw [hq]; simp), List.drop_one, List.tail_cons]
  unfold lineS
  exact lineF_fuel _ _ r (by rw [List.length_cons]; omega) (by omega)
theorem ahead_line {r t m : Bs} (h : lineS r = some (t, m)) : ahead (34 :: r) m = 34 :: ahead r m := by
  have ha := (line_ahead h).1
  conv => lhs; rw [ha]
  rw [← List.cons_append, ahead_app]
theorem cut_same {α : Type} (a b : Option Nat) (h : a = none ↔ b = none) (x : α) : (if a.isSome then none else some x) = if b.isSome then none else some x := by
  cases a with
  | none => rw [h.1 rfl]
  | some i => cases b with
    | none => cases h.2 rfl
    | some j => rfl
theorem textS_lineC {r : Bs} (hq : List.isPrefixOf [34, 34, 34] (34 :: r) = false) : textS (34 :: r) = lineC r := by
  unfold textS lineC
  rw [textR_line hq]
  cases h : lineS r with
  | none => rw [Option.bind_none, Option.bind_none]
  | some q =>
    obtain ⟨t, m⟩ := q
    rw [Option.bind_some, Option.bind_some]
    simp only
    rw [ahead_line h]
    exact cut_same _ _ (plain_iff 34 (by decide) (ahead r m)) _
/-- A string, read by its characters. -/
theorem textS_line (s : Bs) (p : Nat) (r : Bs) (hl : s.drop p = 34 :: r) (hq : List.isPrefixOf [34, 34, 34] (s.drop p) = false) :
    textS (s.drop p) = (xl s (p + 1)).map fun q => (q.1, s.drop q.2) := by
  have hr : s.drop (p + 1) = r := by rw [← List.drop_drop, hl, List.drop_one, List.tail_cons]
  rw [hl] at hq ⊢
  rw [textS_lineC hq, ← hr]
  exact (xl_line s (s.length - (p + 1) + 1) (p + 1) (by omega)).symm
/-- A block string, read by its characters. -/
theorem textS_raw (s : Bs) (p : Nat) (hq : List.isPrefixOf [34, 34, 34] (s.drop p) = true) :
    textS (s.drop p) = (xr s (p + 3)).map fun q => (blockS q.1, s.drop q.2) := by
  obtain ⟨r, hm⟩ := List.isPrefixOf_iff_prefix.1 hq
  have hl : s.drop p = 34 :: 34 :: 34 :: r := hm.symm
  have hr : s.drop (p + 3) = r := by rw [← List.drop_drop, hl]; rfl
  have hx := xr_raw s (s.length - (p + 3) + 1) (p + 3) (by omega)
  rw [hr] at hx
  have hT : textR (s.drop p) = (rawS r).map fun q => (blockS q.1, q.2) := by
    unfold textR
    rw [if_pos hq, hl]
    rw [rawF_fuel _ (r.length + 1) _ (by simp; omega) (by simp)]
    rfl
  have hy : ((xr s (p + 3)).map fun q => (blockS q.1, s.drop q.2)) = (rawC r).map fun q => (blockS q.1, q.2) := by
    rw [← hx, Option.map_map]
    rfl
  rw [hy]
  unfold textS rawC
  rw [hT, hl]
  cases h : rawS r with
  | none => rfl
  | some q =>
    obtain ⟨t, m⟩ := q
    have ha := raw_ahead h
    have hh : ahead (34 :: 34 :: 34 :: r) m = 34 :: 34 :: 34 :: ahead r m := by
      conv => lhs; rw [ha.1]
      rw [← List.cons_append, ← List.cons_append, ← List.cons_append, ahead_app]
    rw [Option.map_some, Option.bind_some, Option.bind_some]
    simp only
    rw [hh]
    have := ((plain_iff 34 (by decide) (34 :: 34 :: ahead r m)).trans (plain_iff 34 (by decide) (34 :: ahead r m))).trans (plain_iff 34 (by decide) (ahead r m))
    by_cases h0 : srcB (ahead r m) = none
    · rw [if_neg (by rw [this.2 h0]; simp), if_neg (by rw [h0]; simp)]
      rfl
    · rw [if_pos (by rw [isSome_iff]; exact fun h1 => h0 (this.1 h1)), if_pos (by rw [isSome_iff]; exact h0)]
      rfl
theorem xr_short {s t : Bs} {i e : Nat} (h : xr s i = some (t, e)) : t.length ≤ s.length := by
  have hx := xr_raw s (s.length - i + 1) i (by omega)
  rw [show xrF s (s.length - i + 1) i = some (t, e) from h, Option.map_some] at hx
  unfold rawC at hx
  obtain ⟨q, hq, hb⟩ := Option.bind_eq_some_iff.1 hx.symm
  split at hb
  · cases hb
  · cases hb
    have := (rawF_facts _ _ _ _ hq).2
    rw [List.length_drop] at this
    simp only at this
    omega
theorem tokS_textX (l r : Bs) (hl : l = 34 :: r) : tokS l = match textS l with | none => .bad 52 | some p => .ok 4 p.1 p.2 := by
  subst hl
  rfl

/-- What one hands back. -/
def One (s : Bs) (p : Nat) (w : World) (e : Ending) (w' : World) : Prop := e = .returned (.tuple #[(oneV s p).1, .int .i64 (oneV s p).2]) ∧ Below w.heap.size w w'
theorem oneV_ok {s t r : Bs} {p : Nat} {k : Int} (h : tokS (s.drop p) = .ok k t r) : oneV s p = (tokV k t p (s.length - r.length), 0) := by unfold oneV; rw [h]
theorem oneV_bad {s : Bs} {p : Nat} {e : Int} (h : tokS (s.drop p) = .bad e) : oneV s p = (tokV 0 [] 0 0, e) := by unfold oneV; rw [h]
theorem one_ok {s t r : Bs} {p b : Nat} {k : Int} {w : World} (h : tokS (s.drop p) = .ok k t r) (hb : b = s.length - r.length)
    (C : Calls Tryz.prog 39 #[.string ⟨s.toArray⟩, .int .i64 (p : Int)] w fun e w' => e = .returned (.tuple #[tokV k t p b, .int .i64 0]) ∧ Below w.heap.size w w') : Calls Tryz.prog 39 #[.string ⟨s.toArray⟩, .int .i64 (p : Int)] w (One s p w) := by
  refine C.mono fun e w' h' => ?_
  unfold One
  rw [oneV_ok h, ← hb]
  exact h'
theorem one_err {s : Bs} {p : Nat} {x : Int} {w : World} (h : tokS (s.drop p) = .bad x)
    (C : Calls Tryz.prog 39 #[.string ⟨s.toArray⟩, .int .i64 (p : Int)] w fun e w' => e = .returned (.tuple #[tokV 0 [] 0 0, .int .i64 x]) ∧ Below w.heap.size w w') : Calls Tryz.prog 39 #[.string ⟨s.toArray⟩, .int .i64 (p : Int)] w (One s p w) := by
  refine C.mono fun e w' h' => ?_
  unfold One
  rw [oneV_bad h]
  exact h'
theorem oneS_any (s : Bs) (p : Nat) (hp : p < s.length) (hs : s.length ≤ 16384) (w : World) : Calls Tryz.prog 39 #[.string ⟨s.toArray⟩, .int .i64 (p : Int)] w (One s p w) := by
  cases hl : s.drop p with
  | nil => have := congrArg List.length hl; rw [List.length_drop] at this; simp at this; omega
  | cons x r =>
    have hlen := congrArg List.length hl
    rw [List.length_drop, List.length_cons] at hlen
    by_cases g0 : punL.contains x = true
    · have ht : tokS (s.drop p) = .ok 0 [x] r := by
        rw [hl]
        unfold tokS wrt
        rw [if_pos (show headIn punL (x :: r) = true from g0)]
        rw [show List.drop 1 (x :: r) = r from rfl, show x :: r = [x] ++ r from rfl, ahead_app]
      exact one_ok ht (by omega) (one_pun s p x r hl hs g0 w)
    · have g0' : punL.contains x = false := by simpa using g0
      by_cases gd : List.isPrefixOf [46, 46, 46] (s.drop p) = true
      · have ht : tokS (s.drop p) = .ok 0 [46, 46, 46] ((s.drop p).drop 3) := by
          obtain ⟨m, hm⟩ := List.isPrefixOf_iff_prefix.1 gd
          unfold tokS wrt
          rw [if_neg (by rw [hl]; exact g0), if_pos gd, ← hm]
          rw [show List.drop 3 ([46, 46, 46] ++ m) = m from rfl, ahead_app]
        have := (pre_pos gd).resolve_right (by simp)
        simp only [List.length_cons, List.length_nil] at this
        exact one_ok ht (by rw [List.length_drop, List.length_drop]; omega) (one_dots s p hs gd w)
      · have gd' : List.isPrefixOf [46, 46, 46] (s.drop p) = false := Bool.eq_false_iff.2 gd
        by_cases g1 : letL.contains x = true
        · have hn : nmN r ≤ r.length := (List.takeWhile_prefix _).length_le
          have ht : tokS (s.drop p) = .ok 1 ((s.drop p).take (1 + nmN r)) (r.drop (nmN r)) := by
            unfold tokS wrt
            rw [if_neg (by rw [hl]; exact g0), if_neg gd, if_pos (by rw [hl]; exact g1), hl]
            rw [show List.drop 1 (x :: r) = r from rfl, show (letL ++ digL) = nmL from rfl, span_nm]
            unfold ahead
            rw [List.length_drop, List.length_cons, show r.length + 1 - (r.length - nmN r) = 1 + nmN r by omega]
          exact one_ok ht (by rw [List.length_drop]; omega) (one_name s p x r hl hs g1 w)
        · have g1' : letL.contains x = false := by simpa using g1
          by_cases g2 : x = 45 ∨ digL.contains x = true
          · have C := one_num s p x r hl hs g2 w
            have ht : tokS (s.drop p) = (match numS (s.drop p) with | none => .bad 51 | some q => wrt q.1 (s.drop p) q.2) := by
              have : headIn (45 :: digL) (s.drop p) = true := by
                rw [hl]
                show (45 :: digL).contains x = true
                rcases g2 with g | g
                · rw [g]; rfl
                · exact List.contains_iff_mem.2 (List.mem_cons_of_mem _ (List.contains_iff_mem.1 g))
              unfold tokS
              rw [if_neg (by rw [hl]; exact g0), if_neg gd, if_neg (by rw [hl]; exact g1), if_pos this]
              cases numS (s.drop p) <;> rfl
            cases hn : numS (s.drop p) with
            | none => rw [hn] at C ht; exact one_err ht C
            | some q => rw [hn] at C ht; exact one_ok ht rfl C
          · have g2' : digL.contains x = false := by cases h : digL.contains x with | false => rfl | true => exact absurd (Or.inr h) g2
            have g3 : x ≠ 45 := fun h => g2 (Or.inl h)
            by_cases g4 : x = 34
            · subst g4
              have ht := tokS_textX _ r hl
              by_cases hq : List.isPrefixOf [34, 34, 34] (s.drop p) = true
              · rw [textS_raw s p hq] at ht
                cases hx : xr s (p + 3) with
                | none => rw [hx] at ht; exact one_err ht (one_block_no s p r hl hs hq hx w)
                | some q =>
                  obtain ⟨t, e⟩ := q
                  rw [hx] at ht
                  have := xrF_le s _ _ _ _ hx
                  exact one_ok ht (by rw [List.length_drop]; omega) (one_block s p r hl hs hq t e hx (by have := xr_short hx; omega) w)
              · have hq' : List.isPrefixOf [34, 34, 34] (s.drop p) = false := Bool.eq_false_iff.2 hq
                rw [textS_line s p r hl hq'] at ht
                cases hx : xl s (p + 1) with
                | none => rw [hx] at ht; exact one_err ht (one_text_no s p r hl hs hq' hx w)
                | some q =>
                  obtain ⟨t, e⟩ := q
                  rw [hx] at ht
                  have := xlF_le s _ _ _ _ hx
                  exact one_ok ht (by rw [List.length_drop]; omega) (one_text s p r hl hs hq' t e hx w)
            · have ht : tokS (s.drop p) = .bad 50 := by
                unfold tokS
                rw [if_neg (by rw [hl]; exact g0), if_neg gd, if_neg (by rw [hl]; exact g1)]
                rw [if_neg (by rw [hl]; show ¬ (45 :: digL).contains x = true; rw [List.contains_iff_mem]; intro h; rcases List.mem_cons.1 h with h | h; exact g3 h; exact g2 (Or.inr (List.contains_iff_mem.2 h)))]
                rw [if_neg (by rw [hl]; show ¬ [34].contains x = true; rw [List.contains_iff_mem]; intro h; exact g4 (List.mem_singleton.1 h))]
              exact one_err ht (one_bad s p x r hl hs g0' g1' g2' g3 g4 gd' w)
end Go.Proofs.YthficamlgngaaaaGreatDoor
