/- fmtEFG at seventeen digits, at the two powers of the fixed calls: the text is laid into the slice that it is handed. -/
import Derived.Test.YtbemidnhljjfnaaGreatDoorDigits
import Derived.OwnWalk
import Derived.Maps.AppendAt
namespace Go.Proofs.YtbemidnhljjfnaaGreatDoor
open Go Go.RowKit Go.Lib

theorem infoByte : (Tryz.prog.info? 5).map (fun i => (i.zero, i.size, i.bytes)) = some (some (.int .u8 0), 1, 1) := by kernel_rfl

theorem cell_2_new (w : World) (x y : Value) (t : TypeId) : ∀ j u, [x, y][j]? = some u → (w.alloc (.cells #[x, y] t)).cell? ((⟨w.heap.size, 0, none⟩ : Addr).add j) = some u := by
  intro j u hj
  match j, hj with
  | 0, hj => simp at hj; subst hj; simp [Addr.add]
  | 1, hj => simp at hj; subst hj; simp [Addr.add]
theorem cell_3_new (w : World) (x y z : Value) (t : TypeId) : ∀ j u, [x, y, z][j]? = some u → (w.alloc (.cells #[x, y, z] t)).cell? ((⟨w.heap.size, 0, none⟩ : Addr).add j) = some u := by
  intro j u hj
  match j, hj with
  | 0, hj => simp at hj; subst hj; simp [Addr.add]
  | 1, hj => simp at hj; subst hj; simp [Addr.add]
  | 2, hj => simp at hj; subst hj; simp [Addr.add]
theorem far {D N k j : Nat} {w w1 : World} {o : Obj} {u : Value} (hDN : D ≠ N) (h : w.cell? ((⟨N, k, none⟩ : Addr).add j) = some u) (hg : (w.alloc o).grownBy w1 (some D)) : w1.cell? ((⟨N, k, none⟩ : Addr).add j) = some u := by
  rw [add_plain] at h ⊢
  exact hg.cell (cell_later (Below.alloc (Below.refl _ _) (Nat.le_refl _) o) h) (fun e => hDN (Option.some.inj e).symm)
theorem below_app {D : Nat} {w w0 w1 : World} {o : Obj} (hb : Below D w w0 ∧ D ≤ w0.heap.size) (hg : (w0.alloc o).grownBy w1 (some D)) : Below D w w1 ∧ D ≤ w1.heap.size := by
  have h1 := hg.size
  have h2 : w0.heap.size ≤ (w0.alloc o).heap.size := by simp
  refine ⟨(hb.1.alloc hb.2 o).grown hg (Nat.le_trans hb.2 h2) (fun k hk => ?_), Nat.le_trans hb.2 (Nat.le_trans h2 h1)⟩
  cases hk; exact Nat.le_refl _
theorem below_app0 {D : Nat} {w w0 w1 : World} (hb : Below D w w0 ∧ D ≤ w0.heap.size) (hg : w0.grownBy w1 (some D)) : Below D w w1 ∧ D ≤ w1.heap.size := by
  refine ⟨hb.1.grown hg hb.2 (fun k hk => ?_), Nat.le_trans hb.2 hg.size⟩
  cases hk; exact Nat.le_refl _

set_option maxRecDepth 100000 in
set_option maxHeartbeats 8000000 in
theorem efgA (D N : Nat) (c0 : Int) (cs : List Int) (w : World) (hDN : D ≠ N) (hD : D ≤ w.heap.size) (hlen : cs.length = 16) (hown : w.ownsRow D 5 1 (.slice (some ⟨D, 0, none⟩) 0 24) 0 [])
    (hc0 : w.cell? ⟨N, 0, none⟩ = some (.int .u8 c0)) (hcs : ∀ j u, (cs.map (Value.int .u8))[j]? = some u → w.cell? ((⟨N, 1, none⟩ : Addr).add j) = some u) :
    Calls Tryz.prog 85 #[.slice (some ⟨D, 0, none⟩) 0 24, .bool false, .slice (some ⟨N, 0, none⟩) 24 24, .int .i64 0, .int .i64 17, .int .i64 16, .int .u8 101, .bool false] w fun e w' =>
      e = .returned (.slice (some ⟨D, 0, none⟩) 22 24) ∧ w'.ownsRow D 5 1 (.slice (some ⟨D, 0, none⟩) 22 24) 22 ((c0 :: 46 :: cs ++ [101, 45, 48, 49]).map (Value.int .u8)) ∧ Below D w w' := by
  obtain ⟨i0, hi, _, hz1, _⟩ := info_parts infoByte
  go_enter Tryz.func85, Tryz.ntmps85
  go_wp2_with (first
    | (at_builtin; refine wpList_append_fits _ rfl _ _ 83 rfl D 5 i0 1 Tryz.underlying83 hi hz1 D 0 24 _ rfl (hown.alloc _) ⟨w.heap.size, 0, none⟩ 1 1 ([c0].map (Value.int .u8)) rfl rfl (cell_one_new w _ _) (ints_oneCell .u8 _) (by decide) ?_; intro w1 hown1 hg1)
    | (at_builtin; refine wpList_append_fits _ rfl _ _ 83 rfl D 5 i0 1 Tryz.underlying83 hi hz1 D 1 24 _ rfl (hown1.alloc _) ⟨w1.heap.size, 0, none⟩ 1 1 ([46].map (Value.int .u8)) rfl rfl (cell_one_new w1 _ _) (ints_oneCell .u8 _) (by decide) ?_; intro w2 hown2 hg2)
    | (at_builtin; refine wpList_append_fits _ rfl _ _ 83 rfl D 5 i0 1 Tryz.underlying83 hi hz1 D 2 24 _ rfl hown2 ⟨N, 1, none⟩ 16 23 (cs.map (Value.int .u8)) rfl (by simp [hlen]) (fun j u h => far hDN (far hDN (hcs j u h) hg1) hg2) (ints_oneCell .u8 cs) (by decide) ?_; intro w3 hown3 hg3)
    | (at_builtin; refine wpList_append_fits _ rfl _ _ 83 rfl D 5 i0 1 Tryz.underlying83 hi hz1 D 18 24 _ rfl (hown3.alloc _) ⟨w3.heap.size, 0, none⟩ 1 1 ([101].map (Value.int .u8)) rfl rfl (cell_one_new w3 _ _) (ints_oneCell .u8 _) (by decide) ?_; intro w4 hown4 hg4)
    | (at_builtin; refine wpList_append_fits _ rfl _ _ 83 rfl D 5 i0 1 Tryz.underlying83 hi hz1 D 19 24 _ rfl (hown4.alloc _) ⟨w4.heap.size, 0, none⟩ 1 1 ([45].map (Value.int .u8)) rfl rfl (cell_one_new w4 _ _) (ints_oneCell .u8 _) (by decide) ?_; intro w5 hown5 hg5)
    | (at_builtin; refine wpList_append_fits _ rfl _ _ 83 rfl D 5 i0 1 Tryz.underlying83 hi hz1 D 20 24 _ rfl (hown5.alloc _) ⟨w5.heap.size, 0, none⟩ 2 2 ([48, 49].map (Value.int .u8)) rfl rfl (cell_2_new w5 _ _ _) (ints_oneCell .u8 _) (by decide) ?_; intro w6 hown6 hg6))
  refine wp_loop_rounds 1 ?_
  rw [rounds_succ]
  go_wp2_with (first
    | (at_builtin; refine wpList_append_fits _ rfl _ _ 83 rfl D 5 i0 1 Tryz.underlying83 hi hz1 D 0 24 _ rfl (hown.alloc _) ⟨w.heap.size, 0, none⟩ 1 1 ([c0].map (Value.int .u8)) rfl rfl (cell_one_new w _ _) (ints_oneCell .u8 _) (by decide) ?_; intro w1 hown1 hg1)
    | (at_builtin; refine wpList_append_fits _ rfl _ _ 83 rfl D 5 i0 1 Tryz.underlying83 hi hz1 D 1 24 _ rfl (hown1.alloc _) ⟨w1.heap.size, 0, none⟩ 1 1 ([46].map (Value.int .u8)) rfl rfl (cell_one_new w1 _ _) (ints_oneCell .u8 _) (by decide) ?_; intro w2 hown2 hg2)
    | (at_builtin; refine wpList_append_fits _ rfl _ _ 83 rfl D 5 i0 1 Tryz.underlying83 hi hz1 D 2 24 _ rfl hown2 ⟨N, 1, none⟩ 16 23 (cs.map (Value.int .u8)) rfl (by simp [hlen]) (fun j u h => far hDN (far hDN (hcs j u h) hg1) hg2) (ints_oneCell .u8 cs) (by decide) ?_; intro w3 hown3 hg3)
    | (at_builtin; refine wpList_append_fits _ rfl _ _ 83 rfl D 5 i0 1 Tryz.underlying83 hi hz1 D 18 24 _ rfl (hown3.alloc _) ⟨w3.heap.size, 0, none⟩ 1 1 ([101].map (Value.int .u8)) rfl rfl (cell_one_new w3 _ _) (ints_oneCell .u8 _) (by decide) ?_; intro w4 hown4 hg4)
    | (at_builtin; refine wpList_append_fits _ rfl _ _ 83 rfl D 5 i0 1 Tryz.underlying83 hi hz1 D 19 24 _ rfl (hown4.alloc _) ⟨w4.heap.size, 0, none⟩ 1 1 ([45].map (Value.int .u8)) rfl rfl (cell_one_new w4 _ _) (ints_oneCell .u8 _) (by decide) ?_; intro w5 hown5 hg5)
    | (at_builtin; refine wpList_append_fits _ rfl _ _ 83 rfl D 5 i0 1 Tryz.underlying83 hi hz1 D 20 24 _ rfl (hown5.alloc _) ⟨w5.heap.size, 0, none⟩ 2 2 ([48, 49].map (Value.int .u8)) rfl rfl (cell_2_new w5 _ _ _) (ints_oneCell .u8 _) (by decide) ?_; intro w6 hown6 hg6))
  go_returns
  refine ⟨rfl, ?_, (below_app (below_app (below_app (below_app0 (below_app (below_app ⟨Below.refl D w, hD⟩ hg1) hg2) hg3) hg4) hg5) hg6).1⟩
  have h := hown6
  simp only [List.map_cons, List.map_nil, List.nil_append, List.cons_append, List.append_assoc, List.map_append] at h ⊢
  exact h

set_option maxRecDepth 100000 in
set_option maxHeartbeats 8000000 in
theorem efgB (D N : Nat) (c0 : Int) (cs : List Int) (w : World) (hDN : D ≠ N) (hD : D ≤ w.heap.size) (hlen : cs.length = 16) (hown : w.ownsRow D 5 1 (.slice (some ⟨D, 0, none⟩) 0 24) 0 [])
    (hc0 : w.cell? ⟨N, 0, none⟩ = some (.int .u8 c0)) (hcs : ∀ j u, (cs.map (Value.int .u8))[j]? = some u → w.cell? ((⟨N, 1, none⟩ : Addr).add j) = some u) :
    Calls Tryz.prog 85 #[.slice (some ⟨D, 0, none⟩) 0 24, .bool false, .slice (some ⟨N, 0, none⟩) 24 24, .int .i64 (-323), .int .i64 17, .int .i64 16, .int .u8 101, .bool false] w fun e w' =>
      e = .returned (.slice (some ⟨D, 0, none⟩) 23 24) ∧ w'.ownsRow D 5 1 (.slice (some ⟨D, 0, none⟩) 23 24) 23 ((c0 :: 46 :: cs ++ [101, 45, 51, 50, 52]).map (Value.int .u8)) ∧ Below D w w' := by
  obtain ⟨i0, hi, _, hz1, _⟩ := info_parts infoByte
  go_enter Tryz.func85, Tryz.ntmps85
  go_wp2_with (first
    | (at_builtin; refine wpList_append_fits _ rfl _ _ 83 rfl D 5 i0 1 Tryz.underlying83 hi hz1 D 0 24 _ rfl (hown.alloc _) ⟨w.heap.size, 0, none⟩ 1 1 ([c0].map (Value.int .u8)) rfl rfl (cell_one_new w _ _) (ints_oneCell .u8 _) (by decide) ?_; intro w1 hown1 hg1)
    | (at_builtin; refine wpList_append_fits _ rfl _ _ 83 rfl D 5 i0 1 Tryz.underlying83 hi hz1 D 1 24 _ rfl (hown1.alloc _) ⟨w1.heap.size, 0, none⟩ 1 1 ([46].map (Value.int .u8)) rfl rfl (cell_one_new w1 _ _) (ints_oneCell .u8 _) (by decide) ?_; intro w2 hown2 hg2)
    | (at_builtin; refine wpList_append_fits _ rfl _ _ 83 rfl D 5 i0 1 Tryz.underlying83 hi hz1 D 2 24 _ rfl hown2 ⟨N, 1, none⟩ 16 23 (cs.map (Value.int .u8)) rfl (by simp [hlen]) (fun j u h => far hDN (far hDN (hcs j u h) hg1) hg2) (ints_oneCell .u8 cs) (by decide) ?_; intro w3 hown3 hg3)
    | (at_builtin; refine wpList_append_fits _ rfl _ _ 83 rfl D 5 i0 1 Tryz.underlying83 hi hz1 D 18 24 _ rfl (hown3.alloc _) ⟨w3.heap.size, 0, none⟩ 1 1 ([101].map (Value.int .u8)) rfl rfl (cell_one_new w3 _ _) (ints_oneCell .u8 _) (by decide) ?_; intro w4 hown4 hg4)
    | (at_builtin; refine wpList_append_fits _ rfl _ _ 83 rfl D 5 i0 1 Tryz.underlying83 hi hz1 D 19 24 _ rfl (hown4.alloc _) ⟨w4.heap.size, 0, none⟩ 1 1 ([45].map (Value.int .u8)) rfl rfl (cell_one_new w4 _ _) (ints_oneCell .u8 _) (by decide) ?_; intro w5 hown5 hg5)
    | (at_builtin; refine wpList_append_fits _ rfl _ _ 83 rfl D 5 i0 1 Tryz.underlying83 hi hz1 D 20 24 _ rfl (hown5.alloc _) ⟨w5.heap.size, 0, none⟩ 3 3 ([51, 50, 52].map (Value.int .u8)) rfl rfl (cell_3_new w5 _ _ _ _) (ints_oneCell .u8 _) (by decide) ?_; intro w6 hown6 hg6))
  refine wp_loop_rounds 1 ?_
  rw [rounds_succ]
  go_wp2_with (first
    | (at_builtin; refine wpList_append_fits _ rfl _ _ 83 rfl D 5 i0 1 Tryz.underlying83 hi hz1 D 0 24 _ rfl (hown.alloc _) ⟨w.heap.size, 0, none⟩ 1 1 ([c0].map (Value.int .u8)) rfl rfl (cell_one_new w _ _) (ints_oneCell .u8 _) (by decide) ?_; intro w1 hown1 hg1)
    | (at_builtin; refine wpList_append_fits _ rfl _ _ 83 rfl D 5 i0 1 Tryz.underlying83 hi hz1 D 1 24 _ rfl (hown1.alloc _) ⟨w1.heap.size, 0, none⟩ 1 1 ([46].map (Value.int .u8)) rfl rfl (cell_one_new w1 _ _) (ints_oneCell .u8 _) (by decide) ?_; intro w2 hown2 hg2)
    | (at_builtin; refine wpList_append_fits _ rfl _ _ 83 rfl D 5 i0 1 Tryz.underlying83 hi hz1 D 2 24 _ rfl hown2 ⟨N, 1, none⟩ 16 23 (cs.map (Value.int .u8)) rfl (by simp [hlen]) (fun j u h => far hDN (far hDN (hcs j u h) hg1) hg2) (ints_oneCell .u8 cs) (by decide) ?_; intro w3 hown3 hg3)
    | (at_builtin; refine wpList_append_fits _ rfl _ _ 83 rfl D 5 i0 1 Tryz.underlying83 hi hz1 D 18 24 _ rfl (hown3.alloc _) ⟨w3.heap.size, 0, none⟩ 1 1 ([101].map (Value.int .u8)) rfl rfl (cell_one_new w3 _ _) (ints_oneCell .u8 _) (by decide) ?_; intro w4 hown4 hg4)
    | (at_builtin; refine wpList_append_fits _ rfl _ _ 83 rfl D 5 i0 1 Tryz.underlying83 hi hz1 D 19 24 _ rfl (hown4.alloc _) ⟨w4.heap.size, 0, none⟩ 1 1 ([45].map (Value.int .u8)) rfl rfl (cell_one_new w4 _ _) (ints_oneCell .u8 _) (by decide) ?_; intro w5 hown5 hg5)
    | (at_builtin; refine wpList_append_fits _ rfl _ _ 83 rfl D 5 i0 1 Tryz.underlying83 hi hz1 D 20 24 _ rfl (hown5.alloc _) ⟨w5.heap.size, 0, none⟩ 3 3 ([51, 50, 52].map (Value.int .u8)) rfl rfl (cell_3_new w5 _ _ _ _) (ints_oneCell .u8 _) (by decide) ?_; intro w6 hown6 hg6))
  go_returns
  refine ⟨rfl, ?_, (below_app (below_app (below_app (below_app0 (below_app (below_app ⟨Below.refl D w, hD⟩ hg1) hg2) hg3) hg4) hg5) hg6).1⟩
  have h := hown6
  simp only [List.map_cons, List.map_nil, List.nil_append, List.cons_append, List.append_assoc, List.map_append] at h ⊢
  exact h

end Go.Proofs.YtbemidnhljjfnaaGreatDoor
