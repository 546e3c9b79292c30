/- Two keys that have the same parts but the last one stand as these do: the walk of the statement. -/
import Derived.Test.YtghneolphdfdlabDoorLastM
import Derived.Deep.CutRange
import Derived.Deep.CutBlock
import Derived.Deep.RegionHeld3
namespace Go.Proofs.YtghneolphdfdlabDoor
open Go Go.RowKit

/-- Four cells of a block. -/
def Quad (w : World) (b : Nat) (x0 x1 x2 x3 : Value) : Prop := w.cell? ⟨b, 0, none⟩ = some x0 ∧ w.cell? ⟨b, 1, none⟩ = some x1 ∧ w.cell? ⟨b, 2, none⟩ = some x2 ∧ w.cell? ⟨b, 3, none⟩ = some x3
theorem Quad.keep {w w' : World} {b : Nat} {x0 x1 x2 x3 : Value} (h : Quad w b x0 x1 x2 x3) (hb : Below w.heap.size w w') : Quad w' b x0 x1 x2 x3 := by
  have hlt : b < w.heap.size := World.block_lt_of_cell? w _ h.1
  exact ⟨(hb.cell (p := ⟨b, _, none⟩) hlt).trans h.1, (hb.cell (p := ⟨b, _, none⟩) hlt).trans h.2.1, (hb.cell (p := ⟨b, _, none⟩) hlt).trans h.2.2.1, (hb.cell (p := ⟨b, _, none⟩) hlt).trans h.2.2.2⟩
theorem quad_of {w : World} {b : Nat} {x0 x1 x2 x3 : Value} {t : TypeId} {fr : Nat × Nat} (hh : w.heap[b]? = some (.cells #[x0, x1, x2, x3] t fr)) : Quad w b x0 x1 x2 x3 :=
  ⟨by simp [World.cell?, hh], by simp [World.cell?, hh], by simp [World.cell?, hh], by simp [World.cell?, hh]⟩
abbrev PO (p : Pt) : Obj := .cells p.cells 29
abbrev EO : Obj := .cells #[] 29
theorem belU {B : Nat} {a w : World} (h : Below B a w) : Below B a w.drew := h.trans ⟨rfl, rfl, rfl, Nat.le_refl _, fun _ _ => rfl⟩
/-- One part in a block. -/
theorem one_part {w : World} {b : Nat} {p : Pt} {fr : Nat × Nat} (h : w.heap[b]? = some (.cells p.cells 29 fr)) : PartsAt w (.slice (some ⟨b, 0, none⟩) 1 1) [p] := by
  refine ⟨_, _, rfl, Nat.le_refl _, fun _ => ⟨b, 0, rfl, lt_of_block h, fun i q hq => ?_⟩⟩
  match i, hq with
  | 0, hq =>
    simp at hq
    subst hq
    refine ⟨?_, ?_, ?_, ?_⟩ <;> simp [World.cell?, h, Pt.cells]
theorem part_block (w : World) (p : Pt) : (w.alloc (PO p)).heap[w.heap.size]? = some (.cells p.cells 29 (0, 0)) := heap_alloc_new _ _
theorem sliced_some (b : Nat) : Sliced (.slice (some ⟨b, 0, none⟩) 1 1) := Or.inr ⟨_, _, _, rfl⟩

/-- The three worlds ahead of the first append. -/
theorem ahead_a (w : World) : ((w.alloc EO).drew).ownsRow w.heap.size 29 4 (.slice (some ⟨w.heap.size, 0, none⟩) 0 0) 0 [] := owns_empty4 w
theorem ahead_b (w : World) (p : Pt) : (((w.alloc EO).alloc (PO p)).drew).ownsRow w.heap.size 29 4 (.slice (some ⟨w.heap.size, 0, none⟩) 0 0) 0 [] := (owns_empty4 w).alloc _
theorem ahead_c (w : World) (p : Pt) : (((w.alloc (PO p)).alloc EO).drew).ownsRow w.heap.size 29 4 (.slice (some ⟨w.heap.size + 1, 0, none⟩) 0 0) 0 [] := by
  have h := owns_empty4 (e := 29) (w.alloc (PO p))
  have e : (w.alloc (PO p)).heap.size = w.heap.size + 1 := by simp
  rw [e] at h
  exact owns_base h (Nat.le_succ _)
theorem bel_a (w : World) : Below w.heap.size w (w.alloc EO).drew := belU ((Below.refl _ _).alloc (Nat.le_refl _) _)
theorem bel_b (w : World) (o o' : Obj) : Below w.heap.size w ((w.alloc o).alloc o').drew := belU (((Below.refl _ _).alloc (Nat.le_refl _) _).alloc (by simp) _)
theorem block_b {w w1 : World} {p : Pt} (h : (((w.alloc EO).alloc (PO p)).drew).grownBy w1 (Value.ownBlock (.slice (some ⟨w.heap.size, 0, none⟩) 0 0))) : PartsAt w1 (.slice (some ⟨w.heap.size + 1, 0, none⟩) 1 1) [p] := by
  refine one_part (fr := (0, 0)) ?_
  have e : (w.alloc EO).heap.size = w.heap.size + 1 := by simp
  have h1 := part_block (w.alloc EO) p
  rw [e] at h1
  exact (h.block (w.heap.size + 1) (by show _ < ((w.alloc EO).alloc (PO p)).heap.size; simp) (fun e2 => by simp [Value.ownBlock] at e2)).trans h1
theorem block_c {w w1 : World} {p : Pt} (h : (((w.alloc (PO p)).alloc EO).drew).grownBy w1 (Value.ownBlock (.slice (some ⟨w.heap.size + 1, 0, none⟩) 0 0))) : PartsAt w1 (.slice (some ⟨w.heap.size, 0, none⟩) 1 1) [p] := by
  refine one_part (fr := (0, 0)) ?_
  refine (h.block w.heap.size (by show _ < ((w.alloc (PO p)).alloc EO).heap.size; simp; omega) (fun e2 => by simp [Value.ownBlock] at e2)).trans ?_
  show ((w.alloc (PO p)).alloc EO).heap[w.heap.size]? = _
  rw [Lib.alloc_old _ _ _ (by simp)]
  exact part_block w p
theorem al1 (w : World) (o : Obj) : Below w.heap.size w (w.alloc o) := (Below.refl _ _).alloc (Nat.le_refl _) _
theorem al2 (w : World) (o o' : Obj) : Below w.heap.size w ((w.alloc o).alloc o') := (al1 w o).alloc (by simp) _
theorem both8 {w : World} {a b : Nat} {x0 x1 x2 x3 y0 y1 y2 y3 : Value} (h : Quad w a x0 x1 x2 x3) (h' : Quad w b y0 y1 y2 y3) : w.cell? ⟨a, 0, none⟩ = some x0 ∧ w.cell? ⟨a, 1, none⟩ = some x1 ∧ w.cell? ⟨a, 2, none⟩ = some x2 ∧ w.cell? ⟨a, 3, none⟩ = some x3 ∧ w.cell? ⟨b, 0, none⟩ = some y0 ∧ w.cell? ⟨b, 1, none⟩ = some y1 ∧ w.cell? ⟨b, 2, none⟩ = some y2 ∧ w.cell? ⟨b, 3, none⟩ = some y3 :=
  ⟨h.1, h.2.1, h.2.2.1, h.2.2.2, h'⟩
theorem bel_0 (w : World) : Below w.heap.size w w.drew := belU (Below.refl _ _)
theorem bel_1 (w : World) (o : Obj) : Below w.heap.size w (w.alloc o).drew := belU (al1 w o)
theorem part_new1 (w : World) (o : Obj) (p : Pt) : PartsAt ((w.alloc o).alloc (PO p)) (.slice (some ⟨w.heap.size + 1, 0, none⟩) 1 1) [p] := by
  have h := part_block (w.alloc o) p
  rw [show (w.alloc o).heap.size = w.heap.size + 1 by simp] at h
  exact one_part h
theorem part_new (w : World) (p : Pt) : PartsAt (w.alloc (PO p)) (.slice (some ⟨w.heap.size, 0, none⟩) 1 1) [p] := one_part (part_block w p)

set_option maxHeartbeats 4000000 in
theorem keysLast_walk (v : Value) (ps : List Pt) (p q : Pt) (w : World) (hp : PartsAt w v ps) (wp : Words ps) (wpp : p.b < 18446744073709551616) (wqq : q.b < 18446744073709551616) (sv : Sliced v) (hM : SomeMax w) (hl : ps.length ≤ 1048576) :
    Calls Tryd.prog 4 #[v, p.val, q.val] w fun e w' => e = .returned (.bool true) ∧ Below w.heap.size w w' := by
  obtain ⟨k, i, b, t⟩ := p
  obtain ⟨k', i', b', t'⟩ := q
  simp only [Pt.val, Pt.cells]
  go_enter Tryd.func4, Tryd.ntmps4
  go_upto_region 1 with fail
  obtain ⟨w0, hw0⟩ : ∃ w0, w0 = (w.alloc (.cells #[.int .i64 k, .int .i64 i, .int .u64 (b : Int), .string t] 29)).alloc (.cells #[.int .i64 k', .int .i64 i', .int .u64 (b' : Int), .string t'] 29) := ⟨_, rfl⟩
  have hz0 : w0.heap.size = w.heap.size + 2 := by rw [hw0]; simp
  have hbp : Quad w0 w.heap.size (.int .i64 k) (.int .i64 i) (.int .u64 (b : Int)) (.string t) := by
    refine quad_of (fr := (0, 0)) (t := 29) ?_
    rw [hw0, Lib.alloc_old _ _ _ (by simp)]; exact heap_alloc_new _ _
  have hbq : Quad w0 (w.heap.size + 1) (.int .i64 k') (.int .i64 i') (.int .u64 (b' : Int)) (.string t') := by
    refine quad_of (fr := (0, 0)) (t := 29) ?_
    rw [hw0, show w.heap.size + 1 = (w.alloc (.cells #[.int .i64 k, .int .i64 i, .int .u64 (b : Int), .string t] 29)).heap.size by simp]; exact heap_alloc_new _ _
  have hb0 : Below w.heap.size w w0 := by rw [hw0]; exact ((Below.refl _ _).alloc (Nat.le_refl _) _).alloc (by simp) _
  rw [← hw0]
  clear hw0 hz0
  have hpz := hp.below hb0
  have hM0 := maxB hM hb0
  go_cut [7] from 9 to 14 (fun v7 wx => Parts wx w0.heap.size v7 ([] ++ ps ++ [⟨k, i, b, t⟩]) ∧ Below w0.heap.size w0 wx)
  case first =>
    obtain ⟨x0, x1, x2, x3⟩ := hbp
    obtain ⟨y0, y1, y2, y3⟩ := Quad.keep (w' := w0.alloc (.cells #[] 29)) ⟨x0, x1, x2, x3⟩ ((Below.refl _ _).alloc (Nat.le_refl _) _)
    go_region_law (first
      | (refine step_app_parts rfl (.tmp 9) (.tmp 10) rfl w0.heap.size (.slice (some ⟨w0.heap.size, 0, none⟩) 0 0) v [] ps rfl rfl (ahead_a w0) (hpz.below (bel_a w0)) sv (by simp) (by simp; omega) ?_; intro v1 w1 ho1 hg1; have hb1 := (bel_a w0).grown hg1 (by simp) (own_ge (ahead_a w0)); obtain ⟨z0, z1, z2, z3⟩ := Quad.keep ⟨x0, x1, x2, x3⟩ hb1)
      | (refine step_app_parts rfl (.tmp 9) (.tmp 10) rfl w0.heap.size (.slice (some ⟨w0.heap.size, 0, none⟩) 0 0) v [] ps rfl rfl (ahead_b w0 ⟨k, i, b, t⟩) (hpz.below (bel_b w0 _ _)) sv (bel_b w0 _ _).size (by simp; omega) ?_; intro v1 w1 ho1 hg1; have hb1 := (bel_b w0 _ _).grown hg1 (bel_b w0 _ _).size (own_ge (ahead_b w0 ⟨k, i, b, t⟩)); have hX1 := block_b (w := w0) (p := ⟨k, i, b, t⟩) hg1)
      | (refine step_app_parts rfl (.tmp 9) (.tmp 10) rfl w0.heap.size (.slice (some ⟨w0.heap.size + 1, 0, none⟩) 0 0) v [] ps rfl rfl (ahead_c w0 ⟨k, i, b, t⟩) (hpz.below (bel_b w0 _ _)) sv (bel_b w0 _ _).size (by simp; omega) ?_; intro v1 w1 ho1 hg1; have hb1 := (bel_b w0 _ _).grown hg1 (bel_b w0 _ _).size (own_ge (ahead_c w0 ⟨k, i, b, t⟩)); have hX1 := block_c (w := w0) (p := ⟨k, i, b, t⟩) hg1)
      | (refine step_app_parts rfl (.tmp 11) (.tmp 13) rfl w0.heap.size v1 _ ([] ++ ps) [⟨k, i, b, t⟩] rfl rfl ho1 hX1 (sliced_some _) hb1.size (by simp; omega) ?_; intro v2 w2 ho2 hg2; have hb2 := hb1.grown hg2 hb1.size (own_ge ho1))
      | (refine step_app_parts rfl (.tmp 11) (.tmp 13) rfl w0.heap.size v1 _ ([] ++ ps) [⟨k, i, b, t⟩] rfl rfl (ho1.alloc _) (part_new w1 ⟨k, i, b, t⟩) (sliced_some _) (by have := hb1.size; simp; omega) (by simp; omega) ?_; intro v2 w2 ho2 hg2; have hb2 := (hb1.alloc hb1.size _).grown hg2 (by have := hb1.size; simp; omega) (own_ge ho1)))
    all_goals
      go_wp2
      go_meet
      exact ⟨ho2, hb2⟩
  case rest =>
    obtain ⟨hP7, hb7⟩ := hcut
    obtain ⟨w7, hw7⟩ : ∃ w7, w7 = wc := ⟨_, rfl⟩
    subst hw7
    have hbp7 := hbp.keep hb7
    have hbq7 := hbq.keep hb7
    have hp7 := hpz.below hb7
    have hM7 := maxB hM0 hb7
    have HP7 := own_hid hP7
    clear hP7
    go_upto_region 2 with fail
    go_cut [8] from 15 to 20 (fun v8 wx => Parts wx w7.heap.size v8 ([] ++ ps ++ [⟨k', i', b', t'⟩]) ∧ Below w7.heap.size w7 wx)
    case first =>
      obtain ⟨x0, x1, x2, x3⟩ := hbq7
      obtain ⟨y0, y1, y2, y3⟩ := Quad.keep (w' := w7.alloc (.cells #[] 29)) ⟨x0, x1, x2, x3⟩ ((Below.refl _ _).alloc (Nat.le_refl _) _)
      go_region_law (first
        | (refine step_app_parts rfl (.tmp 15) (.tmp 16) rfl w7.heap.size (.slice (some ⟨w7.heap.size, 0, none⟩) 0 0) v [] ps rfl rfl (ahead_a w7) (hp7.below (bel_a w7)) sv (by simp) (by simp; omega) ?_; intro v1 w1 ho1 hg1; have hb1 := (bel_a w7).grown hg1 (by simp) (own_ge (ahead_a w7)); obtain ⟨z0, z1, z2, z3⟩ := Quad.keep ⟨x0, x1, x2, x3⟩ hb1)
        | (refine step_app_parts rfl (.tmp 15) (.tmp 16) rfl w7.heap.size (.slice (some ⟨w7.heap.size, 0, none⟩) 0 0) v [] ps rfl rfl (ahead_b w7 ⟨k', i', b', t'⟩) (hp7.below (bel_b w7 _ _)) sv (bel_b w7 _ _).size (by simp; omega) ?_; intro v1 w1 ho1 hg1; have hb1 := (bel_b w7 _ _).grown hg1 (bel_b w7 _ _).size (own_ge (ahead_b w7 ⟨k', i', b', t'⟩)); have hX1 := block_b (w := w7) (p := ⟨k', i', b', t'⟩) hg1)
        | (refine step_app_parts rfl (.tmp 15) (.tmp 16) rfl w7.heap.size (.slice (some ⟨w7.heap.size + 1, 0, none⟩) 0 0) v [] ps rfl rfl (ahead_c w7 ⟨k', i', b', t'⟩) (hp7.below (bel_b w7 _ _)) sv (bel_b w7 _ _).size (by simp; omega) ?_; intro v1 w1 ho1 hg1; have hb1 := (bel_b w7 _ _).grown hg1 (bel_b w7 _ _).size (own_ge (ahead_c w7 ⟨k', i', b', t'⟩)); have hX1 := block_c (w := w7) (p := ⟨k', i', b', t'⟩) hg1)
        | (refine step_app_parts rfl (.tmp 17) (.tmp 19) rfl w7.heap.size v1 _ ([] ++ ps) [⟨k', i', b', t'⟩] rfl rfl ho1 hX1 (sliced_some _) hb1.size (by simp; omega) ?_; intro v2 w2 ho2 hg2; have hb2 := hb1.grown hg2 hb1.size (own_ge ho1))
        | (refine step_app_parts rfl (.tmp 17) (.tmp 19) rfl w7.heap.size v1 _ ([] ++ ps) [⟨k', i', b', t'⟩] rfl rfl (ho1.alloc _) (part_new w1 ⟨k', i', b', t'⟩) (sliced_some _) (by have := hb1.size; simp; omega) (by simp; omega) ?_; intro v2 w2 ho2 hg2; have hb2 := (hb1.alloc hb1.size _).grown hg2 (by have := hb1.size; simp; omega) (own_ge ho1)))
      all_goals
        go_wp2
        go_meet
        exact ⟨ho2, hb2⟩
    case rest =>
      obtain ⟨hP8, hb8⟩ := hcut
      obtain ⟨w8, hw8⟩ : ∃ w8, w8 = wc := ⟨_, rfl⟩
      subst hw8
      have hbp8 := hbp7.keep hb8
      have hbq8 := hbq7.keep hb8
      have hM8 := maxB hM7 hb8
      have hA8 := parts_of_own (owns_below HP7.out hb8)
      have hB8 := parts_of_own hP8
      clear hP8 HP7
      rw [List.nil_append] at hA8 hB8
      have wA : Words (ps ++ [⟨k, i, b, t⟩]) := fun x h => (List.mem_append.1 h).elim (wp x) (fun h => by rw [List.mem_singleton.1 h]; exact wpp)
      have wB : Words (ps ++ [⟨k', i', b', t'⟩]) := fun x h => (List.mem_append.1 h).elim (wp x) (fun h => by rw [List.mem_singleton.1 h]; exact wqq)
      have CA := fun w1 (h : PartsAt w1 u7 (ps ++ [⟨k, i, b, t⟩])) => check_any u7 _ w1 h wA
      have CB := fun w1 (h : PartsAt w1 u8 (ps ++ [⟨k', i', b', t'⟩])) => check_any u8 _ w1 h wB
      have hcl := cmpL_last ⟨k, i, b, t⟩ ⟨k', i', b', t'⟩ ps
      have hb08 : Below w.heap.size w w8 := (hb0.trans (hb7.mono hb0.size)).trans (hb8.mono (Nat.le_trans hb0.size hb7.size))
      have hz8 := hb08.size
      clear wA wB hbp hbq hbp7 hbq7 hb0 hb7 hb8 hpz hp7 hM0 hM7 hM wp wpp wqq hp sv
      cases ka : keyB (ps ++ [⟨k, i, b, t⟩])
      · rw [check_no ka] at CA
        clear CB ka hcl hB8
        go_wp2_with (first
          | (go_at_call 6; refine (fixed_any _ hM8).mono ?_; rintro e w9 ⟨rfl, hb9⟩; have hM9 := maxB hM8 hb9; have hA9 := hA8.below hb9)
          | (go_at_call 7; with_reducible refine (CA _ hA9).mono ?_; rintro e w10 ⟨rfl, hb10⟩; have hM10 := maxB hM9 hb10)
          | (go_at_call 6; refine (fixed_any _ hM10).mono ?_; rintro e w11 ⟨rfl, hb11⟩))
        go_ret
        have x9 := hb08.trans (hb9.mono hz8)
        have x10 := x9.trans (hb10.mono x9.size)
        exact ⟨rfl, x10.trans (hb11.mono x10.size)⟩
      · rw [check_yes ka] at CA
        have la := (keyB_parts ka).1
        cases kb : keyB (ps ++ [⟨k', i', b', t'⟩])
        · rw [check_no kb] at CB
          clear ka kb hcl la
          go_wp2_with (first
            | (go_at_call 6; refine (fixed_any _ hM8).mono ?_; rintro e w9 ⟨rfl, hb9⟩; have hM9 := maxB hM8 hb9; have hA9 := hA8.below hb9; have hB9 := hB8.below hb9)
            | (go_at_call 7; with_reducible refine (CA _ hA9).mono ?_; rintro e w10 ⟨rfl, hb10⟩; have hM10 := maxB hM9 hb10; have hB10 := hB9.below hb10)
            | (go_at_call 7; with_reducible refine (CB _ hB10).mono ?_; rintro e w11 ⟨rfl, hb11⟩; have hM11 := maxB hM10 hb11)
            | (go_at_call 6; refine (fixed_any _ hM11).mono ?_; rintro e w12 ⟨rfl, hb12⟩))
          go_ret
          have x9 := hb08.trans (hb9.mono hz8)
          have x10 := x9.trans (hb10.mono x9.size)
          have x11 := x10.trans (hb11.mono x10.size)
          exact ⟨rfl, x11.trans (hb12.mono x11.size)⟩
        · rw [check_yes kb] at CB
          have lb := (keyB_parts kb).1
          have K1 := fun w1 (h : PartsAt w1 u7 (ps ++ [⟨k, i, b, t⟩])) (h' : PartsAt w1 u8 (ps ++ [⟨k', i', b', t'⟩])) => kcmp_any u7 u8 _ _ w1 h h' (by omega) (by omega)
          have K2 := fun v1 v2 w1 (h : PartsAt w1 v1 [⟨k, i, b, t⟩]) (h' : PartsAt w1 v2 [⟨k', i', b', t'⟩]) => kcmp_any v1 v2 _ _ w1 h h' (by simp) (by simp)
          rw [hcl] at K1
          generalize cmpL [⟨k, i, b, t⟩] [⟨k', i', b', t'⟩] = r at K1 K2
          clear ka kb hcl la lb
          go_wp2_with (first
            | (go_at_call 6; refine (fixed_any _ hM8).mono ?_; rintro e w9 ⟨rfl, hb9⟩; have hM9 := maxB hM8 hb9; have hA9 := hA8.below hb9; have hB9 := hB8.below hb9)
            | (go_at_call 7; with_reducible refine (CA _ hA9).mono ?_; rintro e w10 ⟨rfl, hb10⟩; have hA10 := hA9.below hb10; have hB10 := hB9.below hb10)
            | (go_at_call 7; with_reducible refine (CB _ hB10).mono ?_; rintro e w11 ⟨rfl, hb11⟩; have hA11 := hA10.below hb11; have hB11 := hB10.below hb11))
          have x9 := hb08.trans (hb9.mono hz8)
          have x10 := x9.trans (hb10.mono x9.size)
          have x11 := x10.trans (hb11.mono x10.size)
          have hbp11 := ((hbp8.keep hb9).keep hb10).keep hb11
          have hbq11 := ((hbq8.keep hb9).keep hb10).keep hb11
          clear hA8 hB8 hA9 hB9 hA10 hB10 hb08 hb9 hb10 hb11 hbp8 hbq8 hM8 hM9 CA CB x9 x10
          obtain ⟨r0, r1, r2, r3⟩ := Quad.keep hbp11 (Below.refl _ _)
          obtain ⟨s0, s1, s2, s3⟩ := Quad.keep hbq11 (Below.refl _ _)
          have hA_0 : PartsAt w11.drew u7 (ps ++ [⟨k, i, b, t⟩]) := hA11.below (bel_0 w11)
          have hB_0 : PartsAt w11.drew u8 (ps ++ [⟨k', i', b', t'⟩]) := hB11.below (bel_0 w11)
          have hW_0 : Below w11.heap.size w11 w11.drew := bel_0 w11
          have hA_1p : PartsAt (w11.alloc (.cells #[.int .i64 k, .int .i64 i, .int .u64 (b : Int), .string t] 29)).drew u7 (ps ++ [⟨k, i, b, t⟩]) := hA11.below (bel_1 w11 _)
          have hB_1p : PartsAt (w11.alloc (.cells #[.int .i64 k, .int .i64 i, .int .u64 (b : Int), .string t] 29)).drew u8 (ps ++ [⟨k', i', b', t'⟩]) := hB11.below (bel_1 w11 _)
          have hW_1p : Below w11.heap.size w11 (w11.alloc (.cells #[.int .i64 k, .int .i64 i, .int .u64 (b : Int), .string t] 29)).drew := bel_1 w11 _
          have hA_1q : PartsAt (w11.alloc (.cells #[.int .i64 k', .int .i64 i', .int .u64 (b' : Int), .string t'] 29)).drew u7 (ps ++ [⟨k, i, b, t⟩]) := hA11.below (bel_1 w11 _)
          have hB_1q : PartsAt (w11.alloc (.cells #[.int .i64 k', .int .i64 i', .int .u64 (b' : Int), .string t'] 29)).drew u8 (ps ++ [⟨k', i', b', t'⟩]) := hB11.below (bel_1 w11 _)
          have hW_1q : Below w11.heap.size w11 (w11.alloc (.cells #[.int .i64 k', .int .i64 i', .int .u64 (b' : Int), .string t'] 29)).drew := bel_1 w11 _
          have hA_2p : PartsAt ((w11.alloc (.cells #[.int .i64 k, .int .i64 i, .int .u64 (b : Int), .string t] 29)).alloc (.cells #[.int .i64 k', .int .i64 i', .int .u64 (b' : Int), .string t'] 29)).drew u7 (ps ++ [⟨k, i, b, t⟩]) := hA11.below (bel_b w11 _ _)
          have hB_2p : PartsAt ((w11.alloc (.cells #[.int .i64 k, .int .i64 i, .int .u64 (b : Int), .string t] 29)).alloc (.cells #[.int .i64 k', .int .i64 i', .int .u64 (b' : Int), .string t'] 29)).drew u8 (ps ++ [⟨k', i', b', t'⟩]) := hB11.below (bel_b w11 _ _)
          have hW_2p : Below w11.heap.size w11 ((w11.alloc (.cells #[.int .i64 k, .int .i64 i, .int .u64 (b : Int), .string t] 29)).alloc (.cells #[.int .i64 k', .int .i64 i', .int .u64 (b' : Int), .string t'] 29)).drew := bel_b w11 _ _
          have hA_2q : PartsAt ((w11.alloc (.cells #[.int .i64 k', .int .i64 i', .int .u64 (b' : Int), .string t'] 29)).alloc (.cells #[.int .i64 k, .int .i64 i, .int .u64 (b : Int), .string t] 29)).drew u7 (ps ++ [⟨k, i, b, t⟩]) := hA11.below (bel_b w11 _ _)
          have hB_2q : PartsAt ((w11.alloc (.cells #[.int .i64 k', .int .i64 i', .int .u64 (b' : Int), .string t'] 29)).alloc (.cells #[.int .i64 k, .int .i64 i, .int .u64 (b : Int), .string t] 29)).drew u8 (ps ++ [⟨k', i', b', t'⟩]) := hB11.below (bel_b w11 _ _)
          have hW_2q : Below w11.heap.size w11 ((w11.alloc (.cells #[.int .i64 k', .int .i64 i', .int .u64 (b' : Int), .string t'] 29)).alloc (.cells #[.int .i64 k, .int .i64 i, .int .u64 (b : Int), .string t] 29)).drew := bel_b w11 _ _
          go_region_held3 (fun w' => w'.cell? ⟨w.heap.size, 0, none⟩ = some (.int .i64 k) ∧ w'.cell? ⟨w.heap.size, 1, none⟩ = some (.int .i64 i) ∧ w'.cell? ⟨w.heap.size, 2, none⟩ = some (.int .u64 (b : Int)) ∧ w'.cell? ⟨w.heap.size, 3, none⟩ = some (.string t) ∧ w'.cell? ⟨w.heap.size + 1, 0, none⟩ = some (.int .i64 k') ∧ w'.cell? ⟨w.heap.size + 1, 1, none⟩ = some (.int .i64 i') ∧ w'.cell? ⟨w.heap.size + 1, 2, none⟩ = some (.int .u64 (b' : Int)) ∧ w'.cell? ⟨w.heap.size + 1, 3, none⟩ = some (.string t')) (first | with_reducible exact both8 hTp hTq | with_reducible exact both8 hSp hSq | with_reducible exact both8 hbp11 hbq11 | exact both8 (hbp11.keep (bel_0 w11)) (hbq11.keep (bel_0 w11)) | with_reducible exact both8 (hSp.keep (al1 _ _)) (hSq.keep (al1 _ _)) | with_reducible exact both8 (hSp.keep (al2 _ _ _)) (hSq.keep (al2 _ _ _)) | with_reducible exact both8 (hbp11.keep (bel_1 w11 _)) (hbq11.keep (bel_1 w11 _)) | with_reducible exact both8 (hbp11.keep (bel_b w11 _ _)) (hbq11.keep (bel_b w11 _ _)) | go_keep) ((first
            | (go_at_call 8; refine (K2 _ _ _ (by with_reducible exact hXp) (by with_reducible exact hXq)).mono ?_; rintro e w13 ⟨rfl, hb13⟩; have h1213 : Below w12.heap.size w12 w13 := (by first | exact hb13 | exact (al1 w12 _).trans (hb13.mono (al1 w12 _).size) | exact (al2 w12 _ _).trans (hb13.mono (al2 w12 _ _).size)); have hTp := Quad.keep hSp h1213; have hTq := Quad.keep hSq h1213; have h13 := h12.trans (h1213.mono h12.size))
            | (go_at_call 8; refine (K2 _ _ _ (by with_reducible exact hYp) (by with_reducible exact hYq)).mono ?_; rintro e w13 ⟨rfl, hb13⟩; have h1213 : Below w12.heap.size w12 w13 := (by first | exact hb13 | exact (al1 w12 _).trans (hb13.mono (al1 w12 _).size) | exact (al2 w12 _ _).trans (hb13.mono (al2 w12 _ _).size)); have hTp := Quad.keep hSp h1213; have hTq := Quad.keep hSq h1213; have h13 := h12.trans (h1213.mono h12.size))
            | (go_at_call 8; refine (K1 _ (by with_reducible exact hA_0) (by with_reducible exact hB_0)).mono ?_; rintro e w12 ⟨rfl, hb12⟩; have h12 : Below w11.heap.size w11 w12 := hW_0.trans (hb12.mono hW_0.size); have hSp := Quad.keep hbp11 h12; have hSq := Quad.keep hbq11 h12; have hXp : PartsAt ((w12.alloc (.cells #[.int .i64 k, .int .i64 i, .int .u64 (b : Int), .string t] 29)).alloc (.cells #[.int .i64 k', .int .i64 i', .int .u64 (b' : Int), .string t'] 29)) (.slice (some ⟨w12.heap.size, 0, none⟩) 1 1) [⟨k, i, b, t⟩] := (part_new w12 ⟨k, i, b, t⟩).below (al1 _ _); have hXq : PartsAt ((w12.alloc (.cells #[.int .i64 k, .int .i64 i, .int .u64 (b : Int), .string t] 29)).alloc (.cells #[.int .i64 k', .int .i64 i', .int .u64 (b' : Int), .string t'] 29)) (.slice (some ⟨w12.heap.size + 1, 0, none⟩) 1 1) [⟨k', i', b', t'⟩] := part_new1 w12 _ ⟨k', i', b', t'⟩; have hYp : PartsAt ((w12.alloc (.cells #[.int .i64 k', .int .i64 i', .int .u64 (b' : Int), .string t'] 29)).alloc (.cells #[.int .i64 k, .int .i64 i, .int .u64 (b : Int), .string t] 29)) (.slice (some ⟨w12.heap.size + 1, 0, none⟩) 1 1) [⟨k, i, b, t⟩] := part_new1 w12 _ ⟨k, i, b, t⟩; have hYq : PartsAt ((w12.alloc (.cells #[.int .i64 k', .int .i64 i', .int .u64 (b' : Int), .string t'] 29)).alloc (.cells #[.int .i64 k, .int .i64 i, .int .u64 (b : Int), .string t] 29)) (.slice (some ⟨w12.heap.size, 0, none⟩) 1 1) [⟨k', i', b', t'⟩] := (part_new w12 ⟨k', i', b', t'⟩).below (al1 _ _))
            | (go_at_call 8; refine (K1 _ (by with_reducible exact hA_1p) (by with_reducible exact hB_1p)).mono ?_; rintro e w12 ⟨rfl, hb12⟩; have h12 : Below w11.heap.size w11 w12 := hW_1p.trans (hb12.mono hW_1p.size); have hSp := Quad.keep hbp11 h12; have hSq := Quad.keep hbq11 h12; have hXp : PartsAt (w12.alloc (.cells #[.int .i64 k', .int .i64 i', .int .u64 (b' : Int), .string t'] 29)) (.slice (some ⟨w11.heap.size, 0, none⟩) 1 1) [⟨k, i, b, t⟩] := (PartsAt.below (w := (w11.alloc (.cells #[.int .i64 k, .int .i64 i, .int .u64 (b : Int), .string t] 29)).drew) (part_new w11 ⟨k, i, b, t⟩) hb12).below (al1 _ _); have hXq : PartsAt (w12.alloc (.cells #[.int .i64 k', .int .i64 i', .int .u64 (b' : Int), .string t'] 29)) (.slice (some ⟨w12.heap.size, 0, none⟩) 1 1) [⟨k', i', b', t'⟩] := part_new w12 ⟨k', i', b', t'⟩)
            | (go_at_call 8; refine (K1 _ (by with_reducible exact hA_1q) (by with_reducible exact hB_1q)).mono ?_; rintro e w12 ⟨rfl, hb12⟩; have h12 : Below w11.heap.size w11 w12 := hW_1q.trans (hb12.mono hW_1q.size); have hSp := Quad.keep hbp11 h12; have hSq := Quad.keep hbq11 h12; have hXp : PartsAt (w12.alloc (.cells #[.int .i64 k, .int .i64 i, .int .u64 (b : Int), .string t] 29)) (.slice (some ⟨w12.heap.size, 0, none⟩) 1 1) [⟨k, i, b, t⟩] := part_new w12 ⟨k, i, b, t⟩; have hXq : PartsAt (w12.alloc (.cells #[.int .i64 k, .int .i64 i, .int .u64 (b : Int), .string t] 29)) (.slice (some ⟨w11.heap.size, 0, none⟩) 1 1) [⟨k', i', b', t'⟩] := (PartsAt.below (w := (w11.alloc (.cells #[.int .i64 k', .int .i64 i', .int .u64 (b' : Int), .string t'] 29)).drew) (part_new w11 ⟨k', i', b', t'⟩) hb12).below (al1 _ _))
            | (go_at_call 8; refine (K1 _ (by with_reducible exact hA_2p) (by with_reducible exact hB_2p)).mono ?_; rintro e w12 ⟨rfl, hb12⟩; have h12 : Below w11.heap.size w11 w12 := hW_2p.trans (hb12.mono hW_2p.size); have hSp := Quad.keep hbp11 h12; have hSq := Quad.keep hbq11 h12; have hXp : PartsAt w12 (.slice (some ⟨w11.heap.size, 0, none⟩) 1 1) [⟨k, i, b, t⟩] := PartsAt.below (w := ((w11.alloc (.cells #[.int .i64 k, .int .i64 i, .int .u64 (b : Int), .string t] 29)).alloc (.cells #[.int .i64 k', .int .i64 i', .int .u64 (b' : Int), .string t'] 29)).drew) ((part_new w11 ⟨k, i, b, t⟩).below (bel_1 _ _)) hb12; have hXq : PartsAt w12 (.slice (some ⟨w11.heap.size + 1, 0, none⟩) 1 1) [⟨k', i', b', t'⟩] := PartsAt.below (w := ((w11.alloc (.cells #[.int .i64 k, .int .i64 i, .int .u64 (b : Int), .string t] 29)).alloc (.cells #[.int .i64 k', .int .i64 i', .int .u64 (b' : Int), .string t'] 29)).drew) (part_new1 w11 _ ⟨k', i', b', t'⟩) hb12)
            | (go_at_call 8; refine (K1 _ (by with_reducible exact hA_2q) (by with_reducible exact hB_2q)).mono ?_; rintro e w12 ⟨rfl, hb12⟩; have h12 : Below w11.heap.size w11 w12 := hW_2q.trans (hb12.mono hW_2q.size); have hSp := Quad.keep hbp11 h12; have hSq := Quad.keep hbq11 h12; have hXp : PartsAt w12 (.slice (some ⟨w11.heap.size + 1, 0, none⟩) 1 1) [⟨k, i, b, t⟩] := PartsAt.below (w := ((w11.alloc (.cells #[.int .i64 k', .int .i64 i', .int .u64 (b' : Int), .string t'] 29)).alloc (.cells #[.int .i64 k, .int .i64 i, .int .u64 (b : Int), .string t] 29)).drew) (part_new1 w11 _ ⟨k, i, b, t⟩) hb12; have hXq : PartsAt w12 (.slice (some ⟨w11.heap.size, 0, none⟩) 1 1) [⟨k', i', b', t'⟩] := PartsAt.below (w := ((w11.alloc (.cells #[.int .i64 k', .int .i64 i', .int .u64 (b' : Int), .string t'] 29)).alloc (.cells #[.int .i64 k, .int .i64 i, .int .u64 (b : Int), .string t] 29)).drew) ((part_new w11 ⟨k', i', b', t'⟩).below (bel_1 _ _)) hb12)))
          all_goals
            go_wp2
            go_ret
            exact ⟨by first | rfl | exact ret_bool (by simp), x11.trans (h13.mono x11.size)⟩
end Go.Proofs.YtghneolphdfdlabDoor
