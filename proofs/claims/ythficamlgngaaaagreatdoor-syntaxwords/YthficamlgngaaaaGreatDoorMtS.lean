/- Where the first byte is that begins no source character: all ahead of it has source characters alone. -/
import Derived.Test.YthficamlgngaaaaGreatDoorSyWd
import Derived.Test.YthficamlgngaaaaGreatDoorLxI
import Derived.Test.YthficamlgngaaaaGreatDoorLxL
import Derived.Test.YthficamlgngaaaaGreatDoorLxG3
import Derived.Test.YthficamlgngaaaaGreatDoorLxE
namespace Go.Proofs.YthficamlgngaaaaGreatDoor
open Go Go.RowKit Go.Shelf

theorem At.leaf {w : World} {D : Nat → Prop} {v u : Value} (h : At w D (.lf v) u) : u = v := by cases h; rfl
theorem At.rowInv {w : World} {D : Nat → Prop} {E sz n : Nat} {ys : List CT} {u : Value} (h : At w D (.rw E sz n ys) u) : ∃ o cp, u = .slice o n cp ∧ (0 < n → ∃ q cur, o = some ⟨q, 0, none⟩ ∧ n ≤ cp ∧ w.heap[q]? = some (.cells cur E (0, 0)) ∧ D q ∧ n * sz ≤ cur.size ∧ ys.length = n * sz ∧ ∀ (j : Nat) y, ys[j]? = some y → ∃ x, w.cell? ⟨q, j, none⟩ = some x ∧ At w D y x) := by
  cases h with
  | nil => exact ⟨_, _, rfl, fun h => absurd h (Nat.lt_irrefl _)⟩
  | row hb hD hn hl hc hy =>
    rename_i q cp cur
    refine ⟨_, _, rfl, fun _ => ⟨q, cur, rfl, hn, hb, hD, hc, hl, fun j y hj => ?_⟩⟩
    have hlt : j < cur.size := by
      have := (List.getElem?_eq_some_iff.1 hj).1
      omega
    refine ⟨cur[j], by simp [World.cell?, hb, hlt], hy j y _ hj (by simp [hlt])⟩
abbrev fxD : Bs := [123, 97, 58, 98, 40, 99, 58, 91, 49, 44, 36, 100, 93, 44, 101, 58, 123, 102, 58, 110, 117, 108, 108, 125, 41, 32, 64, 103, 123, 46, 46, 46, 104, 32, 46, 46, 46, 111, 110, 32, 73, 123, 106, 125, 125, 125]
abbrev fxQ : Bs := [113, 117, 101, 114, 121, 40, 36, 97, 58, 91, 73, 110, 116, 33, 93, 33, 61, 91, 93, 41, 123, 97, 125]
/-- What of the first document is looked at. -/
structure FxD (w : World) (q0 q1 q2 : Nat) (c1 c2 : Nat) (oa od : Option Addr) (ca cd : Nat) : Prop where
  s : w.cell? ⟨q0, 4, none⟩ = some (.slice (some ⟨q1, 0, none⟩) 1 c1)
  x0 : w.cell? ⟨q1, 0, none⟩ = some (.int .i64 0)
  x1 : w.cell? ⟨q1, 1, none⟩ = some (.string ⟨#[97]⟩)
  x2 : w.cell? ⟨q1, 2, none⟩ = some (.string ⟨#[98]⟩)
  x3 : w.cell? ⟨q1, 3, none⟩ = some (.string ⟨#[]⟩)
  x4 : w.cell? ⟨q1, 4, none⟩ = some (.slice oa 2 ca)
  x5 : w.cell? ⟨q1, 5, none⟩ = some (.slice od 1 cd)
  x6 : w.cell? ⟨q1, 6, none⟩ = some (.slice (some ⟨q2, 0, none⟩) 2 c2)
  y : w.cell? ⟨q2, 0, none⟩ = some (.int .i64 1)
theorem FxD.keep {w w' : World} {q0 q1 q2 c1 c2 : Nat} {oa od : Option Addr} {ca cd : Nat} (h : FxD w q0 q1 q2 c1 c2 oa od ca cd) (hb : Below w.heap.size w w') : FxD w' q0 q1 q2 c1 c2 oa od ca cd :=
  ⟨cell_on hb h.s, cell_on hb h.x0, cell_on hb h.x1, cell_on hb h.x2, cell_on hb h.x3, cell_on hb h.x4, cell_on hb h.x5, cell_on hb h.x6, cell_on hb h.y⟩
structure FxQ (w : World) (p0 p1 : Nat) (c1 : Nat) : Prop where
  v : w.cell? ⟨p0, 2, none⟩ = some (.slice (some ⟨p1, 0, none⟩) 1 c1)
  n : w.cell? ⟨p1, 1, none⟩ = some (.string ⟨#[73, 110, 116]⟩)
  r : w.cell? ⟨p1, 2, none⟩ = some (.string ⟨#[33, 91, 33]⟩)
  h : w.cell? ⟨p1, 3, none⟩ = some (.bool true)
theorem FxQ.keep {w w' : World} {p0 p1 c1 : Nat} (h : FxQ w p0 p1 c1) (hb : Below w.heap.size w w') : FxQ w' p0 p1 c1 := ⟨cell_on hb h.v, cell_on hb h.n, cell_on hb h.r, cell_on hb h.h⟩
abbrev fxSel : List CT := selC 0 [97] [98] [] [sC [99] :: valC 8 [] [valC 4 [49] [] [], valC 3 [100] [] []] [], sC [101] :: valC 9 [] [valC 0 [] [] []] [[sC [102]]]] [[sC [103], rowC 121 5 []]] [selC 1 [] [104] [] [] [] [], selC 2 [] [] [73] [] [] [selC 0 [] [106] [] [] [] []]]
abbrev fxVar : List CT := [sC [97], sC [73, 110, 116], sC [33, 91, 33], bC true] ++ valC 8 [] [] [] ++ [rowC 97 2 []]
set_option maxRecDepth 100000 in
theorem fxD_eq : parseS fxD = .ok (docC [(false, opC 0 [] [] [] [fxSel])]) := by kernel_rfl
set_option maxRecDepth 100000 in
theorem fxQ_eq : parseS fxQ = .ok (docC [(false, opC 0 [] [fxVar] [] [selC 0 [] [97] [] [] [] []])]) := by kernel_rfl
set_option maxRecDepth 100000 in
theorem fxT_eq : parseS [123, 97, 40, 98, 58, 36, 41, 125] = .error (6, 60) := by kernel_rfl
set_option maxRecDepth 100000 in
theorem fxE_eq : parseS [123, 97] = .error (2, 60) := by kernel_rfl
theorem fxN1 : numK [45, 49, 46, 53] = 3 := by kernel_rfl
theorem fxN2 : numK [48, 49] = -1 := by kernel_rfl
theorem fxN3 : nameK [95, 97] = true := by kernel_rfl
theorem fxN4 : nameK [97, 32] = false := by kernel_rfl
theorem fxD_cells {w : World} {lo : Nat} {v : Value} (h : DocV lo (docC [(false, opC 0 [] [] [] [fxSel])]) v w) : ∃ q0 c0 o2 n2 z2 q1 q2 c1 c2 oa od ca cd, v = .agg #[.slice (some ⟨q0, 0, none⟩) 1 c0, .slice o2 n2 z2] ∧ FxD w q0 q1 q2 c1 c2 oa od ca cd := by
  obtain ⟨o1, n1, z1, o2, n2, z2, rfl, ha⟩ := h
  obtain ⟨o, cp, e, hr⟩ := (ha.all 0 _ _ rfl rfl).rowInv
  injection e with e1 e2 e3
  subst e1 e2 e3
  obtain ⟨q0, cur, rfl, _, _, _, _, _, hc⟩ := hr (by decide)
  obtain ⟨x, cx, ax⟩ := hc 4 _ rfl
  obtain ⟨o', cp', rfl, hr'⟩ := ax.rowInv
  obtain ⟨q1, cur', rfl, _, _, _, _, _, hc'⟩ := hr' (by decide)
  obtain ⟨y0, d0, b0⟩ := hc' 0 _ rfl
  obtain ⟨y1, d1, b1⟩ := hc' 1 _ rfl
  obtain ⟨y2, d2, b2⟩ := hc' 2 _ rfl
  obtain ⟨y3, d3, b3⟩ := hc' 3 _ rfl
  obtain ⟨y4, d4, b4⟩ := hc' 4 _ rfl
  obtain ⟨y5, d5, b5⟩ := hc' 5 _ rfl
  obtain ⟨y6, d6, b6⟩ := hc' 6 _ rfl
  obtain rfl := b0.leaf
  obtain rfl := b1.leaf
  obtain rfl := b2.leaf
  obtain rfl := b3.leaf
  obtain ⟨oa, ca, rfl, _⟩ := b4.rowInv
  obtain ⟨od, cd, rfl, _⟩ := b5.rowInv
  obtain ⟨os, cs, rfl, hs⟩ := b6.rowInv
  obtain ⟨q2, cur2, rfl, _, _, _, _, _, hc2⟩ := hs (by decide)
  obtain ⟨z, dz, bz⟩ := hc2 0 _ rfl
  obtain rfl := bz.leaf
  exact ⟨q0, _, _, _, _, q1, q2, _, _, _, _, _, _, rfl, ⟨cx, d0, d1, d2, d3, d4, d5, d6, dz⟩⟩
theorem fxQ_cells {w : World} {lo : Nat} {v : Value} (h : DocV lo (docC [(false, opC 0 [] [fxVar] [] [selC 0 [] [97] [] [] [] []])]) v w) : ∃ p0 c0 o2 n2 z2 p1 c1, v = .agg #[.slice (some ⟨p0, 0, none⟩) 1 c0, .slice o2 n2 z2] ∧ FxQ w p0 p1 c1 := by
  obtain ⟨o1, n1, z1, o2, n2, z2, rfl, ha⟩ := h
  obtain ⟨o, cp, e, hr⟩ := (ha.all 0 _ _ rfl rfl).rowInv
  injection e with e1 e2 e3
  subst e1 e2 e3
  obtain ⟨p0, cur, rfl, _, _, _, _, _, hc⟩ := hr (by decide)
  obtain ⟨x, cx, ax⟩ := hc 2 _ rfl
  obtain ⟨o', cp', rfl, hr'⟩ := ax.rowInv
  obtain ⟨p1, cur', rfl, _, _, _, _, _, hc'⟩ := hr' (by decide)
  obtain ⟨y1, d1, b1⟩ := hc' 1 _ rfl
  obtain ⟨y2, d2, b2⟩ := hc' 2 _ rfl
  obtain ⟨y3, d3, b3⟩ := hc' 3 _ rfl
  obtain rfl := b1.leaf
  obtain rfl := b2.leaf
  obtain rfl := b3.leaf
  exact ⟨p0, _, _, _, _, p1, _, rfl, ⟨cx, d1, d2, d3⟩⟩
/-- What every world of this walk keeps. -/
structure Ok6 (w w' : World) : Prop where
  bel : Below w.heap.size w w'
  gl : Gl w'
theorem Ok6.go {w w1 w2 : World} (h : Ok6 w w1) (hb : Below w1.heap.size w1 w2) : Ok6 w w2 := ⟨h.bel.trans (hb.mono h.bel.size), h.gl.below hb (Nat.le_refl _)⟩
theorem Ok6.alloc {w w1 : World} (h : Ok6 w w1) (o : Obj) : Ok6 w (w1.alloc o) := h.go (al1 w1 o)
theorem fy1 {w0 w : World} (ok : Ok6 w0 w) : Calls Tryz.prog 9 #[.string ⟨#[123, 97, 58, 98, 40, 99, 58, 91, 49, 44, 36, 100, 93, 44, 101, 58, 123, 102, 58, 110, 117, 108, 108, 125, 41, 32, 64, 103, 123, 46, 46, 46, 104, 32, 46, 46, 46, 111, 110, 32, 73, 123, 106, 125, 125, 125]⟩] w fun e w' => ∃ q0 c0 o2 n2 z2 q1 q2 c1 c2 oa od ca cd, e = .returned (.tuple #[.agg #[.slice (some ⟨q0, 0, none⟩) 1 c0, .slice o2 n2 z2], .int .i64 0, .int .i64 0]) ∧ Ok6 w0 w' ∧ FxD w' q0 q1 q2 c1 c2 oa od ca cd := by
  have P := parse_any fxD w ok.gl
  rw [fxD_eq] at P
  refine P.mono ?_
  rintro e w' ⟨⟨v, rfl, hv⟩, hb⟩
  obtain ⟨q0, c0, o2, n2, z2, q1, q2, c1, c2, oa, od, ca, cd, rfl, fx⟩ := fxD_cells hv
  exact ⟨q0, c0, o2, n2, z2, q1, q2, c1, c2, oa, od, ca, cd, rfl, ok.go hb, fx⟩
theorem fy2 {w0 w : World} (ok : Ok6 w0 w) : Calls Tryz.prog 9 #[.string ⟨#[123, 97, 40, 98, 58, 36, 41, 125]⟩] w fun e w' => e = .returned (.tuple #[.agg #[.slice none 0 0, .slice none 0 0], .int .i64 6, .int .i64 60]) ∧ Ok6 w0 w' ∧ Below w.heap.size w w' := by
  have P := parse_any [123, 97, 40, 98, 58, 36, 41, 125] w ok.gl
  rw [fxT_eq] at P
  exact P.mono (fun e w' h => ⟨h.1, ok.go h.2, h.2⟩)
theorem fy3 {w0 w : World} (ok : Ok6 w0 w) : Calls Tryz.prog 9 #[.string ⟨#[123, 97]⟩] w fun e w' => e = .returned (.tuple #[.agg #[.slice none 0 0, .slice none 0 0], .int .i64 2, .int .i64 60]) ∧ Ok6 w0 w' ∧ Below w.heap.size w w' := by
  have P := parse_any [123, 97] w ok.gl
  rw [fxE_eq] at P
  exact P.mono (fun e w' h => ⟨h.1, ok.go h.2, h.2⟩)
theorem fy4 {w0 w : World} (ok : Ok6 w0 w) : Calls Tryz.prog 9 #[.string ⟨#[113, 117, 101, 114, 121, 40, 36, 97, 58, 91, 73, 110, 116, 33, 93, 33, 61, 91, 93, 41, 123, 97, 125]⟩] w fun e w' => ∃ p0 c0 o2 n2 z2 p1 c1, e = .returned (.tuple #[.agg #[.slice (some ⟨p0, 0, none⟩) 1 c0, .slice o2 n2 z2], .int .i64 0, .int .i64 0]) ∧ Ok6 w0 w' ∧ FxQ w' p0 p1 c1 ∧ Below w.heap.size w w' := by
  have P := parse_any fxQ w ok.gl
  rw [fxQ_eq] at P
  refine P.mono ?_
  rintro e w' ⟨⟨v, rfl, hv⟩, hb⟩
  obtain ⟨p0, c0, o2, n2, z2, p1, c1, rfl, fx⟩ := fxQ_cells hv
  exact ⟨p0, c0, o2, n2, z2, p1, c1, rfl, ok.go hb, fx, hb⟩
end Go.Proofs.YthficamlgngaaaaGreatDoor
namespace Go.Proofs.YthficamlgngaaaaGreatDoor
open Go Go.RowKit Go.Shelf
theorem fy5 {w0 w : World} (ok : Ok6 w0 w) (s : Bs) (x : Int) (hx : numK s = x) : Calls Tryz.prog 13 #[.string ⟨s.toArray⟩] w fun e w' => e = .returned (.int .i64 x) ∧ Ok6 w0 w' ∧ Below w.heap.size w w' := by
  have P := ynumber_any s w ok.gl
  rw [hx] at P
  exact P.mono (fun e w' h => ⟨h.1, ok.go h.2, h.2⟩)
theorem fy6 {w0 w : World} (ok : Ok6 w0 w) (s : Bs) (x : Bool) (hx : nameK s = x) : Calls Tryz.prog 15 #[.string ⟨s.toArray⟩] w fun e w' => e = .returned (.bool x) ∧ Ok6 w0 w' ∧ Below w.heap.size w w' := by
  have P := yname_any s w ok.gl
  rw [hx] at P
  exact P.mono (fun e w' h => ⟨h.1, ok.go h.2, h.2⟩)
set_option maxRecDepth 100000 in
set_option maxHeartbeats 8000000 in
theorem fixed_any (w : World) (gl : Gl w) : Calls Tryz.prog 11 #[] w fun e w' => e = .returned (.bool true) ∧ Below w.heap.size w w' := by
  have ok : Ok6 w w := ⟨Below.refl _ _, gl⟩
  clear gl
  go_enter Tryz.func11, Tryz.ntmps11
  go_wp2_with (first
    | (go_at_call 15; (with_reducible refine (fy6 ok7 [97, 32] false fxN4).mono ?_); rintro e w8 ⟨rfl, ok8, b8⟩)
    | (go_at_call 15; (with_reducible refine (fy6 ok6 [95, 97] true fxN3).mono ?_); rintro e w7 ⟨rfl, ok7, b7⟩)
    | (go_at_call 13; (with_reducible refine (fy5 ok5 [48, 49] (-1) fxN2).mono ?_); rintro e w6 ⟨rfl, ok6, b6⟩)
    | (go_at_call 13; (with_reducible refine (fy5 (ok4.alloc _ |>.alloc _) [45, 49, 46, 53] 3 fxN1).mono ?_); rintro e w5 ⟨rfl, ok5, b5⟩)
    | (go_at_call 9; (with_reducible refine (fy4 (ok3.alloc _)).mono ?_); rintro e w4 ⟨p0, r0, o4, n4, z4, p1, r1, rfl, ok4, fq, b4⟩; have fd4 := (fd3.keep (al1 w3 (.cells #[.slice none 0 0, .slice none 0 0] 25))).keep b4; have d0 := cell_on b4 (cell_on (al1 w3 (.cells #[.slice none 0 0, .slice none 0 0] 25)) e3); obtain ⟨s1, x0, x1, x2, x3, x4, x5, x6, y0⟩ := fd4; obtain ⟨v1, v2, v3, v4⟩ := fq; have A1 := fun o => cell_on (al1 w4 o) s1; have A2 := fun o => cell_on (al1 w4 o) x0; have A3 := fun o => cell_on (al1 w4 o) x1; have A4 := fun o => cell_on (al1 w4 o) x2; have A5 := fun o => cell_on (al1 w4 o) x3; have A6 := fun o => cell_on (al1 w4 o) x4; have A7 := fun o => cell_on (al1 w4 o) x5; have A8 := fun o => cell_on (al1 w4 o) x6; have A9 := fun o => cell_on (al1 w4 o) d0; have B1 := fun o => cell_on (al1 w4 o) v1; have B2 := fun o o' => cell_on (al1 (w4.alloc o) o') (cell_on (al1 w4 o) v1); have B3 := fun o o' => cell_on (al1 (w4.alloc o) o') (cell_on (al1 w4 o) v2); have B4 := fun o o' => cell_on (al1 (w4.alloc o) o') (cell_on (al1 w4 o) v3); have B5 := fun o o' => cell_on (al1 (w4.alloc o) o') (cell_on (al1 w4 o) v4); have B6 := fun o o' => cell_on (al1 (w4.alloc o) o') (cell_on (al1 w4 o) y0))
    | (go_at_call 9; (with_reducible refine (fy3 (ok2.alloc _)).mono ?_); rintro e w3 ⟨rfl, ok3, b3⟩; have fd3 := (fd2.keep (al1 w2 (.cells #[.slice none 0 0, .slice none 0 0] 25))).keep b3; have e3 := cell_on b3 (cell_on (al1 w2 (.cells #[.slice none 0 0, .slice none 0 0] 25)) e2))
    | (go_at_call 9; (with_reducible refine (fy2 (ok1.alloc _)).mono ?_); rintro e w2 ⟨rfl, ok2, b2⟩; have fd2 := (fd1.keep (al1 w1 (.cells #[.slice (some ⟨q0, 0, none⟩) 1 c0, .slice o2 n2 z2] 25))).keep b2; have e2 := cell_on b2 (row2 (heap_alloc_new w1 (.cells #[.slice (some ⟨q0, 0, none⟩) 1 c0, .slice o2 n2 z2] 25))).1)
    | (go_at_call 9; (with_reducible refine (fy1 ok).mono ?_); rintro e w1 ⟨q0, c0, o2, n2, z2, q1, q2, c1, c2, oa, od, ca, cd, rfl, ok1, fd1⟩)
    | fail)
  go_ret
  exact ⟨rfl, ok8.bel⟩
end Go.Proofs.YthficamlgngaaaaGreatDoor
namespace Go.Proofs.YthficamlgngaaaaGreatDoor
open Go Go.RowKit

def encL (n : Nat) : List Nat :=
  if n < 128 then [n] else if n < 2048 then [192 + n / 64, 128 + n % 64] else if n < 65536 then [224 + n / 4096, 128 + n / 64 % 64, 128 + n % 64] else [240 + n / 262144, 128 + n / 4096 % 64, 128 + n / 64 % 64, 128 + n % 64]
theorem valid_char (n : Nat) (h : charB (n : Int) = true) : Utf8.valid (n : Int) = true ∧ n ≤ 1114111 ∧ (n < 55296 ∨ 57343 < n) := by
  unfold charB validB at h
  unfold Utf8.valid
  simp only [Bool.and_eq_true, Bool.or_eq_true, decide_eq_true_eq] at h ⊢
  omega
theorem encode_list (n : Nat) (h : charB (n : Int) = true) : Utf8.encode (n : Int) = ⟨((encL n).map UInt8.ofNat).toArray⟩ := by
  have hv := (valid_char n h).1
  unfold Utf8.encode encL
  simp only [hv, if_true, Int.toNat_natCast]
  repeat' split
  all_goals first | rfl | (exfalso; omega)

set_option maxHeartbeats 400000 in
theorem ris_any (c : Int) (w : World) : Calls Tryz.prog 121 #[.int .i64 c] w fun e w' => e = .returned (.bool (charB c)) ∧ w' = w := by
  go_enter Tryz.func121, Tryz.ntmps121
  go_wp2
  all_goals (go_ret; refine ⟨ret_bool ?_, rfl⟩; go_light; unfold charB validB; first | (symm; simp; omega) | (rw [Bool.eq_iff_iff]; simp; omega))
theorem u8_cellO (x : Nat) (y : Int) (hx : x < 256) (hy : y = x) : Value.int .u8 y = .int .u8 ((UInt8.ofNat x).toNat : Int) := by
  rw [hy]
  simp
  omega

theorem rconv_1 (c : Int) (w : World) (hc : charB c = true) (h0 : 0 ≤ c) (h1 : c < 128) :
    (convert 37 9 (.slice (some ⟨w.heap.size, 0, none⟩) 1 1)).run Tryz.prog (w.alloc (.cells #[.int .u8 (c)] 5)) = .ok (.string (Utf8.encode c)) (w.alloc (.cells #[.int .u8 (c)] 5)) := by
  obtain ⟨n, rfl⟩ : ∃ n : Nat, c = n := ⟨c.toNat, by omega⟩
  have hl : encL n = [n] := by unfold encL; rw [if_pos (by omega)]
  have hcv := run_convert_bytes_back (P := Tryz.prog) (w.alloc (.cells #[.int .u8 ((n : Int))] 5)) 37 9 5 ⟨w.heap.size, 0, none⟩ 1 ((encL n).map UInt8.ofNat) Tryz.underlying37 Tryz.underlying5 Tryz.underlying9 (by
      rw [hl]
      intro j hj
      match j, hj with
      | 0, _ => exact (cell_new w _ _ _).trans (congrArg some (u8_cellO _ _ (by omega) (by omega)))
      | _ + 1, hj => simp at hj <;> omega)
  rw [← encode_list n hc, List.length_map, hl] at hcv
  exact hcv
set_option maxRecDepth 100000 in
set_option maxHeartbeats 400000 in
theorem rbytes_1 (c : Int) (w : World) (hc : charB c = true) (h0 : 0 ≤ c) (h1 : c < 128) : Calls Tryz.prog 122 #[.int .i64 c] w fun e w' => e = .returned (.string (Utf8.encode c)) ∧ Below w.heap.size w w' := by
  have hcv := rconv_1 c w hc h0 h1
  clear hc
  go_enter Tryz.func122, Tryz.ntmps122
  go_wp2
  go_ret
  exact ⟨rfl, (Below.refl _ _).alloc (Nat.le_refl _) _⟩

theorem rconv_2 (c : Int) (w : World) (hc : charB c = true) (h0 : 128 ≤ c) (h1 : c < 2048) :
    (convert 37 9 (.slice (some ⟨w.heap.size, 0, none⟩) 2 2)).run Tryz.prog (w.alloc (.cells #[.int .u8 (192 + c / 64), .int .u8 (128 + c % 64)] 5)) = .ok (.string (Utf8.encode c)) (w.alloc (.cells #[.int .u8 (192 + c / 64), .int .u8 (128 + c % 64)] 5)) := by
  obtain ⟨n, rfl⟩ : ∃ n : Nat, c = n := ⟨c.toNat, by omega⟩
  have hl : encL n = [192 + n / 64, 128 + n % 64] := by unfold encL; rw [if_neg (by omega), if_pos (by omega)]
  have hcv := run_convert_bytes_back (P := Tryz.prog) (w.alloc (.cells #[.int .u8 (192 + (n : Int) / 64), .int .u8 (128 + (n : Int) % 64)] 5)) 37 9 5 ⟨w.heap.size, 0, none⟩ 2 ((encL n).map UInt8.ofNat) Tryz.underlying37 Tryz.underlying5 Tryz.underlying9 (by
      rw [hl]
      intro j hj
      match j, hj with
      | 0, _ => exact (cell_new w _ _ _).trans (congrArg some (u8_cellO _ _ (by omega) (by omega)))
      | 1, _ => exact (cell_new w _ _ _).trans (congrArg some (u8_cellO _ _ (by omega) (by omega)))
      | _ + 2, hj => simp at hj <;> omega)
  rw [← encode_list n hc, List.length_map, hl] at hcv
  exact hcv
set_option maxRecDepth 100000 in
set_option maxHeartbeats 400000 in
theorem rbytes_2 (c : Int) (w : World) (hc : charB c = true) (h0 : 128 ≤ c) (h1 : c < 2048) : Calls Tryz.prog 122 #[.int .i64 c] w fun e w' => e = .returned (.string (Utf8.encode c)) ∧ Below w.heap.size w w' := by
  have hcv := rconv_2 c w hc h0 h1
  clear hc
  go_enter Tryz.func122, Tryz.ntmps122
  go_wp2
  go_ret
  exact ⟨rfl, (Below.refl _ _).alloc (Nat.le_refl _) _⟩

theorem rconv_3 (c : Int) (w : World) (hc : charB c = true) (h0 : 2048 ≤ c) (h1 : c < 65536) :
    (convert 37 9 (.slice (some ⟨w.heap.size, 0, none⟩) 3 3)).run Tryz.prog (w.alloc (.cells #[.int .u8 (224 + c / 4096), .int .u8 (128 + c / 64 % 64), .int .u8 (128 + c % 64)] 5)) = .ok (.string (Utf8.encode c)) (w.alloc (.cells #[.int .u8 (224 + c / 4096), .int .u8 (128 + c / 64 % 64), .int .u8 (128 + c % 64)] 5)) := by
  obtain ⟨n, rfl⟩ : ∃ n : Nat, c = n := ⟨c.toNat, by omega⟩
  have hl : encL n = [224 + n / 4096, 128 + n / 64 % 64, 128 + n % 64] := by unfold encL; rw [if_neg (by omega), if_neg (by omega), if_pos (by omega)]
  have hcv := run_convert_bytes_back (P := Tryz.prog) (w.alloc (.cells #[.int .u8 (224 + (n : Int) / 4096), .int .u8 (128 + (n : Int) / 64 % 64), .int .u8 (128 + (n : Int) % 64)] 5)) 37 9 5 ⟨w.heap.size, 0, none⟩ 3 ((encL n).map UInt8.ofNat) Tryz.underlying37 Tryz.underlying5 Tryz.underlying9 (by
      rw [hl]
      intro j hj
      match j, hj with
      | 0, _ => exact (cell_new w _ _ _).trans (congrArg some (u8_cellO _ _ (by omega) (by omega)))
      | 1, _ => exact (cell_new w _ _ _).trans (congrArg some (u8_cellO _ _ (by omega) (by omega)))
      | 2, _ => exact (cell_new w _ _ _).trans (congrArg some (u8_cellO _ _ (by omega) (by omega)))
      | _ + 3, hj => simp at hj <;> omega)
  rw [← encode_list n hc, List.length_map, hl] at hcv
  exact hcv
set_option maxRecDepth 100000 in
set_option maxHeartbeats 400000 in
theorem rbytes_3 (c : Int) (w : World) (hc : charB c = true) (h0 : 2048 ≤ c) (h1 : c < 65536) : Calls Tryz.prog 122 #[.int .i64 c] w fun e w' => e = .returned (.string (Utf8.encode c)) ∧ Below w.heap.size w w' := by
  have hcv := rconv_3 c w hc h0 h1
  clear hc
  go_enter Tryz.func122, Tryz.ntmps122
  go_wp2
  go_ret
  exact ⟨rfl, (Below.refl _ _).alloc (Nat.le_refl _) _⟩

theorem rbytes_any (c : Int) (w : World) (hc : charB c = true) (h3 : c < 65536) : Calls Tryz.prog 122 #[.int .i64 c] w fun e w' => e = .returned (.string (Utf8.encode c)) ∧ Below w.heap.size w w' := by
  have hd := charB_bd hc
  by_cases h1 : c < 128
  · exact rbytes_1 c w hc hd.1 h1
  · by_cases h2 : c < 2048
    · exact rbytes_2 c w hc (by omega) h2
    · exact rbytes_3 c w hc (by omega) h3

set_option maxRecDepth 100000 in
set_option maxHeartbeats 1000000 in
theorem unit_any (n : Nat) (hn : n < 65536) (w : World) : Calls Tryz.prog 124 #[.int .i64 (n : Int)] w fun e w' => e = .returned (.string ⟨(unitS n).toArray⟩) ∧ Below w.heap.size w w' := by
  have I := ris_any (n : Int) w
  by_cases hh : 55296 ≤ n ∧ n ≤ 57343
  · rw [show unitS n = halfS n from if_pos hh]
    have hf : charB (n : Int) = false := by
      unfold charB validB
      simp
      omega
    rw [hf] at I
    have hcv := hconv n w (by omega) hn
    have h0' : 2048 ≤ (n : Int) := by omega
    have h1' : (n : Int) < 65536 := by omega
    clear hh hf hn
    generalize halfS n = H at *
    generalize (n : Int) = c at *
    go_enter Tryz.func124, Tryz.ntmps124
    go_wp2_with (go_at_call 121; refine I.mono ?_; rintro e w1 ⟨rfl, rfl⟩)
    go_ret
    exact ⟨rfl, (Below.refl _ _).alloc (Nat.le_refl _) _⟩
  · rw [unitS_else n hh, mk_toList]
    have hf : charB (n : Int) = true := charB_small _ (by omega) (by omega) (by omega)
    rw [hf] at I
    have Y := rbytes_any (n : Int) w hf (by omega)
    clear hh hf hn
    generalize Utf8.encode (n : Int) = H at *
    generalize (n : Int) = c at *
    go_enter Tryz.func124, Tryz.ntmps124
    go_wp2_with (first
      | (go_at_call 121; refine I.mono ?_; rintro e w1 ⟨rfl, rfl⟩)
      | (go_at_call 122; refine Y.mono ?_; rintro e w1 ⟨rfl, hb⟩)
      | fail)
    go_ret
    exact ⟨rfl, hb⟩
end Go.Proofs.YthficamlgngaaaaGreatDoor
namespace Go.Proofs.YthficamlgngaaaaGreatDoor
open Go Go.RowKit

theorem dec_ascii (S : ByteArray) (p : Nat) (h : (S.get! p).toNat < 128) : Utf8.decode S p = ((S.get! p).toNat, 1) := by
  unfold Utf8.decode
  simp only [Nat.add_zero]
  rw [if_pos h]
theorem stC_ascii (S : ByteArray) (p : Nat) (h : (S.get! p).toNat < 128) : stC S p = ((S.get! p).toNat : Int) := by
  unfold stC
  rw [dec_ascii S p h, if_neg]
  intro e
  have := (Prod.mk.inj e).1
  omega
theorem get_mk (x : Bs) (p : Nat) (hp : p < x.length) : (ByteArray.mk x.toArray).get! p = x[p] := by
  show x.toArray[p]! = _
  simp [hp]
theorem src_plain (x : Bs) (h : ∀ c ∈ x, 32 ≤ c.toNat ∧ c.toNat < 128) : srcB x = none := by
  have hw : ∀ n p, walkF ⟨x.toArray⟩ (sourceStep ⟨x.toArray⟩) n p (0, 0) = (0, 0) := by
    intro n
    induction n with
    | zero => intro p; rfl
    | succ n ih =>
      intro p
      unfold walkF
      by_cases hp : p < (ByteArray.mk x.toArray).size
      · rw [if_pos hp]
        have hp' : p < x.length := hp
        have hx := h x[p] (List.getElem_mem hp')
        have hg := get_mk x p hp'
        have hc : sourceB (stC ⟨x.toArray⟩ p) = true := by
          rw [stC_ascii _ _ (by rw [hg]; exact hx.2), hg]
          unfold sourceB
          simp
          omega
        have e : sourceStep ⟨x.toArray⟩ (0, 0) p = ((0, 0), true) := if_pos hc
        rw [e]
        exact ih _
      · rw [if_neg hp]
  unfold srcB sourceS walk
  rw [hw]
  rfl
attribute [local irreducible] srcB unitS
theorem hexV_bd {x : UInt8} {d : Nat} (h : hexV x = some d) : 32 ≤ x.toNat ∧ x.toNat < 128 := by
  unfold hexV at h
  split at h
  · omega
  · split at h
    · omega
    · split at h
      · omega
      · cases h
theorem lineF_esc (n : Nat) (x0 x1 x2 x3 : UInt8) (U : Bs) (h : nmbS [x0, x1, x2, x3, 121, 34] = some (U, [121, 34])) : lineF (n + 4) [120, 92, 117, x0, x1, x2, x3, 121, 34] = some (120 :: (U ++ [121]), []) := by
  have e1 : lineF (n + 4) [120, 92, 117, x0, x1, x2, x3, 121, 34] = (lineF (n + 3) [92, 117, x0, x1, x2, x3, 121, 34]).map fun q => (120 :: q.1, q.2) := rfl
  have e2 : lineF (n + 3) [92, 117, x0, x1, x2, x3, 121, 34] = (escS [117, x0, x1, x2, x3, 121, 34]).bind fun p => (lineF (n + 2) p.2).map fun q => (p.1 ++ q.1, q.2) := rfl
  have e3 : escS [117, x0, x1, x2, x3, 121, 34] = nmbS [x0, x1, x2, x3, 121, 34] := rfl
  have e4 : lineF (n + 2) [121, 34] = some ([121], []) := rfl
  rw [e1, e2, e3, h]
  simp only [Option.bind_some, e4, Option.map_some]
theorem lexS_esc (x0 x1 x2 x3 : UInt8) (d0 d1 d2 d3 : Nat) (h0 : hexV x0 = some d0) (h1 : hexV x1 = some d1) (h2 : hexV x2 = some d2) (h3 : hexV x3 = some d3) (V : Nat) (hV : d0 * 4096 + d1 * 256 + d2 * 16 + d3 = V) :
    lexS [34, 120, 92, 117, x0, x1, x2, x3, 121, 34] = .inr [⟨4, 120 :: (unitS V ++ [121]), 0, 10⟩] := by
  have hn : nmbS [x0, x1, x2, x3, 121, 34] = some (unitS V, [121, 34]) := by
    rw [← hV]
    show ((hexV x0).bind fun x => (hexV x1).bind fun y => (hexV x2).bind fun z => (hexV x3).bind fun t => some (unitS (x * 4096 + y * 256 + z * 16 + t), [121, 34])) = _
    rw [h0, h1, h2, h3]
    simp only [Option.bind_some]
  have hl := lineF_esc 7 x0 x1 x2 x3 (unitS V) hn
  have hs : srcB [34, 120, 92, 117, x0, x1, x2, x3, 121, 34] = none := src_plain _ (by
    intro c hc
    simp at hc
    rcases hc with rfl | rfl | rfl | rfl | rfl | rfl | rfl | rfl | rfl | rfl
    · decide
    · decide
    · decide
    · decide
    · exact hexV_bd h0
    · exact hexV_bd h1
    · exact hexV_bd h2
    · exact hexV_bd h3
    · decide
    · decide)
  have hx : textS [34, 120, 92, 117, x0, x1, x2, x3, 121, 34] = some (120 :: (unitS V ++ [121]), []) := by
    unfold textS
    have e1 : textR [34, 120, 92, 117, x0, x1, x2, x3, 121, 34] = lineF 11 [120, 92, 117, x0, x1, x2, x3, 121, 34] := rfl
    rw [e1, hl]
    simp only [Option.bind_some]
    have e2 : ahead [34, 120, 92, 117, x0, x1, x2, x3, 121, 34] [] = [34, 120, 92, 117, x0, x1, x2, x3, 121, 34] := rfl
    rw [e2, hs]
    simp only [Option.isSome_none, Bool.false_eq_true, if_false]
  have ht : tokS [34, 120, 92, 117, x0, x1, x2, x3, 121, 34] = .ok 4 (120 :: (unitS V ++ [121])) [] := by
    have e1 : tokS [34, 120, 92, 117, x0, x1, x2, x3, 121, 34] = (match textS [34, 120, 92, 117, x0, x1, x2, x3, 121, 34] with
      | none => .bad 52
      | some p => .ok 4 p.1 p.2) := rfl
    rw [e1, hx]
  have hk : skipS [34, 120, 92, 117, x0, x1, x2, x3, 121, 34] = .inl [34, 120, 92, 117, x0, x1, x2, x3, 121, 34] := rfl
  have he : lexS [34, 120, 92, 117, x0, x1, x2, x3, 121, 34] = lexG 10 0 [34, 120, 92, 117, x0, x1, x2, x3, 121, 34] := rfl
  rw [he, lexG_ok hk (by decide) ht, lexG_end rfl]
  rfl
def hexU (n : Nat) : UInt8 := if n < 10 then (48 + n).toUInt8 else (55 + n).toUInt8
theorem hexV_low : ∀ n : Fin 16, hexV (hexD n) = some n.1 := by decide
theorem hexV_cap : ∀ n : Fin 16, hexV (hexU n) = some n.1 := by decide
/-- Both ways of writing a number of 16 bits say the same. -/
theorem lexS_small (n : Nat) (hn : n < 65536) : lexS [34, 120, 92, 117, hexD (n / 4096 % 16), hexD (n / 256 % 16), hexD (n / 16 % 16), hexD (n / 1 % 16), 121, 34] = .inr [⟨4, 120 :: (unitS n ++ [121]), 0, 10⟩] :=
  lexS_esc _ _ _ _ _ _ _ _ (hexV_low ⟨n / 4096 % 16, Nat.mod_lt _ (by decide)⟩) (hexV_low ⟨n / 256 % 16, Nat.mod_lt _ (by decide)⟩) (hexV_low ⟨n / 16 % 16, Nat.mod_lt _ (by decide)⟩) (hexV_low ⟨n / 1 % 16, Nat.mod_lt _ (by decide)⟩) n (by show n / 4096 % 16 * 4096 + n / 256 % 16 * 256 + n / 16 % 16 * 16 + n / 1 % 16 = n; omega)
theorem lexS_great (n : Nat) (hn : n < 65536) : lexS [34, 120, 92, 117, hexU (n / 4096 % 16), hexU (n / 256 % 16), hexU (n / 16 % 16), hexU (n / 1 % 16), 121, 34] = .inr [⟨4, 120 :: (unitS n ++ [121]), 0, 10⟩] :=
  lexS_esc _ _ _ _ _ _ _ _ (hexV_cap ⟨n / 4096 % 16, Nat.mod_lt _ (by decide)⟩) (hexV_cap ⟨n / 256 % 16, Nat.mod_lt _ (by decide)⟩) (hexV_cap ⟨n / 16 % 16, Nat.mod_lt _ (by decide)⟩) (hexV_cap ⟨n / 1 % 16, Nat.mod_lt _ (by decide)⟩) n (by show n / 4096 % 16 * 4096 + n / 256 % 16 * 256 + n / 16 % 16 * 16 + n / 1 % 16 = n; omega)
end Go.Proofs.YthficamlgngaaaaGreatDoor
namespace Go.Proofs.YthficamlgngaaaaGreatDoor
open Go Go.RowKit

/-- Source characters from a place on. -/
def sF (s : ByteArray) (p : Nat) : Int × Int := walk s (sourceStep s) p (0, 0)
theorem sF_end (s : ByteArray) (p : Nat) (h : ¬ p < s.size) : sF s p = (0, 0) := walk_end h
theorem sF_step (s : ByteArray) (p : Nat) (h : p < s.size) : sF s p = if sourceB (stC s p) then sF s (p + stW s p) else ((p : Int), 10) := by
  unfold sF
  rw [walk_step h]
  cases hc : sourceB (stC s p) <;> simp [sourceStep, hc]
theorem stC_eq {s t : ByteArray} {p q : Nat} (h : Utf8.decode s p = Utf8.decode t q) : stC s p = stC t q ∧ stW s p = stW t q := by
  unfold stC stW
  rw [h]
  exact ⟨rfl, rfl⟩
theorem source_dec {s : ByteArray} {p : Nat} (h : sourceB (stC s p) = true) : Utf8.decode s p ≠ (65533, 1) := by
  intro e
  unfold stC at h
  rw [if_pos e] at h
  exact absurd h (by decide)
theorem src_ahead (s : ByteArray) : ∀ (n p : Nat), s.size - p ≤ n → p ≤ s.size →
    sF s p = (0, 0) ∨ ∃ q : Nat, p ≤ q ∧ q < s.size ∧ sF s p = ((q : Int), 10) ∧ sF (s.extract 0 q) p = (0, 0) := by
  intro n
  induction n with
  | zero =>
    intro p hp _
    exact Or.inl (sF_end _ _ (by omega))
  | succ n ih =>
    intro p hp hle
    by_cases h : p < s.size
    · have hw := dec_w s p h
      rw [sF_step s p h]
      by_cases hc : sourceB (stC s p) = true
      · rw [if_pos hc]
        rcases ih (p + stW s p) (by omega) (by omega) with h1 | ⟨q, h1, h2, h3, h4⟩
        · exact Or.inl h1
        · right
          have hd := source_dec hc
          have hz := size_cut s 0 q (by omega)
          obtain ⟨e1, e2⟩ := stC_eq (dec_take s q p (by omega) (by omega) (by unfold stW at h1; omega) hd)
          refine ⟨q, by omega, h2, h3, ?_⟩
          rw [sF_step _ _ (by omega), e1, e2, if_pos hc]; exact h4
      · rw [if_neg hc]
        have hz := size_cut s 0 p (by omega)
        exact Or.inr ⟨p, Nat.le_refl _, h, rfl, sF_end _ _ (by omega)⟩
    · exact Or.inl (sF_end _ _ h)
theorem take_mk (l : Bs) (q : Nat) : (ByteArray.mk l.toArray).extract 0 q = ⟨(l.take q).toArray⟩ := by
  apply ByteArray.ext; apply Array.toList_inj.1
  simp
theorem src_of {x : Bs} (h : sF ⟨x.toArray⟩ 0 = (0, 0)) : srcB x = none := by
  have h' : sourceS ⟨x.toArray⟩ = (0, 0) := h
  unfold srcB
  rw [h']
  rfl
/-- A plain sign is a source character. -/
theorem sF_plain (c : UInt8) (l : Bs) (hc : 32 ≤ c.toNat ∧ c.toNat < 128) : sF ⟨(c :: l).toArray⟩ 0 = sF ⟨(c :: l).toArray⟩ 1 := by
  have hg : (ByteArray.mk (c :: l).toArray).get! 0 = c := get_mk (c :: l) 0 (by simp)
  have h0 : 0 < (ByteArray.mk (c :: l).toArray).size := by
    show 0 < (c :: l).toArray.size
    simp
  have hd := dec_ascii ⟨(c :: l).toArray⟩ 0 (by rw [hg]; exact hc.2)
  have hs := stC_ascii ⟨(c :: l).toArray⟩ 0 (by rw [hg]; exact hc.2)
  rw [sF_step _ _ h0, hs, hg, if_pos]
  · unfold stW
    rw [hd]
    rfl
  · unfold sourceB
    simp
    omega
theorem src_cut (x : Bs) (k : Nat) (h : srcB (35 :: x) = some k) : ∃ j, k = j + 1 ∧ j < x.length ∧ srcB (35 :: x.take j) = none := by
  have hp := sF_plain 35 x (by decide)
  have hz : (ByteArray.mk (35 :: x).toArray).size = x.length + 1 := by
    show (35 :: x).toArray.size = _
    simp
  have h0 : sourceS ⟨(35 :: x).toArray⟩ = sF ⟨(35 :: x).toArray⟩ 1 := hp
  rcases src_ahead ⟨(35 :: x).toArray⟩ _ 1 (Nat.le_refl _) (by omega) with h1 | ⟨q, h1, h2, h3, h4⟩
  · exfalso
    unfold srcB at h
    rw [h0, h1] at h
    cases h
  · obtain ⟨j, rfl⟩ : ∃ j, q = j + 1 := ⟨q - 1, by omega⟩
    refine ⟨j, ?_, by omega, ?_⟩
    · unfold srcB at h
      rw [h0, h3] at h
      simp at h
      omega
    · apply src_of
      rw [sF_plain 35 (x.take j) (by decide)]
      rw [take_mk] at h4
      exact h4
end Go.Proofs.YthficamlgngaaaaGreatDoor
