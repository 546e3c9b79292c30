/- Calls whose answers the document fixes. -/
import Derived.Test.YtebojfipdcicaaaGreatDoorLxA4
import Derived.Test.YtebojfipdcicaaaGreatDoorLxG5
import Derived.Test.YtebojfipdcicaaaGreatDoorLxW
namespace Go.Proofs.YtebojfipdcicaaaGreatDoor
open Go Go.RowKit Go.Shelf

abbrev fxA : Bs := [123, 97, 40, 98, 58, 45, 49, 46, 53, 101, 51, 44, 99, 58, 34, 92, 117, 48, 48, 52, 49, 34, 41, 125, 35, 120]
abbrev fxTs : List Tok := match lexS fxA with | .inr ts => ts | .inl _ => []
theorem fxA_eq : lexS fxA = .inr fxTs := by decide +kernel
theorem fxA_len : fxTs.length = 11 := by decide +kernel
theorem fxA_5 : (fxTs[5]?).map (fun t => (t.k, t.t)) = some (3, [45, 49, 46, 53, 101, 51]) := by decide +kernel
theorem fxA_8 : (fxTs[8]?).map (fun t => (t.k, t.t)) = some (4, [65]) := by decide +kernel
theorem fxB_eq : lexS [32, 32, 34, 92, 120, 34] = .inl (2, 52) := by decide +kernel
theorem fxC_eq : lexS [48, 49, 50, 51] = .inl (0, 51) := by decide +kernel
theorem fxD_eq : lexS [] = .inr [] := by decide +kernel
theorem fxE_eq : blockS [32, 32, 97, 10, 32, 32, 32, 32, 98, 10, 32, 32, 99, 10, 32, 32] = [32, 32, 97, 10, 32, 32, 98, 10, 99] := by decide +kernel
theorem fxF_eq : quoS [97, 34, 10] = [34, 97, 92, 34, 92, 117, 48, 48, 48, 97, 34] := by decide +kernel

/-- The cells of a row of tokens, in any world that keeps it. -/
theorem cellsT_at : ∀ (ts : List Tok) (i : Nat) (t : Tok), ts[i]? = some t → (cellsT ts)[4 * i]? = some (.int .i64 t.k) ∧ (cellsT ts)[4 * i + 1]? = some (.string ⟨t.t.toArray⟩) ∧ (cellsT ts)[4 * i + 2]? = some (.int .i64 (t.b : Int)) ∧ (cellsT ts)[4 * i + 3]? = some (.int .i64 (t.e : Int))
  | [], _, _, h => by simp at h
  | t :: ts, 0, t', h => by
    simp at h
    subst h
    simp [cellsT]
  | t :: ts, i + 1, t', h => by
    have ih := cellsT_at ts i t' (by simpa using h)
    have e : cellsT (t :: ts) = [.int .i64 t.k, .string ⟨t.t.toArray⟩, .int .i64 (t.b : Int), .int .i64 (t.e : Int)] ++ cellsT ts := by simp [cellsT]
    have f : ∀ j, (cellsT (t :: ts))[4 * (i + 1) + j]? = (cellsT ts)[4 * i + j]? := fun j => by
      rw [e, List.getElem?_append_right (by simp; omega)]
      congr 1
      simp
      omega
    exact ⟨(f 0).trans ih.1, (f 1).trans ih.2.1, (f 2).trans ih.2.2.1, (f 3).trans ih.2.2.2⟩
/-- A row of tokens that is not empty: where it lies, and what its cells hold. -/
theorem toks_row {W : World} {B : Nat} {v : Value} {ts : List Tok} (h : Toks W B v ts) (hne : ts ≠ []) : ∃ g cap, v = .slice (some ⟨g, 0, none⟩) ts.length cap ∧ ts.length ≤ cap ∧ B ≤ g ∧ g < W.heap.size ∧ ∀ i t, ts[i]? = some t → W.cell? ⟨g, 4 * i, none⟩ = some (.int .i64 t.k) ∧ W.cell? ⟨g, 4 * i + 1, none⟩ = some (.string ⟨t.t.toArray⟩) ∧ W.cell? ⟨g, 4 * i + 2, none⟩ = some (.int .i64 (t.b : Int)) ∧ W.cell? ⟨g, 4 * i + 3, none⟩ = some (.int .i64 (t.e : Int)) := by
  rcases h.2 with ⟨rfl, h0⟩ | ⟨g, cap, cur, hv, hb, hg, hn, _, _, ht⟩
  · exact absurd (List.length_eq_zero_iff.1 h0) hne
  · refine ⟨g, cap, hv, hn, hb, lt_of_block hg, fun i t hi => ?_⟩
    have hc := cellsT_at ts i t hi
    have f : ∀ j x, (cellsT ts)[j]? = some x → W.cell? ⟨g, j, none⟩ = some x := fun j x hj => by
      rw [← ht, List.getElem?_take] at hj
      split at hj
      · unfold World.cell?
        rw [hg]
        simpa using hj
      · cases hj
    exact ⟨f _ _ hc.1, f _ _ hc.2.1, f _ _ hc.2.2.1, f _ _ hc.2.2.2⟩
theorem toks_below {W W' : World} {B : Nat} {v : Value} {ts : List Tok} (h : Toks W B v ts) (hb : Below W.heap.size W W') : Toks W' B v ts := toks_keep h fun _ hg => hb.block _ (toks_block h hg).1

/-- What of the first tokens is looked at. -/
structure Fx (w : World) (g : Nat) : Prop where
  lt : g < w.heap.size
  a : w.cell? ⟨g, 20, none⟩ = some (.int .i64 3)
  b : w.cell? ⟨g, 21, none⟩ = some (.string ⟨#[45, 49, 46, 53, 101, 51]⟩)
  c : w.cell? ⟨g, 32, none⟩ = some (.int .i64 4)
  d : w.cell? ⟨g, 33, none⟩ = some (.string ⟨#[65]⟩)
theorem Fx.keep {w w' : World} {g : Nat} (h : Fx w g) (hb : Below w.heap.size w w') : Fx w' g ∧ w'.cell? ⟨g, 20, none⟩ = some (.int .i64 3) ∧ w'.cell? ⟨g, 21, none⟩ = some (.string ⟨#[45, 49, 46, 53, 101, 51]⟩) ∧ w'.cell? ⟨g, 32, none⟩ = some (.int .i64 4) ∧ w'.cell? ⟨g, 33, none⟩ = some (.string ⟨#[65]⟩) := by
  have f : ∀ i, w'.cell? ⟨g, i, none⟩ = w.cell? ⟨g, i, none⟩ := fun i => hb.cell (p := ⟨g, i, none⟩) h.lt
  have h1 := (f _).trans h.a
  have h2 := (f _).trans h.b
  have h3 := (f _).trans h.c
  have h4 := (f _).trans h.d
  exact ⟨⟨Nat.lt_of_lt_of_le h.lt hb.size, h1, h2, h3, h4⟩, h1, h2, h3, h4⟩
/-- What every world of this walk keeps. -/
structure Ok (w w' : World) : Prop where
  bel : Below w.heap.size w w'
  gl : Gl w'
  tz : Tz w'
theorem Ok.go {w w1 w2 : World} (h : Ok w w1) (hb : Below w1.heap.size w1 w2) : Ok w w2 :=
  ⟨h.bel.trans (hb.mono h.bel.size), h.gl.below hb (Nat.le_refl _), h.tz.below hb (Nat.le_refl _)⟩
theorem fx1 {w0 w : World} (ok : Ok w0 w) : Calls Tryz.prog 10 #[.string ⟨#[123, 97, 40, 98, 58, 45, 49, 46, 53, 101, 51, 44, 99, 58, 34, 92, 117, 48, 48, 52, 49, 34, 41, 125, 35, 120]⟩] w fun e w' => ∃ g cap, e = .returned (.tuple #[.slice (some ⟨g, 0, none⟩) 11 cap, .int .i64 0, .int .i64 0]) ∧ Fx w' g ∧ Ok w0 w' := by
  have T1 := tokens_any fxA w ok.gl
  rw [fxA_eq] at T1
  have hn := fxA_len
  obtain ⟨t5, e5, k5⟩ := Option.map_eq_some_iff.1 fxA_5
  obtain ⟨t8, e8, k8⟩ := Option.map_eq_some_iff.1 fxA_8
  refine T1.mono ?_
  rintro e w' ⟨⟨v, rfl, ht⟩, hb⟩
  obtain ⟨g, cap, rfl, hcap, hB, hlt, hc⟩ := toks_row ht (fun e => by rw [e] at hn; cases hn)
  rw [hn]
  obtain ⟨a1, a2, _⟩ := hc 5 t5 e5
  obtain ⟨b1, b2, _⟩ := hc 8 t8 e8
  rw [(Prod.mk.inj k5).1] at a1
  rw [(Prod.mk.inj k5).2] at a2
  rw [(Prod.mk.inj k8).1] at b1
  rw [(Prod.mk.inj k8).2] at b2
  exact ⟨g, cap, rfl, ⟨hlt, a1, a2, b1, b2⟩, ok.go hb⟩
theorem fx2 {w0 w : World} (ok : Ok w0 w) {g : Nat} (f : Fx w g) : Calls Tryz.prog 10 #[.string ⟨#[32, 32, 34, 92, 120, 34]⟩] w fun e w' => e = .returned (.tuple #[.slice none 0 0, .int .i64 2, .int .i64 52]) ∧ Fx w' g ∧ Ok w0 w' := by
  have T := tokens_any [32, 32, 34, 92, 120, 34] w ok.gl
  rw [fxB_eq] at T
  refine T.mono ?_
  rintro e w' ⟨rfl, hb⟩
  exact ⟨rfl, (f.keep hb).1, ok.go hb⟩
theorem fx3 {w0 w : World} (ok : Ok w0 w) {g : Nat} (f : Fx w g) : Calls Tryz.prog 10 #[.string ⟨#[48, 49, 50, 51]⟩] w fun e w' => e = .returned (.tuple #[.slice none 0 0, .int .i64 0, .int .i64 51]) ∧ Fx w' g ∧ Ok w0 w' := by
  have T := tokens_any [48, 49, 50, 51] w ok.gl
  rw [fxC_eq] at T
  refine T.mono ?_
  rintro e w' ⟨rfl, hb⟩
  exact ⟨rfl, (f.keep hb).1, ok.go hb⟩
theorem fx4 {w0 w : World} (ok : Ok w0 w) {g : Nat} (f : Fx w g) : Calls Tryz.prog 10 #[.string ⟨#[]⟩] w fun e w' => (∃ a cap, e = .returned (.tuple #[.slice a 0 cap, .int .i64 0, .int .i64 0])) ∧ (Fx w' g ∧ w'.cell? ⟨g, 20, none⟩ = some (.int .i64 3) ∧ w'.cell? ⟨g, 21, none⟩ = some (.string ⟨#[45, 49, 46, 53, 101, 51]⟩) ∧ w'.cell? ⟨g, 32, none⟩ = some (.int .i64 4) ∧ w'.cell? ⟨g, 33, none⟩ = some (.string ⟨#[65]⟩)) ∧ Ok w0 w' := by
  have T := tokens_any [] w ok.gl
  rw [fxD_eq] at T
  refine T.mono ?_
  rintro e w' ⟨⟨v, rfl, ht⟩, hb⟩
  refine ⟨?_, f.keep hb, ok.go hb⟩
  rcases ht.2 with ⟨rfl, _⟩ | ⟨g, cap, cur, rfl, _⟩
  · exact ⟨_, _, rfl⟩
  · exact ⟨_, _, rfl⟩
theorem fx5 {w0 w : World} (ok : Ok w0 w) : Calls Tryz.prog 13 #[.string ⟨#[32, 32, 97, 10, 32, 32, 32, 32, 98, 10, 32, 32, 99, 10, 32, 32]⟩] w fun e w' => e = .returned (.string ⟨#[32, 32, 97, 10, 32, 32, 98, 10, 99]⟩) ∧ Ok w0 w' := by
  have T := block_any [32, 32, 97, 10, 32, 32, 32, 32, 98, 10, 32, 32, 99, 10, 32, 32] (by decide) w ok.gl
  rw [fxE_eq] at T
  exact T.mono fun e w' ⟨h, hb⟩ => ⟨h, ok.go hb⟩
theorem fx6 {w0 w : World} (ok : Ok w0 w) : Calls Tryz.prog 15 #[.string ⟨#[97, 34, 10]⟩] w fun e w' => e = .returned (.string ⟨#[34, 97, 92, 34, 92, 117, 48, 48, 48, 97, 34]⟩) ∧ Ok w0 w' := by
  have T := quote_any [97, 34, 10] (by decide) w ok.tz
  rw [fxF_eq] at T
  exact T.mono fun e w' ⟨h, hb⟩ => ⟨h, ok.go hb⟩

set_option maxRecDepth 100000 in
set_option maxHeartbeats 4000000 in
theorem fixed_any (w : World) (gl : Gl w) (hz : Tz w) : Calls Tryz.prog 12 #[] w fun e w' => e = .returned (.bool true) ∧ Below w.heap.size w w' := by
  have ok : Ok w w := ⟨Below.refl _ _, gl, hz⟩
  clear gl hz
  go_enter Tryz.func12, Tryz.ntmps12
  go_wp2_with (first
    | (go_at_call 15; with_reducible refine (fx6 ok5).mono ?_; rintro e w6 ⟨rfl, ok6⟩)
    | (go_at_call 13; with_reducible refine (fx5 ok4).mono ?_; rintro e w5 ⟨rfl, ok5⟩)
    | (go_at_call 10; with_reducible refine (fx4 ok3 f3).mono ?_; rintro e w4 ⟨⟨a4, c4, rfl⟩, ⟨f4, q1, q2, q3, q4⟩, ok4⟩)
    | (go_at_call 10; with_reducible refine (fx3 ok2 f2).mono ?_; rintro e w3 ⟨rfl, f3, ok3⟩)
    | (go_at_call 10; with_reducible refine (fx2 ok1 f1).mono ?_; rintro e w2 ⟨rfl, f2, ok2⟩)
    | (go_at_call 10; with_reducible refine (fx1 ok).mono ?_; rintro e w1 ⟨g, cap, rfl, f1, ok1⟩)
    | fail)
  go_ret
  exact ⟨rfl, ok6.bel⟩
end Go.Proofs.YtebojfipdcicaaaGreatDoor
