/- The law: the program's tokens are the document's. -/
import Derived.Test.YtebojfipdcicaaaGreatDoorXrV
import Derived.Test.YtebojfipdcicaaaGreatDoorLxEn3
namespace Go.Proofs.YtebojfipdcicaaaGreatDoor
open Go Go.RowKit
attribute [local irreducible] srcB unitS

/-- What of a document's tokens the law looks at. -/
def TokW (w : World) (ts : List Tok) (b : Nat) (x : Int) (e : Ending) (w' : World) : Prop := ∃ v, e = .returned (.tuple #[v, .int .i64 (b : Int), .int .i64 x]) ∧ Toks w' w.heap.size v ts ∧ Below w.heap.size w w'
theorem tokW_of (r : (Nat × Int) ⊕ List Tok) : ∃ (ts : List Tok) (b : Nat) (x : Int), (∀ l, r = .inr l → ts = l) ∧ (∀ p, r = .inl p → ts = []) ∧ ∀ w e w', TokensP w r e w' → TokW w ts b x e w' := by
  cases r with
  | inl p =>
    refine ⟨[], p.1, p.2, fun l h => (by cases h), fun _ _ => rfl, ?_⟩
    rintro w e w' ⟨rfl, hb⟩
    exact ⟨_, rfl, ⟨rfl, Or.inl ⟨rfl, rfl⟩⟩, hb⟩
  | inr ts =>
    refine ⟨ts, 0, 0, fun l h => (by cases h; rfl), fun p h => (by cases h), ?_⟩
    rintro w e w' ⟨⟨v, rfl, ht⟩, hb⟩
    exact ⟨v, rfl, ht, hb⟩
/-- The row that is written over. -/
structure Zr (wr wr' : World) (a : Option Addr) (n : Nat) : Prop where
  bel : Below wr.heap.size wr wr'
  row : n ≠ 0 → ∃ g cs, a = some ⟨g, 0, none⟩ ∧ wr.heap.size ≤ g ∧ wr'.heap[g]? = some (.cells cs 28 (0, 0)) ∧ n * 4 ≤ cs.size
theorem zr_of {wr w1 : World} {a : Option Addr} {c : Nat} {ts : List Tok} (h : Toks w1 wr.heap.size (.slice a ts.length c) ts) (hb : Below wr.heap.size wr w1) : Zr wr w1 a ts.length := by
  refine ⟨hb, fun hn => ?_⟩
  have hne : ts ≠ [] := fun e => hn (by rw [e]; rfl)
  rcases h.2 with ⟨_, h0⟩ | ⟨g, cap, cur, hv, hg, hh, hc, _, hz, _⟩
  · exact absurd (List.length_eq_zero_iff.1 h0) hne
  · injection hv with e1 e2 e3
    refine ⟨g, cur, e1, hg, hh, ?_⟩
    rw [hz]
    exact Nat.mul_le_mul_right 4 hc
theorem Zr.drew {wr w1 : World} {a : Option Addr} {n : Nat} (h : Zr wr w1 a n) (m : Nat) : Zr wr (w1.drewN m) a n := ⟨⟨h.bel.os, h.bel.tape, h.bel.output, h.bel.size, h.bel.block⟩, h.row⟩
theorem Zr.set {wr w1 : World} {g n : Nat} (h : Zr wr w1 (some ⟨g, 0, none⟩) n) (i : Nat) (v : Value) (hn : n ≠ 0) : Zr wr (w1.setCell ⟨g, i, none⟩ v) (some ⟨g, 0, none⟩) n := by
  obtain ⟨g', cs, e, hg, hh, hc⟩ := h.row hn
  cases e
  refine ⟨h.bel.setCell hg _, fun _ => ⟨g, cs.setIfInBounds i v, rfl, hg, ?_, by simpa using hc⟩⟩
  simp [World.setCell, Array.getElem?_modify, hh]
theorem Zr.cell {wr w1 : World} {g n : Nat} (h : Zr wr w1 (some ⟨g, 0, none⟩) n) (i : Nat) (hn : i < n * 4) : (∃ v, w1.cell? ⟨g, i, none⟩ = some v) ∧ w1.frozen? ⟨g, i, none⟩ = false := by
  obtain ⟨g', cs, e, hg, hh, hc⟩ := h.row (by omega)
  cases e
  exact ⟨⟨cs[i]'(by omega), by simp [World.cell?, hh, show i < cs.size by omega]⟩, frozen_of_row w1 _ i _ _ hh⟩

set_option maxRecDepth 100000 in
set_option maxHeartbeats 2000000 in
theorem reads_walk (D : ByteArray) (ts : List Tok) (b : Nat) (x : Int) (hl : ts.length ≤ 2048) (X : ∀ w, Calls Tryz.prog 9 #[.string D] w (TokW w ts b x)) (T : ∀ w, Gl w → Calls Tryz.prog 10 #[.string D] w (TokW w ts b x)) (w : World) (gl : Gl w) (hz : Tz w) :
    Calls Tryz.prog 3 #[.string D] w fun e w' => e = .returned (.bool true) ∧ Below w.heap.size w w' := by
  have ok : Ok w w := ⟨Below.refl _ _, gl, hz⟩
  clear gl hz
  go_enter Tryz.func3, Tryz.ntmps3
  go_wp2_with (first
    | (go_at_call 9; (with_reducible refine (X _).mono ?_); rintro e w0 ⟨v0, rfl, ht0, hb0⟩; have ok0 := ok.go hb0; have hr0 := toksAt_own ht0; obtain ⟨a0, c0, rfl⟩ := toks_sl ht0)
    | fail)
  go_loopw [6] (fun i wr => ∃ j : Nat, j ≤ 2 ∧ i = .int .i64 (j : Int) ∧ Ok w wr ∧ ToksAt wr (.slice a0 ts.length c0) ts) (fun i _ => 2 - (RowKit.intOf i).toNat)
  case atStart => exact ⟨0, by omega, rfl, ok0, hr0⟩
  case round =>
    obtain ⟨j, hj, rfl, okr, hrr⟩ := hrel
    by_cases hj2 : j < 2
    · have hj2I : (j : Int) < 2 := by omega
      go_wp2_with (first
        | (go_at_call 11; (with_reducible refine (same_yes _ _ ts _ hr1 hr2 (by omega)).mono ?_); rintro e w2 ⟨rfl, m2, rfl⟩)
        | (go_at_call 10; (with_reducible refine (T _ okr.gl).mono ?_); rintro e w1 ⟨v1, rfl, ht1, hb1⟩; have ok1 := okr.go hb1; have hr1 := toksAt_own ht1; have hr2 := hrr.below hb1; obtain ⟨a1, c1, rfl⟩ := toks_sl ht1; have z1 := zr_of ht1 hb1)
        | fail)
      have z2 := z1.drew m2
      clear z1 hr1 hr2 ht1 hb1 ok1
      go_loopw [10] (fun i w3 => ∃ m : Nat, m ≤ ts.length ∧ i = .int .i64 (m : Int) ∧ Zr wr w3 a1 ts.length) (fun i _ => ts.length - (RowKit.intOf i).toNat)
      case atStart => exact ⟨0, by omega, rfl, z2⟩
      case round =>
        obtain ⟨m, hm, rfl, z3⟩ := hrel
        by_cases hmn : m < ts.length
        · have hmI : (m : Int) < (ts.length : Int) := by omega
          obtain ⟨g, cs, rfl, _⟩ := z3.row (by omega)
          obtain ⟨⟨o0, p0⟩, f0⟩ := z3.cell (m * 4) (by omega)
          obtain ⟨⟨o1, p1⟩, f1⟩ := z3.cell (m * 4 + 1) (by omega)
          obtain ⟨⟨o2, p2⟩, f2⟩ := z3.cell (m * 4 + 2) (by omega)
          obtain ⟨⟨o3, p3⟩, f3⟩ := z3.cell (m * 4 + 3) (by omega)
          go_wp2
          refine ⟨⟨m + 1, by omega, congrArg (Value.int .i64) (by omega), (((z3.set _ _ (by omega)).set _ _ (by omega)).set _ _ (by omega)).set _ _ (by omega)⟩, ?_⟩
          simp [RowKit.intOf]
          omega
        · have hmI : ¬ (m : Int) < (ts.length : Int) := by omega
          go_wp2
          refine ⟨⟨j + 1, by omega, congrArg (Value.int .i64) (by omega), okr.go z3.bel, hrr.below z3.bel⟩, ?_⟩
          simp [RowKit.intOf]
          omega
    · have hj2I : ¬ (j : Int) < 2 := by omega
      go_wp2_with (first
        | (go_at_call 12; refine (fixed_any _ okr.gl okr.tz).mono ?_; rintro e w3 ⟨rfl, hb3⟩; have ok3 := okr.go hb3)
        | fail)
      go_ret
      exact ⟨rfl, ok3.bel⟩
theorem lexReads_walk (s : Bs) (_ : s.length ≤ 140737488351232) (w : World) (gl : Gl w) (hz : Tz w) :
    Calls Tryz.prog 3 #[.string ⟨s.toArray⟩] w fun e w' => e = .returned (.bool true) ∧ Below w.heap.size w w' := by
  obtain ⟨ts, b, x, h1, h2, h3⟩ := tokW_of (lexS s)
  have hl : ts.length ≤ 2048 := by
    cases h : lexS s with
    | inl p => rw [h2 p h]; simp
    | inr l => rw [h1 l h]; exact few_of h
  exact reads_walk ⟨s.toArray⟩ ts b x hl (fun w => (xtokens_any s w).mono (h3 w)) (fun w g => (tokens_any s w g).mono (h3 w)) w gl hz
end Go.Proofs.YtebojfipdcicaaaGreatDoor
