/- The tokens of a document: what a round of the loop keeps. -/
import Derived.Test.YtlabcadpkdgjnaaGreatDoorLxG1
import Derived.Maps.AppendAt
namespace Go.Proofs.YtlabcadpkdgjnaaGreatDoor
open Go Go.RowKit Go.Shelf

/-- The cells of tokens. -/
def cellsT (ts : List Tok) : List Value := ts.flatMap fun t => [.int .i64 t.k, .string ⟨t.t.toArray⟩, .int .i64 (t.b : Int), .int .i64 (t.e : Int)]
theorem cellsT_snoc (ts : List Tok) (t : Tok) : cellsT (ts ++ [t]) = cellsT ts ++ [.int .i64 t.k, .string ⟨t.t.toArray⟩, .int .i64 (t.b : Int), .int .i64 (t.e : Int)] := by simp [cellsT]
/-- A slice that holds these tokens, of the call's own. -/
abbrev Toks (W : World) (B : Nat) (v : Value) (ts : List Tok) : Prop := W.ownsRow B 43 4 v ts.length (cellsT ts)
/-- What lies there between two rounds: the results' variables, the rows, the loop's record. -/
structure Mid (w : World) (L D : Obj) (pre : List Tok) (W : World) : Prop where
  row : ∃ v, Res3 W w.heap.size v 0 0 ∧ Toks W w.heap.size v pre ∧ v.ownBlock ≠ some (w.heap.size + 6)
  lp : W.heap[w.heap.size + 5]? = some L
  dfr : W.heap[w.heap.size + 4]? = some D
  bel : Below w.heap.size w W
  siz : w.heap.size + 6 ≤ W.heap.size
theorem toks_keep {W W' : World} {B : Nat} {v : Value} {ts : List Tok} (h : Toks W B v ts) (hk : ∀ g, v.ownBlock = some g → W'.heap[g]? = W.heap[g]?) : Toks W' B v ts := by
  refine ⟨h.1, ?_⟩
  rcases h.2 with h2 | ⟨g, cap, cur, hv, hg, hh, r⟩
  · exact Or.inl h2
  · refine Or.inr ⟨g, cap, cur, hv, hg, (hk g (by rw [hv]; rfl)).trans hh, r⟩
theorem toks_block {W : World} {B : Nat} {v : Value} {ts : List Tok} (h : Toks W B v ts) {g : Nat} (hg : v.ownBlock = some g) : g < W.heap.size ∧ B ≤ g ∧ ∃ cur, W.heap[g]? = some (.cells cur 43 (0, 0)) := by
  rcases h.2 with ⟨rfl, _⟩ | ⟨g', cap, cur, hv, hg', hh, _⟩
  · cases hg
  · rw [hv] at hg
    have e : g' = g := by simpa [Value.ownBlock] using hg
    subst e
    exact ⟨lt_of_block hh, hg', cur, hh⟩
theorem Mid.kp {w W1 W2 : World} {L D : Obj} {pre : List Tok} (h : Mid w L D pre W1) (hk : Kp (Own1 (w.heap.size + 6)) W1 W2) : Mid w L D pre W2 := by
  obtain ⟨v, hr, ht, hne⟩ := h.row
  have hs := h.siz
  have hb : ∀ k, k < W1.heap.size → k ≠ w.heap.size + 6 → W2.heap[k]? = W1.heap[k]? := fun k hk1 hk2 => hk.block k hk1 (fun e => hk2 e)
  refine ⟨⟨v, ⟨(hb _ (by omega) (by omega)).trans hr.bl, (hb _ (by omega) (by omega)).trans hr.ba, (hb _ (by omega) (by omega)).trans hr.be⟩, toks_keep ht (fun g hg => hb g (toks_block ht hg).1 (fun e => hne (by rw [hg, e]))), hne⟩, (hb _ (by omega) (by omega)).trans h.lp, (hb _ (by omega) (by omega)).trans h.dfr, ?_, Nat.le_trans hs hk.size⟩
  exact h.bel.trans (hk.below (by omega) (fun k hk e => by have e' : k = w.heap.size + 6 := e; omega))
theorem Gl.belowG {w W : World} (h : Gl w) (hb : Below w.heap.size w W) : Gl W := h.below hb (Nat.le_refl _)
theorem Tryz.infoTok : (Tryz.prog.info? 43).map (fun i => (i.zero, i.size, i.bytes)) = some (some (.agg #[.int .i64 0, .string ⟨#[]⟩, .int .i64 0, .int .i64 0]), 4, 40) := by kernel_rfl

theorem tokensOf_any (s : Bs) (w : World) : Calls Tryz.prog 32 #[.string ⟨s.toArray⟩] w fun e w' => e = .returned (.func (.func 47) #[] #[.pointer (some ⟨w.heap.size, 0, none⟩)]) ∧ w' = w.alloc (.cells #[.string ⟨s.toArray⟩] 9) := by
  have hmf : ∀ (fn : Fn) (first cap : Array Value) (w : World), (Instr.makeFunc fn first cap).run Tryz.prog w = .ok (.func fn first cap) w := fun _ _ _ _ => rfl
  go_enter Tryz.func32, Tryz.ntmps32
  go_wp2
  go_ret
  exact ⟨rfl, rfl⟩
end Go.Proofs.YtlabcadpkdgjnaaGreatDoor
