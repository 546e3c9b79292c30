/- The loop over the tokens, whatever its body's text. -/
import Derived.Test.YtlabcadpkdgjnaaGreatDoorLxG2
namespace Go.Proofs.YtlabcadpkdgjnaaGreatDoor
open Go Go.RowKit Go.Shelf

/-- The loop's record. -/
def recL (fn : FuncId) (tmps : Array Value) (assign body : Code) (B : Nat) (st : LoopState) (pe : Option Code) : Loop := { state := st, pending := pe, fn, tmps := tmps, params := #[14], assign := assign, body := body, defers := B }
/-- The block for the rounds' deferred calls. -/
abbrev noDef : Obj := .deferred (some [])
/-- What a round owes. -/
def RoundQ (w : World) (L : Obj) (pre : List Tok) (t : Tok) (W1 : World) (e : Ending) (W' : World) : Prop :=
  e = .returned (.bool true) ∧ Mid w L noDef (pre ++ [t]) W' ∧ W'.heap[w.heap.size + 6]? = W1.heap[w.heap.size + 6]? ∧ Gl W'

set_option maxHeartbeats 1000000 in
theorem range_tok {assign body : Code} {Q : Exit → Act → World → Prop} {tmps : Array Value} {ds : List Deferred} {W0 : World} (w : World) (gl : Gl w) (s : Bs) (hs : s.length ≤ 16384)
    (hz : W0.heap.size = w.heap.size + 4) (hb0 : Below w.heap.size w W0) (hr0 : Res3 W0 w.heap.size (.slice none 0 0) 0 0) (hs0 : Boxed W0 (w.heap.size + 3) 9 (.string ⟨s.toArray⟩))
    (htm : (Act.mk tmps ds).eval (.tmp 13) = .func (.func 47) #[] #[.pointer (some ⟨w.heap.size + 3, 0, none⟩)])
    (hround : ∀ (fn : FuncId) (rc : Loop) (pre : List Tok) (t : Tok) (W1 : World), rc.state = .ready → rc.pending = none → Mid w (.loop rc) noDef pre W1 → Gl W1 → (∃ cs, W1.heap[w.heap.size + 6]? = some (.cells cs 102 (0, 0))) → pre.length < 2048 →
      RoundIn Fence.wide 1 Tryz.prog (w.heap.size + 5) fn ((#[14].zip #[tkV t]).foldl (fun (ts : Array Value) (p : Tmp × Value) => ts.setIfInBounds p.1 p.2) tmps) assign body W1 (RoundQ w (.loop rc) pre t W1))
    (hdone : ∀ (ts : List Tok) (W : World) (L : Obj), lexG s.length 0 s = .inr ts → Mid w L noDef ts W → Q .normal { tmps := tmps, defers := { target := .collected (w.heap.size + 4), args := #[] } :: ds } W)
    (hpan : ∀ (p : Nat × Int) (ts : List Tok) (W : World) (L : Obj), lexG s.length 0 s = .inl p → Mid w L noDef ts W → Q (.panic [{ v := .iface 75 (.agg #[.int .i64 (p.1 : Int), .int .i64 p.2]), recovered := false }]) { tmps := tmps, defers := { target := .collected (w.heap.size + 4), args := #[] } :: ds } W) :
    (Code.rangeFunc (.tmp 13) #[14] assign body).wpIn Fence.wide 3 Tryz.prog Q { tmps := tmps, defers := ds } W0 := by
  refine wpIn_rangeFunc ?_
  intro fn hfn
  obtain ⟨L, hL⟩ : ∃ L : Obj, L = .loop (recL fn tmps assign body (w.heap.size + 4) .ready none) := ⟨_, rfl⟩
  obtain ⟨W1, hW1⟩ : ∃ W1, (W0.alloc noDef).alloc L = W1 := ⟨_, rfl⟩
  have hL1 : W1.heap[w.heap.size + 5]? = some L := by
    rw [← hW1]; have := World.alloc_heap_new (W0.alloc noDef) L; rw [World.size_alloc, hz] at this; exact this
  have hK1 : W1.heap[w.heap.size + 4]? = some noDef := by
    rw [← hW1, ← hz]; exact (Below.heap_alloc _ _ _ (by simp)).trans (World.alloc_heap_new W0 _)
  have hB01 : Below W0.heap.size W0 W1 := by
    rw [← hW1]; exact ((Below.refl _ W0).alloc (Nat.le_refl _) _).alloc (by simp) _
  have hz1 : W1.heap.size = w.heap.size + 6 := by rw [← hW1]; simp; omega
  have hM1 : Mid w L noDef [] W1 := ⟨⟨.slice none 0 0, hr0.below hB01 (by omega), World.ownsRow_nil _ _ _ _, by simp [Value.ownBlock]⟩, hL1, hK1, hb0.trans (hB01.mono (by omega)), by omega⟩
  have hs1 : W1.cell? ⟨w.heap.size + 3, 0, none⟩ = some (.string ⟨s.toArray⟩) := Boxed.cell ((hB01.block (w.heap.size + 3) (by omega)).trans hs0)
  have hdep : ∀ n m : Nat, Fence.wide.depth.isSome = true → m ≤ n := fun n m h => by simp [Fence.wide] at h
  refine ⟨w.heap.size + 5, [{ target := .collected (w.heap.size + 4), args := #[] }], W1, { target := .fn (.func 47) #[.pointer (some ⟨w.heap.size + 3, 0, none⟩)], args := #[.func (.yield (w.heap.size + 5)) #[] #[]] }, W1, 47,
    #[.func (.yield (w.heap.size + 5)) #[] #[], .pointer (some ⟨w.heap.size + 3, 0, none⟩)], W1, ?_, ?_, ?_, ?_, hdep _ _, ?_⟩
  · have := run_enterLoop_outer (P := Tryz.prog) (w := W0) fn tmps #[14] assign body
    rw [hz] at this
    rw [← hW1, hL]
    exact this
  · simp only [resolve, htm]
    simp [go_sem]
  · intro f' hf'; trivial
  · simp [invoke, go_sem]
  · have hgl1 : Gl W1 := gl.below (hb0.trans (hB01.mono (by omega))) (Nat.le_refl _)
    refine (iter_in 2 (w.heap.size + 5) (w.heap.size + 3) s hs (Mid w L noDef) W1 hgl1 hs1 (fun pre Wa Wb h hk => h.kp (by rw [hz1] at hk; exact hk)) ?_ hM1).mono ?_
    · intro pre t Wa hM hg hlt hlen
      simp only [hz1] at hlt ⊢
      have hy := run_yield (P := Tryz.prog) (args := #[tkV t]) (hM.lp.trans (by rw [hL])) (by rfl)
      exact ⟨fn, _, assign, body, hy, (hround fn (recL fn tmps assign body (w.heap.size + 4) .ready none) pre t Wa rfl rfl (by rw [← hL]; exact hM) hg hlt hlen).mono fun e W' h => by
        rw [← hL] at h
        exact h⟩
    · intro e W' h
      cases hx : lexG s.length 0 s with
      | inr ts =>
        rw [hx] at h
        obtain ⟨rfl, hM⟩ := h
        have hlp := hM.lp
        rw [hL] at hlp
        refine ⟨none, _, run_endLoop (P := Tryz.prog) hlp (by simp [recL]), ?_⟩
        refine hdone ts _ (.loop { (recL fn tmps assign body (w.heap.size + 4) .ready none) with state := .exhausted }) hx ?_
        have hs' := hM.siz
        have hput : ∀ k, k ≠ w.heap.size + 5 → (W'.putObj (w.heap.size + 5) (.loop { (recL fn tmps assign body (w.heap.size + 4) .ready none) with state := .exhausted })).heap[k]? = W'.heap[k]? := fun k hk => World.putObj_heap_other (by omega)
        obtain ⟨v, h1, h2, h3⟩ := hM.row
        refine ⟨⟨v, ⟨(hput _ (by omega)).trans h1.bl, (hput _ (by omega)).trans h1.ba, (hput _ (by omega)).trans h1.be⟩, toks_keep h2 (fun g hg => hput g (fun e => ?_)), h3⟩, World.putObj_heap_same (Array.getElem?_eq_some_iff.1 hlp).1, (hput _ (by omega)).trans hM.dfr, ?_, ?_⟩
        · obtain ⟨_, _, cur, hc⟩ := toks_block h2 hg
          rw [e, hlp] at hc
          cases hc
        · exact hM.bel.trans (belowK_b (w := w) (Nat.le_refl _) W' _ _ _ (by omega) hlp rfl rfl)
        · rw [World.putObj_size]; exact hs'
      | inl p =>
        rw [hx] at h
        obtain ⟨rfl, ts, hM⟩ := h
        exact hpan p ts W' L hx hM
end Go.Proofs.YtlabcadpkdgjnaaGreatDoor
