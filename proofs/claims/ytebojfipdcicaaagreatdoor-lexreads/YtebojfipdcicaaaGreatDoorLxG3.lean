/- The loop over the tokens, whatever its body's text. -/
import Derived.Test.YtebojfipdcicaaaGreatDoorLxF2
import Derived.Maps.AppendAt
namespace Go.Proofs.YtebojfipdcicaaaGreatDoor
open Go Go.RowKit Go.Shelf

set_option maxRecDepth 100000 in
theorem told_any (b : Nat) (x : Int) (w : World) : Calls Tryz.prog 22 #[.iface 45 (.agg #[.int .i64 (b : Int), .int .i64 x])] w fun e w' => e = .returned (.tuple #[.slice none 0 0, .int .i64 (b : Int), .int .i64 x]) ∧ Below w.heap.size w w' := by
  have hta : ∀ w : World, (Instr.typeAssert (.iface 45 (.agg #[.int .i64 (b : Int), .int .i64 x])) 20 45 false).run Tryz.prog w = .ok (.agg #[.int .i64 (b : Int), .int .i64 x]) w := fun _ => by kernel_rfl
  go_enter Tryz.func22, Tryz.ntmps22
  go_wp2
  go_quiet (fail)
  go_wp2
  go_ret3
  exact ⟨rfl, ⟨rfl, rfl, rfl, by simp, fun k hk => Below.heap_alloc w _ k hk⟩⟩

/-- The three results' variables. -/
structure Res3 (W : World) (B : Nat) (v : Value) (y z : Int) : Prop where
  bl : Boxed W B 22 v
  ba : Boxed W (B + 1) 3 (.int .i64 y)
  be : Boxed W (B + 2) 23 (.int .i64 z)
theorem Res3.below {W W' : World} {B C : Nat} {v : Value} {y z : Int} (h : Res3 W B v y z) (hb : Below C W W') (hC : B + 2 < C) : Res3 W' B v y z :=
  ⟨(hb.block B (by omega)).trans h.bl, (hb.block (B + 1) (by omega)).trans h.ba, (hb.block (B + 2) hC).trans h.be⟩
theorem boxed_other {W : World} {B C : Nat} {t : TypeId} {v : Value} (h : Boxed W B t v) (hne : B ≠ C) (i : Nat) (u : Value) : Boxed (W.setCell ⟨C, i, none⟩ u) B t v := (Below.heap_setCell W ⟨C, i, none⟩ u B hne).trans h

set_option maxHeartbeats 1000000 in
theorem catch_dies (n B b : Nat) (x : Int) (v : Value) (y z : Int) (older : List PanicEntry) (W : World) (h : Res3 W B v y z) (hv : ∃ a m c, v = .slice a m c) :
    CallsDIn Fence.wide n Tryz.prog 21 #[.pointer (some ⟨B, 0, none⟩), .pointer (some ⟨B + 1, 0, none⟩), .pointer (some ⟨B + 2, 0, none⟩)] (.panicking ({ v := .iface 45 (.agg #[.int .i64 (b : Int), .int .i64 x]), recovered := false } :: older)) W fun e u' w' =>
      e = .returned (.tuple #[]) ∧ u' = .panicking ({ v := .iface 45 (.agg #[.int .i64 (b : Int), .int .i64 x]), recovered := true } :: older) ∧ Res3 w' B (.slice none 0 0) b x ∧ Below B W w' := by
  obtain ⟨a, m, c, rfl⟩ := hv
  have hn : Fence.wide.depth.isSome = true → 1 ≤ n := fun h => by simp [Fence.wide] at h
  have hlt := h.be.lt
  refine callsDIn_of_wpSIn Tryz.func21 rfl trivial fun c₀ cs hu => ?_
  apply wpSIn_seq
  apply wpSIn_region
  simp [wpOpsSIn, go_sem, recoverD, hu, Tryz.ntmps21, Exit.thenS, Oper.about]
  refine wpSIn_of_wpIn rfl ?_
  gi_wp2_with (refine ⟨trivial, hn, ?_⟩; gi_at_call 22; refine (callsIn_wide.2 (told_any b x _)).mono ?_; rintro e w1 ⟨rfl, hb1⟩; have r1 := h.below hb1 hlt; have d0 := r1.bl.cell; have d1 := r1.ba.cell; have d2 := r1.be.cell; have f0 := r1.bl.frozen; have f1 := r1.ba.frozen; have f2 := r1.be.frozen)
  refine ⟨rfl, _, rfl, .tuple #[], results_none rfl _ _ _, rfl, rfl, ⟨?_, ?_, ?_⟩, ?_⟩
  · exact boxed_other (boxed_other (r1.bl.set _) (by omega) _ _) (by omega) _ _
  · exact boxed_other ((boxed_other r1.ba (by omega) _ _).set _) (by omega) _ _
  · exact (boxed_other (boxed_other r1.be (by omega) _ _) (by omega) _ _).set _
  · have hbB : Below B W w1 := hb1.mono (by omega)
    exact ((hbB.setCell (p := ⟨B, 0, none⟩) (Nat.le_refl _) _).setCell (p := ⟨B + 1, 0, none⟩) (Nat.le_succ _) _).setCell (p := ⟨B + 2, 0, none⟩) (by show B ≤ B + 2; omega) _
theorem catch_idle (n B : Nat) (W : World) :
    CallsDIn Fence.wide n Tryz.prog 21 #[.pointer (some ⟨B, 0, none⟩), .pointer (some ⟨B + 1, 0, none⟩), .pointer (some ⟨B + 2, 0, none⟩)] .returning W fun e u' w' => e = .returned (.tuple #[]) ∧ u' = .returning ∧ w' = W := by
  refine callsDIn_of_wpSIn Tryz.func21 rfl trivial fun c₀ cs hu => ?_
  apply wpSIn_seq
  apply wpSIn_region
  simp [wpOpsSIn, go_sem, recoverD, hu, Tryz.ntmps21, Exit.thenS, Oper.about]
  refine wpSIn_of_wpIn rfl ?_
  gi_wp2
  refine ⟨rfl, .returning, ?_, .tuple #[], results_none rfl _ _ _, rfl, rfl, rfl⟩
  cases c₀
  simp_all
end Go.Proofs.YtebojfipdcicaaaGreatDoor
namespace Go.Proofs.YtebojfipdcicaaaGreatDoor
open Go Go.RowKit Go.Shelf

/-- The cells of tokens. -/
def cellsT (ts : List Tok) : List Value := ts.flatMap fun t => [.int .i64 t.k, .string ⟨t.t.toArray⟩, .int .i64 (t.b : Int), .int .i64 (t.e : Int)]
theorem cellsT_snoc (ts : List Tok) (t : Tok) : cellsT (ts ++ [t]) = cellsT ts ++ [.int .i64 t.k, .string ⟨t.t.toArray⟩, .int .i64 (t.b : Int), .int .i64 (t.e : Int)] := by simp [cellsT]
/-- A slice that holds these tokens, of the call's own. -/
abbrev Toks (W : World) (B : Nat) (v : Value) (ts : List Tok) : Prop := W.ownsRow B 28 4 v ts.length (cellsT ts)
/-- What lies there between two rounds: the results' variables, the rows, the loop's record. -/
structure Mid (w : World) (L D : Obj) (pre : List Tok) (W : World) : Prop where
  row : ∃ v, Res3 W w.heap.size v 0 0 ∧ Toks W w.heap.size v pre ∧ v.ownBlock ≠ some (w.heap.size + 6)
  lp : W.heap[w.heap.size + 5]? = some L
  dfr : W.heap[w.heap.size + 4]? = some D
  bel : Below w.heap.size w W
  siz : w.heap.size + 6 ≤ W.heap.size
theorem toks_keep {W W' : World} {B : Nat} {v : Value} {ts : List Tok} (h : Toks W B v ts) (hk : ∀ g, v.ownBlock = some g → W'.heap[g]? = W.heap[g]?) : Toks W' B v ts := by
  refine ⟨h.1, ?_⟩
  rcases h.2 with h2 | ⟨g, cap, cur, hv, hg, hh, r⟩
  · exact Or.inl h2
  · refine Or.inr ⟨g, cap, cur, hv, hg, (hk g (by rw [hv]; rfl)).trans hh, r⟩
theorem toks_block {W : World} {B : Nat} {v : Value} {ts : List Tok} (h : Toks W B v ts) {g : Nat} (hg : v.ownBlock = some g) : g < W.heap.size ∧ B ≤ g ∧ ∃ cur, W.heap[g]? = some (.cells cur 28 (0, 0)) := by
  rcases h.2 with ⟨rfl, _⟩ | ⟨g', cap, cur, hv, hg', hh, _⟩
  · cases hg
  · rw [hv] at hg
    have e : g' = g := by simpa [Value.ownBlock] using hg
    subst e
    exact ⟨lt_of_block hh, hg', cur, hh⟩
theorem Mid.kp {w W1 W2 : World} {L D : Obj} {pre : List Tok} (h : Mid w L D pre W1) (hk : Kp (Own1 (w.heap.size + 6)) W1 W2) : Mid w L D pre W2 := by
  obtain ⟨v, hr, ht, hne⟩ := h.row
  have hs := h.siz
  have hb : ∀ k, k < W1.heap.size → k ≠ w.heap.size + 6 → W2.heap[k]? = W1.heap[k]? := fun k hk1 hk2 => hk.block k hk1 (fun e => hk2 e)
  refine ⟨⟨v, ⟨(hb _ (by omega) (by omega)).trans hr.bl, (hb _ (by omega) (by omega)).trans hr.ba, (hb _ (by omega) (by omega)).trans hr.be⟩, toks_keep ht (fun g hg => hb g (toks_block ht hg).1 (fun e => hne (by rw [hg, e]))), hne⟩, (hb _ (by omega) (by omega)).trans h.lp, (hb _ (by omega) (by omega)).trans h.dfr, ?_, Nat.le_trans hs hk.size⟩
  exact h.bel.trans (hk.below (by omega) (fun k hk e => by have e' : k = w.heap.size + 6 := e; omega))
theorem Gl.belowG {w W : World} (h : Gl w) (hb : Below w.heap.size w W) : Gl W := h.below hb (Nat.le_refl _)
theorem Tryz.infoTok : (Tryz.prog.info? 28).map (fun i => (i.zero, i.size, i.bytes)) = some (some (.agg #[.int .i64 0, .string ⟨#[]⟩, .int .i64 0, .int .i64 0]), 4, 40) := by kernel_rfl

theorem tokensOf_any (s : Bs) (w : World) : Calls Tryz.prog 23 #[.string ⟨s.toArray⟩] w fun e w' => e = .returned (.func (.func 45) #[] #[.pointer (some ⟨w.heap.size, 0, none⟩)]) ∧ w' = w.alloc (.cells #[.string ⟨s.toArray⟩] 9) := by
  have hmf : ∀ (fn : Fn) (first cap : Array Value) (w : World), (Instr.makeFunc fn first cap).run Tryz.prog w = .ok (.func fn first cap) w := fun _ _ _ _ => rfl
  go_enter Tryz.func23, Tryz.ntmps23
  go_wp2
  go_ret
  exact ⟨rfl, rfl⟩
end Go.Proofs.YtebojfipdcicaaaGreatDoor
namespace Go.Proofs.YtebojfipdcicaaaGreatDoor
open Go Go.RowKit Go.Shelf

/-- The loop's record. -/
def recL (fn : FuncId) (tmps : Array Value) (assign body : Code) (B : Nat) (st : LoopState) (pe : Option Code) : Loop := { state := st, pending := pe, fn, tmps := tmps, params := #[14], assign := assign, body := body, defers := B }
/-- The block for the rounds' deferred calls. -/
abbrev noDef : Obj := .deferred (some [])
/-- What a round owes. -/
def RoundQ (w : World) (L : Obj) (pre : List Tok) (t : Tok) (W1 : World) (e : Ending) (W' : World) : Prop :=
  e = .returned (.bool true) ∧ Mid w L noDef (pre ++ [t]) W' ∧ W'.heap[w.heap.size + 6]? = W1.heap[w.heap.size + 6]? ∧ Gl W'

set_option maxHeartbeats 1000000 in
theorem range_tok {assign body : Code} {Q : Exit → Act → World → Prop} {tmps : Array Value} {ds : List Deferred} {W0 : World} (w : World) (gl : Gl w) (s : Bs) (hs : s.length ≤ 16384)
    (hz : W0.heap.size = w.heap.size + 4) (hb0 : Below w.heap.size w W0) (hr0 : Res3 W0 w.heap.size (.slice none 0 0) 0 0) (hs0 : Boxed W0 (w.heap.size + 3) 9 (.string ⟨s.toArray⟩))
    (htm : (Act.mk tmps ds).eval (.tmp 13) = .func (.func 45) #[] #[.pointer (some ⟨w.heap.size + 3, 0, none⟩)])
    (hround : ∀ (fn : FuncId) (rc : Loop) (pre : List Tok) (t : Tok) (W1 : World), rc.state = .ready → rc.pending = none → Mid w (.loop rc) noDef pre W1 → Gl W1 → (∃ cs, W1.heap[w.heap.size + 6]? = some (.cells cs 77 (0, 0))) → pre.length < 2048 →
      RoundIn Fence.wide 1 Tryz.prog (w.heap.size + 5) fn ((#[14].zip #[tkV t]).foldl (fun (ts : Array Value) (p : Tmp × Value) => ts.setIfInBounds p.1 p.2) tmps) assign body W1 (RoundQ w (.loop rc) pre t W1))
    (hdone : ∀ (ts : List Tok) (W : World) (L : Obj), lexG s.length 0 s = .inr ts → Mid w L noDef ts W → Q .normal { tmps := tmps, defers := { target := .collected (w.heap.size + 4), args := #[] } :: ds } W)
    (hpan : ∀ (p : Nat × Int) (ts : List Tok) (W : World) (L : Obj), lexG s.length 0 s = .inl p → Mid w L noDef ts W → Q (.panic [{ v := .iface 45 (.agg #[.int .i64 (p.1 : Int), .int .i64 p.2]), recovered := false }]) { tmps := tmps, defers := { target := .collected (w.heap.size + 4), args := #[] } :: ds } W) :
    (Code.rangeFunc (.tmp 13) #[14] assign body).wpIn Fence.wide 3 Tryz.prog Q { tmps := tmps, defers := ds } W0 := by
  refine wpIn_rangeFunc ?_
  intro fn hfn
  obtain ⟨L, hL⟩ : ∃ L : Obj, L = .loop (recL fn tmps assign body (w.heap.size + 4) .ready none) := ⟨_, rfl⟩
  obtain ⟨W1, hW1⟩ : ∃ W1, (W0.alloc noDef).alloc L = W1 := ⟨_, rfl⟩
  have hL1 : W1.heap[w.heap.size + 5]? = some L := by
    rw [← hW1]; have := World.alloc_heap_new (W0.alloc noDef) L; rw [World.size_alloc, hz] at this; exact this
  have hK1 : W1.heap[w.heap.size + 4]? = some noDef := by
    rw [← hW1, ← hz]; exact (Below.heap_alloc _ _ _ (by simp)).trans (World.alloc_heap_new W0 _)
  have hB01 : Below W0.heap.size W0 W1 := by
    rw [← hW1]; exact ((Below.refl _ W0).alloc (Nat.le_refl _) _).alloc (by simp) _
  have hz1 : W1.heap.size = w.heap.size + 6 := by rw [← hW1]; simp; omega
  have hM1 : Mid w L noDef [] W1 := ⟨⟨.slice none 0 0, hr0.below hB01 (by omega), World.ownsRow_nil _ _ _ _, by simp [Value.ownBlock]⟩, hL1, hK1, hb0.trans (hB01.mono (by omega)), by omega⟩
  have hs1 : W1.cell? ⟨w.heap.size + 3, 0, none⟩ = some (.string ⟨s.toArray⟩) := Boxed.cell ((hB01.block (w.heap.size + 3) (by omega)).trans hs0)
  have hdep : ∀ n m : Nat, Fence.wide.depth.isSome = true → m ≤ n := fun n m h => by simp [Fence.wide] at h
  refine ⟨w.heap.size + 5, [{ target := .collected (w.heap.size + 4), args := #[] }], W1, { target := .fn (.func 45) #[.pointer (some ⟨w.heap.size + 3, 0, none⟩)], args := #[.func (.yield (w.heap.size + 5)) #[] #[]] }, W1, 45,
    #[.func (.yield (w.heap.size + 5)) #[] #[], .pointer (some ⟨w.heap.size + 3, 0, none⟩)], W1, ?_, ?_, ?_, ?_, hdep _ _, ?_⟩
  · have := run_enterLoop_outer (P := Tryz.prog) (w := W0) fn tmps #[14] assign body
    rw [hz] at this
    rw [← hW1, hL]
    exact this
  · simp only [resolve, htm]
    simp [go_sem]
  · intro f' hf'; trivial
  · simp [invoke, go_sem]
  · have hgl1 : Gl W1 := gl.below (hb0.trans (hB01.mono (by omega))) (Nat.le_refl _)
    refine (iter_in 2 (w.heap.size + 5) (w.heap.size + 3) s hs (Mid w L noDef) W1 hgl1 hs1 (fun pre Wa Wb h hk => h.kp (by rw [hz1] at hk; exact hk)) ?_ hM1).mono ?_
    · intro pre t Wa hM hg hlt hlen
      simp only [hz1] at hlt ⊢
      have hy := run_yield (P := Tryz.prog) (args := #[tkV t]) (hM.lp.trans (by rw [hL])) (by rfl)
      exact ⟨fn, _, assign, body, hy, (hround fn (recL fn tmps assign body (w.heap.size + 4) .ready none) pre t Wa rfl rfl (by rw [← hL]; exact hM) hg hlt hlen).mono fun e W' h => by
        rw [← hL] at h
        exact h⟩
    · intro e W' h
      cases hx : lexG s.length 0 s with
      | inr ts =>
        rw [hx] at h
        obtain ⟨rfl, hM⟩ := h
        have hlp := hM.lp
        rw [hL] at hlp
        refine ⟨none, _, run_endLoop (P := Tryz.prog) hlp (by simp [recL]), ?_⟩
        refine hdone ts _ (.loop { (recL fn tmps assign body (w.heap.size + 4) .ready none) with state := .exhausted }) hx ?_
        have hs' := hM.siz
        have hput : ∀ k, k ≠ w.heap.size + 5 → (W'.putObj (w.heap.size + 5) (.loop { (recL fn tmps assign body (w.heap.size + 4) .ready none) with state := .exhausted })).heap[k]? = W'.heap[k]? := fun k hk => World.putObj_heap_other (by omega)
        obtain ⟨v, h1, h2, h3⟩ := hM.row
        refine ⟨⟨v, ⟨(hput _ (by omega)).trans h1.bl, (hput _ (by omega)).trans h1.ba, (hput _ (by omega)).trans h1.be⟩, toks_keep h2 (fun g hg => hput g (fun e => ?_)), h3⟩, World.putObj_heap_same (Array.getElem?_eq_some_iff.1 hlp).1, (hput _ (by omega)).trans hM.dfr, ?_, ?_⟩
        · obtain ⟨_, _, cur, hc⟩ := toks_block h2 hg
          rw [e, hlp] at hc
          cases hc
        · exact hM.bel.trans (belowK_b (w := w) (Nat.le_refl _) W' _ _ _ (by omega) hlp rfl rfl)
        · rw [World.putObj_size]; exact hs'
      | inl p =>
        rw [hx] at h
        obtain ⟨rfl, ts, hM⟩ := h
        exact hpan p ts W' L hx hM
end Go.Proofs.YtebojfipdcicaaaGreatDoor
