/- The tokens of a document, from the face. -/
import Derived.Test.YtlabcadpkdgjnaaGreatDoorLxG3
namespace Go.Proofs.YtlabcadpkdgjnaaGreatDoor
open Go Go.RowKit Go.Shelf

/-- What Tokens comes to. -/
def TokensP (w : World) (r : (Nat × Int) ⊕ List Tok) (e : Ending) (w' : World) : Prop := (match r with
  | .inl p => e = .returned (.tuple #[.slice none 0 0, .int .i64 (p.1 : Int), .int .i64 p.2])
  | .inr ts => ∃ v, e = .returned (.tuple #[v, .int .i64 0, .int .i64 0]) ∧ Toks w' w.heap.size v ts) ∧ Below w.heap.size w w'

/-- 'l = append(l, t)', behind the append law's words: all that the round owes. -/
theorem round_end {w W3 w1 : World} {v v' : Value} {pre : List Tok} {t : Tok} {tmp : Obj} (hr : Res3 W3 w.heap.size v 0 0) (ht : Toks W3 w.heap.size v pre) (hne : v.ownBlock ≠ some (w.heap.size + 6)) (hb : w.heap.size + 6 ≤ W3.heap.size) (hB : Below w.heap.size w W3)
    (hR : ∃ cs, W3.heap[w.heap.size + 6]? = some (.cells cs 102 (0, 0))) (hown' : w1.ownsRow w.heap.size 43 4 v' (pre.length + 1) (cellsT pre ++ [.int .i64 t.k, .string ⟨t.t.toArray⟩, .int .i64 (t.b : Int), .int .i64 (t.e : Int)])) (hgrow : (W3.alloc tmp).grownBy w1 v.ownBlock) :
    Boxed w1 w.heap.size 37 v ∧ Res3 (w1.setCell ⟨w.heap.size, 0, none⟩ v') w.heap.size v' 0 0 ∧ Toks (w1.setCell ⟨w.heap.size, 0, none⟩ v') w.heap.size v' (pre ++ [t]) ∧ v'.ownBlock ≠ some (w.heap.size + 6) ∧ (∀ k, k < W3.heap.size → k ≠ w.heap.size → v.ownBlock ≠ some k → (w1.setCell ⟨w.heap.size, 0, none⟩ v').heap[k]? = W3.heap[k]?) ∧ Below w.heap.size w (w1.setCell ⟨w.heap.size, 0, none⟩ v') ∧ W3.heap.size ≤ (w1.setCell ⟨w.heap.size, 0, none⟩ v').heap.size := by
  obtain ⟨h1, h2, h3, h4, h5⟩ := hr.bl.appended (by decide) ht hB.size (Nat.le_refl _) hown' hgrow
  have hother : ∀ k, k < W3.heap.size → k ≠ w.heap.size → v.ownBlock ≠ some k → (w1.setCell ⟨w.heap.size, 0, none⟩ v').heap[k]? = W3.heap[k]? := fun k hk hk2 hk3 =>
    ((Below.heap_setCell w1 ⟨w.heap.size, 0, none⟩ v' k hk2).trans (hgrow.block k (by simp; omega) (fun e => hk3 e.symm))).trans (Below.heap_alloc W3 tmp k hk)
  have na : v.ownBlock ≠ some (w.heap.size + 1) := fun e => by
    obtain ⟨_, _, cur, hc⟩ := toks_block ht e
    rw [show W3.heap[w.heap.size + 1]? = _ from hr.ba] at hc
    cases hc
  have nb : v.ownBlock ≠ some (w.heap.size + 2) := fun e => by
    obtain ⟨_, _, cur, hc⟩ := toks_block ht e
    rw [show W3.heap[w.heap.size + 2]? = _ from hr.be] at hc
    cases hc
  have ht' : Toks (w1.setCell ⟨w.heap.size, 0, none⟩ v') w.heap.size v' (pre ++ [t]) := by
    show World.ownsRow _ _ _ _ _ (pre ++ [t]).length (cellsT (pre ++ [t]))
    rw [cellsT_snoc, List.length_append]
    exact h3
  refine ⟨h1, ⟨h2, (hother _ (by omega) (by omega) na).trans hr.ba, (hother _ (by omega) (by omega) nb).trans hr.be⟩, ht', ?_, hother, hB.trans h5, h4.size⟩
  intro e
  obtain ⟨_, _, cur, hc⟩ := toks_block ht' e
  obtain ⟨cs, hcs⟩ := hR
  rw [hother _ (lt_of_block hcs) (by omega) hne, hcs] at hc
  cases hc

theorem toks_slice {W : World} {B : Nat} {v : Value} {ts : List Tok} (h : Toks W B v ts) : ∃ a m c, v = .slice a m c := by
  rcases h.2 with ⟨rfl, _⟩ | ⟨g, cap, cur, hv, _⟩
  · exact ⟨_, _, _, rfl⟩
  · exact ⟨_, _, _, hv⟩
theorem mid_put {w W5 : World} {v' : Value} {ts : List Tok} {l0 l1 : Loop} (h1 : Res3 W5 w.heap.size v' 0 0) (h2 : Toks W5 w.heap.size v' ts) (h3 : v'.ownBlock ≠ some (w.heap.size + 6)) (hlp : W5.heap[w.heap.size + 5]? = some (.loop l0)) (hd : W5.heap[w.heap.size + 4]? = some noDef) (hb : Below w.heap.size w W5) (hs : w.heap.size + 6 ≤ W5.heap.size) :
    Mid w (.loop l1) noDef ts (W5.putObj (w.heap.size + 5) (.loop l1)) := by
  have hput : ∀ k, k ≠ w.heap.size + 5 → (W5.putObj (w.heap.size + 5) (.loop l1)).heap[k]? = W5.heap[k]? := fun k hk => World.putObj_heap_other (by omega)
  refine ⟨⟨v', ⟨(hput _ (by omega)).trans h1.bl, (hput _ (by omega)).trans h1.ba, (hput _ (by omega)).trans h1.be⟩, toks_keep h2 (fun g hg => hput g (fun e => ?_)), h3⟩, World.putObj_heap_same (Array.getElem?_eq_some_iff.1 hlp).1, (hput _ (by omega)).trans hd, ?_, ?_⟩
  · obtain ⟨_, _, cur, hc⟩ := toks_block h2 hg
    rw [e, hlp] at hc
    cases hc
  · exact hb.trans (belowK_b (w := w) (Nat.le_refl _) W5 _ _ _ (by omega) hlp rfl rfl)
  · rw [World.putObj_size]; exact hs

theorem res3_run {B : Nat} {W : World} {tmps : Array Value} {a : Option Addr} {m c : Nat} {y z : Int} (h : Res3 W B (.slice a m c) y z) (h2 : tmps[2]? = some (.pointer (some ⟨B, 0, none⟩))) (h3 : tmps[3]? = some (.pointer (some ⟨B + 1, 0, none⟩))) (h4 : tmps[4]? = some (.pointer (some ⟨B + 2, 0, none⟩))) :
    (results Tryz.f14 tmps).run Tryz.prog W = .ok (.tuple #[.slice a m c, .int .i64 y, .int .i64 z]) W := by
  have c0 := h.bl.cell
  have c1 := h.ba.cell
  have c2 := h.be.cell
  simp [results, Tryz.results14, go_sem, h2, h3, h4, c0, c1, c2]
theorem leave_all {B : Nat} {tmps : Array Value} {R : Ending → World → Prop} {u : FrameMode} {W : World} (hu : u ≠ .run) (hd : W.heap[B + 4]? = some noDef)
    (h : CallsDIn Fence.wide 2 Tryz.prog 30 #[.pointer (some ⟨B, 0, none⟩), .pointer (some ⟨B + 1, 0, none⟩), .pointer (some ⟨B + 2, 0, none⟩)] u (W.putObj (B + 4) (.deferred none)) fun
          | .returned _, u', w' => LeavesInM Fence.wide 3 Tryz.prog Tryz.f14 tmps R [] (settle u') w'
          | .panicked chain, u', w' => LeavesInM Fence.wide 3 Tryz.prog Tryz.f14 tmps R [] (raised u' chain) w'
          | .outgrown, _, w' => R .outgrown w') :
    LeavesInM Fence.wide 3 Tryz.prog Tryz.f14 tmps R [{ target := .collected (B + 4), args := #[] }, { target := .fn (.func 30) #[.pointer (some ⟨B, 0, none⟩), .pointer (some ⟨B + 1, 0, none⟩), .pointer (some ⟨B + 2, 0, none⟩)], args := #[] }] u W := by
  refine ⟨hu, .inl ⟨_, _, rfl, run_takeDeferred hd, hu, .inr ⟨fun h => by simp [Fence.wide] at h, _, _, 30, _, rfl, ?_, fun _ _ => trivial, h⟩⟩⟩
  simp [invoke, go_sem]
theorem res3_put {W : World} {B : Nat} {v : Value} {y z : Int} {o : Obj} (h : Res3 W B v y z) : Res3 (W.putObj (B + 4) o) B v y z :=
  ⟨(World.putObj_heap_other (by omega)).trans h.bl, (World.putObj_heap_other (by omega)).trans h.ba, (World.putObj_heap_other (by omega)).trans h.be⟩

attribute [local go_sem] Oper.semAt_some
set_option maxRecDepth 100000 in
set_option maxHeartbeats 4000000 in
theorem tokens_short (s : Bs) (hs : s.length ≤ 16384) (w : World) (gl : Gl w) : Calls Tryz.prog 14 #[.string ⟨s.toArray⟩] w (TokensP w (lexG s.length 0 s)) := by
  have hmf : ∀ (fn : Fn) (first cap : Array Value) (w : World), (Instr.makeFunc fn first cap).run Tryz.prog w = .ok (.func fn first cap) w := fun _ _ _ _ => rfl
  have hsz := size_of s
  have hsI : ¬ (16384 : Int) < (s.length : Int) := by omega
  have TO := fun w => tokensOf_any s w
  refine (callsIn_wide (n := 3)).1 ?_
  refine callsIn_of_wp_marks Tryz.func14 rfl trivial ?_ rfl
  simp only [Tryz.ntmps14, List.size_toArray, List.length_cons, List.length_nil, Nat.reduceAdd, Nat.reduceSub, Array.replicate_succ, Array.replicate_zero, List.push_toArray, List.append_toArray, List.nil_append, List.cons_append]
  gi_wp2_with (refine ⟨trivial, ?_⟩; gi_at_call 32; refine (callsIn_wide.2 (TO _)).mono ?_; rintro e w1 ⟨rfl, rfl⟩)
  obtain ⟨W0, hW0⟩ : ∃ W0, (((w.alloc (.cells #[.slice none 0 0] 37)).alloc (.cells #[.int .i64 0] 3)).alloc (.cells #[.int .i64 0] 26)).alloc (.cells #[.string ⟨s.toArray⟩] 9) = W0 := ⟨_, rfl⟩
  have hz0 : W0.heap.size = w.heap.size + 4 := by rw [← hW0]; simp
  have hb0 : Below w.heap.size w W0 := by
    rw [← hW0]
    exact ((((Below.refl _ w).alloc (Nat.le_refl _) _).alloc (by simp) _).alloc (by simp; omega) _).alloc (by simp; omega) _
  have hr0 : Res3 W0 w.heap.size (.slice none 0 0) 0 0 := by
    rw [← hW0]
    refine ⟨(((Boxed.new w _ _).alloc _).alloc _).alloc _, ?_, ?_⟩
    · have := ((Boxed.new (w.alloc (.cells #[.slice none 0 0] 37)) 3 (.int .i64 0)).alloc (.cells #[.int .i64 0] 26)).alloc (.cells #[.string ⟨s.toArray⟩] 9)
      rw [World.size_alloc] at this
      exact this
    · have := (Boxed.new ((w.alloc (.cells #[.slice none 0 0] 37)).alloc (.cells #[.int .i64 0] 3)) 26 (.int .i64 0)).alloc (.cells #[.string ⟨s.toArray⟩] 9)
      rw [World.size_alloc, World.size_alloc] at this
      exact this
  have hs0 : Boxed W0 (w.heap.size + 3) 9 (.string ⟨s.toArray⟩) := by
    rw [← hW0]
    have := Boxed.new (((w.alloc (.cells #[.slice none 0 0] 37)).alloc (.cells #[.int .i64 0] 3)).alloc (.cells #[.int .i64 0] 26)) 9 (.string ⟨s.toArray⟩)
    rw [World.size_alloc, World.size_alloc, World.size_alloc] at this
    exact this
  rw [hW0]
  clear hW0
  refine range_tok w gl s hs hz0 hb0 hr0 hs0 rfl ?hround ?hdone ?hpan
  case hround =>
    intro fn rc pre t W1 hst hpe hM hg hR hlen
    clear hz0 hb0 hr0 hs0 TO
    obtain ⟨i1, hi1, hy0, hy1, hy2⟩ := info_parts Tryz.infoTok
    refine roundIn_of_wpIn trivial ?_
    obtain ⟨v, hr, ht, hne⟩ := hM.row
    have hsz := hM.siz
    have hlp := hM.lp
    have hlt5 := lt_of_block hlp
    have hdf := hM.dfr
    have hbel := hM.bel
    obtain ⟨W2, hW2⟩ : ∃ W2, W1.alloc (.cells #[.int .i64 t.k, .string ⟨t.t.toArray⟩, .int .i64 (t.b : Int), .int .i64 (t.e : Int)] 43) = W2 := ⟨_, rfl⟩
    have hz2 : W2.heap.size = W1.heap.size + 1 := by rw [← hW2]; simp
    have hB12 : ∀ k, k < W1.heap.size → W2.heap[k]? = W1.heap[k]? := fun k hk => by rw [← hW2]; exact Below.heap_alloc W1 _ k hk
    have hT2 : W2.heap[W1.heap.size]? = some (.cells #[.int .i64 t.k, .string ⟨t.t.toArray⟩, .int .i64 (t.b : Int), .int .i64 (t.e : Int)] 43 (0, 0)) := by rw [← hW2]; exact heap_alloc_new _ _
    have hl2 : W2.heap[w.heap.size + 5]? = some (.loop rc) := (hB12 _ hlt5).trans hlp
    obtain ⟨W3, hW3⟩ : ∃ W3, W2.putObj (w.heap.size + 5) (.loop { rc with state := .busy }) = W3 := ⟨_, rfl⟩
    have hput3 : ∀ k, k ≠ w.heap.size + 5 → W3.heap[k]? = W2.heap[k]? := fun k hk => by rw [← hW3]; exact World.putObj_heap_other (by omega)
    have hl3 : W3.heap[w.heap.size + 5]? = some (.loop { rc with state := .busy }) := by rw [← hW3]; exact World.putObj_heap_same (lt_of_block hl2)
    have hz3 : W3.heap.size = W1.heap.size + 1 := by rw [← hW3, World.putObj_size, hz2]
    have hB3 : ∀ k, k < W1.heap.size → k ≠ w.heap.size + 5 → W3.heap[k]? = W1.heap[k]? := fun k h1 h2 => (hput3 k h2).trans (hB12 k h1)
    have hT3 := (hput3 W1.heap.size (by omega)).trans hT2
    have hr3 : Res3 W3 w.heap.size v 0 0 := ⟨(hB3 _ (by omega) (by omega)).trans hr.bl, (hB3 _ (by omega) (by omega)).trans hr.ba, (hB3 _ (by omega) (by omega)).trans hr.be⟩
    have ht3 : Toks W3 w.heap.size v pre := toks_keep ht (fun g hg => hB3 g (toks_block ht hg).1 (fun e => by
      obtain ⟨_, _, cur, hc⟩ := toks_block ht hg
      rw [e, hlp] at hc
      cases hc))
    have hR3 : ∃ cs, W3.heap[w.heap.size + 6]? = some (.cells cs 102 (0, 0)) := by
      obtain ⟨cs, hcs⟩ := hR
      exact ⟨cs, (hB3 _ (lt_of_block hcs) (by omega)).trans hcs⟩
    have hbel3 : Below w.heap.size w W3 := by
      rw [← hW3, ← hW2]
      exact (hbel.alloc (by omega) _).trans (belowK_b (w := w) (Nat.le_refl _) _ _ _ _ (by omega) (by rw [hW2]; exact hl2) rfl rfl)
    have RE := fun (v' : Value) (w1 : World) (tmp : Obj) => round_end (w := w) (W3 := W3) (w1 := w1) (v := v) (v' := v') (pre := pre) (t := t) (tmp := tmp) hr3 ht3 hne (by omega) hbel3 hR3
    have d0 := hr3.bl.cell
    have k0 : W3.cell? ⟨W1.heap.size, 0, none⟩ = some (.int .i64 t.k) := by simp [World.cell?, hT3]
    have k1 : W3.cell? ⟨W1.heap.size, 1, none⟩ = some (.string ⟨t.t.toArray⟩) := by simp [World.cell?, hT3]
    have k2 : W3.cell? ⟨W1.heap.size, 2, none⟩ = some (.int .i64 (t.b : Int)) := by simp [World.cell?, hT3]
    have k3 : W3.cell? ⟨W1.heap.size, 3, none⟩ = some (.int .i64 (t.e : Int)) := by simp [World.cell?, hT3]
    gi_wp2
    refine ⟨W3, by rw [← hW3]; exact run_beginRound hl2 hst, ?_⟩
    have HB3 : Hid (∀ k, k < W1.heap.size → k ≠ w.heap.size + 5 → W3.heap[k]? = W1.heap[k]?) := hB3
    have HL3 : Hid (W3.heap[w.heap.size + 5]? = some (.loop { rc with state := .busy })) := hl3
    have HZ3 : Hid (W3.heap.size = W1.heap.size + 1) := hz3
    have HDF : Hid (W3.heap[w.heap.size + 4]? = some noDef) := (hB3 _ (by omega) (by omega)).trans hdf
    have HT3 : Hid (Toks W3 w.heap.size v pre) := ht3
    clear hput3 hl3 hz3 hB3 hT3 hr3 ht3 hB12 hT2 hl2 hz2 hlp hdf hr ht hW2 hW3
    have hbs := hbel3.size
    gi_wp2_with (gi_at_builtin; refine wpListIn_append_own _ rfl _ _ 37 rfl w.heap.size 43 i1 _ 4 40 Tryz.underlying37 hi1 hy0 hy1 hy2 rfl (by decide) _ _ _ rfl (HT3.out.alloc _) ⟨W3.heap.size, 0, none⟩ 1 1 [.int .i64 t.k, .string ⟨t.t.toArray⟩, .int .i64 (t.b : Int), .int .i64 (t.e : Int)] rfl rfl ?c1 ?c2 ?c3 ?c4 ?c5 ?_)
    case c1 =>
      intro j u hu
      rw [cell_new]
      simpa using hu
    case c2 => simp [Value.oneCell']
    case c3 =>
      have : (2049 : Nat) ≤ maxLen := by decide
      omega
    case c4 => omega
    case c5 => simp; omega
    intro v' w1 hown' hgrow _
    obtain ⟨g', cap', rfl⟩ := ownsRow_succ hown'
    obtain ⟨b1, r5, t5, n5, o5, be5, s5⟩ := RE _ w1 _ hown' hgrow
    have e1 := b1.cell
    have f1 := b1.frozen
    have nl : v.ownBlock ≠ some (w.heap.size + 5) := fun e => by
      obtain ⟨_, _, cur, hc⟩ := toks_block HT3.out e
      rw [HL3.out] at hc
      cases hc
    have nd : v.ownBlock ≠ some (w.heap.size + 4) := fun e => by
      obtain ⟨_, _, cur, hc⟩ := toks_block HT3.out e
      rw [HDF.out] at hc
      cases hc
    have hz3 := HZ3.out
    have hl5 := (o5 (w.heap.size + 5) (by omega) (by omega) nl).trans HL3.out
    have hd5 := (o5 (w.heap.size + 4) (by omega) (by omega) nd).trans HDF.out
    have hR5 := o5 (w.heap.size + 6) (by obtain ⟨cs, hcs⟩ := hR3; exact lt_of_block hcs) (by omega) hne
    have hR1 := HB3.out (w.heap.size + 6) (by obtain ⟨cs, hcs⟩ := hR; exact lt_of_block hcs) (by omega)
    have HRC : Hid ({ { rc with state := .busy } with state := if (none : Option Code).isNone = true then LoopState.ready else LoopState.done, pending := none } = rc) := by
      show _ = _
      cases rc
      simp_all
    have HE : Hid ((Instr.endRound (w.heap.size + 5) none).run Tryz.prog (w1.setCell ⟨w.heap.size, 0, none⟩ (.slice (some ⟨g', 0, none⟩) (pre.length + 1) cap')) = .ok (.bool true) ((w1.setCell ⟨w.heap.size, 0, none⟩ (.slice (some ⟨g', 0, none⟩) (pre.length + 1) cap')).putObj (w.heap.size + 5) (.loop rc))) := by
      have := run_endRound (P := Tryz.prog) none hl5
      rw [HRC.out] at this
      exact this
    have HM : Hid (Mid w (.loop rc) noDef (pre ++ [t]) ((w1.setCell ⟨w.heap.size, 0, none⟩ (.slice (some ⟨g', 0, none⟩) (pre.length + 1) cap')).putObj (w.heap.size + 5) (.loop rc))) := mid_put r5 t5 n5 hl5 hd5 be5 (by omega)
    have HR : Hid (((w1.setCell ⟨w.heap.size, 0, none⟩ (.slice (some ⟨g', 0, none⟩) (pre.length + 1) cap')).putObj (w.heap.size + 5) (.loop rc)).heap[w.heap.size + 6]? = W1.heap[w.heap.size + 6]?) := (World.putObj_heap_other (by omega)).trans (hR5.trans hR1)
    clear hl5 hd5 hR5 hR1 r5 t5 n5 o5 be5 s5 b1 nl nd RE hown' hgrow
    gi_wp2
    exact ⟨_, _, HE.out, rfl, HM.out, HR.out, gl.belowG HM.out.bel⟩
  case hdone =>
    intro ts W L hx hM
    have HX : Hid (lexG s.length 0 s = .inr ts) := hx
    clear hz0 hb0 hr0 hs0 TO hx
    obtain ⟨v, hr, ht, hne⟩ := hM.row
    obtain ⟨a, m, c, rfl⟩ := toks_slice ht
    have hbel := hM.bel
    have hdf := hM.dfr
    have hsiz := hM.siz
    have d0 := hr.bl.cell
    have d1 := hr.ba.cell
    have d2 := hr.be.cell
    have f0 := hr.bl.frozen
    have f1 := hr.ba.frozen
    have f2 := hr.be.frozen
    have HB : Hid (w.heap.size + 1 + 1 = w.heap.size + 2) := rfl
    gi_wp2
    show LeavesInM _ _ _ _ _ _ _ _ _
    have nd : (Value.slice a m c).ownBlock ≠ some (w.heap.size + 4) := fun e => by
      obtain ⟨_, _, cur, hc⟩ := toks_block ht e
      rw [hdf] at hc
      cases hc
    have q1 : Res3 (((W.setCell ⟨w.heap.size, 0, none⟩ (.slice a m c)).setCell ⟨w.heap.size + 1, 0, none⟩ (.int .i64 0)).setCell ⟨w.heap.size + 2, 0, none⟩ (.int .i64 0)) w.heap.size (.slice a m c) 0 0 :=
      ⟨boxed_other (boxed_other (hr.bl.set _) (by omega) _ _) (by omega) _ _, boxed_other ((boxed_other hr.ba (by omega) _ _).set _) (by omega) _ _, (boxed_other (boxed_other hr.be (by omega) _ _) (by omega) _ _).set _⟩
    have q2 : ∀ k, k ≠ w.heap.size → k ≠ w.heap.size + 1 → k ≠ w.heap.size + 2 → (((W.setCell ⟨w.heap.size, 0, none⟩ (.slice a m c)).setCell ⟨w.heap.size + 1, 0, none⟩ (.int .i64 0)).setCell ⟨w.heap.size + 2, 0, none⟩ (.int .i64 0)).heap[k]? = W.heap[k]? := fun k h1 h2 h3 =>
      ((Below.heap_setCell _ ⟨w.heap.size + 2, 0, none⟩ _ k h3).trans (Below.heap_setCell _ ⟨w.heap.size + 1, 0, none⟩ _ k h2)).trans (Below.heap_setCell _ ⟨w.heap.size, 0, none⟩ _ k h1)
    have q3 : Toks (((W.setCell ⟨w.heap.size, 0, none⟩ (.slice a m c)).setCell ⟨w.heap.size + 1, 0, none⟩ (.int .i64 0)).setCell ⟨w.heap.size + 2, 0, none⟩ (.int .i64 0)) w.heap.size (.slice a m c) ts := toks_keep ht (fun g hg => q2 g (fun e => by
        obtain ⟨_, _, cur, hc⟩ := toks_block ht hg
        rw [e, show W.heap[w.heap.size]? = _ from hr.bl] at hc
        cases hc) (fun e => by
        obtain ⟨_, _, cur, hc⟩ := toks_block ht hg
        rw [e, show W.heap[w.heap.size + 1]? = _ from hr.ba] at hc
        cases hc) (fun e => by
        obtain ⟨_, _, cur, hc⟩ := toks_block ht hg
        rw [e, show W.heap[w.heap.size + 2]? = _ from hr.be] at hc
        cases hc))
    have q4 := (q2 (w.heap.size + 4) (by omega) (by omega) (by omega)).trans hdf
    have q5 : Below w.heap.size w (((W.setCell ⟨w.heap.size, 0, none⟩ (.slice a m c)).setCell ⟨w.heap.size + 1, 0, none⟩ (.int .i64 0)).setCell ⟨w.heap.size + 2, 0, none⟩ (.int .i64 0)) :=
      ((hbel.setCell (p := ⟨w.heap.size, 0, none⟩) (Nat.le_refl _) _).setCell (p := ⟨w.heap.size + 1, 0, none⟩) (Nat.le_succ _) _).setCell (p := ⟨w.heap.size + 2, 0, none⟩) (by show w.heap.size ≤ w.heap.size + 2; omega) _
    refine leave_all (B := w.heap.size) (by simp) q4 ?_
    refine (catch_idle 2 w.heap.size _).mono ?_
    rintro e u' w' ⟨rfl, rfl, rfl⟩
    refine ⟨_, res3_run (res3_put q1) rfl rfl rfl, ?_⟩
    rw [HX.out]
    exact ⟨⟨_, rfl, ownsRow_putObj q3 _ q4 rfl⟩, q5.trans (belowK_b (w := w) (Nat.le_refl _) _ _ _ _ (by omega) q4 rfl rfl)⟩
  case hpan =>
    intro p ts W L hx hM
    have HX : Hid (lexG s.length 0 s = .inl p) := hx
    clear hz0 hb0 hr0 hs0 TO hx
    obtain ⟨v, hr, ht, hne⟩ := hM.row
    obtain ⟨a, m, c, rfl⟩ := toks_slice ht
    have hbel := hM.bel
    have hdf := hM.dfr
    have hsiz := hM.siz
    gi_wp2
    show LeavesInM _ _ _ _ _ _ _ _ _
    refine leave_all (B := w.heap.size) (by simp) hdf ?_
    have hb4 : Below w.heap.size w (W.putObj (w.heap.size + 4) (.deferred none)) := hbel.trans (belowK_b (w := w) (Nat.le_refl _) _ _ _ _ (by omega) hdf rfl rfl)
    refine (catch_dies 2 w.heap.size p.1 p.2 _ 0 0 [] _ (res3_put hr) ⟨_, _, _, rfl⟩).mono ?_
    rintro e u' w' ⟨rfl, rfl, hr', hb'⟩
    refine ⟨_, res3_run hr' rfl rfl rfl, ?_⟩
    rw [HX.out]
    exact ⟨rfl, hb4.trans hb'⟩
end Go.Proofs.YtlabcadpkdgjnaaGreatDoor
