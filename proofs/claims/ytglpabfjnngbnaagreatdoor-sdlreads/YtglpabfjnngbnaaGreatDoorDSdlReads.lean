/- The schema of any bytes, or what is wrong with them first, and where, is as the document says: for any string (of at most 2^47 - 4096 bytes: the form's own reach); the listed package variables are as the program's text lays them (tied). -/
import Derived.Test.YtglpabfjnngbnaaGreatDoorD05
import Derived.Test.YtglpabfjnngbnaaGreatDoorE6
import Derived.Test.YtglpabfjnngbnaaGreatDoorRows
import Derived.Test.YtglpabfjnngbnaaGreatDoorLxK
import Derived.Lib.LaidU8
import Derived.LaidMore
import Derived.Stop.LaidErr
import Derived.Lay
import Derived.Shelf.Vars
import Derived.Test.YtglpabfjnngbnaaGreatDoorTie
import Derived.Test.YtglpabfjnngbnaaGreatDoorCards
import Derived.ProofKit
import Derived.OpenShut
import Derived.ShutString
import Derived.ChangeOld
import Derived.SizedLaws
import Derived.SevenTiedAt
import Derived.Stop.Joined
namespace Go.Proofs.YtglpabfjnngbnaaGreatDoor
open Go Go.RowKit Go.Shelf
/-- What the document's Parse comes to. -/
def ParsZ (w : World) (r : Except (Nat × Int) Sch) (e : Ending) (w' : World) : Prop := (match r with
  | .error p => e = .returned (.tuple #[.agg #[.slice none 0 0, .slice none 0 0], .int .i64 (p.1 : Int), .int .i64 p.2])
  | .ok s => ∃ p1 n1 m1 p2 n2 m2, e = .returned (.tuple #[.agg #[.slice p1 n1 m1, .slice p2 n2 m2], .int .i64 0, .int .i64 0]) ∧ SchAt w' (.slice p1 n1 m1) (.slice p2 n2 m2) s) ∧ Below w.heap.size w w'
theorem zparse_any (s : Bs) (w : World) : Calls Tryz.prog 9 #[.string ⟨s.toArray⟩] w (ParsZ w (parseD s)) := by
  unfold parseD
  cases hs : lexS s with
  | inl p => exact (zparse_lex s p hs w).mono fun e w' h => h
  | inr ts =>
    refine (zparse_toks s ts hs w).mono ?_
    intro e w' h
    have hg := ag_schema (ts := ts) (N := s.length) (fun t ht => (lexS_full hs).2.2 t ht)
    show ParsZ w (match schemaD (ts ++ [eofT s.length]) with | .error p => .error p | .ok p => .ok p.1) e w'
    unfold ParsM at h
    cases hd : schemaD (ts ++ [eofT s.length]) with
    | error p =>
      rw [hd] at hg
      obtain ⟨h1, h2⟩ := hg
      rw [if_pos (by omega)] at h
      obtain ⟨b, d⟩ := p
      simp only at h1
      subst h1
      rw [h2] at h
      exact ⟨h.1, h.2⟩
    | ok p =>
      rw [hd] at hg
      obtain ⟨h1, h2⟩ := hg
      rw [if_neg (by omega), h1] at h
      obtain ⟨p1, n1, m1, p2, n2, m2, he, hS, hb⟩ := h
      exact ⟨⟨p1, n1, m1, p2, n2, m2, he, hS⟩, hb⟩
theorem zpar_err {x : Bs} {p : Nat × Int} (h : parseD x = .error p) (W : World) : Calls Tryz.prog 9 #[.string ⟨x.toArray⟩] W fun e w' => e = .returned (.tuple #[.agg #[.slice none 0 0, .slice none 0 0], .int .i64 (p.1 : Int), .int .i64 p.2]) ∧ Below W.heap.size W w' := by
  have C := zparse_any x W
  rw [h] at C
  exact C.mono fun e w' h => h
theorem zpar_ok {x : Bs} {c : Sch} (h : parseD x = .ok c) (W : World) : Calls Tryz.prog 9 #[.string ⟨x.toArray⟩] W fun e w' => ∃ p1 n1 m1 p2 n2 m2, e = .returned (.tuple #[.agg #[.slice p1 n1 m1, .slice p2 n2 m2], .int .i64 0, .int .i64 0]) ∧ SchAt w' (.slice p1 n1 m1) (.slice p2 n2 m2) c ∧ Below W.heap.size W w' := by
  have C := zparse_any x W
  rw [h] at C
  exact C.mono fun e w' ⟨⟨p1, n1, m1, p2, n2, m2, he, hS⟩, hb⟩ => ⟨p1, n1, m1, p2, n2, m2, he, hS, hb⟩
end Go.Proofs.YtglpabfjnngbnaaGreatDoor
namespace Go.Proofs.YtglpabfjnngbnaaGreatDoor
open Go Go.RowKit Go.Shelf
theorem rpar_ok {t : Bs} {x : Sch} {w : World} (h : parseD t = .ok x) (gl : Gl w) : Calls Tryz.prog 8 #[.string ⟨t.toArray⟩] w fun e w' => ∃ p1 n1 m1 p2 n2 m2, e = .returned (.tuple #[.agg #[.slice p1 n1 m1, .slice p2 n2 m2], .int .i64 0, .int .i64 0]) ∧ SchAt w' (.slice p1 n1 m1) (.slice p2 n2 m2) x ∧ Below w.heap.size w w' := by
  refine (dparse_at t w gl).mono ?_
  rintro e w' (⟨p, hp, _⟩ | ⟨y, p1, n1, m1, p2, n2, m2, hp, he, hs, hb⟩)
  · rw [h] at hp
    cases hp.out
  · rw [h] at hp
    have := hp.out
    cases this
    exact ⟨p1, n1, m1, p2, n2, m2, he, hs, hb⟩
theorem rpar_err {t : Bs} {p : Nat × Int} {w : World} (h : parseD t = .error p) (gl : Gl w) : Calls Tryz.prog 8 #[.string ⟨t.toArray⟩] w fun e w' => e = .returned (.tuple #[.agg #[.slice none 0 0, .slice none 0 0], .int .i64 (p.1 : Int), .int .i64 p.2]) ∧ Below w.heap.size w w' := by
  refine (dparse_any t w gl).mono ?_
  rintro e w' ⟨hm, hb⟩
  rw [h] at hm
  exact ⟨hm, hb⟩
set_option maxRecDepth 100000 in
set_option maxHeartbeats 8000000 in
theorem sreads_err (x : Bs) (w : World) (p : Nat × Int) (h : parseD x = .error p) (gl : Gl w) : Calls Tryz.prog 3 #[.string ⟨x.toArray⟩] w fun e w' => e = .returned (.bool true) ∧ Below w.heap.size w w' := by
  have PA := rpar_err h gl
  have PZ := fun W => zpar_err h W
  obtain ⟨b, d⟩ := p
  simp only at PA PZ
  clear h
  go_enter Tryz.func3, Tryz.ntmps3
  go_wp2_with (first
    | (go_at_call 11; (with_reducible refine (dsame_eq (nil_At _) (nil_At _)).mono ?_); rintro e w4 ⟨rfl, b4⟩; have B4 := blz B3 b4)
    | (go_at_call 10; (with_reducible refine (dfixed_any _ gl2).mono ?_); rintro e w3 ⟨rfl, b3⟩; have B3 := blz B2 b3; have T1 := (b3.block _ (lt_of_block R2)).trans R2; have T2 := (b3.block _ (lt_of_block Q2)).trans Q2; obtain ⟨u1, u2⟩ := row2' T1; obtain ⟨u3, u4⟩ := row2' T2)
    | (go_at_call 9; (with_reducible refine (PZ _).mono ?_); rintro e w2 ⟨rfl, b2⟩; have B2 := blz (blz B1 b2) (al1 w2 (.cells #[.slice none 0 0, .slice none 0 0] 25)); have gl2 := (gl1.on b2).alloc (.cells #[.slice none 0 0, .slice none 0 0] 25); have Q2 := heap_alloc_new w2 (.cells #[.slice none 0 0, .slice none 0 0] 25); have R2 := (((b2.block _ (lt_of_block R1)).trans R1)); replace R2 := ((al1 w2 (.cells #[.slice none 0 0, .slice none 0 0] 25)).block _ (lt_of_block R2)).trans R2)
    | (go_at_call 8; (with_reducible refine PA.mono ?_); rintro e w1 ⟨rfl, b1⟩; have B1 := blz b1 (al1 w1 (.cells #[.slice none 0 0, .slice none 0 0] 25)); have gl1 := (gl.on b1).alloc (.cells #[.slice none 0 0, .slice none 0 0] 25); have R1 := heap_alloc_new w1 (.cells #[.slice none 0 0, .slice none 0 0] 25))
    | fail)
  go_ret
  exact ⟨rfl, B4⟩
set_option maxRecDepth 100000 in
set_option maxHeartbeats 8000000 in
theorem sreads_ok (x : Bs) (w : World) (c : Sch) (h : parseD x = .ok c) (gl : Gl w) : Calls Tryz.prog 3 #[.string ⟨x.toArray⟩] w fun e w' => e = .returned (.bool true) ∧ Below w.heap.size w w' := by
  have PA := rpar_ok h gl
  have PZ := fun W => zpar_ok h W
  clear h
  go_enter Tryz.func3, Tryz.ntmps3
  go_wp2_with (first
    | (go_at_call 11; (with_reducible refine (dsame_eq S13 S23).mono ?_); rintro e w4 ⟨rfl, b4⟩; have B4 := blz B3 b4)
    | (go_at_call 10; (with_reducible refine (dfixed_any _ gl2).mono ?_); rintro e w3 ⟨rfl, b3⟩; have B3 := blz B2 b3; have T1 := (b3.block _ (lt_of_block R2)).trans R2; have T2 := (b3.block _ (lt_of_block Q2)).trans Q2; obtain ⟨u1, u2⟩ := row2' T1; obtain ⟨u3, u4⟩ := row2' T2; have S13 := S12.on b3; have S23 := S22.on b3)
    | (go_at_call 9; (with_reducible refine (PZ _).mono ?_); rintro e w2 ⟨p2, n2, m2, q2, k2, l2, rfl, S2, b2⟩; have B2 := blz (blz B1 b2) (al1 w2 (.cells #[.slice p2 n2 m2, .slice q2 k2 l2] 25)); have gl2 := (gl1.on b2).alloc (.cells #[.slice p2 n2 m2, .slice q2 k2 l2] 25); have Q2 := heap_alloc_new w2 (.cells #[.slice p2 n2 m2, .slice q2 k2 l2] 25); have R2 := (((b2.block _ (lt_of_block R1)).trans R1)); replace R2 := ((al1 w2 (.cells #[.slice p2 n2 m2, .slice q2 k2 l2] 25)).block _ (lt_of_block R2)).trans R2; have S12 := (S11.on b2).on (al1 w2 (.cells #[.slice p2 n2 m2, .slice q2 k2 l2] 25)); have S22 := S2.on (al1 w2 (.cells #[.slice p2 n2 m2, .slice q2 k2 l2] 25)))
    | (go_at_call 8; (with_reducible refine PA.mono ?_); rintro e w1 ⟨p1, n1, m1, q1, k1, l1, rfl, S1, b1⟩; have B1 := blz b1 (al1 w1 (.cells #[.slice p1 n1 m1, .slice q1 k1 l1] 25)); have gl1 := (gl.on b1).alloc (.cells #[.slice p1 n1 m1, .slice q1 k1 l1] 25); have R1 := heap_alloc_new w1 (.cells #[.slice p1 n1 m1, .slice q1 k1 l1] 25); have S11 := S1.on (al1 w1 (.cells #[.slice p1 n1 m1, .slice q1 k1 l1] 25)))
    | fail)
  go_ret
  exact ⟨rfl, B4⟩
theorem sreads_walk (x : Bs) (_hx : x.length ≤ 140737488351232) (w : World) (gl : Gl w) : Calls Tryz.prog 3 #[.string ⟨x.toArray⟩] w fun e w' => e = .returned (.bool true) ∧ Below w.heap.size w w' := by
  cases h : parseD x with
  | error p => exact sreads_err x w p h gl
  | ok c => exact sreads_ok x w c h gl
end Go.Proofs.YtglpabfjnngbnaaGreatDoor
namespace Go.Proofs.YtglpabfjnngbnaaGreatDoor
open Go Go.RowKit Go.Lib

def listed : List (String × DataW Unit) := Rows.sdlReadsRow.laid
theorem at_var {w : World} {n : String} {d : DataW Unit} {g t : Nat} (h : VarReads Tryz.prog w n d) (hg : Tryz.prog.globalNamed n = some g) (ht : (Tryz.prog.globals[g]?).map (·.type) = some t) :
    ∃ (cs : Array Value) (fuel : Nat) (p : List MemPlace), w.var? Tryz.prog n = some cs ∧ DataW.trod (fun _ => ()) Tryz.prog w 0 (fun _ => true) false fuel t cs.toList = some (d, p) ∧ ∀ i, w.cell? ⟨g, i, none⟩ = cs.toList[i]? := by
  obtain ⟨g', t', cs, fuel, p, hg', ht', hv, hd⟩ := h
  obtain rfl := Option.some.inj (hg.symm.trans hg')
  obtain rfl := Option.some.inj (ht.symm.trans ht')
  exact ⟨cs, fuel, p, hv, hd, fun i => by rw [World.var?_cell hg hv i, Array.getElem?_toList]⟩
theorem es_laid {w : World} (h : VarReads Tryz.prog w "strconv.ErrSyntax" Rows.laid_strconv_ErrSyntax) : ∃ te pe, w.cell? ⟨3, 0, none⟩ = some (.iface te pe) := by
  obtain ⟨cs, fuel, p, _, hd, hc⟩ := at_var h (g := 3) (t := 97) (by kernel_rfl) (by kernel_rfl)
  cases fuel with
  | zero => simp [DataW.trod] at hd
  | succ n =>
    have hu := Tryz.underlying97
    simp only [DataW.trod, hu, Rows.laid_strconv_ErrSyntax] at hd
    rw [hc]
    split at hd
    all_goals simp_all
theorem max_of {W : World} (h : W.ShapedOpen Tryz.prog) : ∃ m, W.cell? ⟨gM, 0, none⟩ = some (.int .i64 m) :=
  cell_of_shapedOpen_int h (g := 0) (t := 3) (zero := #[.int .i64 0]) (of_decide_eq_true (by kernel_rfl)) (by kernel_rfl) rfl (by kernel_rfl) (by kernel_rfl) Tryz.underlying3
theorem gl_laid {W : World} (hL : laidMet Tryz.prog listed W) (hs : W.ShapedOpen Tryz.prog) : Gl W := by
  obtain ⟨te, pe, he⟩ := es_laid (laidMet.reads hL (.tail _ (.tail _ (.tail _ (.tail _ (.tail _ (.head _)))))))
  exact ⟨max_of hs, ⟨_, he, Or.inr ⟨te, pe, rfl⟩⟩⟩
end Go.Proofs.YtglpabfjnngbnaaGreatDoor
namespace Go.Proofs.YtglpabfjnngbnaaGreatDoor
open Go.ChangeShapes Go.WideShapes Go.ChangeAt Go.RowKit
open Go.ChangeMaps (open_string shut_string)

theorem Tryz.own : ownKnob Tryz.prog.godebug = none := by kernel_rfl

/-- The road from the contract to the row where the contract is handed both what is listed and the world's shape. -/
theorem lifted_by {H : Type} {enc : TypeId × Value → H} {C : Checked} {os : Os} {f : FuncId} {fn : Func} {s : ChangeSpec} {conds : List PathCond} {apart fresh handsOn again : Bool} {X : World → Array Value → Prop}
    (hX : ∀ (w w' : World) (args : Array Value), w.heap = w'.heap → X w args → X w' args)
    (own : ownKnob C.prog.godebug = none) (started : os.Started) (noInit : C.prog.inits.idxOf? f = none) (hfn : C.prog.funcs[f]? = some fn)
    (witness : ∃ (w : World) (tape : Tape) (i : Input), w.os = os ∧ (w.forCall tape i).Shaped C.prog ∧ i.vars = [] ∧ Input.okWide C.prog (w.forCall tape i) .any w.heap.size f i ∧
      ((s.pre enc C.prog fn conds apart (w.forCall tape i).memory i.args ∧ X (w.forCall tape i).memory i.args) ∧ sizedMet enc C.prog fn (OpenSpec.ofChange s) apart (w.forCall tape i).memory i.args) ∧ ({} : Assume).holds C.prog (lone (Frame.enter C.prog f i.args .normal) [] (w.forCall tape i)))
    (contract : ∀ (W : World) (base : Nat) (args : Array Value) (ds gs : List (DataW H)) (before : List MemPlace),
      (∀ (j : Nat) t v, fn.params[j]? = some t → args[j]? = some v → Value.okWide C.prog W .any base t v) →
      DataW.Whole enc C.prog fn.params.toList s.vars apart W args.toList ds gs before →
      (DataW.weightsEach C.prog (fn.params.toList ++ s.plain.varTypes C.prog) (ds ++ gs)).all (· ≤ reachBytes) = true → W.ShapedOpen C.prog → X W args →
      Calls C.prog f args W fun e W' => ∃ v, e = .returned v ∧ s.post enc C.prog fn apart fresh handsOn again W args v W') :
    ReturnsInHanded {} C os f .any (fun w args => (s.pre enc C.prog fn conds apart w args ∧ X w args) ∧ sizedMet enc C.prog fn (OpenSpec.ofChange s) apart w args) (s.post enc C.prog fn apart fresh handsOn again) := by
  refine returnsInHanded_of_calls own started noInit witness ?_
  intro w tape i _ hsh _ hok hpre _
  obtain ⟨_, _, _, fn', hfn', _, _, _, _, hval⟩ := hok
  obtain rfl : fn' = fn := Option.some.inj (hfn'.symm.trans hfn)
  obtain ⟨⟨⟨ds, gs, before, hw, _⟩, hx⟩, hz⟩ := hpre
  refine (contract (w.forCall tape i) w.heap.size i.args ds gs before hval (DataW.Whole.of_heap (w' := w.forCall tape i) (by rfl) hw) (hz.weights hw) hsh (hX _ _ _ (by rfl) hx)).mono fun e W' ⟨v, he, hp⟩ => ?_
  subst he
  exact ChangeSpec.post_blind hp

set_option maxRecDepth 100000 in
theorem sdlReads_lifted (os : Os) (started : os.Started) (H : Type) (enc : TypeId × Value → H) :
    ReturnsInHanded {} Tryz.checked os 3 .any (fun w args => (Rows.sdlReadsSpec.pre enc Tryz.prog Tryz.f3 Rows.sdlReadsRow.domain false w args ∧ laidMetH Tryz.prog listed w) ∧ sizedMet enc Tryz.prog Tryz.f3 (OpenSpec.ofChange Rows.sdlReadsSpec) false w args)
      (Rows.sdlReadsSpec.post enc Tryz.prog Tryz.f3 false true false false) := by
  refine lifted_by (C := Tryz.checked) (X := fun w _ => laidMetH Tryz.prog listed w) (fun _ _ _ hh h => h.of_heap hh) Tryz.own started (by kernel_rfl) Tryz.func3
    (ChangeSpec.witness_shaped (enc := enc) (C := Tryz.checked) (os := os) (X := fun w _ => laidMetH Tryz.prog listed w) false (World.laidAll Tryz.prog os listed) #[.string ByteArray.empty] 8 (World.laidAll_os _ _ _)
      (World.shaped_of_ZipB (by kernel_rfl) (by kernel_rfl)) (by kernel_rfl) (by kernel_rfl) (by kernel_rfl)
      (by rw [MakeChecks.laidMetH_plain _ _ _ (by kernel_rfl)]; exact laidMet_laidAll _ (by kernel_rfl) (by kernel_rfl))) ?_
  intro W base args ds gs before hval0 hW hsz hsh hL
  have hval : ∀ (j : Nat) t v, Tryz.f3.params[j]? = some t → args[j]? = some v → Value.okWide Tryz.prog W .any base t v := hval0
  have hW' := hW
  obtain ⟨p, q, hA0, hV, rfl, hfz, hnd⟩ := hW
  have hA : DataW.TrodAll enc Tryz.prog W 0 (fun _ => true) true Tryz.f3.params.toList args.toList ds p := hA0
  rw [Tryz.params3] at hA hval
  obtain ⟨v0, vs0, d0, ds0, p0, q0, hargs, rfl, rfl, h0, r0⟩ := trodAll_cons hA
  obtain ⟨rfl, rfl, rfl⟩ := trodAll_nil r0
  obtain rfl : args = #[v0] := by cases args; simp_all
  obtain ⟨rfl, rfl⟩ := trodVars_none hV
  obtain ⟨a0, rfl, rfl, rfl, w0⟩ := open_string Tryz.underlying9 (hval 0 9 v0 rfl rfl) h0
  have b0 : a0.data.toList.length ≤ 140737488351232 := sized_string hsz (j := 0) rfl rfl
  have hL2 : laidMetH Tryz.prog listed W := hL
  rw [MakeChecks.laidMetH_plain _ _ _ (by kernel_rfl)] at hL2
  have gl := gl_laid hL2 hsh
  clear hA0 hval0 hL hL2 hsz
  have wk := sreads_walk a0.data.toList b0 W gl
  simp only [mk_toList] at wk
  refine wk.mono fun e W' ⟨he, bel⟩ => ?_
  subst he
  exact ⟨_, rfl, _, _, _, [], _, [], hW', trodAll_mk1 (shut_bool Tryz.underlying4 _), (trodAll_cons_mk (shut_string Tryz.underlying9 w0) trodAll_mk0), rfl, bel.frame _, fun h => by cases h⟩

theorem sdlReads_row : Rows.SdlReadsSaid :=
  OpenClaim.holds_of_wide 3 Tryz.f3 rfl rfl rfl rfl rfl rfl rfl ⟨rfl, rfl, rfl, rfl, rfl⟩ rfl rfl rfl rfl rfl (by kernel_rfl) Tryz.func3 (by kernel_rfl)
    (of_decide_eq_true (by kernel_rfl)) (by unfold Func.isWrapper; first | (rw [if_pos (by decide +kernel)]; kernel_rfl) | (rw [if_neg (by decide +kernel)]; exact ⟨rfl, rfl⟩))
    (fun os started H enc _ => sdlReads_lifted os started H enc)

theorem sdlReads_holds : Rows.SdlReadsCardSaid :=
  Claim7.holds_tied_plain_at .later [] _ _ _ _ sdlReads_row (fun _ h => by cases h) (by kernel_rfl) (fun _ h => by cases h) sdlReads_row_tie rfl ⟨rfl, rfl⟩ (by kernel_rfl) rfl
    (fun f fn hf hfn => by
      obtain rfl : f = 3 := Option.some.inj ((show Tryz.prog.funcNamed "rhizome/rhizomelaw08.SdlReads" = some 3 by kernel_rfl).symm.trans hf) |>.symm
      obtain rfl : fn = Tryz.f3 := (Option.some.inj (Tryz.func3.symm.trans hfn)).symm
      exact ⟨by kernel_rfl, fun j t ht => by
        rw [Tryz.params3] at ht
        have hm : t ∈ [9] := by simpa using Array.mem_of_getElem? ht
        have hall : ([9].all fun u => !Tryz.prog.wantsStandIn u) = true := by kernel_rfl
        exact (show Tryz.prog.wantsStandIn t = false by simpa using List.all_eq_true.1 hall t hm)⟩)
    (by kernel_rfl)
#print axioms sdlReads_holds
end Go.Proofs.YtglpabfjnngbnaaGreatDoor
