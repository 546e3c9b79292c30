/- A schema's text behind another one's is the text of both: for any two schemas that are, with all that they hold, of bulk at most 1048576 (the second form); the listed package variables are as the program's text lays them (tied). -/
import Derived.Test.YtlabcadpkdgjnaaGreatDoorE7
import Derived.Test.YtlabcadpkdgjnaaGreatDoorJ1
import Derived.Test.YtlabcadpkdgjnaaGreatDoorRows
import Derived.Test.YtlabcadpkdgjnaaGreatDoorLxK
import Derived.Lib.LaidU8
import Derived.LaidMore
import Derived.Stop.LaidErr
import Derived.Lay
import Derived.Shelf.Vars
import Derived.Test.YtlabcadpkdgjnaaGreatDoorTie
import Derived.Test.YtlabcadpkdgjnaaGreatDoorCards
import Derived.Test.YtlabcadpkdgjnaaGreatDoorJ2
import Derived.ProofKit
import Derived.OpenShut
import Derived.ShutString
import Derived.SevenTiedAt
import Derived.Stop.Joined
import Derived.Carry
import Derived.Deep.DeepHandedRow
namespace Go.Proofs.YtlabcadpkdgjnaaGreatDoor
open Go Go.RowKit Go.ChangeShapes Go.WideShapes Go.Deep
section
variable {H : Type} {enc : TypeId × Value → H} {w : World} {base : Nat} {spare : Nat → Bool} {held : Bool}
theorem open_slC {α : Type} {sz : Nat} {t e : TypeId} {p : α → Nat → Nat → Prop} {g : α → Nat} (ht : Tryz.prog.underlying t = some (.slice e)) (hsz : Tryz.prog.cellsOf e = sz) (hs1 : 0 < sz) {fuel : Nat} {cs : List Value} {x : DataW H × List MemPlace} (h : DataW.trod enc Tryz.prog w base spare held fuel t cs = some x) (hw : Wu x.1)
    (each : ∀ (fuel : Nat) (cs : List Value) (y : DataW H × List MemPlace) (b o : Nat), DataW.trod enc Tryz.prog w base spare held fuel e cs = some y → Wu y.1 → cs.length = sz → (∀ j u, cs[j]? = some u → w.cell? ⟨b, o + j, none⟩ = some u) → ∃ a : α, p a b o ∧ g a ≤ Rows.uptoBulk y.1) :
    ∃ (v : Value) (l : List α), cs = [v] ∧ Sl w v l.length sz (fun i b o => ∀ a, l[i]? = some a → p a b o) ∧ szL g l + 1 ≤ Rows.uptoBulk x.1 ∧ Nn v := by
  rcases open_slice ht h with ⟨hcs, _⟩ | ⟨ad, len, cap, m, n, D, Pl, hcs, _, hl, hm, hmm, rfl, hx⟩
  · exact ⟨_, [], hcs, ⟨_, 0, rfl, Nat.le_refl _, by simp, fun h => absurd h (by simp)⟩, bulk_pos _, Or.inl rfl⟩
  · have hlm : len ≤ m := by rw [hmm]; split <;> omega
    rw [hsz] at hx
    have hlen47 : len ≤ 140737488355328 := by
      have := hw.len
      simpa using this
    by_cases h0 : len = 0
    · subst h0
      exact ⟨_, [], hcs, ⟨some ad, cap, rfl, by simp, by simp, fun h => absurd h (by simp)⟩, bulk_pos _, Or.inr ⟨_, _, _, rfl⟩⟩
    · obtain ⟨b, o, sp⟩ := ad
      have cell : ∀ i, i < len → ∃ cs', DataW.trod enc Tryz.prog w base spare held n e cs' = some (D i, Pl i) ∧ cs'.length = sz ∧ ∀ j, j < sz → w.cell? ((⟨b, o, sp⟩ : Addr).add (i * sz + j)) = cs'[j]? := by
        intro i hi
        obtain ⟨cs', h1, h2⟩ := hx i (by omega)
        obtain ⟨_, hlen, hcell⟩ := World.cells?_some h1
        refine ⟨cs', h2, hlen, fun j hj => ?_⟩
        have := hcell j hj
        rw [add_add] at this
        exact this
      obtain ⟨cs0, _, hl0, hc0⟩ := cell 0 (by omega)
      obtain ⟨u0, hu0⟩ : ∃ u, cs0[0]? = some u := ⟨_, List.getElem?_eq_getElem (by omega)⟩
      have hc00 := (hc0 0 hs1).trans hu0
      have hsp : sp = none := by simpa [Addr.add] using World.cell?_spot hc00
      subst hsp
      have hbl : b < w.heap.size := by
        have := World.block_lt_of_cell? w _ hc00
        simpa [Addr.add] using this
      have each' : ∀ i, i < len → ∃ a : α, p a b (o + i * sz) ∧ g a ≤ Rows.uptoBulk (D i) := by
        intro i hi
        obtain ⟨cs', h1, h2, h3⟩ := cell i hi
        refine each n cs' _ b (o + i * sz) h1 (hw.elem (List.mem_map.2 ⟨i, List.mem_range.2 hi, rfl⟩)) h2 fun j u hj => ?_
        have hjs : j < sz := by
          have := (List.getElem?_eq_some_iff.1 hj).1
          omega
        have h4 := (h3 j hjs).trans hj
        have e4 : (⟨b, o, none⟩ : Addr).add (i * sz + j) = ⟨b, o + i * sz + j, none⟩ := by simp [Addr.add, Nat.add_assoc]
        rw [e4] at h4
        exact h4
      obtain ⟨a0, _⟩ := each' 0 (by omega)
      haveI : Inhabited α := ⟨a0⟩
      obtain ⟨f, hf⟩ := choose_lt each'
      have hsum : szL g ((List.range len).map f) ≤ Rows.uptoBulkAll ((List.range len).map D) := sz_bulk fun i hi => (hf i (List.mem_range.1 hi)).2
      refine ⟨_, (List.range len).map f, hcs, ⟨some ⟨b, o, none⟩, cap, by simp, by simpa using hl, by simpa using hlen47, fun _ => ⟨b, o, rfl, hbl, fun i hi a ha => ?_⟩⟩, by simp only [Rows.uptoBulk]; omega, Or.inr ⟨_, _, _, rfl⟩⟩
      have hi : i < len := by simpa using hi
      have hpf : a = f i := by
        simp [hi] at ha
        exact ha.symm
      subst hpf
      exact (hf i hi).1
theorem open_wdsC {fuel : Nat} {cs : List Value} {x : DataW H × List MemPlace} (h : DataW.trod enc Tryz.prog w base spare held fuel 41 cs = some x) (hw : Wu x.1) : ∃ (v : Value) (ws : List Bs), cs = [v] ∧ WdsAt w v ws ∧ (∀ x ∈ ws, x.length ≤ 1048576) ∧ szL (fun w => w.length + 1) ws + 1 ≤ Rows.uptoBulk x.1 := by
  obtain ⟨v, l, e, hl, hb, _⟩ := open_slC (g := fun w => w.length + 1) (p := fun (a : Bs) b o => w.cell? ⟨b, o, none⟩ = some (.string ⟨a.toArray⟩) ∧ a.length ≤ 1048576) Tryz.underlying41 Tryz.cStrU (by decide) h hw fun fuel cs y b o hy hwy _ hc => by
    obtain ⟨a, rfl, La, Ma⟩ := open_strB hy hwy
    exact ⟨a, ⟨hc 0 _ rfl, La⟩, Ma⟩
  exact ⟨v, l, e, (sl_split hl).1, (sl_split hl).2, hb⟩
theorem open_fldsC {fuel : Nat} {cs : List Value} {x : DataW H × List MemPlace} (h : DataW.trod enc Tryz.prog w base spare held fuel 56 cs = some x) (hw : Wu x.1) : ∃ (v : Value) (fs : List Fld), cs = [v] ∧ FldsAt w v fs ∧ (∀ f ∈ fs, FldL f) ∧ szL szF fs + 1 ≤ Rows.uptoBulk x.1 := by
  obtain ⟨v, l, e, hl, hb, _⟩ := open_slC (g := szF) (p := fun (a : Fld) b o => FldAt w a b o ∧ FldL a) Tryz.underlying56 Tryz.cFldU (by decide) h hw fun fuel cs y b o hy hwy _ hc => by
    obtain ⟨f, rfl, Lf, Mf⟩ := open_fldB hy hwy
    exact ⟨f, ⟨⟨hc 0 _ rfl, hc 1 _ rfl, hc 2 _ rfl, hc 3 _ rfl, hc 4 _ rfl⟩, Lf⟩, by omega⟩
  exact ⟨v, l, e, (sl_split hl).1, (sl_split hl).2, hb⟩
set_option maxRecDepth 100000 in
theorem open_obC {fuel : Nat} {cs : List Value} {x : DataW H × List MemPlace} (h : DataW.trod enc Tryz.prog w base spare held fuel 58 cs = some x) (hw : Wu x.1) :
    ∃ (o : Ob) (fv : Value), cs = [.string ⟨o.n.toArray⟩, fv] ∧ FldsAt w fv o.fs ∧ (o.n.length ≤ 1048576 ∧ ∀ f ∈ o.fs, FldL f) ∧ szO o + 1 ≤ Rows.uptoBulk x.1 := by
  obtain ⟨xs, n, _, rfl, hl, hxl, hf⟩ := DataW.trod_struct Tryz.underlying58 h
  rw [Tryz.cObU] at hl
  match xs, hxl, cs, hl with
  | [y0, y1], _, [v0, v1], _ =>
    have g0 := hf 0 _ rfl
    have g1 := hf 1 _ rfl
    simp [Tryz.cStrU, Tryz.cFsU] at g0 g1
    obtain ⟨a0, e0, L0, M0⟩ := open_strB g0 (hw.part (j := 0) rfl)
    obtain ⟨fv, fs, e1, hfs, Lfs, Mfs⟩ := open_fldsC g1 (hw.part (j := 1) rfl)
    simp at e0 e1
    have hx : Rows.uptoBulk (DataW.agg (H := H) [y0.1, y1.1]) = Rows.uptoBulk y0.1 + (Rows.uptoBulk y1.1 + 0) + 1 := rfl
    refine ⟨⟨a0, fs⟩, fv, by rw [e0, e1], hfs, ⟨L0, Lfs⟩, ?_⟩
    show a0.length + szL szF fs + 2 + 1 ≤ Rows.uptoBulk (DataW.agg (H := H) [y0.1, y1.1])
    omega
set_option maxRecDepth 100000 in
theorem open_enC {fuel : Nat} {cs : List Value} {x : DataW H × List MemPlace} (h : DataW.trod enc Tryz.prog w base spare held fuel 66 cs = some x) (hw : Wu x.1) :
    ∃ (o : En) (fv : Value), cs = [.string ⟨o.n.toArray⟩, fv] ∧ WdsAt w fv o.ws ∧ (o.n.length ≤ 1048576 ∧ ∀ x ∈ o.ws, x.length ≤ 1048576) ∧ szE o + 1 ≤ Rows.uptoBulk x.1 := by
  obtain ⟨xs, n, _, rfl, hl, hxl, hf⟩ := DataW.trod_struct Tryz.underlying66 h
  rw [Tryz.cEnU] at hl
  match xs, hxl, cs, hl with
  | [y0, y1], _, [v0, v1], _ =>
    have g0 := hf 0 _ rfl
    have g1 := hf 1 _ rfl
    simp [Tryz.cStrU, Tryz.cWsU] at g0 g1
    obtain ⟨a0, e0, L0, M0⟩ := open_strB g0 (hw.part (j := 0) rfl)
    obtain ⟨fv, fs, e1, hfs, Lfs, Mfs⟩ := open_wdsC g1 (hw.part (j := 1) rfl)
    simp at e0 e1
    have hx : Rows.uptoBulk (DataW.agg (H := H) [y0.1, y1.1]) = Rows.uptoBulk y0.1 + (Rows.uptoBulk y1.1 + 0) + 1 := rfl
    refine ⟨⟨a0, fs⟩, fv, by rw [e0, e1], hfs, ⟨L0, Lfs⟩, ?_⟩
    show a0.length + szL (fun w => w.length + 1) fs + 2 + 1 ≤ Rows.uptoBulk (DataW.agg (H := H) [y0.1, y1.1])
    omega
theorem open_obsC {fuel : Nat} {cs : List Value} {x : DataW H × List MemPlace} (h : DataW.trod enc Tryz.prog w base spare held fuel 22 cs = some x) (hw : Wu x.1) : ∃ (v : Value) (fs : List Ob), cs = [v] ∧ ObsAt w v fs ∧ (∀ o ∈ fs, o.n.length ≤ 1048576 ∧ ∀ f ∈ o.fs, FldL f) ∧ szL szO fs + 1 ≤ Rows.uptoBulk x.1 ∧ Nn v := by
  obtain ⟨v, l, e, hl, hb, hnn⟩ := open_slC (g := szO) (p := fun (a : Ob) b o => ObAt w a b o ∧ (a.n.length ≤ 1048576 ∧ ∀ f ∈ a.fs, FldL f)) Tryz.underlying22 Tryz.cObU (by decide) h hw fun fuel cs y b o hy hwy _ hc => by
    obtain ⟨f, fv, rfl, hfs, L1, M1⟩ := open_obC hy hwy
    exact ⟨f, ⟨⟨hc 0 _ rfl, fv, hc 1 _ rfl, hfs⟩, L1⟩, by omega⟩
  exact ⟨v, l, e, (sl_split hl).1, (sl_split hl).2, hb, hnn⟩
theorem open_ensC {fuel : Nat} {cs : List Value} {x : DataW H × List MemPlace} (h : DataW.trod enc Tryz.prog w base spare held fuel 23 cs = some x) (hw : Wu x.1) : ∃ (v : Value) (fs : List En), cs = [v] ∧ EnsAt w v fs ∧ (∀ o ∈ fs, o.n.length ≤ 1048576 ∧ ∀ x ∈ o.ws, x.length ≤ 1048576) ∧ szL szE fs + 1 ≤ Rows.uptoBulk x.1 ∧ Nn v := by
  obtain ⟨v, l, e, hl, hb, hnn⟩ := open_slC (g := szE) (p := fun (a : En) b o => EnAt w a b o ∧ (a.n.length ≤ 1048576 ∧ ∀ x ∈ a.ws, x.length ≤ 1048576)) Tryz.underlying23 Tryz.cEnU (by decide) h hw fun fuel cs y b o hy hwy _ hc => by
    obtain ⟨f, fv, rfl, hfs, L1, M1⟩ := open_enC hy hwy
    exact ⟨f, ⟨⟨hc 0 _ rfl, fv, hc 1 _ rfl, hfs⟩, L1⟩, by omega⟩
  exact ⟨v, l, e, (sl_split hl).1, (sl_split hl).2, hb, hnn⟩
set_option maxRecDepth 100000 in
theorem open_schC {fuel : Nat} {cs : List Value} {x : DataW H × List MemPlace} (h : DataW.trod enc Tryz.prog w base spare held fuel 25 cs = some x) (hw : Wu x.1) :
    ∃ (s : Sch) (ov ev : Value), cs = [ov, ev] ∧ SchAt w ov ev s ∧ SchL s ∧ szS s ≤ 1048576 ∧ Nn ov ∧ Nn ev := by
  obtain ⟨xs, n, _, rfl, hl, hxl, hf⟩ := DataW.trod_struct Tryz.underlying25 h
  rw [Tryz.cSchU] at hl
  match xs, hxl, cs, hl with
  | [y0, y1], _, [v0, v1], _ =>
    have g0 := hf 0 _ rfl
    have g1 := hf 1 _ rfl
    simp [Tryz.cOsU, Tryz.cEsU] at g0 g1
    obtain ⟨ov, os, e0, h0, L0, M0, N0⟩ := open_obsC g0 (hw.part (j := 0) rfl)
    obtain ⟨ev, es, e1, h1, L1, M1, N1⟩ := open_ensC g1 (hw.part (j := 1) rfl)
    simp at e0 e1
    have hx : Rows.uptoBulk (DataW.agg (H := H) [y0.1, y1.1]) = Rows.uptoBulk y0.1 + (Rows.uptoBulk y1.1 + 0) + 1 := rfl
    have hw2 : Rows.uptoBulk (DataW.agg (H := H) [y0.1, y1.1]) ≤ 1048576 := hw
    exact ⟨⟨os, es⟩, ov, ev, by rw [e0, e1], ⟨h0, h1⟩, ⟨fun o ho => by have := (L0 o ho).1; omega, fun o ho => (L0 o ho).2, fun o ho => by have := (L1 o ho).1; omega, fun o ho x hx => by have := (L1 o ho).2 x hx; omega⟩, by show szL szO os + szL szE es ≤ 1048576; omega, N0, N1⟩
end
end Go.Proofs.YtlabcadpkdgjnaaGreatDoor
namespace Go.Proofs.YtlabcadpkdgjnaaGreatDoor
open Go Go.RowKit Go.Lib

def listed : List (String × DataW Unit) := Rows.sdlReadsRow.laid
theorem at_var {w : World} {n : String} {d : DataW Unit} {g t : Nat} (h : VarReads Tryz.prog w n d) (hg : Tryz.prog.globalNamed n = some g) (ht : (Tryz.prog.globals[g]?).map (·.type) = some t) :
    ∃ (cs : Array Value) (fuel : Nat) (p : List MemPlace), w.var? Tryz.prog n = some cs ∧ DataW.trod (fun _ => ()) Tryz.prog w 0 (fun _ => true) false fuel t cs.toList = some (d, p) ∧ ∀ i, w.cell? ⟨g, i, none⟩ = cs.toList[i]? := by
  obtain ⟨g', t', cs, fuel, p, hg', ht', hv, hd⟩ := h
  obtain rfl := Option.some.inj (hg.symm.trans hg')
  obtain rfl := Option.some.inj (ht.symm.trans ht')
  exact ⟨cs, fuel, p, hv, hd, fun i => by rw [World.var?_cell hg hv i, Array.getElem?_toList]⟩
theorem es_laid {w : World} (h : VarReads Tryz.prog w "strconv.ErrSyntax" Rows.laid_strconv_ErrSyntax) : ∃ te pe, w.cell? ⟨3, 0, none⟩ = some (.iface te pe) := by
  obtain ⟨cs, fuel, p, _, hd, hc⟩ := at_var h (g := 3) (t := 97) (by kernel_rfl) (by kernel_rfl)
  cases fuel with
  | zero => simp [DataW.trod] at hd
  | succ n =>
    have hu := Tryz.underlying97
    simp only [DataW.trod, hu, Rows.laid_strconv_ErrSyntax] at hd
    rw [hc]
    split at hd
    all_goals simp_all
theorem max_of {W : World} (h : W.ShapedOpen Tryz.prog) : ∃ m, W.cell? ⟨gM, 0, none⟩ = some (.int .i64 m) :=
  cell_of_shapedOpen_int h (g := 0) (t := 3) (zero := #[.int .i64 0]) (of_decide_eq_true (by kernel_rfl)) (by kernel_rfl) rfl (by kernel_rfl) (by kernel_rfl) Tryz.underlying3
theorem gl_laid {W : World} (hL : laidMet Tryz.prog listed W) (hs : W.ShapedOpen Tryz.prog) : Gl W := by
  obtain ⟨te, pe, he⟩ := es_laid (laidMet.reads hL (.tail _ (.tail _ (.tail _ (.tail _ (.tail _ (.head _)))))))
  exact ⟨max_of hs, ⟨_, he, Or.inr ⟨te, pe, rfl⟩⟩⟩
end Go.Proofs.YtlabcadpkdgjnaaGreatDoor
namespace Go.Proofs.YtlabcadpkdgjnaaGreatDoor
open Go.ChangeShapes Go.WideShapes Go.ChangeAt Go.RowKit
open Go.ChangeMaps (open_string shut_string)

theorem Tryz.own : ownKnob Tryz.prog.godebug = none := by kernel_rfl
theorem Tryz.laidOut : laidOutB Tryz.prog = true := by kernel_rfl
theorem laid_met (os : Os) : laidMet Tryz.prog listed ((World.laidAll Tryz.prog os listed).forCall (fun _ _ => 0) ⟨#[], #[.agg #[.slice none 0 0, .slice none 0 0], .agg #[.slice none 0 0, .slice none 0 0]], []⟩).memory :=
  laidMet_laidAll _ (by kernel_rfl) (by kernel_rfl)
theorem reads (os : Os) {H : Type} (enc : TypeId × Value → H) : ∃ places, DataW.whole enc Tryz.prog ((World.laidAll Tryz.prog os listed).forCall (fun _ _ => 0) ⟨#[], #[.agg #[.slice none 0 0, .slice none 0 0], .agg #[.slice none 0 0, .slice none 0 0]], []⟩).memory Tryz.f7.params.toList Rows.sdlJoinsSpec.vars false #[Value.agg #[.slice none 0 0, .slice none 0 0], .agg #[.slice none 0 0, .slice none 0 0]].toList 8 = some ([.agg [.nil, .nil], .agg [.nil, .nil]], [], places) :=
  ⟨[], by kernel_rfl⟩

set_option maxRecDepth 100000 in
theorem sdlJoins_lifted (os : Os) (started : os.Started) (H : Type) (enc : TypeId × Value → H) (F : Stop.Interp) :
    ReturnsInHanded {} Tryz.checked os 7 .any ((Rows.OpenSpec.upto Rows.sdlJoinsSpec).preRow enc Tryz.prog Tryz.f7 Rows.sdlJoinsUptoRow.domain false Rows.sdlJoinsUptoRow.laid) (((Rows.OpenSpec.upto Rows.sdlJoinsSpec).at F).post enc Tryz.prog Tryz.f7 false true false false) := by
  obtain ⟨places, hx⟩ := reads os enc
  refine returnsInHanded_of_row (C := Tryz.checked) (s := Rows.OpenSpec.upto Rows.sdlJoinsSpec) Tryz.own started (by kernel_rfl) Tryz.func7
    (witness_row_at (enc := enc) (C := Tryz.checked) false (World.laidAll Tryz.prog os listed) #[.agg #[.slice none 0 0, .slice none 0 0], .agg #[.slice none 0 0, .slice none 0 0]] (World.laidAll_os _ _ _) (by kernel_rfl) (by kernel_rfl) (by kernel_rfl)
      (OpenSpec.preRow_of_cond 8 hx (by kernel_rfl) (fun k hk => by cases hk; kernel_rfl) (by kernel_rfl) (laid_met os))) ?_
  intro W base args ds gs before hval0 hW _ hcond _ hL hsh _
  have hval : ∀ (j : Nat) t v, Tryz.f7.params[j]? = some t → args[j]? = some v → Value.okWide Tryz.prog W .any base t v := hval0
  have hW' := hW
  obtain ⟨p, q, hA0, hV, rfl, hfz, hnd⟩ := hW
  have hA : DataW.TrodAll enc Tryz.prog W 0 (fun _ => true) true Tryz.f7.params.toList args.toList ds p := hA0
  rw [Tryz.params7] at hA hval
  obtain ⟨v0, vs0, d0, ds0, p0, q0, hargs, rfl, rfl, h0, r0⟩ := trodAll_cons hA
  obtain ⟨v1, vs1, d1, ds1, p1, q1, rfl, rfl, rfl, h1, r1⟩ := trodAll_cons r0
  obtain ⟨rfl, rfl, rfl⟩ := trodAll_nil r1
  obtain rfl : args = #[v0, v1] := by cases args; simp_all
  obtain ⟨rfl, rfl⟩ := trodVars_none hV
  have hk := hcond _ rfl
  have hk2 : Rows.uptoBulkAll [d0, d1] ≤ 1048576 := of_decide_eq_true hk
  simp only [Rows.uptoBulkAll] at hk2
  have wu0 : Wu d0 := by show Rows.uptoBulk d0 ≤ 1048576; omega
  obtain ⟨c0, rfl, _⟩ := okWide_struct Tryz.underlying25 (hval 0 25 v0 rfl rfl)
  have k0 := h0
  have lt0 : ∀ x ∈ p0, x.block < W.heap.size := by obtain ⟨m, hm⟩ := k0; exact DataW.trod_lt m _ _ _ hm
  obtain ⟨s0, ov0, ev0, hc0, hS0, hL0, hz0, nO0, nE0⟩ : ∃ (s : Sch) (ov ev : Value), (Value.agg c0).cells.toList = [ov, ev] ∧ SchAt W ov ev s ∧ SchL s ∧ szS s ≤ 1048576 ∧ Nn ov ∧ Nn ev := by
    obtain ⟨fuel, hf⟩ := h0
    exact open_schC hf wu0
  obtain rfl : c0 = #[ov0, ev0] := Array.toList_inj.1 hc0
  have wu1 : Wu d1 := by show Rows.uptoBulk d1 ≤ 1048576; omega
  obtain ⟨c1, rfl, _⟩ := okWide_struct Tryz.underlying25 (hval 1 25 v1 rfl rfl)
  have k1 := h1
  have lt1 : ∀ x ∈ p1, x.block < W.heap.size := by obtain ⟨m, hm⟩ := k1; exact DataW.trod_lt m _ _ _ hm
  obtain ⟨s1, ov1, ev1, hc1, hS1, hL1, hz1, nO1, nE1⟩ : ∃ (s : Sch) (ov ev : Value), (Value.agg c1).cells.toList = [ov, ev] ∧ SchAt W ov ev s ∧ SchL s ∧ szS s ≤ 1048576 ∧ Nn ov ∧ Nn ev := by
    obtain ⟨fuel, hf⟩ := h1
    exact open_schC hf wu1
  obtain rfl : c1 = #[ov1, ev1] := Array.toList_inj.1 hc1
  have hL2 : laidMetH Tryz.prog listed W := hL
  rw [MakeChecks.laidMetH_plain _ _ _ (by kernel_rfl)] at hL2
  have gl := gl_laid hL2 hsh
  clear hA0 hval0 hk hk2 hcond hL hL2
  have wk := joins_walk s0 s1 ov0 ev0 ov1 ev1 W hS0 hS1 hL0 hL1 nO0 nE0 nO1 nE1 hz0 hz1 gl
  refine wk.mono fun e W' ⟨he, bel⟩ => ?_
  subst he
  exact ⟨_, rfl, _, _, _, [], _, [], hW', trodAll_mk1 (shut_bool Tryz.underlying4 _), (trodAll_cons_mk (Below.trod Tryz.laidOut (by kernel_rfl) (of_decide_eq_true (by kernel_rfl)) k0 bel lt0) (trodAll_cons_mk (Below.trod Tryz.laidOut (by kernel_rfl) (of_decide_eq_true (by kernel_rfl)) k1 bel lt1) trodAll_mk0)), rfl, bel.frame _, fun h => by cases h⟩

theorem sdlJoins_row : Rows.SdlJoinsUptoSaid :=
  OpenClaim.holds_of_cond 7 Tryz.f7 rfl rfl rfl rfl rfl rfl rfl ⟨rfl, rfl, rfl, rfl, rfl⟩ rfl rfl rfl rfl rfl (by kernel_rfl) Tryz.func7 (by kernel_rfl)
    (of_decide_eq_true (by kernel_rfl)) (by unfold Func.isWrapper; first | (rw [if_pos (by decide +kernel)]; kernel_rfl) | (rw [if_neg (by decide +kernel)]; exact ⟨rfl, rfl⟩))
    (fun os started H enc _ F => by rw [OpenClaim.pre_eq_preRow]; exact sdlJoins_lifted os started H enc F)

theorem sdlJoins_holds : Rows.SdlJoinsUptoCardSaid :=
  Claim7.holds_tied_plain_at .later [] _ _ _ _ sdlJoins_row (fun _ h => by cases h) (by kernel_rfl) (fun _ h => by cases h) sdlJoinsUpto_row_tie rfl ⟨rfl, rfl⟩ (by kernel_rfl) rfl
    (fun f fn hf hfn => by
      obtain rfl : f = 7 := Option.some.inj ((show Tryz.prog.funcNamed "rhizome/rhizomelaw08.SdlJoins" = some 7 by kernel_rfl).symm.trans hf) |>.symm
      obtain rfl : fn = Tryz.f7 := (Option.some.inj (Tryz.func7.symm.trans hfn)).symm
      exact ⟨by kernel_rfl, fun j t ht => by
        rw [Tryz.params7] at ht
        have hm : t ∈ [25] := by simpa using Array.mem_of_getElem? ht
        have hall : ([25].all fun u => !Tryz.prog.wantsStandIn u) = true := by kernel_rfl
        exact (show Tryz.prog.wantsStandIn t = false by simpa using List.all_eq_true.1 hall t hm)⟩)
    (by kernel_rfl)
#print axioms sdlJoins_holds
end Go.Proofs.YtlabcadpkdgjnaaGreatDoor
