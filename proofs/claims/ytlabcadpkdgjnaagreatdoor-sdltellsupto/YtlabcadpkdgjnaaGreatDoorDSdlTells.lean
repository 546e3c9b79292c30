/- The text of any schema, or that it may not be written, is as the document says: for any schema that is, with all that it holds, of bulk at most 1048576 (the second form); the listed package variables are as the program's text lays them (tied). -/
import Derived.Test.YtlabcadpkdgjnaaGreatDoorD08
import Derived.Test.YtlabcadpkdgjnaaGreatDoorRows
import Derived.Test.YtlabcadpkdgjnaaGreatDoorLxK
import Derived.Lib.LaidU8
import Derived.LaidMore
import Derived.Stop.LaidErr
import Derived.Lay
import Derived.Shelf.Vars
import Derived.Test.YtlabcadpkdgjnaaGreatDoorTie
import Derived.Test.YtlabcadpkdgjnaaGreatDoorCards
import Derived.Test.YtlabcadpkdgjnaaGreatDoorE7
import Derived.ProofKit
import Derived.OpenShut
import Derived.ShutString
import Derived.SevenTiedAt
import Derived.Stop.Joined
import Derived.Carry
import Derived.Deep.DeepHandedRow
namespace Go.Proofs.YtlabcadpkdgjnaaGreatDoor
section
open Go Go.RowKit Go.Shelf
theorem tprn_none {s : Sch} {ov ev : Value} {w : World} (h : printD s = none) (hS : SchAt w ov ev s) (L : SchL s) (gl : Gl w) : Calls Tryz.prog 12 #[.agg #[ov,ev]] w fun e w' => e = .returned (.tuple #[.string ⟨#[]⟩,.int .i64 81]) ∧ Below w.heap.size w w':=by
 have P:=dprint_any s ov ev w hS L gl
 rw [h] at P
 exact P.mono fun e w' h => h
theorem tprn_some {s : Sch} {t : Bs} {ov ev : Value} {w : World} (h : printD s = some t) (hS : SchAt w ov ev s) (L : SchL s) (gl : Gl w) : Calls Tryz.prog 12 #[.agg #[ov,ev]] w fun e w' => e = .returned (.tuple #[.string ⟨t.toArray⟩,.int .i64 0]) ∧ Below w.heap.size w w':=by
 have P:=dprint_any s ov ev w hS L gl
 rw [h] at P
 exact P.mono fun e w' h => h
theorem zprint_any {w : World} {ov ev : Value} {s : Sch} (h : SchAt w ov ev s) (hz : szS s ≤ 1048576) : Calls Tryz.prog 13 #[.agg #[ov,ev]] w (PrZ w (printD s)):=by
 rw [printD_fine]
 cases hf : fineS s with
 | false => exact zprint_no h hf
 | true => exact zprint_yes h hz hf
theorem zprn_none {s : Sch} {ov ev : Value} {w : World} (h : printD s = none) (hS : SchAt w ov ev s) (hz : szS s ≤ 1048576) : Calls Tryz.prog 13 #[.agg #[ov,ev]] w fun e w' => e = .returned (.tuple #[.string ⟨#[]⟩,.int .i64 81]) ∧ Below w.heap.size w w':=by
 have P:=zprint_any hS hz
 rw [h] at P
 exact P.mono fun e w' h => h
theorem zprn_some {s : Sch} {t : Bs} {ov ev : Value} {w : World} (h : printD s = some t) (hS : SchAt w ov ev s) (hz : szS s ≤ 1048576) : Calls Tryz.prog 13 #[.agg #[ov,ev]] w fun e w' => e = .returned (.tuple #[.string ⟨t.toArray⟩,.int .i64 0]) ∧ Below w.heap.size w w':=by
 have P:=zprint_any hS hz
 rw [h] at P
 exact P.mono fun e w' h => h
set_option maxRecDepth 100000 in
set_option maxHeartbeats 8000000 in
theorem tells_none (s : Sch) (ov ev : Value) (w : World) (hS : SchAt w ov ev s) (L : SchL s) (hz : szS s ≤ 1048576) (h1 : printD s = none) (gl : Gl w) : Calls Tryz.prog 4 #[.agg #[ov,ev]] w fun e w' => e = .returned (.bool true) ∧ Below w.heap.size w w':=by
 obtain ⟨ao,co,rfl,_,_⟩:=slD hS.os
 obtain ⟨ae,ce,rfl,_,_⟩:=slD hS.es
 obtain ⟨w0,hw0⟩ : ∃ w0,w0 = w.alloc (.cells #[.slice ao s.os.length co,.slice ae s.es.length ce] 25):=⟨_,rfl⟩
 have b0 : Below w.heap.size w w0:=by rw [hw0];exact al1 w _
 have S0:=hS.on b0
 have gl0:=gl.on b0
 have P0 : w0.heap[w.heap.size]? = some (.cells #[.slice ao s.os.length co,.slice ae s.es.length ce] 25 (0,0)):=by rw [hw0];exact heap_alloc_new w _
 have A : Hid (∀ W,Below w0.heap.size w0 W → W.cell? ⟨w.heap.size,0,none⟩ = some (.slice ao s.os.length co) ∧ W.cell? ⟨w.heap.size,1,none⟩ = some (.slice ae s.es.length ce)):=fun W F => row2' ((F.block _ (lt_of_block P0)).trans P0)
 clear P0 hS gl
 go_enter Tryz.func4,Tryz.ntmps4
 go_wp2_with (first
  | (go_at_call 10;(with_reducible refine (dfixed_any _ gl2).mono ?_);rintro e w3 ⟨rfl,b3⟩;have B3:=ble B2 b3)
  | (go_at_call 13;(with_reducible refine (zprn_none h1 (S0.on B1) hz).mono ?_);rintro e w2 ⟨rfl,b2⟩;have B2:=ble B1 b2;have gl2:=gl1.on b2)
  | (go_at_call 12;rw [← hw0];(with_reducible refine (tprn_none h1 S0 L gl0).mono ?_);rintro e w1 ⟨rfl,b1⟩;have B1:=b1;have gl1:=gl0.on b1;obtain ⟨c0_1,c1_1⟩:=A.out _ B1)
  | fail)
 go_ret
 exact ⟨by first | rfl | simp,ble b0 B3⟩
set_option maxRecDepth 100000 in
set_option maxHeartbeats 8000000 in
theorem tells_some (s : Sch) (ov ev : Value) (w : World) (hS : SchAt w ov ev s) (L : SchL s) (hz : szS s ≤ 1048576) (t : Bs) (h1 : printD s = some t) (gl : Gl w) : Calls Tryz.prog 4 #[.agg #[ov,ev]] w fun e w' => e = .returned (.bool true) ∧ Below w.heap.size w w':=by
 obtain ⟨ao,co,rfl,_,_⟩:=slD hS.os
 obtain ⟨ae,ce,rfl,_,_⟩:=slD hS.es
 obtain ⟨w0,hw0⟩ : ∃ w0,w0 = w.alloc (.cells #[.slice ao s.os.length co,.slice ae s.es.length ce] 25):=⟨_,rfl⟩
 have b0 : Below w.heap.size w w0:=by rw [hw0];exact al1 w _
 have S0:=hS.on b0
 have gl0:=gl.on b0
 have P0 : w0.heap[w.heap.size]? = some (.cells #[.slice ao s.os.length co,.slice ae s.es.length ce] 25 (0,0)):=by rw [hw0];exact heap_alloc_new w _
 have A : Hid (∀ W,Below w0.heap.size w0 W → W.cell? ⟨w.heap.size,0,none⟩ = some (.slice ao s.os.length co) ∧ W.cell? ⟨w.heap.size,1,none⟩ = some (.slice ae s.es.length ce)):=fun W F => row2' ((F.block _ (lt_of_block P0)).trans P0)
 clear P0 hS gl
 go_enter Tryz.func4,Tryz.ntmps4
 go_wp2_with (first
  | (go_at_call 10;(with_reducible refine (dfixed_any _ gl2).mono ?_);rintro e w3 ⟨rfl,b3⟩;have B3:=ble B2 b3)
  | (go_at_call 13;(with_reducible refine (zprn_some h1 (S0.on B1) hz).mono ?_);rintro e w2 ⟨rfl,b2⟩;have B2:=ble B1 b2;have gl2:=gl1.on b2)
  | (go_at_call 12;rw [← hw0];(with_reducible refine (tprn_some h1 S0 L gl0).mono ?_);rintro e w1 ⟨rfl,b1⟩;have B1:=b1;have gl1:=gl0.on b1;obtain ⟨c0_1,c1_1⟩:=A.out _ B1)
  | fail)
 go_ret
 exact ⟨by first | rfl | simp,ble b0 B3⟩
theorem tells_walk (s : Sch) (ov ev : Value) (w : World) (hS : SchAt w ov ev s) (L : SchL s) (hz : szS s ≤ 1048576) (gl : Gl w) : Calls Tryz.prog 4 #[.agg #[ov,ev]] w fun e w' => e = .returned (.bool true) ∧ Below w.heap.size w w':=by
 cases h1 : printD s with
 | none => exact tells_none s ov ev w hS L hz h1 gl
 | some t => exact tells_some s ov ev w hS L hz t h1 gl
end
section
open Go Go.RowKit Go.Lib
def listed : List (String × DataW Unit):=Rows.sdlReadsRow.laid
theorem at_var {w : World} {n : String} {d : DataW Unit} {g t : Nat} (h : VarReads Tryz.prog w n d) (hg : Tryz.prog.globalNamed n = some g) (ht : (Tryz.prog.globals[g]?).map (·.type) = some t) :
  ∃ (cs : Array Value) (fuel : Nat) (p : List MemPlace),w.var? Tryz.prog n = some cs ∧ DataW.trod (fun _ => ()) Tryz.prog w 0 (fun _ => true) false fuel t cs.toList = some (d,p) ∧ ∀ i,w.cell? ⟨g,i,none⟩ = cs.toList[i]?:=by
 obtain ⟨g',t',cs,fuel,p,hg',ht',hv,hd⟩:=h
 obtain rfl:=Option.some.inj (hg.symm.trans hg')
 obtain rfl:=Option.some.inj (ht.symm.trans ht')
 exact ⟨cs,fuel,p,hv,hd,fun i => by rw [World.var?_cell hg hv i,Array.getElem?_toList]⟩
theorem es_laid {w : World} (h : VarReads Tryz.prog w "strconv.ErrSyntax" Rows.laid_strconv_ErrSyntax) : ∃ te pe,w.cell? ⟨3,0,none⟩ = some (.iface te pe):=by
 obtain ⟨cs,fuel,p,_,hd,hc⟩:=at_var h (g:=3) (t:=97) (by kernel_rfl) (by kernel_rfl)
 cases fuel with
 | zero => simp [DataW.trod] at hd
 | succ n =>
  have hu:=Tryz.underlying97
  simp only [DataW.trod,hu,Rows.laid_strconv_ErrSyntax] at hd
  rw [hc]
  split at hd
  all_goals simp_all
theorem max_of {W : World} (h : W.ShapedOpen Tryz.prog) : ∃ m,W.cell? ⟨gM,0,none⟩ = some (.int .i64 m) :=
 cell_of_shapedOpen_int h (g:=0) (t:=3) (zero:=#[.int .i64 0]) (of_decide_eq_true (by kernel_rfl)) (by kernel_rfl) rfl (by kernel_rfl) (by kernel_rfl) Tryz.underlying3
theorem gl_laid {W : World} (hL : laidMet Tryz.prog listed W) (hs : W.ShapedOpen Tryz.prog) : Gl W:=by
 obtain ⟨te,pe,he⟩:=es_laid (laidMet.reads hL (.tail _ (.tail _ (.tail _ (.tail _ (.tail _ (.head _)))))))
 exact ⟨max_of hs,⟨_,he,Or.inr ⟨te,pe,rfl⟩⟩⟩
end
section
open Go.ChangeShapes Go.WideShapes Go.ChangeAt Go.RowKit
open Go.ChangeMaps (open_string shut_string)
theorem Tryz.own : ownKnob Tryz.prog.godebug = none:=by kernel_rfl
theorem Tryz.laidOut : laidOutB Tryz.prog = true:=by kernel_rfl
theorem laid_met (os : Os) : laidMet Tryz.prog listed ((World.laidAll Tryz.prog os listed).forCall (fun _ _ => 0) ⟨#[],#[.agg #[.slice none 0 0,.slice none 0 0]],[]⟩).memory :=
 laidMet_laidAll _ (by kernel_rfl) (by kernel_rfl)
theorem reads (os : Os) {H : Type} (enc : TypeId × Value → H) : ∃ places,DataW.whole enc Tryz.prog ((World.laidAll Tryz.prog os listed).forCall (fun _ _ => 0) ⟨#[],#[.agg #[.slice none 0 0,.slice none 0 0]],[]⟩).memory Tryz.f4.params.toList Rows.sdlTellsSpec.vars false #[Value.agg #[.slice none 0 0,.slice none 0 0]].toList 8 = some ([.agg [.nil,.nil]],[],places) :=
 ⟨[],by kernel_rfl⟩
set_option maxRecDepth 100000 in
theorem sdlTells_lifted (os : Os) (started : os.Started) (H : Type) (enc : TypeId × Value → H) (F : Stop.Interp) :
  ReturnsInHanded {} Tryz.checked os 4 .any ((Rows.OpenSpec.upto Rows.sdlTellsSpec).preRow enc Tryz.prog Tryz.f4 Rows.sdlTellsUptoRow.domain false Rows.sdlTellsUptoRow.laid) (((Rows.OpenSpec.upto Rows.sdlTellsSpec).at F).post enc Tryz.prog Tryz.f4 false true false false):=by
 obtain ⟨places,hx⟩:=reads os enc
 refine returnsInHanded_of_row (C:=Tryz.checked) (s:=Rows.OpenSpec.upto Rows.sdlTellsSpec) Tryz.own started (by kernel_rfl) Tryz.func4
  (witness_row_at (enc:=enc) (C:=Tryz.checked) false (World.laidAll Tryz.prog os listed) #[.agg #[.slice none 0 0,.slice none 0 0]] (World.laidAll_os _ _ _) (by kernel_rfl) (by kernel_rfl) (by kernel_rfl)
   (OpenSpec.preRow_of_cond 8 hx (by kernel_rfl) (fun k hk => by cases hk;kernel_rfl) (by kernel_rfl) (laid_met os))) ?_
 intro W base args ds gs before hval0 hW _ hcond _ hL hsh _
 have hval : ∀ (j : Nat) t v,Tryz.f4.params[j]? = some t → args[j]? = some v → Value.okWide Tryz.prog W .any base t v:=hval0
 have hW':=hW
 obtain ⟨p,q,hA0,hV,rfl,hfz,hnd⟩:=hW
 have hA : DataW.TrodAll enc Tryz.prog W 0 (fun _ => true) true Tryz.f4.params.toList args.toList ds p:=hA0
 rw [Tryz.params4] at hA hval
 obtain ⟨v0,vs0,d0,ds0,p0,q0,hargs,rfl,rfl,h0,r0⟩:=trodAll_cons hA
 obtain ⟨rfl,rfl,rfl⟩:=trodAll_nil r0
 obtain rfl : args = #[v0]:=by cases args;simp_all
 obtain ⟨rfl,rfl⟩:=trodVars_none hV
 have hk:=hcond _ rfl
 have hk2 : Rows.uptoBulkAll [d0] ≤ 1048576:=of_decide_eq_true hk
 simp only [Rows.uptoBulkAll] at hk2
 have wu0 : Wu d0:=by show Rows.uptoBulk d0 ≤ 1048576;omega
 obtain ⟨c0,rfl,_⟩:=okWide_struct Tryz.underlying25 (hval 0 25 v0 rfl rfl)
 have k0:=h0
 have lt0 : ∀ x ∈ p0,x.block < W.heap.size:=by obtain ⟨m,hm⟩:=k0;exact DataW.trod_lt m _ _ _ hm
 obtain ⟨s0,ov0,ev0,hc0,hS0,hL0,hz0⟩ : ∃ (s : Sch) (ov ev : Value),(Value.agg c0).cells.toList = [ov,ev] ∧ SchAt W ov ev s ∧ SchL s ∧ szS s ≤ 1048576:=by
  obtain ⟨fuel,hf⟩:=h0
  exact open_schB hf wu0
 obtain rfl : c0 = #[ov0,ev0]:=Array.toList_inj.1 hc0
 have hL2 : laidMetH Tryz.prog listed W:=hL
 rw [MakeChecks.laidMetH_plain _ _ _ (by kernel_rfl)] at hL2
 have gl:=gl_laid hL2 hsh
 clear hA0 hval0 hk hk2 hcond hL hL2
 have wk:=tells_walk s0 ov0 ev0 W hS0 hL0 hz0 gl
 refine wk.mono fun e W' ⟨he,bel⟩ => ?_
 subst he
 exact ⟨_,rfl,_,_,_,[],_,[],hW',trodAll_mk1 (shut_bool Tryz.underlying4 _),(trodAll_cons_mk (Below.trod Tryz.laidOut (by kernel_rfl) (of_decide_eq_true (by kernel_rfl)) k0 bel lt0) trodAll_mk0),rfl,bel.frame _,fun h => by cases h⟩
theorem sdlTells_row : Rows.SdlTellsUptoSaid :=
 OpenClaim.holds_of_cond 4 Tryz.f4 rfl rfl rfl rfl rfl rfl rfl ⟨rfl,rfl,rfl,rfl,rfl⟩ rfl rfl rfl rfl rfl (by kernel_rfl) Tryz.func4 (by kernel_rfl)
  (of_decide_eq_true (by kernel_rfl)) (by unfold Func.isWrapper;first | (rw [if_pos (by decide +kernel)];kernel_rfl) | (rw [if_neg (by decide +kernel)];exact ⟨rfl,rfl⟩))
  (fun os started H enc _ F => by rw [OpenClaim.pre_eq_preRow];exact sdlTells_lifted os started H enc F)
theorem sdlTells_holds : Rows.SdlTellsUptoCardSaid :=
 Claim7.holds_tied_plain_at .later [] _ _ _ _ sdlTells_row (fun _ h => by cases h) (by kernel_rfl) (fun _ h => by cases h) sdlTellsUpto_row_tie rfl ⟨rfl,rfl⟩ (by kernel_rfl) rfl
  (fun f fn hf hfn => by
   obtain rfl : f = 4:=Option.some.inj ((show Tryz.prog.funcNamed "rhizome/rhizomelaw08.SdlTells" = some 4 by kernel_rfl).symm.trans hf) |>.symm
   obtain rfl : fn = Tryz.f4:=(Option.some.inj (Tryz.func4.symm.trans hfn)).symm
   exact ⟨by kernel_rfl,fun j t ht => by
    rw [Tryz.params4] at ht
    have hm : t ∈ [25]:=by simpa using Array.mem_of_getElem? ht
    have hall : ([25].all fun u => !Tryz.prog.wantsStandIn u) = true:=by kernel_rfl
    exact (show Tryz.prog.wantsStandIn t = false by simpa using List.all_eq_true.1 hall t hm)⟩)
  (by kernel_rfl)
#print axioms sdlTells_holds
end
end Go.Proofs.YtlabcadpkdgjnaaGreatDoor
