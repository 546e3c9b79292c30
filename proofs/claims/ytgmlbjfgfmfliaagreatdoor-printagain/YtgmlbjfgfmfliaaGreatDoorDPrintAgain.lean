/- PrintAgain holds of every text: what parse reads of it is a tree that can be written, unless the text has more than 2000 bytes; what is written is read as the same tree, and written as itself. -/
import Derived.Test.YtgmlbjfgfmfliaaGreatDoorBB
import Derived.Test.YtgmlbjfgfmfliaaGreatDoorA33
import Derived.Test.YtgmlbjfgfmfliaaGreatDoorRows
import Derived.Test.YtgmlbjfgfmfliaaGreatDoorTie
import Derived.Test.YtgmlbjfgfmfliaaGreatDoorCards
import Derived.Test.YtgmlbjfgfmfliaaGreatDoorA29
import Derived.ProofKit
import Derived.OpenShut
import Derived.ShutString
import Derived.ChangeOld
import Derived.SizedLaws
import Derived.LaidMore
import Derived.Lay
import Derived.SevenTiedAt
import Derived.Stop.Joined
import Derived.Shelf.Vars
import Derived.Carry
namespace Go.Proofs.YtgmlbjfgfmfliaaGreatDoor
open Go Go.RowKit Go.Shelf
theorem parse_tree {s : Bs} {os : List Oq} {fs : List Fg} (hp : parseS s = .ok (ctDoc os fs)) {w : World} (gl : Gl w) : Calls Tryz.prog 15 #[.string ⟨s.toArray⟩] w fun e w' => ∃ (o1 : Option Addr) (n1 z1 : Nat) (o2 : Option Addr) (n2 z2 : Nat),e = .returned (.tuple #[.agg #[.slice o1 n1 z1,.slice o2 n2 z2],.int .i64 0,.int .i64 0]) ∧ Hid (OsAt w' (fun k => k < w'.heap.size) (.slice o1 n1 z1) os) ∧ Hid (FsAt w' (fun k => k < w'.heap.size) (.slice o2 n2 z2) fs) ∧ Below w.heap.size w w':=by
 have P:=parse_any s w gl
 rw [hp] at P
 refine P.mono ?_
 rintro e w' ⟨⟨v,rfl,hd⟩,hb⟩
 obtain ⟨o1,n1,z1,o2,n2,z2,rfl,hO,hF⟩:=doc_at hd
 exact ⟨o1,n1,z1,o2,n2,z2,rfl,hO,hF,hb⟩
theorem print_tree {os : List Oq} {fs : List Fg} {w : World} {o1 : Option Addr} {n1 z1 : Nat} {o2 : Option Addr} {n2 z2 : Nat} (hO : OsAt w (fun k => k < w.heap.size) (.slice o1 n1 z1) os) (hF : FsAt w (fun k => k < w.heap.size) (.slice o2 n2 z2) fs) (L : DcL os fs) (gl : Gl w) (tz : Tz w) : Calls Tryz.prog 9 #[.agg #[.slice o1 n1 z1,.slice o2 n2 z2]] w (PrntP w (printP os fs)):=print_any os fs o1 o2 n1 z1 n2 z2 hO hF L gl tz
set_option maxRecDepth 100000 in
set_option maxHeartbeats 8000000 in
theorem again_bad {w : World} (s : Bs) {p : Nat × Int} (hp : parseS s = .error p) (gl : Gl w) (tz : Tz w) : Calls Tryz.prog 6 #[.string ⟨s.toArray⟩] w fun e w' => e = .returned (.bool true) ∧ Below w.heap.size w w':=by
 have ok : Ok7 w w:=⟨Below.refl _ _,gl,tz⟩
 have P0:=parse_any s w gl
 rw [hp] at P0
 have P : Calls Tryz.prog 15 #[.string ⟨s.toArray⟩] w fun e w' => e = .returned (.tuple #[.agg #[.slice none 0 0,.slice none 0 0],.int .i64 (p.1 : Int),.int .i64 p.2]) ∧ Below w.heap.size w w':=P0
 have l1 : (p.2 == 0) = false:=by simpa using parse_bad hp
 clear P0 hp
 generalize p.2 = k at *
 generalize p.1 = q at *
 go_enter Tryz.func6,Tryz.ntmps6
 go_wp2_with (first
  | (go_at_call 11;(with_reducible refine (fixed_any _ ok3.gl ok3.tz).mono ?_);rintro e w4 ⟨rfl,b4⟩;have ok4:=ok3.next b4)
  | (go_at_call 11;(with_reducible refine (fixed_any _ ok2.gl ok2.tz).mono ?_);rintro e w3 ⟨rfl,b3⟩;have ok3:=ok2.next b3)
  | (go_at_call 15;(with_reducible refine P.mono ?_);rintro e w1 ⟨rfl,b1⟩;have ok1:=ok.next b1;have ok2:=ok1.alloc (.cells #[.slice none 0 0,.slice none 0 0] 25))
  | fail)
 go_ret
 exact ⟨rfl,ok4.bel⟩
set_option maxRecDepth 100000 in
set_option maxHeartbeats 8000000 in
theorem again_no {w : World} (s : Bs) {os : List Oq} {fs : List Fg} (hp : parseS s = .ok (ctDoc os fs)) (L : DcL os fs) (hn : printP os fs = none) (hl : 2000 < s.length) (gl : Gl w) (tz : Tz w) : Calls Tryz.prog 6 #[.string ⟨s.toArray⟩] w fun e w' => e = .returned (.bool true) ∧ Below w.heap.size w w':=by
 have ok : Ok7 w w:=⟨Below.refl _ _,gl,tz⟩
 have P:=parse_tree hp gl
 have PT : ∀ {W : World} {o1 : Option Addr} {n1 z1 : Nat} {o2 : Option Addr} {n2 z2 : Nat},OsAt W (fun k => k < W.heap.size) (.slice o1 n1 z1) os → FsAt W (fun k => k < W.heap.size) (.slice o2 n2 z2) fs → Ok7 w W → Calls Tryz.prog 9 #[.agg #[.slice o1 n1 z1,.slice o2 n2 z2]] W fun e w' => e = .returned (.tuple #[.string ⟨#[]⟩,.int .i64 70]) ∧ Below W.heap.size W w':=fun hO hF ok => by
  have:=print_tree hO hF L ok.gl ok.tz
  rw [hn] at this
  exact this
 have l1 : decide ((2000 : Int) < (s.length : Int)) = true:=by simp;omega
 have l2 : decide (2000 < s.length) = true:=by simp;omega
 clear hp hn hl
 go_enter Tryz.func6,Tryz.ntmps6
 go_wp2_with (first
  | (go_at_call 9;(with_reducible refine (PT HO3.out HF3.out ok3).mono ?_);rintro e w4 ⟨rfl,b4⟩;have ok4:=ok3.next b4)
  | (go_at_call 11;(with_reducible refine (fixed_any _ ok2.gl ok2.tz).mono ?_);rintro e w3 ⟨rfl,b3⟩;have ok3:=ok2.next b3;have HO3 : Hid _:=HO2.out.next b3;have HF3 : Hid _:=HF2.out.next b3;have x3:=cell_on b3 x2;have y3:=cell_on b3 y2)
  | (go_at_call 15;(with_reducible refine P.mono ?_);rintro e w1 ⟨o1,n1,z1,o2,n2,z2,rfl,HO1,HF1,b1⟩;have ok1:=ok.next b1;have ok2:=ok1.alloc (.cells #[.slice o1 n1 z1,.slice o2 n2 z2] 25);have HO2 : Hid _:=HO1.out.next (al1 w1 (.cells #[.slice o1 n1 z1,.slice o2 n2 z2] 25));have HF2 : Hid _:=HF1.out.next (al1 w1 (.cells #[.slice o1 n1 z1,.slice o2 n2 z2] 25));obtain ⟨x2,y2,_⟩:=row2 (heap_alloc_new w1 (.cells #[.slice o1 n1 z1,.slice o2 n2 z2] 25)))
  | fail)
 go_ret
 exact ⟨by first | rfl | simp [l1,l2],ok4.bel⟩
set_option maxRecDepth 100000 in
set_option maxHeartbeats 8000000 in
theorem again_yes {w : World} (s : Bs) {os : List Oq} {fs : List Fg} {t : Bs} (hp : parseS s = .ok (ctDoc os fs)) (L : DcL os fs) (hn : printP os fs = some t) (gl : Gl w) (tz : Tz w) : Calls Tryz.prog 6 #[.string ⟨s.toArray⟩] w fun e w' => e = .returned (.bool true) ∧ Below w.heap.size w w':=by
 have ok : Ok7 w w:=⟨Below.refl _ _,gl,tz⟩
 have P:=parse_tree hp gl
 have PT : ∀ {W : World} {o1 : Option Addr} {n1 z1 : Nat} {o2 : Option Addr} {n2 z2 : Nat},OsAt W (fun k => k < W.heap.size) (.slice o1 n1 z1) os → FsAt W (fun k => k < W.heap.size) (.slice o2 n2 z2) fs → Ok7 w W → Calls Tryz.prog 9 #[.agg #[.slice o1 n1 z1,.slice o2 n2 z2]] W fun e w' => e = .returned (.tuple #[.string ⟨t.toArray⟩,.int .i64 0]) ∧ Below W.heap.size W w':=fun hO hF ok => by
  have:=print_tree hO hF L ok.gl ok.tz
  rw [hn] at this
  exact this
 have HP : Hid (printP os fs = some t):=hn
 clear hp hn
 go_enter Tryz.func6,Tryz.ntmps6
 go_wp2_with (first
  | (go_at_call 16;(with_reducible refine (same_two HP.out HQ7.out HG7.out HO7.out HF7.out).mono ?_);rintro e w8 ⟨rfl,b8⟩;have ok8:=ok7.next b8)
  | (go_at_call 9;(with_reducible refine (PT HQ6.out HG6.out ok6).mono ?_);rintro e w7 ⟨rfl,b7⟩;have ok7:=ok6.next b7;have HO7 : Hid _:=HO6.out.next b7;have HF7 : Hid _:=HF6.out.next b7;have HQ7 : Hid _:=HQ6.out.next b7;have HG7 : Hid _:=HG6.out.next b7;have x7:=cell_on b7 x6;have y7:=cell_on b7 y6;have u7:=cell_on b7 u6;have v7:=cell_on b7 v6)
  | (go_at_call 15;(with_reducible refine (parse_two HP.out ok4.gl).mono ?_);rintro e w5 ⟨p1,m1,a1,p2,m2,a2,rfl,HQ5,HG5,b5⟩;have ok5:=ok4.next b5;have ok6:=ok5.alloc (.cells #[.slice p1 m1 a1,.slice p2 m2 a2] 25);have B5:=al1 w5 (.cells #[.slice p1 m1 a1,.slice p2 m2 a2] 25);have HQ6 : Hid _:=HQ5.out.next B5;have HG6 : Hid _:=HG5.out.next B5;have HO6 : Hid _:=(HO4.out.next b5).next B5;have HF6 : Hid _:=(HF4.out.next b5).next B5;have x6:=cell_on B5 (cell_on b5 x4);have y6:=cell_on B5 (cell_on b5 y4);obtain ⟨u6,v6,_⟩:=row2 (heap_alloc_new w5 (.cells #[.slice p1 m1 a1,.slice p2 m2 a2] 25));clear B5)
  | (go_at_call 9;(with_reducible refine (PT HO3.out HF3.out ok3).mono ?_);rintro e w4 ⟨rfl,b4⟩;have ok4:=ok3.next b4;have HO4 : Hid _:=HO3.out.next b4;have HF4 : Hid _:=HF3.out.next b4;have x4:=cell_on b4 x3;have y4:=cell_on b4 y3)
  | (go_at_call 11;(with_reducible refine (fixed_any _ ok2.gl ok2.tz).mono ?_);rintro e w3 ⟨rfl,b3⟩;have ok3:=ok2.next b3;have HO3 : Hid _:=HO2.out.next b3;have HF3 : Hid _:=HF2.out.next b3;have x3:=cell_on b3 x2;have y3:=cell_on b3 y2)
  | (go_at_call 15;(with_reducible refine P.mono ?_);rintro e w1 ⟨o1,n1,z1,o2,n2,z2,rfl,HO1,HF1,b1⟩;have ok1:=ok.next b1;have ok2:=ok1.alloc (.cells #[.slice o1 n1 z1,.slice o2 n2 z2] 25);have HO2 : Hid _:=HO1.out.next (al1 w1 (.cells #[.slice o1 n1 z1,.slice o2 n2 z2] 25));have HF2 : Hid _:=HF1.out.next (al1 w1 (.cells #[.slice o1 n1 z1,.slice o2 n2 z2] 25));obtain ⟨x2,y2,_⟩:=row2 (heap_alloc_new w1 (.cells #[.slice o1 n1 z1,.slice o2 n2 z2] 25)))
  | fail)
 go_ret
 exact ⟨by first | rfl | simp,ok8.bel⟩
theorem again_walk {w : World} (s : Bs) (gl : Gl w) (tz : Tz w) : Calls Tryz.prog 6 #[.string ⟨s.toArray⟩] w fun e w' => e = .returned (.bool true) ∧ Below w.heap.size w w':=by
 cases hp : parseS s with
 | error p => exact again_bad s hp gl tz
 | ok cs =>
  obtain ⟨os,fs,rfl,L,hW⟩:=read_again hp
  cases hn : printP os fs with
  | some t => exact again_yes s hp L hn gl tz
  | none =>
   refine again_no s hp L hn (Nat.lt_of_not_le fun h => ?_) gl tz
   obtain ⟨t,e⟩:=hW h
   rw [hn] at e
   cases e
theorem again_any {w : World} (s : Bs) (_ : s.length ≤ txM) (gl : Gl w) (tz : Tz w) : Calls Tryz.prog 6 #[.string ⟨s.toArray⟩] w fun e w' => e = .returned (.bool true) ∧ Below w.heap.size w w':=again_walk s gl tz
end Go.Proofs.YtgmlbjfgfmfliaaGreatDoor
namespace Go.Proofs.YtgmlbjfgfmfliaaGreatDoor
open Go.ChangeShapes Go.WideShapes Go.ChangeAt Go.RowKit
open Go.ChangeMaps (open_string shut_string)
theorem Tryz.own : ownKnob Tryz.prog.godebug = none:=by kernel_rfl
theorem Tryz.laidOut : laidOutB Tryz.prog = true:=by kernel_rfl
/-- The road from the contract to the row where the contract is handed both what is listed and the world's shape. -/
theorem lifted_by {H : Type} {enc : TypeId × Value → H} {C : Checked} {os : Os} {f : FuncId} {fn : Func} {s : ChangeSpec} {conds : List PathCond} {apart fresh handsOn again : Bool} {X : World → Array Value → Prop}
  (hX : ∀ (w w' : World) (args : Array Value),w.heap = w'.heap → X w args → X w' args)
  (own : ownKnob C.prog.godebug = none) (started : os.Started) (noInit : C.prog.inits.idxOf? f = none) (hfn : C.prog.funcs[f]? = some fn)
  (witness : ∃ (w : World) (tape : Tape) (i : Input),w.os = os ∧ (w.forCall tape i).Shaped C.prog ∧ i.vars = [] ∧ Input.okWide C.prog (w.forCall tape i) .any w.heap.size f i ∧
   ((s.pre enc C.prog fn conds apart (w.forCall tape i).memory i.args ∧ X (w.forCall tape i).memory i.args) ∧ sizedMet enc C.prog fn (OpenSpec.ofChange s) apart (w.forCall tape i).memory i.args) ∧ ({} : Assume).holds C.prog (lone (Frame.enter C.prog f i.args .normal) [] (w.forCall tape i)))
  (contract : ∀ (W : World) (base : Nat) (args : Array Value) (ds gs : List (DataW H)) (before : List MemPlace),
   (∀ (j : Nat) t v,fn.params[j]? = some t → args[j]? = some v → Value.okWide C.prog W .any base t v) →
   DataW.Whole enc C.prog fn.params.toList s.vars apart W args.toList ds gs before →
   (DataW.weightsEach C.prog (fn.params.toList ++ s.plain.varTypes C.prog) (ds ++ gs)).all (· ≤ reachBytes) = true → W.ShapedOpen C.prog → X W args →
   Calls C.prog f args W fun e W' => ∃ v,e = .returned v ∧ s.post enc C.prog fn apart fresh handsOn again W args v W') :
  ReturnsInHanded {} C os f .any (fun w args => (s.pre enc C.prog fn conds apart w args ∧ X w args) ∧ sizedMet enc C.prog fn (OpenSpec.ofChange s) apart w args) (s.post enc C.prog fn apart fresh handsOn again):=by
 refine returnsInHanded_of_calls own started noInit witness ?_
 intro w tape i _ hsh _ hok hpre _
 obtain ⟨_,_,_,fn',hfn',_,_,_,_,hval⟩:=hok
 obtain rfl : fn' = fn:=Option.some.inj (hfn'.symm.trans hfn)
 obtain ⟨⟨⟨ds,gs,before,hw,_⟩,hx⟩,hz⟩:=hpre
 refine (contract (w.forCall tape i) w.heap.size i.args ds gs before hval (DataW.Whole.of_heap (w':=w.forCall tape i) (by rfl) hw) (hz.weights hw) hsh (hX _ _ _ (by rfl) hx)).mono fun e W' ⟨v,he,hp⟩ => ?_
 subst he
 exact ChangeSpec.post_blind hp
set_option maxRecDepth 100000 in
theorem printAgain_lifted (os : Os) (started : os.Started) (H : Type) (enc : TypeId × Value → H) :
  ReturnsInHanded {} Tryz.checked os 6 .any (fun w args => (Rows.printAgainSpec.pre enc Tryz.prog Tryz.f6 Rows.printAgainRow.domain false w args ∧ laidMetH Tryz.prog listed w) ∧ sizedMet enc Tryz.prog Tryz.f6 (OpenSpec.ofChange Rows.printAgainSpec) false w args)
   (Rows.printAgainSpec.post enc Tryz.prog Tryz.f6 false true false false):=by
 refine lifted_by (C:=Tryz.checked) (X:=fun w _ => laidMetH Tryz.prog listed w) (fun _ _ _ hh h => h.of_heap hh) Tryz.own started (by kernel_rfl) Tryz.func6
  (ChangeSpec.witness_shaped (enc:=enc) (C:=Tryz.checked) (os:=os) (X:=fun w _ => laidMetH Tryz.prog listed w) false (World.laidAll Tryz.prog os listed) #[.string ByteArray.empty] 8 (World.laidAll_os _ _ _)
   (World.shaped_of_ZipB (by kernel_rfl) (by kernel_rfl)) (by kernel_rfl) (by kernel_rfl) (by kernel_rfl)
   (by rw [MakeChecks.laidMetH_plain _ _ _ (by kernel_rfl)];exact laidMet_laidAll _ (by kernel_rfl) (by kernel_rfl))) ?_
 intro W base args ds gs before hval0 hW hsz hsh hL
 have hval : ∀ (j : Nat) t v,Tryz.f6.params[j]? = some t → args[j]? = some v → Value.okWide Tryz.prog W .any base t v:=hval0
 have hW':=hW
 obtain ⟨p,q,hA0,hV,rfl,hfz,hnd⟩:=hW
 have hA : DataW.TrodAll enc Tryz.prog W 0 (fun _ => true) true Tryz.f6.params.toList args.toList ds p:=hA0
 rw [Tryz.params6] at hA hval
 obtain ⟨v0,vs0,d0,ds0,p0,q0,hargs,rfl,rfl,h0,r0⟩:=trodAll_cons hA
 obtain ⟨rfl,rfl,rfl⟩:=trodAll_nil r0
 obtain rfl : args = #[v0]:=by cases args;simp_all
 obtain ⟨rfl,rfl⟩:=trodVars_none hV
 have wt0 : Wt 9 d0:=fun n hn => by
  have:=List.all_eq_true.1 hsz n (DataW.weights_mem_each (j:=0) rfl rfl n hn)
  simpa using this
 obtain ⟨a0,rfl,rfl,rfl,w0⟩:=open_string Tryz.underlying9 (hval 0 9 v0 rfl rfl) h0
 have n0 : a0.data.toList.length ≤ txM:=by
  have h1:=wt0 a0.data.toList.length (by simp [DataW.weights])
  have h2:=reachBytes_lt
  show a0.data.toList.length ≤ 140737488355328
  omega
 have hL2 : laidMetH Tryz.prog listed W:=hL
 rw [MakeChecks.laidMetH_plain _ _ _ (by kernel_rfl)] at hL2
 have gl:=gl_laid hL2 hsh
 clear hA0 hval0 hL hL2 hsz
 have wk:=again_any a0.data.toList n0 gl.1 gl.2
 refine wk.mono fun e W' ⟨he,bel⟩ => ?_
 subst he
 exact ⟨_,rfl,_,_,_,[],_,[],hW',trodAll_mk1 (shut_bool Tryz.underlying4 _),(trodAll_cons_mk (shut_string Tryz.underlying9 w0) trodAll_mk0),rfl,bel.frame _,fun h => by cases h⟩
theorem printAgain_row : Rows.PrintAgainSaid :=
 OpenClaim.holds_of_wide 6 Tryz.f6 rfl rfl rfl rfl rfl rfl rfl ⟨rfl,rfl,rfl,rfl,rfl⟩ rfl rfl rfl rfl rfl (by kernel_rfl) Tryz.func6 (by kernel_rfl)
  (of_decide_eq_true (by kernel_rfl)) (by unfold Func.isWrapper;first | (rw [if_pos (by decide +kernel)];kernel_rfl) | (rw [if_neg (by decide +kernel)];exact ⟨rfl,rfl⟩))
  (fun os started H enc _ => printAgain_lifted os started H enc)
theorem printAgain_holds : Rows.PrintAgainCardSaid :=
 Claim7.holds_tied_plain_at .later [] _ _ _ _ printAgain_row (fun _ h => by cases h) (by kernel_rfl) (fun _ h => by cases h) printAgain_row_tie rfl ⟨rfl,rfl⟩ (by kernel_rfl) rfl
  (fun f fn hf hfn => by
   obtain rfl : f = 6:=Option.some.inj ((show Tryz.prog.funcNamed "rhizome/rhizomelaw07.PrintAgain" = some 6 by kernel_rfl).symm.trans hf) |>.symm
   obtain rfl : fn = Tryz.f6:=(Option.some.inj (Tryz.func6.symm.trans hfn)).symm
   exact ⟨by kernel_rfl,fun j t ht => by
    rw [Tryz.params6] at ht
    have hm : t ∈ [9]:=by simpa using Array.mem_of_getElem? ht
    have hall : ([9].all fun u => !Tryz.prog.wantsStandIn u) = true:=by kernel_rfl
    exact (show Tryz.prog.wantsStandIn t = false by simpa using List.all_eq_true.1 hall t hm)⟩)
  (by kernel_rfl)
#print axioms printAgain_holds
end Go.Proofs.YtgmlbjfgfmfliaaGreatDoor
