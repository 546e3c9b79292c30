/- From what the row lists of the package-level variables, and from the world's shape, to the facts that the walks ask. -/
import Derived.Test.YtgmlbjfgfmfliaaGreatDoorA17
import Derived.Deep.Slices
import Derived.OpenShut
import Derived.ProofKit
import Derived.SizedLaws
import Derived.ChangeArms
import Derived.Test.YtgmlbjfgfmfliaaGreatDoorRows
import Derived.Test.YtgmlbjfgfmfliaaGreatDoorA18
import Derived.Lib.LaidU8
import Derived.LaidMore
import Derived.Stop.LaidErr
import Derived.Lay
import Derived.Shelf.Vars
namespace Go.Proofs.YtgmlbjfgfmfliaaGreatDoor
open Go Go.RowKit Go.ChangeShapes Go.WideShapes Go.Deep
/-- Nothing within it is beyond the form's reach. -/
def Wt {H : Type} (t : TypeId) (d : DataW H) : Prop:=∀ n ∈ d.weights Tryz.prog t,n ≤ reachBytes
theorem mem_weightsAll {H : Type} {e : TypeId} {d : DataW H} {n : Nat} (hn : n ∈ d.weights Tryz.prog e) : ∀ {l : List (DataW H)},d ∈ l → n ∈ DataW.weightsAll Tryz.prog e l
 | x :: r,h => by
  simp only [DataW.weightsAll,List.mem_append]
  rcases List.mem_cons.1 h with rfl | h
  ·exact Or.inl hn
  ·exact Or.inr (mem_weightsAll hn h)
theorem Wt.elem {H : Type} {t e : TypeId} {el sp : List (DataW H)} (ht : Tryz.prog.underlying t = some (.slice e)) (h : Wt t (.slice el sp)) {d : DataW H} (hd : d ∈ el) : Wt e d:=by
 intro n hn
 refine h n ?_
 simp only [DataW.weights,ht,List.mem_cons,List.mem_append]
 exact Or.inr (Or.inl (mem_weightsAll hn hd))
theorem Wt.len {H : Type} {t e : TypeId} {el sp : List (DataW H)} (ht : Tryz.prog.underlying t = some (.slice e)) (h : Wt t (.slice el sp)) (hb : 1 ≤ Tryz.prog.bytesOf e) : el.length ≤ 140737488355328:=by
 have h1:=h ((el.length + sp.length) * Tryz.prog.bytesOf e) (by simp only [DataW.weights,ht,List.mem_cons,true_or])
 have h2:=reachBytes_lt
 have h3 : el.length + sp.length ≤ (el.length + sp.length) * Tryz.prog.bytesOf e:=Nat.le_mul_of_pos_right _ hb
 omega
theorem Wt.part {H : Type} {t : TypeId} {fs : Array Field} {parts : List (DataW H)} (ht : Tryz.prog.underlying t = some (.struct fs)) (h : Wt t (.agg parts)) {j : Nat} {u : TypeId} {d : DataW H} (hu : (fs.toList.map (·.type))[j]? = some u) (hd : parts[j]? = some d) : Wt u d:=by
 intro n hn
 refine h n ?_
 simp only [DataW.weights,ht]
 exact DataW.weights_mem_each hu hd n hn
section
variable {H : Type} {enc : TypeId × Value → H} {w : World} {base : Nat} {spare : Nat → Bool} {held : Bool}
theorem open_str {fuel : Nat} {cs : List Value} {d : DataW H} {pl : List MemPlace} (h : DataW.trod enc Tryz.prog w base spare held fuel 9 cs = some (d,pl)) (hw : Wt 9 d) : ∃ b : Bs,cs = [.string ⟨b.toArray⟩] ∧ b.length ≤ txM:=by
 obtain ⟨t,e,e2,_⟩:=DataW.trod_string Tryz.underlying9 h
 cases e2
 refine ⟨t.data.toList,by rw [e],?_⟩
 have h1:=hw t.data.toList.length (by simp [DataW.weights])
 have h2:=reachBytes_lt
 show t.data.toList.length ≤ 140737488355328
 omega
theorem none_atO {α : Type} (w : World) (D : Nat → Prop) (E sz : Nat) (ct : α → List CT) (c : Nat) (a : Option Addr) : Bt w D (rowC E sz (([] : List α).map ct)) (.slice a 0 c):=.row (b:=0) (o:=0) (fun _ => .bool true) (Nat.zero_le _) (by simp) (fun h => absurd rfl h) (fun j hj => by simp at hj) (fun j y h => by simp at h)
theorem mem_size {d : DataW H} {el sp : List (DataW H)} (hd : d ∈ el) : SizeOf.sizeOf d < SizeOf.sizeOf (DataW.slice el sp):=by
 have:=List.sizeOf_lt_of_mem hd
 simp only [DataW.slice.sizeOf_spec]
 omega
theorem open_bt {α : Type} {sz E : Nat} {t e : TypeId} {ct : α → List CT} {L : α → Prop} (ht : Tryz.prog.underlying t = some (.slice e)) (hsz : Tryz.prog.cellsOf e = sz) (hs1 : 0 < sz) (hb : 1 ≤ Tryz.prog.bytesOf e) (hct : ∀ a,(ct a).length = sz) {fuel : Nat} {cs : List Value} {d : DataW H} {pl : List MemPlace} (h : DataW.trod enc Tryz.prog w base spare held fuel t cs = some (d,pl)) (hw : Wt t d)
  (each : ∀ (d' : DataW H) (n : Nat) (cs' : List Value) (pl' : List MemPlace),SizeOf.sizeOf d' < SizeOf.sizeOf d → DataW.trod enc Tryz.prog w base spare held n e cs' = some (d',pl') → Wt e d' → ∃ a : α,L a ∧ Bts w (fun k => k < w.heap.size) (ct a) cs') :
  ∃ (v : Value) (l : List α),cs = [v] ∧ Bt w (fun k => k < w.heap.size) (rowC E sz (l.map ct)) v ∧ l.length ≤ rwM ∧ ∀ a ∈ l,L a:=by
 rcases open_slice ht h with ⟨hcs,_⟩ | ⟨ad,len,cap,m,n,D,Pl,hcs,_,hl,hm,hmm,hd,hx⟩
 ·exact ⟨_,[],hcs,none_atO ..,Nat.zero_le _,fun a ha => by cases ha⟩
 ·have hlm : len ≤ m:=by rw [hmm];split <;> omega
  rw [hsz] at hx
  cases hd
  have hlen47 : len ≤ 140737488355328:=by
   have:=hw.len ht hb
   simpa using this
  by_cases h0 : len = 0
  ·subst h0
   exact ⟨_,[],hcs,none_atO ..,Nat.zero_le _,fun a ha => by cases ha⟩
  ·obtain ⟨b,o,sp⟩:=ad
   have cell : ∀ i,i < len → ∃ cs',DataW.trod enc Tryz.prog w base spare held n e cs' = some (D i,Pl i) ∧ cs'.length = sz ∧ ∀ j,j < sz → w.cell? ((⟨b,o,sp⟩ : Addr).add (i * sz + j)) = cs'[j]?:=by
    intro i hi
    obtain ⟨cs',h1,h2⟩:=hx i (by omega)
    obtain ⟨_,hlen,hcell⟩:=World.cells?_some h1
    refine ⟨cs',h2,hlen,fun j hj => ?_⟩
    have:=hcell j hj
    rw [add_add] at this
    exact this
   obtain ⟨cs0,_,hl0,hc0⟩:=cell 0 (by omega)
   obtain ⟨u0,hu0⟩ : ∃ u,cs0[0]? = some u:=⟨_,List.getElem?_eq_getElem (by omega)⟩
   have hc00:=(hc0 0 hs1).trans hu0
   have hsp : sp = none:=by simpa [Addr.add] using World.cell?_spot hc00
   subst hsp
   have hbl : b < w.heap.size:=by
    have:=World.block_lt_of_cell? w _ hc00
    simpa [Addr.add] using this
   have each' : ∀ i,i < len → ∃ a : α,L a ∧ ∃ cs' : List Value,Bts w (fun k => k < w.heap.size) (ct a) cs' ∧ ∀ j,j < sz → w.cell? ⟨b,o + (i * sz + j),none⟩ = cs'[j]?:=by
    intro i hi
    obtain ⟨cs',h1,h2,h3⟩:=cell i hi
    have hme : D i ∈ (List.range len).map D:=List.mem_map.2 ⟨i,List.mem_range.2 hi,rfl⟩
    obtain ⟨a,ha,hB⟩:=each (D i) n cs' (Pl i) (mem_size hme) h1 (hw.elem ht hme)
    refine ⟨a,ha,cs',hB,fun j hj => ?_⟩
    have e4 : (⟨b,o,none⟩ : Addr).add (i * sz + j) = ⟨b,o + (i * sz + j),none⟩:=by simp [Addr.add]
    rw [← e4]
    exact h3 j hj
   obtain ⟨a0,_⟩:=each' 0 (by omega)
   haveI : Inhabited α:=⟨a0⟩
   obtain ⟨f,hf⟩:=choose_lt each'
   have hll : ((List.range len).map f).length = len:=by simp
   refine ⟨_,(List.range len).map f,hcs,?_,by rw [hll];exact hlen47,fun a ha => ?_⟩
   ·have e1 : (((List.range len).map f).map ct).length = len:=by simp
    show Bt w _ (.rw E sz (((List.range len).map f).map ct).length (((List.range len).map f).map ct).flatten) _
    rw [e1]
    have hfl : (((List.range len).map f).map ct).flatten.length = len * sz:=by
     rw [List.length_flatten]
     have : (((List.range len).map f).map ct).map List.length = List.replicate len sz:=by
      rw [List.eq_replicate_iff]
      refine ⟨by simp,fun x hx => ?_⟩
      simp only [List.mem_map] at hx
      obtain ⟨_,⟨y,_,rfl⟩,rfl⟩:=hx
      exact hct y
     rw [this,List.sum_replicate_nat]
    have split : ∀ j,j < len * sz → ∃ i r,i < len ∧ r < sz ∧ j = i * sz + r:=fun j hj => ⟨j / sz,j % sz,(Nat.div_lt_iff_lt_mul hs1).2 hj,Nat.mod_lt _ hs1,by rw [Nat.mul_comm];exact (Nat.div_add_mod j sz).symm⟩
    refine .row (b:=b) (o:=o) (fun j => (w.cell? ⟨b,o + j,none⟩).getD (.bool true)) hl hfl (fun _ => ⟨rfl,hbl⟩) (fun j hj => ?_) (fun j y hy => ?_)
    ·obtain ⟨i,r,hi,hr,rfl⟩:=split j hj
     obtain ⟨_,cs',hB,hC⟩:=hf i hi
     have hlen' : cs'.length = sz:=by rw [← hB.len,hct]
     rw [hC r hr,List.getElem?_eq_getElem (by omega)]
     rfl
    ·have hj : j < len * sz:=by
      have:=(List.getElem?_eq_some_iff.1 hy).1
      omega
     obtain ⟨i,r,hi,hr,rfl⟩:=split j hj
     obtain ⟨_,cs',hB,hC⟩:=hf i hi
     have hlen' : cs'.length = sz:=by rw [← hB.len,hct]
     obtain ⟨z,hz⟩ : ∃ z,(ct (f i))[r]? = some z:=⟨_,List.getElem?_eq_getElem (by rw [hct];exact hr)⟩
     have:=flat_at (((List.range len).map f).map ct) (fun e he => by
      simp only [List.mem_map] at he
      obtain ⟨_,⟨y,_,rfl⟩,rfl⟩:=he
      exact hct _) i r (ct (f i)) z (by simp [hi]) hz
     rw [this] at hy
     cases hy
     have hu : cs'[r]? = some cs'[r]:=List.getElem?_eq_getElem (by omega)
     have:=hB.all r _ _ hz hu
     rw [hC r hr,hu]
     exact this
   ·obtain ⟨i,hi,rfl⟩:=List.mem_map.1 ha
    exact (hf i (List.mem_range.1 hi)).1
end
end Go.Proofs.YtgmlbjfgfmfliaaGreatDoor
namespace Go.Proofs.YtgmlbjfgfmfliaaGreatDoor
open Go Go.RowKit Go.ChangeShapes Go.WideShapes Go.Deep
theorem VlsL_of : ∀ {l : List Vl},(∀ v ∈ l,VlL v) → VlsL l
 | [],_ => trivial
 | a :: _,h => ⟨h a (.head _),VlsL_of fun v hv => h v (.tail _ hv)⟩
theorem SesL_of : ∀ {l : List Se},(∀ v ∈ l,SeL v) → SesL l
 | [],_ => trivial
 | a :: _,h => ⟨h a (.head _),SesL_of fun v hv => h v (.tail _ hv)⟩
theorem bts_app {w : World} {D : Nat → Prop} {us' : List Value} {ys' : List CT} (h' : Bts w D ys' us') : ∀ {ys : List CT} {us : List Value},Bts w D ys us → Bts w D (ys ++ ys') (us ++ us')
 | [],us,h => by
  have:=h.inv0
  subst this
  exact h'
 | y :: ys,us,h => by
  obtain ⟨u,vs,rfl,h0,h1⟩:=h.inv
  exact .cons h0 (bts_app h' h1)
theorem Tryz.cValue : Tryz.prog.cellsOf 35 = 4:=by kernel_rfl
theorem Tryz.cArg : Tryz.prog.cellsOf 43 = 5:=by kernel_rfl
theorem Tryz.cDirective : Tryz.prog.cellsOf 102 = 2:=by kernel_rfl
theorem Tryz.cRef : Tryz.prog.cellsOf 97 = 2:=by kernel_rfl
theorem Tryz.cSel : Tryz.prog.cellsOf 48 = 7:=by kernel_rfl
theorem Tryz.cVar : Tryz.prog.cellsOf 99 = 9:=by kernel_rfl
theorem Tryz.cOp : Tryz.prog.cellsOf 51 = 5:=by kernel_rfl
theorem Tryz.cFrag : Tryz.prog.cellsOf 65 = 4:=by kernel_rfl
theorem Tryz.cDoc : Tryz.prog.cellsOf 25 = 2:=by kernel_rfl
theorem Tryz.csValue : Tryz.prog.cellsOf 32 = 1:=by kernel_rfl
theorem Tryz.csArg : Tryz.prog.cellsOf 44 = 1:=by kernel_rfl
theorem Tryz.csDirective : Tryz.prog.cellsOf 45 = 1:=by kernel_rfl
theorem Tryz.csSel : Tryz.prog.cellsOf 46 = 1:=by kernel_rfl
theorem Tryz.csVar : Tryz.prog.cellsOf 49 = 1:=by kernel_rfl
theorem Tryz.csOp : Tryz.prog.cellsOf 22 = 1:=by kernel_rfl
theorem Tryz.csFrag : Tryz.prog.cellsOf 23 = 1:=by kernel_rfl
theorem Tryz.csStr : Tryz.prog.cellsOf 33 = 1:=by kernel_rfl
theorem Tryz.cStr : Tryz.prog.cellsOf 9 = 1:=by kernel_rfl
theorem Tryz.cInt : Tryz.prog.cellsOf 3 = 1:=by kernel_rfl
theorem Tryz.cBool : Tryz.prog.cellsOf 4 = 1:=by kernel_rfl
section
variable {H : Type} {enc : TypeId × Value → H} {w : World} {base : Nat} {spare : Nat → Bool} {held : Bool}
theorem open_names {fuel : Nat} {cs : List Value} {d : DataW H} {pl : List MemPlace} (h : DataW.trod enc Tryz.prog w base spare held fuel 33 cs = some (d,pl)) (hw : Wt 33 d) : ∃ (v : Value) (l : List Bs),cs = [v] ∧ Bt w (fun k => k < w.heap.size) (rowC 9 1 (l.map fun s => [sC s])) v ∧ l.length ≤ rwM ∧ ∀ s ∈ l,s.length ≤ txM :=
 open_bt (ct:=fun s => [sC s]) (L:=fun s : Bs => s.length ≤ txM) Tryz.underlying33 Tryz.cStr (by decide) (of_decide_eq_true (by kernel_rfl)) (fun _ => rfl) h hw fun d' n cs' pl' _ h1 h2 => by
  obtain ⟨b,rfl,hb⟩:=open_str h1 h2
  exact ⟨b,hb,.cons (.lf _) .nil⟩
set_option maxRecDepth 100000 in
theorem open_ref {fuel : Nat} {cs : List Value} {d : DataW H} {pl : List MemPlace} (h : DataW.trod enc Tryz.prog w base spare held fuel 97 cs = some (d,pl)) (hw : Wt 97 d) : ∃ a b : Bs,cs = [.string ⟨a.toArray⟩,.string ⟨b.toArray⟩] ∧ a.length ≤ txM ∧ b.length ≤ txM:=by
 obtain ⟨xs,n,_,hx,hl,hxl,hf⟩:=DataW.trod_struct Tryz.underlying97 h
 obtain ⟨rfl,_⟩:=Prod.mk.inj hx
 rw [Tryz.cRef] at hl
 match xs,hxl,cs,hl with
 | [(d0,p0),(d1,p1)],_,[v0,v1],_ =>
  have g0:=hf 0 _ rfl
  have g1:=hf 1 _ rfl
  simp [Tryz.cStr] at g0 g1
  obtain ⟨a0,e0,L0⟩:=open_str g0 (hw.part Tryz.underlying97 (j:=0) rfl rfl)
  obtain ⟨a1,e1,L1⟩:=open_str g1 (hw.part Tryz.underlying97 (j:=1) rfl rfl)
  simp at e0 e1
  subst e0 e1
  exact ⟨a0,a1,rfl,L0,L1⟩
set_option maxRecDepth 100000 in
theorem open_val : ∀ (k : Nat) {fuel : Nat} {cs : List Value} {d : DataW H} {pl : List MemPlace},SizeOf.sizeOf d < k → DataW.trod enc Tryz.prog w base spare held fuel 35 cs = some (d,pl) → Wt 35 d → ∃ x : Vl,VlL x ∧ Bts w (fun k => k < w.heap.size) (ctV x) cs
 | 0,_,_,_,_,hk,_,_ => absurd hk (Nat.not_lt_zero _)
 | k + 1,_,cs,d,pl,hk,h,hw => by
  obtain ⟨xs,n,_,hx,hl,hxl,hf⟩:=DataW.trod_struct Tryz.underlying35 h
  obtain ⟨rfl,_⟩:=Prod.mk.inj hx
  rw [Tryz.cValue] at hl
  match xs,hxl,cs,hl with
  | [(d0,p0),(d1,p1),(d2,p2),(d3,p3)],_,[v0,v1,v2,v3],_ =>
   have g0:=hf 0 _ rfl
   have g1:=hf 1 _ rfl
   have g2:=hf 2 _ rfl
   have g3:=hf 3 _ rfl
   simp [Tryz.cInt] at g0
   simp [Tryz.cStr] at g1
   simp [Tryz.csValue] at g2
   simp [Tryz.csStr] at g3
   obtain ⟨a0,e0,_,_⟩:=DataW.trod_int Tryz.underlying3 g0
   obtain ⟨a1,e1,L1⟩:=open_str g1 (hw.part Tryz.underlying35 (j:=1) rfl rfl)
   obtain ⟨r2,a2,e2,B2,L2,A2⟩:=open_bt (ct:=ctV) (L:=VlL) Tryz.underlying32 Tryz.cValue (by decide) (of_decide_eq_true (by kernel_rfl)) ctV_len g2 (hw.part Tryz.underlying35 (j:=2) rfl rfl) fun d' n' cs' pl' hs h1 h2 => open_val k (Nat.lt_of_lt_of_le hs (by simp only [List.map,DataW.agg.sizeOf_spec,List.cons.sizeOf_spec] at hk;omega)) h1 h2
   obtain ⟨r3,a3,e3,B3,L3,A3⟩:=open_names g3 (hw.part Tryz.underlying35 (j:=3) rfl rfl)
   simp at e0 e1 e2 e3
   subst e0 e1 e2 e3
   refine ⟨.mk a0 a1 a2 a3,⟨L1,L2,L3,A3,VlsL_of A2⟩,?_⟩
   rw [ctV,ctVs_map]
   exact .cons (.lf _) (.cons (.lf _) (.cons B2 (.cons B3 .nil)))
set_option maxRecDepth 100000 in
theorem open_arg {fuel : Nat} {cs : List Value} {d : DataW H} {pl : List MemPlace} (h : DataW.trod enc Tryz.prog w base spare held fuel 43 cs = some (d,pl)) (hw : Wt 43 d) : ∃ x : Ar,ArL x ∧ Bts w (fun k => k < w.heap.size) (ctA x) cs:=by
 obtain ⟨xs,n,_,hx,hl,hxl,hf⟩:=DataW.trod_struct Tryz.underlying43 h
 obtain ⟨rfl,_⟩:=Prod.mk.inj hx
 rw [Tryz.cArg] at hl
 match xs,hxl,cs,hl with
 | [(d0,p0),(d1,p1)],_,[v0,v1,v2,v3,v4],_ =>
  have g0:=hf 0 _ rfl
  have g1:=hf 1 _ rfl
  simp [Tryz.cStr] at g0
  simp [Tryz.cValue] at g1
  obtain ⟨a0,e0,L0⟩:=open_str g0 (hw.part Tryz.underlying43 (j:=0) rfl rfl)
  obtain ⟨a1,L1,B1⟩:=open_val _ (Nat.lt_succ_self _) g1 (hw.part Tryz.underlying43 (j:=1) rfl rfl)
  simp at e0
  subst e0
  exact ⟨⟨a0,a1⟩,⟨L0,L1⟩,.cons (.lf _) B1⟩
set_option maxRecDepth 100000 in
theorem open_dir {fuel : Nat} {cs : List Value} {d : DataW H} {pl : List MemPlace} (h : DataW.trod enc Tryz.prog w base spare held fuel 102 cs = some (d,pl)) (hw : Wt 102 d) : ∃ x : Dr,DrL x ∧ Bts w (fun k => k < w.heap.size) (ctD x) cs:=by
 obtain ⟨xs,n,_,hx,hl,hxl,hf⟩:=DataW.trod_struct Tryz.underlying102 h
 obtain ⟨rfl,_⟩:=Prod.mk.inj hx
 rw [Tryz.cDirective] at hl
 match xs,hxl,cs,hl with
 | [(d0,p0),(d1,p1)],_,[v0,v1],_ =>
  have g0:=hf 0 _ rfl
  have g1:=hf 1 _ rfl
  simp [Tryz.cStr] at g0
  simp [Tryz.csArg] at g1
  obtain ⟨a0,e0,L0⟩:=open_str g0 (hw.part Tryz.underlying102 (j:=0) rfl rfl)
  obtain ⟨r1,a1,e1,B1,L1,A1⟩:=open_bt (ct:=ctA) (L:=ArL) Tryz.underlying44 Tryz.cArg (by decide) (of_decide_eq_true (by kernel_rfl)) ctA_len g1 (hw.part Tryz.underlying102 (j:=1) rfl rfl) fun _ _ _ _ _ h1 h2 => open_arg h1 h2
  simp at e0 e1
  subst e0 e1
  exact ⟨⟨a0,a1⟩,⟨L0,L1,A1⟩,.cons (.lf _) (.cons B1 .nil)⟩
set_option maxRecDepth 100000 in
theorem open_sel : ∀ (k : Nat) {fuel : Nat} {cs : List Value} {d : DataW H} {pl : List MemPlace},SizeOf.sizeOf d < k → DataW.trod enc Tryz.prog w base spare held fuel 48 cs = some (d,pl) → Wt 48 d → ∃ x : Se,SeL x ∧ Bts w (fun k => k < w.heap.size) (ctS x) cs
 | 0,_,_,_,_,hk,_,_ => absurd hk (Nat.not_lt_zero _)
 | k + 1,_,cs,d,pl,hk,h,hw => by
  obtain ⟨xs,n,_,hx,hl,hxl,hf⟩:=DataW.trod_struct Tryz.underlying48 h
  obtain ⟨rfl,_⟩:=Prod.mk.inj hx
  rw [Tryz.cSel] at hl
  match xs,hxl,cs,hl with
  | [(d0,p0),(d1,p1),(d2,p2),(d3,p3),(d4,p4),(d5,p5),(d6,p6)],_,[v0,v1,v2,v3,v4,v5,v6],_ =>
   have g0:=hf 0 _ rfl
   have g1:=hf 1 _ rfl
   have g2:=hf 2 _ rfl
   have g3:=hf 3 _ rfl
   have g4:=hf 4 _ rfl
   have g5:=hf 5 _ rfl
   have g6:=hf 6 _ rfl
   simp [Tryz.cInt] at g0
   simp [Tryz.cStr] at g1
   simp [Tryz.cStr] at g2
   simp [Tryz.cStr] at g3
   simp [Tryz.csArg] at g4
   simp [Tryz.csDirective] at g5
   simp [Tryz.csSel] at g6
   obtain ⟨a0,e0,_,_⟩:=DataW.trod_int Tryz.underlying3 g0
   obtain ⟨a1,e1,L1⟩:=open_str g1 (hw.part Tryz.underlying48 (j:=1) rfl rfl)
   obtain ⟨a2,e2,L2⟩:=open_str g2 (hw.part Tryz.underlying48 (j:=2) rfl rfl)
   obtain ⟨a3,e3,L3⟩:=open_str g3 (hw.part Tryz.underlying48 (j:=3) rfl rfl)
   obtain ⟨r4,a4,e4,B4,L4,A4⟩:=open_bt (ct:=ctA) (L:=ArL) Tryz.underlying44 Tryz.cArg (by decide) (of_decide_eq_true (by kernel_rfl)) ctA_len g4 (hw.part Tryz.underlying48 (j:=4) rfl rfl) fun _ _ _ _ _ h1 h2 => open_arg h1 h2
   obtain ⟨r5,a5,e5,B5,L5,A5⟩:=open_bt (ct:=ctD) (L:=DrL) Tryz.underlying45 Tryz.cDirective (by decide) (of_decide_eq_true (by kernel_rfl)) ctD_len g5 (hw.part Tryz.underlying48 (j:=5) rfl rfl) fun _ _ _ _ _ h1 h2 => open_dir h1 h2
   obtain ⟨r6,a6,e6,B6,L6,A6⟩:=open_bt (ct:=ctS) (L:=SeL) Tryz.underlying46 Tryz.cSel (by decide) (of_decide_eq_true (by kernel_rfl)) ctS_len g6 (hw.part Tryz.underlying48 (j:=6) rfl rfl) fun d' n' cs' pl' hs h1 h2 => open_sel k (Nat.lt_of_lt_of_le hs (by simp only [List.map,DataW.agg.sizeOf_spec,List.cons.sizeOf_spec] at hk;omega)) h1 h2
   simp at e0 e1 e2 e3 e4 e5 e6
   subst e0 e1 e2 e3 e4 e5 e6
   refine ⟨.mk a0 a1 a2 a3 a4 a5 a6,⟨⟨L1,L2,L3⟩,⟨L4,A4⟩,⟨L5,A5⟩,L6,SesL_of A6⟩,?_⟩
   rw [ctS,ctSs_map]
   exact .cons (.lf _) (.cons (.lf _) (.cons (.lf _) (.cons (.lf _) (.cons B4 (.cons B5 (.cons B6 .nil))))))
set_option maxRecDepth 100000 in
theorem open_var {fuel : Nat} {cs : List Value} {d : DataW H} {pl : List MemPlace} (h : DataW.trod enc Tryz.prog w base spare held fuel 99 cs = some (d,pl)) (hw : Wt 99 d) : ∃ x : Va,VaL x ∧ Bts w (fun k => k < w.heap.size) (ctX x) cs:=by
 obtain ⟨xs,n,_,hx,hl,hxl,hf⟩:=DataW.trod_struct Tryz.underlying99 h
 obtain ⟨rfl,_⟩:=Prod.mk.inj hx
 rw [Tryz.cVar] at hl
 match xs,hxl,cs,hl with
 | [(d0,p0),(d1,p1),(d2,p2),(d3,p3),(d4,p4)],_,[v0,v1,v2,v3,v4,v5,v6,v7,v8],_ =>
  have g0:=hf 0 _ rfl
  have g1:=hf 1 _ rfl
  have g2:=hf 2 _ rfl
  have g3:=hf 3 _ rfl
  have g4:=hf 4 _ rfl
  simp [Tryz.cStr] at g0
  simp [Tryz.cRef] at g1
  simp [Tryz.cBool] at g2
  simp [Tryz.cValue] at g3
  simp [Tryz.csDirective] at g4
  obtain ⟨a0,e0,L0⟩:=open_str g0 (hw.part Tryz.underlying99 (j:=0) rfl rfl)
  obtain ⟨a1,b1,e1,L1,M1⟩:=open_ref g1 (hw.part Tryz.underlying99 (j:=1) rfl rfl)
  obtain ⟨a2,e2,_⟩:=DataW.trod_bool Tryz.underlying4 g2
  obtain ⟨a3,L3,B3⟩:=open_val _ (Nat.lt_succ_self _) g3 (hw.part Tryz.underlying99 (j:=3) rfl rfl)
  obtain ⟨r4,a4,e4,B4,L4,A4⟩:=open_bt (ct:=ctD) (L:=DrL) Tryz.underlying45 Tryz.cDirective (by decide) (of_decide_eq_true (by kernel_rfl)) ctD_len g4 (hw.part Tryz.underlying99 (j:=4) rfl rfl) fun _ _ _ _ _ h1 h2 => open_dir h1 h2
  simp at e0 e1 e2 e4
  obtain ⟨e1,e1b⟩:=e1
  subst e0 e1 e1b e2 e4
  exact ⟨⟨a0,a1,b1,a2,a3,a4⟩,⟨⟨L0,L1,M1⟩,L3,L4,A4⟩,bts_app (us:=[_,_,_,_,_,_,_,_]) (.cons B4 .nil) (bts_app (us:=[_,_,_,_]) B3 (.cons (.lf _) (.cons (.lf _) (.cons (.lf _) (.cons (.lf _) .nil)))))⟩
set_option maxRecDepth 100000 in
theorem open_op {fuel : Nat} {cs : List Value} {d : DataW H} {pl : List MemPlace} (h : DataW.trod enc Tryz.prog w base spare held fuel 51 cs = some (d,pl)) (hw : Wt 51 d) : ∃ x : Oq,OqL x ∧ Bts w (fun k => k < w.heap.size) (ctO x) cs:=by
 obtain ⟨xs,n,_,hx,hl,hxl,hf⟩:=DataW.trod_struct Tryz.underlying51 h
 obtain ⟨rfl,_⟩:=Prod.mk.inj hx
 rw [Tryz.cOp] at hl
 match xs,hxl,cs,hl with
 | [(d0,p0),(d1,p1),(d2,p2),(d3,p3),(d4,p4)],_,[v0,v1,v2,v3,v4],_ =>
  have g0:=hf 0 _ rfl
  have g1:=hf 1 _ rfl
  have g2:=hf 2 _ rfl
  have g3:=hf 3 _ rfl
  have g4:=hf 4 _ rfl
  simp [Tryz.cInt] at g0
  simp [Tryz.cStr] at g1
  simp [Tryz.csVar] at g2
  simp [Tryz.csDirective] at g3
  simp [Tryz.csSel] at g4
  obtain ⟨a0,e0,_,_⟩:=DataW.trod_int Tryz.underlying3 g0
  obtain ⟨a1,e1,L1⟩:=open_str g1 (hw.part Tryz.underlying51 (j:=1) rfl rfl)
  obtain ⟨r2,a2,e2,B2,L2,A2⟩:=open_bt (ct:=ctX) (L:=VaL) Tryz.underlying49 Tryz.cVar (by decide) (of_decide_eq_true (by kernel_rfl)) ctX_len g2 (hw.part Tryz.underlying51 (j:=2) rfl rfl) fun _ _ _ _ _ h1 h2 => open_var h1 h2
  obtain ⟨r3,a3,e3,B3,L3,A3⟩:=open_bt (ct:=ctD) (L:=DrL) Tryz.underlying45 Tryz.cDirective (by decide) (of_decide_eq_true (by kernel_rfl)) ctD_len g3 (hw.part Tryz.underlying51 (j:=3) rfl rfl) fun _ _ _ _ _ h1 h2 => open_dir h1 h2
  obtain ⟨r4,a4,e4,B4,L4,A4⟩:=open_bt (ct:=ctS) (L:=SeL) Tryz.underlying46 Tryz.cSel (by decide) (of_decide_eq_true (by kernel_rfl)) ctS_len g4 (hw.part Tryz.underlying51 (j:=4) rfl rfl) fun _ _ _ _ _ h1 h2 => open_sel _ (Nat.lt_succ_self _) h1 h2
  simp at e0 e1 e2 e3 e4
  subst e0 e1 e2 e3 e4
  exact ⟨⟨a0,a1,a2,a3,a4⟩,⟨L1,⟨L2,A2⟩,⟨L3,A3⟩,L4,A4⟩,.cons (.lf _) (.cons (.lf _) (.cons B2 (.cons B3 (.cons B4 .nil))))⟩
set_option maxRecDepth 100000 in
theorem open_frag {fuel : Nat} {cs : List Value} {d : DataW H} {pl : List MemPlace} (h : DataW.trod enc Tryz.prog w base spare held fuel 65 cs = some (d,pl)) (hw : Wt 65 d) : ∃ x : Fg,FgL x ∧ Bts w (fun k => k < w.heap.size) (ctF x) cs:=by
 obtain ⟨xs,n,_,hx,hl,hxl,hf⟩:=DataW.trod_struct Tryz.underlying65 h
 obtain ⟨rfl,_⟩:=Prod.mk.inj hx
 rw [Tryz.cFrag] at hl
 match xs,hxl,cs,hl with
 | [(d0,p0),(d1,p1),(d2,p2),(d3,p3)],_,[v0,v1,v2,v3],_ =>
  have g0:=hf 0 _ rfl
  have g1:=hf 1 _ rfl
  have g2:=hf 2 _ rfl
  have g3:=hf 3 _ rfl
  simp [Tryz.cStr] at g0
  simp [Tryz.cStr] at g1
  simp [Tryz.csDirective] at g2
  simp [Tryz.csSel] at g3
  obtain ⟨a0,e0,L0⟩:=open_str g0 (hw.part Tryz.underlying65 (j:=0) rfl rfl)
  obtain ⟨a1,e1,L1⟩:=open_str g1 (hw.part Tryz.underlying65 (j:=1) rfl rfl)
  obtain ⟨r2,a2,e2,B2,L2,A2⟩:=open_bt (ct:=ctD) (L:=DrL) Tryz.underlying45 Tryz.cDirective (by decide) (of_decide_eq_true (by kernel_rfl)) ctD_len g2 (hw.part Tryz.underlying65 (j:=2) rfl rfl) fun _ _ _ _ _ h1 h2 => open_dir h1 h2
  obtain ⟨r3,a3,e3,B3,L3,A3⟩:=open_bt (ct:=ctS) (L:=SeL) Tryz.underlying46 Tryz.cSel (by decide) (of_decide_eq_true (by kernel_rfl)) ctS_len g3 (hw.part Tryz.underlying65 (j:=3) rfl rfl) fun _ _ _ _ _ h1 h2 => open_sel _ (Nat.lt_succ_self _) h1 h2
  simp at e0 e1 e2 e3
  subst e0 e1 e2 e3
  exact ⟨⟨a0,a1,a2,a3⟩,⟨⟨L0,L1⟩,⟨L2,A2⟩,L3,A3⟩,.cons (.lf _) (.cons (.lf _) (.cons B2 (.cons B3 .nil)))⟩
set_option maxRecDepth 100000 in
theorem open_doc {fuel : Nat} {cs : List Value} {d : DataW H} {pl : List MemPlace} (h : DataW.trod enc Tryz.prog w base spare held fuel 25 cs = some (d,pl)) (hw : Wt 25 d) : ∃ (o f : Value) (os : List Oq) (fs : List Fg),cs = [o,f] ∧ (Bt w (fun k => k < w.heap.size) (rowC 51 5 (os.map ctO)) o ∧ os.length ≤ rwM ∧ ∀ x ∈ os,OqL x) ∧ (Bt w (fun k => k < w.heap.size) (rowC 65 4 (fs.map ctF)) f ∧ fs.length ≤ rwM ∧ ∀ x ∈ fs,FgL x):=by
 obtain ⟨xs,n,_,hx,hl,hxl,hf⟩:=DataW.trod_struct Tryz.underlying25 h
 obtain ⟨rfl,_⟩:=Prod.mk.inj hx
 rw [Tryz.cDoc] at hl
 match xs,hxl,cs,hl with
 | [(d0,p0),(d1,p1)],_,[v0,v1],_ =>
  have g0:=hf 0 _ rfl
  have g1:=hf 1 _ rfl
  simp [Tryz.csOp] at g0
  simp [Tryz.csFrag] at g1
  obtain ⟨r0,a0,e0,B0,L0,A0⟩:=open_bt (ct:=ctO) (L:=OqL) Tryz.underlying22 Tryz.cOp (by decide) (of_decide_eq_true (by kernel_rfl)) ctO_len g0 (hw.part Tryz.underlying25 (j:=0) rfl rfl) fun _ _ _ _ _ h1 h2 => open_op h1 h2
  obtain ⟨r1,a1,e1,B1,L1,A1⟩:=open_bt (ct:=ctF) (L:=FgL) Tryz.underlying23 Tryz.cFrag (by decide) (of_decide_eq_true (by kernel_rfl)) ctF_len g1 (hw.part Tryz.underlying25 (j:=1) rfl rfl) fun _ _ _ _ _ h1 h2 => open_frag h1 h2
  simp at e0 e1
  subst e0 e1
  exact ⟨_,_,a0,a1,rfl,⟨B0,L0,A0⟩,⟨B1,L1,A1⟩⟩
end
end Go.Proofs.YtgmlbjfgfmfliaaGreatDoor
namespace Go.Proofs.YtgmlbjfgfmfliaaGreatDoor
open Go Go.RowKit Go.Lib
def listed : List (String × DataW Unit):=Rows.printTellsRow.laid
theorem at_var {w : World} {n : String} {d : DataW Unit} {g t : Nat} (h : VarReads Tryz.prog w n d) (hg : Tryz.prog.globalNamed n = some g) (ht : (Tryz.prog.globals[g]?).map (·.type) = some t) :
  ∃ (cs : Array Value) (fuel : Nat) (p : List MemPlace),w.var? Tryz.prog n = some cs ∧ DataW.trod (fun _ => ()) Tryz.prog w 0 (fun _ => true) false fuel t cs.toList = some (d,p) ∧ ∀ i,w.cell? ⟨g,i,none⟩ = cs.toList[i]?:=by
 obtain ⟨g',t',cs,fuel,p,hg',ht',hv,hd⟩:=h
 obtain rfl:=Option.some.inj (hg.symm.trans hg')
 obtain rfl:=Option.some.inj (ht.symm.trans ht')
 exact ⟨cs,fuel,p,hv,hd,fun i => by rw [World.var?_cell hg hv i,Array.getElem?_toList]⟩
set_option maxRecDepth 100000 in
theorem tz_laid {w : World} (h : VarReads Tryz.prog w "math/bits.deBruijn64tab" Rows.laid_math_bits_deBruijn64tab) : Tz w:=by
 obtain ⟨cs,fuel,p,_,hd,hc⟩:=at_var h (g:=7) (t:=261) (by kernel_rfl) (by kernel_rfl)
 have c1 : Tryz.prog.cellsOf 5 = 1:=by kernel_rfl
 have h15 : (match (Rows.laid_math_bits_deBruijn64tab : DataW Unit) with | .agg ds => ds[15]? | _ => none) = some (.lit (.int .u8 4)):=rfl
 generalize (Rows.laid_math_bits_deBruijn64tab : DataW Unit) = D at hd h15
 cases D with
 | agg ds =>
  obtain ⟨fuel',d,q,hdi,he⟩:=array_elem Tryz.underlying261 hd 15 (by decide)
  have h15' : ds[15]? = some (.lit (.int .u8 4)):=h15
  obtain rfl:=Option.some.inj (hdi.symm.trans h15')
  rw [c1] at he
  obtain ⟨z,e1,e2,_⟩:=DataW.trod_int Tryz.underlying5 he
  simp only [Prod.mk.injEq,DataW.lit.injEq,Lit.int.injEq,true_and] at e2
  obtain ⟨rfl,_⟩:=e2
  have e0:=congrArg (·[0]?) e1
  simp only [List.getElem?_take,List.getElem?_drop] at e0
  show w.cell? ⟨7,15,none⟩ = _
  rw [hc]
  simpa using e0
 | _ => cases h15
theorem es_laid {w : World} (h : VarReads Tryz.prog w "strconv.ErrSyntax" Rows.laid_strconv_ErrSyntax) : ∃ te pe,w.cell? ⟨4,0,none⟩ = some (.iface te pe):=by
 obtain ⟨cs,fuel,p,_,hd,hc⟩:=at_var h (g:=4) (t:=130) (by kernel_rfl) (by kernel_rfl)
 cases fuel with
 | zero => simp [DataW.trod] at hd
 | succ n =>
  have hu:=Tryz.underlying130
  simp only [DataW.trod,hu,Rows.laid_strconv_ErrSyntax] at hd
  rw [hc]
  split at hd
  all_goals simp_all
theorem max_of {W : World} (h : W.ShapedOpen Tryz.prog) : ∃ m,W.cell? ⟨gM,0,none⟩ = some (.int .i64 m) :=
 cell_of_shapedOpen_int h (g:=0) (t:=3) (zero:=#[.int .i64 0]) (of_decide_eq_true (by kernel_rfl)) (by kernel_rfl) rfl (by kernel_rfl) (by kernel_rfl) Tryz.underlying3
theorem gl_laid {W : World} (hL : laidMet Tryz.prog listed W) (hs : W.ShapedOpen Tryz.prog) : Gl W ∧ Tz W:=by
 obtain ⟨te,pe,he⟩:=es_laid (laidMet.reads hL (.tail _ (.tail _ (.tail _ (.tail _ (.tail _ (.head _)))))))
 exact ⟨⟨max_of hs,⟨_,he,Or.inr ⟨te,pe,rfl⟩⟩⟩,tz_laid (laidMet.reads hL (.tail _ (.head _)))⟩
end Go.Proofs.YtgmlbjfgfmfliaaGreatDoor
