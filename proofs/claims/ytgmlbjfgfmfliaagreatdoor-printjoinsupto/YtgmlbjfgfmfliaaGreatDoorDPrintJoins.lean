/- PrintJoins holds of any two documents whose bulk is at most 1048576 in all: the text of operations, some behind others, and of operations and fragments, is both texts with a blank between. -/
import Derived.Test.YtgmlbjfgfmfliaaGreatDoorRows
import Derived.Test.YtgmlbjfgfmfliaaGreatDoorA29
import Derived.ChangeArms
import Derived.Test.YtgmlbjfgfmfliaaGreatDoorA21
import Derived.Test.YtgmlbjfgfmfliaaGreatDoorA27
import Derived.Deep.AppendLies
import Derived.Laws.OwnMore
import Derived.Laws.AppendOwnNone
import Derived.Deep.RegionHeld3
import Derived.Deep.CutRange
import Derived.Deep.CutBlock
import Derived.Test.YtgmlbjfgfmfliaaGreatDoorTie
import Derived.Test.YtgmlbjfgfmfliaaGreatDoorCards
import Derived.ProofKit
import Derived.OpenShut
import Derived.ShutString
import Derived.LaidMore
import Derived.Lay
import Derived.SevenTiedAt
import Derived.Stop.Joined
import Derived.Shelf.Vars
import Derived.Carry
import Derived.Deep.DeepHandedRow
namespace Go.Proofs.YtgmlbjfgfmfliaaGreatDoor
open Go Go.RowKit Go.ChangeShapes Go.WideShapes Go.Deep
/-- It is of bulk at most 1048576. -/
def Wu {H : Type} (d : DataW H) : Prop:=Rows.uptoBulk d ≤ 1048576
theorem bulk_mem {H : Type} {d : DataW H} : ∀ {l : List (DataW H)},d ∈ l → Rows.uptoBulk d ≤ Rows.uptoBulkAll l
 | x :: r,h => by
  simp only [Rows.uptoBulkAll]
  rcases List.mem_cons.1 h with rfl | h
  ·omega
  ·have:=bulk_mem h
   omega
theorem bulk_pos {H : Type} : ∀ d : DataW H,1 ≤ Rows.uptoBulk d:=by
 intro d
 cases d with
 | lit l => cases l <;> simp [Rows.uptoBulk]
 | _ => simp [Rows.uptoBulk]
theorem bulk_len {H : Type} : ∀ l : List (DataW H),l.length ≤ Rows.uptoBulkAll l
 | [] => Nat.zero_le _
 | x :: r => by
  have h1:=bulk_pos x
  have h2:=bulk_len r
  simp only [Rows.uptoBulkAll,List.length_cons]
  omega
theorem Wu.elem {H : Type} {el sp : List (DataW H)} (h : Wu (.slice el sp)) {d : DataW H} (hd : d ∈ el) : Wu d:=by
 have h1 : Rows.uptoBulk (DataW.slice el sp) ≤ 1048576:=h
 have h2:=bulk_mem hd
 simp only [Rows.uptoBulk] at h1
 show Rows.uptoBulk d ≤ 1048576
 omega
theorem Wu.len {H : Type} {el sp : List (DataW H)} (h : Wu (.slice el sp)) : el.length ≤ 140737488355328:=by
 have h1 : Rows.uptoBulk (DataW.slice el sp) ≤ 1048576:=h
 have h2:=bulk_len el
 simp only [Rows.uptoBulk] at h1
 omega
theorem Wu.part {H : Type} {parts : List (DataW H)} (h : Wu (.agg parts)) {j : Nat} {d : DataW H} (hd : parts[j]? = some d) : Wu d:=by
 have h1 : Rows.uptoBulk (DataW.agg parts) ≤ 1048576:=h
 have h2:=bulk_mem (List.mem_of_getElem? hd)
 simp only [Rows.uptoBulk] at h1
 show Rows.uptoBulk d ≤ 1048576
 omega
theorem Wu.len2 {H : Type} {el sp : List (DataW H)} (h : Wu (.slice el sp)) : el.length ≤ 1048576:=by
 have h1 : Rows.uptoBulk (DataW.slice el sp) ≤ 1048576:=h
 have h2:=bulk_len el
 simp only [Rows.uptoBulk] at h1
 omega
/-- A slice that came in is none, or has a place. -/
def Nn (v : Value) : Prop:=v = .slice none 0 0 ∨ ∃ ad n c,v = .slice (some ad) n c
section
variable {H : Type} {enc : TypeId × Value → H} {w : World} {base : Nat} {spare : Nat → Bool} {held : Bool}
theorem open_strU {fuel : Nat} {cs : List Value} {d : DataW H} {pl : List MemPlace} (h : DataW.trod enc Tryz.prog w base spare held fuel 9 cs = some (d,pl)) (hw : Wu d) : ∃ b : Bs,cs = [.string ⟨b.toArray⟩] ∧ b.length ≤ txM:=by
 obtain ⟨t,e,e2,_⟩:=DataW.trod_string Tryz.underlying9 h
 cases e2
 refine ⟨t.data.toList,by rw [e],?_⟩
 have h1 : t.data.toList.length + 1 ≤ 1048576:=by
  have : Rows.uptoBulk (DataW.lit (H:=H) (.string t.data.toList)) ≤ 1048576:=hw
  simpa only [Rows.uptoBulk] using this
 show t.data.toList.length ≤ 140737488355328
 omega
theorem open_btN {α : Type} {sz E : Nat} {t e : TypeId} {ct : α → List CT} {L : α → Prop} (ht : Tryz.prog.underlying t = some (.slice e)) (hsz : Tryz.prog.cellsOf e = sz) (hs1 : 0 < sz) (hct : ∀ a,(ct a).length = sz) {fuel : Nat} {cs : List Value} {d : DataW H} {pl : List MemPlace} (h : DataW.trod enc Tryz.prog w base spare held fuel t cs = some (d,pl)) (hw : Wu d)
  (each : ∀ (d' : DataW H) (n : Nat) (cs' : List Value) (pl' : List MemPlace),SizeOf.sizeOf d' < SizeOf.sizeOf d → DataW.trod enc Tryz.prog w base spare held n e cs' = some (d',pl') → Wu d' → ∃ a : α,L a ∧ Bts w (fun k => k < w.heap.size) (ct a) cs') :
  ∃ (v : Value) (l : List α),cs = [v] ∧ Bt w (fun k => k < w.heap.size) (rowC E sz (l.map ct)) v ∧ l.length ≤ rwM ∧ (∀ a ∈ l,L a) ∧ l.length ≤ 1048576 ∧ Nn v:=by
 rcases open_slice ht h with ⟨hcs,_⟩ | ⟨ad,len,cap,m,n,D,Pl,hcs,_,hl,hm,hmm,hd,hx⟩
 ·exact ⟨_,[],hcs,none_atO ..,Nat.zero_le _,(fun a ha => by cases ha),Nat.zero_le _,Or.inl rfl⟩
 ·have hlm : len ≤ m:=by rw [hmm];split <;> omega
  rw [hsz] at hx
  cases hd
  have hlen20 : len ≤ 1048576:=by
   have:=hw.len2
   simpa using this
  have hlen47 : len ≤ 140737488355328:=by omega
  by_cases h0 : len = 0
  ·subst h0
   exact ⟨_,[],hcs,none_atO ..,Nat.zero_le _,(fun a ha => by cases ha),Nat.zero_le _,Or.inr ⟨_,_,_,rfl⟩⟩
  ·obtain ⟨b,o,sp⟩:=ad
   have cell : ∀ i,i < len → ∃ cs',DataW.trod enc Tryz.prog w base spare held n e cs' = some (D i,Pl i) ∧ cs'.length = sz ∧ ∀ j,j < sz → w.cell? ((⟨b,o,sp⟩ : Addr).add (i * sz + j)) = cs'[j]?:=by
    intro i hi
    obtain ⟨cs',h1,h2⟩:=hx i (by omega)
    obtain ⟨_,hlen,hcell⟩:=World.cells?_some h1
    refine ⟨cs',h2,hlen,fun j hj => ?_⟩
    have:=hcell j hj
    rw [add_add] at this
    exact this
   obtain ⟨cs0,_,hl0,hc0⟩:=cell 0 (by omega)
   obtain ⟨u0,hu0⟩ : ∃ u,cs0[0]? = some u:=⟨_,List.getElem?_eq_getElem (by omega)⟩
   have hc00:=(hc0 0 hs1).trans hu0
   have hsp : sp = none:=by simpa [Addr.add] using World.cell?_spot hc00
   subst hsp
   have hbl : b < w.heap.size:=by
    have:=World.block_lt_of_cell? w _ hc00
    simpa [Addr.add] using this
   have each' : ∀ i,i < len → ∃ a : α,L a ∧ ∃ cs' : List Value,Bts w (fun k => k < w.heap.size) (ct a) cs' ∧ ∀ j,j < sz → w.cell? ⟨b,o + (i * sz + j),none⟩ = cs'[j]?:=by
    intro i hi
    obtain ⟨cs',h1,h2,h3⟩:=cell i hi
    have hme : D i ∈ (List.range len).map D:=List.mem_map.2 ⟨i,List.mem_range.2 hi,rfl⟩
    obtain ⟨a,ha,hB⟩:=each (D i) n cs' (Pl i) (mem_size hme) h1 (hw.elem hme)
    refine ⟨a,ha,cs',hB,fun j hj => ?_⟩
    have e4 : (⟨b,o,none⟩ : Addr).add (i * sz + j) = ⟨b,o + (i * sz + j),none⟩:=by simp [Addr.add]
    rw [← e4]
    exact h3 j hj
   obtain ⟨a0,_⟩:=each' 0 (by omega)
   haveI : Inhabited α:=⟨a0⟩
   obtain ⟨f,hf⟩:=choose_lt each'
   have hll : ((List.range len).map f).length = len:=by simp
   refine ⟨_,(List.range len).map f,hcs,?_,by rw [hll];exact hlen47,fun a ha => ?_,by rw [hll];exact hlen20,Or.inr ⟨_,_,_,rfl⟩⟩
   ·have e1 : (((List.range len).map f).map ct).length = len:=by simp
    show Bt w _ (.rw E sz (((List.range len).map f).map ct).length (((List.range len).map f).map ct).flatten) _
    rw [e1]
    have hfl : (((List.range len).map f).map ct).flatten.length = len * sz:=by
     rw [List.length_flatten]
     have : (((List.range len).map f).map ct).map List.length = List.replicate len sz:=by
      rw [List.eq_replicate_iff]
      refine ⟨by simp,fun x hx => ?_⟩
      simp only [List.mem_map] at hx
      obtain ⟨_,⟨y,_,rfl⟩,rfl⟩:=hx
      exact hct y
     rw [this,List.sum_replicate_nat]
    have split : ∀ j,j < len * sz → ∃ i r,i < len ∧ r < sz ∧ j = i * sz + r:=fun j hj => ⟨j / sz,j % sz,(Nat.div_lt_iff_lt_mul hs1).2 hj,Nat.mod_lt _ hs1,by rw [Nat.mul_comm];exact (Nat.div_add_mod j sz).symm⟩
    refine .row (b:=b) (o:=o) (fun j => (w.cell? ⟨b,o + j,none⟩).getD (.bool true)) hl hfl (fun _ => ⟨rfl,hbl⟩) (fun j hj => ?_) (fun j y hy => ?_)
    ·obtain ⟨i,r,hi,hr,rfl⟩:=split j hj
     obtain ⟨_,cs',hB,hC⟩:=hf i hi
     have hlen' : cs'.length = sz:=by rw [← hB.len,hct]
     rw [hC r hr,List.getElem?_eq_getElem (by omega)]
     rfl
    ·have hj : j < len * sz:=by
      have:=(List.getElem?_eq_some_iff.1 hy).1
      omega
     obtain ⟨i,r,hi,hr,rfl⟩:=split j hj
     obtain ⟨_,cs',hB,hC⟩:=hf i hi
     have hlen' : cs'.length = sz:=by rw [← hB.len,hct]
     obtain ⟨z,hz⟩ : ∃ z,(ct (f i))[r]? = some z:=⟨_,List.getElem?_eq_getElem (by rw [hct];exact hr)⟩
     have:=flat_at (((List.range len).map f).map ct) (fun e he => by
      simp only [List.mem_map] at he
      obtain ⟨_,⟨y,_,rfl⟩,rfl⟩:=he
      exact hct _) i r (ct (f i)) z (by simp [hi]) hz
     rw [this] at hy
     cases hy
     have hu : cs'[r]? = some cs'[r]:=List.getElem?_eq_getElem (by omega)
     have:=hB.all r _ _ hz hu
     rw [hC r hr,hu]
     exact this
   ·obtain ⟨i,hi,rfl⟩:=List.mem_map.1 ha
    exact (hf i (List.mem_range.1 hi)).1
theorem open_btU {α : Type} {sz E : Nat} {t e : TypeId} {ct : α → List CT} {L : α → Prop} (ht : Tryz.prog.underlying t = some (.slice e)) (hsz : Tryz.prog.cellsOf e = sz) (hs1 : 0 < sz) (hct : ∀ a,(ct a).length = sz) {fuel : Nat} {cs : List Value} {d : DataW H} {pl : List MemPlace} (h : DataW.trod enc Tryz.prog w base spare held fuel t cs = some (d,pl)) (hw : Wu d)
  (each : ∀ (d' : DataW H) (n : Nat) (cs' : List Value) (pl' : List MemPlace),SizeOf.sizeOf d' < SizeOf.sizeOf d → DataW.trod enc Tryz.prog w base spare held n e cs' = some (d',pl') → Wu d' → ∃ a : α,L a ∧ Bts w (fun k => k < w.heap.size) (ct a) cs') :
  ∃ (v : Value) (l : List α),cs = [v] ∧ Bt w (fun k => k < w.heap.size) (rowC E sz (l.map ct)) v ∧ l.length ≤ rwM ∧ ∀ a ∈ l,L a:=by
 obtain ⟨v,l,h1,h2,h3,h4,_⟩:=open_btN ht hsz hs1 hct h hw each
 exact ⟨v,l,h1,h2,h3,h4⟩
end
end Go.Proofs.YtgmlbjfgfmfliaaGreatDoor
namespace Go.Proofs.YtgmlbjfgfmfliaaGreatDoor
open Go Go.RowKit Go.ChangeShapes Go.WideShapes Go.Deep
section
variable {H : Type} {enc : TypeId × Value → H} {w : World} {base : Nat} {spare : Nat → Bool} {held : Bool}
theorem open_namesU {fuel : Nat} {cs : List Value} {d : DataW H} {pl : List MemPlace} (h : DataW.trod enc Tryz.prog w base spare held fuel 33 cs = some (d,pl)) (hw : Wu d) : ∃ (v : Value) (l : List Bs),cs = [v] ∧ Bt w (fun k => k < w.heap.size) (rowC 9 1 (l.map fun s => [sC s])) v ∧ l.length ≤ rwM ∧ ∀ s ∈ l,s.length ≤ txM :=
 open_btU (ct:=fun s => [sC s]) (L:=fun s : Bs => s.length ≤ txM) Tryz.underlying33 Tryz.cStr (by decide) (fun _ => rfl) h hw fun d' n cs' pl' _ h1 h2 => by
  obtain ⟨b,rfl,hb⟩:=open_strU h1 h2
  exact ⟨b,hb,.cons (.lf _) .nil⟩
set_option maxRecDepth 100000 in
theorem open_refU {fuel : Nat} {cs : List Value} {d : DataW H} {pl : List MemPlace} (h : DataW.trod enc Tryz.prog w base spare held fuel 97 cs = some (d,pl)) (hw : Wu d) : ∃ a b : Bs,cs = [.string ⟨a.toArray⟩,.string ⟨b.toArray⟩] ∧ a.length ≤ txM ∧ b.length ≤ txM:=by
 obtain ⟨xs,n,_,hx,hl,hxl,hf⟩:=DataW.trod_struct Tryz.underlying97 h
 obtain ⟨rfl,_⟩:=Prod.mk.inj hx
 rw [Tryz.cRef] at hl
 match xs,hxl,cs,hl with
 | [(d0,p0),(d1,p1)],_,[v0,v1],_ =>
  have g0:=hf 0 _ rfl
  have g1:=hf 1 _ rfl
  simp [Tryz.cStr] at g0 g1
  obtain ⟨a0,e0,L0⟩:=open_strU g0 (hw.part (j:=0) rfl)
  obtain ⟨a1,e1,L1⟩:=open_strU g1 (hw.part (j:=1) rfl)
  simp at e0 e1
  subst e0 e1
  exact ⟨a0,a1,rfl,L0,L1⟩
set_option maxRecDepth 100000 in
theorem open_valU : ∀ (k : Nat) {fuel : Nat} {cs : List Value} {d : DataW H} {pl : List MemPlace},SizeOf.sizeOf d < k → DataW.trod enc Tryz.prog w base spare held fuel 35 cs = some (d,pl) → Wu d → ∃ x : Vl,VlL x ∧ Bts w (fun k => k < w.heap.size) (ctV x) cs
 | 0,_,_,_,_,hk,_,_ => absurd hk (Nat.not_lt_zero _)
 | k + 1,_,cs,d,pl,hk,h,hw => by
  obtain ⟨xs,n,_,hx,hl,hxl,hf⟩:=DataW.trod_struct Tryz.underlying35 h
  obtain ⟨rfl,_⟩:=Prod.mk.inj hx
  rw [Tryz.cValue] at hl
  match xs,hxl,cs,hl with
  | [(d0,p0),(d1,p1),(d2,p2),(d3,p3)],_,[v0,v1,v2,v3],_ =>
   have g0:=hf 0 _ rfl
   have g1:=hf 1 _ rfl
   have g2:=hf 2 _ rfl
   have g3:=hf 3 _ rfl
   simp [Tryz.cInt] at g0
   simp [Tryz.cStr] at g1
   simp [Tryz.csValue] at g2
   simp [Tryz.csStr] at g3
   obtain ⟨a0,e0,_,_⟩:=DataW.trod_int Tryz.underlying3 g0
   obtain ⟨a1,e1,L1⟩:=open_strU g1 (hw.part (j:=1) rfl)
   obtain ⟨r2,a2,e2,B2,L2,A2⟩:=open_btU (ct:=ctV) (L:=VlL) Tryz.underlying32 Tryz.cValue (by decide) ctV_len g2 (hw.part (j:=2) rfl) fun d' n' cs' pl' hs h1 h2 => open_valU k (Nat.lt_of_lt_of_le hs (by simp only [List.map,DataW.agg.sizeOf_spec,List.cons.sizeOf_spec] at hk;omega)) h1 h2
   obtain ⟨r3,a3,e3,B3,L3,A3⟩:=open_namesU g3 (hw.part (j:=3) rfl)
   simp at e0 e1 e2 e3
   subst e0 e1 e2 e3
   refine ⟨.mk a0 a1 a2 a3,⟨L1,L2,L3,A3,VlsL_of A2⟩,?_⟩
   rw [ctV,ctVs_map]
   exact .cons (.lf _) (.cons (.lf _) (.cons B2 (.cons B3 .nil)))
set_option maxRecDepth 100000 in
theorem open_argU {fuel : Nat} {cs : List Value} {d : DataW H} {pl : List MemPlace} (h : DataW.trod enc Tryz.prog w base spare held fuel 43 cs = some (d,pl)) (hw : Wu d) : ∃ x : Ar,ArL x ∧ Bts w (fun k => k < w.heap.size) (ctA x) cs:=by
 obtain ⟨xs,n,_,hx,hl,hxl,hf⟩:=DataW.trod_struct Tryz.underlying43 h
 obtain ⟨rfl,_⟩:=Prod.mk.inj hx
 rw [Tryz.cArg] at hl
 match xs,hxl,cs,hl with
 | [(d0,p0),(d1,p1)],_,[v0,v1,v2,v3,v4],_ =>
  have g0:=hf 0 _ rfl
  have g1:=hf 1 _ rfl
  simp [Tryz.cStr] at g0
  simp [Tryz.cValue] at g1
  obtain ⟨a0,e0,L0⟩:=open_strU g0 (hw.part (j:=0) rfl)
  obtain ⟨a1,L1,B1⟩:=open_valU _ (Nat.lt_succ_self _) g1 (hw.part (j:=1) rfl)
  simp at e0
  subst e0
  exact ⟨⟨a0,a1⟩,⟨L0,L1⟩,.cons (.lf _) B1⟩
set_option maxRecDepth 100000 in
theorem open_dirU {fuel : Nat} {cs : List Value} {d : DataW H} {pl : List MemPlace} (h : DataW.trod enc Tryz.prog w base spare held fuel 102 cs = some (d,pl)) (hw : Wu d) : ∃ x : Dr,DrL x ∧ Bts w (fun k => k < w.heap.size) (ctD x) cs:=by
 obtain ⟨xs,n,_,hx,hl,hxl,hf⟩:=DataW.trod_struct Tryz.underlying102 h
 obtain ⟨rfl,_⟩:=Prod.mk.inj hx
 rw [Tryz.cDirective] at hl
 match xs,hxl,cs,hl with
 | [(d0,p0),(d1,p1)],_,[v0,v1],_ =>
  have g0:=hf 0 _ rfl
  have g1:=hf 1 _ rfl
  simp [Tryz.cStr] at g0
  simp [Tryz.csArg] at g1
  obtain ⟨a0,e0,L0⟩:=open_strU g0 (hw.part (j:=0) rfl)
  obtain ⟨r1,a1,e1,B1,L1,A1⟩:=open_btU (ct:=ctA) (L:=ArL) Tryz.underlying44 Tryz.cArg (by decide) ctA_len g1 (hw.part (j:=1) rfl) fun _ _ _ _ _ h1 h2 => open_argU h1 h2
  simp at e0 e1
  subst e0 e1
  exact ⟨⟨a0,a1⟩,⟨L0,L1,A1⟩,.cons (.lf _) (.cons B1 .nil)⟩
set_option maxRecDepth 100000 in
theorem open_selU : ∀ (k : Nat) {fuel : Nat} {cs : List Value} {d : DataW H} {pl : List MemPlace},SizeOf.sizeOf d < k → DataW.trod enc Tryz.prog w base spare held fuel 48 cs = some (d,pl) → Wu d → ∃ x : Se,SeL x ∧ Bts w (fun k => k < w.heap.size) (ctS x) cs
 | 0,_,_,_,_,hk,_,_ => absurd hk (Nat.not_lt_zero _)
 | k + 1,_,cs,d,pl,hk,h,hw => by
  obtain ⟨xs,n,_,hx,hl,hxl,hf⟩:=DataW.trod_struct Tryz.underlying48 h
  obtain ⟨rfl,_⟩:=Prod.mk.inj hx
  rw [Tryz.cSel] at hl
  match xs,hxl,cs,hl with
  | [(d0,p0),(d1,p1),(d2,p2),(d3,p3),(d4,p4),(d5,p5),(d6,p6)],_,[v0,v1,v2,v3,v4,v5,v6],_ =>
   have g0:=hf 0 _ rfl
   have g1:=hf 1 _ rfl
   have g2:=hf 2 _ rfl
   have g3:=hf 3 _ rfl
   have g4:=hf 4 _ rfl
   have g5:=hf 5 _ rfl
   have g6:=hf 6 _ rfl
   simp [Tryz.cInt] at g0
   simp [Tryz.cStr] at g1
   simp [Tryz.cStr] at g2
   simp [Tryz.cStr] at g3
   simp [Tryz.csArg] at g4
   simp [Tryz.csDirective] at g5
   simp [Tryz.csSel] at g6
   obtain ⟨a0,e0,_,_⟩:=DataW.trod_int Tryz.underlying3 g0
   obtain ⟨a1,e1,L1⟩:=open_strU g1 (hw.part (j:=1) rfl)
   obtain ⟨a2,e2,L2⟩:=open_strU g2 (hw.part (j:=2) rfl)
   obtain ⟨a3,e3,L3⟩:=open_strU g3 (hw.part (j:=3) rfl)
   obtain ⟨r4,a4,e4,B4,L4,A4⟩:=open_btU (ct:=ctA) (L:=ArL) Tryz.underlying44 Tryz.cArg (by decide) ctA_len g4 (hw.part (j:=4) rfl) fun _ _ _ _ _ h1 h2 => open_argU h1 h2
   obtain ⟨r5,a5,e5,B5,L5,A5⟩:=open_btU (ct:=ctD) (L:=DrL) Tryz.underlying45 Tryz.cDirective (by decide) ctD_len g5 (hw.part (j:=5) rfl) fun _ _ _ _ _ h1 h2 => open_dirU h1 h2
   obtain ⟨r6,a6,e6,B6,L6,A6⟩:=open_btU (ct:=ctS) (L:=SeL) Tryz.underlying46 Tryz.cSel (by decide) ctS_len g6 (hw.part (j:=6) rfl) fun d' n' cs' pl' hs h1 h2 => open_selU k (Nat.lt_of_lt_of_le hs (by simp only [List.map,DataW.agg.sizeOf_spec,List.cons.sizeOf_spec] at hk;omega)) h1 h2
   simp at e0 e1 e2 e3 e4 e5 e6
   subst e0 e1 e2 e3 e4 e5 e6
   refine ⟨.mk a0 a1 a2 a3 a4 a5 a6,⟨⟨L1,L2,L3⟩,⟨L4,A4⟩,⟨L5,A5⟩,L6,SesL_of A6⟩,?_⟩
   rw [ctS,ctSs_map]
   exact .cons (.lf _) (.cons (.lf _) (.cons (.lf _) (.cons (.lf _) (.cons B4 (.cons B5 (.cons B6 .nil))))))
set_option maxRecDepth 100000 in
theorem open_varU {fuel : Nat} {cs : List Value} {d : DataW H} {pl : List MemPlace} (h : DataW.trod enc Tryz.prog w base spare held fuel 99 cs = some (d,pl)) (hw : Wu d) : ∃ x : Va,VaL x ∧ Bts w (fun k => k < w.heap.size) (ctX x) cs:=by
 obtain ⟨xs,n,_,hx,hl,hxl,hf⟩:=DataW.trod_struct Tryz.underlying99 h
 obtain ⟨rfl,_⟩:=Prod.mk.inj hx
 rw [Tryz.cVar] at hl
 match xs,hxl,cs,hl with
 | [(d0,p0),(d1,p1),(d2,p2),(d3,p3),(d4,p4)],_,[v0,v1,v2,v3,v4,v5,v6,v7,v8],_ =>
  have g0:=hf 0 _ rfl
  have g1:=hf 1 _ rfl
  have g2:=hf 2 _ rfl
  have g3:=hf 3 _ rfl
  have g4:=hf 4 _ rfl
  simp [Tryz.cStr] at g0
  simp [Tryz.cRef] at g1
  simp [Tryz.cBool] at g2
  simp [Tryz.cValue] at g3
  simp [Tryz.csDirective] at g4
  obtain ⟨a0,e0,L0⟩:=open_strU g0 (hw.part (j:=0) rfl)
  obtain ⟨a1,b1,e1,L1,M1⟩:=open_refU g1 (hw.part (j:=1) rfl)
  obtain ⟨a2,e2,_⟩:=DataW.trod_bool Tryz.underlying4 g2
  obtain ⟨a3,L3,B3⟩:=open_valU _ (Nat.lt_succ_self _) g3 (hw.part (j:=3) rfl)
  obtain ⟨r4,a4,e4,B4,L4,A4⟩:=open_btU (ct:=ctD) (L:=DrL) Tryz.underlying45 Tryz.cDirective (by decide) ctD_len g4 (hw.part (j:=4) rfl) fun _ _ _ _ _ h1 h2 => open_dirU h1 h2
  simp at e0 e1 e2 e4
  obtain ⟨e1,e1b⟩:=e1
  subst e0 e1 e1b e2 e4
  exact ⟨⟨a0,a1,b1,a2,a3,a4⟩,⟨⟨L0,L1,M1⟩,L3,L4,A4⟩,bts_app (us:=[_,_,_,_,_,_,_,_]) (.cons B4 .nil) (bts_app (us:=[_,_,_,_]) B3 (.cons (.lf _) (.cons (.lf _) (.cons (.lf _) (.cons (.lf _) .nil)))))⟩
set_option maxRecDepth 100000 in
theorem open_opU {fuel : Nat} {cs : List Value} {d : DataW H} {pl : List MemPlace} (h : DataW.trod enc Tryz.prog w base spare held fuel 51 cs = some (d,pl)) (hw : Wu d) : ∃ x : Oq,OqL x ∧ Bts w (fun k => k < w.heap.size) (ctO x) cs:=by
 obtain ⟨xs,n,_,hx,hl,hxl,hf⟩:=DataW.trod_struct Tryz.underlying51 h
 obtain ⟨rfl,_⟩:=Prod.mk.inj hx
 rw [Tryz.cOp] at hl
 match xs,hxl,cs,hl with
 | [(d0,p0),(d1,p1),(d2,p2),(d3,p3),(d4,p4)],_,[v0,v1,v2,v3,v4],_ =>
  have g0:=hf 0 _ rfl
  have g1:=hf 1 _ rfl
  have g2:=hf 2 _ rfl
  have g3:=hf 3 _ rfl
  have g4:=hf 4 _ rfl
  simp [Tryz.cInt] at g0
  simp [Tryz.cStr] at g1
  simp [Tryz.csVar] at g2
  simp [Tryz.csDirective] at g3
  simp [Tryz.csSel] at g4
  obtain ⟨a0,e0,_,_⟩:=DataW.trod_int Tryz.underlying3 g0
  obtain ⟨a1,e1,L1⟩:=open_strU g1 (hw.part (j:=1) rfl)
  obtain ⟨r2,a2,e2,B2,L2,A2⟩:=open_btU (ct:=ctX) (L:=VaL) Tryz.underlying49 Tryz.cVar (by decide) ctX_len g2 (hw.part (j:=2) rfl) fun _ _ _ _ _ h1 h2 => open_varU h1 h2
  obtain ⟨r3,a3,e3,B3,L3,A3⟩:=open_btU (ct:=ctD) (L:=DrL) Tryz.underlying45 Tryz.cDirective (by decide) ctD_len g3 (hw.part (j:=3) rfl) fun _ _ _ _ _ h1 h2 => open_dirU h1 h2
  obtain ⟨r4,a4,e4,B4,L4,A4⟩:=open_btU (ct:=ctS) (L:=SeL) Tryz.underlying46 Tryz.cSel (by decide) ctS_len g4 (hw.part (j:=4) rfl) fun _ _ _ _ _ h1 h2 => open_selU _ (Nat.lt_succ_self _) h1 h2
  simp at e0 e1 e2 e3 e4
  subst e0 e1 e2 e3 e4
  exact ⟨⟨a0,a1,a2,a3,a4⟩,⟨L1,⟨L2,A2⟩,⟨L3,A3⟩,L4,A4⟩,.cons (.lf _) (.cons (.lf _) (.cons B2 (.cons B3 (.cons B4 .nil))))⟩
set_option maxRecDepth 100000 in
theorem open_fragU {fuel : Nat} {cs : List Value} {d : DataW H} {pl : List MemPlace} (h : DataW.trod enc Tryz.prog w base spare held fuel 65 cs = some (d,pl)) (hw : Wu d) : ∃ x : Fg,FgL x ∧ Bts w (fun k => k < w.heap.size) (ctF x) cs:=by
 obtain ⟨xs,n,_,hx,hl,hxl,hf⟩:=DataW.trod_struct Tryz.underlying65 h
 obtain ⟨rfl,_⟩:=Prod.mk.inj hx
 rw [Tryz.cFrag] at hl
 match xs,hxl,cs,hl with
 | [(d0,p0),(d1,p1),(d2,p2),(d3,p3)],_,[v0,v1,v2,v3],_ =>
  have g0:=hf 0 _ rfl
  have g1:=hf 1 _ rfl
  have g2:=hf 2 _ rfl
  have g3:=hf 3 _ rfl
  simp [Tryz.cStr] at g0
  simp [Tryz.cStr] at g1
  simp [Tryz.csDirective] at g2
  simp [Tryz.csSel] at g3
  obtain ⟨a0,e0,L0⟩:=open_strU g0 (hw.part (j:=0) rfl)
  obtain ⟨a1,e1,L1⟩:=open_strU g1 (hw.part (j:=1) rfl)
  obtain ⟨r2,a2,e2,B2,L2,A2⟩:=open_btU (ct:=ctD) (L:=DrL) Tryz.underlying45 Tryz.cDirective (by decide) ctD_len g2 (hw.part (j:=2) rfl) fun _ _ _ _ _ h1 h2 => open_dirU h1 h2
  obtain ⟨r3,a3,e3,B3,L3,A3⟩:=open_btU (ct:=ctS) (L:=SeL) Tryz.underlying46 Tryz.cSel (by decide) ctS_len g3 (hw.part (j:=3) rfl) fun _ _ _ _ _ h1 h2 => open_selU _ (Nat.lt_succ_self _) h1 h2
  simp at e0 e1 e2 e3
  subst e0 e1 e2 e3
  exact ⟨⟨a0,a1,a2,a3⟩,⟨⟨L0,L1⟩,⟨L2,A2⟩,L3,A3⟩,.cons (.lf _) (.cons (.lf _) (.cons B2 (.cons B3 .nil)))⟩
set_option maxRecDepth 100000 in
theorem open_docU {fuel : Nat} {cs : List Value} {d : DataW H} {pl : List MemPlace} (h : DataW.trod enc Tryz.prog w base spare held fuel 25 cs = some (d,pl)) (hw : Wu d) : ∃ (o f : Value) (os : List Oq) (fs : List Fg),cs = [o,f] ∧ (Bt w (fun k => k < w.heap.size) (rowC 51 5 (os.map ctO)) o ∧ (os.length ≤ rwM ∧ os.length ≤ 1048576 ∧ Nn o) ∧ ∀ x ∈ os,OqL x) ∧ (Bt w (fun k => k < w.heap.size) (rowC 65 4 (fs.map ctF)) f ∧ (fs.length ≤ rwM ∧ fs.length ≤ 1048576 ∧ Nn f) ∧ ∀ x ∈ fs,FgL x):=by
 obtain ⟨xs,n,_,hx,hl,hxl,hf⟩:=DataW.trod_struct Tryz.underlying25 h
 obtain ⟨rfl,_⟩:=Prod.mk.inj hx
 rw [Tryz.cDoc] at hl
 match xs,hxl,cs,hl with
 | [(d0,p0),(d1,p1)],_,[v0,v1],_ =>
  have g0:=hf 0 _ rfl
  have g1:=hf 1 _ rfl
  simp [Tryz.csOp] at g0
  simp [Tryz.csFrag] at g1
  obtain ⟨r0,a0,e0,B0,L0,A0,M0,N0⟩:=open_btN (ct:=ctO) (L:=OqL) Tryz.underlying22 Tryz.cOp (by decide) ctO_len g0 (hw.part (j:=0) rfl) fun _ _ _ _ _ h1 h2 => open_opU h1 h2
  obtain ⟨r1,a1,e1,B1,L1,A1,M1,N1⟩:=open_btN (ct:=ctF) (L:=FgL) Tryz.underlying23 Tryz.cFrag (by decide) ctF_len g1 (hw.part (j:=1) rfl) fun _ _ _ _ _ h1 h2 => open_fragU h1 h2
  simp at e0 e1
  subst e0 e1
  exact ⟨_,_,a0,a1,rfl,⟨B0,⟨L0,M0,N0⟩,A0⟩,⟨B1,⟨L1,M1,N1⟩,A1⟩⟩
end
end Go.Proofs.YtgmlbjfgfmfliaaGreatDoor
namespace Go.Proofs.YtgmlbjfgfmfliaaGreatDoor
open Go Go.RowKit
theorem joinW_app2 : ∀ {a b : List Bs},a ≠ [] → b ≠ [] → joinW (a ++ b) = joinW a ++ 32 :: joinW b
 | [],_,h,_ => absurd rfl h
 | [x],b,_,hb => by
  cases b with
  | nil => exact absurd rfl hb
  | cons y l => rfl
 | x :: y :: a,b,_,hb => by
  have:=joinW_app2 (a:=y :: a) (b:=b) (by simp) hb
  simp only [List.cons_append] at this
  simp only [List.cons_append,joinW,List.append_assoc,this]
theorem okU_ne {u : Bs} (h : OkU u) : u ≠ []:=by
 rintro rfl
 unfold OkU at h
 have e : (match tokS [] with | .ok _ _ _ => false | _ => true) = true:=by rfl
 rw [h] at e
 cases e
theorem docW_ne2 {os : List Oq} {fs : List Fg} {us : List Bs} (h : docW os fs = some us) : us ≠ []:=by
 intro e
 subst e
 obtain ⟨h0,h1⟩:=docW_row h
 cases hl : (os.map Sum.inl ++ fs.map Sum.inr : List (Oq ⊕ Fg)) with
 | nil => exact h0 hl
 | cons x xs =>
  rw [hl] at h1
  obtain ⟨a,b,h2,h3,h4⟩:=andW_some h1
  have ha : a = []:=(List.append_eq_nil_iff.1 h4.symm).1
  subst ha
  have:=item_first x [] [eofT 0] [eofT 0] h2 ⟨[],rfl,rfl⟩
  simp [isP] at this
theorem many_sz : ∀ {us : List Bs},(∀ u ∈ us,u ≠ []) → 2 * us.length ≤ szW us
 | [],_ => by simp
 | x :: us,h => by
  have h1:=many_sz (us:=us) fun u hu => h u (.tail _ hu)
  have h2 : 0 < x.length:=List.length_pos_iff.2 (h x (.head _))
  simp only [List.length_cons,szW]
  omega
theorem docW_ops {os : List Oq} {us : List Bs} (h : docW os [] = some us) : os ≠ [] ∧ rowW opW os = some us:=by
 unfold docW at h
 split at h
 ·cases h
 ·rename_i hn
  refine ⟨fun e => hn (by simp [e]),?_⟩
  rw [rowW,andW_nilR] at h
  exact h
theorem docW_frags {fs : List Fg} {us : List Bs} (h : docW [] fs = some us) : fs ≠ [] ∧ rowW fragW fs = some us:=by
 unfold docW at h
 split at h
 ·cases h
 ·rename_i hn
  refine ⟨fun e => hn (by simp [e]),?_⟩
  rw [rowW,andW_nil] at h
  exact h
theorem short_two {a b : List Bs} (ha : a ≠ []) (hb : b ≠ []) (h : ∀ u ∈ a ++ b,OkU u) (hl : (joinW a).length + (joinW b).length < 4000) : Short (a ++ b) ∧ joinW (a ++ b) = joinW a ++ 32 :: joinW b:=by
 have e:=joinW_app2 ha hb
 have hl2 : (joinW (a ++ b)).length < 4001:=by
  rw [e,List.length_append,List.length_cons]
  omega
 have h1:=joinW_len (a ++ b) (by simp [ha])
 have h2:=many_sz (us:=a ++ b) fun u hu => okU_ne (h u hu)
 exact ⟨⟨by omega,by omega⟩,e⟩
theorem joins_ops {a b : List Oq} {s t : Bs} (h1 : printP a [] = some s) (h2 : printP b [] = some t) (hl : s.length + t.length < 4000) : printP (a ++ b) [] = some (s ++ 32 :: t):=by
 obtain ⟨us,hd1,_,g1,rfl⟩:=printP_some.1 h1
 obtain ⟨vs,hd2,_,g2,rfl⟩:=printP_some.1 h2
 obtain ⟨n1,r1⟩:=docW_ops hd1
 obtain ⟨n2,r2⟩:=docW_ops hd2
 have hd : docW (a ++ b) [] = some (us ++ vs):=by
  unfold docW
  rw [if_neg (by simp [n1]),rowW_app,r1,r2,rowW]
  simp [andW]
 obtain ⟨S,e⟩:=short_two (docW_ne2 hd1) (docW_ne2 hd2) (docU _ _ _ hd) hl
 refine printP_some.2 ⟨_,hd,S,?_,e.symm⟩
 simp only [goodDoc,List.all_append,Bool.and_eq_true] at g1 g2 ⊢
 exact ⟨⟨g1.1,g2.1⟩,g1.2⟩
theorem joins_all {a : List Oq} {fs : List Fg} {s t : Bs} (h1 : printP a [] = some s) (h2 : printP [] fs = some t) (hl : s.length + t.length < 4000) : printP a fs = some (s ++ 32 :: t):=by
 obtain ⟨us,hd1,_,g1,rfl⟩:=printP_some.1 h1
 obtain ⟨vs,hd2,_,g2,rfl⟩:=printP_some.1 h2
 obtain ⟨n1,r1⟩:=docW_ops hd1
 obtain ⟨n2,r2⟩:=docW_frags hd2
 have hd : docW a fs = some (us ++ vs):=by
  unfold docW
  rw [if_neg (by simp [n1]),r1,r2]
  simp [andW]
 obtain ⟨S,e⟩:=short_two (docW_ne2 hd1) (docW_ne2 hd2) (docU _ _ _ hd) hl
 refine printP_some.2 ⟨_,hd,S,?_,e.symm⟩
 simp only [goodDoc,Bool.and_eq_true] at g1 g2 ⊢
 exact ⟨g1.1,g2.2⟩
end Go.Proofs.YtgmlbjfgfmfliaaGreatDoor
namespace Go.Proofs.YtgmlbjfgfmfliaaGreatDoor
open Go Go.RowKit Go.Shelf
theorem add_at (b o j : Nat) : (⟨b,o,none⟩ : Addr).add j = ⟨b,o + j,none⟩:=by
 unfold Addr.add
 split <;> simp_all
/-- Where a row that came in lies. -/
def Src (w : World) (u : Value) (m : Nat) (news : List Value) : Prop:=(u = .slice none 0 0 ∧ m = 0 ∧ news = []) ∨ ∃ ad cp,u = .slice (some ad) m cp ∧ ∀ k v,news[k]? = some v → w.cell? (ad.add k) = some v
theorem Src.on {w w' : World} {u : Value} {m : Nat} {news : List Value} (h : Src w u m news) (hb : Below w.heap.size w w') : Src w' u m news:=by
 rcases h with h | ⟨ad,cp,h1,h2⟩
 ·exact Or.inl h
 ·exact Or.inr ⟨ad,cp,h1,fun k v hk => (hb.cell (World.block_lt_of_cell? w _ (h2 k v hk))).trans (h2 k v hk)⟩
section
variable {ops : Array Oper} {o : Oper} {a : Act} {K : Act → World → Prop} {Q : Exit → Act → World → Prop} {E' : Prop}
/-- A row appended to a row that the call owns. -/
theorem step_row (w : World) (hgd : o.guard = none) (sl x : Operand) (t : TypeId)
  (ho : o.op = .call { callee:=.builtin .append,args:=#[sl,x],argTypes:=#[t,t] })
  (base : Nat) (e : TypeId) (i : TypeInfo) (z : Value) (size bytes : Nat) (ht : Tryz.prog.underlying t = some (.slice e)) (hi : Tryz.prog.info? e = some i) (hz : i.zero = some z)
  (hsize : i.size = size) (hby : i.bytes = bytes) (hzs : z.cells.size = size) (hsz : 0 < size)
  (q cap n : Nat) (xs : List Value) (hs : a.eval sl = .slice (some ⟨q,0,none⟩) n cap) (hown : w.ownsRow base e size (.slice (some ⟨q,0,none⟩) n cap) n xs)
  (u : Value) (hx : a.eval x = u) (m : Nat) (news : List Value) (hu : Src w u m news) (hnl : news.length = m * size) (h1 : ∀ u ∈ news,u.oneCell' = true)
  (h63 : n + m ≤ maxLen) (hbytes : (n + m) * bytes ≤ 140737488355328) (hbase : base ≤ w.heap.size)
  (h : ∀ g cap' w',w'.ownsRow base e size (.slice (some ⟨g,0,none⟩) (n + m) cap') (n + m) (xs ++ news) → w.grownBy w' (some q) → (g = q ∨ g = w.heap.size) → K (a.put o.dst (.slice (some ⟨g,0,none⟩) (n + m) cap')) w') :
  if Region.wanted o (yielded ops a.tmps) = true then Oper.wp Tryz.prog o a w K Q else E':=by
 have hw : Region.wanted o (yielded ops a.tmps) = true:=by simp [Region.wanted,hgd]
 have hself : w.grownBy w (some q):=⟨rfl,rfl,rfl,Nat.le_refl _,fun _ _ _ => rfl⟩
 rw [if_pos hw]
 rcases hu with ⟨rfl,rfl,rfl⟩ | ⟨ad,cp,rfl,hnews⟩
 ·have hk:=h q cap w (by simpa using hown) hself (Or.inl rfl)
  simp only [Nat.add_zero] at hk
  have hrun:=run_append_owned_none (P:=Tryz.prog) (w:=w) base t o.type e i size ht hi _ n xs hown
  unfold Oper.wp
  simp [execOp,ho,resolve,invoke,builtin,hs,hx,hrun,Result.andThen]
  exact hk
 ·obtain ⟨v',w',hr,g1,g2,g3,g4⟩:=run_append_own_at (P:=Tryz.prog) w base t o.type e i z size bytes ht hi hz hsize hby hzs hsz _ n xs hown ad m cp _ hnl hnews h1 h63 hbytes hbase
  have hne : v' ≠ .slice none 0 0:=fun e => by have:=(g3.1 e).1;cases this
  rcases g1.2 with ⟨e1,_⟩ | ⟨g,cap',_,e1,_⟩
  ·exact absurd e1 hne
  ·subst e1
   unfold Oper.wp execOp
   simp only [ho,resolve,invoke,builtin,Sem.run_bind,Sem.run_pure,Result.andThen_ok,List.map_toArray,List.map_cons,List.map_nil,hs,hx,hr]
   refine h g cap' w' g1 g2 ?_
   rcases g4 with g4 | g4
   ·left
    simpa [Value.ownBlock] using g4
   ·right
    simpa [Value.ownBlock] using g4
end
theorem op_one {w : World} {D : Nat → Prop} {x : Oq} {y : CT} {u : Value} (hy : y ∈ ctO x) (h : Bt w D y u) : u.oneCell' = true:=by
 have hy2 : y ∈ [iC x.k,sC x.n,rowC 99 9 (x.vs.map ctX),rowC 102 2 (x.ds.map ctD),rowC 48 7 (x.ss.map ctS)]:=hy
 simp only [List.mem_cons,List.not_mem_nil,or_false] at hy2
 have hr : ∀ {E sz : Nat} {els : List (List CT)},Bt w D (rowC E sz els) u → u.oneCell' = true:=fun {E sz els} g => by
  generalize hC : rowC E sz els = C at g
  cases g with
  | lf v => cases hC
  | row _ _ _ _ _ _ => rfl
 rcases hy2 with rfl | rfl | rfl | rfl | rfl
 ·rw [h.inv_lf];rfl
 ·rw [h.inv_lf];rfl
 ·exact hr h
 ·exact hr h
 ·exact hr h
/-- The cells of a row of operations that came in. -/
theorem ops_cells {w : World} {D : Nat → Prop} {v : Value} {os : List Oq} (h : OsAt w D v os) (nn : Nn v) : (∃ a c,v = .slice a os.length c) ∧ ∃ us : List Value,us.length = os.length * 5 ∧ Bts w D (os.map ctO).flatten us ∧ (∀ u ∈ us,u.oneCell' = true) ∧ Src w v os.length us:=by
 have h' : Bt w D (rowC 51 5 (os.map ctO)) v:=h
 generalize hC : rowC 51 5 (os.map ctO) = C at h'
 cases h' with
 | lf v => cases hC
 | @row E' sz' n' b o cp a' ys us hn hll ha hc hy =>
  simp only [rowC,CT.rw.injEq] at hC
  obtain ⟨_,rfl,rfl,rfl⟩:=hC
  have e : (os.map ctO).length = os.length:=by simp
  rw [e] at hll hc ha nn hn ⊢
  have hB : Bts w D (os.map ctO).flatten ((List.range (os.length * 5)).map us):=by
   refine ⟨by simp only [List.length_map,List.length_range];exact hll,fun j y u h1 h2 => ?_⟩
   have hj : j < os.length * 5:=by
    have:=(List.getElem?_eq_some_iff.1 h1).1
    omega
   have hu : u = us j:=by
    simp [hj] at h2
    exact h2.symm
   subst hu
   exact hy j y h1
  refine ⟨⟨_,_,rfl⟩,(List.range (os.length * 5)).map us,by simp,hB,fun u hu => ?_,?_⟩
  ·obtain ⟨j,hj⟩:=List.mem_iff_getElem?.1 hu
   have hjl : j < (os.map ctO).flatten.length:=by
    have:=(List.getElem?_eq_some_iff.1 hj).1
    rw [hB.len]
    exact this
   obtain ⟨y,hyj⟩ : ∃ y,(os.map ctO).flatten[j]? = some y:=⟨_,List.getElem?_eq_getElem hjl⟩
   obtain ⟨cs,hcs,hycs⟩:=List.mem_flatten.1 (List.mem_of_getElem? hyj)
   obtain ⟨x,_,rfl⟩:=List.mem_map.1 hcs
   exact op_one hycs (hB.all j y u hyj hj)
  ·rcases nn with e0 | ⟨ad,m,c',e0⟩
   ·simp only [Value.slice.injEq] at e0
    obtain ⟨rfl,e1,rfl⟩:=e0
    exact Or.inl ⟨by rw [e1],e1,by rw [e1];rfl⟩
   ·simp only [Value.slice.injEq] at e0
    obtain ⟨rfl,rfl,rfl⟩:=e0
    refine Or.inr ⟨ad,cp,rfl,fun k v hk => ?_⟩
    have hkl : k < os.length * 5:=by
     have:=(List.getElem?_eq_some_iff.1 hk).1
     simpa using this
    have hv : v = us k:=by
     simp [hkl] at hk
     exact hk.symm
    subst hv
    obtain ⟨e1,_⟩:=ha (by omega)
    obtain rfl:=Option.some.inj e1
    rw [add_at]
    exact hc k hkl
/-- A row of operations that a call owns. -/
theorem ops_own {w' : World} {B n : Nat} {v : Value} {us : List Value} {os : List Oq} (h : w'.ownsRow B 51 5 v n us) (hB : Bts w' (fun k => k < w'.heap.size) (os.map ctO).flatten us) (hn : n = os.length) : OsAt w' (fun k => k < w'.heap.size) v os:=by
 subst hn
 rcases h.2 with ⟨rfl,h0⟩ | ⟨g,cap,cur,rfl,_,hg,hnc,hm,hs,ht⟩
 ·have e : os = []:=List.length_eq_zero_iff.1 h0
  subst e
  exact none_at ..
 ·have e1 : (os.map ctO).length = os.length:=by simp
  show Bt w' _ (.rw 51 5 (os.map ctO).length (os.map ctO).flatten) _
  rw [e1]
  have hl : us.length = os.length * 5:=h.1
  refine .row (b:=g) (o:=0) (fun j => (us[j]?).getD (.bool true)) hnc (by rw [hB.len,hl]) (fun _ => ⟨rfl,lt_of_block hg⟩) (fun j hj => ?_) (fun j y hy => ?_)
  ·obtain ⟨x,hj2⟩ : ∃ x,us[j]? = some x:=⟨_,List.getElem?_eq_getElem (by omega)⟩
   rw [hj2]
   have hj3:=hj2
   rw [← ht,List.getElem?_take,if_pos hj] at hj3
   unfold World.cell?
   rw [hg]
   simp only [Nat.zero_add,Option.getD_some]
   rw [← Array.getElem?_toList]
   exact hj3
  ·have hj : j < us.length:=by
    have:=(List.getElem?_eq_some_iff.1 hy).1
    rw [hB.len] at this
    exact this
   have hj2 : us[j]? = some us[j]:=List.getElem?_eq_getElem hj
   have:=hB.all j y _ hy hj2
   simp only [hj2,Option.getD_some]
   exact this
/-- Two rows of operations, the one behind the other, in a row that the call owns. -/
theorem ops_two {w w' : World} {B n : Nat} {v : Value} {us vs : List Value} {os os' : List Oq} (h : w'.ownsRow B 51 5 v n (us ++ vs)) (hU : Bts w (fun k => k < w.heap.size) (os.map ctO).flatten us) (hV : Bts w (fun k => k < w.heap.size) (os'.map ctO).flatten vs) (hb : Below w.heap.size w w') (hn : n = os.length + os'.length) : OsAt w' (fun k => k < w'.heap.size) v (os ++ os'):=by
 have hD : ∀ k,k < w.heap.size → k < w'.heap.size:=fun k hk => Nat.lt_of_lt_of_le hk hb.size
 refine ops_own h ?_ (by rw [List.length_append];exact hn)
 rw [List.map_append,List.flatten_append]
 exact bts_app (hV.up hb hD) (hU.up hb hD)
/-- What is told, as one case. -/
theorem PrntP.one {w : World} {r : Option Bs} {e : Ending} {w' : World} (h : PrntP w r e w') : ∃ (t : Bs) (k : Int),e = .returned (.tuple #[.string ⟨t.toArray⟩,.int .i64 k]) ∧ Hid (r = none ∧ t = [] ∧ k = 70 ∨ r = some t ∧ k = 0) ∧ Below w.heap.size w w':=by
 obtain ⟨h1,h2⟩:=h
 cases r with
 | none => exact ⟨[],70,h1,Or.inl ⟨rfl,rfl,rfl⟩,h2⟩
 | some t => exact ⟨t,0,h1,Or.inr ⟨rfl,rfl⟩,h2⟩
end Go.Proofs.YtgmlbjfgfmfliaaGreatDoor
namespace Go.Proofs.YtgmlbjfgfmfliaaGreatDoor
open Go Go.RowKit Go.Shelf
theorem info_parts {i : Option TypeInfo} {z : Value} {s b : Nat} (h : i.map (fun i => (i.zero,i.size,i.bytes)) = some (some z,s,b)) : ∃ x,i = some x ∧ x.zero = some z ∧ x.size = s ∧ x.bytes = b:=by
 cases i with
 | none => cases h
 | some x =>
  simp only [Option.map_some,Option.some.injEq,Prod.mk.injEq] at h
  exact ⟨x,rfl,h.1,h.2.1,h.2.2⟩
theorem below_grew {n : Nat} {w W w8 : World} {ob : Option Nat} (h : Below n w W) (g : W.grownBy w8 ob) (hn : n ≤ W.heap.size) (ho : ∀ k,ob = some k → n ≤ k) : Below n w w8 :=
 ⟨g.os.trans h.os,g.tape.trans h.tape,g.output.trans h.output,Nat.le_trans h.size g.size,fun k hk => (g.block k (by omega) (fun e => by have:=ho k e.symm;omega)).trans (h.block k hk)⟩
theorem own_blk {w : World} {B E sz n : Nat} {v : Value} {xs : List Value} (h : w.ownsRow B E sz v n xs) {q : Nat} (hq : v.ownBlock = some q) : B ≤ q ∧ q < w.heap.size:=by
 rcases h.2 with ⟨rfl,_⟩ | ⟨q',cp,cur,hv,hb,hg,_⟩
 ·cases hq
 ·rw [hv] at hq
  have e : q' = q:=by simpa [Value.ownBlock] using hq
  subst e
  exact ⟨hb,lt_of_block hg⟩
theorem own_none {W : World} {q B : Nat} (hB : B ≤ q) (h : W.heap[q]? = some (.cells #[] 51)) : W.ownsRow B 51 5 (.slice (some ⟨q,0,none⟩) 0 0) 0 []:=⟨rfl,Or.inr ⟨q,0,#[],rfl,hB,h,Nat.le_refl _,Nat.zero_le _,rfl,rfl⟩⟩
/-- What Print tells: its text, its number. -/
def tX (r : Option Bs) : Bs:=r.getD []
def kX (r : Option Bs) : Int:=if r.isSome then 0 else 70
theorem PrntP.ret {w : World} {r : Option Bs} {e : Ending} {w' : World} (h : PrntP w r e w') : e = .returned (.tuple #[.string ⟨(tX r).toArray⟩,.int .i64 (kX r)]) ∧ Below w.heap.size w w':=by
 obtain ⟨h1,h2⟩:=h
 cases r <;> exact ⟨h1,h2⟩
theorem join_text (a b : Bs) : ((⟨a.toArray⟩ : ByteArray) ++ ⟨#[32]⟩ ++ ⟨b.toArray⟩).toList = a ++ 32 :: b:=by
 have h1 : (⟨#[32]⟩ : ByteArray) = ⟨([32] : Bs).toArray⟩:=rfl
 rw [h1,cat_mk,cat_mk,ByteArray.toList_eq]
 simp
/-- What is asked of the five answers. -/
def Cs (t1 t2 t3 t4 t5 : Bs) (k1 k2 k3 k4 k5 : Int) : Prop:=¬ k1 = 0 ∨ (k1 = 0 ∧ t1.length ≤ 16384 ∧ (¬ k2 = 0 ∨ (k2 = 0 ∧ t2.length ≤ 16384 ∧ 4000 ≤ t1.length + t2.length) ∨ (k2 = 0 ∧ t2.length ≤ 16384 ∧ t1.length + t2.length < 4000 ∧ k4 = 0 ∧ t4 = t1 ++ 32 :: t2)) ∧ (¬ k3 = 0 ∨ (k3 = 0 ∧ t3.length ≤ 16384 ∧ 4000 ≤ t1.length + t3.length) ∨ (k3 = 0 ∧ t3.length ≤ 16384 ∧ t1.length + t3.length < 4000 ∧ k5 = 0 ∧ t5 = t1 ++ 32 :: t3)))
/-- A call of Print tells this. -/
abbrev PrT (d : Value) (W : World) (t : Bs) (k : Int) : Prop:=Calls Tryz.prog 9 #[d] W fun e w' => e = .returned (.tuple #[.string ⟨t.toArray⟩,.int .i64 k]) ∧ Below W.heap.size W w'
theorem old_new {w : World} {o : Obj} {i : Nat} {x : Obj} (h : w.heap[i]? = some x) : (w.alloc o).heap[i]? = some x:=by
 rw [(al1 w o).block i (lt_of_block h)]
 exact h
theorem al2J (w : World) (o o' : Obj) : Below w.heap.size w ((w.alloc o).alloc o'):=(al1 w o).alloc (by simp) _
theorem two_cells {w : World} {a b c d : Value} {T : Nat} : let w0:=(w.alloc (.cells #[a,b] T (0,0))).alloc (.cells #[c,d] T (0,0));w0.cell? ⟨w.heap.size,0,none⟩ = some a ∧ w0.cell? ⟨w.heap.size,1,none⟩ = some b ∧ w0.cell? ⟨w.heap.size + 1,0,none⟩ = some c ∧ w0.cell? ⟨w.heap.size + 1,1,none⟩ = some d:=by
 intro w0
 have h1 : w0.heap[w.heap.size]? = some (.cells #[a,b] T (0,0)):=old_new (heap_alloc_new w _)
 have h2 : w0.heap[w.heap.size + 1]? = some (.cells #[c,d] T (0,0)):=by
  have:=heap_alloc_new (w.alloc (.cells #[a,b] T (0,0))) (.cells #[c,d] T (0,0))
  rw [World.size_alloc] at this
  exact this
 obtain ⟨x0,x1,_⟩:=row2 h1
 obtain ⟨y0,y1,_⟩:=row2 h2
 exact ⟨x0,x1,y0,y1⟩
set_option maxRecDepth 100000 in
set_option maxHeartbeats 16000000 in
theorem joins_core {w : World} {A C : List Oq} {p1 p2 p3 p4 : Option Addr} {c1 n2 c2 c3 n4 c4 : Nat} {us vs : List Value} {t1 t2 t3 t4 t5 : Bs} {k1 k2 k3 k4 k5 : Int}
  (lu : us.length = A.length * 5) (hU : Bts w (fun k => k < w.heap.size) (A.map ctO).flatten us) (oU : ∀ u ∈ us,u.oneCell' = true) (sU : Src w (.slice p1 A.length c1) A.length us)
  (lv : vs.length = C.length * 5) (hV : Bts w (fun k => k < w.heap.size) (C.map ctO).flatten vs) (oV : ∀ u ∈ vs,u.oneCell' = true) (sV : Src w (.slice p3 C.length c3) C.length vs)
  (zA : A.length ≤ 1048576) (zC : C.length ≤ 1048576)
  (K1 : ∀ W,Ok7 w W → PrT (.agg #[.slice p1 A.length c1,.slice none 0 0]) W t1 k1)
  (K2 : ∀ W,Ok7 w W → PrT (.agg #[.slice p3 C.length c3,.slice none 0 0]) W t2 k2)
  (K3 : ∀ W,Ok7 w W → PrT (.agg #[.slice none 0 0,.slice p2 n2 c2]) W t3 k3)
  (K4 : ∀ W g c,Ok7 w W → OsAt W (fun k => k < W.heap.size) (.slice (some ⟨g,0,none⟩) (A.length + C.length) c) (A ++ C) → PrT (.agg #[.slice (some ⟨g,0,none⟩) (A.length + C.length) c,.slice none 0 0]) W t4 k4)
  (K5 : ∀ W,Ok7 w W → PrT (.agg #[.slice p1 A.length c1,.slice p2 n2 c2]) W t5 k5)
  (H : Hid (Cs t1 t2 t3 t4 t5 k1 k2 k3 k4 k5))
  (gl : Gl w) (tz : Tz w) : Calls Tryz.prog 8 #[.agg #[.slice p1 A.length c1,.slice p2 n2 c2],.agg #[.slice p3 C.length c3,.slice p4 n4 c4]] w fun e w' => e = .returned (.bool true) ∧ Below w.heap.size w w':=by
 obtain ⟨w0,hw0⟩ : ∃ w0,w0 = (w.alloc (.cells #[.slice p1 A.length c1,.slice p2 n2 c2] 25)).alloc (.cells #[.slice p3 C.length c3,.slice p4 n4 c4] 25):=⟨_,rfl⟩
 have b0 : Below w.heap.size w w0:=by rw [hw0];exact al2J w _ _
 have ok0 : Ok7 w w0:=⟨b0,gl.below b0 (Nat.le_refl _),tz.below b0 (Nat.le_refl _)⟩
 obtain ⟨x0,y0,u0,v0⟩ : w0.cell? ⟨w.heap.size,0,none⟩ = some (.slice p1 A.length c1) ∧ w0.cell? ⟨w.heap.size,1,none⟩ = some (.slice p2 n2 c2) ∧ w0.cell? ⟨w.heap.size + 1,0,none⟩ = some (.slice p3 C.length c3) ∧ w0.cell? ⟨w.heap.size + 1,1,none⟩ = some (.slice p4 n4 c4):=by rw [hw0];exact two_cells
 obtain ⟨ti,hti,hy0,hy1,hy2⟩:=info_parts Tryz.infoOp
 have K10:=K1 w0 ok0
 have hz0 : w0.heap.size = w.heap.size + 2:=by rw [hw0];simp
 go_enter Tryz.func8,Tryz.ntmps8
 go_upto_region 4 with (first
  | (go_at_call 9;(with_reducible refine Calls.mono (K3 _ ok2) ?_);rintro e w3 ⟨rfl,b3⟩;have ok3:=ok2.next b3;have x3:=cell_on b3 x2;have y3:=cell_on b3 y2;have u3:=cell_on b3 u2;have v3:=cell_on b3 v2)
  | (go_at_call 9;(with_reducible refine Calls.mono (K2 _ ok1) ?_);rintro e w2 ⟨rfl,b2⟩;have ok2:=ok1.next b2;have x2:=cell_on b2 x1;have y2:=cell_on b2 y1;have u2:=cell_on b2 u1;have v2:=cell_on b2 v1)
  | (go_at_call 9;rw [← hw0];(with_reducible refine Calls.mono K10 ?_);rintro e w1 ⟨rfl,b1⟩;have ok1:=ok0.next b1;have x1:=cell_on b1 x0;have y1:=cell_on b1 y0;have u1:=cell_on b1 u0;have v1:=cell_on b1 v0)
  | fail)
 have R3 : Below w3.heap.size w3 w3:=Below.refl _ _
 have DE : ∀ {W : World},Below w3.heap.size w3 W → Below w3.heap.size w3 W.drew:=fun b => ⟨b.os,b.tape,b.output,b.size,b.block⟩
 have AL : ∀ {W : World} {o : Obj},Below w3.heap.size w3 W → Below w3.heap.size w3 (W.alloc o):=fun b => b.alloc b.size _
 have S1 : ∀ {W : World},Below w3.heap.size w3 W → Src W (.slice p1 A.length c1) A.length us:=fun b => sU.on (ok3.next b).bel
 have S2 : ∀ {W : World},Below w3.heap.size w3 W → Src W (.slice p3 C.length c3) C.length vs:=fun b => sV.on (ok3.next b).bel
 clear K1 K2 K3 K10 x0 y0 u0 v0 x1 y1 u1 v1 x2 y2 u2 v2 b0 b1 b2 b3 hz0 hw0 ok0 ok1 ok2
 have xa:=cell_on (al1 w3 (.cells #[] 51)) x3
 have ua:=cell_on (al1 w3 (.cells #[] 51)) u3
 go_cut [11,12] from 36 to 47 (fun s11 s12 wx => s11 = .string ⟨t4.toArray⟩ ∧ s12 = .int .i64 k4 ∧ Ok7 w wx ∧ wx.cell? ⟨w.heap.size,0,none⟩ = some (.slice p1 A.length c1) ∧ wx.cell? ⟨w.heap.size,1,none⟩ = some (.slice p2 n2 c2))
 case first =>
  go_region_law (first
   | (refine step_row _ (by rfl) (.tmp 40) (.tmp 42) 22 (by rfl) w3.heap.size 51 ti _ 5 96 Tryz.underlying22 hti hy0 hy1 hy2 rfl (by decide) g1 cp1 A.length us (by rfl) W1.out (.slice p3 C.length c3) (by rfl) C.length vs (S2 Y1) lv oV (by unfold maxLen;omega) (by omega) Y1.size ?_;intro g2 cp2 w5 own2 gr2 hg2;have Y2:=below_grew Y1 gr2 Y1.size (fun k e => by have e' : g1 = k:=Option.some.inj e;have:=(own_blk W1.out (q:=g1) rfl).1;omega);have x5:=cell_on Y2 x3;have y5:=cell_on Y2 y3;have u5:=cell_on Y2 u3;have v5:=cell_on Y2 v3;have HO5 : Hid (OsAt w5 (fun k => k < w5.heap.size) (.slice (some ⟨g2,0,none⟩) (A.length + C.length) cp2) (A ++ C)):=ops_two own2 hU hV (ok3.next Y2).bel rfl;clear own2 gr2 hg2)
   | (refine step_row _ (by rfl) (.tmp 37) (.tmp 39) 22 (by rfl) w3.heap.size 51 ti _ 5 96 Tryz.underlying22 hti hy0 hy1 hy2 rfl (by decide) w3.heap.size 0 0 [] (by rfl) (own_none (Nat.le_refl _) (heap_alloc_new w3 (.cells #[] 51))) (.slice p1 A.length c1) (by rfl) A.length us (S1 (DE (AL R3))) lu oU (by unfold maxLen;omega) (by omega) (AL R3).size ?_;intro g1 cp1 w4 own1 gr1 hg1;simp only [Nat.zero_add,List.nil_append] at own1 ⊢;have Y1:=below_grew (DE (AL R3)) gr1 (AL R3).size (fun k e => by have e' : w3.heap.size = k:=Option.some.inj e;omega);have x4:=cell_on Y1 x3;have y4:=cell_on Y1 y3;have u4:=cell_on Y1 u3;have v4:=cell_on Y1 v3;have W1 : Hid (w4.ownsRow w3.heap.size 51 5 (.slice (some ⟨g1,0,none⟩) A.length cp1) A.length us):=own1;clear own1 gr1 hg1)
   | (go_simp;go_wp2_with (first | (go_at_call 9;(with_reducible refine Calls.mono (K4 w5 g2 cp2 (ok3.next Y2) HO5.out) ?_);rintro e w6 ⟨rfl,b6⟩;have ok6:=(ok3.next Y2).next b6;have x6:=cell_on b6 x5;have y6:=cell_on b6 y5;have u6:=cell_on b6 u5;have v6:=cell_on b6 v5) | fail))
   | fail)
  all_goals
   go_wp2
   go_meet
   exact ⟨rfl,rfl,ok6,x6,y6⟩
 case rest =>
  obtain ⟨rfl,rfl,ok6,x6,y6⟩:=hcut
  obtain ⟨w6,hw6⟩ : ∃ w6,w6 = wc:=⟨_,rfl⟩
  subst hw6
  clear x3 y3 u3 v3 R3 DE AL S1 S2 xa ua K4 sU sV hU hV oU oV
  go_upto_region 8 with (first
   | (go_at_call 11;(with_reducible refine (fixed_any _ ok7.gl ok7.tz).mono ?_);rintro e w8 ⟨rfl,b8⟩;have ok8:=ok7.next b8)
   | (go_at_call 9;(with_reducible refine Calls.mono (K5 _ ok6) ?_);rintro e w7 ⟨rfl,b7⟩;have ok7:=ok6.next b7)
   | fail)
  go_cut [84] from 59 to 83 (fun b wx => b = .bool false ∧ wx = w8)
  case first =>
   rcases H.out with h1 | ⟨rfl,z1,h2,h3⟩
   ·go_wp2
    go_meet
    exact ⟨rfl,rfl⟩
   ·clear H h3
    rcases h2 with h2 | ⟨rfl,z2,l2⟩ | ⟨rfl,z2,l2,rfl,rfl⟩
    ·go_wp2
     go_meet
     exact ⟨rfl,rfl⟩
    ·have f1 : ¬ 9223372036854775807 < t1.length + 1:=by omega
     have f2 : ¬ 9223372036854775807 < t1.length + 1 + t2.length:=by omega
     have f3 : wrap64 ((t1.length : Int) + (t2.length : Int)) = (t1.length : Int) + (t2.length : Int):=by unfold wrap64;omega
     have f4 : ¬ ((t1.length : Int) + (t2.length : Int) < 4000):=by omega
     clear z1 z2 l2
     go_wp2
     go_meet
     exact ⟨rfl,rfl⟩
    ·have f1 : ¬ 9223372036854775807 < t1.length + 1:=by omega
     have f2 : ¬ 9223372036854775807 < t1.length + 1 + t2.length:=by omega
     have f3 : wrap64 ((t1.length : Int) + (t2.length : Int)) = (t1.length : Int) + (t2.length : Int):=by unfold wrap64;omega
     have f4 : ((t1.length : Int) + (t2.length : Int) < 4000):=by omega
     have e2 : (t1 ++ 32 :: t2 == ((⟨t1.toArray⟩ : ByteArray) ++ ⟨#[32]⟩ ++ ⟨t2.toArray⟩).toList) = true:=by rw [join_text,beq_self_eq_true]
     clear z1 z2 l2
     go_wp2
     go_meet
     exact ⟨rfl,rfl⟩
  case rest =>
   obtain ⟨rfl,rfl⟩:=hcut
   rcases H.out with h1 | ⟨rfl,z1,h2,h3⟩
   ·go_wp2
    go_ret
    exact ⟨rfl,ok8.bel⟩
   ·clear H h2
    rcases h3 with h3 | ⟨rfl,z3,l3⟩ | ⟨rfl,z3,l3,rfl,rfl⟩
    ·go_wp2
     go_ret
     exact ⟨rfl,ok8.bel⟩
    ·have f1 : ¬ 9223372036854775807 < t1.length + 1:=by omega
     have f2 : ¬ 9223372036854775807 < t1.length + 1 + t3.length:=by omega
     have f3 : wrap64 ((t1.length : Int) + (t3.length : Int)) = (t1.length : Int) + (t3.length : Int):=by unfold wrap64;omega
     have f4 : ¬ ((t1.length : Int) + (t3.length : Int) < 4000):=by omega
     clear z1 z3 l3
     go_wp2
     go_ret
     exact ⟨rfl,ok8.bel⟩
    ·have f1 : ¬ 9223372036854775807 < t1.length + 1:=by omega
     have f2 : ¬ 9223372036854775807 < t1.length + 1 + t3.length:=by omega
     have f3 : wrap64 ((t1.length : Int) + (t3.length : Int)) = (t1.length : Int) + (t3.length : Int):=by unfold wrap64;omega
     have f4 : ((t1.length : Int) + (t3.length : Int) < 4000):=by omega
     clear z1 z3 l3
     go_wp2
     go_ret
     refine ⟨?_,ok8.bel⟩
     show Ending.returned (.bool (decide ((4000 : Int) ≤ (t1.length : Int) + (t3.length : Int)) || (t1 ++ 32 :: t3 == ((⟨t1.toArray⟩ : ByteArray) ++ ⟨#[32]⟩ ++ ⟨t3.toArray⟩).toList))) = _
     rw [join_text,beq_self_eq_true,Bool.or_true]
theorem print_short {os : List Oq} {fs : List Fg} {t : Bs} (h : printP os fs = some t) : t.length ≤ 16384:=by
 obtain ⟨us,_,S,_,rfl⟩:=printP_some.1 h
 exact S.2
theorem joins_cs (A : List Oq) (F : List Fg) (C : List Oq) : Cs (tX (printP A [])) (tX (printP C [])) (tX (printP [] F)) (tX (printP (A ++ C) [])) (tX (printP A F)) (kX (printP A [])) (kX (printP C [])) (kX (printP [] F)) (kX (printP (A ++ C) [])) (kX (printP A F)):=by
 unfold Cs
 cases h1 : printP A [] with
 | none => exact Or.inl (by show ¬ (70 : Int) = 0;decide)
 | some s =>
  have z1:=print_short h1
  refine Or.inr ⟨rfl,z1,?_,?_⟩
  ·cases h2 : printP C [] with
   | none => exact Or.inl (by show ¬ (70 : Int) = 0;decide)
   | some t =>
    have z2:=print_short h2
    by_cases hl : s.length + t.length < 4000
    ·have h4:=joins_ops h1 h2 hl
     refine Or.inr (Or.inr ⟨rfl,z2,hl,?_,?_⟩)
     ·rw [h4];rfl
     ·rw [h4];rfl
    ·exact Or.inr (Or.inl ⟨rfl,z2,Nat.le_of_not_lt hl⟩)
  ·cases h2 : printP [] F with
   | none => exact Or.inl (by show ¬ (70 : Int) = 0;decide)
   | some t =>
    have z2:=print_short h2
    by_cases hl : s.length + t.length < 4000
    ·have h4:=joins_all h1 h2 hl
     refine Or.inr (Or.inr ⟨rfl,z2,hl,?_,?_⟩)
     ·rw [h4];rfl
     ·rw [h4];rfl
    ·exact Or.inr (Or.inl ⟨rfl,z2,Nat.le_of_not_lt hl⟩)
theorem joins_any {w : World} (A : List Oq) (F : List Fg) (C : List Oq) (G : List Fg) (oa fa ob fb : Value) (hA : OsAt w (fun k => k < w.heap.size) oa A ∧ (A.length ≤ rwM ∧ A.length ≤ 1048576 ∧ Nn oa) ∧ ∀ x ∈ A,OqL x) (hF : FsAt w (fun k => k < w.heap.size) fa F ∧ (F.length ≤ rwM ∧ F.length ≤ 1048576 ∧ Nn fa) ∧ ∀ x ∈ F,FgL x) (hC : OsAt w (fun k => k < w.heap.size) ob C ∧ (C.length ≤ rwM ∧ C.length ≤ 1048576 ∧ Nn ob) ∧ ∀ x ∈ C,OqL x) (hG : FsAt w (fun k => k < w.heap.size) fb G ∧ (G.length ≤ rwM ∧ G.length ≤ 1048576 ∧ Nn fb) ∧ ∀ x ∈ G,FgL x) (gl : Gl w) (tz : Tz w) : Calls Tryz.prog 8 #[.agg #[oa,fa],.agg #[ob,fb]] w fun e w' => e = .returned (.bool true) ∧ Below w.heap.size w w':=by
 obtain ⟨hA1,⟨a1,a2,a3⟩,hA2⟩:=hA
 obtain ⟨hF1,⟨f1,_,_⟩,hF2⟩:=hF
 obtain ⟨hC1,⟨c1,c2,c3⟩,hC2⟩:=hC
 obtain ⟨⟨p1,q1,rfl⟩,us,lu,hU,oU,sU⟩:=ops_cells hA1 a3
 obtain ⟨⟨p3,q3,rfl⟩,vs,lv,hV,oV,sV⟩:=ops_cells hC1 c3
 obtain ⟨p2,q2,rfl⟩:=row_sl hF1
 obtain ⟨p4,q4,rfl⟩:=row_sl hG.1
 have e0 : ∀ x ∈ ([] : List Oq),OqL x:=fun x hx => by cases hx
 have e1 : ∀ x ∈ ([] : List Fg),FgL x:=fun x hx => by cases hx
 refine joins_core lu hU oU sU lv hV oV sV a2 c2 (fun W ok => ?_) (fun W ok => ?_) (fun W ok => ?_) (fun W g c ok hO => ?_) (fun W ok => ?_) (joins_cs A F C) gl tz
 ·exact Calls.mono (print_any A [] p1 none _ q1 0 0 (hA1.next ok.bel) (none_at ..) ⟨a1,by decide,hA2,e1⟩ ok.gl ok.tz) fun _ _ h => PrntP.ret (r:=printP A []) h
 ·exact Calls.mono (print_any C [] p3 none _ q3 0 0 (hC1.next ok.bel) (none_at ..) ⟨c1,by decide,hC2,e1⟩ ok.gl ok.tz) fun _ _ h => PrntP.ret (r:=printP C []) h
 ·exact Calls.mono (print_any [] F none p2 0 0 _ q2 (none_at ..) (hF1.next ok.bel) ⟨by decide,f1,e0,hF2⟩ ok.gl ok.tz) fun _ _ h => PrntP.ret (r:=printP [] F) h
 ·have hz : (A ++ C).length ≤ rwM:=by
   have h2 : (2097152 : Nat) ≤ rwM:=by decide
   rw [List.length_append]
   omega
  exact Calls.mono (print_any (A ++ C) [] (some ⟨g,0,none⟩) none _ c 0 0 hO (none_at ..) ⟨hz,by decide,fun x hx => (List.mem_append.1 hx).elim (hA2 x) (hC2 x),e1⟩ ok.gl ok.tz) fun _ _ h => PrntP.ret (r:=printP (A ++ C) []) h
 ·exact Calls.mono (print_any A F p1 p2 _ q1 _ q2 (hA1.next ok.bel) (hF1.next ok.bel) ⟨a1,f1,hA2,hF2⟩ ok.gl ok.tz) fun _ _ h => PrntP.ret (r:=printP A F) h
end Go.Proofs.YtgmlbjfgfmfliaaGreatDoor
namespace Go.Proofs.YtgmlbjfgfmfliaaGreatDoor
open Go.ChangeShapes Go.WideShapes Go.ChangeAt Go.RowKit
open Go.ChangeMaps (open_string shut_string)
theorem Tryz.own : ownKnob Tryz.prog.godebug = none:=by kernel_rfl
theorem Tryz.laidOut : laidOutB Tryz.prog = true:=by kernel_rfl
theorem laid_met (os : Os) : laidMet Tryz.prog listed ((World.laidAll Tryz.prog os listed).forCall (fun _ _ => 0) ⟨#[],#[.agg #[.slice none 0 0,.slice none 0 0],.agg #[.slice none 0 0,.slice none 0 0]],[]⟩).memory :=
 laidMet_laidAll _ (by kernel_rfl) (by kernel_rfl)
theorem reads (os : Os) {H : Type} (enc : TypeId × Value → H) : ∃ places,DataW.whole enc Tryz.prog ((World.laidAll Tryz.prog os listed).forCall (fun _ _ => 0) ⟨#[],#[.agg #[.slice none 0 0,.slice none 0 0],.agg #[.slice none 0 0,.slice none 0 0]],[]⟩).memory Tryz.f8.params.toList Rows.printJoinsSpec.vars false #[Value.agg #[.slice none 0 0,.slice none 0 0],.agg #[.slice none 0 0,.slice none 0 0]].toList 8 = some ([.agg [.nil,.nil],.agg [.nil,.nil]],[],places) :=
 ⟨[],by kernel_rfl⟩
set_option maxRecDepth 100000 in
theorem printJoins_lifted (os : Os) (started : os.Started) (H : Type) (enc : TypeId × Value → H) (F : Stop.Interp) :
  ReturnsInHanded {} Tryz.checked os 8 .any ((Rows.OpenSpec.upto Rows.printJoinsSpec).preRow enc Tryz.prog Tryz.f8 Rows.printJoinsUptoRow.domain false Rows.printJoinsUptoRow.laid) (((Rows.OpenSpec.upto Rows.printJoinsSpec).at F).post enc Tryz.prog Tryz.f8 false true false false):=by
 obtain ⟨places,hx⟩:=reads os enc
 refine returnsInHanded_of_row (C:=Tryz.checked) (s:=Rows.OpenSpec.upto Rows.printJoinsSpec) Tryz.own started (by kernel_rfl) Tryz.func8
  (witness_row_at (enc:=enc) (C:=Tryz.checked) false (World.laidAll Tryz.prog os listed) #[.agg #[.slice none 0 0,.slice none 0 0],.agg #[.slice none 0 0,.slice none 0 0]] (World.laidAll_os _ _ _) (by kernel_rfl) (by kernel_rfl) (by kernel_rfl)
   (OpenSpec.preRow_of_cond 8 hx (by kernel_rfl) (fun k hk => by cases hk;kernel_rfl) (by kernel_rfl) (laid_met os))) ?_
 intro W base args ds gs before hval0 hW _ hcond _ hL hsh _
 have hval : ∀ (j : Nat) t v,Tryz.f8.params[j]? = some t → args[j]? = some v → Value.okWide Tryz.prog W .any base t v:=hval0
 have hW':=hW
 obtain ⟨p,q,hA0,hV,rfl,hfz,hnd⟩:=hW
 have hA : DataW.TrodAll enc Tryz.prog W 0 (fun _ => true) true Tryz.f8.params.toList args.toList ds p:=hA0
 rw [Tryz.params8] at hA hval
 obtain ⟨v0,vs0,d0,ds0,p0,q0,hargs,rfl,rfl,h0,r0⟩:=trodAll_cons hA
 obtain ⟨v1,vs1,d1,ds1,p1,q1,rfl,rfl,rfl,h1,r1⟩:=trodAll_cons r0
 obtain ⟨rfl,rfl,rfl⟩:=trodAll_nil r1
 obtain rfl : args = #[v0,v1]:=by cases args;simp_all
 obtain ⟨rfl,rfl⟩:=trodVars_none hV
 have hk:=hcond _ rfl
 have hk2 : Rows.uptoBulkAll [d0,d1] ≤ 1048576:=of_decide_eq_true hk
 simp only [Rows.uptoBulkAll] at hk2
 have wu0 : Wu d0:=by show Rows.uptoBulk d0 ≤ 1048576;omega
 obtain ⟨c0,rfl,_⟩:=okWide_struct Tryz.underlying25 (hval 0 25 v0 rfl rfl)
 have k0:=h0
 have lt0 : ∀ x ∈ p0,x.block < W.heap.size:=by obtain ⟨m,hm⟩:=k0;exact DataW.trod_lt m _ _ _ hm
 obtain ⟨o0,f0,os0,fs0,hc0,hO0,hF0⟩ : ∃ (o f : Value) (os : List Oq) (fs : List Fg),(Value.agg c0).cells.toList = [o,f] ∧ (OsAt W (fun k => k < W.heap.size) o os ∧ (os.length ≤ rwM ∧ os.length ≤ 1048576 ∧ Nn o) ∧ ∀ x ∈ os,OqL x) ∧ (FsAt W (fun k => k < W.heap.size) f fs ∧ (fs.length ≤ rwM ∧ fs.length ≤ 1048576 ∧ Nn f) ∧ ∀ x ∈ fs,FgL x):=by
  obtain ⟨fuel,hf⟩:=h0
  exact open_docU hf wu0
 obtain rfl : c0 = #[o0,f0]:=Array.toList_inj.1 hc0
 have wu1 : Wu d1:=by show Rows.uptoBulk d1 ≤ 1048576;omega
 obtain ⟨c1,rfl,_⟩:=okWide_struct Tryz.underlying25 (hval 1 25 v1 rfl rfl)
 have k1:=h1
 have lt1 : ∀ x ∈ p1,x.block < W.heap.size:=by obtain ⟨m,hm⟩:=k1;exact DataW.trod_lt m _ _ _ hm
 obtain ⟨o1,f1,os1,fs1,hc1,hO1,hF1⟩ : ∃ (o f : Value) (os : List Oq) (fs : List Fg),(Value.agg c1).cells.toList = [o,f] ∧ (OsAt W (fun k => k < W.heap.size) o os ∧ (os.length ≤ rwM ∧ os.length ≤ 1048576 ∧ Nn o) ∧ ∀ x ∈ os,OqL x) ∧ (FsAt W (fun k => k < W.heap.size) f fs ∧ (fs.length ≤ rwM ∧ fs.length ≤ 1048576 ∧ Nn f) ∧ ∀ x ∈ fs,FgL x):=by
  obtain ⟨fuel,hf⟩:=h1
  exact open_docU hf wu1
 obtain rfl : c1 = #[o1,f1]:=Array.toList_inj.1 hc1
 have hL2 : laidMetH Tryz.prog listed W:=hL
 rw [MakeChecks.laidMetH_plain _ _ _ (by kernel_rfl)] at hL2
 have gl:=gl_laid hL2 hsh
 clear hA0 hval0 hk hk2 hcond hL hL2
 have wk:=joins_any os0 fs0 os1 fs1 o0 f0 o1 f1 hO0 hF0 hO1 hF1 gl.1 gl.2
 refine wk.mono fun e W' ⟨he,bel⟩ => ?_
 subst he
 exact ⟨_,rfl,_,_,_,[],_,[],hW',trodAll_mk1 (shut_bool Tryz.underlying4 _),(trodAll_cons_mk (Below.trod Tryz.laidOut (by kernel_rfl) (of_decide_eq_true (by kernel_rfl)) k0 bel lt0) (trodAll_cons_mk (Below.trod Tryz.laidOut (by kernel_rfl) (of_decide_eq_true (by kernel_rfl)) k1 bel lt1) trodAll_mk0)),rfl,bel.frame _,fun h => by cases h⟩
theorem printJoins_row : Rows.PrintJoinsUptoSaid :=
 OpenClaim.holds_of_cond 8 Tryz.f8 rfl rfl rfl rfl rfl rfl rfl ⟨rfl,rfl,rfl,rfl,rfl⟩ rfl rfl rfl rfl rfl (by kernel_rfl) Tryz.func8 (by kernel_rfl)
  (of_decide_eq_true (by kernel_rfl)) (by unfold Func.isWrapper;first | (rw [if_pos (by decide +kernel)];kernel_rfl) | (rw [if_neg (by decide +kernel)];exact ⟨rfl,rfl⟩))
  (fun os started H enc _ F => by rw [OpenClaim.pre_eq_preRow];exact printJoins_lifted os started H enc F)
theorem printJoins_holds : Rows.PrintJoinsUptoCardSaid :=
 Claim7.holds_tied_plain_at .later [] _ _ _ _ printJoins_row (fun _ h => by cases h) (by kernel_rfl) (fun _ h => by cases h) printJoinsUpto_row_tie rfl ⟨rfl,rfl⟩ (by kernel_rfl) rfl
  (fun f fn hf hfn => by
   obtain rfl : f = 8:=Option.some.inj ((show Tryz.prog.funcNamed "rhizome/rhizomelaw07.PrintJoins" = some 8 by kernel_rfl).symm.trans hf) |>.symm
   obtain rfl : fn = Tryz.f8:=(Option.some.inj (Tryz.func8.symm.trans hfn)).symm
   exact ⟨by kernel_rfl,fun j t ht => by
    rw [Tryz.params8] at ht
    have hm : t ∈ [25]:=by simpa using Array.mem_of_getElem? ht
    have hall : ([25].all fun u => !Tryz.prog.wantsStandIn u) = true:=by kernel_rfl
    exact (show Tryz.prog.wantsStandIn t = false by simpa using List.all_eq_true.1 hall t hm)⟩)
  (by kernel_rfl)
#print axioms printJoins_holds
end Go.Proofs.YtgmlbjfgfmfliaaGreatDoor
