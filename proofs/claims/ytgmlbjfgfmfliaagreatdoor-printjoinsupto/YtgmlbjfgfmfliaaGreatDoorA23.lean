/- The writer of documents: values. -/
import Derived.Test.YtgmlbjfgfmfliaaGreatDoorA22
import Derived.Test.YtgmlbjfgfmfliaaGreatDoorB7
import Derived.Deep.RegionLawGrows
namespace Go.Proofs.YtgmlbjfgfmfliaaGreatDoor
open Go Go.RowKit Go.Shelf
abbrev VsAt (w : World) (D : Nat → Prop) (v : Value) (l : List Vl) : Prop:=Bt w D (rowC 35 4 (l.map ctV)) v
abbrev NsAt (w : World) (D : Nat → Prop) (v : Value) (l : List Bs) : Prop:=Bt w D (rowC 9 1 (l.map fun s => [sC s])) v
abbrev AsAt (w : World) (D : Nat → Prop) (v : Value) (l : List Ar) : Prop:=Bt w D (rowC 43 5 (l.map ctA)) v
abbrev DsAt (w : World) (D : Nat → Prop) (v : Value) (l : List Dr) : Prop:=Bt w D (rowC 102 2 (l.map ctD)) v
abbrev SsAt (w : World) (D : Nat → Prop) (v : Value) (l : List Se) : Prop:=Bt w D (rowC 48 7 (l.map ctS)) v
theorem row_sl {α : Type} {w : World} {D : Nat → Prop} {E sz : Nat} {ct : α → List CT} {l : List α} {u : Value} (h : Bt w D (rowC E sz (l.map ct)) u) : ∃ a cp,u = .slice a l.length cp:=by
 generalize hC : rowC E sz (l.map ct) = C at h
 cases h with
 | lf v => cases hC
 | row us hn hl ha hc hy =>
  simp only [rowC,CT.rw.injEq] at hC
  obtain ⟨_,rfl,rfl,rfl⟩:=hC
  have e : (l.map ct).length = l.length:=List.length_map _
  exact ⟨_,_,by rw [e]⟩
theorem val_cells {w : World} {D : Nat → Prop} {k : Int} {t : Bs} {vs : List Vl} {ns : List Bs} {us : List Value} (h : Bts w D (ctV (.mk k t vs ns)) us) : ∃ a c a' c',us = [.int .i64 k,.string ⟨t.toArray⟩,.slice a vs.length c,.slice a' ns.length c'] ∧ VsAt w D (.slice a vs.length c) vs ∧ NsAt w D (.slice a' ns.length c') ns:=by
 rw [ctV,ctVs_map] at h
 obtain ⟨_,_,rfl,h0,h⟩:=Bts.inv h
 obtain ⟨_,_,rfl,h1,h⟩:=Bts.inv h
 obtain ⟨_,_,rfl,h2,h⟩:=Bts.inv h
 obtain ⟨_,_,rfl,h3,h⟩:=Bts.inv h
 obtain rfl:=h.inv0
 obtain rfl:=h0.inv_lf
 obtain rfl:=h1.inv_lf
 obtain ⟨a,c,rfl⟩:=row_sl h2
 obtain ⟨a',c',rfl⟩:=row_sl (ct:=fun s => [sC s]) h3
 exact ⟨a,c,a',c',rfl,h2,h3⟩
theorem arg_cells {w : World} {D : Nat → Prop} {x : Ar} {us : List Value} (h : Bts w D (ctA x) us) : ∃ vs,us = .string ⟨x.n.toArray⟩ :: vs ∧ Bts w D (ctV x.v) vs:=by
 unfold ctA at h
 obtain ⟨_,vs,rfl,h0,h2⟩:=Bts.inv h
 obtain rfl:=h0.inv_lf
 exact ⟨vs,rfl,h2⟩
theorem dir_cells {w : World} {D : Nat → Prop} {x : Dr} {us : List Value} (h : Bts w D (ctD x) us) : ∃ a c,us = [.string ⟨x.n.toArray⟩,.slice a x.az.length c] ∧ AsAt w D (.slice a x.az.length c) x.az:=by
 unfold ctD at h
 obtain ⟨_,_,rfl,h0,h⟩:=Bts.inv h
 obtain ⟨_,_,rfl,h1,h⟩:=Bts.inv h
 obtain rfl:=h.inv0
 obtain rfl:=h0.inv_lf
 obtain ⟨a,c,rfl⟩:=row_sl h1
 exact ⟨a,c,rfl,h1⟩
theorem len_sum {a b : Nat} (ha : a ≤ 140737488355328) (hb : b ≤ 140737488355328) : IntKind.i64.wrap ((a : Int) + (b : Int)) = (a : Int) + (b : Int):=by rw [IntKind.wrap_i64];omega
set_option maxRecDepth 100000 in
set_option maxHeartbeats 4000000 in
theorem isZero_any {w : World} {D : Nat → Prop} (d : Vl) (us : List Value) (hB : Bts w D (ctV d) us) (hL : VlL d) : Calls Tryz.prog 193 #[.agg us.toArray] w fun e w' => e = .returned (.bool (isZ d)) ∧ Below w.heap.size w w':=by
 obtain ⟨k,t,vs,ns⟩:=d
 obtain ⟨a,c,a',c',rfl,_,_⟩:=val_cells hB
 obtain ⟨L1,L2,L3,L4,L5⟩:=hL
 have L2' : vs.length ≤ 140737488355328:=L2
 have L3' : ns.length ≤ 140737488355328:=L3
 by_cases h0 : k = 0
 ·subst h0
  by_cases ht : t = []
  ·subst ht
   have hs:=len_sum L2 L3
   by_cases hz : vs.length = 0 ∧ ns.length = 0
   ·obtain ⟨z1,z2⟩:=hz
    have e : isZ (.mk 0 [] vs ns) = true:=by simp [isZ,z1,z2]
    rw [e,z1,z2]
    go_enter Tryz.func193,Tryz.ntmps193
    go_wp2
    go_ret
    exact ⟨rfl,al1 _ _⟩
   ·have e : isZ (.mk 0 [] vs ns) = false:=by
     simp only [isZ,decide_eq_false hz,Bool.and_false]
    have hne : (((vs.length : Nat) : Int) + ((ns.length : Nat) : Int) == 0) = false:=by clear hs;rw [beq_eq_false_iff_ne];omega
    rw [e]
    go_enter Tryz.func193,Tryz.ntmps193
    go_wp2
    go_ret
    exact ⟨rfl,al1 _ _⟩
  ·have e : isZ (.mk 0 t vs ns) = false:=by simp [isZ,ht]
   have hi' : (t == []) = false:=by simpa using ht
   have hi3 : t.isEmpty = false:=by simpa using ht
   rw [e]
   go_enter Tryz.func193,Tryz.ntmps193
   go_wp2
   go_ret
   exact ⟨rfl,al1 _ _⟩
 ·have e : isZ (.mk k t vs ns) = false:=by simp [isZ,h0]
  have l0 : (k == 0) = false:=by simpa using h0
  rw [e]
  go_enter Tryz.func193,Tryz.ntmps193
  go_wp2
  go_ret
  exact ⟨rfl,al1 _ _⟩
set_option maxRecDepth 100000 in
set_option maxHeartbeats 4000000 in
theorem warg_of {V : Nat} {w : World} {ts : List Bs} (fx : Bool) (x : Ar) (us : List Value) (h : Wk V w ts) (hn : x.n.length ≤ txM) (hB : Bts w (fun k => k < V) (ctA x) us) (H : ∀ (W : World) (zs : List Bs) (us : List Value),Wk V W zs → Bts W (fun k => k < V) (ctV x.v) us → Calls Tryz.prog 29 #[wrV V fx,.agg us.toArray] W (OutB V W (valW fx x.v) zs)) : Calls Tryz.prog 93 #[wrV V fx,.agg us.toArray] w (OutB V w (argW fx x) ts):=by
 obtain ⟨vs,rfl,hB2⟩:=arg_cells hB
 obtain ⟨z0,s1,a2,n2,m2,a3,n3,m3,rfl⟩:=cells_Value hB2
 unfold argW
 obtain ⟨w0,hw0⟩ : ∃ w0,w0 = (w.alloc (boxW V fx)).alloc (.cells #[.string ⟨x.n.toArray⟩,.int .i64 z0,.string s1,.slice a2 n2 m2,.slice a3 n3 m3] 43):=⟨_,rfl⟩
 have h0 : Wk V w0 ts:=by rw [hw0];exact (h.al _).al _
 have f0 : FrW V w w0:=by rw [hw0];exact (al1V _).trans (al1V _)
 have hV:=Nat.le_of_lt h.lt
 have hV0:=Nat.le_of_lt h0.lt
 have F0 : FrW V w0 w0:=FrW.refl _ _
 have A : Hid (∀ W,FrW V w0 W → W.heap[w.heap.size]? = some (.cells #[putV V,.bool fx] 56 (0,0)) ∧ W.heap[w.heap.size + 1]? = some (.cells #[.string ⟨x.n.toArray⟩,.int .i64 z0,.string s1,.slice a2 n2 m2,.slice a3 n3 m3] 43 (0,0))):=fun W F => box2 (by rw [← hw0];exact F) h.lt (by decide)
 have hv:=(hB2.frw f0 hV)
 go_enter Tryz.func93,Tryz.ntmps93
 go_wp2_with (first
  | (go_at_call 29;(with_reducible refine (H _ _ _ h2 (hv.frw F2 hV0)).mono ?_);rintro e w3 (⟨hq3,rfl,f3⟩ | ⟨us3,hq3,rfl,h3,f3⟩);(focus (go_wp2;go_ret;exact (OutB.seq hq1 f1 (OutB.seq hq2 f2 (outb_last hq3 f3))).mono0 f0)))
  | (go_at_call 18;(with_reducible refine (put_any [58] h1 (by decide)).mono ?_);rintro e w2 (⟨hq2,rfl,f2⟩ | ⟨us2,hq2,rfl,h2,f2⟩);(focus (go_wp2;go_ret;exact (OutB.seq hq1 f1 (outb_no hq2 f2)).mono0 f0));have F2 : FrW V w0 w2:=F1.trans f2;obtain ⟨P2,Q2⟩:=A.out _ F2;obtain ⟨p20,p21,_⟩:=row2 P2;obtain ⟨q20,q21,q22,q23,q24,_⟩:=row5 Q2)
  | (go_at_call 73;rw [← hw0];(with_reducible refine (wname_any fx x.n h0 hn).mono ?_);rintro e w1 (⟨hq1,rfl,f1⟩ | ⟨us1,hq1,rfl,h1,f1⟩);(focus (go_wp2;go_ret;exact (outb_no hq1 f1).mono0 f0));have F1 : FrW V w0 w1:=F0.trans f1;obtain ⟨P1,Q1⟩:=A.out _ F1;obtain ⟨p10,p11,_⟩:=row2 P1;obtain ⟨q10,q11,q12,q13,q14,_⟩:=row5 Q1)
  | fail)
 go_ret
 exact (OutB.seq hq1 f1 (OutB.seq hq2 f2 (outb_end hq3 h3 f3))).mono0 f0
end Go.Proofs.YtgmlbjfgfmfliaaGreatDoor
namespace Go.Proofs.YtgmlbjfgfmfliaaGreatDoor
open Go Go.RowKit Go.Shelf
abbrev zipA (ns : List Bs) (vs : List Vl) : List Ar:=(ns.zip vs).map fun p => ⟨p.1,p.2⟩
theorem zipA_at {ns : List Bs} {vs : List Vl} {j : Nat} {n : Bs} {v : Vl} (h1 : ns[j]? = some n) (h2 : vs[j]? = some v) : (zipA ns vs)[j]? = some ⟨n,v⟩:=by
 have : (ns.zip vs)[j]? = some (n,v):=List.getElem?_zip_eq_some.2 ⟨h1,h2⟩
 simp [zipA,this]
theorem OutB.one {V : Nat} {w : World} {x : Option (List Bs)} {ts : List Bs} {e : Ending} {w' : World} (h : OutB V w x ts e w') : ∃ b,e = .returned (.bool b) ∧ Hid (OutB V w x ts (.returned (.bool b)) w'):=by
 rcases h with ⟨h1,rfl,h3⟩ | ⟨us,h1,rfl,h3,h4⟩
 ·exact ⟨false,rfl,Or.inl ⟨h1,rfl,h3⟩⟩
 ·exact ⟨true,rfl,Or.inr ⟨us,h1,rfl,h3,h4⟩⟩
theorem OutB.no_of {V : Nat} {w : World} {x : Option (List Bs)} {ts : List Bs} {w' : World} (h : OutB V w x ts (.returned (.bool false)) w') : (∀ us,x = some us → 16385 < szW (ts ++ us)) ∧ FrW V w w':=by
 rcases h with ⟨h1,_,h3⟩ | ⟨us,_,h2,_⟩
 ·exact ⟨h1,h3⟩
 ·cases h2
theorem OutB.yes_of {V : Nat} {w : World} {x : Option (List Bs)} {ts : List Bs} {w' : World} (h : OutB V w x ts (.returned (.bool true)) w') : ∃ us,x = some us ∧ Wk V w' (ts ++ us) ∧ FrW V w w':=by
 rcases h with ⟨_,h2,_⟩ | ⟨us,h1,_,h3,h4⟩
 ·cases h2
 ·exact ⟨us,h1.out,h3,h4⟩
theorem drewB (w : World) : Below w.heap.size w w.drew:=⟨rfl,rfl,rfl,Nat.le_refl _,fun _ _ => rfl⟩
set_option maxRecDepth 100000 in
set_option maxHeartbeats 40000000 in
theorem wmembers_of {V : Nat} {w : World} {ts : List Bs} (fx : Bool) (k : Int) (s : ByteArray) (vs : List Vl) (ns : List Bs) (a : Option Addr) (c : Nat) (a' : Option Addr) (c' : Nat) (h : Wk V w ts) (hn : ns.length = vs.length) (hl : ns.length ≤ rwM) (hnl : ∀ n ∈ ns,n.length ≤ txM) (hv : VsAt w (fun k => k < V) (.slice a vs.length c) vs) (hs : NsAt w (fun k => k < V) (.slice a' ns.length c') ns)
  (H : ∀ v ∈ vs,∀ (W : World) (zs : List Bs) (us : List Value),Wk V W zs → Bts W (fun k => k < V) (ctV v) us → Calls Tryz.prog 29 #[wrV V fx,.agg us.toArray] W (OutB V W (valW fx v) zs)) :
  Calls Tryz.prog 56 #[wrV V fx,.agg #[.int .i64 k,.string s,.slice a vs.length c,.slice a' ns.length c']] w (OutB V w (memsW fx ns vs) ts):=by
 rw [memsW_row]
 have hV:=Nat.le_of_lt h.lt
 have hl' : ns.length ≤ 140737488355328:=hl
 have HN : Hid (ns.length = vs.length):=hn
 clear hn
 obtain ⟨w0,hw0⟩ : ∃ w0,w0 = (w.alloc (boxW V fx)).alloc (.cells #[.int .i64 k,.string s,.slice a vs.length c,.slice a' ns.length c'] 35):=⟨_,rfl⟩
 have h0 : Wk V w0 ts:=by rw [hw0];exact (h.al _).al _
 have f0 : FrW V w w0:=by rw [hw0];exact (al1V _).trans (al1V _)
 have hV0:=Nat.le_of_lt h0.lt
 have A : Hid (∀ W,FrW V w0 W → W.heap[w.heap.size]? = some (.cells #[putV V,.bool fx] 56 (0,0)) ∧ W.heap[w.heap.size + 1]? = some (.cells #[.int .i64 k,.string s,.slice a vs.length c,.slice a' ns.length c'] 35 (0,0))):=fun W F => box2 (by rw [← hw0];exact F) h.lt (by decide)
 obtain ⟨_,_,e1,_,hrv⟩:=brow_at (hv.frw f0 hV) ctV_len
 obtain ⟨_,_,e2,_,hrn⟩:=names_row (hs.frw f0 hV)
 cases e1
 cases e2
 clear hv hs
 go_enter Tryz.func56,Tryz.ntmps56
 go_wp2
 rw [← hw0]
 go_loopw [10] (fun i wr => ∃ (j : Nat) (ys : List Bs),i = .int .i64 (j : Int) ∧ j ≤ ns.length ∧ rowW (argW fx) ((zipA ns vs).take j) = some ys ∧ Wk V wr (ts ++ ys) ∧ FrW V w0 wr) (fun i _ => ns.length - (RowKit.intOf i).toNat)
 case atStart => exact ⟨0,[],rfl,Nat.zero_le _,rfl,by rw [List.append_nil];exact h0,FrW.refl _ _⟩
 case round =>
  obtain ⟨j,ys,rfl,hj,hy,hW,hF⟩:=hrel
  by_cases hlt : j < ns.length
  ·obtain ⟨n,hnj⟩ : ∃ n,ns[j]? = some n:=⟨_,List.getElem?_eq_getElem hlt⟩
   obtain ⟨v,hvj⟩ : ∃ v,vs[j]? = some v:=⟨_,List.getElem?_eq_getElem (by rw [← HN.out];exact hlt)⟩
   obtain ⟨b',o',rfl,hD',cn0⟩:=hrn j n hnj
   obtain ⟨b,o,us,rfl,hD,hus,hBt,hc⟩:=hrv j v hvj
   have hBv:=hBt
   obtain ⟨z0,s1,a2,n2,m2,a3,n3,m3,rfl⟩:=cells_Value hBt
   have cn : wr.cell? ⟨b',o' + j,none⟩ = some (.string ⟨n.toArray⟩):=(cell_keep (hF.blk hV0 hD')).trans cn0
   have c0 : wr.cell? ⟨b,o + j * 4,none⟩ = some (.int .i64 z0):=(cell_keep (hF.blk hV0 hD)).trans (hc 0 _ rfl)
   have c1 : wr.cell? ⟨b,o + j * 4 + 1,none⟩ = some (.string s1):=(cell_keep (hF.blk hV0 hD)).trans (hc 1 _ rfl)
   have c2 : wr.cell? ⟨b,o + j * 4 + 2,none⟩ = some (.slice a2 n2 m2):=(cell_keep (hF.blk hV0 hD)).trans (hc 2 _ rfl)
   have c3 : wr.cell? ⟨b,o + j * 4 + 3,none⟩ = some (.slice a3 n3 m3):=(cell_keep (hF.blk hV0 hD)).trans (hc 3 _ rfl)
   obtain ⟨P,Q⟩:=A.out _ hF
   obtain ⟨p0,p1,_⟩:=row2 P
   obtain ⟨q0,q1,q2,q3,_⟩:=row4 Q
   have hFd : FrW V wr wr.drew:=frw_of (drewB wr)
   have CL : Calls Tryz.prog 93 #[wrV V fx,.agg #[.string ⟨n.toArray⟩,.int .i64 z0,.string s1,.slice a2 n2 m2,.slice a3 n3 m3]] wr.drew (OutB V wr.drew (argW fx ⟨n,v⟩) (ts ++ ys)) :=
    warg_of fx ⟨n,v⟩ _ (hW.on (drewB wr)) (hnl n (List.mem_of_getElem? hnj)) (Bts.cons (.lf _) ((hBv.frw hF hV0).frw hFd (Nat.le_of_lt hW.lt))) (H v (List.mem_of_getElem? hvj))
   have CL2 : Calls Tryz.prog 93 #[wrV V fx,.agg #[.string ⟨n.toArray⟩,.int .i64 z0,.string s1,.slice a2 n2 m2,.slice a3 n3 m3]] wr.drew fun e w' => ∃ b,e = .returned (.bool b) ∧ Hid (OutB V wr.drew (argW fx ⟨n,v⟩) (ts ++ ys) (.returned (.bool b)) w'):=CL.mono fun _ _ h => h.one
   have l1 : ((j : Nat) : Int) < (ns.length : Int):=by omega
   have l1v : ((j : Nat) : Int) < (vs.length : Int):=by rw [← HN.out];exact l1
   have l0 : (0 : Int) ≤ ((j : Nat) : Int):=by omega
   have hjN : ((j : Nat) : Int).toNat = j:=by omega
   have hz : Hid (j + 1 ≤ ns.length):=hlt
   have HX : Hid ((zipA ns vs)[j]? = some ⟨n,v⟩):=zipA_at hnj hvj
   have HY : Hid (rowW (argW fx) ((zipA ns vs).take j) = some ys):=hy
   have HF : Hid (FrW V w wr.drew):=f0.trans (hF.trans hFd)
   have HG : Hid (FrW V w0 wr.drew):=hF.trans hFd
   clear CL hrv hrn hy hlt hBt hBv H hc hnj hvj cn0 hnl P Q hF hFd
   go_wp2
   go_region_law (first
    | (go_simp;go_wp2_with (first | (go_at_call 93;(with_reducible refine CL2.mono ?_);rintro e w2 ⟨bb,rfl,hR⟩) | fail))
    | fail)
   all_goals cases bb with
    | false =>
     obtain ⟨hq,f2⟩:=hR.out.no_of
     go_wp2
     go_ret
     exact outb_last (row_no HY.out HX.out hq) (HF.out.trans f2)
    | true =>
     obtain ⟨us2,hq,h2,f2⟩:=hR.out.yes_of
     go_wp2
     refine ⟨⟨j + 1,ys ++ us2,by simp,hz.out,row_step HY.out HX.out hq,by rw [← List.append_assoc];exact h2,HG.out.trans f2⟩,?_⟩
     have:=hz.out
     simp [RowKit.intOf]
     omega
  ·have l2 : decide (((j : Nat) : Int) < (ns.length : Int)) = false:=by simp;omega
   have l3 : decide (j < ns.length) = false:=by simp;omega
   have hjl : (zipA ns vs).take j = zipA ns vs:=List.take_of_length_le (by simp [zipA];omega)
   rw [hjl] at hy
   have HY : Hid (rowW (argW fx) (zipA ns vs) = some ys):=hy
   clear hrv hrn hlt hj H hy
   go_wp2
   go_ret
   exact outb_end HY hW (f0.trans hF)
end Go.Proofs.YtgmlbjfgfmfliaaGreatDoor
namespace Go.Proofs.YtgmlbjfgfmfliaaGreatDoor
open Go Go.RowKit Go.Shelf
set_option maxRecDepth 100000 in
set_option maxHeartbeats 4000000 in
theorem wvalue_8t {V : Nat} {w : World} {ts : List Bs} (fx : Bool) (t : Bs) (n1 : Nat) (n2 : Nat) (a a' : Option Addr) (c c' : Nat) (ht : t ≠ []) : Calls Tryz.prog 29 #[wrV V fx,.agg #[.int .i64 8,.string ⟨t.toArray⟩,.slice a n1 c,.slice a' n2 c']] w (OutB V w (none) ts):=by
 obtain ⟨w0,hw0⟩ : ∃ w0,w0 = (w.alloc (boxW V fx)).alloc (.cells #[.int .i64 8,.string ⟨t.toArray⟩,.slice a n1 c,.slice a' n2 c'] 35):=⟨_,rfl⟩
 have f0 : FrW V w w0:=by rw [hw0];exact (al1V _).trans (al1V _)
 have hi' : (t == []) = false:=by simpa using ht
 have hi3 : t.isEmpty = false:=by simpa using ht
 go_enter Tryz.func29,Tryz.ntmps29
 go_wp2
 go_ret
 rw [← hw0]
 exact outb_none rfl f0
set_option maxRecDepth 100000 in
set_option maxHeartbeats 4000000 in
theorem wvalue_9t {V : Nat} {w : World} {ts : List Bs} (fx : Bool) (t : Bs) (n1 : Nat) (n2 : Nat) (a a' : Option Addr) (c c' : Nat) (ht : t ≠ []) : Calls Tryz.prog 29 #[wrV V fx,.agg #[.int .i64 9,.string ⟨t.toArray⟩,.slice a n1 c,.slice a' n2 c']] w (OutB V w (none) ts):=by
 obtain ⟨w0,hw0⟩ : ∃ w0,w0 = (w.alloc (boxW V fx)).alloc (.cells #[.int .i64 9,.string ⟨t.toArray⟩,.slice a n1 c,.slice a' n2 c'] 35):=⟨_,rfl⟩
 have f0 : FrW V w w0:=by rw [hw0];exact (al1V _).trans (al1V _)
 have hi' : (t == []) = false:=by simpa using ht
 have hi3 : t.isEmpty = false:=by simpa using ht
 go_enter Tryz.func29,Tryz.ntmps29
 go_wp2
 go_ret
 rw [← hw0]
 exact outb_none rfl f0
set_option maxRecDepth 100000 in
set_option maxHeartbeats 4000000 in
theorem wvalue_8n {V : Nat} {w : World} {ts : List Bs} (fx : Bool) (n1 : Nat) (n2 : Nat) (a a' : Option Addr) (c c' : Nat) (hn : n2 ≠ 0) : Calls Tryz.prog 29 #[wrV V fx,.agg #[.int .i64 8,.string ⟨#[]⟩,.slice a n1 c,.slice a' n2 c']] w (OutB V w (none) ts):=by
 obtain ⟨w0,hw0⟩ : ∃ w0,w0 = (w.alloc (boxW V fx)).alloc (.cells #[.int .i64 8,.string ⟨#[]⟩,.slice a n1 c,.slice a' n2 c'] 35):=⟨_,rfl⟩
 have f0 : FrW V w w0:=by rw [hw0];exact (al1V _).trans (al1V _)
 have l1 : (((n2 : Nat) : Int) == 0) = false:=by rw [beq_eq_false_iff_ne];omega
 go_enter Tryz.func29,Tryz.ntmps29
 go_wp2
 go_ret
 rw [← hw0]
 exact outb_none rfl f0
set_option maxRecDepth 100000 in
set_option maxHeartbeats 4000000 in
theorem wvalue_9n {V : Nat} {w : World} {ts : List Bs} (fx : Bool) (n1 : Nat) (n2 : Nat) (a a' : Option Addr) (c c' : Nat) (hn : n2 ≠ n1) : Calls Tryz.prog 29 #[wrV V fx,.agg #[.int .i64 9,.string ⟨#[]⟩,.slice a n1 c,.slice a' n2 c']] w (OutB V w (none) ts):=by
 obtain ⟨w0,hw0⟩ : ∃ w0,w0 = (w.alloc (boxW V fx)).alloc (.cells #[.int .i64 9,.string ⟨#[]⟩,.slice a n1 c,.slice a' n2 c'] 35):=⟨_,rfl⟩
 have f0 : FrW V w w0:=by rw [hw0];exact (al1V _).trans (al1V _)
 have l1 : (((n2 : Nat) : Int) == ((n1 : Nat) : Int)) = false:=by rw [beq_eq_false_iff_ne];omega
 go_enter Tryz.func29,Tryz.ntmps29
 go_wp2
 go_ret
 rw [← hw0]
 exact outb_none rfl f0
set_option maxRecDepth 100000 in
set_option maxHeartbeats 4000000 in
theorem wvalue_xn {V : Nat} {w : World} {ts : List Bs} (fx : Bool) (k : Int) (t : Bs) (n1 : Nat) (n2 : Nat) (a a' : Option Addr) (c c' : Nat) (h8 : k ≠ 8) (h9 : k ≠ 9) (hn1 : n1 ≤ 140737488355328) (hn2 : n2 ≤ 140737488355328) (hn : ¬ (n1 = 0 ∧ n2 = 0)) : Calls Tryz.prog 29 #[wrV V fx,.agg #[.int .i64 k,.string ⟨t.toArray⟩,.slice a n1 c,.slice a' n2 c']] w (OutB V w (none) ts):=by
 obtain ⟨w0,hw0⟩ : ∃ w0,w0 = (w.alloc (boxW V fx)).alloc (.cells #[.int .i64 k,.string ⟨t.toArray⟩,.slice a n1 c,.slice a' n2 c'] 35):=⟨_,rfl⟩
 have f0 : FrW V w w0:=by rw [hw0];exact (al1V _).trans (al1V _)
 have l8 : (k == 8) = false:=by simpa using h8
 have l9 : (k == 9) = false:=by simpa using h9
 have hne : (((n1 : Nat) : Int) + ((n2 : Nat) : Int) == 0) = false:=by rw [beq_eq_false_iff_ne];omega
 have hs:=len_sum hn1 hn2
 go_enter Tryz.func29,Tryz.ntmps29
 go_wp2
 go_ret
 rw [← hw0]
 exact outb_none rfl f0
set_option maxRecDepth 100000 in
set_option maxHeartbeats 4000000 in
theorem wvalue_x {V : Nat} {w : World} {ts : List Bs} (fx : Bool) (k : Int) (t : Bs) (a a' : Option Addr) (c c' : Nat) (h : Wk V w ts) (h8 : k ≠ 8) (h9 : k ≠ 9) (ht : t.length ≤ txM) : Calls Tryz.prog 29 #[wrV V fx,.agg #[.int .i64 k,.string ⟨t.toArray⟩,.slice a 0 c,.slice a' 0 c']] w (OutB V w (leafW fx k t) ts):=by
 obtain ⟨w0,hw0⟩ : ∃ w0,w0 = (w.alloc (boxW V fx)).alloc (.cells #[.int .i64 k,.string ⟨t.toArray⟩,.slice a 0 c,.slice a' 0 c'] 35):=⟨_,rfl⟩
 have h0 : Wk V w0 ts:=by rw [hw0];exact (h.al _).al _
 have f0 : FrW V w w0:=by rw [hw0];exact (al1V _).trans (al1V _)
 have hV:=Nat.le_of_lt h.lt
 have hV0:=Nat.le_of_lt h0.lt
 have F0 : FrW V w0 w0:=FrW.refl _ _
 have A : Hid (∀ W,FrW V w0 W → W.heap[w.heap.size]? = some (.cells #[putV V,.bool fx] 56 (0,0)) ∧ W.heap[w.heap.size + 1]? = some (.cells #[.int .i64 k,.string ⟨t.toArray⟩,.slice a 0 c,.slice a' 0 c'] 35 (0,0))):=fun W F => box2 (by rw [← hw0];exact F) h.lt (by decide)
 have l8 : (k == 8) = false:=by simpa using h8
 have l9 : (k == 9) = false:=by simpa using h9
 go_enter Tryz.func29,Tryz.ntmps29
 go_wp2_with (first
  | (go_at_call 57;rw [← hw0];(with_reducible refine (wleaf_any fx k t h0 ht).mono ?_);rintro e w1 (⟨hq1,rfl,f1⟩ | ⟨us1,hq1,rfl,h1,f1⟩);(focus (go_wp2;go_ret;exact (outb_last hq1 f1).mono0 f0)))
  | fail)
 go_ret
 exact (outb_end hq1 h1 f1).mono0 f0
set_option maxRecDepth 100000 in
set_option maxHeartbeats 4000000 in
theorem wvalue_8 {V : Nat} {w : World} {ts : List Bs} (fx : Bool) (n1 : Nat) (a a' : Option Addr) (c c' : Nat) (vs : List Vl) (h : Wk V w ts) (hl : vs.length ≤ rwM) (hv : VsAt w (fun k => k < V) (.slice a n1 c) vs) (H : ∀ v ∈ vs,∀ (W : World) (zs : List Bs) (us : List Value),Wk V W zs → Bts W (fun k => k < V) (ctV v) us → Calls Tryz.prog 29 #[wrV V fx,.agg us.toArray] W (OutB V W (valW fx v) zs)) : Calls Tryz.prog 29 #[wrV V fx,.agg #[.int .i64 8,.string ⟨#[]⟩,.slice a n1 c,.slice a' 0 c']] w (OutB V w (inW [91] (rowW (valW fx) vs) [93]) ts):=by
 obtain ⟨w0,hw0⟩ : ∃ w0,w0 = (w.alloc (boxW V fx)).alloc (.cells #[.int .i64 8,.string ⟨#[]⟩,.slice a n1 c,.slice a' 0 c'] 35):=⟨_,rfl⟩
 have h0 : Wk V w0 ts:=by rw [hw0];exact (h.al _).al _
 have f0 : FrW V w w0:=by rw [hw0];exact (al1V _).trans (al1V _)
 have hV:=Nat.le_of_lt h.lt
 have hV0:=Nat.le_of_lt h0.lt
 have F0 : FrW V w0 w0:=FrW.refl _ _
 have A : Hid (∀ W,FrW V w0 W → W.heap[w.heap.size]? = some (.cells #[putV V,.bool fx] 56 (0,0)) ∧ W.heap[w.heap.size + 1]? = some (.cells #[.int .i64 8,.string ⟨#[]⟩,.slice a n1 c,.slice a' 0 c'] 35 (0,0))):=fun W F => box2 (by rw [← hw0];exact F) h.lt (by decide)
 have hv0:=hv.frw f0 hV
 go_enter Tryz.func29,Tryz.ntmps29
 go_wp2_with (first
  | (go_at_call 55;rw [← hw0];(with_reducible refine (within_Value fx (valW fx) vs (.slice a n1 c) [91] [93] h0 hl (by decide) (by decide) hv0 H).mono ?_);rintro e w1 (⟨hq1,rfl,f1⟩ | ⟨us1,hq1,rfl,h1,f1⟩);(focus (go_wp2;go_ret;exact (outb_last hq1 f1).mono0 f0)))
  | fail)
 go_ret
 exact (outb_end hq1 h1 f1).mono0 f0
set_option maxRecDepth 100000 in
set_option maxHeartbeats 4000000 in
theorem wvalue_9 {V : Nat} {w : World} {ts : List Bs} (fx : Bool) (n1 : Nat) (n2 : Nat) (a a' : Option Addr) (c c' : Nat) (vs : List Vl) (ns : List Bs) (h : Wk V w ts) (hn1 : Hid (n1 = vs.length)) (hn2 : Hid (n2 = ns.length)) (hn : Hid (ns.length = vs.length)) (hl : ns.length ≤ rwM) (hnl : ∀ n ∈ ns,n.length ≤ txM) (hv : VsAt w (fun k => k < V) (.slice a n1 c) vs) (hs : NsAt w (fun k => k < V) (.slice a' n2 c') ns) (H : ∀ v ∈ vs,∀ (W : World) (zs : List Bs) (us : List Value),Wk V W zs → Bts W (fun k => k < V) (ctV v) us → Calls Tryz.prog 29 #[wrV V fx,.agg us.toArray] W (OutB V W (valW fx v) zs)) : Calls Tryz.prog 29 #[wrV V fx,.agg #[.int .i64 9,.string ⟨#[]⟩,.slice a n1 c,.slice a' n2 c']] w (OutB V w (inW [123] (memsW fx ns vs) [125]) ts):=by
 unfold inW
 obtain ⟨w0,hw0⟩ : ∃ w0,w0 = (w.alloc (boxW V fx)).alloc (.cells #[.int .i64 9,.string ⟨#[]⟩,.slice a n1 c,.slice a' n2 c'] 35):=⟨_,rfl⟩
 have h0 : Wk V w0 ts:=by rw [hw0];exact (h.al _).al _
 have f0 : FrW V w w0:=by rw [hw0];exact (al1V _).trans (al1V _)
 have hV:=Nat.le_of_lt h.lt
 have hV0:=Nat.le_of_lt h0.lt
 have F0 : FrW V w0 w0:=FrW.refl _ _
 have A : Hid (∀ W,FrW V w0 W → W.heap[w.heap.size]? = some (.cells #[putV V,.bool fx] 56 (0,0)) ∧ W.heap[w.heap.size + 1]? = some (.cells #[.int .i64 9,.string ⟨#[]⟩,.slice a n1 c,.slice a' n2 c'] 35 (0,0))):=fun W F => box2 (by rw [← hw0];exact F) h.lt (by decide)
 have l1 : (((n2 : Nat) : Int) == ((n1 : Nat) : Int)) = true:=by
  rw [hn1.out,hn2.out,hn.out]
  exact beq_self_eq_true _
 have M : ∀ W zs,Wk V W zs → FrW V w0 W → Calls Tryz.prog 56 #[wrV V fx,.agg #[.int .i64 9,.string ⟨#[]⟩,.slice a n1 c,.slice a' n2 c']] W (OutB V W (memsW fx ns vs) zs):=by
  intro W zs hW hF
  have hv0:=(hv.frw f0 hV).frw hF hV0
  have hs0:=(hs.frw f0 hV).frw hF hV0
  rw [hn1.out] at hv0 ⊢
  rw [hn2.out] at hs0 ⊢
  exact wmembers_of fx 9 _ vs ns a c a' c' hW hn.out hl hnl hv0 hs0 H
 go_enter Tryz.func29,Tryz.ntmps29
 go_wp2_with (first
  | (go_at_call 18;(with_reducible refine (put_any [125] h2 (by decide)).mono ?_);rintro e w3 (⟨hq3,rfl,f3⟩ | ⟨us3,hq3,rfl,h3,f3⟩);(focus (go_wp2;go_ret;exact (OutB.seq hq1 f1 (OutB.seq hq2 f2 (outb_last hq3 f3))).mono0 f0)))
  | (go_at_call 56;(with_reducible refine (M _ _ h1 F1).mono ?_);rintro e w2 (⟨hq2,rfl,f2⟩ | ⟨us2,hq2,rfl,h2,f2⟩);(focus (go_wp2;go_ret;exact (OutB.seq hq1 f1 (outb_no hq2 f2)).mono0 f0));have F2 : FrW V w0 w2:=F1.trans f2;obtain ⟨P2,Q2⟩:=A.out _ F2;obtain ⟨p20,p21,_⟩:=row2 P2;obtain ⟨q20,q21,q22,q23,_⟩:=row4 Q2)
  | (go_at_call 18;rw [← hw0];(with_reducible refine (put_any [123] h0 (by decide)).mono ?_);rintro e w1 (⟨hq1,rfl,f1⟩ | ⟨us1,hq1,rfl,h1,f1⟩);(focus (go_wp2;go_ret;exact (outb_no hq1 f1).mono0 f0));have F1 : FrW V w0 w1:=F0.trans f1;obtain ⟨P1,Q1⟩:=A.out _ F1;obtain ⟨p10,p11,_⟩:=row2 P1;obtain ⟨q10,q11,q12,q13,_⟩:=row4 Q1)
  | fail)
 go_ret
 exact (OutB.seq hq1 f1 (OutB.seq hq2 f2 (outb_end hq3 h3 f3))).mono0 f0
theorem wvalue_of {V : Nat} {w : World} {ts : List Bs} (fx : Bool) (k : Int) (t : Bs) (vs : List Vl) (ns : List Bs) (us : List Value) (h : Wk V w ts) (L : VlL (.mk k t vs ns)) (hB : Bts w (fun k => k < V) (ctV (.mk k t vs ns)) us)
  (H : ∀ v ∈ vs,∀ (W : World) (zs : List Bs) (us : List Value),Wk V W zs → Bts W (fun k => k < V) (ctV v) us → Calls Tryz.prog 29 #[wrV V fx,.agg us.toArray] W (OutB V W (valW fx v) zs)) :
  Calls Tryz.prog 29 #[wrV V fx,.agg us.toArray] w (OutB V w (valW fx (.mk k t vs ns)) ts):=by
 obtain ⟨a,c,a',c',rfl,hv,hs⟩:=val_cells hB
 obtain ⟨L1,L2,L3,L4,_⟩:=L
 rw [valW]
 by_cases h8 : k = 8
 ·subst h8
  rw [if_pos rfl]
  by_cases ht : t = []
  ·subst ht
   by_cases hn : ns = []
   ·subst hn
    rw [if_pos ⟨rfl,rfl⟩,valsW_row]
    exact wvalue_8 fx _ a a' c c' vs h L2 hv H
   ·rw [if_neg (fun e => hn e.2)]
    exact wvalue_8n fx _ _ a a' c c' (fun e => hn (List.length_eq_zero_iff.1 e))
  ·rw [if_neg (fun e => ht e.1)]
   exact wvalue_8t fx t _ _ a a' c c' ht
 ·rw [if_neg h8]
  by_cases h9 : k = 9
  ·subst h9
   rw [if_pos rfl]
   by_cases ht : t = []
   ·subst ht
    by_cases hn : ns.length = vs.length
    ·rw [if_pos ⟨rfl,hn⟩]
     exact wvalue_9 fx _ _ a a' c c' vs ns h rfl rfl hn L3 L4 hv hs H
    ·rw [if_neg (fun e => hn e.2)]
     exact wvalue_9n fx _ _ a a' c c' hn
   ·rw [if_neg (fun e => ht e.1)]
    exact wvalue_9t fx t _ _ a a' c c' ht
  ·rw [if_neg h9]
   by_cases hz : vs.length = 0 ∧ ns.length = 0
   ·rw [if_pos hz,hz.1,hz.2]
    exact wvalue_x fx k t a a' c c' h h8 h9 L1
   ·rw [if_neg hz]
    exact wvalue_xn fx k t _ _ a a' c c' h8 h9 L2 L3 hz
theorem wvalue_any (fx : Bool) : ∀ (v : Vl),VlL v → ∀ {V : Nat} (w : World) (ts : List Bs) (us : List Value),Wk V w ts → Bts w (fun k => k < V) (ctV v) us → Calls Tryz.prog 29 #[wrV V fx,.agg us.toArray] w (OutB V w (valW fx v) ts)
 | .mk k t vs ns,L,_,_,_,us,h,hB => wvalue_of fx k t vs ns us h L hB fun v hv W zs us hW hB => wvalue_any fx v (VlsL_all L.2.2.2.2 v hv) W zs us hW hB
 termination_by v => SizeOf.sizeOf v
theorem warg_any {V : Nat} {w : World} {ts : List Bs} (fx : Bool) (x : Ar) (us : List Value) (h : Wk V w ts) (L : ArL x) (hB : Bts w (fun k => k < V) (ctA x) us) : Calls Tryz.prog 93 #[wrV V fx,.agg us.toArray] w (OutB V w (argW fx x) ts) :=
 warg_of fx x us h L.1 hB fun W zs us hW hB => wvalue_any fx x.v L.2 W zs us hW hB
end Go.Proofs.YtgmlbjfgfmfliaaGreatDoor
