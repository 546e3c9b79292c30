/- The writer of documents: selections whatever they are, operations, fragments, the whole. -/
import Derived.Test.YtgmlbjfgfmfliaaGreatDoorB8
import Derived.Test.YtgmlbjfgfmfliaaGreatDoorA24
import Derived.Laws.EntriesVeiled
namespace Go.Proofs.YtgmlbjfgfmfliaaGreatDoor
open Go Go.RowKit Go.Shelf
set_option maxRecDepth 100000 in
set_option maxHeartbeats 4000000 in
theorem wref_0 {V : Nat} {w : World} {ts : List Bs} (fx : Bool) (t : Bs) (h : Wk V w ts) (ht : t.length ≤ txM) : Calls Tryz.prog 164 #[wrV V fx,.agg #[.string ⟨t.toArray⟩,.string ⟨#[]⟩]] w (OutB V w (nameW t) ts):=by
 obtain ⟨w0,hw0⟩ : ∃ w0,w0 = (w.alloc (boxW V fx)).alloc (.cells #[.string ⟨t.toArray⟩,.string ⟨#[]⟩] 97):=⟨_,rfl⟩
 have h0 : Wk V w0 ts:=by rw [hw0];exact (h.al _).al _
 have f0 : FrW V w w0:=by rw [hw0];exact (al1V _).trans (al1V _)
 have hV:=Nat.le_of_lt h.lt
 have hV0:=Nat.le_of_lt h0.lt
 have F0 : FrW V w0 w0:=FrW.refl _ _
 have A : Hid (∀ W,FrW V w0 W → W.heap[w.heap.size]? = some (.cells #[putV V,.bool fx] 56 (0,0)) ∧ W.heap[w.heap.size + 1]? = some (.cells #[.string ⟨t.toArray⟩,.string ⟨#[]⟩] 97 (0,0))):=fun W F => box2 (by rw [← hw0];exact F) h.lt (by decide)
 go_enter Tryz.func164,Tryz.ntmps164
 go_wp2_with (first
  | (go_at_call 73;rw [← hw0];(with_reducible refine (wname_any fx t h0 ht).mono ?_);rintro e w1 (⟨hq1,rfl,f1⟩ | ⟨us1,hq1,rfl,h1,f1⟩);(focus (go_wp2;go_ret;exact (outb_last hq1 f1).mono0 f0)))
  | fail)
 go_ret
 exact (outb_end hq1 h1 f1).mono0 f0
theorem rev_at (l : Bs) (j : Nat) (c : UInt8) (h : l[j]? = some c) (q : j < (ByteArray.mk l.toArray).size) : ((ByteArray.mk l.toArray)[j]'q).toNat = c.toNat:=by
 have hj : j < l.length:=(List.getElem?_eq_some_iff.1 h).1
 have e : l[j] = c:=(List.getElem?_eq_some_iff.1 h).2
 show (l.toArray[j]).toNat = _
 rw [List.getElem_toArray,e]
theorem rev_cut (r : Bs) (c : UInt8) : (ByteArray.mk (c :: r).reverse.toArray).extract 0 r.length = ⟨r.reverse.toArray⟩:=by
 apply ByteArray.ext
 apply Array.toList_inj.1
 simp
theorem rev_last (r : Bs) (c : UInt8) : ((c :: r).reverse)[r.length]? = some c:=by simp
theorem rev_prev (r : Bs) (c d : UInt8) : ((c :: d :: r).reverse)[r.length]? = some d:=by
 rw [List.reverse_cons,List.getElem?_append_left (by simp)]
 exact rev_last r d
theorem c_ne {c : UInt8} {n : UInt8} (h : c ≠ n) : c.toNat ≠ n.toNat:=fun e => h (UInt8.toNat_inj.1 e)
theorem wref_any (fx : Bool) (t : Bs) (ht : t.length ≤ txM) : ∀ (r : Bs),r.length ≤ txM → ∀ {V : Nat} (w : World) (ts : List Bs),Wk V w ts → Calls Tryz.prog 164 #[wrV V fx,.agg #[.string ⟨t.toArray⟩,.string ⟨r.reverse.toArray⟩]] w (OutB V w (refW t r) ts)
 | [],_,_,_,_,h => wref_0 fx t h ht
 | c :: r,hr,V,w,ts,h => by
  have hm : r.length ≤ txM:=Nat.le_trans (Nat.le_succ _) hr
  have hD : (ByteArray.mk (c :: r).reverse.toArray).size = r.length + 1:=by
   show (c :: r).reverse.toArray.size = _
   simp
  have H : ∀ (W : World) (zs : List Bs),Wk V W zs → Calls Tryz.prog 164 #[wrV V fx,.agg #[.string ⟨t.toArray⟩,.string ⟨r.reverse.toArray⟩]] W (OutB V W (refW t r) zs):=fun W zs hW => wref_any fx t ht r hm W zs hW
  have C:=rev_at (c :: r).reverse r.length c (rev_last r c)
  rw [refW_cons]
  by_cases h91 : c = 91
  ·subst h91
   rw [if_pos rfl]
   exact wref_91 fx t _ _ r.length h hm hD (rev_cut r _) (fun q => C q) r H
  ·rw [if_neg h91]
   by_cases h33 : c = 33
   ·subst h33
    rw [if_pos rfl]
    match r,hm,hD,H,C with
    | [],hm,hD,H,C =>
     rw [if_neg (by simp)]
     exact wref_33z fx t _ _ 0 h hm hD (rev_cut [] _) (fun q => C q) rfl [] H
    | d :: r',hm,hD,H,C =>
     have C2:=rev_at (33 :: d :: r').reverse r'.length d (rev_prev r' 33 d)
     by_cases hd : d = 33
     ·subst hd
      rw [if_pos (show (33 :: r' : Bs).head? = some 33 from rfl)]
      exact wref_33n fx t _ _ (r'.length + 1) h hm hD (rev_cut (33 :: r') _) (fun q => C q) (Nat.succ_pos _) (fun q => C2 q)
     ·rw [if_neg (by simpa using hd)]
      exact wref_33y fx t _ _ (r'.length + 1) h hm hD (rev_cut (d :: r') _) (fun q => C q) (Nat.succ_pos _) (fun q => by
       have e : ((ByteArray.mk (33 :: d :: r').reverse.toArray)[r'.length]'q).toNat = d.toNat:=C2 q
       intro e2
       exact c_ne hd (e.symm.trans e2)) (d :: r') H
   ·rw [if_neg h33]
    exact wref_x fx t _ _ r.length h hm hD (rev_cut r _) (fun q => ⟨fun e => c_ne h91 ((C q).symm.trans e),fun e => c_ne h33 ((C q).symm.trans e)⟩)
theorem var_cells {w : World} {D : Nat → Prop} {x : Va} {us : List Value} (h : Bts w D (ctX x) us) : ∃ z0 s1 a2 n2 m2 a3 n3 m3 a c,us = [.string ⟨x.n.toArray⟩,.string ⟨x.t.toArray⟩,.string ⟨x.x.toArray⟩,.bool x.h,.int .i64 z0,.string s1,.slice a2 n2 m2,.slice a3 n3 m3,.slice a x.ds.length c] ∧ Bts w D (ctV x.d) [.int .i64 z0,.string s1,.slice a2 n2 m2,.slice a3 n3 m3] ∧ DsAt w D (.slice a x.ds.length c) x.ds:=by
 obtain ⟨n,t,x,hb,⟨k,t2,vs,ns⟩,ds⟩:=x
 unfold ctX at h
 obtain ⟨_,_,rfl,h0,g0⟩:=Bts.inv h
 obtain ⟨_,_,rfl,h1,g1⟩:=Bts.inv g0
 obtain ⟨_,_,rfl,h2,g2⟩:=Bts.inv g1
 obtain ⟨_,_,rfl,h3,g3⟩:=Bts.inv g2
 have g3' : Bts w D (ctV (.mk k t2 vs ns) ++ [rowC 102 2 (ds.map ctD)]) _:=g3
 rw [ctV,ctVs_map] at g3'
 obtain ⟨_,_,rfl,h4,g4⟩:=Bts.inv g3'
 obtain ⟨_,_,rfl,h5,g5⟩:=Bts.inv g4
 obtain ⟨_,_,rfl,h6,g6⟩:=Bts.inv g5
 obtain ⟨_,_,rfl,h7,g7⟩:=Bts.inv g6
 obtain ⟨_,_,rfl,h8,g8⟩:=Bts.inv g7
 obtain rfl:=g8.inv0
 obtain rfl:=h0.inv_lf
 obtain rfl:=h1.inv_lf
 obtain rfl:=h2.inv_lf
 obtain rfl:=h3.inv_lf
 obtain rfl:=h4.inv_lf
 obtain rfl:=h5.inv_lf
 obtain ⟨a2,n2,m2,rfl⟩:=h6.inv_rw
 obtain ⟨a3,n3,m3,rfl⟩:=h7.inv_rw
 obtain ⟨a,c,rfl⟩:=row_sl h8
 refine ⟨_,_,_,_,_,_,_,_,_,_,rfl,?_,h8⟩
 show Bts w D (ctV (.mk k t2 vs ns)) _
 rw [ctV,ctVs_map]
 exact Bts.cons h4 (Bts.cons h5 (Bts.cons h6 (Bts.cons h7 Bts.nil)))
theorem wdefault_any {V : Nat} {w : World} {ts : List Bs} (x : Va) (z0 : Int) (s1 : ByteArray) (a2 : Option Addr) (n2 m2 : Nat) (a3 : Option Addr) (n3 m3 : Nat) (a : Option Addr) (n c : Nat) (h : Wk V w ts) (L : VaL x) (hv : Bts w (fun k => k < V) (ctV x.d) [.int .i64 z0,.string s1,.slice a2 n2 m2,.slice a3 n3 m3]) : Calls Tryz.prog 165 #[wrV V true,.agg #[.string ⟨x.n.toArray⟩,.string ⟨x.t.toArray⟩,.string ⟨x.x.toArray⟩,.bool x.h,.int .i64 z0,.string s1,.slice a2 n2 m2,.slice a3 n3 m3,.slice a n c]] w (OutB V w (defW x) ts):=by
 unfold defW
 cases hh : x.h with
 | true =>
  rw [if_pos rfl]
  exact wdefault_1 true x z0 s1 a2 n2 m2 a3 n3 m3 a n c h L hv
 | false =>
  rw [if_neg (by simp)]
  exact wdefault_0 true x z0 s1 a2 n2 m2 a3 n3 m3 a n c h L hv
set_option maxRecDepth 100000 in
set_option maxHeartbeats 4000000 in
theorem wvarDef_of {V : Nat} {w : World} {ts : List Bs} (x : Va) (z0 : Int) (s1 : ByteArray) (a2 : Option Addr) (n2 m2 : Nat) (a3 : Option Addr) (n3 m3 : Nat) (a : Option Addr) (n c : Nat) (h : Wk V w ts) (L : VaL x) (hv : Bts w (fun k => k < V) (ctV x.d) [.int .i64 z0,.string s1,.slice a2 n2 m2,.slice a3 n3 m3]) (hd : DsAt w (fun k => k < V) (.slice a n c) x.ds) : Calls Tryz.prog 116 #[wrV V true,.agg #[.string ⟨x.n.toArray⟩,.string ⟨x.t.toArray⟩,.string ⟨x.x.toArray⟩,.bool x.h,.int .i64 z0,.string s1,.slice a2 n2 m2,.slice a3 n3 m3,.slice a n c]] w (OutB V w (varDefW x) ts):=by
 unfold varDefW
 obtain ⟨w0,hw0⟩ : ∃ w0,w0 = (w.alloc (boxW V true)).alloc (.cells #[.string ⟨x.n.toArray⟩,.string ⟨x.t.toArray⟩,.string ⟨x.x.toArray⟩,.bool x.h,.int .i64 z0,.string s1,.slice a2 n2 m2,.slice a3 n3 m3,.slice a n c] 99):=⟨_,rfl⟩
 have h0 : Wk V w0 ts:=by rw [hw0];exact (h.al _).al _
 have f0 : FrW V w w0:=by rw [hw0];exact (al1V _).trans (al1V _)
 have hV:=Nat.le_of_lt h.lt
 have hV0:=Nat.le_of_lt h0.lt
 have F0 : FrW V w0 w0:=FrW.refl _ _
 have A : Hid (∀ W,FrW V w0 W → W.heap[w.heap.size]? = some (.cells #[putV V,.bool true] 56 (0,0)) ∧ W.heap[w.heap.size + 1]? = some (.cells #[.string ⟨x.n.toArray⟩,.string ⟨x.t.toArray⟩,.string ⟨x.x.toArray⟩,.bool x.h,.int .i64 z0,.string s1,.slice a2 n2 m2,.slice a3 n3 m3,.slice a n c] 99 (0,0))):=fun W F => box2 (by rw [← hw0];exact F) h.lt (by decide)
 have hv0:=hv.frw f0 hV
 have hd0:=hd.frw f0 hV
 obtain ⟨⟨L1,L2,L3⟩,L4,L5⟩:=id L
 have R : ∀ (W : World) (zs : List Bs),Wk V W zs → Calls Tryz.prog 164 #[wrV V true,.agg #[.string ⟨x.t.toArray⟩,.string ⟨x.x.toArray⟩]] W (OutB V W (refW x.t x.x.reverse) zs):=by
  intro W zs hW
  have:=wref_any true x.t L2 x.x.reverse (by rw [List.length_reverse];exact L3) W zs hW
  rw [List.reverse_reverse] at this
  exact this
 go_enter Tryz.func116,Tryz.ntmps116
 go_wp2_with (first
  | (go_at_call 75;(with_reducible refine (wdirectives_any true x.ds (.slice a n c) h4 L5 (hd0.frw F4 hV0)).mono ?_);rintro e w5 (⟨hq5,rfl,f5⟩ | ⟨us5,hq5,rfl,h5,f5⟩);(focus (go_wp2;go_ret;exact (OutB.seq hq1 f1 (OutB.seq hq2 f2 (OutB.seq hq3 f3 (OutB.seq hq4 f4 (outb_last hq5 f5))))).mono0 f0)))
  | (go_at_call 165;(with_reducible refine (wdefault_any x z0 s1 a2 n2 m2 a3 n3 m3 a n c h3 L (hv0.frw F3 hV0)).mono ?_);rintro e w4 (⟨hq4,rfl,f4⟩ | ⟨us4,hq4,rfl,h4,f4⟩);(focus (go_wp2;go_ret;exact (OutB.seq hq1 f1 (OutB.seq hq2 f2 (OutB.seq hq3 f3 (outb_no hq4 f4)))).mono0 f0));have F4 : FrW V w0 w4:=F3.trans f4;obtain ⟨P4,Q4⟩:=A.out _ F4;obtain ⟨p40,p41,_⟩:=row2 P4;obtain ⟨q40,q41,q42,q43,q44,q45,q46,q47,q48,_⟩:=row9 Q4)
  | (go_at_call 164;(with_reducible refine (R _ _ h2).mono ?_);rintro e w3 (⟨hq3,rfl,f3⟩ | ⟨us3,hq3,rfl,h3,f3⟩);(focus (go_wp2;go_ret;exact (OutB.seq hq1 f1 (OutB.seq hq2 f2 (outb_no hq3 f3))).mono0 f0));have F3 : FrW V w0 w3:=F2.trans f3;obtain ⟨P3,Q3⟩:=A.out _ F3;obtain ⟨p30,p31,_⟩:=row2 P3;obtain ⟨q30,q31,q32,q33,q34,q35,q36,q37,q38,_⟩:=row9 Q3)
  | (go_at_call 18;(with_reducible refine (put_any [58] h1 (by decide)).mono ?_);rintro e w2 (⟨hq2,rfl,f2⟩ | ⟨us2,hq2,rfl,h2,f2⟩);(focus (go_wp2;go_ret;exact (OutB.seq hq1 f1 (outb_no hq2 f2)).mono0 f0));have F2 : FrW V w0 w2:=F1.trans f2;obtain ⟨P2,Q2⟩:=A.out _ F2;obtain ⟨p20,p21,_⟩:=row2 P2;obtain ⟨q20,q21,q22,q23,q24,q25,q26,q27,q28,_⟩:=row9 Q2)
  | (go_at_call 94;rw [← hw0];(with_reducible refine (wvariable_any true x.n h0 L1).mono ?_);rintro e w1 (⟨hq1,rfl,f1⟩ | ⟨us1,hq1,rfl,h1,f1⟩);(focus (go_wp2;go_ret;exact (outb_no hq1 f1).mono0 f0));have F1 : FrW V w0 w1:=F0.trans f1;obtain ⟨P1,Q1⟩:=A.out _ F1;obtain ⟨p10,p11,_⟩:=row2 P1;obtain ⟨q10,q11,q12,q13,q14,q15,q16,q17,q18,_⟩:=row9 Q1)
  | fail)
 go_ret
 exact (OutB.seq hq1 f1 (OutB.seq hq2 f2 (OutB.seq hq3 f3 (OutB.seq hq4 f4 (outb_end hq5 h5 f5))))).mono0 f0
theorem wvarDef_any {V : Nat} {w : World} {ts : List Bs} (x : Va) (us : List Value) (h : Wk V w ts) (L : VaL x) (hB : Bts w (fun k => k < V) (ctX x) us) : Calls Tryz.prog 116 #[wrV V true,.agg us.toArray] w (OutB V w (varDefW x) ts):=by
 obtain ⟨z0,s1,a2,n2,m2,a3,n3,m3,a,c,rfl,hv,hd⟩:=var_cells hB
 exact wvarDef_of x z0 s1 a2 n2 m2 a3 n3 m3 a _ c h L hv hd
abbrev XsAt (w : World) (D : Nat → Prop) (v : Value) (l : List Va) : Prop:=Bt w D (rowC 99 9 (l.map ctX)) v
set_option maxRecDepth 100000 in
set_option maxHeartbeats 4000000 in
theorem wvars_0 {V : Nat} {w : World} {ts : List Bs} (fx : Bool) (a : Option Addr) (c : Nat) (h : Wk V w ts) : Calls Tryz.prog 74 #[wrV V fx,.slice a 0 c] w (OutB V w (some []) ts):=by
 obtain ⟨w0,hw0⟩ : ∃ w0,w0 = (w.alloc (boxW V fx)).alloc (.cells #[putV V,.bool true] 56):=⟨_,rfl⟩
 have h0 : Wk V w0 ts:=by rw [hw0];exact (h.al _).al _
 have f0 : FrW V w w0:=by rw [hw0];exact (al1V _).trans (al1V _)
 go_enter Tryz.func74,Tryz.ntmps74
 go_wp2
 go_ret
 rw [← hw0]
 exact outb_skip h0 f0
set_option maxRecDepth 100000 in
set_option maxHeartbeats 4000000 in
theorem wvars_1 {V : Nat} {w : World} {ts : List Bs} (fx : Bool) (n : Nat) (vs : List Va) (a : Option Addr) (c : Nat) (h : Wk V w ts) (L1 : vs.length ≤ rwM) (L2 : ∀ x ∈ vs,VaL x) (hn : n ≠ 0) (hA : XsAt w (fun k => k < V) (.slice a n c) vs) : Calls Tryz.prog 74 #[wrV V fx,.slice a n c] w (OutB V w (inW [40] (rowW varDefW vs) [41]) ts):=by
 obtain ⟨w0,hw0⟩ : ∃ w0,w0 = (w.alloc (boxW V fx)).alloc (.cells #[putV V,.bool true] 56):=⟨_,rfl⟩
 have h0 : Wk V w0 ts:=by rw [hw0];exact (h.al _).al _
 have f0 : FrW V w w0:=by rw [hw0];exact (al1V _).trans (al1V _)
 have hV:=Nat.le_of_lt h.lt
 have hV0:=Nat.le_of_lt h0.lt
 have F0 : FrW V w0 w0:=FrW.refl _ _
 have A : Hid (∀ W,FrW V w0 W → W.heap[w.heap.size]? = some (.cells #[putV V,.bool fx] 56 (0,0)) ∧ W.heap[w.heap.size + 1]? = some (.cells #[putV V,.bool true] 56 (0,0))):=fun W F => box2 (by rw [← hw0];exact F) h.lt (by decide)
 have hA0:=hA.frw f0 hV
 have HH : ∀ x ∈ vs,∀ (W : World) (zs : List Bs) (us : List Value),Wk V W zs → Bts W (fun k => k < V) (ctX x) us → Calls Tryz.prog 116 #[wrV V true,.agg us.toArray] W (OutB V W (varDefW x) zs):=fun x hx W zs us hW hB => wvarDef_any x us hW (L2 x hx) hB
 have l1 : (((n : Nat) : Int) == 0) = false:=by rw [beq_eq_false_iff_ne];omega
 go_enter Tryz.func74,Tryz.ntmps74
 go_wp2_with (first
  | (go_at_call 115;rw [← hw0];(with_reducible refine (within_Var true varDefW vs (.slice a n c) [40] [41] h0 L1 (by decide) (by decide) hA0 HH).mono ?_);rintro e w1 (⟨hq1,rfl,f1⟩ | ⟨us1,hq1,rfl,h1,f1⟩);(focus (go_wp2;go_ret;exact (outb_last hq1 f1).mono0 f0)))
  | fail)
 go_ret
 exact (outb_end hq1 h1 f1).mono0 f0
theorem wvars_any {V : Nat} {w : World} {ts : List Bs} (fx : Bool) (vs : List Va) (lv : Value) (h : Wk V w ts) (L1 : vs.length ≤ rwM) (L2 : ∀ x ∈ vs,VaL x) (hA : XsAt w (fun k => k < V) lv vs) : Calls Tryz.prog 74 #[wrV V fx,lv] w (OutB V w (varsW vs) ts):=by
 obtain ⟨a,c,rfl⟩:=row_sl hA
 unfold varsW
 by_cases h0 : vs = []
 ·subst h0
  rw [if_pos rfl]
  exact wvars_0 fx a c h
 ·rw [if_neg h0]
  exact wvars_1 fx vs.length vs a c h L1 L2 (fun e => h0 (List.length_eq_zero_iff.1 e)) hA
end Go.Proofs.YtgmlbjfgfmfliaaGreatDoor
namespace Go.Proofs.YtgmlbjfgfmfliaaGreatDoor
open Go Go.RowKit Go.Shelf
theorem sel_cells {w : World} {D : Nat → Prop} {k : Int} {a n o : Bs} {az : List Ar} {ds : List Dr} {ss : List Se} {us : List Value} (h : Bts w D (ctS (.mk k a n o az ds ss)) us) : ∃ p1 c1 p2 c2 p3 c3,us = [.int .i64 k,.string ⟨a.toArray⟩,.string ⟨n.toArray⟩,.string ⟨o.toArray⟩,.slice p1 az.length c1,.slice p2 ds.length c2,.slice p3 ss.length c3] ∧ AsAt w D (.slice p1 az.length c1) az ∧ DsAt w D (.slice p2 ds.length c2) ds ∧ SsAt w D (.slice p3 ss.length c3) ss:=by
 rw [ctS,ctSs_map] at h
 obtain ⟨_,_,rfl,h0,g0⟩:=Bts.inv h
 obtain ⟨_,_,rfl,h1,g1⟩:=Bts.inv g0
 obtain ⟨_,_,rfl,h2,g2⟩:=Bts.inv g1
 obtain ⟨_,_,rfl,h3,g3⟩:=Bts.inv g2
 obtain ⟨_,_,rfl,h4,g4⟩:=Bts.inv g3
 obtain ⟨_,_,rfl,h5,g5⟩:=Bts.inv g4
 obtain ⟨_,_,rfl,h6,g6⟩:=Bts.inv g5
 obtain rfl:=g6.inv0
 obtain rfl:=h0.inv_lf
 obtain rfl:=h1.inv_lf
 obtain rfl:=h2.inv_lf
 obtain rfl:=h3.inv_lf
 obtain ⟨p1,c1,rfl⟩:=row_sl h4
 obtain ⟨p2,c2,rfl⟩:=row_sl h5
 obtain ⟨p3,c3,rfl⟩:=row_sl h6
 exact ⟨p1,c1,p2,c2,p3,c3,rfl,h4,h5,h6⟩
theorem set_eq {ss : List Se} (h : ss.length ≠ 0) : inW [123] (selsW ss) [125] = setW ss:=by
 unfold setW
 rw [selsW_row,if_neg (fun e => h (by rw [e];rfl))]
theorem wsel_of {V : Nat} {w : World} {ts : List Bs} (k : Int) (a n o : Bs) (az : List Ar) (ds : List Dr) (ss : List Se) (us : List Value) (h : Wk V w ts) (L : SeL (.mk k a n o az ds ss)) (hB : Bts w (fun k => k < V) (ctS (.mk k a n o az ds ss)) us)
  (H : ∀ x ∈ ss,∀ (W : World) (zs : List Bs) (us : List Value),Wk V W zs → Bts W (fun k => k < V) (ctS x) us → Calls Tryz.prog 113 #[wrV V false,.agg us.toArray] W (OutB V W (selW x) zs)) :
  Calls Tryz.prog 113 #[wrV V false,.agg us.toArray] w (OutB V w (selW (.mk k a n o az ds ss)) ts):=by
 obtain ⟨p1,c1,p2,c2,p3,c3,rfl,hA,hD,hS⟩:=sel_cells hB
 obtain ⟨⟨La0,Ln,Lo⟩,La,Ld,Ll,_⟩:=L
 have hV:=Nat.le_of_lt h.lt
 have HS : ∀ (W : World),FrW V w W → V ≤ W.heap.size → ∀ (W' : World) (zs : List Bs),Wk V W' zs → FrW V W W' → Calls Tryz.prog 71 #[wrV V false,.slice p3 ss.length c3] W' (OutB V W' (setW ss) zs):=fun W hF hW W' zs hW' hF' => wset_of ss _ hW' Ll ((hS.frw hF hV).frw hF' hW) H
 rw [selW]
 by_cases k0 : k = 0
 ·subst k0
  rw [if_pos rfl]
  by_cases ho : o = []
  ·subst ho
   rw [if_pos rfl]
   refine wsel_0 p1 p2 p3 c1 c2 c3 ds.length a n az.length ss.length _ h fun W zs hW hF => ?_
   have hA':=hA.frw hF hV
   have hD':=hD.frw hF hV
   by_cases ha : a = []
   ·subst ha
    rw [if_pos rfl,andW_nil]
    by_cases hs : ss.length = 0
    ·rw [if_pos hs,andW_nilR,hs]
     exact wfield_A p1 p2 p3 c1 c2 c3 _ _ n Ln az ds hW La Ld hA' hD'
    ·rw [if_neg hs,set_eq hs]
     exact wfield_C p1 p2 p3 c1 c2 c3 _ _ _ n Ln ss hs az ds hW La Ld hA' hD' (HS W hF (Nat.le_of_lt hW.lt))
   ·rw [if_neg ha,andW_assoc]
    by_cases hs : ss.length = 0
    ·rw [if_pos hs,andW_nilR,hs]
     exact wfield_B p1 p2 p3 c1 c2 c3 _ _ a ha La0 n Ln az ds hW La Ld hA' hD'
    ·rw [if_neg hs,set_eq hs]
     exact wfield_D p1 p2 p3 c1 c2 c3 _ _ _ a ha La0 n Ln ss hs az ds hW La Ld hA' hD' (HS W hF (Nat.le_of_lt hW.lt))
  ·rw [if_neg ho]
   exact wsel_0o p1 p2 p3 c1 c2 c3 _ a n o _ _ ho
 rw [if_neg k0]
 by_cases k1 : k = 1
 ·subst k1
  rw [if_pos rfl]
  by_cases hao : a = [] ∧ o = []
  ·obtain ⟨ha,ho⟩:=hao
   subst ha ho
   by_cases hz : az.length = 0 ∧ ss.length = 0
   ·rw [if_pos ⟨⟨rfl,rfl⟩,hz⟩,hz.1,hz.2]
    exact wsel_1 p1 p2 p3 c1 c2 c3 _ n _ h fun W zs hW hF => wspread_any p1 p2 p3 c1 c2 c3 _ n Ln ds hW Ld (hD.frw hF hV)
   ·rw [if_neg (fun e => hz e.2)]
    exact wsel_1l p1 p2 p3 c1 c2 c3 _ n _ _ La.1 Ll hz
  ·rw [if_neg (fun e => hao e.1)]
   exact wsel_1a p1 p2 p3 c1 c2 c3 _ a n o _ _ hao La0 Lo
 rw [if_neg k1]
 by_cases k2 : k = 2
 ·subst k2
  rw [if_pos rfl]
  by_cases han : a = [] ∧ n = []
  ·obtain ⟨ha,hn⟩:=han
   subst ha hn
   by_cases hz : az.length = 0
   ·rw [if_pos ⟨⟨rfl,rfl⟩,hz⟩,hz]
    have hs : (if ss.length = 0 then none else inW [123] (selsW ss) [125]) = setW ss:=by
     by_cases hs : ss.length = 0
     ·rw [if_pos hs]
      unfold setW
      rw [if_pos (List.length_eq_zero_iff.1 hs)]
     ·rw [if_neg hs,set_eq hs]
    rw [hs]
    refine wsel_2 p1 p2 p3 c1 c2 c3 _ o _ _ h fun W zs hW hF => ?_
    by_cases ho : o = []
    ·subst ho
     rw [if_pos rfl,andW_nil]
     exact winline_A p1 p2 p3 c1 c2 c3 _ _ ss ds hW Ld (hD.frw hF hV) (HS W hF (Nat.le_of_lt hW.lt))
    ·rw [if_neg ho]
     exact winline_B p1 p2 p3 c1 c2 c3 _ _ o ho Lo ss ds hW Ld (hD.frw hF hV) (HS W hF (Nat.le_of_lt hW.lt))
   ·rw [if_neg (fun e => hz e.2)]
    exact wsel_2l p1 p2 p3 c1 c2 c3 _ o _ _ hz
  ·rw [if_neg (fun e => han e.1)]
   exact wsel_2a p1 p2 p3 c1 c2 c3 _ a n o _ _ han La0 Ln
 ·rw [if_neg k2]
  exact wsel_x p1 p2 p3 c1 c2 c3 _ a n o _ _ k k0 k1 k2
theorem wsel_any : ∀ (x : Se),SeL x → ∀ {V : Nat} (w : World) (ts : List Bs) (us : List Value),Wk V w ts → Bts w (fun k => k < V) (ctS x) us → Calls Tryz.prog 113 #[wrV V false,.agg us.toArray] w (OutB V w (selW x) ts)
 | .mk k a n o az ds ss,L,_,_,_,us,h,hB => wsel_of k a n o az ds ss us h L hB fun x hx W zs us hW hB => wsel_any x (SesL_all L.2.2.2.2 x hx) W zs us hW hB
 termination_by x => SizeOf.sizeOf x
theorem wset_any {V : Nat} {w : World} {ts : List Bs} (ss : List Se) (lv : Value) (h : Wk V w ts) (L : SeRL ss) (hA : SsAt w (fun k => k < V) lv ss) : Calls Tryz.prog 71 #[wrV V false,lv] w (OutB V w (setW ss) ts) :=
 wset_of ss lv h L.1 hA fun x hx W zs us hW hB => wsel_any x (L.2 x hx) W zs us hW hB
set_option maxRecDepth 100000 in
set_option maxHeartbeats 4000000 in
theorem wkind_0 {V : Nat} {w : World} {ts : List Bs} (h : Wk V w ts) : Calls Tryz.prog 72 #[wrV V false,.int .i64 0] w (OutB V w (some [[113,117,101,114,121]]) ts):=by
 obtain ⟨w0,hw0⟩ : ∃ w0,w0 = w.alloc (boxW V false):=⟨_,rfl⟩
 have h0 : Wk V w0 ts:=by rw [hw0];exact h.al _
 have f0 : FrW V w w0:=by rw [hw0];exact al1V _
 have hV:=Nat.le_of_lt h.lt
 have hV0:=Nat.le_of_lt h0.lt
 have F0 : FrW V w0 w0:=FrW.refl _ _
 have A : Hid (∀ W,FrW V w0 W → W.heap[w.heap.size]? = some (.cells #[putV V,.bool false] 56 (0,0)) ∧ True):=fun W F => ⟨box1 (by rw [← hw0];exact F) h.lt,trivial⟩
 go_enter Tryz.func72,Tryz.ntmps72
 go_wp2_with (first
  | (go_at_call 18;rw [← hw0];(with_reducible refine (put_any [113,117,101,114,121] h0 (by decide)).mono ?_);rintro e w1 (⟨hq1,rfl,f1⟩ | ⟨us1,hq1,rfl,h1,f1⟩);(focus (go_wp2;go_ret;exact (outb_last hq1 f1).mono0 f0)))
  | fail)
 go_ret
 exact (outb_end hq1 h1 f1).mono0 f0
set_option maxRecDepth 100000 in
set_option maxHeartbeats 4000000 in
theorem wkind_1 {V : Nat} {w : World} {ts : List Bs} (h : Wk V w ts) : Calls Tryz.prog 72 #[wrV V false,.int .i64 1] w (OutB V w (some [[109,117,116,97,116,105,111,110]]) ts):=by
 obtain ⟨w0,hw0⟩ : ∃ w0,w0 = w.alloc (boxW V false):=⟨_,rfl⟩
 have h0 : Wk V w0 ts:=by rw [hw0];exact h.al _
 have f0 : FrW V w w0:=by rw [hw0];exact al1V _
 have hV:=Nat.le_of_lt h.lt
 have hV0:=Nat.le_of_lt h0.lt
 have F0 : FrW V w0 w0:=FrW.refl _ _
 have A : Hid (∀ W,FrW V w0 W → W.heap[w.heap.size]? = some (.cells #[putV V,.bool false] 56 (0,0)) ∧ True):=fun W F => ⟨box1 (by rw [← hw0];exact F) h.lt,trivial⟩
 go_enter Tryz.func72,Tryz.ntmps72
 go_wp2_with (first
  | (go_at_call 18;rw [← hw0];(with_reducible refine (put_any [109,117,116,97,116,105,111,110] h0 (by decide)).mono ?_);rintro e w1 (⟨hq1,rfl,f1⟩ | ⟨us1,hq1,rfl,h1,f1⟩);(focus (go_wp2;go_ret;exact (outb_last hq1 f1).mono0 f0)))
  | fail)
 go_ret
 exact (outb_end hq1 h1 f1).mono0 f0
set_option maxRecDepth 100000 in
set_option maxHeartbeats 4000000 in
theorem wkind_2 {V : Nat} {w : World} {ts : List Bs} (h : Wk V w ts) : Calls Tryz.prog 72 #[wrV V false,.int .i64 2] w (OutB V w (some [[115,117,98,115,99,114,105,112,116,105,111,110]]) ts):=by
 obtain ⟨w0,hw0⟩ : ∃ w0,w0 = w.alloc (boxW V false):=⟨_,rfl⟩
 have h0 : Wk V w0 ts:=by rw [hw0];exact h.al _
 have f0 : FrW V w w0:=by rw [hw0];exact al1V _
 have hV:=Nat.le_of_lt h.lt
 have hV0:=Nat.le_of_lt h0.lt
 have F0 : FrW V w0 w0:=FrW.refl _ _
 have A : Hid (∀ W,FrW V w0 W → W.heap[w.heap.size]? = some (.cells #[putV V,.bool false] 56 (0,0)) ∧ True):=fun W F => ⟨box1 (by rw [← hw0];exact F) h.lt,trivial⟩
 go_enter Tryz.func72,Tryz.ntmps72
 go_wp2_with (first
  | (go_at_call 18;rw [← hw0];(with_reducible refine (put_any [115,117,98,115,99,114,105,112,116,105,111,110] h0 (by decide)).mono ?_);rintro e w1 (⟨hq1,rfl,f1⟩ | ⟨us1,hq1,rfl,h1,f1⟩);(focus (go_wp2;go_ret;exact (outb_last hq1 f1).mono0 f0)))
  | fail)
 go_ret
 exact (outb_end hq1 h1 f1).mono0 f0
set_option maxRecDepth 100000 in
set_option maxHeartbeats 4000000 in
theorem wkind_x {V : Nat} {w : World} {ts : List Bs} (k : Int) (h0 : k ≠ 0) (h1 : k ≠ 1) (h2 : k ≠ 2) : Calls Tryz.prog 72 #[wrV V false,.int .i64 k] w (OutB V w (none) ts):=by
 obtain ⟨w0,hw0⟩ : ∃ w0,w0 = w.alloc (boxW V false):=⟨_,rfl⟩
 have f0 : FrW V w w0:=by rw [hw0];exact al1V _
 have l0 : (k == 0) = false:=by simpa using h0
 have l1 : (k == 1) = false:=by simpa using h1
 have l2 : (k == 2) = false:=by simpa using h2
 go_enter Tryz.func72,Tryz.ntmps72
 go_wp2
 go_ret
 rw [← hw0]
 exact outb_none rfl f0
theorem wkind_any {V : Nat} {w : World} {ts : List Bs} (k : Int) (h : Wk V w ts) : Calls Tryz.prog 72 #[wrV V false,.int .i64 k] w (OutB V w (kindW k) ts):=by
 unfold kindW
 by_cases k0 : k = 0
 ·subst k0
  rw [if_pos rfl]
  exact wkind_0 h
 rw [if_neg k0]
 by_cases k1 : k = 1
 ·subst k1
  rw [if_pos rfl]
  exact wkind_1 h
 rw [if_neg k1]
 by_cases k2 : k = 2
 ·subst k2
  rw [if_pos rfl]
  exact wkind_2 h
 ·rw [if_neg k2]
  exact wkind_x k k0 k1 k2
theorem op_cells {w : World} {D : Nat → Prop} {x : Oq} {us : List Value} (h : Bts w D (ctO x) us) : ∃ p1 c1 p2 c2 p3 c3,us = [.int .i64 x.k,.string ⟨x.n.toArray⟩,.slice p1 x.vs.length c1,.slice p2 x.ds.length c2,.slice p3 x.ss.length c3] ∧ XsAt w D (.slice p1 x.vs.length c1) x.vs ∧ DsAt w D (.slice p2 x.ds.length c2) x.ds ∧ SsAt w D (.slice p3 x.ss.length c3) x.ss:=by
 unfold ctO at h
 obtain ⟨_,_,rfl,h0,g0⟩:=Bts.inv h
 obtain ⟨_,_,rfl,h1,g1⟩:=Bts.inv g0
 obtain ⟨_,_,rfl,h4,g4⟩:=Bts.inv g1
 obtain ⟨_,_,rfl,h5,g5⟩:=Bts.inv g4
 obtain ⟨_,_,rfl,h6,g6⟩:=Bts.inv g5
 obtain rfl:=g6.inv0
 obtain rfl:=h0.inv_lf
 obtain rfl:=h1.inv_lf
 obtain ⟨p1,c1,rfl⟩:=row_sl h4
 obtain ⟨p2,c2,rfl⟩:=row_sl h5
 obtain ⟨p3,c3,rfl⟩:=row_sl h6
 exact ⟨p1,c1,p2,c2,p3,c3,rfl,h4,h5,h6⟩
theorem frag_cells {w : World} {D : Nat → Prop} {x : Fg} {us : List Value} (h : Bts w D (ctF x) us) : ∃ p2 c2 p3 c3,us = [.string ⟨x.n.toArray⟩,.string ⟨x.o.toArray⟩,.slice p2 x.ds.length c2,.slice p3 x.ss.length c3] ∧ DsAt w D (.slice p2 x.ds.length c2) x.ds ∧ SsAt w D (.slice p3 x.ss.length c3) x.ss:=by
 unfold ctF at h
 obtain ⟨_,_,rfl,h0,g0⟩:=Bts.inv h
 obtain ⟨_,_,rfl,h1,g1⟩:=Bts.inv g0
 obtain ⟨_,_,rfl,h5,g5⟩:=Bts.inv g1
 obtain ⟨_,_,rfl,h6,g6⟩:=Bts.inv g5
 obtain rfl:=g6.inv0
 obtain rfl:=h0.inv_lf
 obtain rfl:=h1.inv_lf
 obtain ⟨p2,c2,rfl⟩:=row_sl h5
 obtain ⟨p3,c3,rfl⟩:=row_sl h6
 exact ⟨p2,c2,p3,c3,rfl,h5,h6⟩
set_option maxRecDepth 100000 in
set_option maxHeartbeats 4000000 in
theorem wop_0 {V : Nat} {w : World} {ts : List Bs} (p1 p2 p3 : Option Addr) (c1 c2 c3 : Nat) (n3 : Nat) (ss : List Se) (h : Wk V w ts) (Ls : SeRL ss) (hS : SsAt w (fun k => k < V) (.slice p3 n3 c3) ss) : Calls Tryz.prog 41 #[wrV V false,.agg #[.int .i64 0,.string ⟨#[]⟩,.slice p1 0 c1,.slice p2 0 c2,.slice p3 n3 c3]] w (OutB V w (setW ss) ts):=by
 obtain ⟨w0,hw0⟩ : ∃ w0,w0 = (w.alloc (boxW V false)).alloc (.cells #[.int .i64 0,.string ⟨#[]⟩,.slice p1 0 c1,.slice p2 0 c2,.slice p3 n3 c3] 51):=⟨_,rfl⟩
 have h0 : Wk V w0 ts:=by rw [hw0];exact (h.al _).al _
 have f0 : FrW V w w0:=by rw [hw0];exact (al1V _).trans (al1V _)
 have hV:=Nat.le_of_lt h.lt
 have hV0:=Nat.le_of_lt h0.lt
 have F0 : FrW V w0 w0:=FrW.refl _ _
 have A : Hid (∀ W,FrW V w0 W → W.heap[w.heap.size]? = some (.cells #[putV V,.bool false] 56 (0,0)) ∧ W.heap[w.heap.size + 1]? = some (.cells #[.int .i64 0,.string ⟨#[]⟩,.slice p1 0 c1,.slice p2 0 c2,.slice p3 n3 c3] 51 (0,0))):=fun W F => box2 (by rw [← hw0];exact F) h.lt (by decide)
 have hS0:=hS.frw f0 hV
 go_enter Tryz.func41,Tryz.ntmps41
 go_wp2_with (first
  | (go_at_call 71;rw [← hw0];(with_reducible refine (wset_any ss (.slice p3 n3 c3) h0 Ls (hS0.frw F0 hV0)).mono ?_);rintro e w1 (⟨hq1,rfl,f1⟩ | ⟨us1,hq1,rfl,h1,f1⟩);(focus (go_wp2;go_ret;exact (outb_last hq1 f1).mono0 f0)))
  | fail)
 go_ret
 exact (outb_end hq1 h1 f1).mono0 f0
set_option maxRecDepth 100000 in
set_option maxHeartbeats 8000000 in
theorem wop_1 {V : Nat} {w : World} {ts : List Bs} (p1 p2 p3 : Option Addr) (c1 c2 c3 : Nat) (n1 n2 n3 : Nat) (k : Int) (hk : k ≠ 0) (vs : List Va) (ds : List Dr) (ss : List Se) (h : Wk V w ts) (Lv1 : vs.length ≤ rwM) (Lv2 : ∀ x ∈ vs,VaL x) (Ld : DrsL ds) (Ls : SeRL ss) (hX : XsAt w (fun k => k < V) (.slice p1 n1 c1) vs) (hD : DsAt w (fun k => k < V) (.slice p2 n2 c2) ds) (hS : SsAt w (fun k => k < V) (.slice p3 n3 c3) ss) : Calls Tryz.prog 41 #[wrV V false,.agg #[.int .i64 k,.string ⟨#[]⟩,.slice p1 n1 c1,.slice p2 n2 c2,.slice p3 n3 c3]] w (OutB V w (andW (kindW k) (andW (varsW vs) (andW (dirsW false ds) (setW ss)))) ts):=by
 obtain ⟨w0,hw0⟩ : ∃ w0,w0 = (w.alloc (boxW V false)).alloc (.cells #[.int .i64 k,.string ⟨#[]⟩,.slice p1 n1 c1,.slice p2 n2 c2,.slice p3 n3 c3] 51):=⟨_,rfl⟩
 have h0 : Wk V w0 ts:=by rw [hw0];exact (h.al _).al _
 have f0 : FrW V w w0:=by rw [hw0];exact (al1V _).trans (al1V _)
 have hV:=Nat.le_of_lt h.lt
 have hV0:=Nat.le_of_lt h0.lt
 have F0 : FrW V w0 w0:=FrW.refl _ _
 have A : Hid (∀ W,FrW V w0 W → W.heap[w.heap.size]? = some (.cells #[putV V,.bool false] 56 (0,0)) ∧ W.heap[w.heap.size + 1]? = some (.cells #[.int .i64 k,.string ⟨#[]⟩,.slice p1 n1 c1,.slice p2 n2 c2,.slice p3 n3 c3] 51 (0,0))):=fun W F => box2 (by rw [← hw0];exact F) h.lt (by decide)
 have hX0:=hX.frw f0 hV
 have hD0:=hD.frw f0 hV
 have hS0:=hS.frw f0 hV
 have l0 : (k == 0) = false:=by simpa using hk
 go_enter Tryz.func41,Tryz.ntmps41
 go_wp2_with (first
  | (go_at_call 71;(with_reducible refine (wset_any ss (.slice p3 n3 c3) h3 Ls (hS0.frw F3 hV0)).mono ?_);rintro e w4 (⟨hq4,rfl,f4⟩ | ⟨us4,hq4,rfl,h4,f4⟩);(focus (go_wp2;go_ret;exact (OutB.seq hq1 f1 (OutB.seq hq2 f2 (OutB.seq hq3 f3 (outb_last hq4 f4)))).mono0 f0)))
  | (go_at_call 75;(with_reducible refine (wdirectives_any false ds (.slice p2 n2 c2) h2 Ld (hD0.frw F2 hV0)).mono ?_);rintro e w3 (⟨hq3,rfl,f3⟩ | ⟨us3,hq3,rfl,h3,f3⟩);(focus (go_wp2;go_ret;exact (OutB.seq hq1 f1 (OutB.seq hq2 f2 (outb_no hq3 f3))).mono0 f0));have F3 : FrW V w0 w3:=F2.trans f3;obtain ⟨P3,Q3⟩:=A.out _ F3;obtain ⟨p30,p31,_⟩:=row2 P3;obtain ⟨q30,q31,q32,q33,q34,_⟩:=row5 Q3)
  | (go_at_call 74;(with_reducible refine (wvars_any false vs (.slice p1 n1 c1) h1 Lv1 Lv2 (hX0.frw F1 hV0)).mono ?_);rintro e w2 (⟨hq2,rfl,f2⟩ | ⟨us2,hq2,rfl,h2,f2⟩);(focus (go_wp2;go_ret;exact (OutB.seq hq1 f1 (outb_no hq2 f2)).mono0 f0));have F2 : FrW V w0 w2:=F1.trans f2;obtain ⟨P2,Q2⟩:=A.out _ F2;obtain ⟨p20,p21,_⟩:=row2 P2;obtain ⟨q20,q21,q22,q23,q24,_⟩:=row5 Q2)
  | (go_at_call 72;rw [← hw0];(with_reducible refine (wkind_any k h0).mono ?_);rintro e w1 (⟨hq1,rfl,f1⟩ | ⟨us1,hq1,rfl,h1,f1⟩);(focus (go_wp2;go_ret;exact (outb_no hq1 f1).mono0 f0));have F1 : FrW V w0 w1:=F0.trans f1;obtain ⟨P1,Q1⟩:=A.out _ F1;obtain ⟨p10,p11,_⟩:=row2 P1;obtain ⟨q10,q11,q12,q13,q14,_⟩:=row5 Q1)
  | fail)
 go_ret
 exact (OutB.seq hq1 f1 (OutB.seq hq2 f2 (OutB.seq hq3 f3 (outb_end hq4 h4 f4)))).mono0 f0
set_option maxRecDepth 100000 in
set_option maxHeartbeats 8000000 in
theorem wop_2 {V : Nat} {w : World} {ts : List Bs} (p1 p2 p3 : Option Addr) (c1 c2 c3 : Nat) (n1 n2 n3 : Nat) (k : Int) (hk : k ≠ 0) (n : Bs) (hn : n ≠ []) (hnl : n.length ≤ txM) (vs : List Va) (ds : List Dr) (ss : List Se) (h : Wk V w ts) (Lv1 : vs.length ≤ rwM) (Lv2 : ∀ x ∈ vs,VaL x) (Ld : DrsL ds) (Ls : SeRL ss) (hX : XsAt w (fun k => k < V) (.slice p1 n1 c1) vs) (hD : DsAt w (fun k => k < V) (.slice p2 n2 c2) ds) (hS : SsAt w (fun k => k < V) (.slice p3 n3 c3) ss) : Calls Tryz.prog 41 #[wrV V false,.agg #[.int .i64 k,.string ⟨n.toArray⟩,.slice p1 n1 c1,.slice p2 n2 c2,.slice p3 n3 c3]] w (OutB V w (andW (kindW k) (andW (nameW n) (andW (varsW vs) (andW (dirsW false ds) (setW ss))))) ts):=by
 obtain ⟨w0,hw0⟩ : ∃ w0,w0 = (w.alloc (boxW V false)).alloc (.cells #[.int .i64 k,.string ⟨n.toArray⟩,.slice p1 n1 c1,.slice p2 n2 c2,.slice p3 n3 c3] 51):=⟨_,rfl⟩
 have h0 : Wk V w0 ts:=by rw [hw0];exact (h.al _).al _
 have f0 : FrW V w w0:=by rw [hw0];exact (al1V _).trans (al1V _)
 have hV:=Nat.le_of_lt h.lt
 have hV0:=Nat.le_of_lt h0.lt
 have F0 : FrW V w0 w0:=FrW.refl _ _
 have A : Hid (∀ W,FrW V w0 W → W.heap[w.heap.size]? = some (.cells #[putV V,.bool false] 56 (0,0)) ∧ W.heap[w.heap.size + 1]? = some (.cells #[.int .i64 k,.string ⟨n.toArray⟩,.slice p1 n1 c1,.slice p2 n2 c2,.slice p3 n3 c3] 51 (0,0))):=fun W F => box2 (by rw [← hw0];exact F) h.lt (by decide)
 have hX0:=hX.frw f0 hV
 have hD0:=hD.frw f0 hV
 have hS0:=hS.frw f0 hV
 have l0 : (k == 0) = false:=by simpa using hk
 have hn' : (n == []) = false:=by simpa using hn
 have hn3 : n.isEmpty = false:=by simpa using hn
 go_enter Tryz.func41,Tryz.ntmps41
 go_wp2_with (first
  | (go_at_call 71;(with_reducible refine (wset_any ss (.slice p3 n3 c3) h4 Ls (hS0.frw F4 hV0)).mono ?_);rintro e w5 (⟨hq5,rfl,f5⟩ | ⟨us5,hq5,rfl,h5,f5⟩);(focus (go_wp2;go_ret;exact (OutB.seq hq1 f1 (OutB.seq hq2 f2 (OutB.seq hq3 f3 (OutB.seq hq4 f4 (outb_last hq5 f5))))).mono0 f0)))
  | (go_at_call 75;(with_reducible refine (wdirectives_any false ds (.slice p2 n2 c2) h3 Ld (hD0.frw F3 hV0)).mono ?_);rintro e w4 (⟨hq4,rfl,f4⟩ | ⟨us4,hq4,rfl,h4,f4⟩);(focus (go_wp2;go_ret;exact (OutB.seq hq1 f1 (OutB.seq hq2 f2 (OutB.seq hq3 f3 (outb_no hq4 f4)))).mono0 f0));have F4 : FrW V w0 w4:=F3.trans f4;obtain ⟨P4,Q4⟩:=A.out _ F4;obtain ⟨p40,p41,_⟩:=row2 P4;obtain ⟨q40,q41,q42,q43,q44,_⟩:=row5 Q4)
  | (go_at_call 74;(with_reducible refine (wvars_any false vs (.slice p1 n1 c1) h2 Lv1 Lv2 (hX0.frw F2 hV0)).mono ?_);rintro e w3 (⟨hq3,rfl,f3⟩ | ⟨us3,hq3,rfl,h3,f3⟩);(focus (go_wp2;go_ret;exact (OutB.seq hq1 f1 (OutB.seq hq2 f2 (outb_no hq3 f3))).mono0 f0));have F3 : FrW V w0 w3:=F2.trans f3;obtain ⟨P3,Q3⟩:=A.out _ F3;obtain ⟨p30,p31,_⟩:=row2 P3;obtain ⟨q30,q31,q32,q33,q34,_⟩:=row5 Q3)
  | (go_at_call 73;(with_reducible refine (wname_any false n h1 hnl).mono ?_);rintro e w2 (⟨hq2,rfl,f2⟩ | ⟨us2,hq2,rfl,h2,f2⟩);(focus (go_wp2;go_ret;exact (OutB.seq hq1 f1 (outb_no hq2 f2)).mono0 f0));have F2 : FrW V w0 w2:=F1.trans f2;obtain ⟨P2,Q2⟩:=A.out _ F2;obtain ⟨p20,p21,_⟩:=row2 P2;obtain ⟨q20,q21,q22,q23,q24,_⟩:=row5 Q2)
  | (go_at_call 72;rw [← hw0];(with_reducible refine (wkind_any k h0).mono ?_);rintro e w1 (⟨hq1,rfl,f1⟩ | ⟨us1,hq1,rfl,h1,f1⟩);(focus (go_wp2;go_ret;exact (outb_no hq1 f1).mono0 f0));have F1 : FrW V w0 w1:=F0.trans f1;obtain ⟨P1,Q1⟩:=A.out _ F1;obtain ⟨p10,p11,_⟩:=row2 P1;obtain ⟨q10,q11,q12,q13,q14,_⟩:=row5 Q1)
  | fail)
 go_ret
 exact (OutB.seq hq1 f1 (OutB.seq hq2 f2 (OutB.seq hq3 f3 (OutB.seq hq4 f4 (outb_end hq5 h5 f5))))).mono0 f0
set_option maxRecDepth 100000 in
set_option maxHeartbeats 8000000 in
theorem wop_3 {V : Nat} {w : World} {ts : List Bs} (p1 p2 p3 : Option Addr) (c1 c2 c3 : Nat) (n1 n2 n3 : Nat) (n : Bs) (hn : n ≠ []) (hnl : n.length ≤ txM) (vs : List Va) (ds : List Dr) (ss : List Se) (h : Wk V w ts) (Lv1 : vs.length ≤ rwM) (Lv2 : ∀ x ∈ vs,VaL x) (Ld : DrsL ds) (Ls : SeRL ss) (hX : XsAt w (fun k => k < V) (.slice p1 n1 c1) vs) (hD : DsAt w (fun k => k < V) (.slice p2 n2 c2) ds) (hS : SsAt w (fun k => k < V) (.slice p3 n3 c3) ss) : Calls Tryz.prog 41 #[wrV V false,.agg #[.int .i64 0,.string ⟨n.toArray⟩,.slice p1 n1 c1,.slice p2 n2 c2,.slice p3 n3 c3]] w (OutB V w (andW (kindW 0) (andW (nameW n) (andW (varsW vs) (andW (dirsW false ds) (setW ss))))) ts):=by
 obtain ⟨w0,hw0⟩ : ∃ w0,w0 = (w.alloc (boxW V false)).alloc (.cells #[.int .i64 0,.string ⟨n.toArray⟩,.slice p1 n1 c1,.slice p2 n2 c2,.slice p3 n3 c3] 51):=⟨_,rfl⟩
 have h0 : Wk V w0 ts:=by rw [hw0];exact (h.al _).al _
 have f0 : FrW V w w0:=by rw [hw0];exact (al1V _).trans (al1V _)
 have hV:=Nat.le_of_lt h.lt
 have hV0:=Nat.le_of_lt h0.lt
 have F0 : FrW V w0 w0:=FrW.refl _ _
 have A : Hid (∀ W,FrW V w0 W → W.heap[w.heap.size]? = some (.cells #[putV V,.bool false] 56 (0,0)) ∧ W.heap[w.heap.size + 1]? = some (.cells #[.int .i64 0,.string ⟨n.toArray⟩,.slice p1 n1 c1,.slice p2 n2 c2,.slice p3 n3 c3] 51 (0,0))):=fun W F => box2 (by rw [← hw0];exact F) h.lt (by decide)
 have hX0:=hX.frw f0 hV
 have hD0:=hD.frw f0 hV
 have hS0:=hS.frw f0 hV
 have hn' : (n == []) = false:=by simpa using hn
 have hn3 : n.isEmpty = false:=by simpa using hn
 go_enter Tryz.func41,Tryz.ntmps41
 go_wp2_with (first
  | (go_at_call 71;(with_reducible refine (wset_any ss (.slice p3 n3 c3) h4 Ls (hS0.frw F4 hV0)).mono ?_);rintro e w5 (⟨hq5,rfl,f5⟩ | ⟨us5,hq5,rfl,h5,f5⟩);(focus (go_wp2;go_ret;exact (OutB.seq hq1 f1 (OutB.seq hq2 f2 (OutB.seq hq3 f3 (OutB.seq hq4 f4 (outb_last hq5 f5))))).mono0 f0)))
  | (go_at_call 75;(with_reducible refine (wdirectives_any false ds (.slice p2 n2 c2) h3 Ld (hD0.frw F3 hV0)).mono ?_);rintro e w4 (⟨hq4,rfl,f4⟩ | ⟨us4,hq4,rfl,h4,f4⟩);(focus (go_wp2;go_ret;exact (OutB.seq hq1 f1 (OutB.seq hq2 f2 (OutB.seq hq3 f3 (outb_no hq4 f4)))).mono0 f0));have F4 : FrW V w0 w4:=F3.trans f4;obtain ⟨P4,Q4⟩:=A.out _ F4;obtain ⟨p40,p41,_⟩:=row2 P4;obtain ⟨q40,q41,q42,q43,q44,_⟩:=row5 Q4)
  | (go_at_call 74;(with_reducible refine (wvars_any false vs (.slice p1 n1 c1) h2 Lv1 Lv2 (hX0.frw F2 hV0)).mono ?_);rintro e w3 (⟨hq3,rfl,f3⟩ | ⟨us3,hq3,rfl,h3,f3⟩);(focus (go_wp2;go_ret;exact (OutB.seq hq1 f1 (OutB.seq hq2 f2 (outb_no hq3 f3))).mono0 f0));have F3 : FrW V w0 w3:=F2.trans f3;obtain ⟨P3,Q3⟩:=A.out _ F3;obtain ⟨p30,p31,_⟩:=row2 P3;obtain ⟨q30,q31,q32,q33,q34,_⟩:=row5 Q3)
  | (go_at_call 73;(with_reducible refine (wname_any false n h1 hnl).mono ?_);rintro e w2 (⟨hq2,rfl,f2⟩ | ⟨us2,hq2,rfl,h2,f2⟩);(focus (go_wp2;go_ret;exact (OutB.seq hq1 f1 (outb_no hq2 f2)).mono0 f0));have F2 : FrW V w0 w2:=F1.trans f2;obtain ⟨P2,Q2⟩:=A.out _ F2;obtain ⟨p20,p21,_⟩:=row2 P2;obtain ⟨q20,q21,q22,q23,q24,_⟩:=row5 Q2)
  | (go_at_call 72;rw [← hw0];(with_reducible refine (wkind_any 0 h0).mono ?_);rintro e w1 (⟨hq1,rfl,f1⟩ | ⟨us1,hq1,rfl,h1,f1⟩);(focus (go_wp2;go_ret;exact (outb_no hq1 f1).mono0 f0));have F1 : FrW V w0 w1:=F0.trans f1;obtain ⟨P1,Q1⟩:=A.out _ F1;obtain ⟨p10,p11,_⟩:=row2 P1;obtain ⟨q10,q11,q12,q13,q14,_⟩:=row5 Q1)
  | fail)
 go_ret
 exact (OutB.seq hq1 f1 (OutB.seq hq2 f2 (OutB.seq hq3 f3 (OutB.seq hq4 f4 (outb_end hq5 h5 f5))))).mono0 f0
set_option maxRecDepth 100000 in
set_option maxHeartbeats 8000000 in
theorem wop_4 {V : Nat} {w : World} {ts : List Bs} (p1 p2 p3 : Option Addr) (c1 c2 c3 : Nat) (n1 n2 n3 : Nat) (hb1 : n1 ≤ 140737488355328) (hb2 : n2 ≤ 140737488355328) (hz : ¬ (n1 = 0 ∧ n2 = 0)) (vs : List Va) (ds : List Dr) (ss : List Se) (h : Wk V w ts) (Lv1 : vs.length ≤ rwM) (Lv2 : ∀ x ∈ vs,VaL x) (Ld : DrsL ds) (Ls : SeRL ss) (hX : XsAt w (fun k => k < V) (.slice p1 n1 c1) vs) (hD : DsAt w (fun k => k < V) (.slice p2 n2 c2) ds) (hS : SsAt w (fun k => k < V) (.slice p3 n3 c3) ss) : Calls Tryz.prog 41 #[wrV V false,.agg #[.int .i64 0,.string ⟨#[]⟩,.slice p1 n1 c1,.slice p2 n2 c2,.slice p3 n3 c3]] w (OutB V w (andW (kindW 0) (andW (varsW vs) (andW (dirsW false ds) (setW ss)))) ts):=by
 obtain ⟨w0,hw0⟩ : ∃ w0,w0 = (w.alloc (boxW V false)).alloc (.cells #[.int .i64 0,.string ⟨#[]⟩,.slice p1 n1 c1,.slice p2 n2 c2,.slice p3 n3 c3] 51):=⟨_,rfl⟩
 have h0 : Wk V w0 ts:=by rw [hw0];exact (h.al _).al _
 have f0 : FrW V w w0:=by rw [hw0];exact (al1V _).trans (al1V _)
 have hV:=Nat.le_of_lt h.lt
 have hV0:=Nat.le_of_lt h0.lt
 have F0 : FrW V w0 w0:=FrW.refl _ _
 have A : Hid (∀ W,FrW V w0 W → W.heap[w.heap.size]? = some (.cells #[putV V,.bool false] 56 (0,0)) ∧ W.heap[w.heap.size + 1]? = some (.cells #[.int .i64 0,.string ⟨#[]⟩,.slice p1 n1 c1,.slice p2 n2 c2,.slice p3 n3 c3] 51 (0,0))):=fun W F => box2 (by rw [← hw0];exact F) h.lt (by decide)
 have hX0:=hX.frw f0 hV
 have hD0:=hD.frw f0 hV
 have hS0:=hS.frw f0 hV
 have hne : (((n1 : Nat) : Int) + ((n2 : Nat) : Int) == 0) = false:=by rw [beq_eq_false_iff_ne];omega
 have hsm:=len_sum hb1 hb2
 go_enter Tryz.func41,Tryz.ntmps41
 go_wp2_with (first
  | (go_at_call 71;(with_reducible refine (wset_any ss (.slice p3 n3 c3) h3 Ls (hS0.frw F3 hV0)).mono ?_);rintro e w4 (⟨hq4,rfl,f4⟩ | ⟨us4,hq4,rfl,h4,f4⟩);(focus (go_wp2;go_ret;exact (OutB.seq hq1 f1 (OutB.seq hq2 f2 (OutB.seq hq3 f3 (outb_last hq4 f4)))).mono0 f0)))
  | (go_at_call 75;(with_reducible refine (wdirectives_any false ds (.slice p2 n2 c2) h2 Ld (hD0.frw F2 hV0)).mono ?_);rintro e w3 (⟨hq3,rfl,f3⟩ | ⟨us3,hq3,rfl,h3,f3⟩);(focus (go_wp2;go_ret;exact (OutB.seq hq1 f1 (OutB.seq hq2 f2 (outb_no hq3 f3))).mono0 f0));have F3 : FrW V w0 w3:=F2.trans f3;obtain ⟨P3,Q3⟩:=A.out _ F3;obtain ⟨p30,p31,_⟩:=row2 P3;obtain ⟨q30,q31,q32,q33,q34,_⟩:=row5 Q3)
  | (go_at_call 74;(with_reducible refine (wvars_any false vs (.slice p1 n1 c1) h1 Lv1 Lv2 (hX0.frw F1 hV0)).mono ?_);rintro e w2 (⟨hq2,rfl,f2⟩ | ⟨us2,hq2,rfl,h2,f2⟩);(focus (go_wp2;go_ret;exact (OutB.seq hq1 f1 (outb_no hq2 f2)).mono0 f0));have F2 : FrW V w0 w2:=F1.trans f2;obtain ⟨P2,Q2⟩:=A.out _ F2;obtain ⟨p20,p21,_⟩:=row2 P2;obtain ⟨q20,q21,q22,q23,q24,_⟩:=row5 Q2)
  | (go_at_call 72;rw [← hw0];(with_reducible refine (wkind_any 0 h0).mono ?_);rintro e w1 (⟨hq1,rfl,f1⟩ | ⟨us1,hq1,rfl,h1,f1⟩);(focus (go_wp2;go_ret;exact (outb_no hq1 f1).mono0 f0));have F1 : FrW V w0 w1:=F0.trans f1;obtain ⟨P1,Q1⟩:=A.out _ F1;obtain ⟨p10,p11,_⟩:=row2 P1;obtain ⟨q10,q11,q12,q13,q14,_⟩:=row5 Q1)
  | fail)
 go_ret
 exact (OutB.seq hq1 f1 (OutB.seq hq2 f2 (OutB.seq hq3 f3 (outb_end hq4 h4 f4)))).mono0 f0
theorem wop_any {V : Nat} {w : World} {ts : List Bs} (x : Oq) (us : List Value) (h : Wk V w ts) (L : OqL x) (hB : Bts w (fun k => k < V) (ctO x) us) : Calls Tryz.prog 41 #[wrV V false,.agg us.toArray] w (OutB V w (opW x) ts):=by
 obtain ⟨p1,c1,p2,c2,p3,c3,rfl,hX,hD,hS⟩:=op_cells hB
 obtain ⟨k,n,vs,ds,ss⟩:=x
 obtain ⟨Ln,⟨Lv1,Lv2⟩,Ld,Ls⟩:=L
 unfold opW
 dsimp only at *
 by_cases hk : k = 0
 ·subst hk
  by_cases hn : n = []
  ·subst hn
   by_cases hz : vs.length = 0 ∧ ds.length = 0
   ·rw [if_pos ⟨rfl,rfl,hz⟩,hz.1,hz.2]
    exact wop_0 p1 p2 p3 c1 c2 c3 _ ss h Ls hS
   ·rw [if_neg (fun e => hz e.2.2),if_pos rfl,andW_nil]
    exact wop_4 p1 p2 p3 c1 c2 c3 _ _ _ Lv1 Ld.1 hz vs ds ss h Lv1 Lv2 Ld Ls hX hD hS
  ·rw [if_neg (fun e => hn e.2.1),if_neg hn]
   exact wop_3 p1 p2 p3 c1 c2 c3 _ _ _ n hn Ln vs ds ss h Lv1 Lv2 Ld Ls hX hD hS
 ·rw [if_neg (fun e => hk e.1)]
  by_cases hn : n = []
  ·subst hn
   rw [if_pos rfl,andW_nil]
   exact wop_1 p1 p2 p3 c1 c2 c3 _ _ _ k hk vs ds ss h Lv1 Lv2 Ld Ls hX hD hS
  ·rw [if_neg hn]
   exact wop_2 p1 p2 p3 c1 c2 c3 _ _ _ k hk n hn Ln vs ds ss h Lv1 Lv2 Ld Ls hX hD hS
set_option maxRecDepth 100000 in
set_option maxHeartbeats 8000000 in
theorem wfrag_of {V : Nat} {w : World} {ts : List Bs} (p2 p3 : Option Addr) (c2 c3 n2 n3 : Nat) (x : Fg) (h : Wk V w ts) (Ln : x.n.length ≤ txM) (Lo : x.o.length ≤ txM) (Ld : DrsL x.ds) (Ls : SeRL x.ss) (hD : DsAt w (fun k => k < V) (.slice p2 n2 c2) x.ds) (hS : SsAt w (fun k => k < V) (.slice p3 n3 c3) x.ss) : Calls Tryz.prog 43 #[wrV V false,.agg #[.string ⟨x.n.toArray⟩,.string ⟨x.o.toArray⟩,.slice p2 n2 c2,.slice p3 n3 c3]] w (OutB V w (fragW x) ts):=by
 unfold fragW
 obtain ⟨w0,hw0⟩ : ∃ w0,w0 = (w.alloc (boxW V false)).alloc (.cells #[.string ⟨x.n.toArray⟩,.string ⟨x.o.toArray⟩,.slice p2 n2 c2,.slice p3 n3 c3] 65):=⟨_,rfl⟩
 have h0 : Wk V w0 ts:=by rw [hw0];exact (h.al _).al _
 have f0 : FrW V w w0:=by rw [hw0];exact (al1V _).trans (al1V _)
 have hV:=Nat.le_of_lt h.lt
 have hV0:=Nat.le_of_lt h0.lt
 have F0 : FrW V w0 w0:=FrW.refl _ _
 have A : Hid (∀ W,FrW V w0 W → W.heap[w.heap.size]? = some (.cells #[putV V,.bool false] 56 (0,0)) ∧ W.heap[w.heap.size + 1]? = some (.cells #[.string ⟨x.n.toArray⟩,.string ⟨x.o.toArray⟩,.slice p2 n2 c2,.slice p3 n3 c3] 65 (0,0))):=fun W F => box2 (by rw [← hw0];exact F) h.lt (by decide)
 have hD0:=hD.frw f0 hV
 have hS0:=hS.frw f0 hV
 go_enter Tryz.func43,Tryz.ntmps43
 go_wp2_with (first
  | (go_at_call 71;(with_reducible refine (wset_any x.ss (.slice p3 n3 c3) h4 Ls (hS0.frw F4 hV0)).mono ?_);rintro e w5 (⟨hq5,rfl,f5⟩ | ⟨us5,hq5,rfl,h5,f5⟩);(focus (go_wp2;go_ret;exact (OutB.seq hq1 f1 (OutB.seq hq2 f2 (OutB.seq hq3 f3 (OutB.seq hq4 f4 (outb_last hq5 f5))))).mono0 f0)))
  | (go_at_call 75;(with_reducible refine (wdirectives_any false x.ds (.slice p2 n2 c2) h3 Ld (hD0.frw F3 hV0)).mono ?_);rintro e w4 (⟨hq4,rfl,f4⟩ | ⟨us4,hq4,rfl,h4,f4⟩);(focus (go_wp2;go_ret;exact (OutB.seq hq1 f1 (OutB.seq hq2 f2 (OutB.seq hq3 f3 (outb_no hq4 f4)))).mono0 f0));have F4 : FrW V w0 w4:=F3.trans f4;obtain ⟨P4,Q4⟩:=A.out _ F4;obtain ⟨p40,p41,_⟩:=row2 P4;obtain ⟨q40,q41,q42,q43,_⟩:=row4 Q4)
  | (go_at_call 76;(with_reducible refine (won_any false x.o h2 Lo).mono ?_);rintro e w3 (⟨hq3,rfl,f3⟩ | ⟨us3,hq3,rfl,h3,f3⟩);(focus (go_wp2;go_ret;exact (OutB.seq hq1 f1 (OutB.seq hq2 f2 (outb_no hq3 f3))).mono0 f0));have F3 : FrW V w0 w3:=F2.trans f3;obtain ⟨P3,Q3⟩:=A.out _ F3;obtain ⟨p30,p31,_⟩:=row2 P3;obtain ⟨q30,q31,q32,q33,_⟩:=row4 Q3)
  | (go_at_call 73;(with_reducible refine (wbut_on false x.n h1 Ln).mono ?_);rintro e w2 (⟨hq2,rfl,f2⟩ | ⟨us2,hq2,rfl,h2,f2⟩);(focus (go_wp2;go_ret;exact (OutB.seq hq1 f1 (outb_no hq2 f2)).mono0 f0));have F2 : FrW V w0 w2:=F1.trans f2;obtain ⟨P2,Q2⟩:=A.out _ F2;obtain ⟨p20,p21,_⟩:=row2 P2;obtain ⟨q20,q21,q22,q23,_⟩:=row4 Q2)
  | (go_at_call 18;rw [← hw0];(with_reducible refine (put_any [102,114,97,103,109,101,110,116] h0 (by decide)).mono ?_);rintro e w1 (⟨hq1,rfl,f1⟩ | ⟨us1,hq1,rfl,h1,f1⟩);(focus (go_wp2;go_ret;exact (outb_no hq1 f1).mono0 f0));have F1 : FrW V w0 w1:=F0.trans f1;obtain ⟨P1,Q1⟩:=A.out _ F1;obtain ⟨p10,p11,_⟩:=row2 P1;obtain ⟨q10,q11,q12,q13,_⟩:=row4 Q1)
  | fail)
 go_ret
 exact (OutB.seq hq1 f1 (OutB.seq hq2 f2 (OutB.seq hq3 f3 (OutB.seq hq4 f4 (outb_end hq5 h5 f5))))).mono0 f0
theorem wfrag_any {V : Nat} {w : World} {ts : List Bs} (x : Fg) (us : List Value) (h : Wk V w ts) (L : FgL x) (hB : Bts w (fun k => k < V) (ctF x) us) : Calls Tryz.prog 43 #[wrV V false,.agg us.toArray] w (OutB V w (fragW x) ts):=by
 obtain ⟨p2,c2,p3,c3,rfl,hD,hS⟩:=frag_cells hB
 obtain ⟨⟨Ln,Lo⟩,Ld,Ls⟩:=L
 exact wfrag_of p2 p3 c2 c3 _ _ x h Ln Lo Ld Ls hD hS
abbrev OsAt (w : World) (D : Nat → Prop) (v : Value) (l : List Oq) : Prop:=Bt w D (rowC 51 5 (l.map ctO)) v
abbrev FsAt (w : World) (D : Nat → Prop) (v : Value) (l : List Fg) : Prop:=Bt w D (rowC 65 4 (l.map ctF)) v
/-- What the lengths of a document may be. -/
structure DcL (os : List Oq) (fs : List Fg) : Prop where
 o1 : os.length ≤ 140737488355328
 f1 : fs.length ≤ 140737488355328
 o2 : ∀ x ∈ os,OqL x
 f2 : ∀ x ∈ fs,FgL x
set_option maxRecDepth 100000 in
set_option maxHeartbeats 4000000 in
theorem wdoc_0 {V : Nat} {w : World} {ts : List Bs} (p1 p2 : Option Addr) (c1 c2 : Nat) : Calls Tryz.prog 19 #[wrV V false,.agg #[.slice p1 0 c1,.slice p2 0 c2]] w (OutB V w (none) ts):=by
 obtain ⟨w0,hw0⟩ : ∃ w0,w0 = (w.alloc (boxW V false)).alloc (.cells #[.slice p1 0 c1,.slice p2 0 c2] 25):=⟨_,rfl⟩
 have f0 : FrW V w w0:=by rw [hw0];exact (al1V _).trans (al1V _)
 go_enter Tryz.func19,Tryz.ntmps19
 go_wp2
 go_ret
 rw [← hw0]
 exact outb_none rfl f0
set_option maxRecDepth 100000 in
set_option maxHeartbeats 4000000 in
theorem wdoc_1 {V : Nat} {w : World} {ts : List Bs} (p1 p2 : Option Addr) (c1 c2 n1 n2 : Nat) (os : List Oq) (fs : List Fg) (h : Wk V w ts) (hb1 : n1 ≤ 140737488355328) (hb2 : n2 ≤ 140737488355328) (hz : ¬ (n1 = 0 ∧ n2 = 0)) (L : DcL os fs) (hO : OsAt w (fun k => k < V) (.slice p1 n1 c1) os) (hF : FsAt w (fun k => k < V) (.slice p2 n2 c2) fs) : Calls Tryz.prog 19 #[wrV V false,.agg #[.slice p1 n1 c1,.slice p2 n2 c2]] w (OutB V w (andW (rowW opW os) (rowW fragW fs)) ts):=by
 obtain ⟨w0,hw0⟩ : ∃ w0,w0 = (w.alloc (boxW V false)).alloc (.cells #[.slice p1 n1 c1,.slice p2 n2 c2] 25):=⟨_,rfl⟩
 have h0 : Wk V w0 ts:=by rw [hw0];exact (h.al _).al _
 have f0 : FrW V w w0:=by rw [hw0];exact (al1V _).trans (al1V _)
 have hV:=Nat.le_of_lt h.lt
 have hV0:=Nat.le_of_lt h0.lt
 have F0 : FrW V w0 w0:=FrW.refl _ _
 have A : Hid (∀ W,FrW V w0 W → W.heap[w.heap.size]? = some (.cells #[putV V,.bool false] 56 (0,0)) ∧ W.heap[w.heap.size + 1]? = some (.cells #[.slice p1 n1 c1,.slice p2 n2 c2] 25 (0,0))):=fun W F => box2 (by rw [← hw0];exact F) h.lt (by decide)
 have hO0:=hO.frw f0 hV
 have hF0:=hF.frw f0 hV
 have L1 : os.length ≤ rwM:=L.o1
 have L2 : fs.length ≤ rwM:=L.f1
 have HO : ∀ x ∈ os,∀ (W : World) (zs : List Bs) (us : List Value),Wk V W zs → Bts W (fun k => k < V) (ctO x) us → Calls Tryz.prog 41 #[wrV V false,.agg us.toArray] W (OutB V W (opW x) zs):=fun x hx W zs us hW hB => wop_any x us hW (L.o2 x hx) hB
 have HF : ∀ x ∈ fs,∀ (W : World) (zs : List Bs) (us : List Value),Wk V W zs → Bts W (fun k => k < V) (ctF x) us → Calls Tryz.prog 43 #[wrV V false,.agg us.toArray] W (OutB V W (fragW x) zs):=fun x hx W zs us hW hB => wfrag_any x us hW (L.f2 x hx) hB
 have hgt : decide ((0 : Int) < ((n1 : Nat) : Int) + ((n2 : Nat) : Int)) = true:=decide_eq_true (by omega)
 have hsm:=len_sum hb1 hb2
 go_enter Tryz.func19,Tryz.ntmps19
 go_wp2_with (first
  | (go_at_call 42;(with_reducible refine (all_Frag false fragW fs (.slice p2 n2 c2) h1 L2 (hF0.frw F1 hV0) HF).mono ?_);rintro e w2 (⟨hq2,rfl,f2⟩ | ⟨us2,hq2,rfl,h2,f2⟩);(focus (go_wp2;go_ret;exact (OutB.seq hq1 f1 (outb_last hq2 f2)).mono0 f0)))
  | (go_at_call 40;rw [← hw0];(with_reducible refine (all_Op false opW os (.slice p1 n1 c1) h0 L1 (hO0.frw F0 hV0) HO).mono ?_);rintro e w1 (⟨hq1,rfl,f1⟩ | ⟨us1,hq1,rfl,h1,f1⟩);(focus (go_wp2;go_ret;exact (outb_no hq1 f1).mono0 f0));have F1 : FrW V w0 w1:=F0.trans f1;obtain ⟨P1,Q1⟩:=A.out _ F1;obtain ⟨p10,p11,_⟩:=row2 P1;obtain ⟨q10,q11,_⟩:=row2 Q1)
  | fail)
 go_ret
 exact (OutB.seq hq1 f1 (outb_end hq2 h2 f2)).mono0 f0
theorem wdoc_any {V : Nat} {w : World} {ts : List Bs} (os : List Oq) (fs : List Fg) (lo lf : Value) (h : Wk V w ts) (L : DcL os fs) (hO : OsAt w (fun k => k < V) lo os) (hF : FsAt w (fun k => k < V) lf fs) : Calls Tryz.prog 19 #[wrV V false,.agg #[lo,lf]] w (OutB V w (docW os fs) ts):=by
 obtain ⟨p1,c1,rfl⟩:=row_sl hO
 obtain ⟨p2,c2,rfl⟩:=row_sl hF
 unfold docW
 by_cases hz : os.length = 0 ∧ fs.length = 0
 ·rw [if_pos hz,hz.1,hz.2]
  exact wdoc_0 p1 p2 c1 c2
 ·rw [if_neg hz]
  exact wdoc_1 p1 p2 c1 c2 _ _ os fs h L.o1 L.f1 hz L hO hF
end Go.Proofs.YtgmlbjfgfmfliaaGreatDoor
