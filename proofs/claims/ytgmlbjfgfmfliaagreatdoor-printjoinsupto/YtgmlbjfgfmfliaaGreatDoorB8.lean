/- The writer of documents: types. -/
import Derived.Test.YtgmlbjfgfmfliaaGreatDoorA23
import Derived.Deep.RegionLawGrows
namespace Go.Proofs.YtgmlbjfgfmfliaaGreatDoor
open Go Go.RowKit Go.Shelf
set_option maxRecDepth 100000 in
set_option maxHeartbeats 8000000 in
theorem wref_91 {V : Nat} {w : World} {ts : List Bs} (fx : Bool) (t : Bs) (D E : ByteArray) (m : Nat) (h : Wk V w ts) (hm : m ≤ txM) (hD : D.size = m + 1) (hE : D.extract 0 m = E) (hc : ∀ q : m < D.size,(D[m]'q).toNat = 91) (r : Bs)
  (H : ∀ (W : World) (zs : List Bs),Wk V W zs → Calls Tryz.prog 164 #[wrV V fx,.agg #[.string ⟨t.toArray⟩,.string E]] W (OutB V W (refW t r) zs)) :
  Calls Tryz.prog 164 #[wrV V fx,.agg #[.string ⟨t.toArray⟩,.string D]] w (OutB V w (inW [91] (refW t r) [93]) ts):=by
 have hm' : m ≤ 140737488355328:=hm
 obtain ⟨w0,hw0⟩ : ∃ w0,w0 = (w.alloc (boxW V fx)).alloc (.cells #[.string ⟨t.toArray⟩,.string D] 97):=⟨_,rfl⟩
 have h0 : Wk V w0 ts:=by rw [hw0];exact (h.al _).al _
 have f0 : FrW V w w0:=by rw [hw0];exact (al1V _).trans (al1V _)
 have A : Hid (∀ W,FrW V w0 W → W.heap[w.heap.size]? = some (.cells #[putV V,.bool fx] 56 (0,0)) ∧ W.heap[w.heap.size + 1]? = some (.cells #[.string ⟨t.toArray⟩,.string D] 97 (0,0))):=fun W F => box2 (by rw [← hw0];exact F) h.lt (by decide)
 have hltV:=h.lt
 have h1 : Wk V ((w0.alloc (.cells #[.string ⟨t.toArray⟩,.string E] 97)).drew) ts:=(h0.al _).on (drewB _)
 have g1 : FrW V w0 ((w0.alloc (.cells #[.string ⟨t.toArray⟩,.string E] 97)).drew):=(al1V _).trans (frw_of (drewB _))
 have A1 : Hid (∀ W,FrW V ((w0.alloc (.cells #[.string ⟨t.toArray⟩,.string E] 97)).drew) W → W.heap[w0.heap.size]? = some (.cells #[.string ⟨t.toArray⟩,.string E] 97 (0,0))):=fun W F => ((frw_of (drewB _)).trans F).old (heap_alloc_new w0 _) h0.lt (by decide)
 have n1 : decide ((m : Int) < 0) = false:=by simp
 have b1 : (m : Int) ≤ (m : Int) + 1:=by omega
 have c1 : m < D.size:=by omega
 have hc1:=hc c1
 unfold inW
 go_enter Tryz.func164,Tryz.ntmps164
 go_wp2
 rw [← hw0]
 clear hw0
 obtain ⟨P0,Q0⟩:=A.out _ (FrW.refl _ _)
 obtain ⟨p0,p1,_⟩:=row2 P0
 obtain ⟨q0,q1,_⟩:=row2 Q0
 have d0:=fun o => cell_on (al1 w0 o) q0
 have d1:=fun o => cell_on (al1 w0 o) q1
 have e0:=fun o => cell_on (al1 w0 o) p0
 have e1:=fun o => cell_on (al1 w0 o) p1
 go_region_law (fail)
 all_goals go_wp2_with (first
  | (go_at_call 18;(with_reducible refine (put_any [93] h3 (by decide)).mono ?_);rintro e w4 (⟨hq4,rfl,f4⟩ | ⟨us4,hq4,rfl,h4,f4⟩);(focus (go_wp2;go_ret;exact (OutB.seq hq2 f2 (OutB.seq hq3 f3 (outb_last hq4 f4))).mono0 (f0.trans g1))))
  | (go_at_call 164;(with_reducible refine (H _ _ h2).mono ?_);rintro e w3 (⟨hq3,rfl,f3⟩ | ⟨us3,hq3,rfl,h3,f3⟩);(focus (go_wp2;go_ret;exact (OutB.seq hq2 f2 (outb_no hq3 f3)).mono0 (f0.trans g1)));have F3 : FrW V w0 w3:=F2.trans f3;obtain ⟨P3,_⟩:=A.out _ F3;obtain ⟨p30,p31,_⟩:=row2 P3)
  | (go_at_call 18;(with_reducible refine (put_any [91] h1 (by decide)).mono ?_);rintro e w2 (⟨hq2,rfl,f2⟩ | ⟨us2,hq2,rfl,h2,f2⟩);(focus (go_wp2;go_ret;exact (outb_no hq2 f2).mono0 (f0.trans g1)));have F2 : FrW V w0 w2:=g1.trans f2;obtain ⟨P2,_⟩:=A.out _ F2;obtain ⟨p20,p21,_⟩:=row2 P2;obtain ⟨r20,r21,_⟩:=row2 (A1.out _ f2))
  | fail)
 all_goals go_ret
 all_goals exact (OutB.seq hq2 f2 (OutB.seq hq3 f3 (outb_end hq4 h4 f4))).mono0 (f0.trans g1)
set_option maxRecDepth 100000 in
set_option maxHeartbeats 8000000 in
theorem wref_x {V : Nat} {w : World} {ts : List Bs} (fx : Bool) (t : Bs) (D E : ByteArray) (m : Nat) (h : Wk V w ts) (hm : m ≤ txM) (hD : D.size = m + 1) (hE : D.extract 0 m = E) (hc : ∀ q : m < D.size,(D[m]'q).toNat ≠ 91 ∧ (D[m]'q).toNat ≠ 33) :
  Calls Tryz.prog 164 #[wrV V fx,.agg #[.string ⟨t.toArray⟩,.string D]] w (OutB V w none ts):=by
 have hm' : m ≤ 140737488355328:=hm
 obtain ⟨w0,hw0⟩ : ∃ w0,w0 = (w.alloc (boxW V fx)).alloc (.cells #[.string ⟨t.toArray⟩,.string D] 97):=⟨_,rfl⟩
 have h0 : Wk V w0 ts:=by rw [hw0];exact (h.al _).al _
 have f0 : FrW V w w0:=by rw [hw0];exact (al1V _).trans (al1V _)
 have A : Hid (∀ W,FrW V w0 W → W.heap[w.heap.size]? = some (.cells #[putV V,.bool fx] 56 (0,0)) ∧ W.heap[w.heap.size + 1]? = some (.cells #[.string ⟨t.toArray⟩,.string D] 97 (0,0))):=fun W F => box2 (by rw [← hw0];exact F) h.lt (by decide)
 have hltV:=h.lt
 have h1 : Wk V ((w0.alloc (.cells #[.string ⟨t.toArray⟩,.string E] 97)).drew) ts:=(h0.al _).on (drewB _)
 have g1 : FrW V w0 ((w0.alloc (.cells #[.string ⟨t.toArray⟩,.string E] 97)).drew):=(al1V _).trans (frw_of (drewB _))
 have A1 : Hid (∀ W,FrW V ((w0.alloc (.cells #[.string ⟨t.toArray⟩,.string E] 97)).drew) W → W.heap[w0.heap.size]? = some (.cells #[.string ⟨t.toArray⟩,.string E] 97 (0,0))):=fun W F => ((frw_of (drewB _)).trans F).old (heap_alloc_new w0 _) h0.lt (by decide)
 have n1 : decide ((m : Int) < 0) = false:=by simp
 have b1 : (m : Int) ≤ (m : Int) + 1:=by omega
 have c1 : m < D.size:=by omega
 obtain ⟨hc1,hc2⟩:=hc c1
 have l1 : (((D[m]'c1).toNat : Int) == 91) = false:=by rw [beq_eq_false_iff_ne];omega
 have l2 : (((D[m]'c1).toNat : Int) == 33) = false:=by rw [beq_eq_false_iff_ne];omega
 go_enter Tryz.func164,Tryz.ntmps164
 go_wp2
 rw [← hw0]
 clear hw0
 obtain ⟨P0,Q0⟩:=A.out _ (FrW.refl _ _)
 obtain ⟨p0,p1,_⟩:=row2 P0
 obtain ⟨q0,q1,_⟩:=row2 Q0
 have d0:=fun o => cell_on (al1 w0 o) q0
 have d1:=fun o => cell_on (al1 w0 o) q1
 have e0:=fun o => cell_on (al1 w0 o) p0
 have e1:=fun o => cell_on (al1 w0 o) p1
 go_region_law (fail)
 all_goals go_wp2
 all_goals go_ret
 all_goals exact outb_none rfl (f0.trans g1)
set_option maxRecDepth 100000 in
set_option maxHeartbeats 8000000 in
theorem wref_33z {V : Nat} {w : World} {ts : List Bs} (fx : Bool) (t : Bs) (D E : ByteArray) (m : Nat) (h : Wk V w ts) (hm : m ≤ txM) (hD : D.size = m + 1) (hE : D.extract 0 m = E) (hc : ∀ q : m < D.size,(D[m]'q).toNat = 33) (hm0 : m = 0) (r : Bs)
  (H : ∀ (W : World) (zs : List Bs),Wk V W zs → Calls Tryz.prog 164 #[wrV V fx,.agg #[.string ⟨t.toArray⟩,.string E]] W (OutB V W (refW t r) zs)) :
  Calls Tryz.prog 164 #[wrV V fx,.agg #[.string ⟨t.toArray⟩,.string D]] w (OutB V w (andW (refW t r) (some [[33]])) ts):=by
 have hm' : m ≤ 140737488355328:=hm
 obtain ⟨w0,hw0⟩ : ∃ w0,w0 = (w.alloc (boxW V fx)).alloc (.cells #[.string ⟨t.toArray⟩,.string D] 97):=⟨_,rfl⟩
 have h0 : Wk V w0 ts:=by rw [hw0];exact (h.al _).al _
 have f0 : FrW V w w0:=by rw [hw0];exact (al1V _).trans (al1V _)
 have A : Hid (∀ W,FrW V w0 W → W.heap[w.heap.size]? = some (.cells #[putV V,.bool fx] 56 (0,0)) ∧ W.heap[w.heap.size + 1]? = some (.cells #[.string ⟨t.toArray⟩,.string D] 97 (0,0))):=fun W F => box2 (by rw [← hw0];exact F) h.lt (by decide)
 have hltV:=h.lt
 have h1 : Wk V ((w0.alloc (.cells #[.string ⟨t.toArray⟩,.string E] 97)).drew) ts:=(h0.al _).on (drewB _)
 have g1 : FrW V w0 ((w0.alloc (.cells #[.string ⟨t.toArray⟩,.string E] 97)).drew):=(al1V _).trans (frw_of (drewB _))
 have A1 : Hid (∀ W,FrW V ((w0.alloc (.cells #[.string ⟨t.toArray⟩,.string E] 97)).drew) W → W.heap[w0.heap.size]? = some (.cells #[.string ⟨t.toArray⟩,.string E] 97 (0,0))):=fun W F => ((frw_of (drewB _)).trans F).old (heap_alloc_new w0 _) h0.lt (by decide)
 have n1 : decide ((m : Int) < 0) = false:=by simp
 have b1 : (m : Int) ≤ (m : Int) + 1:=by omega
 have c1 : m < D.size:=by omega
 have hc1:=hc c1
 have l2 : ((m : Int) == 0) = true:=by rw [beq_iff_eq];omega
 clear hm0
 go_enter Tryz.func164,Tryz.ntmps164
 go_wp2
 rw [← hw0]
 clear hw0
 obtain ⟨P0,Q0⟩:=A.out _ (FrW.refl _ _)
 obtain ⟨p0,p1,_⟩:=row2 P0
 obtain ⟨q0,q1,_⟩:=row2 Q0
 have d0:=fun o => cell_on (al1 w0 o) q0
 have d1:=fun o => cell_on (al1 w0 o) q1
 have e0:=fun o => cell_on (al1 w0 o) p0
 have e1:=fun o => cell_on (al1 w0 o) p1
 go_region_law (fail)
 all_goals go_wp2_with (first
  | (go_at_call 18;(with_reducible refine (put_any [33] h3 (by decide)).mono ?_);rintro e w4 (⟨hq4,rfl,f4⟩ | ⟨us4,hq4,rfl,h4,f4⟩);(focus (go_wp2;go_ret;exact (OutB.seq hq3 f3 (outb_last hq4 f4)).mono0 (f0.trans g1))))
  | (go_at_call 164;(with_reducible refine (H _ _ h1).mono ?_);rintro e w3 (⟨hq3,rfl,f3⟩ | ⟨us3,hq3,rfl,h3,f3⟩);(focus (go_wp2;go_ret;exact (outb_no hq3 f3).mono0 (f0.trans g1)));have F3 : FrW V w0 w3:=g1.trans f3;obtain ⟨P3,_⟩:=A.out _ F3;obtain ⟨p30,p31,_⟩:=row2 P3)
  | fail)
 all_goals go_ret
 all_goals exact (OutB.seq hq3 f3 (outb_end hq4 h4 f4)).mono0 (f0.trans g1)
set_option maxRecDepth 100000 in
set_option maxHeartbeats 8000000 in
theorem wref_33y {V : Nat} {w : World} {ts : List Bs} (fx : Bool) (t : Bs) (D E : ByteArray) (m : Nat) (h : Wk V w ts) (hm : m ≤ txM) (hD : D.size = m + 1) (hE : D.extract 0 m = E) (hc : ∀ q : m < D.size,(D[m]'q).toNat = 33) (hm0 : 0 < m) (hp : ∀ q : m - 1 < D.size,(D[m - 1]'q).toNat ≠ 33) (r : Bs)
  (H : ∀ (W : World) (zs : List Bs),Wk V W zs → Calls Tryz.prog 164 #[wrV V fx,.agg #[.string ⟨t.toArray⟩,.string E]] W (OutB V W (refW t r) zs)) :
  Calls Tryz.prog 164 #[wrV V fx,.agg #[.string ⟨t.toArray⟩,.string D]] w (OutB V w (andW (refW t r) (some [[33]])) ts):=by
 have hm' : m ≤ 140737488355328:=hm
 obtain ⟨w0,hw0⟩ : ∃ w0,w0 = (w.alloc (boxW V fx)).alloc (.cells #[.string ⟨t.toArray⟩,.string D] 97):=⟨_,rfl⟩
 have h0 : Wk V w0 ts:=by rw [hw0];exact (h.al _).al _
 have f0 : FrW V w w0:=by rw [hw0];exact (al1V _).trans (al1V _)
 have A : Hid (∀ W,FrW V w0 W → W.heap[w.heap.size]? = some (.cells #[putV V,.bool fx] 56 (0,0)) ∧ W.heap[w.heap.size + 1]? = some (.cells #[.string ⟨t.toArray⟩,.string D] 97 (0,0))):=fun W F => box2 (by rw [← hw0];exact F) h.lt (by decide)
 have hltV:=h.lt
 have h1 : Wk V ((w0.alloc (.cells #[.string ⟨t.toArray⟩,.string E] 97)).drew) ts:=(h0.al _).on (drewB _)
 have g1 : FrW V w0 ((w0.alloc (.cells #[.string ⟨t.toArray⟩,.string E] 97)).drew):=(al1V _).trans (frw_of (drewB _))
 have A1 : Hid (∀ W,FrW V ((w0.alloc (.cells #[.string ⟨t.toArray⟩,.string E] 97)).drew) W → W.heap[w0.heap.size]? = some (.cells #[.string ⟨t.toArray⟩,.string E] 97 (0,0))):=fun W F => ((frw_of (drewB _)).trans F).old (heap_alloc_new w0 _) h0.lt (by decide)
 have n1 : decide ((m : Int) < 0) = false:=by simp
 have b1 : (m : Int) ≤ (m : Int) + 1:=by omega
 have c1 : m < D.size:=by omega
 have hc1:=hc c1
 have c2 : m - 1 < D.size:=by omega
 have hp1:=hp c2
 have l1 : (((D[m - 1]'c2).toNat : Int) == 33) = false:=by rw [beq_eq_false_iff_ne];omega
 have l3 : (((D[m - 1]'c2).toNat : Int) != 33) = true:=by simp only [bne,l1];rfl
 have l2 : ((m : Int) == 0) = false:=by rw [beq_eq_false_iff_ne];omega
 have b2 : (0 : Int) ≤ (m : Int) - 1:=by omega
 have b3 : (m : Int) - 1 < (m : Int) + 1:=by omega
 have b4 : ((m : Int) - 1).toNat = m - 1:=by omega
 go_enter Tryz.func164,Tryz.ntmps164
 go_wp2
 rw [← hw0]
 clear hw0
 obtain ⟨P0,Q0⟩:=A.out _ (FrW.refl _ _)
 obtain ⟨p0,p1,_⟩:=row2 P0
 obtain ⟨q0,q1,_⟩:=row2 Q0
 have d0:=fun o => cell_on (al1 w0 o) q0
 have d1:=fun o => cell_on (al1 w0 o) q1
 have e0:=fun o => cell_on (al1 w0 o) p0
 have e1:=fun o => cell_on (al1 w0 o) p1
 go_region_law (fail)
 all_goals go_wp2_with (first
  | (go_at_call 18;(with_reducible refine (put_any [33] h3 (by decide)).mono ?_);rintro e w4 (⟨hq4,rfl,f4⟩ | ⟨us4,hq4,rfl,h4,f4⟩);(focus (go_wp2;go_ret;exact (OutB.seq hq3 f3 (outb_last hq4 f4)).mono0 (f0.trans g1))))
  | (go_at_call 164;(with_reducible refine (H _ _ h1).mono ?_);rintro e w3 (⟨hq3,rfl,f3⟩ | ⟨us3,hq3,rfl,h3,f3⟩);(focus (go_wp2;go_ret;exact (outb_no hq3 f3).mono0 (f0.trans g1)));have F3 : FrW V w0 w3:=g1.trans f3;obtain ⟨P3,_⟩:=A.out _ F3;obtain ⟨p30,p31,_⟩:=row2 P3)
  | fail)
 all_goals go_ret
 all_goals exact (OutB.seq hq3 f3 (outb_end hq4 h4 f4)).mono0 (f0.trans g1)
set_option maxRecDepth 100000 in
set_option maxHeartbeats 8000000 in
theorem wref_33n {V : Nat} {w : World} {ts : List Bs} (fx : Bool) (t : Bs) (D E : ByteArray) (m : Nat) (h : Wk V w ts) (hm : m ≤ txM) (hD : D.size = m + 1) (hE : D.extract 0 m = E) (hc : ∀ q : m < D.size,(D[m]'q).toNat = 33) (hm0 : 0 < m) (hp : ∀ q : m - 1 < D.size,(D[m - 1]'q).toNat = 33) :
  Calls Tryz.prog 164 #[wrV V fx,.agg #[.string ⟨t.toArray⟩,.string D]] w (OutB V w none ts):=by
 have hm' : m ≤ 140737488355328:=hm
 obtain ⟨w0,hw0⟩ : ∃ w0,w0 = (w.alloc (boxW V fx)).alloc (.cells #[.string ⟨t.toArray⟩,.string D] 97):=⟨_,rfl⟩
 have h0 : Wk V w0 ts:=by rw [hw0];exact (h.al _).al _
 have f0 : FrW V w w0:=by rw [hw0];exact (al1V _).trans (al1V _)
 have A : Hid (∀ W,FrW V w0 W → W.heap[w.heap.size]? = some (.cells #[putV V,.bool fx] 56 (0,0)) ∧ W.heap[w.heap.size + 1]? = some (.cells #[.string ⟨t.toArray⟩,.string D] 97 (0,0))):=fun W F => box2 (by rw [← hw0];exact F) h.lt (by decide)
 have hltV:=h.lt
 have h1 : Wk V ((w0.alloc (.cells #[.string ⟨t.toArray⟩,.string E] 97)).drew) ts:=(h0.al _).on (drewB _)
 have g1 : FrW V w0 ((w0.alloc (.cells #[.string ⟨t.toArray⟩,.string E] 97)).drew):=(al1V _).trans (frw_of (drewB _))
 have A1 : Hid (∀ W,FrW V ((w0.alloc (.cells #[.string ⟨t.toArray⟩,.string E] 97)).drew) W → W.heap[w0.heap.size]? = some (.cells #[.string ⟨t.toArray⟩,.string E] 97 (0,0))):=fun W F => ((frw_of (drewB _)).trans F).old (heap_alloc_new w0 _) h0.lt (by decide)
 have n1 : decide ((m : Int) < 0) = false:=by simp
 have b1 : (m : Int) ≤ (m : Int) + 1:=by omega
 have c1 : m < D.size:=by omega
 have hc1:=hc c1
 have c2 : m - 1 < D.size:=by omega
 have hp1:=hp c2
 have l2 : ((m : Int) == 0) = false:=by rw [beq_eq_false_iff_ne];omega
 have b2 : (0 : Int) ≤ (m : Int) - 1:=by omega
 have b3 : (m : Int) - 1 < (m : Int) + 1:=by omega
 have b4 : ((m : Int) - 1).toNat = m - 1:=by omega
 go_enter Tryz.func164,Tryz.ntmps164
 go_wp2
 rw [← hw0]
 clear hw0
 obtain ⟨P0,Q0⟩:=A.out _ (FrW.refl _ _)
 obtain ⟨p0,p1,_⟩:=row2 P0
 obtain ⟨q0,q1,_⟩:=row2 Q0
 have d0:=fun o => cell_on (al1 w0 o) q0
 have d1:=fun o => cell_on (al1 w0 o) q1
 have e0:=fun o => cell_on (al1 w0 o) p0
 have e1:=fun o => cell_on (al1 w0 o) p1
 go_region_law (fail)
 all_goals go_wp2
 all_goals go_ret
 all_goals exact outb_none rfl (f0.trans g1)
end Go.Proofs.YtgmlbjfgfmfliaaGreatDoor
