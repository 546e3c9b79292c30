/- One more selection in a set: the item's walk. -/
import Derived.Test.YtgmlbjfgfmfliaaGreatDoorA07
namespace Go.Proofs.YtgmlbjfgfmfliaaGreatDoor
open Go Go.RowKit
section
variable {R g cap : Nat} {T : List Tok} {a : Nat} {V P B : Nat} {cur : Array Value} {ty tp : TypeId}
attribute [local go_sem ↓] Go.wp_at_zero Go.wp_at_succ
set_option maxRecDepth 100000 in
set_option maxHeartbeats 40000000 in
theorem set1_item (pl : Pl R g V P B) (hi : 0 < cur.size) (st : List Tok → Rs (List (List CT))) (X : SelP R g cap T a st) : ItemR R g cap T false a 0 0 V P B cur ty tp 0 48 7 154 #[.pointer (some ⟨V,0,none⟩),.pointer (some ⟨P,0,none⟩)] (selS st):=by
 intro els l w lv xs D hj hn h hl
 obtain ⟨o,lc,rfl⟩:=hj.slice
 have XA:=X w.drew l h.drew hl
 have XB:=X (w.alloc zeroS).drew l (h.alloc _).drew hl
 have cV:=hj.cell hi
 have fV:=hj.free 0
 have cP:=hj.ptr
 have HJ : Hid (Js R V P B cur ty tp 0 48 7 w els (.slice o els.length lc) xs D):=hj
 have HS : Hid (Sx R g cap T w l false a 0 0):=h
 have hsz:=hj.size
 have aV:=fun o => cell_on (al1 w o) cV
 have aP:=fun o => cell_on (al1 w o) cP
 have hn2 : els.length ≤ 2049:=by omega
 have hi0 : (0 : Int) ≤ (els.length : Int):=by omega
 have hi1 : (els.length : Int) < (els.length : Int) + 1:=by omega
 obtain ⟨ti,hti,hy0,hy1,hy2⟩:=info_parts Tryz.infoSel
 clear X hj h
 go_enter Tryz.func154,Tryz.ntmps154
 go_wp2
 go_region_law (first
  | (refine step_append_lies _ (by rfl) (.tmp 2) (.tmp 6) 46 (by rfl) B 48 ti _ 7 128 Tryz.underlying46 hti hy0 hy1 hy2 rfl (by decide) (.slice o els.length lc) els.length xs (by rfl) (HO.out.alloc _) ⟨w1.heap.size,0,none⟩ 1 1 zerosS (by rfl) rfl (World.news_of_block (heap_alloc_new _ _)) zerosS_one (by decide) (by unfold maxLen;omega) (by omega) (by simp;omega) (w1.heap.size + 1) (by simp) ?_;intro q cp w2 own2 hgr hor hlt2;obtain ⟨cV2,fV2,q0,q1,q2,q3,q4,q5,q6,fq,x1,x2⟩:=place7 cV1 fV1 pl.bV HO.out (al1 w1 _) hgr own2;have OW : Hid _:=own2;have GR : Hid _:=hgr;have OR : Hid _:=hor;clear own2 hgr hor)
  | (refine step_append_lies _ (by rfl) (.tmp 2) (.tmp 6) 46 (by rfl) B 48 ti _ 7 128 Tryz.underlying46 hti hy0 hy1 hy2 rfl (by decide) (.slice o els.length lc) els.length xs (by rfl) HO.out ⟨w.heap.size,0,none⟩ 1 1 zerosS (by rfl) rfl (World.news_of_block bT) zerosS_one (by decide) (by unfold maxLen;omega) (by omega) (by omega) w1.heap.size rfl ?_;intro q cp w2 own2 hgr hor hlt2;obtain ⟨cV2,fV2,q0,q1,q2,q3,q4,q5,q6,fq,x1,x2⟩:=place7 cV1 fV1 pl.bV HO.out (Below.refl _ w1) hgr own2;have OW : Hid _:=own2;have GR : Hid _:=hgr;have OR : Hid _:=hor;clear own2 hgr hor)
  | (go_simp;go_wp2_with (first
    | (go_at_call 155;(with_reducible refine XA.mono ?_);rintro e w1 (⟨p,hq,rfl,k1⟩ | ⟨el,m,v,hq,rfl,⟨kk,ta,tn,tO,o1,n1,z1,o2,n2,z2,o3,n3,z3,rfl,hat⟩,h1,m1,k1⟩);(exact ⟨rfl,Or.inl ⟨p,hq,rfl,((Kp.refl (Own1 R) w).drew).trans k1⟩⟩);have isA : True:=trivial;obtain ⟨cV1,fV1,cP1,HO⟩:=js_facts HJ.out pl hi (((Kp.refl (Own1 R) w).drew).trans k1);have hz1 : w.heap.size ≤ w1.heap.size:=k1.size;have K1 : Hid _:=k1;have AT : Hid _:=hat;have H1 : Hid _:=h1;have HQ : Hid _:=hq;clear k1 hat h1 hq;have aV1:=fun o => cell_on (al1 w1 o) cV1)
    | (go_at_call 155;(with_reducible refine XB.mono ?_);rintro e w1 (⟨p,hq,rfl,k1⟩ | ⟨el,m,v,hq,rfl,⟨kk,ta,tn,tO,o1,n1,z1,o2,n2,z2,o3,n3,z3,rfl,hat⟩,h1,m1,k1⟩);(exact ⟨rfl,Or.inl ⟨p,hq,rfl,(((Kp.refl (Own1 R) w).alloc _).drew).trans k1⟩⟩);have isB : True:=trivial;obtain ⟨cV1,fV1,cP1,HO⟩:=js_facts HJ.out pl hi ((((Kp.refl (Own1 R) w).alloc _).drew).trans k1);have bT : w1.heap[w.heap.size]? = some (.cells #[.int .i64 0,.string ⟨#[]⟩,.string ⟨#[]⟩,.string ⟨#[]⟩,.slice none 0 0,.slice none 0 0,.slice none 0 0] 48 (0,0)):=new_row (((Kp.refl (Own1 R) (w.alloc _)).drew).trans k1) (fun e => by have e' : w.heap.size = R:=e;have:=pl.bR;omega);have hz1 : w.heap.size + 1 ≤ w1.heap.size:=(by have hz:=k1.size;simpa using hz);have K1 : Hid _:=k1;have AT : Hid _:=hat;have H1 : Hid _:=h1;have HQ : Hid _:=hq;clear k1 hat h1 hq;have aV1:=fun o => cell_on (al1 w1 o) cV1)
    | fail))
  | fail)
 all_goals go_end0
 all_goals try rw [swap7 x2]
 all_goals first
  | (have _m:=isA;have hA:=fun w4 h4 => item_end7 (w4:=w4) HJ.out pl ((Kp.refl Non w).drew) K1.out AT.out ((Kp.refl Non w1).alloc _) GR.out (World.size_alloc _ _) OR.out OW.out HQ.out H1.out m1 (Or.inl h4);(with_reducible exact hA _ rfl))
  | (have _m:=isB;have hA:=fun w4 h4 => item_end7 (w4:=w4) HJ.out pl (((Kp.refl Non w).alloc _).drew) K1.out AT.out (Kp.refl Non w1) GR.out rfl OR.out OW.out HQ.out H1.out m1 (Or.inl h4);(with_reducible exact hA _ rfl))
  | fail
end
end Go.Proofs.YtgmlbjfgfmfliaaGreatDoor
