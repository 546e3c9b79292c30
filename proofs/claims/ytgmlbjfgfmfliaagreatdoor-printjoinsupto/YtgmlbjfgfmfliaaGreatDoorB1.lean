/- One more value in a list: the item's walk. -/
import Derived.Test.YtgmlbjfgfmfliaaGreatDoorA04
namespace Go.Proofs.YtgmlbjfgfmfliaaGreatDoor
open Go Go.RowKit
section
variable {R g cap : Nat} {T : List Tok} {fx : Bool} {a b c : Nat} {V P B : Nat} {cur : Array Value} {ty tp : TypeId}
attribute [local go_sem ↓] Go.wp_at_zero Go.wp_at_succ
set_option maxRecDepth 100000 in
set_option maxHeartbeats 40000000 in
theorem list1_item (pl : Pl R g V P B) (hi : 2 < cur.size) (n : Nat) (X : ValP R g cap T fx a b c n) : ItemR R g cap T fx a b c V P B cur ty tp 2 35 4 230 #[.pointer (some ⟨V,0,none⟩),.pointer (some ⟨P,0,none⟩)] (valF fx n):=by
 intro els l w lv xs D hj hn h hl
 obtain ⟨o,lc,rfl⟩:=hj.slice
 have XA:=X w.drew l h.drew hl
 have XB:=X (w.alloc zeroV).drew l (h.alloc _).drew hl
 have cV:=hj.cell hi
 have fV:=hj.free 2
 have cP:=hj.ptr
 have HJ : Hid (Js R V P B cur ty tp 2 35 4 w els (.slice o els.length lc) xs D):=hj
 have HS : Hid (Sx R g cap T w l fx a b c):=h
 have hsz:=hj.size
 have aV:=fun o => cell_on (al1 w o) cV
 have aP:=fun o => cell_on (al1 w o) cP
 have hn2 : els.length ≤ 2049:=by omega
 have hi0 : (0 : Int) ≤ (els.length : Int):=by omega
 have hi1 : (els.length : Int) < (els.length : Int) + 1:=by omega
 obtain ⟨ti,hti,hy0,hy1,hy2⟩:=info_parts Tryz.infoVal
 clear X hj h
 go_enter Tryz.func230,Tryz.ntmps230
 go_wp2
 go_region_law (first
  | (refine step_append_lies _ (by rfl) (.tmp 3) (.tmp 7) 32 (by rfl) B 35 ti _ 4 72 Tryz.underlying32 hti hy0 hy1 hy2 rfl (by decide) (.slice o els.length lc) els.length xs (by rfl) (HO.out.alloc _) ⟨w1.heap.size,0,none⟩ 1 1 zerosV (by rfl) rfl (World.news_of_block (heap_alloc_new _ _)) zerosV_one (by decide) (by unfold maxLen;omega) (by omega) (by simp;omega) (w1.heap.size + 1) (by simp) ?_;intro q cp w2 own2 hgr hor hlt2;obtain ⟨cV2,fV2,q0,q1,q2,q3,fq,x1,x2⟩:=place4 cV1 fV1 pl.bV HO.out (al1 w1 _) hgr own2;have OW : Hid _:=own2;have GR : Hid _:=hgr;have OR : Hid _:=hor;clear own2 hgr hor)
  | (refine step_append_lies _ (by rfl) (.tmp 3) (.tmp 7) 32 (by rfl) B 35 ti _ 4 72 Tryz.underlying32 hti hy0 hy1 hy2 rfl (by decide) (.slice o els.length lc) els.length xs (by rfl) HO.out ⟨w.heap.size,0,none⟩ 1 1 zerosV (by rfl) rfl (World.news_of_block bT) zerosV_one (by decide) (by unfold maxLen;omega) (by omega) (by omega) w1.heap.size rfl ?_;intro q cp w2 own2 hgr hor hlt2;obtain ⟨cV2,fV2,q0,q1,q2,q3,fq,x1,x2⟩:=place4 cV1 fV1 pl.bV HO.out (Below.refl _ w1) hgr own2;have OW : Hid _:=own2;have GR : Hid _:=hgr;have OR : Hid _:=hor;clear own2 hgr hor)
  | (go_simp;go_wp2_with (first
    | (go_at_call 192;(with_reducible refine XA.mono ?_);rintro e w1 (⟨p,hq,rfl,k1⟩ | ⟨el,m,v,hq,rfl,⟨kk,tt,o1,n1,z1,o2,n2,z2,rfl,hat⟩,h1,m1,k1⟩);(exact ⟨rfl,Or.inl ⟨p,hq,rfl,((Kp.refl (Own1 R) w).drew).trans k1⟩⟩);have isA : True:=trivial;obtain ⟨cV1,fV1,cP1,HO⟩:=js_facts HJ.out pl hi (((Kp.refl (Own1 R) w).drew).trans k1);have hz1 : w.heap.size ≤ w1.heap.size:=k1.size;have K1 : Hid _:=k1;have AT : Hid _:=hat;have H1 : Hid _:=h1;have HQ : Hid _:=hq;clear k1 hat h1 hq;have aV1:=fun o => cell_on (al1 w1 o) cV1)
    | (go_at_call 192;(with_reducible refine XB.mono ?_);rintro e w1 (⟨p,hq,rfl,k1⟩ | ⟨el,m,v,hq,rfl,⟨kk,tt,o1,n1,z1,o2,n2,z2,rfl,hat⟩,h1,m1,k1⟩);(exact ⟨rfl,Or.inl ⟨p,hq,rfl,(((Kp.refl (Own1 R) w).alloc _).drew).trans k1⟩⟩);have isB : True:=trivial;obtain ⟨cV1,fV1,cP1,HO⟩:=js_facts HJ.out pl hi ((((Kp.refl (Own1 R) w).alloc _).drew).trans k1);have bT : w1.heap[w.heap.size]? = some (.cells #[.int .i64 0,.string ⟨#[]⟩,.slice none 0 0,.slice none 0 0] 35 (0,0)):=new_row (((Kp.refl (Own1 R) (w.alloc _)).drew).trans k1) (fun e => by have e' : w.heap.size = R:=e;have:=pl.bR;omega);have hz1 : w.heap.size + 1 ≤ w1.heap.size:=(by have hz:=k1.size;simpa using hz);have K1 : Hid _:=k1;have AT : Hid _:=hat;have H1 : Hid _:=h1;have HQ : Hid _:=hq;clear k1 hat h1 hq;have aV1:=fun o => cell_on (al1 w1 o) cV1)
    | fail))
  | fail)
 all_goals go_end0
 all_goals try rw [swap4 x2]
 all_goals first
  | (have _m:=isA;have hA:=fun w4 h4 => item_end4 (w4:=w4) HJ.out pl ((Kp.refl Non w).drew) K1.out AT.out ((Kp.refl Non w1).alloc _) GR.out (World.size_alloc _ _) OR.out OW.out HQ.out H1.out m1 (Or.inl h4);(with_reducible exact hA _ rfl))
  | (have _m:=isB;have hA:=fun w4 h4 => item_end4 (w4:=w4) HJ.out pl (((Kp.refl Non w).alloc _).drew) K1.out AT.out (Kp.refl Non w1) GR.out rfl OR.out OW.out HQ.out H1.out m1 (Or.inl h4);(with_reducible exact hA _ rfl))
  | fail
end
end Go.Proofs.YtgmlbjfgfmfliaaGreatDoor
