/- One more member of an object: the item's walk. -/
import Derived.Test.YtgmlbjfgfmfliaaGreatDoorA05
namespace Go.Proofs.YtgmlbjfgfmfliaaGreatDoor
open Go Go.RowKit
theorem own_drew {w : World} {B E sz n : Nat} {v : Value} {xs : List Value} (h : w.ownsRow B E sz v n xs) : w.drew.ownsRow B E sz v n xs:=h
theorem new_drew (w : World) (o : Obj) : (w.alloc o).drew.heap[w.heap.size]? = some o:=heap_alloc_new w o
theorem Tryz.infoStr : (Tryz.prog.info? 9).map (fun i => (i.zero,i.size,i.bytes)) = some (some (.string ⟨#[]⟩),1,16):=by kernel_rfl
section
variable {R g cap : Nat} {T : List Tok} {fx : Bool} {a b c : Nat} {V P B : Nat}
attribute [local go_sem ↓] Go.wp_at_zero Go.wp_at_succ
set_option maxRecDepth 100000 in
set_option maxHeartbeats 40000000 in
theorem object1_any (pl : Pl R g V P B) (n : Nat) (X : ValP R g cap T fx a b c n) (ms : List (Bs × List CT)) (l : List Tok) (w : World) (lv nv : Value) (xs ns : List Value) (D Dn : Nat → Prop) (hj : Jo R V P B w ms lv nv xs ns D Dn) (hn : ms.length + l.length ≤ 2049) (h : Sx R g cap T w l fx a b c) (hl : l ≠ []) :
  Calls Tryz.prog 231 #[.pointer (some ⟨P,0,none⟩),.pointer (some ⟨V,0,none⟩)] w fun e w' => (∃ p,memS (valF fx n) l = .error p ∧ e = DiesY p ∧ Kp (Own1 R) w w') ∨ (∃ x m,memS (valF fx n) l = .ok (x,m) ∧ e = .returned (.tuple #[]) ∧ (∃ lv' nv' xs' ns' D' Dn',Jo R V P B w' (ms ++ [x]) lv' nv' xs' ns' D' Dn') ∧ Kp (fun k => k = R ∨ k = V ∨ lv.ownBlock = some k ∨ nv.ownBlock = some k) w w' ∧ Sx R g cap T w' m fx a b c ∧ m ≠ []):=by
 obtain ⟨o,lc,hlv⟩:=hj.jl.slice
 obtain ⟨o',nc,hnv⟩:=hj.jn.slice
 rw [List.length_map] at hlv hnv
 subst hlv hnv
 have M:=member_any X h hl
 have cP:=hj.jl.ptr
 have HJ : Hid (Jo R V P B w ms (.slice o ms.length lc) (.slice o' ms.length nc) xs ns D Dn):=hj
 have HS : Hid (Sx R g cap T w l fx a b c):=h
 have hsz:=hj.jl.size
 have hn2 : ms.length ≤ 2049:=by omega
 have hi0 : (0 : Int) ≤ (ms.length : Int):=by omega
 have hi1 : (ms.length : Int) < (ms.length : Int) + 1:=by omega
 obtain ⟨ti,hti,hy0,hy1,hy2⟩:=info_parts Tryz.infoVal
 obtain ⟨si,hsi,sy0,sy1,sy2⟩:=info_parts Tryz.infoStr
 clear X hj h
 go_enter Tryz.func231,Tryz.ntmps231
 go_wp2_with (first
  | (at_builtin;refine wpList_append_lies _ rfl _ _ _ rfl B 9 si _ 1 16 Tryz.underlying33 hsi sy0 sy1 sy2 rfl (by decide) (.slice o' ms.length nc) ms.length ns rfl HON.out ⟨w1.heap.size + 1,0,none⟩ 1 1 [.string ⟨x.toArray⟩] rfl rfl (World.news_of_block bT.out) (by intro u hu;simp at hu;subst hu;rfl) (by decide) (by unfold maxLen;omega) (by omega) (by simp;omega) (w1.heap.size + 2) (by simp) ?_;intro q cp w2 own2 hgr hor hlt2;have OW : Hid _:=own2;have GR : Hid _:=hgr;have OR : Hid _:=hor;clear own2 hgr hor;have hv2:=HJ.out.jn.var2 pl (Kp.refl Non w) K1.out (((Kp.refl Non w1).alloc _).alloc _) GR.out;obtain ⟨e0,e1,e2,e3,ef⟩:=row4 hv2;clear hv2)
  | (go_at_call 186;refine M.mono ?_;rintro e w1 (⟨p,hq,rfl,k1⟩ | ⟨⟨x,cs⟩,m,v,hq,rfl,⟨kk,tt,o1,n1,z1,o2,n2,z2,rfl,hat⟩,h1,m1,k1⟩);(exact ⟨rfl,Or.inl ⟨p,hq,rfl,k1⟩⟩);have hz1:=k1.size;have j1:=HJ.out.kp pl k1;obtain ⟨v0,v1,v2,v3,vf⟩:=row4 j1.jn.var;have aV3:=fun o => cell_on (al1 w1 o) v3;have HON : Hid _:=((j1.jn.own.alloc (.cells #[.int .i64 kk,.string tt,.slice o1 n1 z1,.slice o2 n2 z2] 35)).alloc (.cells #[.string ⟨x.toArray⟩] 9));rw [List.length_map] at HON;have bT : Hid _:=heap_alloc_new (w1.alloc (.cells #[.int .i64 kk,.string tt,.slice o1 n1 z1,.slice o2 n2 z2] 35)) (.cells #[.string ⟨x.toArray⟩] 9);rw [World.size_alloc] at bT;have K1 : Hid _:=k1;have AT : Hid _:=hat;have H1 : Hid _:=h1;have HQ : Hid _:=hq;clear k1 hat h1 hq j1))
 obtain ⟨⟨Dn',hno,jn3⟩,jl3,k3,hfq,hor3,k13⟩:=HJ.out.name pl K1.out (((Kp.refl Non w1).alloc _).alloc _) GR.out (by simp) OR.out OW.out
 have hold : ∀ k,(Value.slice o' ms.length nc).ownBlock = some k → B ≤ k ∧ k < w.heap.size:=fun k e => own_block HJ.out.jn.own e
 have pV:=pl.bV;have pR:=pl.bR;have pg:=pl.bg
 have bY : (w2.setCell ⟨V,3,none⟩ (.slice (some ⟨q,0,none⟩) (ms.length + 1) cp)).heap[w1.heap.size]? = some (.cells #[.int .i64 kk,.string tt,.slice o1 n1 z1,.slice o2 n2 z2] 35 (0,0)):=by
  refine old_row (heap_alloc_new w1 _) ((((Kp.refl (fun k => (Value.slice o' ms.length nc).ownBlock = some k ∨ k = V) _).alloc _).grew GR.out (fun k e => Or.inr (Or.inl e))).set V 3 _ (Or.inr (Or.inr rfl))) ?_
  rintro (e | e)
  ·have:=(hold _ e).2;omega
  ·omega
 have AT3 : Ats (w2.setCell ⟨V,3,none⟩ (.slice (some ⟨q,0,none⟩) (ms.length + 1) cp)) (Iv w.heap.size w1.heap.size) cs [.int .i64 kk,.string tt,.slice o1 n1 z1,.slice o2 n2 z2]:=by
  refine AT.out.keep (fun k hk => k13.block k hk.2 ?_)
  have:=hk.1
  rintro (e | e | e)
  ·omega
  ·have:=(hold _ e).2;omega
  ·subst e
   rcases hor3 with e | e
   ·have:=(hold _ e).2;omega
   ·have:=hk.2;omega
 have S3 : Sx R g cap T (w2.setCell ⟨V,3,none⟩ (.slice (some ⟨q,0,none⟩) (ms.length + 1) cp)) m fx a b c:=by
  have hBq : B ≤ q:=(own_block jn3.own rfl).1
  refine H1.out.kp k13 ?_ ?_
  ·rintro (e | e | e)
   ·exact pl.VR e.symm
   ·have:=(hold _ e).1;omega
   ·omega
  ·rintro (e | e | e)
   ·exact pl.Vg e.symm
   ·have:=(hold _ e).1;omega
   ·omega
 have hz3:=k13.size
 have hDq : ¬ Iv w.heap.size w1.heap.size q:=fun e => by
  rcases hor3 with e3 | e3
  ·have:=(hold _ e3).2;have:=e.1;omega
  ·have:=e.2;omega
 clear e0 e1 e2 e3 ef v0 v1 v2 v3 vf aV3 OW GR OR HON bT hlt2 M cP
 generalize w2.setCell ⟨V,3,none⟩ (.slice (some ⟨q,0,none⟩) (ms.length + 1) cp) = w3 at *
 obtain ⟨v0,v1,v2,v3,vf⟩:=row4 jl3.var
 obtain ⟨y0,y1,y2,y3,yf⟩:=row4 bY
 have aV:=fun o => cell_on (al1 w3 o) v2
 have a0:=fun o => cell_on (al1 w3 o) y0
 have a1:=fun o => cell_on (al1 w3 o) y1
 have a2:=fun o => cell_on (al1 w3 o) y2
 have a3:=fun o => cell_on (al1 w3 o) y3
 have HO : Hid (w3.ownsRow B 35 4 (.slice o ms.length lc) ms.length xs):=by have:=jl3.own;rw [List.length_map] at this;exact this
 have hz5 : B ≤ w3.heap.size:=jl3.size
 have JL : Hid _:=jl3
 have JN : Hid _:=jn3
 have KA : Hid _:=k3
 have A3 : Hid _:=AT3
 have SS : Hid _:=S3
 have HAP : Hid (∀ q',(Value.slice (some ⟨q,0,none⟩) (ms.length + 1) cp).ownBlock = some q' → (Value.slice o ms.length lc).ownBlock ≠ some q' ∧ ¬ D q' ∧ ¬ Iv w.heap.size w1.heap.size q'):=by
  intro q' e
  have e2 : q = q':=by simpa [Value.ownBlock] using e
  subst e2
  exact ⟨hfq.1,hfq.2,hDq⟩
 have HDE : Hid (∀ k,Iv w.heap.size w1.heap.size k → B ≤ k ∧ k < w3.heap.size ∧ (Value.slice o ms.length lc).ownBlock ≠ some k):=fun k e => ⟨by have:=e.1;omega,by have:=e.2;omega,fun e' => by have:=(own_block HJ.out.jl.own e').2;have:=e.1;omega⟩
 have HKK : Hid (∀ w6,Kp (fun k => k = R ∨ k = V ∨ (Value.slice o ms.length lc).ownBlock = some k) w3 w6 → Kp (fun k => k = R ∨ k = V ∨ (Value.slice o ms.length lc).ownBlock = some k ∨ (Value.slice o' ms.length nc).ownBlock = some k) w w6):=fun w6 f2 => (k3.mono (fun _ _ e => by rcases e with e | e | e;exact Or.inl e;exact Or.inr (Or.inl e);exact Or.inr (Or.inr (Or.inr e)))).trans (f2.mono (fun _ _ e => by rcases e with e | e | e;exact Or.inl e;exact Or.inr (Or.inl e);exact Or.inr (Or.inr (Or.inl e))))
 have HSS : Hid (∀ w6 q5,Kp (fun k => (Value.slice o ms.length lc).ownBlock = some k ∨ k = q5 ∨ k = V) w3 w6 → B ≤ q5 → Sx R g cap T w6 m fx a b c):=fun w6 q5 f3 hq5 => S3.kp f3 (by
  rintro (e | e | e)
  ·have:=(own_block jl3.own e).1;omega
  ·omega
  ·exact pl.VR e.symm) (by
  rintro (e | e | e)
  ·have:=(own_block jl3.own e).1;omega
  ·omega
  ·exact pl.Vg e.symm)
 clear jl3 jn3 k3 AT3 S3 bY k13 HS
 go_region_law (first
  | (refine step_append_lies _ (by rfl) (.tmp 16) (.tmp 19) 32 (by rfl) B 35 ti _ 4 72 Tryz.underlying32 hti hy0 hy1 hy2 rfl (by decide) (.slice o ms.length lc) ms.length xs (by rfl) (own_drew (HO.out.alloc _)) ⟨w3.heap.size,0,none⟩ 1 1 zerosV (by rfl) rfl (World.news_of_block (new_drew _ _)) zerosV_one (by decide) (by unfold maxLen;omega) (by omega) (by simp;omega) (w3.heap.size + 1) (by simp) ?_;intro q5 cp5 w5 own5 hgr5 hor5 hlt5;obtain ⟨cV2,fV2,q0,q1,q2,q3,fq,x1,x2⟩:=place4 (els:=ms.map (·.2)) v2 (vf 2) pl.bV (by rw [List.length_map];exact HO.out) ((al1 w3 _).drew) hgr5 (by rw [List.length_map];exact own5);simp only [List.length_map] at q0 q1 q2 q3;have OW : Hid _:=own5;have GR : Hid _:=hgr5;have OR : Hid _:=hor5;clear own5 hgr5 hor5)
  | fail)
 all_goals go_end0
 all_goals try rw [swap4 x2]
 all_goals
  obtain ⟨f1,f2,f3⟩:=Jo.value (x:=x) JL.out JN.out hno HAP.out pl A3.out HDE.out (((Kp.refl Non w3).alloc _).drew) GR.out (World.size_alloc _ _) OR.out OW.out rfl
  exact Or.inr ⟨(x,cs),m,HQ.out,rfl,f1,HKK.out _ f2,HSS.out _ _ f3 (own_block OW.out rfl).1,m1⟩
end
end Go.Proofs.YtgmlbjfgfmfliaaGreatDoor
