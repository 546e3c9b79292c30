/- One more member of an object: the item's walk. -/
import Derived.Test.YtgppemlciohjcaaGreatDoorB08
namespace Go.Proofs.YtgppemlciohjcaaGreatDoor
section
open Go Go.RowKit
theorem own_drew {w : World} {B E sz n : Nat} {v : Value} {xs : List Value} (h : w.ownsRow B E sz v n xs) : w.drew.ownsRow B E sz v n xs:=h
theorem new_drew (w : World) (o : Obj) : (w.alloc o).drew.heap[w.heap.size]? = some o:=heap_alloc_new w o
theorem Tryz.infoStr : (Tryz.prog.info? 9).map (fun i => (i.zero,i.size,i.bytes)) = some (some (.string ⟨#[]⟩),1,16):=by kernel_rfl
section
variable {R g cap : Nat} {T : List Tok} {fx : Bool} {a b c : Nat} {V P B : Nat}
attribute [local go_sem ↓] Go.wp_at_zero Go.wp_at_succ
set_option maxRecDepth 100000 in
set_option maxHeartbeats 40000000 in
theorem object1_any (pl : Pl R g V P B) (n : Nat) (X : ValP R g cap T fx a b c n) (ms : List (Bs × List CT)) (l : List Tok) (w : World) (lv nv : Value) (xs ns : List Value) (D Dn : Nat → Prop) (hj : Jo R V P B w ms lv nv xs ns D Dn) (hn : ms.length + l.length ≤ 2049) (h : Sx R g cap T w l fx a b c) (hl : l ≠ []) :
  Calls Tryz.prog 160 #[.pointer (some ⟨P,0,none⟩),.pointer (some ⟨V,0,none⟩)] w fun e w' => (∃ p,memS (valF fx n) l = .error p ∧ e = DiesY p ∧ Kp (Own1 R) w w') ∨ (∃ x m,memS (valF fx n) l = .ok (x,m) ∧ e = .returned (.tuple #[]) ∧ (∃ lv' nv' xs' ns' D' Dn',Jo R V P B w' (ms ++ [x]) lv' nv' xs' ns' D' Dn') ∧ Kp (fun k => k = R ∨ k = V ∨ lv.ownBlock = some k ∨ nv.ownBlock = some k) w w' ∧ Sx R g cap T w' m fx a b c ∧ m ≠ []):=by
 obtain ⟨o,lc,hlv⟩:=hj.jl.slice
 obtain ⟨o',nc,hnv⟩:=hj.jn.slice
 rw [List.length_map] at hlv hnv
 subst hlv hnv
 have M:=member_any X h hl
 have cP:=hj.jl.ptr
 have HJ : Hid (Jo R V P B w ms (.slice o ms.length lc) (.slice o' ms.length nc) xs ns D Dn):=hj
 have HS : Hid (Sx R g cap T w l fx a b c):=h
 have hsz:=hj.jl.size
 have hn2 : ms.length ≤ 2049:=by omega
 have hi0 : (0 : Int) ≤ (ms.length : Int):=by omega
 have hi1 : (ms.length : Int) < (ms.length : Int) + 1:=by omega
 obtain ⟨ti,hti,hy0,hy1,hy2⟩:=info_parts Tryz.infoVal
 obtain ⟨si,hsi,sy0,sy1,sy2⟩:=info_parts Tryz.infoStr
 clear X hj h
 go_enter Tryz.func160,Tryz.ntmps160
 go_wp2_with (first
  | (at_builtin;refine wpList_append_lies _ rfl _ _ _ rfl B 9 si _ 1 16 Tryz.underlying38 hsi sy0 sy1 sy2 rfl (by decide) (.slice o' ms.length nc) ms.length ns rfl HON.out ⟨w1.heap.size + 1,0,none⟩ 1 1 [.string ⟨x.toArray⟩] rfl rfl (World.news_of_block bT.out) (by intro u hu;simp at hu;subst hu;rfl) (by decide) (by unfold maxLen;omega) (by omega) (by simp;omega) (w1.heap.size + 2) (by simp) ?_;intro q cp w2 own2 hgr hor hlt2;have OW : Hid _:=own2;have GR : Hid _:=hgr;have OR : Hid _:=hor;clear own2 hgr hor;have hv2:=HJ.out.jn.var2 pl (Kp.refl Non w) K1.out (((Kp.refl Non w1).alloc _).alloc _) GR.out;obtain ⟨e0,e1,e2,e3,ef⟩:=row4 hv2;clear hv2)
  | (go_at_call 114;refine M.mono ?_;rintro e w1 (⟨p,hq,rfl,k1⟩ | ⟨⟨x,cs⟩,m,v,hq,rfl,⟨kk,tt,o1,n1,z1,o2,n2,z2,rfl,hat⟩,h1,m1,k1⟩);(exact ⟨rfl,Or.inl ⟨p,hq,rfl,k1⟩⟩);have hz1:=k1.size;have j1:=HJ.out.kp pl k1;obtain ⟨v0,v1,v2,v3,vf⟩:=row4 j1.jn.var;have aV3:=fun o => cell_on (al1 w1 o) v3;have HON : Hid _:=((j1.jn.own.alloc (.cells #[.int .i64 kk,.string tt,.slice o1 n1 z1,.slice o2 n2 z2] 70)).alloc (.cells #[.string ⟨x.toArray⟩] 9));rw [List.length_map] at HON;have bT : Hid _:=heap_alloc_new (w1.alloc (.cells #[.int .i64 kk,.string tt,.slice o1 n1 z1,.slice o2 n2 z2] 70)) (.cells #[.string ⟨x.toArray⟩] 9);rw [World.size_alloc] at bT;have K1 : Hid _:=k1;have AT : Hid _:=hat;have H1 : Hid _:=h1;have HQ : Hid _:=hq;clear k1 hat h1 hq j1))
 obtain ⟨⟨Dn',hno,jn3⟩,jl3,k3,hfq,hor3,k13⟩:=HJ.out.name pl K1.out (((Kp.refl Non w1).alloc _).alloc _) GR.out (by simp) OR.out OW.out
 have hold : ∀ k,(Value.slice o' ms.length nc).ownBlock = some k → B ≤ k ∧ k < w.heap.size:=fun k e => own_block HJ.out.jn.own e
 have pV:=pl.bV;have pR:=pl.bR;have pg:=pl.bg
 have bY : (w2.setCell ⟨V,3,none⟩ (.slice (some ⟨q,0,none⟩) (ms.length + 1) cp)).heap[w1.heap.size]? = some (.cells #[.int .i64 kk,.string tt,.slice o1 n1 z1,.slice o2 n2 z2] 70 (0,0)):=by
  refine old_row (heap_alloc_new w1 _) ((((Kp.refl (fun k => (Value.slice o' ms.length nc).ownBlock = some k ∨ k = V) _).alloc _).grew GR.out (fun k e => Or.inr (Or.inl e))).set V 3 _ (Or.inr (Or.inr rfl))) ?_
  rintro (e | e)
  ·have:=(hold _ e).2;omega
  ·omega
 have AT3 : Ats (w2.setCell ⟨V,3,none⟩ (.slice (some ⟨q,0,none⟩) (ms.length + 1) cp)) (Iv w.heap.size w1.heap.size) cs [.int .i64 kk,.string tt,.slice o1 n1 z1,.slice o2 n2 z2]:=by
  refine AT.out.keep (fun k hk => k13.block k hk.2 ?_)
  have:=hk.1
  rintro (e | e | e)
  ·omega
  ·have:=(hold _ e).2;omega
  ·subst e
   rcases hor3 with e | e
   ·have:=(hold _ e).2;omega
   ·have:=hk.2;omega
 have S3 : Sx R g cap T (w2.setCell ⟨V,3,none⟩ (.slice (some ⟨q,0,none⟩) (ms.length + 1) cp)) m fx a b c:=by
  have hBq : B ≤ q:=(own_block jn3.own rfl).1
  refine H1.out.kp k13 ?_ ?_
  ·rintro (e | e | e)
   ·exact pl.VR e.symm
   ·have:=(hold _ e).1;omega
   ·omega
  ·rintro (e | e | e)
   ·exact pl.Vg e.symm
   ·have:=(hold _ e).1;omega
   ·omega
 have hz3:=k13.size
 have hDq : ¬ Iv w.heap.size w1.heap.size q:=fun e => by
  rcases hor3 with e3 | e3
  ·have:=(hold _ e3).2;have:=e.1;omega
  ·have:=e.2;omega
 clear e0 e1 e2 e3 ef v0 v1 v2 v3 vf aV3 OW GR OR HON bT hlt2 M cP
 generalize w2.setCell ⟨V,3,none⟩ (.slice (some ⟨q,0,none⟩) (ms.length + 1) cp) = w3 at *
 obtain ⟨v0,v1,v2,v3,vf⟩:=row4 jl3.var
 obtain ⟨y0,y1,y2,y3,yf⟩:=row4 bY
 have aV:=fun o => cell_on (al1 w3 o) v2
 have a0:=fun o => cell_on (al1 w3 o) y0
 have a1:=fun o => cell_on (al1 w3 o) y1
 have a2:=fun o => cell_on (al1 w3 o) y2
 have a3:=fun o => cell_on (al1 w3 o) y3
 have HO : Hid (w3.ownsRow B 70 4 (.slice o ms.length lc) ms.length xs):=by have:=jl3.own;rw [List.length_map] at this;exact this
 have hz5 : B ≤ w3.heap.size:=jl3.size
 have JL : Hid _:=jl3
 have JN : Hid _:=jn3
 have KA : Hid _:=k3
 have A3 : Hid _:=AT3
 have SS : Hid _:=S3
 have HAP : Hid (∀ q',(Value.slice (some ⟨q,0,none⟩) (ms.length + 1) cp).ownBlock = some q' → (Value.slice o ms.length lc).ownBlock ≠ some q' ∧ ¬ D q' ∧ ¬ Iv w.heap.size w1.heap.size q'):=by
  intro q' e
  have e2 : q = q':=by simpa [Value.ownBlock] using e
  subst e2
  exact ⟨hfq.1,hfq.2,hDq⟩
 have HDE : Hid (∀ k,Iv w.heap.size w1.heap.size k → B ≤ k ∧ k < w3.heap.size ∧ (Value.slice o ms.length lc).ownBlock ≠ some k):=fun k e => ⟨by have:=e.1;omega,by have:=e.2;omega,fun e' => by have:=(own_block HJ.out.jl.own e').2;have:=e.1;omega⟩
 have HKK : Hid (∀ w6,Kp (fun k => k = R ∨ k = V ∨ (Value.slice o ms.length lc).ownBlock = some k) w3 w6 → Kp (fun k => k = R ∨ k = V ∨ (Value.slice o ms.length lc).ownBlock = some k ∨ (Value.slice o' ms.length nc).ownBlock = some k) w w6):=fun w6 f2 => (k3.mono (fun _ _ e => by rcases e with e | e | e;exact Or.inl e;exact Or.inr (Or.inl e);exact Or.inr (Or.inr (Or.inr e)))).trans (f2.mono (fun _ _ e => by rcases e with e | e | e;exact Or.inl e;exact Or.inr (Or.inl e);exact Or.inr (Or.inr (Or.inl e))))
 have HSS : Hid (∀ w6 q5,Kp (fun k => (Value.slice o ms.length lc).ownBlock = some k ∨ k = q5 ∨ k = V) w3 w6 → B ≤ q5 → Sx R g cap T w6 m fx a b c):=fun w6 q5 f3 hq5 => S3.kp f3 (by
  rintro (e | e | e)
  ·have:=(own_block jl3.own e).1;omega
  ·omega
  ·exact pl.VR e.symm) (by
  rintro (e | e | e)
  ·have:=(own_block jl3.own e).1;omega
  ·omega
  ·exact pl.Vg e.symm)
 clear jl3 jn3 k3 AT3 S3 bY k13 HS
 go_region_law (first
  | (refine step_append_lies _ (by rfl) (.tmp 16) (.tmp 19) 68 (by rfl) B 70 ti _ 4 72 Tryz.underlying68 hti hy0 hy1 hy2 rfl (by decide) (.slice o ms.length lc) ms.length xs (by rfl) (own_drew (HO.out.alloc _)) ⟨w3.heap.size,0,none⟩ 1 1 zerosV (by rfl) rfl (World.news_of_block (new_drew _ _)) zerosV_one (by decide) (by unfold maxLen;omega) (by omega) (by simp;omega) (w3.heap.size + 1) (by simp) ?_;intro q5 cp5 w5 own5 hgr5 hor5 hlt5;obtain ⟨cV2,fV2,q0,q1,q2,q3,fq,x1,x2⟩:=place4 (els:=ms.map (·.2)) v2 (vf 2) pl.bV (by rw [List.length_map];exact HO.out) ((al1 w3 _).drew) hgr5 (by rw [List.length_map];exact own5);simp only [List.length_map] at q0 q1 q2 q3;have OW : Hid _:=own5;have GR : Hid _:=hgr5;have OR : Hid _:=hor5;clear own5 hgr5 hor5)
  | fail)
 all_goals go_end0
 all_goals try rw [swap4 x2]
 all_goals
  obtain ⟨f1,f2,f3⟩:=Jo.value (x:=x) JL.out JN.out hno HAP.out pl A3.out HDE.out (((Kp.refl Non w3).alloc _).drew) GR.out (World.size_alloc _ _) OR.out OW.out rfl
  exact Or.inr ⟨(x,cs),m,HQ.out,rfl,f1,HKK.out _ f2,HSS.out _ _ f3 (own_block OW.out rfl).1,m1⟩
end
end
section
open Go Go.RowKit
theorem objS_some (f : List Tok → Rs (List CT)) (l : List Tok) : objS (some f) l = (anyS (memS f) [125] l.tail).go fun ms l1 => .ok (valC 9 [] (ms.map (·.2)) (ms.map fun m => [sC m.1]),l1):=rfl
def Jq (R V P B : Nat) (W0 : World) (ms : List (Bs × List CT)) (l : List Tok) (w : World) : Prop :=
 (∃ lv nv xs ns D Dn,Jo R V P B w ms lv nv xs ns D Dn) ∧ ms.length + l.length ≤ 2049 ∧ Kp (fun k => k = R ∨ k = V) W0 w
section
variable {R g cap : Nat} {T : List Tok} {fx : Bool} {a b c : Nat}
theorem Jq.kp {V P B : Nat} {W0 : World} (pl : Pl R g V P B) : ∀ xs l m w w',Jq R V P B W0 xs l w → Kp (Own1 R) w w' → m.length ≤ l.length → Jq R V P B W0 xs m w':=by
 rintro xs l m w w' ⟨⟨lv,nv,us,ns,D,Dn,hj⟩,hn,hk⟩ k hm
 exact ⟨⟨lv,nv,us,ns,D,Dn,hj.kp pl k⟩,by omega,hk.trans (k.mono (fun _ _ e => Or.inl e))⟩
theorem oneR_obj {V P B : Nat} {W0 : World} (hB : B = W0.heap.size) (w0 : World) (hw0 : ∀ w',Kp (fun k => k = R ∨ k = V) W0 w' → Kp (Own1 R) w0 w') (pl : Pl R g V P B) (n : Nat) (X : ValP R g cap T fx a b c n) :
  OneR R g cap T fx a b c 160 #[.pointer (some ⟨P,0,none⟩),.pointer (some ⟨V,0,none⟩)] (memS (valF fx n)) (Jq R V P B W0) (Kp (Own1 R) w0):=by
 rintro ms l w ⟨⟨lv,nv,xs,ns,D,Dn,hj⟩,hn,hk⟩ h hl
 refine (object1_any pl n X ms l w lv nv xs ns D Dn hj hn h hl).mono ?_
 rintro e w' (⟨p,hp,rfl,k⟩ | ⟨x,m,hp,rfl,hj',k,h',n'⟩)
 ·exact Or.inl ⟨p,hp,rfl,hw0 _ (hk.trans (k.mono (fun _ _ e => Or.inl e)))⟩
 ·refine Or.inr ⟨x,m,hp,rfl,⟨hj',?_,hk.trans2 k (fun k hk e => ?_)⟩,h',n'⟩
  ·have:=memS_eats (valF_eats fx n).keeps _ _ _ hp
   rw [List.length_append]
   simp;omega
  ·rcases e with e | e | e | e
   ·exact Or.inl e
   ·exact Or.inr e
   ·have:=(own_block hj.jl.own e).1
    omega
   ·have:=(own_block hj.jn.own e).1
    omega
theorem object_deep {w : World} {l : List Tok} (h : Sx R g cap T w l fx a 32 c) (hl : l ≠ []) (hp : isP [123] l = true) : Calls Tryz.prog 149 #[.pointer (some ⟨R,0,none⟩)] w (Out R g cap T w fx a 32 c (objS none l) (ValV w.heap.size)):=by
 have hS0 : Sx R g cap T (preL (R:=R) w 9) l fx a 32 c:=((h.alloc _).alloc _).alloc _
 have X:=open1_deep [123] hS0 hl hp
 have cP:=(hS0.c0)
 go_enter Tryz.func149,Tryz.ntmps149
 go_wp2_with (go_at_call 94;refine X.mono ?_;rintro e w1 ⟨rfl,k1⟩)
 exact ⟨rfl,Or.inl ⟨_,rfl,rfl,((((Kp.refl (Own1 R) w).alloc _).alloc _).alloc _).trans k1⟩⟩
set_option maxRecDepth 100000 in
set_option maxHeartbeats 4000000 in
theorem object_some {w : World} {l : List Tok} {n : Nat} (X : ValP R g cap T fx a (b + 1) c n) (hb : b < 32) (h : Sx R g cap T w l fx a b c) (hl : l ≠ []) (hp : isP [123] l = true) : Calls Tryz.prog 149 #[.pointer (some ⟨R,0,none⟩)] w (Out R g cap T w fx a b c (objS (some (valF fx n)) l) (ValV w.heap.size)):=by
 have hmf : ∀ (fn : Fn) (first cap : Array Value) (w : World),(Instr.makeFunc fn first cap).run Tryz.prog w = .ok (.func fn first cap) w:=fun _ _ _ _ => rfl
 have hR:=h.ltR
 have hg:=h.lt
 have hS0 : Sx R g cap T (preL (R:=R) w 9) l fx a b c:=((h.alloc _).alloc _).alloc _
 have hz0 : (preL (R:=R) w 9).heap.size = w.heap.size + 3:=by simp
 have pl : Pl R g (w.heap.size + 1 + 1) w.heap.size (w.heap.size + 3):=⟨by omega,by omega,by omega,by omega,by omega,by omega,by omega,by omega⟩
 have bP : (preL (R:=R) w 9).heap[w.heap.size]? = some (.cells #[.pointer (some ⟨R,0,none⟩)] 82 (0,0)):=by
  have:=old_row (heap_alloc_new w (.cells #[.pointer (some ⟨R,0,none⟩)] 82)) (((Kp.refl Non _).alloc (.cells #[.int .i64 0,.string ⟨#[]⟩,.slice none 0 0,.slice none 0 0] 70)).alloc (.cells #[.int .i64 9,.string ⟨#[]⟩,.slice none 0 0,.slice none 0 0] 70)) (fun e => e)
  exact this
 have bX : (preL (R:=R) w 9).heap[w.heap.size + 1]? = some (.cells #[.int .i64 0,.string ⟨#[]⟩,.slice none 0 0,.slice none 0 0] 70 (0,0)):=by
  have:=old_row (heap_alloc_new (w.alloc (.cells #[.pointer (some ⟨R,0,none⟩)] 82)) (.cells #[.int .i64 0,.string ⟨#[]⟩,.slice none 0 0,.slice none 0 0] 70)) ((Kp.refl Non _).alloc (.cells #[.int .i64 9,.string ⟨#[]⟩,.slice none 0 0,.slice none 0 0] 70)) (fun e => e)
  rw [World.size_alloc] at this
  exact this
 have bV : (preL (R:=R) w 9).heap[w.heap.size + 1 + 1]? = some (.cells #[.int .i64 9,.string ⟨#[]⟩,.slice none 0 0,.slice none 0 0] 70 (0,0)):=by
  have:=heap_alloc_new ((w.alloc (.cells #[.pointer (some ⟨R,0,none⟩)] 82)).alloc (.cells #[.int .i64 0,.string ⟨#[]⟩,.slice none 0 0,.slice none 0 0] 70)) (.cells #[.int .i64 9,.string ⟨#[]⟩,.slice none 0 0,.slice none 0 0] 70)
  rw [World.size_alloc,World.size_alloc] at this
  exact this
 have KW : ∀ w',Kp (fun k => k = R ∨ k = w.heap.size + 1 + 1) (preL (R:=R) w 9) w' → Kp (Own1 R) w w':=fun w' k => ((((Kp.refl (Own1 R) w).alloc _).alloc _).alloc _).trans2 k (fun j hj e => by rcases e with e | e;exact e;omega)
 have OP:=open1_any [123] (by simp) hS0 hl hp hb
 have AN:=any_any 160 #[.pointer (some ⟨w.heap.size,0,none⟩),.pointer (some ⟨w.heap.size + 1 + 1,0,none⟩)] (fun _ _ => rfl) [125] (memS (valF fx n)) (memS_eats (valF_eats fx n).keeps) _ (Kp (Own1 R) w) (Jq.kp (W0:=preL (R:=R) w 9) pl) (oneR_obj hz0.symm w KW pl n X)
 have HB : Hid (_ ∧ _ ∧ _):=⟨bP,bX,bV⟩
 have HA : Hid _:=AN
 have HKW : Hid _:=KW
 have HZ : Hid (_ = _):=hz0
 clear bP bX bV AN KW hz0 X
 have hle:=h.le
 have hsm:=h.full.small
 have hbI : ((b : Nat) : Int) < 32:=by omega
 have hbI0 : (0 : Int) ≤ ((b : Nat) : Int):=by omega
 go_enter Tryz.func149,Tryz.ntmps149
 go_wp2_with (first
  | (go_at_call 53;refine (HA.out [] _ _ J0.out h1 n1).mono ?_;rintro e w2 (⟨p,hq,rfl,k2⟩ | ⟨ys,m,hq,rfl,⟨⟨lv,nv,xs,ns,D,Dn,hj⟩,hlen,k2⟩,h2,n2⟩);(exact ⟨rfl,Or.inl ⟨p,by rw [objS_some,hq,go_error],rfl,k2⟩⟩);obtain ⟨o,lc,hlv⟩:=hj.jl.slice;obtain ⟨o',nc,hnv⟩:=hj.jn.slice;rw [List.length_map] at hlv hnv;subst hlv hnv;obtain ⟨v0,v1,v2,v3,vf⟩:=row4 hj.jl.var;have bX2:=old_row HB.out.2.1 k2 (by rintro (e | e) <;> omega);obtain ⟨x0,x1,x2,x3,xf⟩:=row4 bX2;have cP2:=hj.jl.ptr;have r4:=h2.c4;have f4:=h2.free 4;have HJ : Hid _:=hj;have H2 : Hid _:=h2;have K2 : Hid _:=k2;have HQ : Hid _:=hq;clear hj h2 k2 hq)
  | (go_at_call 94;refine OP.mono ?_;rintro e w1 ⟨rfl,h1,n1,k1⟩;have bP1:=old_row HB.out.1 k1 (by intro e;have e' : w.heap.size = R:=e;omega);have bV1:=old_row HB.out.2.2 k1 (by intro e;have e' : w.heap.size + 1 + 1 = R:=e;omega);have cP1:=(row1 bP1).1;have hz1:=k1.size;rw [HZ.out] at hz1;have J0 : Hid _:=(⟨⟨_,_,_,_,_,_,⟨Js.new bV1 bP1 hz1,Js.new bV1 bP1 hz1,fun _ e => e,fun q e => by cases e⟩⟩,by have:=h1.le;simp at this ⊢;omega,k1.mono (fun _ _ e => Or.inl e)⟩ : Jq R (w.heap.size + 1 + 1) w.heap.size (w.heap.size + 3) _ [] l.tail w1);clear bP1 bV1 k1))
 go_region
 all_goals go_wp2
 have S3:=H2.out.set4 (b : Int) b rfl (by omega)
 have KQ:=own4 (w:=w2.setCell ⟨R,4,none⟩ (.int .i64 (b : Int))) (w.heap.size + 1) (.int .i64 9) (.string ⟨#[]⟩) (.slice o ys.length lc) (.slice o' ys.length nc)
 have S4:=(S3.kp KQ (fun e => by have e' : R = w.heap.size + 1:=e;omega) (fun e => by have e' : g = w.heap.size + 1:=e;omega)).drew
 have KX:=K2.out.set R 4 (.int .i64 (b : Int)) (Or.inr (Or.inl rfl))
 have KR:=((HKW.out _ KX).ret KQ (Nat.le_succ _)).drew
 have KA : Kp (fun k => k = R ∨ k = w.heap.size + 1) w2 _:=(((Kp.own R 4 (.int .i64 (b : Int))).mono (fun _ _ e => Or.inl e)).trans (KQ.mono (fun _ _ e => Or.inr e))).drew
 have AT:=HJ.out.jl.at.later (lo':=w.heap.size) KA (Nat.le_refl _) (by rintro k h1 h2 (e | e) <;> omega) (by omega) KA.size
 have AN:=HJ.out.jn.at.later (lo':=w.heap.size) KA (Nat.le_refl _) (by rintro k h1 h2 (e | e) <;> omega) (by omega) KA.size
 refine bodyPost_ret (v:=.agg #[.int .i64 9,.string ⟨#[]⟩,.slice o ys.length lc,.slice o' ys.length nc]) (by simp [results,Tryz.results149,go_sem,x0,x1,x2,x3]) rfl (Or.inr ⟨_,m,_,by rw [objS_some,HQ.out,go_ok],rfl,⟨_,_,_,_,_,_,_,_,rfl,?_⟩,S4,n2 (by simp),KR⟩)
 exact (((Ats.nil.cons AN).cons AT).cons (.lf _)).cons (.lf _)
set_option maxRecDepth 100000 in
set_option maxHeartbeats 2000000 in
theorem signed_any {w : World} {l : List Tok} {n : Nat} (h : Sx R g cap T w l fx a b c) (hl : l ≠ [])
  (LP : ∀ w,Sx R g cap T w l fx a b c → isP [91] l = true → Calls Tryz.prog 148 #[.pointer (some ⟨R,0,none⟩)] w (Out R g cap T w fx a b c (listS (inF fx n) l) (ValV w.heap.size)))
  (OP : ∀ w,Sx R g cap T w l fx a b c → isP [123] l = true → Calls Tryz.prog 149 #[.pointer (some ⟨R,0,none⟩)] w (Out R g cap T w fx a b c (objS (inF fx n) l) (ValV w.heap.size))) :
  Calls Tryz.prog 139 #[.pointer (some ⟨R,0,none⟩)] w (Out R g cap T w fx a b c (signS fx (inF fx n) l) (ValV w.heap.size)):=by
 have hR:=h.ltR
 have hg:=h.lt
 have A:=see_any [91] (h.alloc zeroV) hl
 have B:=fun w1 (k1 : Kp Non (w.alloc zeroV) w1) => see_any [123] ((h.alloc zeroV).non k1) hl
 by_cases h1 : isP [91] l = true
 ·rw [h1] at A
  have HQ : Hid (signS fx (inF fx n) l = listS (inF fx n) l):=if_pos h1
  go_enter Tryz.func139,Tryz.ntmps139
  go_wp2_with (first
   | (go_at_call 148;refine (LP _ ((h.alloc zeroV).non k1) h1).mono ?_;rintro e w2 (⟨p,hq,rfl,k2⟩ | ⟨cs,m,v,hq,rfl,⟨kk,tt,o1,n1,z1,o2,n2,z2,rfl,hat⟩,h2,m2,k2⟩);(exact ⟨rfl,Or.inl ⟨p,HQ.out.trans hq,rfl,((Kp.refl (Own1 R) w).alloc _).trans (k1.any.trans k2)⟩⟩);have K2:=k1.any.trans k2;obtain ⟨c0,c1,c2,c3,cf⟩:=row4 (new_row K2 (fun e => by have e' : w.heap.size = R:=e;omega)))
   | (go_at_call 59;refine A.mono ?_;rintro e w1 ⟨rfl,k1⟩))
  obtain ⟨r1,r2⟩:=ret4 K2 h2 hR hg (.int .i64 kk) (.string tt) (.slice o1 n1 z1) (.slice o2 n2 z2)
  have hz : w.heap.size + 1 ≤ w1.heap.size:=by have:=k1.size;simpa using this
  refine bodyPost_ret (v:=.agg #[.int .i64 kk,.string tt,.slice o1 n1 z1,.slice o2 n2 z2]) (by simp [results,Tryz.results139,go_sem,c0,c1,c2,c3]) rfl (Or.inr ⟨_,_,_,HQ.out.trans hq,rfl,⟨_,_,_,_,_,_,_,_,rfl,?_⟩,r1,m2,r2⟩)
  exact ats_up (by omega) hat (own4 w.heap.size _ _ _ _) (by omega)
 ·have h1' : isP [91] l = false:=Bool.eq_false_iff.2 h1
  rw [h1'] at A
  by_cases h2 : isP [123] l = true
  ·rw [h2] at B
   have HQ : Hid (signS fx (inF fx n) l = objS (inF fx n) l):=(if_neg h1).trans (if_pos h2)
   clear h1
   go_enter Tryz.func139,Tryz.ntmps139
   go_wp2_with (first
    | (go_at_call 149;refine (OP _ (((h.alloc zeroV).non k0).non k1) h2).mono ?_;rintro e w2 (⟨p,hq,rfl,k2⟩ | ⟨cs,m,v,hq,rfl,⟨kk,tt,o1,n1,z1,o2,n2,z2,rfl,hat⟩,h3,m2,k2⟩);(exact ⟨rfl,Or.inl ⟨p,HQ.out.trans hq,rfl,((Kp.refl (Own1 R) w).alloc _).trans ((k0.trans k1).any.trans k2)⟩⟩);have K2:=(k0.trans k1).any.trans k2;obtain ⟨c0,c1,c2,c3,cf⟩:=row4 (new_row K2 (fun e => by have e' : w.heap.size = R:=e;omega)))
    | (go_at_call 59;(with_reducible refine (B _ k0).mono ?_);rintro e w1 ⟨rfl,k1⟩)
    | (go_at_call 59;(with_reducible refine A.mono ?_);rintro e w0 ⟨rfl,k0⟩))
   obtain ⟨r1,r2⟩:=ret4 K2 h3 hR hg (.int .i64 kk) (.string tt) (.slice o1 n1 z1) (.slice o2 n2 z2)
   have hz : w.heap.size + 1 ≤ w1.heap.size:=by have:=(k0.trans k1).size;simpa using this
   refine bodyPost_ret (v:=.agg #[.int .i64 kk,.string tt,.slice o1 n1 z1,.slice o2 n2 z2]) (by simp [results,Tryz.results139,go_sem,c0,c1,c2,c3]) rfl (Or.inr ⟨_,_,_,HQ.out.trans hq,rfl,⟨_,_,_,_,_,_,_,_,rfl,?_⟩,r1,m2,r2⟩)
   exact ats_up (by omega) hat (own4 w.heap.size _ _ _ _) (by omega)
  ·have h2' : isP [123] l = false:=Bool.eq_false_iff.2 h2
   rw [h2'] at B
   cases fx with
   | true =>
    have HQ : Hid (signS true (inF true n) l = .error (atT l,60)):=(if_neg h1).trans ((if_neg h2).trans (if_pos rfl))
    clear h1 h2
    go_enter Tryz.func139,Tryz.ntmps139
    go_wp2_with (first
     | (go_at_call 55;refine (need_dies S1 hl).mono ?_;rintro e w2 ⟨rfl,k2⟩)
     | (go_at_call 59;(with_reducible refine (B _ k0).mono ?_);rintro e w1 ⟨rfl,k1⟩;have S1:=((h.alloc zeroV).non k0).non k1;have cx:=S1.c2)
     | (go_at_call 59;(with_reducible refine A.mono ?_);rintro e w0 ⟨rfl,k0⟩))
    exact ⟨rfl,Or.inl ⟨_,HQ.out,rfl,((Kp.refl (Own1 R) w).alloc _).trans ((k0.trans k1).trans k2).any⟩⟩
   | false =>
    have HQ : Hid (signS false (inF false n) l = (varS l).go fun t l1 => .ok (valC 3 t [] [],l1)):=(if_neg h1).trans ((if_neg h2).trans (if_neg (by simp)))
    clear h1 h2
    go_enter Tryz.func139,Tryz.ntmps139
    go_wp2_with (first
     | (go_at_call 118;refine (variable_any S1 hl).mono ?_;rintro e w2 (⟨p,hq,rfl,k2⟩ | ⟨x,m,v,hq,rfl,rfl,h3,m2,k2⟩);(exact ⟨rfl,Or.inl ⟨p,by rw [HQ.out,hq,go_error],rfl,((Kp.refl (Own1 R) w).alloc _).trans ((k0.trans k1).any.trans k2)⟩⟩);have K2:=(k0.trans k1).any.trans k2;obtain ⟨c0,c1,c2,c3,cf⟩:=row4 (new_row K2 (fun e => by have e' : w.heap.size = R:=e;omega)))
     | (go_at_call 55;refine (yneed_yes _).mono ?_;rintro e w2' ⟨rfl,rfl⟩)
     | (go_at_call 59;(with_reducible refine (B _ k0).mono ?_);rintro e w1 ⟨rfl,k1⟩;have S1:=((h.alloc zeroV).non k0).non k1;have cx:=S1.c2)
     | (go_at_call 59;(with_reducible refine A.mono ?_);rintro e w0 ⟨rfl,k0⟩))
    obtain ⟨r1,r2⟩:=ret4 K2 h3 hR hg (.int .i64 3) (.string ⟨x.toArray⟩) (.slice none 0 0) (.slice none 0 0)
    exact bodyPost_ret (v:=.agg #[.int .i64 3,.string ⟨x.toArray⟩,.slice none 0 0,.slice none 0 0]) (by simp [results,Tryz.results139,go_sem,c0,c1,c2,c3]) rfl (Or.inr ⟨_,_,_,by rw [HQ.out,hq,go_ok],rfl,⟨_,_,_,_,_,_,_,_,rfl,leaf4 _ _⟩,r1,m2,r2⟩)
theorem value_all : ∀ (n b : Nat),b + n = 32 → ValP R g cap T fx a b c n
 | n,b,hb => by
  intro w l h hl
  cases l with
  | nil => exact absurd rfl hl
  | cons t r =>
   by_cases n1 : t.k = 1
   ·exact value_1 n h n1
   by_cases n2 : t.k = 2
   ·exact value_2 n h n2
   by_cases n3 : t.k = 3
   ·exact value_3 n h n3
   by_cases n4 : t.k = 4
   ·exact value_4 n h n4
   refine value_0 n h n1 n2 n3 n4 (fun w l h hl => ?_)
   cases n with
   | zero =>
    obtain rfl : b = 32:=by omega
    exact signed_any h hl (fun w h hp => list_deep h hl hp) (fun w h hp => object_deep h hl hp)
   | succ n =>
    have X:=value_all n (b + 1) (by omega)
    exact signed_any h hl (fun w h hp => list_some X (by omega) h hl hp) (fun w h hp => object_some X (by omega) h hl hp)
end
end
end Go.Proofs.YtgppemlciohjcaaGreatDoor
