/- An object's members: two rows of one variable. -/
import Derived.Test.YtgmlbjfgfmfliaaGreatDoorA04
import Derived.Test.YtgmlbjfgfmfliaaGreatDoorB1
namespace Go.Proofs.YtgmlbjfgfmfliaaGreatDoor
open Go Go.RowKit
/-- The row in the variable, as a cell of a tree. -/
theorem Js.at {R V P B : Nat} {cur : Array Value} {ty tp : TypeId} {i E sz : Nat} {w : World} {els : List (List CT)} {lv : Value} {xs : List Value} {D : Nat → Prop} (h : Js R V P B cur ty tp i E sz w els lv xs D) : At w (Iv B w.heap.size) (rowC E sz els) lv:=by
 rcases h.own.2 with ⟨rfl,h0⟩ | ⟨q,cp,cu,hv,hb,hg,hn,_,hcs,ht⟩
 ·have : els = []:=List.length_eq_zero_iff.1 h0
  subst this
  exact .nil _ _
 ·subst hv
  have hl : els.flatten.length = els.length * sz:=h.ats.len.trans h.own.1
  refine .row hg ⟨hb,lt_of_block hg⟩ hn hl (by rw [hcs];exact Nat.mul_le_mul_right _ hn) (fun j y u hy hu => ?_)
  have hj : j < els.length * sz:=by
   rw [← hl]
   exact (List.getElem?_eq_some_iff.1 hy).1
  refine (h.ats.all j y u hy ?_).mono (fun k hk => ⟨(h.far k hk).1,(h.far k hk).2.1⟩)
  rw [← ht,List.getElem?_take,if_pos hj]
  simpa using hu
/-- Nothing yet. -/
theorem Js.new {R V P B : Nat} {cur : Array Value} {ty tp : TypeId} {i E sz : Nat} {w : World} (hv : w.heap[V]? = some (.cells (cur.setIfInBounds i (.slice none 0 0)) ty (0,0))) (hp : w.heap[P]? = some (.cells #[.pointer (some ⟨R,0,none⟩)] tp (0,0))) (hB : B ≤ w.heap.size) :
  Js R V P B cur ty tp i E sz w [] (.slice none 0 0) [] Non:=⟨hv,hp,World.ownsRow_nil _ _ _ _,Ats.nil,fun _ e => e.elim,hB⟩
theorem listS_some (f : List Tok → Rs (List CT)) (l : List Tok) : listS (some f) l = (anyS f [93] l.tail).go fun vs l1 => .ok (valC 8 [] vs [],l1):=rfl
section
variable {R g cap : Nat} {T : List Tok} {fx : Bool} {a b c : Nat}
/-- The worlds ahead of a list's items: the box of the reader, the result's block, the list's variable. -/
abbrev preL (w : World) (k : Int) : World:=((w.alloc (.cells #[.pointer (some ⟨R,0,none⟩)] 118)).alloc (.cells #[.int .i64 0,.string ⟨#[]⟩,.slice none 0 0,.slice none 0 0] 35)).alloc (.cells #[.int .i64 k,.string ⟨#[]⟩,.slice none 0 0,.slice none 0 0] 35)
theorem list_deep {w : World} {l : List Tok} (h : Sx R g cap T w l fx a 32 c) (hl : l ≠ []) (hp : isP [91] l = true) : Calls Tryz.prog 222 #[.pointer (some ⟨R,0,none⟩)] w (Out R g cap T w fx a 32 c (listS none l) (ValV w.heap.size)):=by
 have hS0 : Sx R g cap T (preL (R:=R) w 8) l fx a 32 c:=((h.alloc _).alloc _).alloc _
 have X:=open1_deep [91] hS0 hl hp
 have cP:=(hS0.c0)
 go_enter Tryz.func222,Tryz.ntmps222
 go_wp2_with (go_at_call 153;refine X.mono ?_;rintro e w1 ⟨rfl,k1⟩)
 exact ⟨rfl,Or.inl ⟨_,rfl,rfl,((((Kp.refl (Own1 R) w).alloc _).alloc _).alloc _).trans k1⟩⟩
set_option maxRecDepth 100000 in
set_option maxHeartbeats 4000000 in
theorem list_some {w : World} {l : List Tok} {n : Nat} (X : ValP R g cap T fx a (b + 1) c n) (hb : b < 32) (h : Sx R g cap T w l fx a b c) (hl : l ≠ []) (hp : isP [91] l = true) : Calls Tryz.prog 222 #[.pointer (some ⟨R,0,none⟩)] w (Out R g cap T w fx a b c (listS (some (valF fx n)) l) (ValV w.heap.size)):=by
 have hmf : ∀ (fn : Fn) (first cap : Array Value) (w : World),(Instr.makeFunc fn first cap).run Tryz.prog w = .ok (.func fn first cap) w:=fun _ _ _ _ => rfl
 have hR:=h.ltR
 have hg:=h.lt
 have hS0 : Sx R g cap T (preL (R:=R) w 8) l fx a b c:=((h.alloc _).alloc _).alloc _
 have hz0 : (preL (R:=R) w 8).heap.size = w.heap.size + 3:=by simp
 have pl : Pl R g (w.heap.size + 1 + 1) w.heap.size (w.heap.size + 3):=⟨by omega,by omega,by omega,by omega,by omega,by omega,by omega,by omega⟩
 have bP : (preL (R:=R) w 8).heap[w.heap.size]? = some (.cells #[.pointer (some ⟨R,0,none⟩)] 118 (0,0)):=by
  have:=old_row (heap_alloc_new w (.cells #[.pointer (some ⟨R,0,none⟩)] 118)) (((Kp.refl Non _).alloc (.cells #[.int .i64 0,.string ⟨#[]⟩,.slice none 0 0,.slice none 0 0] 35)).alloc (.cells #[.int .i64 8,.string ⟨#[]⟩,.slice none 0 0,.slice none 0 0] 35)) (fun e => e)
  exact this
 have bX : (preL (R:=R) w 8).heap[w.heap.size + 1]? = some (.cells #[.int .i64 0,.string ⟨#[]⟩,.slice none 0 0,.slice none 0 0] 35 (0,0)):=by
  have:=old_row (heap_alloc_new (w.alloc (.cells #[.pointer (some ⟨R,0,none⟩)] 118)) (.cells #[.int .i64 0,.string ⟨#[]⟩,.slice none 0 0,.slice none 0 0] 35)) ((Kp.refl Non _).alloc (.cells #[.int .i64 8,.string ⟨#[]⟩,.slice none 0 0,.slice none 0 0] 35)) (fun e => e)
  rw [World.size_alloc] at this
  exact this
 have bV : (preL (R:=R) w 8).heap[w.heap.size + 1 + 1]? = some (.cells #[.int .i64 8,.string ⟨#[]⟩,.slice none 0 0,.slice none 0 0] 35 (0,0)):=by
  have:=heap_alloc_new ((w.alloc (.cells #[.pointer (some ⟨R,0,none⟩)] 118)).alloc (.cells #[.int .i64 0,.string ⟨#[]⟩,.slice none 0 0,.slice none 0 0] 35)) (.cells #[.int .i64 8,.string ⟨#[]⟩,.slice none 0 0,.slice none 0 0] 35)
  rw [World.size_alloc,World.size_alloc] at this
  exact this
 have KW : ∀ w',Kp (fun k => k = R ∨ k = w.heap.size + 1 + 1) (preL (R:=R) w 8) w' → Kp (Own1 R) w w':=fun w' k => ((((Kp.refl (Own1 R) w).alloc _).alloc _).alloc _).trans2 k (fun j hj e => by rcases e with e | e;exact e;omega)
 have OP:=open1_any [91] (by simp) hS0 hl hp hb
 have AN:=any_any 230 #[.pointer (some ⟨w.heap.size + 1 + 1,0,none⟩),.pointer (some ⟨w.heap.size,0,none⟩)] (fun _ _ => rfl) [93] (valF fx n) (valF_eats fx n) _ (Kp (Own1 R) w) (Jr.kp (cur:=#[.int .i64 8,.string ⟨#[]⟩,.slice none 0 0,.slice none 0 0]) (ty:=35) (tp:=118) (i:=2) (E:=35) (sz:=4) (W0:=preL (R:=R) w 8) pl) (oneR_of hz0.symm (valF_eats fx n) w KW (list1_item pl (by decide) n X))
 have HB : Hid (_ ∧ _ ∧ _):=⟨bP,bX,bV⟩
 have HA : Hid _:=AN
 have HKW : Hid _:=KW
 have HZ : Hid (_ = _):=hz0
 clear bP bX bV AN KW hz0 X
 have hle:=h.le
 have hsm:=h.full.small
 have hbI : ((b : Nat) : Int) < 32:=by omega
 have hbI0 : (0 : Int) ≤ ((b : Nat) : Int):=by omega
 go_enter Tryz.func222,Tryz.ntmps222
 go_wp2_with (first
  | (go_at_call 102;refine (HA.out [] _ _ J0.out h1 n1).mono ?_;rintro e w2 (⟨p,hq,rfl,k2⟩ | ⟨ys,m,hq,rfl,⟨⟨lv,xs,D,hj⟩,hlen,k2⟩,h2,n2⟩);(exact ⟨rfl,Or.inl ⟨p,by rw [listS_some,hq,go_error],rfl,k2⟩⟩);obtain ⟨o,lc,rfl⟩:=hj.slice;obtain ⟨v0,v1,v2,v3,vf⟩:=row4 hj.var;have bX2:=old_row HB.out.2.1 k2 (by rintro (e | e) <;> omega);obtain ⟨x0,x1,x2,x3,xf⟩:=row4 bX2;have cP2:=hj.ptr;have r4:=h2.c4;have f4:=h2.free 4;have HJ : Hid _:=hj;have H2 : Hid _:=h2;have K2 : Hid _:=k2;have HQ : Hid _:=hq;clear hj h2 k2 hq)
  | (go_at_call 153;refine OP.mono ?_;rintro e w1 ⟨rfl,h1,n1,k1⟩;have bP1:=old_row HB.out.1 k1 (by intro e;have e' : w.heap.size = R:=e;omega);have bV1:=old_row HB.out.2.2 k1 (by intro e;have e' : w.heap.size + 1 + 1 = R:=e;omega);have cP1:=(row1 bP1).1;have hz1:=k1.size;rw [HZ.out] at hz1;have J0 : Hid _:=(⟨⟨_,_,_,Js.new bV1 bP1 hz1⟩,by have:=h1.le;simp at this ⊢;omega,k1.mono (fun _ _ e => Or.inl e)⟩ : Jr R (w.heap.size + 1 + 1) w.heap.size (w.heap.size + 3) #[.int .i64 8,.string ⟨#[]⟩,.slice none 0 0,.slice none 0 0] 35 118 2 35 4 _ [] l.tail w1);clear bP1 bV1 k1))
 go_region
 all_goals go_wp2
 have S3:=H2.out.set4 (b : Int) b rfl (by omega)
 have KQ:=own4 (w:=w2.setCell ⟨R,4,none⟩ (.int .i64 (b : Int))) (w.heap.size + 1) (.int .i64 8) (.string ⟨#[]⟩) (.slice o ys.length lc) (.slice none 0 0)
 have S4:=(S3.kp KQ (fun e => by have e' : R = w.heap.size + 1:=e;omega) (fun e => by have e' : g = w.heap.size + 1:=e;omega)).drew
 have KX:=K2.out.set R 4 (.int .i64 (b : Int)) (Or.inr (Or.inl rfl))
 have KR:=((HKW.out _ KX).ret KQ (Nat.le_succ _)).drew
 have KA : Kp (fun k => k = R ∨ k = w.heap.size + 1) w2 _:=(((Kp.own R 4 (.int .i64 (b : Int))).mono (fun _ _ e => Or.inl e)).trans (KQ.mono (fun _ _ e => Or.inr e))).drew
 have AT:=HJ.out.at.later (lo':=w.heap.size) KA (Nat.le_refl _) (by rintro k h1 h2 (e | e) <;> omega) (by omega) KA.size
 refine bodyPost_ret (v:=.agg #[.int .i64 8,.string ⟨#[]⟩,.slice o ys.length lc,.slice none 0 0]) (by simp [results,Tryz.results222,go_sem,x0,x1,x2,x3]) rfl (Or.inr ⟨_,m,_,by rw [listS_some,HQ.out,go_ok],rfl,⟨_,_,_,_,_,_,_,_,rfl,?_⟩,S4,n2 (by simp),KR⟩)
 exact (((Ats.nil.cons (.nil _ _)).cons AT).cons (.lf _)).cons (.lf _)
end
end Go.Proofs.YtgmlbjfgfmfliaaGreatDoor
namespace Go.Proofs.YtgmlbjfgfmfliaaGreatDoor
open Go Go.RowKit
section
variable {R g cap : Nat} {T : List Tok} {fx : Bool} {a b c : Nat}
/-- What a member's reading tells. -/
def MemV (lo : Nat) (x : Bs × List CT) (v : Value) (w : World) : Prop:=∃ (k : Int) (t : ByteArray) (o : Option Addr) (n z : Nat) (o' : Option Addr) (n' z' : Nat),v = .tuple #[.string ⟨x.1.toArray⟩,.agg #[.int .i64 k,.string t,.slice o n z,.slice o' n' z']] ∧ Ats w (Iv lo w.heap.size) x.2 [.int .i64 k,.string t,.slice o n z,.slice o' n' z']
set_option maxRecDepth 100000 in
set_option maxHeartbeats 2000000 in
theorem member_any {w : World} {l : List Tok} {n : Nat} (X : ValP R g cap T fx a b c n) (h : Sx R g cap T w l fx a b c) (hl : l ≠ []) : Calls Tryz.prog 186 #[.pointer (some ⟨R,0,none⟩)] w (Out R g cap T w fx a b c (memS (valF fx n) l) (MemV w.heap.size)):=by
 have hR:=h.ltR
 have hg:=h.lt
 have N:=name_any (h.alloc zeroV) hl
 go_enter Tryz.func186,Tryz.ntmps186
 go_wp2_with (first
  | (go_at_call 192;refine (X _ _ h2 (h1.next (by simp) hp)).mono ?_;rintro e w3 (⟨p,hq3,rfl,k3⟩ | ⟨cs,m,v,hq3,rfl,⟨kk,tt,o1,n1,z1,o2,n2,z2,rfl,hat⟩,h3,m3,k3⟩);(exact ⟨rfl,Or.inl ⟨p,by simp only [memS,hq1,go_ok,mustS,hp,if_true,hq3,go_error],rfl,(((Kp.refl (Own1 R) w).alloc _).trans (k1.trans k2)).trans k3⟩⟩);have K3:=(k1.trans k2).trans k3;obtain ⟨c0,c1,c2,c3,cf⟩:=row4 (new_row K3 (fun e => by have e' : w.heap.size = R:=e;omega)))
  | (go_at_call 104;first | ((with_reducible refine (yneed_yes _).mono ?_);rintro e w2' ⟨rfl,rfl⟩) | ((with_reducible refine (need_dies h2 m1).mono ?_);rintro e w2' ⟨rfl,k2'⟩;(exact ⟨rfl,Or.inl ⟨(atT _,60),by simp only [memS,hq1,go_ok,mustS,hp,Bool.false_eq_true,if_false,go_error],rfl,(((Kp.refl (Own1 R) w).alloc _).trans (k1.trans k2)).trans k2'.any⟩⟩)))
  | (go_at_call 146;refine (ytake_any [58] h1 m1).mono ?_;rintro e w2 (⟨hp,rfl,h2,k2⟩ | ⟨hp,rfl,h2,k2⟩))
  | (go_at_call 105;refine N.mono ?_;rintro e w1 (⟨p,hq1,rfl,k1⟩ | ⟨x,l1,v,hq1,rfl,rfl,h1,m1,k1⟩);(exact ⟨rfl,Or.inl ⟨p,by simp only [memS,hq1,go_error],rfl,((Kp.refl (Own1 R) w).alloc _).trans k1⟩⟩)))
 obtain ⟨r1,r2⟩:=ret4 K3 h3 hR hg (.int .i64 kk) (.string tt) (.slice o1 n1 z1) (.slice o2 n2 z2)
 have hz : w.heap.size + 1 ≤ w2.heap.size:=by have:=(k1.trans k2).size;simpa using this
 refine bodyPost_ret (v:=.tuple #[.string ⟨x.toArray⟩,.agg #[.int .i64 kk,.string tt,.slice o1 n1 z1,.slice o2 n2 z2]]) (by simp [results,Tryz.results186,go_sem,c0,c1,c2,c3]) rfl (Or.inr ⟨(x,cs),m,_,by simp only [memS,hq1,go_ok,mustS,hp,if_true,hq3],rfl,⟨_,_,_,_,_,_,_,_,rfl,?_⟩,r1,m3,r2⟩)
 exact ats_up (by omega) hat (own4 w.heap.size _ _ _ _) (by omega)
end
end Go.Proofs.YtgmlbjfgfmfliaaGreatDoor
namespace Go.Proofs.YtgmlbjfgfmfliaaGreatDoor
open Go Go.RowKit
abbrev curL (nv : Value) : Array Value:=#[.int .i64 9,.string ⟨#[]⟩,.slice none 0 0,nv]
abbrev curN (lv : Value) : Array Value:=#[.int .i64 9,.string ⟨#[]⟩,lv,.slice none 0 0]
/-- The values, and the names. -/
structure Jo (R V P B : Nat) (w : World) (ms : List (Bs × List CT)) (lv nv : Value) (xs ns : List Value) (D Dn : Nat → Prop) : Prop where
 jl : Js R V P B (curL nv) 35 118 2 35 4 w (ms.map (·.2)) lv xs D
 jn : Js R V P B (curN lv) 35 118 3 9 1 w (ms.map fun m => [sC m.1]) nv ns Dn
 no : ∀ k,¬ Dn k
 ap : ∀ q,nv.ownBlock = some q → lv.ownBlock ≠ some q ∧ ¬ D q
section
variable {R g V P B : Nat} {w : World} {ms : List (Bs × List CT)} {lv nv : Value} {xs ns : List Value} {D Dn : Nat → Prop}
theorem Jo.kp {w' : World} (h : Jo R V P B w ms lv nv xs ns D Dn) (pl : Pl R g V P B) (k : Kp (Own1 R) w w') : Jo R V P B w' ms lv nv xs ns D Dn:=⟨h.jl.kp pl k,h.jn.kp pl k,h.no,h.ap⟩
/-- The name is put behind the others. -/
theorem Jo.name {w1 W2 w2 : World} {x : Bs} {q cp : Nat} {H : Nat} (h : Jo R V P B w ms lv nv xs ns D Dn) (pl : Pl R g V P B) (hk : Kp (Own1 R) w w1) (hW2 : Kp Non w1 W2) (hgr : W2.grownBy w2 nv.ownBlock) (hH : W2.heap.size = H) (hat : nv.ownBlock = some q ∨ q = H)
  (own2 : w2.ownsRow B 9 1 (.slice (some ⟨q,0,none⟩) (ms.length + 1) cp) (ms.length + 1) (ns ++ [.string ⟨x.toArray⟩])) :
  (∃ Dn',(∀ k,¬ Dn' k) ∧ Js R V P B (curN lv) 35 118 3 9 1 (w2.setCell ⟨V,3,none⟩ (.slice (some ⟨q,0,none⟩) (ms.length + 1) cp)) ((ms.map fun m => [sC m.1]) ++ [[sC x]]) (.slice (some ⟨q,0,none⟩) (ms.length + 1) cp) (ns ++ [.string ⟨x.toArray⟩]) Dn') ∧
  Js R V P B (curL (.slice (some ⟨q,0,none⟩) (ms.length + 1) cp)) 35 118 2 35 4 (w2.setCell ⟨V,3,none⟩ (.slice (some ⟨q,0,none⟩) (ms.length + 1) cp)) (ms.map (·.2)) lv xs D ∧
  Kp (fun k => k = R ∨ k = V ∨ nv.ownBlock = some k) w (w2.setCell ⟨V,3,none⟩ (.slice (some ⟨q,0,none⟩) (ms.length + 1) cp)) ∧
  (lv.ownBlock ≠ some q ∧ ¬ D q) ∧ (nv.ownBlock = some q ∨ w1.heap.size ≤ q) ∧ Kp (fun k => k = V ∨ nv.ownBlock = some k ∨ k = q) w1 (w2.setCell ⟨V,3,none⟩ (.slice (some ⟨q,0,none⟩) (ms.length + 1) cp)):=by
 have e1 : (ms.map fun m => [sC m.1]).length = ms.length:=by simp
 have hv2:=h.jn.var2 pl (Kp.refl Non w) hk hW2 hgr
 have hz:=hW2.size
 have hat' : nv.ownBlock = some q ∨ W2.heap.size ≤ q:=by rcases hat with e | e;exact Or.inl e;exact Or.inr (by omega)
 have var4 : (w2.setCell ⟨V,3,none⟩ (.slice (some ⟨q,0,none⟩) ((ms.map fun m => [sC m.1]).length + 1) cp)).heap[V]? = some (.cells ((curN lv).setIfInBounds 3 (.slice (some ⟨q,0,none⟩) ((ms.map fun m => [sC m.1]).length + 1) cp)) 35 (0,0)):=by
  rw [heap_setCell_same _ V 3 _ _ _ hv2];rfl
 obtain ⟨j1,k1⟩:=h.jn.pushG pl (De:=Non) hk ((Ats.nil (w:=w1)).cons (.lf (.string ⟨x.toArray⟩))) (fun k e => e.elim) hW2 hgr hat' ((Kp.own V 3 (.slice (some ⟨q,0,none⟩) ((ms.map fun m => [sC m.1]).length + 1) cp)).mono (fun _ _ e => Or.inr e)) var4 (ownsRow_setCell_below (by rw [e1];exact own2) (a:=⟨V,3,none⟩) pl.bV _)
 rw [e1] at j1 k1 var4
 have hfq : lv.ownBlock ≠ some q ∧ ¬ D q:=by
  rcases hat with e | e
  ·exact h.ap q e
  ·have z1:=hk.size
   exact ⟨fun e' => by have:=(own_block h.jl.own e').2;omega,fun e' => by have:=(h.jl.far q e').2.1;omega⟩
 refine ⟨⟨_,?_,j1⟩,h.jl.other pl k1 ?_ ?_,k1,hfq,?_,?_⟩
 ·rintro k (e | e)
  ·exact h.no k e
  ·exact e
 ·rw [var4];rfl
 ·intro k e
  exact ⟨(own_block h.jn.own e).1,(h.ap k e).1,(h.ap k e).2⟩
 ·rcases hat' with e | e
  ·exact Or.inl e
  ·exact Or.inr (by omega)
 ·exact ((hW2.any.grew hgr (fun k e => Or.inr (Or.inr (Or.inl e)))).trans ((Kp.own V 3 _).mono (fun _ _ e => Or.inl e)))
/-- The value is put behind the others. -/
theorem Jo.value {w3 W2 w5 w6 : World} {x : Bs} {cs : List CT} {q cp : Nat} {H : Nat} {De : Nat → Prop} {u0 u1 u2 u3 z0 z1 z2 z3 : Value} (jl : Js R V P B (curL nv) 35 118 2 35 4 w3 (ms.map (·.2)) lv xs D) (jn : Js R V P B (curN lv) 35 118 3 9 1 w3 ((ms.map fun m => [sC m.1]) ++ [[sC x]]) nv ns Dn)
  (no : ∀ k,¬ Dn k) (ap : ∀ q,nv.ownBlock = some q → lv.ownBlock ≠ some q ∧ ¬ D q ∧ ¬ De q) (pl : Pl R g V P B) (hel : Ats w3 De cs [u0,u1,u2,u3]) (hDe : ∀ k,De k → B ≤ k ∧ k < w3.heap.size ∧ lv.ownBlock ≠ some k)
  (hW2 : Kp Non w3 W2) (hgr : W2.grownBy w5 lv.ownBlock) (hH : W2.heap.size = H) (hat : lv.ownBlock = some q ∨ q = H) (own2 : w5.ownsRow B 35 4 (.slice (some ⟨q,0,none⟩) (ms.length + 1) cp) (ms.length + 1) (xs ++ [z0,z1,z2,z3]))
  (h6 : w6 = ((((w5.setCell ⟨q,ms.length * 4,none⟩ u0).setCell ⟨q,ms.length * 4 + 1,none⟩ u1).setCell ⟨q,ms.length * 4 + 2,none⟩ u2).setCell ⟨q,ms.length * 4 + 3,none⟩ u3).setCell ⟨V,2,none⟩ (.slice (some ⟨q,0,none⟩) (ms.length + 1) cp)) :
  (∃ lv' nv' xs' ns' D' Dn',Jo R V P B w6 (ms ++ [(x,cs)]) lv' nv' xs' ns' D' Dn') ∧ Kp (fun k => k = R ∨ k = V ∨ lv.ownBlock = some k) w3 w6 ∧ Kp (fun k => lv.ownBlock = some k ∨ k = q ∨ k = V) w3 w6:=by
 have e1 : (ms.map (·.2)).length = ms.length:=by simp
 have hz:=hW2.size
 have hv5:=jl.var2 pl (Kp.refl Non w3) (Kp.refl (Own1 R) w3) hW2 hgr
 have hxl : xs.length = ms.length * 4:=by rw [← e1];exact jl.own.1
 have hBq : B ≤ q:=(own_block own2 rfl).1
 have p1:=pl.bV
 have hVq : V ≠ q:=by omega
 have K4 : Kp (fun k => k = q ∨ k = V) w5 w6:=by
  subst h6
  exact ((ownAt4 q (ms.length * 4) u0 u1 u2 u3).mono (fun _ _ e => Or.inl e)).set V 2 _ (Or.inr (Or.inr rfl))
 have var4 : w6.heap[V]? = some (.cells ((curL nv).setIfInBounds 2 (.slice (some ⟨q,0,none⟩) (ms.length + 1) cp)) 35 (0,0)):=by
  subst h6
  rw [heap_setCell_same _ V 2 _ _ _ (old_row hv5 (ownAt4 q (ms.length * 4) u0 u1 u2 u3) hVq)]
  rfl
 have own4 : w6.ownsRow B 35 4 (.slice (some ⟨q,0,none⟩) (ms.length + 1) cp) (ms.length + 1) (xs ++ [u0,u1,u2,u3]):=by
  subst h6
  exact ownsRow_setCell_below (laid4 u0 u1 u2 u3 own2 hxl) (a:=⟨V,2,none⟩) p1 _
 have hat' : lv.ownBlock = some q ∨ W2.heap.size ≤ q:=by rcases hat with e | e;exact Or.inl e;exact Or.inr (by omega)
 obtain ⟨j6,k6⟩:=jl.pushG pl (De:=De) (Kp.refl (Own1 R) w3) hel hDe hW2 hgr hat' K4 (by rw [e1];exact var4) (by rw [e1];exact own4)
 rw [e1] at j6
 have KS : Kp (fun k => lv.ownBlock = some k ∨ k = q ∨ k = V) w3 w6:=(hW2.any.grew hgr (fun k e => Or.inr (Or.inl e))).trans (K4.mono (fun _ _ e => Or.inr e))
 refine ⟨⟨_,nv,_,ns,_,Dn,⟨by rw [List.map_append];exact j6,?_,no,?_⟩⟩,k6,KS⟩
 ·rw [List.map_append]
  refine jn.other pl k6 (by rw [var4];rfl) (fun q' e => ⟨(own_block jl.own e).1,fun e' => (ap q' e').1 e,no q'⟩)
 ·intro q' e
  have h1:=ap q' e
  refine ⟨fun e' => ?_,?_⟩
  ·have e2 : q = q':=by simpa [Value.ownBlock] using e'
   subst e2
   rcases hat' with e3 | e3
   ·exact h1.1 e3
   ·have:=(own_block jn.own e).2;omega
  ·rintro (e2 | e2)
   ·exact h1.2.1 e2
   ·exact h1.2.2 e2
end
end Go.Proofs.YtgmlbjfgfmfliaaGreatDoor
