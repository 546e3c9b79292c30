/- Types. -/
import Derived.Test.YtgmlbjfgfmfliaaGreatDoorB2
import Derived.Test.YtgmlbjfgfmfliaaGreatDoorA04
namespace Go.Proofs.YtgmlbjfgfmfliaaGreatDoor
open Go Go.RowKit
theorem objS_some (f : List Tok → Rs (List CT)) (l : List Tok) : objS (some f) l = (anyS (memS f) [125] l.tail).go fun ms l1 => .ok (valC 9 [] (ms.map (·.2)) (ms.map fun m => [sC m.1]),l1):=rfl
/-- The state between two members. -/
def Jq (R V P B : Nat) (W0 : World) (ms : List (Bs × List CT)) (l : List Tok) (w : World) : Prop :=
 (∃ lv nv xs ns D Dn,Jo R V P B w ms lv nv xs ns D Dn) ∧ ms.length + l.length ≤ 2049 ∧ Kp (fun k => k = R ∨ k = V) W0 w
section
variable {R g cap : Nat} {T : List Tok} {fx : Bool} {a b c : Nat}
theorem Jq.kp {V P B : Nat} {W0 : World} (pl : Pl R g V P B) : ∀ xs l m w w',Jq R V P B W0 xs l w → Kp (Own1 R) w w' → m.length ≤ l.length → Jq R V P B W0 xs m w':=by
 rintro xs l m w w' ⟨⟨lv,nv,us,ns,D,Dn,hj⟩,hn,hk⟩ k hm
 exact ⟨⟨lv,nv,us,ns,D,Dn,hj.kp pl k⟩,by omega,hk.trans (k.mono (fun _ _ e => Or.inl e))⟩
theorem oneR_obj {V P B : Nat} {W0 : World} (hB : B = W0.heap.size) (w0 : World) (hw0 : ∀ w',Kp (fun k => k = R ∨ k = V) W0 w' → Kp (Own1 R) w0 w') (pl : Pl R g V P B) (n : Nat) (X : ValP R g cap T fx a b c n) :
  OneR R g cap T fx a b c 231 #[.pointer (some ⟨P,0,none⟩),.pointer (some ⟨V,0,none⟩)] (memS (valF fx n)) (Jq R V P B W0) (Kp (Own1 R) w0):=by
 rintro ms l w ⟨⟨lv,nv,xs,ns,D,Dn,hj⟩,hn,hk⟩ h hl
 refine (object1_any pl n X ms l w lv nv xs ns D Dn hj hn h hl).mono ?_
 rintro e w' (⟨p,hp,rfl,k⟩ | ⟨x,m,hp,rfl,hj',k,h',n'⟩)
 ·exact Or.inl ⟨p,hp,rfl,hw0 _ (hk.trans (k.mono (fun _ _ e => Or.inl e)))⟩
 ·refine Or.inr ⟨x,m,hp,rfl,⟨hj',?_,hk.trans2 k (fun k hk e => ?_)⟩,h',n'⟩
  ·have:=memS_eats (valF_eats fx n).keeps _ _ _ hp
   rw [List.length_append]
   simp;omega
  ·rcases e with e | e | e | e
   ·exact Or.inl e
   ·exact Or.inr e
   ·have:=(own_block hj.jl.own e).1
    omega
   ·have:=(own_block hj.jn.own e).1
    omega
theorem object_deep {w : World} {l : List Tok} (h : Sx R g cap T w l fx a 32 c) (hl : l ≠ []) (hp : isP [123] l = true) : Calls Tryz.prog 223 #[.pointer (some ⟨R,0,none⟩)] w (Out R g cap T w fx a 32 c (objS none l) (ValV w.heap.size)):=by
 have hS0 : Sx R g cap T (preL (R:=R) w 9) l fx a 32 c:=((h.alloc _).alloc _).alloc _
 have X:=open1_deep [123] hS0 hl hp
 have cP:=(hS0.c0)
 go_enter Tryz.func223,Tryz.ntmps223
 go_wp2_with (go_at_call 153;refine X.mono ?_;rintro e w1 ⟨rfl,k1⟩)
 exact ⟨rfl,Or.inl ⟨_,rfl,rfl,((((Kp.refl (Own1 R) w).alloc _).alloc _).alloc _).trans k1⟩⟩
set_option maxRecDepth 100000 in
set_option maxHeartbeats 4000000 in
theorem object_some {w : World} {l : List Tok} {n : Nat} (X : ValP R g cap T fx a (b + 1) c n) (hb : b < 32) (h : Sx R g cap T w l fx a b c) (hl : l ≠ []) (hp : isP [123] l = true) : Calls Tryz.prog 223 #[.pointer (some ⟨R,0,none⟩)] w (Out R g cap T w fx a b c (objS (some (valF fx n)) l) (ValV w.heap.size)):=by
 have hmf : ∀ (fn : Fn) (first cap : Array Value) (w : World),(Instr.makeFunc fn first cap).run Tryz.prog w = .ok (.func fn first cap) w:=fun _ _ _ _ => rfl
 have hR:=h.ltR
 have hg:=h.lt
 have hS0 : Sx R g cap T (preL (R:=R) w 9) l fx a b c:=((h.alloc _).alloc _).alloc _
 have hz0 : (preL (R:=R) w 9).heap.size = w.heap.size + 3:=by simp
 have pl : Pl R g (w.heap.size + 1 + 1) w.heap.size (w.heap.size + 3):=⟨by omega,by omega,by omega,by omega,by omega,by omega,by omega,by omega⟩
 have bP : (preL (R:=R) w 9).heap[w.heap.size]? = some (.cells #[.pointer (some ⟨R,0,none⟩)] 118 (0,0)):=by
  have:=old_row (heap_alloc_new w (.cells #[.pointer (some ⟨R,0,none⟩)] 118)) (((Kp.refl Non _).alloc (.cells #[.int .i64 0,.string ⟨#[]⟩,.slice none 0 0,.slice none 0 0] 35)).alloc (.cells #[.int .i64 9,.string ⟨#[]⟩,.slice none 0 0,.slice none 0 0] 35)) (fun e => e)
  exact this
 have bX : (preL (R:=R) w 9).heap[w.heap.size + 1]? = some (.cells #[.int .i64 0,.string ⟨#[]⟩,.slice none 0 0,.slice none 0 0] 35 (0,0)):=by
  have:=old_row (heap_alloc_new (w.alloc (.cells #[.pointer (some ⟨R,0,none⟩)] 118)) (.cells #[.int .i64 0,.string ⟨#[]⟩,.slice none 0 0,.slice none 0 0] 35)) ((Kp.refl Non _).alloc (.cells #[.int .i64 9,.string ⟨#[]⟩,.slice none 0 0,.slice none 0 0] 35)) (fun e => e)
  rw [World.size_alloc] at this
  exact this
 have bV : (preL (R:=R) w 9).heap[w.heap.size + 1 + 1]? = some (.cells #[.int .i64 9,.string ⟨#[]⟩,.slice none 0 0,.slice none 0 0] 35 (0,0)):=by
  have:=heap_alloc_new ((w.alloc (.cells #[.pointer (some ⟨R,0,none⟩)] 118)).alloc (.cells #[.int .i64 0,.string ⟨#[]⟩,.slice none 0 0,.slice none 0 0] 35)) (.cells #[.int .i64 9,.string ⟨#[]⟩,.slice none 0 0,.slice none 0 0] 35)
  rw [World.size_alloc,World.size_alloc] at this
  exact this
 have KW : ∀ w',Kp (fun k => k = R ∨ k = w.heap.size + 1 + 1) (preL (R:=R) w 9) w' → Kp (Own1 R) w w':=fun w' k => ((((Kp.refl (Own1 R) w).alloc _).alloc _).alloc _).trans2 k (fun j hj e => by rcases e with e | e;exact e;omega)
 have OP:=open1_any [123] (by simp) hS0 hl hp hb
 have AN:=any_any 231 #[.pointer (some ⟨w.heap.size,0,none⟩),.pointer (some ⟨w.heap.size + 1 + 1,0,none⟩)] (fun _ _ => rfl) [125] (memS (valF fx n)) (memS_eats (valF_eats fx n).keeps) _ (Kp (Own1 R) w) (Jq.kp (W0:=preL (R:=R) w 9) pl) (oneR_obj hz0.symm w KW pl n X)
 have HB : Hid (_ ∧ _ ∧ _):=⟨bP,bX,bV⟩
 have HA : Hid _:=AN
 have HKW : Hid _:=KW
 have HZ : Hid (_ = _):=hz0
 clear bP bX bV AN KW hz0 X
 have hle:=h.le
 have hsm:=h.full.small
 have hbI : ((b : Nat) : Int) < 32:=by omega
 have hbI0 : (0 : Int) ≤ ((b : Nat) : Int):=by omega
 go_enter Tryz.func223,Tryz.ntmps223
 go_wp2_with (first
  | (go_at_call 102;refine (HA.out [] _ _ J0.out h1 n1).mono ?_;rintro e w2 (⟨p,hq,rfl,k2⟩ | ⟨ys,m,hq,rfl,⟨⟨lv,nv,xs,ns,D,Dn,hj⟩,hlen,k2⟩,h2,n2⟩);(exact ⟨rfl,Or.inl ⟨p,by rw [objS_some,hq,go_error],rfl,k2⟩⟩);obtain ⟨o,lc,hlv⟩:=hj.jl.slice;obtain ⟨o',nc,hnv⟩:=hj.jn.slice;rw [List.length_map] at hlv hnv;subst hlv hnv;obtain ⟨v0,v1,v2,v3,vf⟩:=row4 hj.jl.var;have bX2:=old_row HB.out.2.1 k2 (by rintro (e | e) <;> omega);obtain ⟨x0,x1,x2,x3,xf⟩:=row4 bX2;have cP2:=hj.jl.ptr;have r4:=h2.c4;have f4:=h2.free 4;have HJ : Hid _:=hj;have H2 : Hid _:=h2;have K2 : Hid _:=k2;have HQ : Hid _:=hq;clear hj h2 k2 hq)
  | (go_at_call 153;refine OP.mono ?_;rintro e w1 ⟨rfl,h1,n1,k1⟩;have bP1:=old_row HB.out.1 k1 (by intro e;have e' : w.heap.size = R:=e;omega);have bV1:=old_row HB.out.2.2 k1 (by intro e;have e' : w.heap.size + 1 + 1 = R:=e;omega);have cP1:=(row1 bP1).1;have hz1:=k1.size;rw [HZ.out] at hz1;have J0 : Hid _:=(⟨⟨_,_,_,_,_,_,⟨Js.new bV1 bP1 hz1,Js.new bV1 bP1 hz1,fun _ e => e,fun q e => by cases e⟩⟩,by have:=h1.le;simp at this ⊢;omega,k1.mono (fun _ _ e => Or.inl e)⟩ : Jq R (w.heap.size + 1 + 1) w.heap.size (w.heap.size + 3) _ [] l.tail w1);clear bP1 bV1 k1))
 go_region
 all_goals go_wp2
 have S3:=H2.out.set4 (b : Int) b rfl (by omega)
 have KQ:=own4 (w:=w2.setCell ⟨R,4,none⟩ (.int .i64 (b : Int))) (w.heap.size + 1) (.int .i64 9) (.string ⟨#[]⟩) (.slice o ys.length lc) (.slice o' ys.length nc)
 have S4:=(S3.kp KQ (fun e => by have e' : R = w.heap.size + 1:=e;omega) (fun e => by have e' : g = w.heap.size + 1:=e;omega)).drew
 have KX:=K2.out.set R 4 (.int .i64 (b : Int)) (Or.inr (Or.inl rfl))
 have KR:=((HKW.out _ KX).ret KQ (Nat.le_succ _)).drew
 have KA : Kp (fun k => k = R ∨ k = w.heap.size + 1) w2 _:=(((Kp.own R 4 (.int .i64 (b : Int))).mono (fun _ _ e => Or.inl e)).trans (KQ.mono (fun _ _ e => Or.inr e))).drew
 have AT:=HJ.out.jl.at.later (lo':=w.heap.size) KA (Nat.le_refl _) (by rintro k h1 h2 (e | e) <;> omega) (by omega) KA.size
 have AN:=HJ.out.jn.at.later (lo':=w.heap.size) KA (Nat.le_refl _) (by rintro k h1 h2 (e | e) <;> omega) (by omega) KA.size
 refine bodyPost_ret (v:=.agg #[.int .i64 9,.string ⟨#[]⟩,.slice o ys.length lc,.slice o' ys.length nc]) (by simp [results,Tryz.results223,go_sem,x0,x1,x2,x3]) rfl (Or.inr ⟨_,m,_,by rw [objS_some,HQ.out,go_ok],rfl,⟨_,_,_,_,_,_,_,_,rfl,?_⟩,S4,n2 (by simp),KR⟩)
 exact (((Ats.nil.cons AN).cons AT).cons (.lf _)).cons (.lf _)
set_option maxRecDepth 100000 in
set_option maxHeartbeats 2000000 in
theorem signed_any {w : World} {l : List Tok} {n : Nat} (h : Sx R g cap T w l fx a b c) (hl : l ≠ [])
  (LP : ∀ w,Sx R g cap T w l fx a b c → isP [91] l = true → Calls Tryz.prog 222 #[.pointer (some ⟨R,0,none⟩)] w (Out R g cap T w fx a b c (listS (inF fx n) l) (ValV w.heap.size)))
  (OP : ∀ w,Sx R g cap T w l fx a b c → isP [123] l = true → Calls Tryz.prog 223 #[.pointer (some ⟨R,0,none⟩)] w (Out R g cap T w fx a b c (objS (inF fx n) l) (ValV w.heap.size))) :
  Calls Tryz.prog 211 #[.pointer (some ⟨R,0,none⟩)] w (Out R g cap T w fx a b c (signS fx (inF fx n) l) (ValV w.heap.size)):=by
 have hR:=h.ltR
 have hg:=h.lt
 have A:=see_any [91] (h.alloc zeroV) hl
 have B:=fun w1 (k1 : Kp Non (w.alloc zeroV) w1) => see_any [123] ((h.alloc zeroV).non k1) hl
 by_cases h1 : isP [91] l = true
 ·rw [h1] at A
  have HQ : Hid (signS fx (inF fx n) l = listS (inF fx n) l):=if_pos h1
  go_enter Tryz.func211,Tryz.ntmps211
  go_wp2_with (first
   | (go_at_call 222;refine (LP _ ((h.alloc zeroV).non k1) h1).mono ?_;rintro e w2 (⟨p,hq,rfl,k2⟩ | ⟨cs,m,v,hq,rfl,⟨kk,tt,o1,n1,z1,o2,n2,z2,rfl,hat⟩,h2,m2,k2⟩);(exact ⟨rfl,Or.inl ⟨p,HQ.out.trans hq,rfl,((Kp.refl (Own1 R) w).alloc _).trans (k1.any.trans k2)⟩⟩);have K2:=k1.any.trans k2;obtain ⟨c0,c1,c2,c3,cf⟩:=row4 (new_row K2 (fun e => by have e' : w.heap.size = R:=e;omega)))
   | (go_at_call 108;refine A.mono ?_;rintro e w1 ⟨rfl,k1⟩))
  obtain ⟨r1,r2⟩:=ret4 K2 h2 hR hg (.int .i64 kk) (.string tt) (.slice o1 n1 z1) (.slice o2 n2 z2)
  have hz : w.heap.size + 1 ≤ w1.heap.size:=by have:=k1.size;simpa using this
  refine bodyPost_ret (v:=.agg #[.int .i64 kk,.string tt,.slice o1 n1 z1,.slice o2 n2 z2]) (by simp [results,Tryz.results211,go_sem,c0,c1,c2,c3]) rfl (Or.inr ⟨_,_,_,HQ.out.trans hq,rfl,⟨_,_,_,_,_,_,_,_,rfl,?_⟩,r1,m2,r2⟩)
  exact ats_up (by omega) hat (own4 w.heap.size _ _ _ _) (by omega)
 ·have h1' : isP [91] l = false:=Bool.eq_false_iff.2 h1
  rw [h1'] at A
  by_cases h2 : isP [123] l = true
  ·rw [h2] at B
   have HQ : Hid (signS fx (inF fx n) l = objS (inF fx n) l):=(if_neg h1).trans (if_pos h2)
   clear h1
   go_enter Tryz.func211,Tryz.ntmps211
   go_wp2_with (first
    | (go_at_call 223;refine (OP _ (((h.alloc zeroV).non k0).non k1) h2).mono ?_;rintro e w2 (⟨p,hq,rfl,k2⟩ | ⟨cs,m,v,hq,rfl,⟨kk,tt,o1,n1,z1,o2,n2,z2,rfl,hat⟩,h3,m2,k2⟩);(exact ⟨rfl,Or.inl ⟨p,HQ.out.trans hq,rfl,((Kp.refl (Own1 R) w).alloc _).trans ((k0.trans k1).any.trans k2)⟩⟩);have K2:=(k0.trans k1).any.trans k2;obtain ⟨c0,c1,c2,c3,cf⟩:=row4 (new_row K2 (fun e => by have e' : w.heap.size = R:=e;omega)))
    | (go_at_call 108;(with_reducible refine (B _ k0).mono ?_);rintro e w1 ⟨rfl,k1⟩)
    | (go_at_call 108;(with_reducible refine A.mono ?_);rintro e w0 ⟨rfl,k0⟩))
   obtain ⟨r1,r2⟩:=ret4 K2 h3 hR hg (.int .i64 kk) (.string tt) (.slice o1 n1 z1) (.slice o2 n2 z2)
   have hz : w.heap.size + 1 ≤ w1.heap.size:=by have:=(k0.trans k1).size;simpa using this
   refine bodyPost_ret (v:=.agg #[.int .i64 kk,.string tt,.slice o1 n1 z1,.slice o2 n2 z2]) (by simp [results,Tryz.results211,go_sem,c0,c1,c2,c3]) rfl (Or.inr ⟨_,_,_,HQ.out.trans hq,rfl,⟨_,_,_,_,_,_,_,_,rfl,?_⟩,r1,m2,r2⟩)
   exact ats_up (by omega) hat (own4 w.heap.size _ _ _ _) (by omega)
  ·have h2' : isP [123] l = false:=Bool.eq_false_iff.2 h2
   rw [h2'] at B
   cases fx with
   | true =>
    have HQ : Hid (signS true (inF true n) l = .error (atT l,60)):=(if_neg h1).trans ((if_neg h2).trans (if_pos rfl))
    clear h1 h2
    go_enter Tryz.func211,Tryz.ntmps211
    go_wp2_with (first
     | (go_at_call 104;refine (need_dies S1 hl).mono ?_;rintro e w2 ⟨rfl,k2⟩)
     | (go_at_call 108;(with_reducible refine (B _ k0).mono ?_);rintro e w1 ⟨rfl,k1⟩;have S1:=((h.alloc zeroV).non k0).non k1;have cx:=S1.c2)
     | (go_at_call 108;(with_reducible refine A.mono ?_);rintro e w0 ⟨rfl,k0⟩))
    exact ⟨rfl,Or.inl ⟨_,HQ.out,rfl,((Kp.refl (Own1 R) w).alloc _).trans ((k0.trans k1).trans k2).any⟩⟩
   | false =>
    have HQ : Hid (signS false (inF false n) l = (varS l).go fun t l1 => .ok (valC 3 t [] [],l1)):=(if_neg h1).trans ((if_neg h2).trans (if_neg (by simp)))
    clear h1 h2
    go_enter Tryz.func211,Tryz.ntmps211
    go_wp2_with (first
     | (go_at_call 190;refine (variable_any S1 hl).mono ?_;rintro e w2 (⟨p,hq,rfl,k2⟩ | ⟨x,m,v,hq,rfl,rfl,h3,m2,k2⟩);(exact ⟨rfl,Or.inl ⟨p,by rw [HQ.out,hq,go_error],rfl,((Kp.refl (Own1 R) w).alloc _).trans ((k0.trans k1).any.trans k2)⟩⟩);have K2:=(k0.trans k1).any.trans k2;obtain ⟨c0,c1,c2,c3,cf⟩:=row4 (new_row K2 (fun e => by have e' : w.heap.size = R:=e;omega)))
     | (go_at_call 104;refine (yneed_yes _).mono ?_;rintro e w2' ⟨rfl,rfl⟩)
     | (go_at_call 108;(with_reducible refine (B _ k0).mono ?_);rintro e w1 ⟨rfl,k1⟩;have S1:=((h.alloc zeroV).non k0).non k1;have cx:=S1.c2)
     | (go_at_call 108;(with_reducible refine A.mono ?_);rintro e w0 ⟨rfl,k0⟩))
    obtain ⟨r1,r2⟩:=ret4 K2 h3 hR hg (.int .i64 3) (.string ⟨x.toArray⟩) (.slice none 0 0) (.slice none 0 0)
    exact bodyPost_ret (v:=.agg #[.int .i64 3,.string ⟨x.toArray⟩,.slice none 0 0,.slice none 0 0]) (by simp [results,Tryz.results211,go_sem,c0,c1,c2,c3]) rfl (Or.inr ⟨_,_,_,by rw [HQ.out,hq,go_ok],rfl,⟨_,_,_,_,_,_,_,_,rfl,leaf4 _ _⟩,r1,m2,r2⟩)
/-- A value, wherever the reader stands. -/
theorem value_all : ∀ (n b : Nat),b + n = 32 → ValP R g cap T fx a b c n
 | n,b,hb => by
  intro w l h hl
  cases l with
  | nil => exact absurd rfl hl
  | cons t r =>
   by_cases n1 : t.k = 1
   ·exact value_1 n h n1
   by_cases n2 : t.k = 2
   ·exact value_2 n h n2
   by_cases n3 : t.k = 3
   ·exact value_3 n h n3
   by_cases n4 : t.k = 4
   ·exact value_4 n h n4
   refine value_0 n h n1 n2 n3 n4 (fun w l h hl => ?_)
   cases n with
   | zero =>
    obtain rfl : b = 32:=by omega
    exact signed_any h hl (fun w h hp => list_deep h hl hp) (fun w h hp => object_deep h hl hp)
   | succ n =>
    have X:=value_all n (b + 1) (by omega)
    exact signed_any h hl (fun w h hp => list_some X (by omega) h hl hp) (fun w h hp => object_some X (by omega) h hl hp)
end
end Go.Proofs.YtgmlbjfgfmfliaaGreatDoor
namespace Go.Proofs.YtgmlbjfgfmfliaaGreatDoor
open Go Go.RowKit
section
variable {R g cap : Nat} {T : List Tok} {fx : Bool} {a b c : Nat} {V P B : Nat} {cur : Array Value} {ty tp : TypeId} {i E sz : Nat} {f : List Tok → Rs (List CT)}
theorem item_endB {w W w1 W2 w2 w4 : World} {l m : List Tok} {els : List (List CT)} {el : List CT} {us : List Value} {lv : Value} {xs : List Value} {D : Nat → Prop} {q cp : Nat} (hj : Js R V P B cur ty tp i E sz w els lv xs D) (pl : Pl R g V P B) (hW : Kp Non w W) (hk : Kp (Own1 R) W w1)
  (hel : Ats w1 (Iv W.heap.size w1.heap.size) el us) (hW2 : Kp Non w1 W2) (hgr : W2.grownBy w2 lv.ownBlock) {H : Nat} (hH : W2.heap.size = H) (hat : lv.ownBlock = some q ∨ q = H) (own2 : w2.ownsRow B E sz (.slice (some ⟨q,0,none⟩) (els.length + 1) cp) (els.length + 1) (xs ++ us)) (hq : f l = .ok (el,m)) (h1 : Sx R g cap T w1 m fx a b c) (m1 : m ≠ [])
  (h4 : w4 = w2.setCell ⟨V,i,none⟩ (.slice (some ⟨q,0,none⟩) (els.length + 1) cp)) :
  (∃ p,f l = .error p ∧ Ending.returned (.tuple #[]) = DiesY p ∧ Kp (Own1 R) w w4) ∨ (∃ el m,f l = .ok (el,m) ∧ Ending.returned (.tuple #[]) = Ending.returned (.tuple #[]) ∧ (∃ lv' xs' D',Js R V P B cur ty tp i E sz w4 (els ++ [el]) lv' xs' D') ∧ Kp (fun k => k = R ∨ k = V ∨ lv.ownBlock = some k) w w4 ∧ Sx R g cap T w4 m fx a b c ∧ m ≠ []):=by
 have hv2:=hj.var2 pl hW hk hW2 hgr
 have hBq : B ≤ q:=(own_block own2 rfl).1
 have p1:=pl.bV;have p2:=pl.bg;have p3:=pl.bR
 subst h4
 have K4 : Kp (fun k => k = q ∨ k = V) w2 (w2.setCell ⟨V,i,none⟩ (.slice (some ⟨q,0,none⟩) (els.length + 1) cp)):=(Kp.own V i _).mono (fun _ _ e => Or.inr e)
 have var4 : (w2.setCell ⟨V,i,none⟩ (.slice (some ⟨q,0,none⟩) (els.length + 1) cp)).heap[V]? = some (.cells (cur.setIfInBounds i (.slice (some ⟨q,0,none⟩) (els.length + 1) cp)) ty (0,0)):=by
  rw [heap_setCell_same _ V i _ _ _ hv2]
  simp
 obtain ⟨hj4,k4⟩:=hj.push pl hW hk hel hW2 hgr (by rcases hat with e | e;exact Or.inl e;exact Or.inr (by omega)) K4 var4 (ownsRow_setCell_below own2 (a:=⟨V,i,none⟩) p1 _)
 have KS : Kp (fun k => lv.ownBlock = some k ∨ k = q ∨ k = V) w1 (w2.setCell ⟨V,i,none⟩ (.slice (some ⟨q,0,none⟩) (els.length + 1) cp)):=(hW2.any.grew hgr (fun k e => Or.inr (Or.inl e))).trans (K4.mono (fun _ _ e => Or.inr e))
 refine Or.inr ⟨el,m,hq,rfl,⟨_,_,_,hj4⟩,k4,h1.kp KS ?_ ?_,m1⟩
 ·rintro (e | e | e)
  ·have:=(own_block hj.own e).1;omega
  ·omega
  ·exact pl.VR e.symm
 ·rintro (e | e | e)
  ·have:=(own_block hj.own e).1;omega
  ·omega
  ·exact pl.Vg e.symm
end
end Go.Proofs.YtgmlbjfgfmfliaaGreatDoor
namespace Go.Proofs.YtgmlbjfgfmfliaaGreatDoor
open Go Go.RowKit
theorem Tryz.infoArg : (Tryz.prog.info? 43).map (fun i => (i.zero,i.size,i.bytes)) = some (some (.agg #[.string ⟨#[]⟩,.int .i64 0,.string ⟨#[]⟩,.slice none 0 0,.slice none 0 0]),5,88):=by kernel_rfl
theorem Tryz.infoDir : (Tryz.prog.info? 102).map (fun i => (i.zero,i.size,i.bytes)) = some (some (.agg #[.string ⟨#[]⟩,.slice none 0 0]),2,40):=by kernel_rfl
/-- What a row's reading tells. -/
def RowV (E sz lo : Nat) (els : List (List CT)) (v : Value) (w : World) : Prop:=(∃ o n z,v = .slice o n z) ∧ At w (Iv lo w.heap.size) (rowC E sz els) v
section
variable {R g cap : Nat} {T : List Tok} {fx : Bool} {a b c : Nat} {V P B : Nat} {cur : Array Value} {ty tp : TypeId}
set_option maxRecDepth 100000 in
set_option maxHeartbeats 4000000 in
theorem args1_item (pl : Pl R g V P B) (hi : 0 < cur.size) (X : ValP R g cap T fx a b c 32) : ItemR R g cap T fx a b c V P B cur ty tp 0 43 5 185 #[.pointer (some ⟨P,0,none⟩),.pointer (some ⟨V,0,none⟩)] (argS fx):=by
 intro els l w lv xs D hj hn h hl
 obtain ⟨o,lc,rfl⟩:=hj.slice
 have M:=member_any X h hl
 have cP:=hj.ptr
 have HJ : Hid (Js R V P B cur ty tp 0 43 5 w els (.slice o els.length lc) xs D):=hj
 have hsz:=hj.size
 have hn2 : els.length ≤ 2049:=by omega
 obtain ⟨ti,hti,hy0,hy1,hy2⟩:=info_parts Tryz.infoArg
 clear X hj
 go_enter Tryz.func185,Tryz.ntmps185
 go_wp2_with (first
  | (at_builtin;refine wpList_append_lies _ rfl _ _ _ rfl B 43 ti _ 5 88 Tryz.underlying44 hti hy0 hy1 hy2 rfl (by decide) (.slice o els.length lc) els.length xs rfl HO.out ⟨w1.heap.size + 1,0,none⟩ 1 1 [.string ⟨x.toArray⟩,.int .i64 kk,.string tt,.slice o1 n1 z1,.slice o2 n2 z2] rfl rfl (World.news_of_block bT.out) (by intro u hu;simp at hu;rcases hu with rfl | rfl | rfl | rfl | rfl <;> rfl) (by decide) (by unfold maxLen;omega) (by omega) (by simp;omega) (w1.heap.size + 2) (by simp) ?_;intro q cp w2 own2 hgr hor hlt2;have OW : Hid _:=own2;have GR : Hid _:=hgr;have OR : Hid _:=hor;clear own2 hgr hor;have hv2:=HJ.out.var2 pl (Kp.refl Non w) K1.out (((Kp.refl Non w1).alloc _).alloc _) GR.out;have e0 : w2.cell? ⟨V,0,none⟩ = some (.slice o els.length lc):=(by simp [World.cell?,hv2,hi]);have ef:=frozen_of_row w2 V 0 _ _ hv2;clear hv2)
  | (go_at_call 186;refine M.mono ?_;rintro e w1 (⟨p,hq,rfl,k1⟩ | ⟨⟨x,cs⟩,m,v,hq,rfl,⟨kk,tt,o1,n1,z1,o2,n2,z2,rfl,hat⟩,h1,m1,k1⟩);(exact ⟨rfl,Or.inl ⟨p,by simp only [argS,hq,go_error],rfl,k1⟩⟩);have hz1:=k1.size;have j1:=HJ.out.kp pl k1;have v0:=j1.cell hi;have aV:=fun o => cell_on (al1 w1 o) v0;have HO : Hid _:=((j1.own.alloc (.cells #[.int .i64 kk,.string tt,.slice o1 n1 z1,.slice o2 n2 z2] 35)).alloc (.cells #[.string ⟨x.toArray⟩,.int .i64 kk,.string tt,.slice o1 n1 z1,.slice o2 n2 z2] 43));have bT : Hid _:=heap_alloc_new (w1.alloc (.cells #[.int .i64 kk,.string tt,.slice o1 n1 z1,.slice o2 n2 z2] 35)) (.cells #[.string ⟨x.toArray⟩,.int .i64 kk,.string tt,.slice o1 n1 z1,.slice o2 n2 z2] 43);rw [World.size_alloc] at bT;have K1 : Hid _:=k1;have AT : Hid _:=hat;have H1 : Hid _:=h1;have HQ : Hid _:=hq;clear k1 hat h1 hq j1))
 go_end0
 exact item_endB HJ.out pl (Kp.refl Non w) K1.out (AT.out.cons (.lf _)) (((Kp.refl Non w1).alloc _).alloc _) GR.out (by simp) OR.out OW.out (by simp only [argS,HQ.out,go_ok]) H1.out m1 rfl
/-- The worlds ahead of a row's elements: the box of the reader, the row's variable. -/
abbrev preA (R : Nat) (t : TypeId) (w : World) : World:=(w.alloc (.cells #[.pointer (some ⟨R,0,none⟩)] 118)).alloc (.cells #[.slice none 0 0] t)
theorem preA_P (R : Nat) (t : TypeId) (w : World) : (preA R t w).heap[w.heap.size]? = some (.cells #[.pointer (some ⟨R,0,none⟩)] 118 (0,0)) :=
 old_row (heap_alloc_new w (.cells #[.pointer (some ⟨R,0,none⟩)] 118)) ((Kp.refl Non _).alloc (.cells #[.slice none 0 0] t)) (fun e => e)
theorem preA_V (R : Nat) (t : TypeId) (w : World) : (preA R t w).heap[w.heap.size + 1]? = some (.cells #[.slice none 0 0] t (0,0)):=by
 have:=heap_alloc_new (w.alloc (.cells #[.pointer (some ⟨R,0,none⟩)] 118)) (.cells #[.slice none 0 0] t)
 rw [World.size_alloc] at this
 exact this
theorem preA_size (R : Nat) (t : TypeId) (w : World) : (preA R t w).heap.size = w.heap.size + 2:=by simp
theorem preA_pl {w : World} (hR : R < w.heap.size) (hg : g < w.heap.size) : Pl R g (w.heap.size + 1) w.heap.size (w.heap.size + 2):=⟨by omega,by omega,by omega,by omega,by omega,by omega,by omega,by omega⟩
theorem preA_kp (R : Nat) (t : TypeId) (w : World) : ∀ w',Kp (fun k => k = R ∨ k = w.heap.size + 1) (preA R t w) w' → Kp (Own1 R) w w':=fun w' k => (((Kp.refl (Own1 R) w).alloc _).alloc _).trans2 k (fun j hj e => by rcases e with e | e;exact e;omega)
/-- Nothing is read yet. -/
theorem preA_start {t : TypeId} {E sz : Nat} {w w1 : World} {l m : List Tok} (hR : R < w.heap.size) (k1 : Kp (Own1 R) (preA R t w) w1) (hS : Sx R g cap T w1 l fx a b c) (hm : m.length ≤ l.length) : Jr R (w.heap.size + 1) w.heap.size (w.heap.size + 2) #[.slice none 0 0] t 118 0 E sz (preA R t w) [] m w1:=by
 have hz:=k1.size
 rw [preA_size] at hz
 refine ⟨⟨_,_,_,Js.new (old_row (preA_V R t w) k1 (fun e => by have e' : w.heap.size + 1 = R:=e;omega)) (old_row (preA_P R t w) k1 (fun e => by have e' : w.heap.size = R:=e;omega)) hz⟩,?_,k1.mono (fun _ _ e => Or.inl e)⟩
 have:=hS.le;have:=hS.full.small
 simp;omega
/-- The row, told. -/
theorem row_told {t : TypeId} {E sz : Nat} {w w2 : World} {els : List (List CT)} {lv : Value} {xs : List Value} {D : Nat → Prop} (hj : Js R (w.heap.size + 1) w.heap.size (w.heap.size + 2) #[.slice none 0 0] t 118 0 E sz w2 els lv xs D) : RowV E sz w.heap.size els lv w2:=by
 obtain ⟨o,n,h⟩:=hj.slice
 exact ⟨⟨o,_,n,h⟩,hj.at.mono (fun k hk => ⟨by have:=hk.1;omega,hk.2⟩)⟩
set_option maxRecDepth 100000 in
set_option maxHeartbeats 2000000 in
theorem args_any {w : World} {l : List Tok} (X : ValP R g cap T fx a b c 32) (h : Sx R g cap T w l fx a b c) (hl : l ≠ []) : Calls Tryz.prog 152 #[.pointer (some ⟨R,0,none⟩)] w (Out R g cap T w fx a b c (argsS fx l) (RowV 43 5 w.heap.size)):=by
 have hmf : ∀ (fn : Fn) (first cap : Array Value) (w : World),(Instr.makeFunc fn first cap).run Tryz.prog w = .ok (.func fn first cap) w:=fun _ _ _ _ => rfl
 have hR:=h.ltR
 have hg:=h.lt
 have pl:=preA_pl hR hg
 have hS0 : Sx R g cap T (preA R 44 w) l fx a b c:=(h.alloc _).alloc _
 have TK:=ytake_any [40] hS0 hl
 have HA : Hid _:=some_any 185 #[.pointer (some ⟨w.heap.size,0,none⟩),.pointer (some ⟨w.heap.size + 1,0,none⟩)] (fun _ _ => rfl) [41] (argS fx) (argS_eats fx) _ (Kp (Own1 R) w) (Jr.kp (cur:=#[.slice none 0 0]) (ty:=44) (tp:=118) (i:=0) (E:=43) (sz:=5) (W0:=preA R 44 w) pl) (oneR_of (preA_size _ _ _).symm (argS_eats fx) w (preA_kp R _ w) (args1_item pl (by decide) X))
 clear X
 go_enter Tryz.func152,Tryz.ntmps152
 go_wp2_with (first
  | (go_at_call 64;refine (HA.out [] _ _ (preA_start hR k1 h1 (Nat.le_refl _)) h1 (hS0.next (by simp) hp)).mono ?_;rintro e w2 (⟨p,hq,rfl,k2⟩ | ⟨ys,m,hq,rfl,⟨⟨lv,xs,D,hj⟩,hlen,k2⟩,h2,n2⟩);(exact ⟨rfl,Or.inl ⟨p,by simp only [argsS,hp,if_true,hq],rfl,k2⟩⟩);have HT : Hid _:=row_told hj;obtain ⟨o,lc,rfl⟩:=hj.slice;have v0:=hj.cell (by decide);have KR : Hid _:=preA_kp R _ w _ k2)
  | (go_at_call 146;refine TK.mono ?_;(rintro e w1 (⟨hp,rfl,h1,k1⟩ | ⟨hp,rfl,h1,k1⟩) <;> (have cP1:=(row1 (old_row (preA_P R _ w) k1 (fun e => by have e' : w.heap.size = R:=e;omega))).1;have v1:=(row1 (old_row (preA_V R _ w) k1 (fun e => by have e' : w.heap.size + 1 = R:=e;omega))).1))))
 ·go_ret
  exact Or.inr ⟨ys,m,_,by simp only [argsS,hp,if_true,hq],rfl,HT.out,h2,n2 (by simp),KR.out⟩
 ·go_ret
  exact Or.inr ⟨[],l,_,by simp only [argsS,hp,Bool.false_eq_true,if_false],rfl,⟨⟨_,_,_,rfl⟩,.nil _ _⟩,h1,hl,preA_kp R _ w _ (k1.mono (fun _ _ e => Or.inl e))⟩
end
end Go.Proofs.YtgmlbjfgfmfliaaGreatDoor
namespace Go.Proofs.YtgmlbjfgfmfliaaGreatDoor
open Go Go.RowKit
section
variable {R g cap : Nat} {T : List Tok} {fx : Bool} {a b c : Nat} {V P B : Nat} {cur : Array Value} {ty tp : TypeId}
attribute [local go_sem ↓] Go.wp_at_zero Go.wp_at_succ
set_option maxRecDepth 100000 in
set_option maxHeartbeats 8000000 in
theorem directives1_item (pl : Pl R g V P B) (hi : 0 < cur.size) (X : ValP R g cap T fx a b c 32) : ItemR R g cap T fx a b c V P B cur ty tp 0 102 2 151 #[.pointer (some ⟨P,0,none⟩),.pointer (some ⟨V,0,none⟩)] (dirS fx):=by
 intro els l w lv xs D hj hn h hl
 obtain ⟨o,lc,rfl⟩:=hj.slice
 have M:=name_any h hl
 have cP:=hj.ptr
 have HJ : Hid (Js R V P B cur ty tp 0 102 2 w els (.slice o els.length lc) xs D):=hj
 have hsz:=hj.size
 have hn2 : els.length ≤ 2049:=by omega
 obtain ⟨ti,hti,hy0,hy1,hy2⟩:=info_parts Tryz.infoDir
 clear hj
 go_enter Tryz.func151,Tryz.ntmps151
 go_wp2_with (go_at_call 105;refine M.mono ?_;rintro e w1 (⟨p,hq1,rfl,k1⟩ | ⟨x,l1,v,hq1,rfl,rfl,h1,m1,k1⟩);(exact ⟨rfl,Or.inl ⟨p,by simp only [dirS,hq1,go_error],rfl,k1⟩⟩);have j1:=HJ.out.kp pl k1;have v1:=j1.cell hi;have p1:=j1.ptr;have hz1:=k1.size;have XA:=args_any X h1.drew m1;have K1 : Hid _:=k1;have HQ1 : Hid _:=hq1;clear k1 hq1 j1 h1)
 go_region_law (first
  | (refine step_append_lies _ (by rfl) (.tmp 5) (.tmp 10) 45 (by rfl) B 102 ti _ 2 40 Tryz.underlying45 hti hy0 hy1 hy2 rfl (by decide) (.slice o els.length lc) els.length xs (by rfl) (HO.out.alloc _) ⟨w2.heap.size,0,none⟩ 1 1 [.string ⟨x.toArray⟩,.slice o1 n1 z1] (by rfl) rfl (World.news_of_block (heap_alloc_new _ _)) (by intro u hu;simp at hu;rcases hu with rfl | rfl <;> rfl) (by decide) (by unfold maxLen;omega) (by omega) (by simp;omega) (w2.heap.size + 1) (by simp) ?_;intro q cp w3 own2 hgr hor hlt2;have OW : Hid _:=own2;have GR : Hid _:=hgr;have OR : Hid _:=hor;clear own2 hgr hor;have hv2:=HJ.out.var2 pl (Kp.refl Non w) K2.out ((Kp.refl Non w2).alloc _) GR.out;have e0 : w3.cell? ⟨V,0,none⟩ = some (.slice o els.length lc):=(by simp [World.cell?,hv2,hi]);have ef:=frozen_of_row w3 V 0 _ _ hv2;clear hv2)
  | (go_simp;go_wp2_with (first
    | (go_at_call 152;(with_reducible refine XA.mono ?_);rintro e w2 (⟨p,hq,rfl,k2⟩ | ⟨ags,m,v,hq,rfl,⟨⟨o1,n1,z1,rfl⟩,hat⟩,h2,m2,k2⟩);(exact ⟨rfl,Or.inl ⟨p,by simp only [dirS,HQ1.out,go_ok,hq,go_error],rfl,K1.out.trans (((Kp.refl (Own1 R) w1).drew).trans k2)⟩⟩);have K2 : Hid _:=K1.out.trans (((Kp.refl (Own1 R) w1).drew).trans k2);have j2:=HJ.out.kp pl K2.out;have v2:=j2.cell hi;have f2:=j2.free 0;have p2:=j2.ptr;have aV:=fun o => cell_on (al1 w2 o) v2;have HO : Hid (w2.ownsRow B 102 2 (.slice o els.length lc) els.length xs):=j2.own;have hz2 : w1.heap.size ≤ w2.heap.size:=k2.size;have AT : Hid _:=hat;have H2 : Hid _:=h2;have HQ : Hid _:=hq;clear k2 hat h2 hq j2)
    | fail))
  | fail)
 all_goals go_end0
 all_goals exact item_endB HJ.out pl (Kp.refl Non w) K2.out ((Ats.nil.cons (AT.out.mono (fun k hk => ⟨Nat.le_trans hz1 hk.1,hk.2⟩))).cons (.lf _)) ((Kp.refl Non w2).alloc _) GR.out (World.size_alloc _ _) OR.out OW.out (by simp only [dirS,HQ1.out,go_ok,HQ.out]) H2.out m2 rfl
set_option maxRecDepth 100000 in
set_option maxHeartbeats 2000000 in
theorem dirs_any {w : World} {l : List Tok} (X : ValP R g cap T fx a b c 32) (h : Sx R g cap T w l fx a b c) (hl : l ≠ []) : Calls Tryz.prog 106 #[.pointer (some ⟨R,0,none⟩)] w (Out R g cap T w fx a b c (dirsS fx l) (RowV 102 2 w.heap.size)):=by
 have hmf : ∀ (fn : Fn) (first cap : Array Value) (w : World),(Instr.makeFunc fn first cap).run Tryz.prog w = .ok (.func fn first cap) w:=fun _ _ _ _ => rfl
 have hR:=h.ltR
 have hg:=h.lt
 have pl:=preA_pl hR hg
 have hS0 : Sx R g cap T (preA R 45 w) l fx a b c:=(h.alloc _).alloc _
 have HA:=led_any 151 #[.pointer (some ⟨w.heap.size,0,none⟩),.pointer (some ⟨w.heap.size + 1,0,none⟩)] (fun _ _ => rfl) [64] (by simp) (dirS fx) (dirS_eats fx).keeps _ (Kp (Own1 R) w) (Jr.kp (cur:=#[.slice none 0 0]) (ty:=45) (tp:=118) (i:=0) (E:=102) (sz:=2) (W0:=preA R 45 w) pl) (oneR_of (preA_size _ _ _).symm (dirS_eats fx) w (preA_kp R _ w) (directives1_item pl (by decide) X)) [] l (preA R 45 w) (preA_start hR (Kp.refl _ _) hS0 (Nat.le_refl _)) hS0 hl
 clear X
 go_enter Tryz.func106,Tryz.ntmps106
 go_wp2_with (go_at_call 150;refine HA.mono ?_;rintro e w2 (⟨p,hq,rfl,k2⟩ | ⟨ys,m,hq,rfl,⟨⟨lv,xs,D,hj⟩,hlen,k2⟩,h2,n2⟩);(exact ⟨rfl,Or.inl ⟨p,hq,rfl,k2⟩⟩);have HT : Hid _:=row_told hj;obtain ⟨o,lc,rfl⟩:=hj.slice;have v0:=hj.cell (by decide);have KR : Hid _:=preA_kp R _ w _ k2)
 go_ret
 exact Or.inr ⟨ys,m,_,hq,rfl,HT.out,h2,n2,KR.out⟩
end
end Go.Proofs.YtgmlbjfgfmfliaaGreatDoor
namespace Go.Proofs.YtgmlbjfgfmfliaaGreatDoor
open Go Go.RowKit
theorem cat_bytes (x y : Bs) : ByteArray.mk x.toArray ++ ByteArray.mk y.toArray = ⟨(x ++ y).toArray⟩:=by
 apply ByteArray.ext;apply Array.toList_inj.1;simp
theorem refB_len {x z : Bs × Bs} {l m : List Tok} (h : refB x l = .ok (z,m)) : z.2.length ≤ x.2.length + 1:=by
 unfold refB at h
 split at h <;> cases h <;> simp
theorem refG_len {inner : Option (List Tok → Rs (Bs × Bs))} {n : Nat} (hi : ∀ f,inner = some f → ∀ l x m,f l = .ok (x,m) → x.2.length ≤ n) : ∀ l x m,refG inner l = .ok (x,m) → x.2.length ≤ n + 2:=by
 intro l x m h
 unfold refG at h
 obtain ⟨z,l1,h1,h2⟩:=go_ok_inv h
 have:=refB_len h2
 split at h1
 ·cases inner with
  | none => cases h1
  | some f =>
   obtain ⟨y,l2,h3,h4⟩:=go_ok_inv h1
   obtain ⟨u,l3,h5,h6⟩:=go_ok_inv h4
   have:=hi f rfl _ _ _ h3
   cases h6
   simp at *;omega
 ·obtain ⟨y,l2,h3,h4⟩:=go_ok_inv h1
  cases h4
  simp at *;omega
theorem refF_len : ∀ n l x m,refF n l = .ok (x,m) → x.2.length ≤ 2 * n + 2
 | 0,l,x,m,h => refG_len (n:=0) (fun f hf => by cases hf) l x m h
 | n + 1,l,x,m,h => by
  have:=refG_len (n:=2 * n + 2) (fun f hf l x m h => by cases hf;exact refF_len n l x m h) l x m h
  omega
section
variable {R g cap : Nat} {T : List Tok} {fx : Bool} {a b c : Nat}
abbrev RefV : Bs × Bs → Value → World → Prop:=fun x v _ => v = .agg #[.string ⟨x.1.toArray⟩,.string ⟨x.2.toArray⟩]
abbrev zR : Obj:=.cells #[.string ⟨#[]⟩,.string ⟨#[]⟩] 97
theorem preR_X (w : World) : ((w.alloc zR).alloc zR).heap[w.heap.size]? = some (.cells #[.string ⟨#[]⟩,.string ⟨#[]⟩] 97 (0,0)) :=
 old_row (heap_alloc_new w zR) ((Kp.refl Non _).alloc zR) (fun e => e)
theorem preR_Y (w : World) : ((w.alloc zR).alloc zR).heap[w.heap.size + 1]? = some (.cells #[.string ⟨#[]⟩,.string ⟨#[]⟩] 97 (0,0)):=by
 have:=heap_alloc_new (w.alloc zR) zR
 rw [World.size_alloc] at this
 exact this
theorem ref_deep {w : World} {l : List Tok} (h : Sx R g cap T w l fx a b 32) (hl : l ≠ []) (hp : isP [91] l = true) : Calls Tryz.prog 191 #[.pointer (some ⟨R,0,none⟩)] w (Out R g cap T w fx a b 32 (refG none l) RefV):=by
 have hS0 : Sx R g cap T ((w.alloc zR).alloc zR) l fx a b 32:=(h.alloc _).alloc _
 have A:=see_any [91] hS0 hl
 rw [hp] at A
 have HQ : Hid (refG none l = .error (atT l,61)):=by show _ = _;unfold refG;rw [if_pos hp];rfl
 go_enter Tryz.func191,Tryz.ntmps191
 go_wp2_with (first
  | (go_at_call 153;refine (open2_deep [91] (hS0.non k1) hl hp).mono ?_;rintro e w2 ⟨rfl,k2⟩)
  | (go_at_call 108;refine A.mono ?_;rintro e w1 ⟨rfl,k1⟩))
 exact ⟨rfl,Or.inl ⟨_,HQ.out,rfl,((((Kp.refl (Own1 R) w).alloc _).alloc _).trans k1.any).trans k2⟩⟩
set_option maxRecDepth 100000 in
set_option maxHeartbeats 2000000 in
theorem ref_name {w : World} {l : List Tok} {inner : Option (List Tok → Rs (Bs × Bs))} (h : Sx R g cap T w l fx a b c) (hl : l ≠ []) (hp : isP [91] l = false) : Calls Tryz.prog 191 #[.pointer (some ⟨R,0,none⟩)] w (Out R g cap T w fx a b c (refG inner l) RefV):=by
 have hR:=h.ltR
 have hg:=h.lt
 have hS0 : Sx R g cap T ((w.alloc zR).alloc zR) l fx a b c:=(h.alloc _).alloc _
 have A:=see_any [91] hS0 hl
 rw [hp] at A
 have HQ : Hid (refG inner l = ((nameS l).go fun t l1 => .ok ((t,[]),l1)).go refB):=by show _ = _;unfold refG;rw [if_neg (by rw [hp];simp)]
 go_enter Tryz.func191,Tryz.ntmps191
 go_wp2_with (first
  | (go_at_call 146;refine (ytake_any [33] (h2.set (w.heap.size + 1) 0 (.string ⟨x.toArray⟩) (by omega) (by omega)) n2).mono ?_;(rintro e w3 (⟨hb,rfl,h3,k3⟩ | ⟨hb,rfl,h3,k3⟩) <;> (obtain ⟨y0',y1',yf'⟩:=row2 (old_row (heap_setCell_same w2 (w.heap.size + 1) 0 _ _ (.string ⟨x.toArray⟩) bY) k3 (fun e => by have e' : w.heap.size + 1 = R:=e;omega));obtain ⟨x0',x1',xf'⟩:=row2 (old_row (old_row bX (Kp.own (w.heap.size + 1) 0 (.string ⟨x.toArray⟩)) (fun e => by have e' : w.heap.size = w.heap.size + 1:=e;omega)) k3 (fun e => by have e' : w.heap.size = R:=e;omega)))))
  | (go_at_call 105;refine (name_any (hS0.non k1) hl).mono ?_;rintro e w2 (⟨p,hq,rfl,k2⟩ | ⟨x,l1,v,hq,rfl,rfl,h2,n2,k2⟩);(exact ⟨rfl,Or.inl ⟨p,by rw [HQ.out,hq];rfl,rfl,(((Kp.refl (Own1 R) w).alloc _).alloc _).trans (k1.any.trans k2)⟩⟩);have K2:=k1.any.trans k2;have bY:=old_row (preR_Y w) K2 (fun e => by have e' : w.heap.size + 1 = R:=e;omega);have bX:=old_row (preR_X w) K2 (fun e => by have e' : w.heap.size = R:=e;omega);obtain ⟨y0,y1,yf⟩:=row2 bY;have KW:=(((Kp.refl (Own1 R) w).alloc zR).alloc zR).trans K2)
  | (go_at_call 108;refine A.mono ?_;rintro e w1 ⟨rfl,k1⟩))
 ·refine bodyPost_ret (v:=.agg #[.string ⟨x.toArray⟩,.string ({ data:=#[] } ++ { data:=#[33] })]) (by simp [results,Tryz.results191,go_sem,x0',x1']) rfl (Or.inr ⟨(x,[] ++ [33]),l1.tail,_,?_,rfl,congrArg (fun z => Value.agg #[.string ⟨x.toArray⟩,.string z]) (cat_bytes [] [33]),((h3.set _ _ _ (by omega) (by omega)).set _ _ _ (by omega) (by omega)).set _ _ _ (by omega) (by omega),h2.next (by simp) hb,((((KW.set _ _ _ (Or.inl (Nat.le_succ _))).trans k3).set _ _ _ (Or.inl (Nat.le_succ _))).set _ _ _ (Or.inl (Nat.le_refl _))).set _ _ _ (Or.inl (Nat.le_refl _))⟩)
  rw [HQ.out,hq,go_ok,go_ok,refB,if_pos hb]
 ·refine bodyPost_ret (v:=.agg #[.string ⟨x.toArray⟩,.string { data:=#[] }]) (by simp [results,Tryz.results191,go_sem,x0',x1']) rfl (Or.inr ⟨(x,[]),l1,_,?_,rfl,rfl,(h3.set _ _ _ (by omega) (by omega)).set _ _ _ (by omega) (by omega),n2,(((KW.set _ _ _ (Or.inl (Nat.le_succ _))).trans k3).set _ _ _ (Or.inl (Nat.le_refl _))).set _ _ _ (Or.inl (Nat.le_refl _))⟩)
  rw [HQ.out,hq,go_ok,go_ok,refB,if_neg (by rw [hb];simp)]
set_option maxRecDepth 100000 in
set_option maxHeartbeats 4000000 in
theorem ref_in {w : World} {l : List Tok} {f : List Tok → Rs (Bs × Bs)} (X : ∀ w l,Sx R g cap T w l fx a b (c + 1) → l ≠ [] → Calls Tryz.prog 191 #[.pointer (some ⟨R,0,none⟩)] w (Out R g cap T w fx a b (c + 1) (f l) RefV)) (hf : ∀ l x m,f l = .ok (x,m) → x.2.length ≤ 100) (hc : c < 32) (h : Sx R g cap T w l fx a b c) (hl : l ≠ []) (hp : isP [91] l = true) : Calls Tryz.prog 191 #[.pointer (some ⟨R,0,none⟩)] w (Out R g cap T w fx a b c (refG (some f) l) RefV):=by
 have hR:=h.ltR
 have hg:=h.lt
 have hS0 : Sx R g cap T ((w.alloc zR).alloc zR) l fx a b c:=(h.alloc _).alloc _
 have A:=see_any [91] hS0 hl
 rw [hp] at A
 have hcI : ((c : Nat) : Int) < 32:=by omega
 have hcI0 : (0 : Int) ≤ ((c : Nat) : Int):=by omega
 have HQ : Hid (refG (some f) l = ((f l.tail).go fun x l1 => (mustS [93] l1).go fun _ l2 => .ok ((x.1,x.2 ++ [91]),l2)).go refB):=by show _ = _;unfold refG;rw [if_pos hp]
 go_enter Tryz.func191,Tryz.ntmps191
 go_wp2_with (first
  | (go_at_call 104;first | ((with_reducible refine (yneed_yes _).mono ?_);rintro e w4' ⟨rfl,rfl⟩) | ((with_reducible refine (need_dies h4 n3).mono ?_);rintro e w4' ⟨rfl,k4'⟩;(exact ⟨rfl,Or.inl ⟨(atT l1,60),by rw [HQ.out,hq,go_ok];simp only [mustS,hb,Bool.false_eq_true,if_false,go_error],rfl,(((KW.set _ _ _ (Or.inl (Nat.le_succ _))).set _ _ _ (Or.inl (Nat.le_succ _))).trans k4).trans k4'.any⟩⟩)))
  | (go_at_call 146;refine (ytake_any [93] ((h3.set (w.heap.size + 1) 0 (.string ⟨x.toArray⟩) (by omega) (by omega)).set (w.heap.size + 1) 1 (.string ⟨y.toArray⟩) (by omega) (by omega)) n3).mono ?_;(rintro e w4 (⟨hb,rfl,h4,k4⟩ | ⟨hb,rfl,h4,k4⟩) <;> (have bY4:=old_row (heap_setCell_same _ (w.heap.size + 1) 1 _ _ (.string ⟨y.toArray⟩) (heap_setCell_same w3 (w.heap.size + 1) 0 _ _ (.string ⟨x.toArray⟩) bY)) k4 (fun e => by have e' : w.heap.size + 1 = R:=e;omega);have bX4:=old_row (old_row bX (((Kp.own (w.heap.size + 1) 0 (.string ⟨x.toArray⟩))).set (w.heap.size + 1) 1 (.string ⟨y.toArray⟩) (Or.inr rfl)) (fun e => by have e' : w.heap.size = w.heap.size + 1:=e;omega)) k4 (fun e => by have e' : w.heap.size = R:=e;omega);obtain ⟨y0',y1',yf'⟩:=row2 bY4;obtain ⟨x0',x1',xf'⟩:=row2 bX4;have r5:=h4.c5;have f5:=h4.free 5)))
  | (go_at_call 191;refine (X _ _ h2 n2).mono ?_;rintro e w3 (⟨p,hq,rfl,k3⟩ | ⟨⟨x,y⟩,l1,v,hq,rfl,rfl,h3,n3,k3⟩);(exact ⟨rfl,Or.inl ⟨p,by rw [HQ.out,hq];rfl,rfl,(((Kp.refl (Own1 R) w).alloc _).alloc _).trans ((k1.any.trans k2).trans k3)⟩⟩);have K3:=(k1.any.trans k2).trans k3;have bY:=old_row (preR_Y w) K3 (fun e => by have e' : w.heap.size + 1 = R:=e;omega);have bX:=old_row (preR_X w) K3 (fun e => by have e' : w.heap.size = R:=e;omega);obtain ⟨y0,y1,yf⟩:=row2 bY;have KW:=(((Kp.refl (Own1 R) w).alloc zR).alloc zR).trans K3)
  | (go_at_call 153;refine (open2_any [91] (by simp) (hS0.non k1) hl hp hc).mono ?_;rintro e w2 ⟨rfl,h2,n2,k2⟩)
  | (go_at_call 108;refine A.mono ?_;rintro e w1 ⟨rfl,k1⟩))
 go_region
 have hy : y.length ≤ 100:=hf _ _ _ hq
 have hy1 : ¬ 9223372036854775807 < y.length + 1:=by omega
 have hy2 : ¬ 9223372036854775807 < y.length + 1 + 1:=by omega
 have S5:=(h4.set5 (c : Int) c rfl (by omega)).drew
 have k5 : Kp (Own1 R) w4 (w4.setCell ⟨R,5,none⟩ (.int .i64 (c : Int))).drew:=(Kp.own R 5 _).drew
 have bY5:=old_row bY4 k5 (fun e => by have e' : w.heap.size + 1 = R:=e;omega)
 have bX5:=old_row bX4 k5 (fun e => by have e' : w.heap.size = R:=e;omega)
 have KW5:=((((KW.set _ _ _ (Or.inl (Nat.le_succ _))).set _ _ _ (Or.inl (Nat.le_succ _))).trans k4).trans k5)
 have n4 : l1.tail ≠ []:=h3.next (by simp) hb
 have HQ2 : Hid (refG (some f) l = refB (x,y ++ [91]) l1.tail):=by show _ = _;rw [HQ.out,hq,go_ok];simp only [mustS,hb,if_true,go_ok]
 generalize (w4.setCell ⟨R,5,none⟩ (.int .i64 (c : Int))).drew = w5 at *
 obtain ⟨y0,y1,yf⟩:=row2 bY5
 obtain ⟨x0,x1,xf⟩:=row2 bX5
 clear y0' y1' yf' x0' x1' xf' r5 f5 bY4 bX4
 go_wp2_with (go_at_call 146;refine (ytake_any [33] (S5.set (w.heap.size + 1) 1 (.string ({ data:=y.toArray } ++ { data:=#[91] })) (by omega) (by omega)) n4).mono ?_;(rintro e w6 (⟨hd,rfl,h6,k6⟩ | ⟨hd,rfl,h6,k6⟩) <;> (obtain ⟨y0',y1',yf'⟩:=row2 (old_row (heap_setCell_same w5 (w.heap.size + 1) 1 _ _ (.string ({ data:=y.toArray } ++ { data:=#[91] })) bY5) k6 (fun e => by have e' : w.heap.size + 1 = R:=e;omega));obtain ⟨x0',x1',xf'⟩:=row2 (old_row (old_row bX5 (Kp.own (w.heap.size + 1) 1 (.string ({ data:=y.toArray } ++ { data:=#[91] }))) (fun e => by have e' : w.heap.size = w.heap.size + 1:=e;omega)) k6 (fun e => by have e' : w.heap.size = R:=e;omega)))))
 ·refine bodyPost_ret (v:=.agg #[.string ⟨x.toArray⟩,.string ({ data:=y.toArray } ++ { data:=#[91] } ++ { data:=#[33] })]) (by simp [results,Tryz.results191,go_sem,x0',x1']) rfl (Or.inr ⟨(x,y ++ [91] ++ [33]),l1.tail.tail,_,?_,rfl,?_,((h6.set _ _ _ (by omega) (by omega)).set _ _ _ (by omega) (by omega)).set _ _ _ (by omega) (by omega),S5.next (by simp) hd,((((KW5.set _ _ _ (Or.inl (Nat.le_succ _))).trans k6).set _ _ _ (Or.inl (Nat.le_succ _))).set _ _ _ (Or.inl (Nat.le_refl _))).set _ _ _ (Or.inl (Nat.le_refl _))⟩)
  ·rw [HQ2.out,refB,if_pos hd]
  ·show Value.agg #[.string ⟨x.toArray⟩,.string (ByteArray.mk y.toArray ++ ByteArray.mk [91].toArray ++ ByteArray.mk [33].toArray)] = _
   rw [cat_bytes,cat_bytes]
 ·refine bodyPost_ret (v:=.agg #[.string ⟨x.toArray⟩,.string ({ data:=y.toArray } ++ { data:=#[91] })]) (by simp [results,Tryz.results191,go_sem,x0',x1']) rfl (Or.inr ⟨(x,y ++ [91]),l1.tail,_,?_,rfl,?_,(h6.set _ _ _ (by omega) (by omega)).set _ _ _ (by omega) (by omega),n4,(((KW5.set _ _ _ (Or.inl (Nat.le_succ _))).trans k6).set _ _ _ (Or.inl (Nat.le_refl _))).set _ _ _ (Or.inl (Nat.le_refl _))⟩)
  ·rw [HQ2.out,refB,if_neg (by rw [hd];simp)]
  ·show Value.agg #[.string ⟨x.toArray⟩,.string (ByteArray.mk y.toArray ++ ByteArray.mk [91].toArray)] = _
   rw [cat_bytes]
/-- A type, wherever the reader stands. -/
theorem ref_all : ∀ (n c : Nat),c + n = 32 → ∀ w l,Sx R g cap T w l fx a b c → l ≠ [] → Calls Tryz.prog 191 #[.pointer (some ⟨R,0,none⟩)] w (Out R g cap T w fx a b c (refF n l) RefV)
 | n,c,hc,w,l,h,hl => by
  cases hp : isP [91] l with
  | false => cases n <;> exact ref_name h hl hp
  | true =>
   cases n with
   | zero =>
    obtain rfl : c = 32:=by omega
    exact ref_deep h hl hp
   | succ n => exact ref_in (ref_all n (c + 1) (by omega)) (fun l x m hx => by have:=refF_len n l x m hx;omega) (by omega) h hl hp
end
end Go.Proofs.YtgmlbjfgfmfliaaGreatDoor
