/- Arguments and directives. -/
import Derived.Test.YtgppemlciohjcaaGreatDoorB09
import Derived.Test.YtgppemlciohjcaaGreatDoorB07
namespace Go.Proofs.YtgppemlciohjcaaGreatDoor
section
open Go Go.RowKit
theorem Tryz.infoArg : (Tryz.prog.info? 121).map (fun i => (i.zero,i.size,i.bytes)) = some (some (.agg #[.string ⟨#[]⟩,.int .i64 0,.string ⟨#[]⟩,.slice none 0 0,.slice none 0 0]),5,88):=by kernel_rfl
theorem Tryz.infoDir : (Tryz.prog.info? 97).map (fun i => (i.zero,i.size,i.bytes)) = some (some (.agg #[.string ⟨#[]⟩,.slice none 0 0]),2,40):=by kernel_rfl
def RowV (E sz lo : Nat) (els : List (List CT)) (v : Value) (w : World) : Prop:=(∃ o n z,v = .slice o n z) ∧ At w (Iv lo w.heap.size) (rowC E sz els) v
section
variable {R g cap : Nat} {T : List Tok} {fx : Bool} {a b c : Nat} {V P B : Nat} {cur : Array Value} {ty tp : TypeId}
set_option maxRecDepth 100000 in
set_option maxHeartbeats 4000000 in
theorem args1_item (pl : Pl R g V P B) (hi : 0 < cur.size) (X : ValP R g cap T fx a b c 32) : ItemR R g cap T fx a b c V P B cur ty tp 0 121 5 113 #[.pointer (some ⟨P,0,none⟩),.pointer (some ⟨V,0,none⟩)] (argS fx):=by
 intro els l w lv xs D hj hn h hl
 obtain ⟨o,lc,rfl⟩:=hj.slice
 have M:=member_any X h hl
 have cP:=hj.ptr
 have HJ : Hid (Js R V P B cur ty tp 0 121 5 w els (.slice o els.length lc) xs D):=hj
 have hsz:=hj.size
 have hn2 : els.length ≤ 2049:=by omega
 obtain ⟨ti,hti,hy0,hy1,hy2⟩:=info_parts Tryz.infoArg
 clear X hj
 go_enter Tryz.func113,Tryz.ntmps113
 go_wp2_with (first
  | (at_builtin;refine wpList_append_lies _ rfl _ _ _ rfl B 121 ti _ 5 88 Tryz.underlying63 hti hy0 hy1 hy2 rfl (by decide) (.slice o els.length lc) els.length xs rfl HO.out ⟨w1.heap.size + 1,0,none⟩ 1 1 [.string ⟨x.toArray⟩,.int .i64 kk,.string tt,.slice o1 n1 z1,.slice o2 n2 z2] rfl rfl (World.news_of_block bT.out) (by intro u hu;simp at hu;rcases hu with rfl | rfl | rfl | rfl | rfl <;> rfl) (by decide) (by unfold maxLen;omega) (by omega) (by simp;omega) (w1.heap.size + 2) (by simp) ?_;intro q cp w2 own2 hgr hor hlt2;have OW : Hid _:=own2;have GR : Hid _:=hgr;have OR : Hid _:=hor;clear own2 hgr hor;have hv2:=HJ.out.var2 pl (Kp.refl Non w) K1.out (((Kp.refl Non w1).alloc _).alloc _) GR.out;have e0 : w2.cell? ⟨V,0,none⟩ = some (.slice o els.length lc):=(by simp [World.cell?,hv2,hi]);have ef:=frozen_of_row w2 V 0 _ _ hv2;clear hv2)
  | (go_at_call 114;refine M.mono ?_;rintro e w1 (⟨p,hq,rfl,k1⟩ | ⟨⟨x,cs⟩,m,v,hq,rfl,⟨kk,tt,o1,n1,z1,o2,n2,z2,rfl,hat⟩,h1,m1,k1⟩);(exact ⟨rfl,Or.inl ⟨p,by simp only [argS,hq,go_error],rfl,k1⟩⟩);have hz1:=k1.size;have j1:=HJ.out.kp pl k1;have v0:=j1.cell hi;have aV:=fun o => cell_on (al1 w1 o) v0;have HO : Hid _:=((j1.own.alloc (.cells #[.int .i64 kk,.string tt,.slice o1 n1 z1,.slice o2 n2 z2] 70)).alloc (.cells #[.string ⟨x.toArray⟩,.int .i64 kk,.string tt,.slice o1 n1 z1,.slice o2 n2 z2] 121));have bT : Hid _:=heap_alloc_new (w1.alloc (.cells #[.int .i64 kk,.string tt,.slice o1 n1 z1,.slice o2 n2 z2] 70)) (.cells #[.string ⟨x.toArray⟩,.int .i64 kk,.string tt,.slice o1 n1 z1,.slice o2 n2 z2] 121);rw [World.size_alloc] at bT;have K1 : Hid _:=k1;have AT : Hid _:=hat;have H1 : Hid _:=h1;have HQ : Hid _:=hq;clear k1 hat h1 hq j1))
 go_end0
 exact item_endB HJ.out pl (Kp.refl Non w) K1.out (AT.out.cons (.lf _)) (((Kp.refl Non w1).alloc _).alloc _) GR.out (by simp) OR.out OW.out (by simp only [argS,HQ.out,go_ok]) H1.out m1 rfl
abbrev preA (R : Nat) (t : TypeId) (w : World) : World:=(w.alloc (.cells #[.pointer (some ⟨R,0,none⟩)] 82)).alloc (.cells #[.slice none 0 0] t)
theorem preA_P (R : Nat) (t : TypeId) (w : World) : (preA R t w).heap[w.heap.size]? = some (.cells #[.pointer (some ⟨R,0,none⟩)] 82 (0,0)) :=
 old_row (heap_alloc_new w (.cells #[.pointer (some ⟨R,0,none⟩)] 82)) ((Kp.refl Non _).alloc (.cells #[.slice none 0 0] t)) (fun e => e)
theorem preA_V (R : Nat) (t : TypeId) (w : World) : (preA R t w).heap[w.heap.size + 1]? = some (.cells #[.slice none 0 0] t (0,0)):=by
 have:=heap_alloc_new (w.alloc (.cells #[.pointer (some ⟨R,0,none⟩)] 82)) (.cells #[.slice none 0 0] t)
 rw [World.size_alloc] at this
 exact this
theorem preA_size (R : Nat) (t : TypeId) (w : World) : (preA R t w).heap.size = w.heap.size + 2:=by simp
theorem preA_pl {w : World} (hR : R < w.heap.size) (hg : g < w.heap.size) : Pl R g (w.heap.size + 1) w.heap.size (w.heap.size + 2):=⟨by omega,by omega,by omega,by omega,by omega,by omega,by omega,by omega⟩
theorem preA_kp (R : Nat) (t : TypeId) (w : World) : ∀ w',Kp (fun k => k = R ∨ k = w.heap.size + 1) (preA R t w) w' → Kp (Own1 R) w w':=fun w' k => (((Kp.refl (Own1 R) w).alloc _).alloc _).trans2 k (fun j hj e => by rcases e with e | e;exact e;omega)
theorem preA_start {t : TypeId} {E sz : Nat} {w w1 : World} {l m : List Tok} (hR : R < w.heap.size) (k1 : Kp (Own1 R) (preA R t w) w1) (hS : Sx R g cap T w1 l fx a b c) (hm : m.length ≤ l.length) : Jr R (w.heap.size + 1) w.heap.size (w.heap.size + 2) #[.slice none 0 0] t 82 0 E sz (preA R t w) [] m w1:=by
 have hz:=k1.size
 rw [preA_size] at hz
 refine ⟨⟨_,_,_,Js.new (old_row (preA_V R t w) k1 (fun e => by have e' : w.heap.size + 1 = R:=e;omega)) (old_row (preA_P R t w) k1 (fun e => by have e' : w.heap.size = R:=e;omega)) hz⟩,?_,k1.mono (fun _ _ e => Or.inl e)⟩
 have:=hS.le;have:=hS.full.small
 simp;omega
theorem row_told {t : TypeId} {E sz : Nat} {w w2 : World} {els : List (List CT)} {lv : Value} {xs : List Value} {D : Nat → Prop} (hj : Js R (w.heap.size + 1) w.heap.size (w.heap.size + 2) #[.slice none 0 0] t 82 0 E sz w2 els lv xs D) : RowV E sz w.heap.size els lv w2:=by
 obtain ⟨o,n,h⟩:=hj.slice
 exact ⟨⟨o,_,n,h⟩,hj.at.mono (fun k hk => ⟨by have:=hk.1;omega,hk.2⟩)⟩
set_option maxRecDepth 100000 in
set_option maxHeartbeats 2000000 in
theorem args_any {w : World} {l : List Tok} (X : ValP R g cap T fx a b c 32) (h : Sx R g cap T w l fx a b c) (hl : l ≠ []) : Calls Tryz.prog 93 #[.pointer (some ⟨R,0,none⟩)] w (Out R g cap T w fx a b c (argsS fx l) (RowV 121 5 w.heap.size)):=by
 have hmf : ∀ (fn : Fn) (first cap : Array Value) (w : World),(Instr.makeFunc fn first cap).run Tryz.prog w = .ok (.func fn first cap) w:=fun _ _ _ _ => rfl
 have hR:=h.ltR
 have hg:=h.lt
 have pl:=preA_pl hR hg
 have hS0 : Sx R g cap T (preA R 63 w) l fx a b c:=(h.alloc _).alloc _
 have TK:=ytake_any [40] hS0 hl
 have HA : Hid _:=some_any 113 #[.pointer (some ⟨w.heap.size,0,none⟩),.pointer (some ⟨w.heap.size + 1,0,none⟩)] (fun _ _ => rfl) [41] (argS fx) (argS_eats fx) _ (Kp (Own1 R) w) (Jr.kp (cur:=#[.slice none 0 0]) (ty:=63) (tp:=82) (i:=0) (E:=121) (sz:=5) (W0:=preA R 63 w) pl) (oneR_of (preA_size _ _ _).symm (argS_eats fx) w (preA_kp R _ w) (args1_item pl (by decide) X))
 clear X
 go_enter Tryz.func93,Tryz.ntmps93
 go_wp2_with (first
  | (go_at_call 33;refine (HA.out [] _ _ (preA_start hR k1 h1 (Nat.le_refl _)) h1 (hS0.next (by simp) hp)).mono ?_;rintro e w2 (⟨p,hq,rfl,k2⟩ | ⟨ys,m,hq,rfl,⟨⟨lv,xs,D,hj⟩,hlen,k2⟩,h2,n2⟩);(exact ⟨rfl,Or.inl ⟨p,by simp only [argsS,hp,if_true,hq],rfl,k2⟩⟩);have HT : Hid _:=row_told hj;obtain ⟨o,lc,rfl⟩:=hj.slice;have v0:=hj.cell (by decide);have KR : Hid _:=preA_kp R _ w _ k2)
  | (go_at_call 87;refine TK.mono ?_;(rintro e w1 (⟨hp,rfl,h1,k1⟩ | ⟨hp,rfl,h1,k1⟩) <;> (have cP1:=(row1 (old_row (preA_P R _ w) k1 (fun e => by have e' : w.heap.size = R:=e;omega))).1;have v1:=(row1 (old_row (preA_V R _ w) k1 (fun e => by have e' : w.heap.size + 1 = R:=e;omega))).1))))
 ·go_ret
  exact Or.inr ⟨ys,m,_,by simp only [argsS,hp,if_true,hq],rfl,HT.out,h2,n2 (by simp),KR.out⟩
 ·go_ret
  exact Or.inr ⟨[],l,_,by simp only [argsS,hp,Bool.false_eq_true,if_false],rfl,⟨⟨_,_,_,rfl⟩,.nil _ _⟩,h1,hl,preA_kp R _ w _ (k1.mono (fun _ _ e => Or.inl e))⟩
end
end
section
open Go Go.RowKit
section
variable {R g cap : Nat} {T : List Tok} {fx : Bool} {a b c : Nat} {V P B : Nat} {cur : Array Value} {ty tp : TypeId}
attribute [local go_sem ↓] Go.wp_at_zero Go.wp_at_succ
set_option maxRecDepth 100000 in
set_option maxHeartbeats 8000000 in
theorem directives1_item (pl : Pl R g V P B) (hi : 0 < cur.size) (X : ValP R g cap T fx a b c 32) : ItemR R g cap T fx a b c V P B cur ty tp 0 97 2 92 #[.pointer (some ⟨P,0,none⟩),.pointer (some ⟨V,0,none⟩)] (dirS fx):=by
 intro els l w lv xs D hj hn h hl
 obtain ⟨o,lc,rfl⟩:=hj.slice
 have M:=name_any h hl
 have cP:=hj.ptr
 have HJ : Hid (Js R V P B cur ty tp 0 97 2 w els (.slice o els.length lc) xs D):=hj
 have hsz:=hj.size
 have hn2 : els.length ≤ 2049:=by omega
 obtain ⟨ti,hti,hy0,hy1,hy2⟩:=info_parts Tryz.infoDir
 clear hj
 go_enter Tryz.func92,Tryz.ntmps92
 go_wp2_with (go_at_call 56;refine M.mono ?_;rintro e w1 (⟨p,hq1,rfl,k1⟩ | ⟨x,l1,v,hq1,rfl,rfl,h1,m1,k1⟩);(exact ⟨rfl,Or.inl ⟨p,by simp only [dirS,hq1,go_error],rfl,k1⟩⟩);have j1:=HJ.out.kp pl k1;have v1:=j1.cell hi;have p1:=j1.ptr;have hz1:=k1.size;have XA:=args_any X h1.drew m1;have K1 : Hid _:=k1;have HQ1 : Hid _:=hq1;clear k1 hq1 j1 h1)
 go_region_law (first
  | (refine step_append_lies _ (by rfl) (.tmp 5) (.tmp 10) 54 (by rfl) B 97 ti _ 2 40 Tryz.underlying54 hti hy0 hy1 hy2 rfl (by decide) (.slice o els.length lc) els.length xs (by rfl) (HO.out.alloc _) ⟨w2.heap.size,0,none⟩ 1 1 [.string ⟨x.toArray⟩,.slice o1 n1 z1] (by rfl) rfl (World.news_of_block (heap_alloc_new _ _)) (by intro u hu;simp at hu;rcases hu with rfl | rfl <;> rfl) (by decide) (by unfold maxLen;omega) (by omega) (by simp;omega) (w2.heap.size + 1) (by simp) ?_;intro q cp w3 own2 hgr hor hlt2;have OW : Hid _:=own2;have GR : Hid _:=hgr;have OR : Hid _:=hor;clear own2 hgr hor;have hv2:=HJ.out.var2 pl (Kp.refl Non w) K2.out ((Kp.refl Non w2).alloc _) GR.out;have e0 : w3.cell? ⟨V,0,none⟩ = some (.slice o els.length lc):=(by simp [World.cell?,hv2,hi]);have ef:=frozen_of_row w3 V 0 _ _ hv2;clear hv2)
  | (go_simp;go_wp2_with (first
    | (go_at_call 93;(with_reducible refine XA.mono ?_);rintro e w2 (⟨p,hq,rfl,k2⟩ | ⟨ags,m,v,hq,rfl,⟨⟨o1,n1,z1,rfl⟩,hat⟩,h2,m2,k2⟩);(exact ⟨rfl,Or.inl ⟨p,by simp only [dirS,HQ1.out,go_ok,hq,go_error],rfl,K1.out.trans (((Kp.refl (Own1 R) w1).drew).trans k2)⟩⟩);have K2 : Hid _:=K1.out.trans (((Kp.refl (Own1 R) w1).drew).trans k2);have j2:=HJ.out.kp pl K2.out;have v2:=j2.cell hi;have f2:=j2.free 0;have p2:=j2.ptr;have aV:=fun o => cell_on (al1 w2 o) v2;have HO : Hid (w2.ownsRow B 97 2 (.slice o els.length lc) els.length xs):=j2.own;have hz2 : w1.heap.size ≤ w2.heap.size:=k2.size;have AT : Hid _:=hat;have H2 : Hid _:=h2;have HQ : Hid _:=hq;clear k2 hat h2 hq j2)
    | fail))
  | fail)
 all_goals go_end0
 all_goals exact item_endB HJ.out pl (Kp.refl Non w) K2.out ((Ats.nil.cons (AT.out.mono (fun k hk => ⟨Nat.le_trans hz1 hk.1,hk.2⟩))).cons (.lf _)) ((Kp.refl Non w2).alloc _) GR.out (World.size_alloc _ _) OR.out OW.out (by simp only [dirS,HQ1.out,go_ok,HQ.out]) H2.out m2 rfl
set_option maxRecDepth 100000 in
set_option maxHeartbeats 2000000 in
theorem dirs_any {w : World} {l : List Tok} (X : ValP R g cap T fx a b c 32) (h : Sx R g cap T w l fx a b c) (hl : l ≠ []) : Calls Tryz.prog 57 #[.pointer (some ⟨R,0,none⟩)] w (Out R g cap T w fx a b c (dirsS fx l) (RowV 97 2 w.heap.size)):=by
 have hmf : ∀ (fn : Fn) (first cap : Array Value) (w : World),(Instr.makeFunc fn first cap).run Tryz.prog w = .ok (.func fn first cap) w:=fun _ _ _ _ => rfl
 have hR:=h.ltR
 have hg:=h.lt
 have pl:=preA_pl hR hg
 have hS0 : Sx R g cap T (preA R 54 w) l fx a b c:=(h.alloc _).alloc _
 have HA:=led_any 92 #[.pointer (some ⟨w.heap.size,0,none⟩),.pointer (some ⟨w.heap.size + 1,0,none⟩)] (fun _ _ => rfl) [64] (by simp) (dirS fx) (dirS_eats fx).keeps _ (Kp (Own1 R) w) (Jr.kp (cur:=#[.slice none 0 0]) (ty:=54) (tp:=82) (i:=0) (E:=97) (sz:=2) (W0:=preA R 54 w) pl) (oneR_of (preA_size _ _ _).symm (dirS_eats fx) w (preA_kp R _ w) (directives1_item pl (by decide) X)) [] l (preA R 54 w) (preA_start hR (Kp.refl _ _) hS0 (Nat.le_refl _)) hS0 hl
 clear X
 go_enter Tryz.func57,Tryz.ntmps57
 go_wp2_with (go_at_call 91;refine HA.mono ?_;rintro e w2 (⟨p,hq,rfl,k2⟩ | ⟨ys,m,hq,rfl,⟨⟨lv,xs,D,hj⟩,hlen,k2⟩,h2,n2⟩);(exact ⟨rfl,Or.inl ⟨p,hq,rfl,k2⟩⟩);have HT : Hid _:=row_told hj;obtain ⟨o,lc,rfl⟩:=hj.slice;have v0:=hj.cell (by decide);have KR : Hid _:=preA_kp R _ w _ k2)
 go_ret
 exact Or.inr ⟨ys,m,_,hq,rfl,HT.out,h2,n2,KR.out⟩
end
end
section
open Go Go.RowKit
theorem cat_bytes (x y : Bs) : ByteArray.mk x.toArray ++ ByteArray.mk y.toArray = ⟨(x ++ y).toArray⟩:=by
 apply ByteArray.ext;apply Array.toList_inj.1;simp
theorem refB_len {x z : Bs × Bs} {l m : List Tok} (h : refB x l = .ok (z,m)) : z.2.length ≤ x.2.length + 1:=by
 unfold refB at h
 split at h <;> cases h <;> simp
theorem refG_len {inner : Option (List Tok → Rs (Bs × Bs))} {n : Nat} (hi : ∀ f,inner = some f → ∀ l x m,f l = .ok (x,m) → x.2.length ≤ n) : ∀ l x m,refG inner l = .ok (x,m) → x.2.length ≤ n + 2:=by
 intro l x m h
 unfold refG at h
 obtain ⟨z,l1,h1,h2⟩:=go_ok_inv h
 have:=refB_len h2
 split at h1
 ·cases inner with
  | none => cases h1
  | some f =>
   obtain ⟨y,l2,h3,h4⟩:=go_ok_inv h1
   obtain ⟨u,l3,h5,h6⟩:=go_ok_inv h4
   have:=hi f rfl _ _ _ h3
   cases h6
   simp at *;omega
 ·obtain ⟨y,l2,h3,h4⟩:=go_ok_inv h1
  cases h4
  simp at *;omega
theorem refF_len : ∀ n l x m,refF n l = .ok (x,m) → x.2.length ≤ 2 * n + 2
 | 0,l,x,m,h => refG_len (n:=0) (fun f hf => by cases hf) l x m h
 | n + 1,l,x,m,h => by
  have:=refG_len (n:=2 * n + 2) (fun f hf l x m h => by cases hf;exact refF_len n l x m h) l x m h
  omega
section
variable {R g cap : Nat} {T : List Tok} {fx : Bool} {a b c : Nat}
abbrev RefV : Bs × Bs → Value → World → Prop:=fun x v _ => v = .agg #[.string ⟨x.1.toArray⟩,.string ⟨x.2.toArray⟩]
abbrev zR : Obj:=.cells #[.string ⟨#[]⟩,.string ⟨#[]⟩] 67
theorem preR_X (w : World) : ((w.alloc zR).alloc zR).heap[w.heap.size]? = some (.cells #[.string ⟨#[]⟩,.string ⟨#[]⟩] 67 (0,0)) :=
 old_row (heap_alloc_new w zR) ((Kp.refl Non _).alloc zR) (fun e => e)
theorem preR_Y (w : World) : ((w.alloc zR).alloc zR).heap[w.heap.size + 1]? = some (.cells #[.string ⟨#[]⟩,.string ⟨#[]⟩] 67 (0,0)):=by
 have:=heap_alloc_new (w.alloc zR) zR
 rw [World.size_alloc] at this
 exact this
theorem ref_deep {w : World} {l : List Tok} (h : Sx R g cap T w l fx a b 32) (hl : l ≠ []) (hp : isP [91] l = true) : Calls Tryz.prog 119 #[.pointer (some ⟨R,0,none⟩)] w (Out R g cap T w fx a b 32 (refG none l) RefV):=by
 have hS0 : Sx R g cap T ((w.alloc zR).alloc zR) l fx a b 32:=(h.alloc _).alloc _
 have A:=see_any [91] hS0 hl
 rw [hp] at A
 have HQ : Hid (refG none l = .error (atT l,61)):=by show _ = _;unfold refG;rw [if_pos hp];rfl
 go_enter Tryz.func119,Tryz.ntmps119
 go_wp2_with (first
  | (go_at_call 94;refine (open2_deep [91] (hS0.non k1) hl hp).mono ?_;rintro e w2 ⟨rfl,k2⟩)
  | (go_at_call 59;refine A.mono ?_;rintro e w1 ⟨rfl,k1⟩))
 exact ⟨rfl,Or.inl ⟨_,HQ.out,rfl,((((Kp.refl (Own1 R) w).alloc _).alloc _).trans k1.any).trans k2⟩⟩
set_option maxRecDepth 100000 in
set_option maxHeartbeats 2000000 in
theorem ref_name {w : World} {l : List Tok} {inner : Option (List Tok → Rs (Bs × Bs))} (h : Sx R g cap T w l fx a b c) (hl : l ≠ []) (hp : isP [91] l = false) : Calls Tryz.prog 119 #[.pointer (some ⟨R,0,none⟩)] w (Out R g cap T w fx a b c (refG inner l) RefV):=by
 have hR:=h.ltR
 have hg:=h.lt
 have hS0 : Sx R g cap T ((w.alloc zR).alloc zR) l fx a b c:=(h.alloc _).alloc _
 have A:=see_any [91] hS0 hl
 rw [hp] at A
 have HQ : Hid (refG inner l = ((nameS l).go fun t l1 => .ok ((t,[]),l1)).go refB):=by show _ = _;unfold refG;rw [if_neg (by rw [hp];simp)]
 go_enter Tryz.func119,Tryz.ntmps119
 go_wp2_with (first
  | (go_at_call 87;refine (ytake_any [33] (h2.set (w.heap.size + 1) 0 (.string ⟨x.toArray⟩) (by omega) (by omega)) n2).mono ?_;(rintro e w3 (⟨hb,rfl,h3,k3⟩ | ⟨hb,rfl,h3,k3⟩) <;> (obtain ⟨y0',y1',yf'⟩:=row2 (old_row (heap_setCell_same w2 (w.heap.size + 1) 0 _ _ (.string ⟨x.toArray⟩) bY) k3 (fun e => by have e' : w.heap.size + 1 = R:=e;omega));obtain ⟨x0',x1',xf'⟩:=row2 (old_row (old_row bX (Kp.own (w.heap.size + 1) 0 (.string ⟨x.toArray⟩)) (fun e => by have e' : w.heap.size = w.heap.size + 1:=e;omega)) k3 (fun e => by have e' : w.heap.size = R:=e;omega)))))
  | (go_at_call 56;refine (name_any (hS0.non k1) hl).mono ?_;rintro e w2 (⟨p,hq,rfl,k2⟩ | ⟨x,l1,v,hq,rfl,rfl,h2,n2,k2⟩);(exact ⟨rfl,Or.inl ⟨p,by rw [HQ.out,hq];rfl,rfl,(((Kp.refl (Own1 R) w).alloc _).alloc _).trans (k1.any.trans k2)⟩⟩);have K2:=k1.any.trans k2;have bY:=old_row (preR_Y w) K2 (fun e => by have e' : w.heap.size + 1 = R:=e;omega);have bX:=old_row (preR_X w) K2 (fun e => by have e' : w.heap.size = R:=e;omega);obtain ⟨y0,y1,yf⟩:=row2 bY;have KW:=(((Kp.refl (Own1 R) w).alloc zR).alloc zR).trans K2)
  | (go_at_call 59;refine A.mono ?_;rintro e w1 ⟨rfl,k1⟩))
 ·refine bodyPost_ret (v:=.agg #[.string ⟨x.toArray⟩,.string ({ data:=#[] } ++ { data:=#[33] })]) (by simp [results,Tryz.results119,go_sem,x0',x1']) rfl (Or.inr ⟨(x,[] ++ [33]),l1.tail,_,?_,rfl,congrArg (fun z => Value.agg #[.string ⟨x.toArray⟩,.string z]) (cat_bytes [] [33]),((h3.set _ _ _ (by omega) (by omega)).set _ _ _ (by omega) (by omega)).set _ _ _ (by omega) (by omega),h2.next (by simp) hb,((((KW.set _ _ _ (Or.inl (Nat.le_succ _))).trans k3).set _ _ _ (Or.inl (Nat.le_succ _))).set _ _ _ (Or.inl (Nat.le_refl _))).set _ _ _ (Or.inl (Nat.le_refl _))⟩)
  rw [HQ.out,hq,go_ok,go_ok,refB,if_pos hb]
 ·refine bodyPost_ret (v:=.agg #[.string ⟨x.toArray⟩,.string { data:=#[] }]) (by simp [results,Tryz.results119,go_sem,x0',x1']) rfl (Or.inr ⟨(x,[]),l1,_,?_,rfl,rfl,(h3.set _ _ _ (by omega) (by omega)).set _ _ _ (by omega) (by omega),n2,(((KW.set _ _ _ (Or.inl (Nat.le_succ _))).trans k3).set _ _ _ (Or.inl (Nat.le_refl _))).set _ _ _ (Or.inl (Nat.le_refl _))⟩)
  rw [HQ.out,hq,go_ok,go_ok,refB,if_neg (by rw [hb];simp)]
set_option maxRecDepth 100000 in
set_option maxHeartbeats 4000000 in
theorem ref_in {w : World} {l : List Tok} {f : List Tok → Rs (Bs × Bs)} (X : ∀ w l,Sx R g cap T w l fx a b (c + 1) → l ≠ [] → Calls Tryz.prog 119 #[.pointer (some ⟨R,0,none⟩)] w (Out R g cap T w fx a b (c + 1) (f l) RefV)) (hf : ∀ l x m,f l = .ok (x,m) → x.2.length ≤ 100) (hc : c < 32) (h : Sx R g cap T w l fx a b c) (hl : l ≠ []) (hp : isP [91] l = true) : Calls Tryz.prog 119 #[.pointer (some ⟨R,0,none⟩)] w (Out R g cap T w fx a b c (refG (some f) l) RefV):=by
 have hR:=h.ltR
 have hg:=h.lt
 have hS0 : Sx R g cap T ((w.alloc zR).alloc zR) l fx a b c:=(h.alloc _).alloc _
 have A:=see_any [91] hS0 hl
 rw [hp] at A
 have hcI : ((c : Nat) : Int) < 32:=by omega
 have hcI0 : (0 : Int) ≤ ((c : Nat) : Int):=by omega
 have HQ : Hid (refG (some f) l = ((f l.tail).go fun x l1 => (mustS [93] l1).go fun _ l2 => .ok ((x.1,x.2 ++ [91]),l2)).go refB):=by show _ = _;unfold refG;rw [if_pos hp]
 go_enter Tryz.func119,Tryz.ntmps119
 go_wp2_with (first
  | (go_at_call 55;first | ((with_reducible refine (yneed_yes _).mono ?_);rintro e w4' ⟨rfl,rfl⟩) | ((with_reducible refine (need_dies h4 n3).mono ?_);rintro e w4' ⟨rfl,k4'⟩;(exact ⟨rfl,Or.inl ⟨(atT l1,60),by rw [HQ.out,hq,go_ok];simp only [mustS,hb,Bool.false_eq_true,if_false,go_error],rfl,(((KW.set _ _ _ (Or.inl (Nat.le_succ _))).set _ _ _ (Or.inl (Nat.le_succ _))).trans k4).trans k4'.any⟩⟩)))
  | (go_at_call 87;refine (ytake_any [93] ((h3.set (w.heap.size + 1) 0 (.string ⟨x.toArray⟩) (by omega) (by omega)).set (w.heap.size + 1) 1 (.string ⟨y.toArray⟩) (by omega) (by omega)) n3).mono ?_;(rintro e w4 (⟨hb,rfl,h4,k4⟩ | ⟨hb,rfl,h4,k4⟩) <;> (have bY4:=old_row (heap_setCell_same _ (w.heap.size + 1) 1 _ _ (.string ⟨y.toArray⟩) (heap_setCell_same w3 (w.heap.size + 1) 0 _ _ (.string ⟨x.toArray⟩) bY)) k4 (fun e => by have e' : w.heap.size + 1 = R:=e;omega);have bX4:=old_row (old_row bX (((Kp.own (w.heap.size + 1) 0 (.string ⟨x.toArray⟩))).set (w.heap.size + 1) 1 (.string ⟨y.toArray⟩) (Or.inr rfl)) (fun e => by have e' : w.heap.size = w.heap.size + 1:=e;omega)) k4 (fun e => by have e' : w.heap.size = R:=e;omega);obtain ⟨y0',y1',yf'⟩:=row2 bY4;obtain ⟨x0',x1',xf'⟩:=row2 bX4;have r5:=h4.c5;have f5:=h4.free 5)))
  | (go_at_call 119;refine (X _ _ h2 n2).mono ?_;rintro e w3 (⟨p,hq,rfl,k3⟩ | ⟨⟨x,y⟩,l1,v,hq,rfl,rfl,h3,n3,k3⟩);(exact ⟨rfl,Or.inl ⟨p,by rw [HQ.out,hq];rfl,rfl,(((Kp.refl (Own1 R) w).alloc _).alloc _).trans ((k1.any.trans k2).trans k3)⟩⟩);have K3:=(k1.any.trans k2).trans k3;have bY:=old_row (preR_Y w) K3 (fun e => by have e' : w.heap.size + 1 = R:=e;omega);have bX:=old_row (preR_X w) K3 (fun e => by have e' : w.heap.size = R:=e;omega);obtain ⟨y0,y1,yf⟩:=row2 bY;have KW:=(((Kp.refl (Own1 R) w).alloc zR).alloc zR).trans K3)
  | (go_at_call 94;refine (open2_any [91] (by simp) (hS0.non k1) hl hp hc).mono ?_;rintro e w2 ⟨rfl,h2,n2,k2⟩)
  | (go_at_call 59;refine A.mono ?_;rintro e w1 ⟨rfl,k1⟩))
 go_region
 have hy : y.length ≤ 100:=hf _ _ _ hq
 have hy1 : ¬ 9223372036854775807 < y.length + 1:=by omega
 have hy2 : ¬ 9223372036854775807 < y.length + 1 + 1:=by omega
 have S5:=(h4.set5 (c : Int) c rfl (by omega)).drew
 have k5 : Kp (Own1 R) w4 (w4.setCell ⟨R,5,none⟩ (.int .i64 (c : Int))).drew:=(Kp.own R 5 _).drew
 have bY5:=old_row bY4 k5 (fun e => by have e' : w.heap.size + 1 = R:=e;omega)
 have bX5:=old_row bX4 k5 (fun e => by have e' : w.heap.size = R:=e;omega)
 have KW5:=((((KW.set _ _ _ (Or.inl (Nat.le_succ _))).set _ _ _ (Or.inl (Nat.le_succ _))).trans k4).trans k5)
 have n4 : l1.tail ≠ []:=h3.next (by simp) hb
 have HQ2 : Hid (refG (some f) l = refB (x,y ++ [91]) l1.tail):=by show _ = _;rw [HQ.out,hq,go_ok];simp only [mustS,hb,if_true,go_ok]
 generalize (w4.setCell ⟨R,5,none⟩ (.int .i64 (c : Int))).drew = w5 at *
 obtain ⟨y0,y1,yf⟩:=row2 bY5
 obtain ⟨x0,x1,xf⟩:=row2 bX5
 clear y0' y1' yf' x0' x1' xf' r5 f5 bY4 bX4
 go_wp2_with (go_at_call 87;refine (ytake_any [33] (S5.set (w.heap.size + 1) 1 (.string ({ data:=y.toArray } ++ { data:=#[91] })) (by omega) (by omega)) n4).mono ?_;(rintro e w6 (⟨hd,rfl,h6,k6⟩ | ⟨hd,rfl,h6,k6⟩) <;> (obtain ⟨y0',y1',yf'⟩:=row2 (old_row (heap_setCell_same w5 (w.heap.size + 1) 1 _ _ (.string ({ data:=y.toArray } ++ { data:=#[91] })) bY5) k6 (fun e => by have e' : w.heap.size + 1 = R:=e;omega));obtain ⟨x0',x1',xf'⟩:=row2 (old_row (old_row bX5 (Kp.own (w.heap.size + 1) 1 (.string ({ data:=y.toArray } ++ { data:=#[91] }))) (fun e => by have e' : w.heap.size = w.heap.size + 1:=e;omega)) k6 (fun e => by have e' : w.heap.size = R:=e;omega)))))
 ·refine bodyPost_ret (v:=.agg #[.string ⟨x.toArray⟩,.string ({ data:=y.toArray } ++ { data:=#[91] } ++ { data:=#[33] })]) (by simp [results,Tryz.results119,go_sem,x0',x1']) rfl (Or.inr ⟨(x,y ++ [91] ++ [33]),l1.tail.tail,_,?_,rfl,?_,((h6.set _ _ _ (by omega) (by omega)).set _ _ _ (by omega) (by omega)).set _ _ _ (by omega) (by omega),S5.next (by simp) hd,((((KW5.set _ _ _ (Or.inl (Nat.le_succ _))).trans k6).set _ _ _ (Or.inl (Nat.le_succ _))).set _ _ _ (Or.inl (Nat.le_refl _))).set _ _ _ (Or.inl (Nat.le_refl _))⟩)
  ·rw [HQ2.out,refB,if_pos hd]
  ·show Value.agg #[.string ⟨x.toArray⟩,.string (ByteArray.mk y.toArray ++ ByteArray.mk [91].toArray ++ ByteArray.mk [33].toArray)] = _
   rw [cat_bytes,cat_bytes]
 ·refine bodyPost_ret (v:=.agg #[.string ⟨x.toArray⟩,.string ({ data:=y.toArray } ++ { data:=#[91] })]) (by simp [results,Tryz.results119,go_sem,x0',x1']) rfl (Or.inr ⟨(x,y ++ [91]),l1.tail,_,?_,rfl,?_,(h6.set _ _ _ (by omega) (by omega)).set _ _ _ (by omega) (by omega),n4,(((KW5.set _ _ _ (Or.inl (Nat.le_succ _))).trans k6).set _ _ _ (Or.inl (Nat.le_refl _))).set _ _ _ (Or.inl (Nat.le_refl _))⟩)
  ·rw [HQ2.out,refB,if_neg (by rw [hd];simp)]
  ·show Value.agg #[.string ⟨x.toArray⟩,.string (ByteArray.mk y.toArray ++ ByteArray.mk [91].toArray)] = _
   rw [cat_bytes]
theorem ref_all : ∀ (n c : Nat),c + n = 32 → ∀ w l,Sx R g cap T w l fx a b c → l ≠ [] → Calls Tryz.prog 119 #[.pointer (some ⟨R,0,none⟩)] w (Out R g cap T w fx a b c (refF n l) RefV)
 | n,c,hc,w,l,h,hl => by
  cases hp : isP [91] l with
  | false => cases n <;> exact ref_name h hl hp
  | true =>
   cases n with
   | zero =>
    obtain rfl : c = 32:=by omega
    exact ref_deep h hl hp
   | succ n => exact ref_in (ref_all n (c + 1) (by omega)) (fun l x m hx => by have:=refF_len n l x m hx;omega) (by omega) h hl hp
end
end
section
open Go Go.RowKit
section
variable {R g cap : Nat} {T : List Tok} {fx : Bool} {a b c : Nat} {V P B : Nat} {cur : Array Value} {ty tp : TypeId}
abbrev zW : Obj:=.cells #[.string ⟨#[]⟩,.string ⟨#[]⟩,.string ⟨#[]⟩,.bool false,.int .i64 0,.string ⟨#[]⟩,.slice none 0 0,.slice none 0 0,.slice none 0 0] 72
theorem preW_X (w : World) : ((w.alloc zW).alloc zW).heap[w.heap.size]? = some (.cells #[.string ⟨#[]⟩,.string ⟨#[]⟩,.string ⟨#[]⟩,.bool false,.int .i64 0,.string ⟨#[]⟩,.slice none 0 0,.slice none 0 0,.slice none 0 0] 72 (0,0)) :=
 old_row (heap_alloc_new w zW) ((Kp.refl Non _).alloc zW) (fun e => e)
theorem preW_Y (w : World) : ((w.alloc zW).alloc zW).heap[w.heap.size + 1]? = some (.cells #[.string ⟨#[]⟩,.string ⟨#[]⟩,.string ⟨#[]⟩,.bool false,.int .i64 0,.string ⟨#[]⟩,.slice none 0 0,.slice none 0 0,.slice none 0 0] 72 (0,0)):=by
 have:=heap_alloc_new (w.alloc zW) zW
 rw [World.size_alloc] at this
 exact this
def VarV (lo : Nat) (cs : List CT) (v : Value) (w : World) : Prop:=∃ (t n r : ByteArray) (hs : Bool) (k : Int) (x : ByteArray) (o : Option Addr) (i z : Nat) (o' : Option Addr) (i' z' : Nat) (o'' : Option Addr) (i'' z'' : Nat),v = .agg #[.string t,.string n,.string r,.bool hs,.int .i64 k,.string x,.slice o i z,.slice o' i' z',.slice o'' i'' z''] ∧ Ats w (Iv lo w.heap.size) cs [.string t,.string n,.string r,.bool hs,.int .i64 k,.string x,.slice o i z,.slice o' i' z',.slice o'' i'' z'']
theorem Kp.setY {w w1 : World} (h : Kp (Own1 R) w w1) (j : Nat) (v : Value) : Kp (Own1 R) w (w1.setCell ⟨w.heap.size + 1,j,none⟩ v):=h.set _ _ _ (Or.inl (Nat.le_succ _))
theorem Sx.setY {w w1 : World} {l : List Tok} (h : Sx R g cap T w1 l fx a b c) (hR : R < w.heap.size) (hg : g < w.heap.size) (j : Nat) (v : Value) : Sx R g cap T (w1.setCell ⟨w.heap.size + 1,j,none⟩ v) l fx a b c:=h.set _ _ _ (by omega) (by omega)
theorem xrow {w w1 : World} {o : Obj} (h : w1.heap[w.heap.size]? = some o) (j : Nat) (v : Value) : (w1.setCell ⟨w.heap.size + 1,j,none⟩ v).heap[w.heap.size]? = some o:=old_row h (Kp.own (w.heap.size + 1) j v) (fun e => by have e' : w.heap.size = w.heap.size + 1:=e;omega)
theorem keepY {w w1 w2 : World} {o : Obj} (hR : R < w.heap.size) (h : w1.heap[w.heap.size + 1]? = some o) (k : Kp (Own1 R) w1 w2) : w2.heap[w.heap.size + 1]? = some o:=old_row h k (fun e => by have e' : w.heap.size + 1 = R:=e;omega)
theorem keepX {w w1 w2 : World} {o : Obj} (hR : R < w.heap.size) (h : w1.heap[w.heap.size]? = some o) (k : Kp (Own1 R) w1 w2) : w2.heap[w.heap.size]? = some o:=old_row h k (fun e => by have e' : w.heap.size = R:=e;omega)
theorem Kp.low {X n : Nat} {w1 w2 : World} (h : Kp (Own1 X) w1 w2) (hX : X < n) : Kp (fun k => k < n) w1 w2:=h.mono (fun k _ e => by have e' : k = X:=e;omega)
theorem Kp.lowset {n : Nat} {w1 w2 : World} (h : Kp (fun k => k < n) w1 w2) (X j : Nat) (v : Value) (hX : X < n) : Kp (fun k => k < n) w1 (w2.setCell ⟨X,j,none⟩ v):=h.set _ _ _ (Or.inr hX)
set_option maxRecDepth 100000 in
set_option maxHeartbeats 8000000 in
theorem varDef_any {w : World} {l : List Tok} (h : Sx R g cap T w l true a 0 0) (hl : l ≠ []) : Calls Tryz.prog 98 #[.pointer (some ⟨R,0,none⟩)] w (Out R g cap T w true a 0 0 (varDefS l) (VarV w.heap.size)):=by
 have hR:=h.ltR
 have hg:=h.lt
 have hS0 : Sx R g cap T ((w.alloc zW).alloc zW) l true a 0 0:=(h.alloc _).alloc _
 have N:=variable_any hS0 hl
 have XV : ValP R g cap T true a 0 0 32:=value_all 32 0 rfl
 go_enter Tryz.func98,Tryz.ntmps98
 go_wp2_with (first
  | (go_at_call 120;refine (XV _ _ (h4.setY hR hg 3 (.bool true)) (h3.next (by simp) hd)).mono ?_;rintro e w5 (⟨p,hq5,rfl,k5⟩ | ⟨vs,l5,v,hq5,rfl,⟨kk,tt,o1,i1,z1,o2,i2,z2,rfl,hv5⟩,h5,n5,k5⟩);(exact ⟨rfl,Or.inl ⟨p,by simp only [varDefS,hq1,go_ok,mustS,hp,if_true,hq3,defS,hd,hq5,go_error],rfl,(KW4.setY 3 _).trans k5⟩⟩);have bY5:=keepY hR (heap_setCell_same _ (w.heap.size + 1) 3 _ _ (.bool true) bY4) k5;have bX5:=keepX hR (xrow bX4 3 _) k5;have KW5:=(KW4.setY 3 _).trans k5;obtain ⟨y0,y1,y2,y3,y4,y5,y6,y7,y8,yf⟩:=row9 bY5;have hz5:=lt_of_block (heap_setCell_same _ (w.heap.size + 1) 3 _ _ (.bool true) bY4);have V5 : Hid _:=hv5;clear hv5 k5)
  | (go_at_call 57;first
    | (have S6:=(((h5.setY hR hg 4 (.int .i64 kk)).setY hR hg 5 (.string tt)).setY hR hg 6 (.slice o1 i1 z1)).setY hR hg 7 (.slice o2 i2 z2);refine (dirs_any XV S6 n5).mono ?_;rintro e w6 (⟨p,hq6,rfl,k6⟩ | ⟨ds,l6,v,hq6,rfl,⟨⟨o3,i3,z3,rfl⟩,hv6⟩,h6,n6,k6⟩);(exact ⟨rfl,Or.inl ⟨p,by simp only [varDefS,hq1,go_ok,mustS,hp,if_true,hq3,defS,hd,hq5,hq6,go_error],rfl,((((KW5.setY 4 _).setY 5 _).setY 6 _).setY 7 _).trans k6⟩⟩);have bYp:=(heap_setCell_same _ (w.heap.size + 1) 7 _ _ (.slice o2 i2 z2) (heap_setCell_same _ (w.heap.size + 1) 6 _ _ (.slice o1 i1 z1) (heap_setCell_same _ (w.heap.size + 1) 5 _ _ (.string tt) (heap_setCell_same _ (w.heap.size + 1) 4 _ _ (.int .i64 kk) bY5))));have bY6:=keepY hR bYp k6;have hz6:=lt_of_block bYp;clear bYp;have bX6:=keepX hR (xrow (xrow (xrow (xrow bX5 4 _) 5 _) 6 _) 7 _) k6;have KW6:=((((KW5.setY 4 _).setY 5 _).setY 6 _).setY 7 _).trans k6;obtain ⟨u0,u1,u2,u3,u4,u5,u6,u7,u8,uf⟩:=row9 bY6;obtain ⟨x0,x1,x2,x3,x4,x5,x6,x7,x8,xf⟩:=row9 bX6)
    | (refine (dirs_any XV h4 n3).mono ?_;rintro e w6 (⟨p,hq6,rfl,k6⟩ | ⟨ds,l6,v,hq6,rfl,⟨⟨o3,i3,z3,rfl⟩,hv6⟩,h6,n6,k6⟩);(exact ⟨rfl,Or.inl ⟨p,by simp only [varDefS,hq1,go_ok,mustS,hp,if_true,hq3,defS,hd,Bool.false_eq_true,if_false,hq6,go_error],rfl,KW4.trans k6⟩⟩);have bY6:=keepY hR bY4 k6;have hz6:=lt_of_block bY4;have bX6:=keepX hR bX4 k6;have KW6:=KW4.trans k6;obtain ⟨u0,u1,u2,u3,u4,u5,u6,u7,u8,uf⟩:=row9 bY6;obtain ⟨x0,x1,x2,x3,x4,x5,x6,x7,x8,xf⟩:=row9 bX6))
  | (go_at_call 119;refine (ref_all 32 0 rfl _ _ h2 (h1.next (by simp) hp)).mono ?_;rintro e w3 (⟨p,hq3,rfl,k3⟩ | ⟨⟨tn,tw⟩,l3,v,hq3,rfl,rfl,h3,n3,k3⟩);(exact ⟨rfl,Or.inl ⟨p,by simp only [varDefS,hq1,go_ok,mustS,hp,if_true,hq3,go_error],rfl,KW2.trans k3⟩⟩);have bY3:=keepY hR bY2 k3;have bX3:=keepX hR bX2 k3;have KW3:=KW2.trans k3;obtain ⟨y0,y1,y2,y3,y4,y5,y6,y7,y8,yf⟩:=row9 bY3)
  | (go_at_call 55;first | ((with_reducible refine (yneed_yes _).mono ?_);rintro e w2' ⟨rfl,rfl⟩) | ((with_reducible refine (need_dies h2 n1).mono ?_);rintro e w2' ⟨rfl,k2'⟩;(exact ⟨rfl,Or.inl ⟨(atT l1,60),by simp only [varDefS,hq1,go_ok,mustS,hp,Bool.false_eq_true,if_false,go_error],rfl,KW2.trans k2'.any⟩⟩)))
  | (go_at_call 87;(with_reducible refine (ytake_any [61] ((h3.setY hR hg 1 (.string ⟨tn.toArray⟩)).setY hR hg 2 (.string ⟨tw.toArray⟩)) n3).mono ?_);(rintro e w4 (⟨hd,rfl,h4,k4⟩ | ⟨hd,rfl,h4,k4⟩) <;> (have bY4:=keepY hR (heap_setCell_same _ (w.heap.size + 1) 2 _ _ (.string ⟨tw.toArray⟩) (heap_setCell_same _ (w.heap.size + 1) 1 _ _ (.string ⟨tn.toArray⟩) bY3)) k4;have bX4:=keepX hR (xrow (xrow bX3 1 _) 2 _) k4;have KW4:=((KW3.setY 1 _).setY 2 _).trans k4;have hz4 : w.heap.size + 2 ≤ w4.heap.size:=lt_of_block bY4;obtain ⟨y0',y1',y2',y3',y4',y5',y6',y7',y8',yf'⟩:=row9 bY4)))
  | (go_at_call 87;(with_reducible refine (ytake_any [58] (h1.setY hR hg 0 (.string ⟨x.toArray⟩)) n1).mono ?_);(rintro e w2 (⟨hp,rfl,h2,k2⟩ | ⟨hp,rfl,h2,k2⟩) <;> (have bY2:=keepY hR (heap_setCell_same _ (w.heap.size + 1) 0 _ _ (.string ⟨x.toArray⟩) bY1) k2;have bX2:=keepX hR (xrow bX1 0 _) k2;have KW2:=(KW1.setY 0 _).trans k2)))
  | (go_at_call 118;refine N.mono ?_;rintro e w1 (⟨p,hq1,rfl,k1⟩ | ⟨x,l1,v,hq1,rfl,rfl,h1,n1,k1⟩);(exact ⟨rfl,Or.inl ⟨p,by simp only [varDefS,hq1,go_error],rfl,(((Kp.refl (Own1 R) w).alloc _).alloc _).trans k1⟩⟩);have bY1:=keepY hR (preW_Y w) k1;have bX1:=keepX hR (preW_X w) k1;have KW1:=(((Kp.refl (Own1 R) w).alloc zW).alloc zW).trans k1;obtain ⟨y0,y1,y2,y3,y4,y5,y6,y7,y8,yf⟩:=row9 bY1))
 ·have KQ:=own9 (w:=w6.setCell ⟨w.heap.size + 1,8,none⟩ (.slice o3 i3 z3)) w.heap.size (.string ⟨x.toArray⟩) (.string ⟨tn.toArray⟩) (.string ⟨tw.toArray⟩) (.bool true) (.int .i64 kk) (.string tt) (.slice o1 i1 z1) (.slice o2 i2 z2) (.slice o3 i3 z3)
  have K6 : Kp (fun k => k < w.heap.size + 2) w6 _:=(((Kp.own (w.heap.size + 1) 8 (.slice o3 i3 z3))).low (by omega)).trans (KQ.low (by omega))
  have K5:=((((((Kp.refl (fun k => k < w.heap.size + 2) w5)).lowset (w.heap.size + 1) 4 (.int .i64 kk) (by omega)).lowset (w.heap.size + 1) 5 (.string tt) (by omega)).lowset (w.heap.size + 1) 6 (.slice o1 i1 z1) (by omega)).lowset (w.heap.size + 1) 7 (.slice o2 i2 z2) (by omega)).trans ((k6.low (by omega)).trans K6)
  refine bodyPost_ret (v:=.agg #[.string ⟨x.toArray⟩,.string ⟨tn.toArray⟩,.string ⟨tw.toArray⟩,.bool true,.int .i64 kk,.string tt,.slice o1 i1 z1,.slice o2 i2 z2,.slice o3 i3 z3]) (by simp [results,Tryz.results98,go_sem,x0,x1,x2,x3,x4,x5,x6,x7,x8]) rfl (Or.inr ⟨[sC x,sC tn,sC tw,bC true] ++ vs ++ [rowC 97 2 ds],l6,_,by simp only [varDefS,hq1,go_ok,mustS,hp,if_true,hq3,defS,hd,hq5,hq6],rfl,⟨_,_,_,_,_,_,_,_,_,_,_,_,_,_,_,rfl,?_⟩,(h6.setY hR hg 8 _).kp KQ (fun e => by have e' : R = w.heap.size:=e;omega) (fun e => by have e' : g = w.heap.size:=e;omega),n6,(KW6.setY 8 _).ret KQ (Nat.le_refl _)⟩)
  exact ((((Ats.nil.cons (.lf _)).cons (.lf _)).cons (.lf _)).cons (.lf _)) |>.append (V5.out.later K5 (Nat.le_refl _) (fun k h1 h2 e => by omega) (by omega) K5.size) |>.append (Ats.nil.cons (hv6.later K6 (Nat.le_refl _) (fun k h1 h2 e => by omega) (by omega) K6.size))
 ·have KQ:=own9 (w:=w6.setCell ⟨w.heap.size + 1,8,none⟩ (.slice o3 i3 z3)) w.heap.size (.string ⟨x.toArray⟩) (.string ⟨tn.toArray⟩) (.string ⟨tw.toArray⟩) (.bool false) (.int .i64 0) (.string ⟨#[]⟩) (.slice none 0 0) (.slice none 0 0) (.slice o3 i3 z3)
  have K6 : Kp (fun k => k < w.heap.size + 2) w6 _:=(((Kp.own (w.heap.size + 1) 8 (.slice o3 i3 z3))).low (by omega)).trans (KQ.low (by omega))
  refine bodyPost_ret (v:=.agg #[.string ⟨x.toArray⟩,.string ⟨tn.toArray⟩,.string ⟨tw.toArray⟩,.bool false,.int .i64 0,.string ⟨#[]⟩,.slice none 0 0,.slice none 0 0,.slice o3 i3 z3]) (by simp [results,Tryz.results98,go_sem,x0,x1,x2,x3,x4,x5,x6,x7,x8]) rfl (Or.inr ⟨[sC x,sC tn,sC tw,bC false] ++ valC 0 [] [] [] ++ [rowC 97 2 ds],l6,_,by simp only [varDefS,hq1,go_ok,mustS,hp,if_true,hq3,defS,hd,Bool.false_eq_true,if_false,hq6],rfl,⟨_,_,_,_,_,_,_,_,_,_,_,_,_,_,_,rfl,?_⟩,(h6.setY hR hg 8 _).kp KQ (fun e => by have e' : R = w.heap.size:=e;omega) (fun e => by have e' : g = w.heap.size:=e;omega),n6,(KW6.setY 8 _).ret KQ (Nat.le_refl _)⟩)
  exact ((((Ats.nil.cons (.lf _)).cons (.lf _)).cons (.lf _)).cons (.lf _)) |>.append (leaf4 0 _) |>.append (Ats.nil.cons (hv6.later K6 (Nat.le_refl _) (fun k h1 h2 e => by omega) (by omega) K6.size))
end
end
section
open Go Go.RowKit
theorem Tryz.infoVar : (Tryz.prog.info? 72).map (fun i => (i.zero,i.size,i.bytes)) = some (some (.agg #[.string ⟨#[]⟩,.string ⟨#[]⟩,.string ⟨#[]⟩,.bool false,.int .i64 0,.string ⟨#[]⟩,.slice none 0 0,.slice none 0 0,.slice none 0 0]),9,152):=by kernel_rfl
section
variable {R g cap : Nat} {T : List Tok} {fx : Bool} {a b c : Nat} {V P B : Nat} {cur : Array Value} {ty tp : TypeId}
attribute [local go_sem ↓] Go.wp_at_zero Go.wp_at_succ
set_option maxRecDepth 100000 in
set_option maxHeartbeats 8000000 in
theorem vars1_item (pl : Pl R g V P B) (hi : 0 < cur.size) : ItemR R g cap T true a 0 0 V P B cur ty tp 0 72 9 97 #[.pointer (some ⟨V,0,none⟩),.pointer (some ⟨P,0,none⟩)] varDefS:=by
 intro els l w lv xs D hj hn h hl
 obtain ⟨o,lc,rfl⟩:=hj.slice
 have XA:=varDef_any h.drew hl
 have cP:=hj.ptr
 have cV:=hj.cell hi
 have HJ : Hid (Js R V P B cur ty tp 0 72 9 w els (.slice o els.length lc) xs D):=hj
 have hsz:=hj.size
 have hn2 : els.length ≤ 2049:=by omega
 obtain ⟨ti,hti,hy0,hy1,hy2⟩:=info_parts Tryz.infoVar
 clear hj
 go_enter Tryz.func97,Tryz.ntmps97
 go_wp2
 go_region_law (first
  | (refine step_append_lies _ (by rfl) (.tmp 2) (.tmp 5) 59 (by rfl) B 72 ti _ 9 152 Tryz.underlying59 hti hy0 hy1 hy2 rfl (by decide) (.slice o els.length lc) els.length xs (by rfl) (HO.out.alloc _) ⟨w2.heap.size,0,none⟩ 1 1 [.string t0,.string t1,.string t2,.bool hs,.int .i64 kk,.string tx,.slice o1 i1 z1,.slice o2 i2 z2,.slice o3 i3 z3] (by rfl) rfl (World.news_of_block (heap_alloc_new _ _)) (by intro u hu;simp at hu;rcases hu with rfl | rfl | rfl | rfl | rfl | rfl | rfl | rfl | rfl <;> rfl) (by decide) (by unfold maxLen;omega) (by omega) (by simp;omega) (w2.heap.size + 1) (by simp) ?_;intro q cp w3 own2 hgr hor hlt2;have OW : Hid _:=own2;have GR : Hid _:=hgr;have OR : Hid _:=hor;clear own2 hgr hor;have hv2:=HJ.out.var2 pl ((Kp.refl Non w).drew) K2.out ((Kp.refl Non w2).alloc _) GR.out;have e0 : w3.cell? ⟨V,0,none⟩ = some (.slice o els.length lc):=(by simp [World.cell?,hv2,hi]);have ef:=frozen_of_row w3 V 0 _ _ hv2;clear hv2)
  | (go_simp;go_wp2_with (first
    | (go_at_call 98;(with_reducible refine XA.mono ?_);rintro e w2 (⟨p,hq,rfl,k2⟩ | ⟨cs,m,v,hq,rfl,⟨t0,t1,t2,hs,kk,tx,o1,i1,z1,o2,i2,z2,o3,i3,z3,rfl,hat⟩,h2,m2,k2⟩);(exact ⟨rfl,Or.inl ⟨p,hq,rfl,((Kp.refl (Own1 R) w).drew).trans k2⟩⟩);have K2 : Hid _:=k2;have j2:=HJ.out.kp pl (((Kp.refl (Own1 R) w).drew).trans k2);have v2:=j2.cell hi;have f2:=j2.free 0;have p2:=j2.ptr;have aV:=fun o => cell_on (al1 w2 o) v2;have HO : Hid (w2.ownsRow B 72 9 (.slice o els.length lc) els.length xs):=j2.own;have hz2 : w.heap.size ≤ w2.heap.size:=k2.size;have AT : Hid _:=hat;have H2 : Hid _:=h2;have HQ : Hid _:=hq;clear k2 hat h2 hq j2)
    | fail))
  | fail)
 all_goals go_end0
 all_goals exact item_endB HJ.out pl ((Kp.refl Non w).drew) K2.out AT.out ((Kp.refl Non w2).alloc _) GR.out (World.size_alloc _ _) OR.out OW.out HQ.out H2.out m2 rfl
set_option maxRecDepth 100000 in
set_option maxHeartbeats 2000000 in
theorem vars_any {w : World} {l : List Tok} (h : Sx R g cap T w l false a 0 0) (hl : l ≠ []) : Calls Tryz.prog 62 #[.pointer (some ⟨R,0,none⟩)] w (Out R g cap T w false a 0 0 (varsS l) (RowV 72 9 w.heap.size)):=by
 have hmf : ∀ (fn : Fn) (first cap : Array Value) (w : World),(Instr.makeFunc fn first cap).run Tryz.prog w = .ok (.func fn first cap) w:=fun _ _ _ _ => rfl
 have hR:=h.ltR
 have hg:=h.lt
 have pl:=preA_pl hR hg
 have hS0 : Sx R g cap T (preA R 59 w) l false a 0 0:=(h.alloc _).alloc _
 have TK:=ytake_any [40] hS0 hl
 have HA : Hid _:=some_any 97 #[.pointer (some ⟨w.heap.size + 1,0,none⟩),.pointer (some ⟨w.heap.size,0,none⟩)] (fun _ _ => rfl) [41] varDefS varDefS_eats _ (Kp (Own1 R) w) (Jr.kp (cur:=#[.slice none 0 0]) (ty:=59) (tp:=82) (i:=0) (E:=72) (sz:=9) (W0:=preA R 59 w) pl) (oneR_of (preA_size _ _ _).symm varDefS_eats w (preA_kp R _ w) (vars1_item (cap:=cap) (T:=T) (a:=a) pl (by decide)))
 go_enter Tryz.func62,Tryz.ntmps62
 go_wp2_with (first
  | (go_at_call 33;refine (HA.out [] _ _ (preA_start hR (k1.trans (Kp.own R 2 (.bool true))) (h1.fix true) (Nat.le_refl _)) (h1.fix true) (hS0.next (by simp) hp)).mono ?_;rintro e w2 (⟨p,hq,rfl,k2⟩ | ⟨ys,m,hq,rfl,⟨⟨lv,xs,D,hj⟩,hlen,k2⟩,h2,n2⟩);(exact ⟨rfl,Or.inl ⟨p,by simp only [varsS,hp,if_true,hq],rfl,k2⟩⟩);obtain ⟨o,lc,rfl⟩:=hj.slice;have v0:=hj.cell (by decide);have p0:=hj.ptr;have r2:=h2.c2;have g2:=h2.free 2;have HJ : Hid _:=hj;have KR : Hid _:=preA_kp R _ w _ k2;clear hj)
  | (go_at_call 87;refine TK.mono ?_;(rintro e w1 (⟨hp,rfl,h1,k1⟩ | ⟨hp,rfl,h1,k1⟩) <;> (have cP1:=(row1 (old_row (preA_P R _ w) k1 (fun e => by have e' : w.heap.size = R:=e;omega))).1;have v1:=(row1 (old_row (preA_V R _ w) k1 (fun e => by have e' : w.heap.size + 1 = R:=e;omega))).1;have r1:=h1.c2;have g1:=h1.free 2))))
 ·go_ret
  have K3 : Kp (Own1 R) w2 (w2.setCell ⟨R,2,none⟩ (.bool false)):=Kp.own R 2 _
  exact Or.inr ⟨ys,m,_,by simp only [varsS,hp,if_true,hq],rfl,row_told (HJ.out.kp pl K3),h2.fix false,n2 (by simp),KR.out.trans K3⟩
 ·go_ret
  exact Or.inr ⟨[],l,_,by simp only [varsS,hp,Bool.false_eq_true,if_false],rfl,⟨⟨_,_,_,rfl⟩,.nil _ _⟩,h1,hl,preA_kp R _ w _ (k1.mono (fun _ _ e => Or.inl e))⟩
end
end
end Go.Proofs.YtgppemlciohjcaaGreatDoor
