/- The document's reader of trees: variables. -/
import Derived.Test.YtgppemlciohjcaaGreatDoorB41
import Derived.Test.YtgppemlciohjcaaGreatDoorB10
namespace Go.Proofs.YtgppemlciohjcaaGreatDoor
open Go Go.RowKit Go.Shelf
section
variable {R B : Nat} {L : Value} {T : List Tok} {N : Nat} {w : World} {g : Sg}
theorem new_after2 (w : World) (r r' : Addr) (x x' : Value) (o : Obj) : (((w.setCell r x).setCell r' x').alloc o).heap[w.heap.size]? = some o:=by
 have:=heap_alloc_new ((w.setCell r x).setCell r' x') o
 rwa [setc_size,setc_size] at this
theorem zvalue_at (hT : TF T) (fx : Bool) {st : Except (Nat × Int) (List Tok)} (z : Zs R B L T N w g) (hs : St T N g st) (hf : g.fx = fx) (hb : g.b = 0) (hI : g.I < 999999) : Calls Tryz.prog 77 #[.pointer (some ⟨R,0,none⟩)] w (ValZ R B L T N w g st (thnS (valF fx 32) st)):=zvalue_all hT fx (lenS st + 1) 32 0 (by decide) w g st z hs hf hb (fun l e => by rw [e];exact Nat.lt_succ_self _) hI
theorem vars_none {st : Except (Nat × Int) (List Tok)} (hst : St T N g st) (hc : ((nx T N g.I).k == 0 && (nx T N g.I).t == [40]) = false) : thnS varsS st = thnS (fun l => .ok ([],l)) st:=thn_P hst [40] hc (fun l => someS varDefS [41] l.tail) (fun l => .ok ([],l))
theorem vars_some {st : Except (Nat × Int) (List Tok)} (hst : St T N g st) (hc : ((nx T N g.I).k == 0 && (nx T N g.I).t == [40]) = true) : thnS varsS st = thnS (someS varDefS [41]) (tailS st):=(thn_P hst [40] hc (fun l => someS varDefS [41] l.tail) (fun l => .ok ([],l))).trans (thn_tail (someS varDefS [41]))
theorem st_bdn {st : Except (Nat × Int) (List Tok)} (K D : Nat) (hst : St T N g st) : g.I ≤ bdn T K D g st:=by
 cases st with
 | error p => exact Nat.le_add_right _ _
 | ok l => exact Nat.le_trans (show Live T N g l from hst).2.1 (Nat.le_add_right _ _)
set_option maxRecDepth 100000 in
set_option maxHeartbeats 4000000 in
theorem zvars_none (h : Zs R B L T N w g) {st : Except (Nat × Int) (List Tok)} (hst : St T N g st) (hc : ((nx T N g.I).k == 0 && (nx T N g.I).t == [40]) = false) : Calls Tryz.prog 46 #[.pointer (some ⟨R,0,none⟩)] w (RowY R B L T N 72 9 64 2 w g st (thnS varsS st)):=by
 rw [vars_none hst hc]
 have I0:=mark_is h [40] hc
 have k0 : Kp Non w (w.alloc (.cells #[] 72)):=(Kp.refl Non w).alloc _
 go_enter Tryz.func46,Tryz.ntmps46
 go_wp2_with (first
  | (go_at_call 45;(with_reducible refine (I0 _ k0).mono ?_);rintro e w1 ⟨rfl,j1⟩;have k1:=k0.trans j1)
  | fail)
 refine bodyPost_ret (v:=.slice (some ⟨w.heap.size,0,none⟩) 0 0) (by simp [results,Tryz.results46,go_sem]) rfl ⟨[],_,_,_,g,rfl,((vr_empty w (Nat.le_refl _)).keep (S:=Non) j1 (fun q e => e.elim)).at_,⟨h.kp k1,rfl,rfl,rfl,rfl,kp_non k1⟩,by rw [rest_ok];exact hst,fun a m e => val_ok _ e,st_bdn 64 2 hst⟩
theorem ats_varT (w : World) (D : Nat → Prop) (nm kn kw : Bs) (b : Bool) : Ats w D ([sC nm,sC kn,sC kw,bC b] ++ valC 0 [] [] [] ++ [rowC 97 2 []]) [.string ⟨nm.toArray⟩,.string ⟨kn.toArray⟩,.string ⟨kw.toArray⟩,.bool b,.int .i64 0,.string ⟨#[]⟩,.slice none 0 0,.slice none 0 0,.slice none 0 0] :=
 Ats.cons (.lf _) (Ats.cons (.lf _) (Ats.cons (.lf _) (Ats.cons (.lf _) (Ats.cons (.lf _) (Ats.cons (.lf _) (Ats.cons (.nil _ _) (Ats.cons (.nil _ _) (Ats.cons (.nil _ _) Ats.nil))))))))
set_option maxRecDepth 100000 in
set_option maxHeartbeats 8000000 in
theorem zvars_some (hT : TF T) (h : Zs R B L T N w g) {st : Except (Nat × Int) (List Tok)} (hst : St T N g st) (hf : g.fx = false) (hb : g.b = 0) (hg : g.c = 0) (hc : ((nx T N g.I).k == 0 && (nx T N g.I).t == [40]) = true) (hlo : g.I < 400000) : Calls Tryz.prog 46 #[.pointer (some ⟨R,0,none⟩)] w (RowY R B L T N 72 9 64 2 w g st (thnS varsS st)):=by
 have I0:=mark_is h [40] hc
 have hBs:=h.bs
 have hRl:=h.lt
 have hrb:=h.rb
 have hTn:=h.few
 have k0 : Kp Non w (w.alloc (.cells #[] 72)):=(Kp.refl Non w).alloc _
 have k0' : Kp (Own1 R) w (w.alloc (.cells #[] 72)):=(Kp.refl (Own1 R) w).alloc _
 have hs1 : St T N g.step (tailS st):=step_P hst (by decide) hc
 have hb1 : g.I + 2 ≤ bdn T 64 2 g st ∧ bdn T 64 2 g st ≤ 500000 ∧ (0 < lenS (tailS st) → T.length + 64 * lenS (tailS st) + 16 ≤ bdn T 64 2 g st) ∧ lenS (tailS st) ≤ 2048:=by
  cases st with
  | error p =>
   show g.I + 2 ≤ g.I + 2 ∧ g.I + 2 ≤ 500000 ∧ (0 < 0 → _) ∧ 0 ≤ 2048
   exact ⟨by omega,by omega,fun e => absurd e (Nat.lt_irrefl _),by omega⟩
  | ok l =>
   have hl : Live T N g l:=hst
   have h1:=live_len hl
   have h2:=hl.2.1
   show g.I + 2 ≤ T.length + 64 * l.length ∧ T.length + 64 * l.length ≤ 500000 ∧ (0 < l.tail.length → T.length + 64 * l.tail.length + 16 ≤ T.length + 64 * l.length) ∧ l.tail.length ≤ 2048
   rw [List.length_tail]
   exact ⟨by omega,by omega,fun e => by omega,by omega⟩
 rw [vars_some hst hc]
 obtain ⟨bn0,bn1,bn2,bn3⟩:=hb1
 unfold RowY
 generalize tailS st = st1 at *
 generalize bdn T 64 2 g st = bn at *
 go_enter Tryz.func46,Tryz.ntmps46
 go_wp2_with (first
  | (go_at_call 45;(with_reducible refine (I0 _ k0).mono ?_);rintro e w1 ⟨rfl,j1⟩;have k1:=k0.trans j1;obtain ⟨c0,c1,c2,c3,c4,c5,c6,c7,c8,fz⟩:=(h.kp k1).cells)
  | fail)
 have z2:=(h.kp k1).set 1 (.int .i64 (g.I + 1 : Nat)) g.step (by simp [Sg.step]) (by show g.I + 1 ≤ 1000000000;omega) h.da
 have K12 : Kp (Own1 R) w1 (w1.setCell ⟨R,1,none⟩ (.int .i64 (g.I + 1 : Nat))):=Kp.own R 1 _
 go_loopw [3] (fun lv wr => ∃ g' st els xs D,La R B L T N w.heap.size 72 9 w g varDefS [41] st1 bn wr g' st els lv xs D) (fun _ wr => if erZ R wr = 0 then T.length + 2 - idxZ R wr else 0)
 case atStart =>
  refine ⟨g.step,st1,[],_,_,⟨z2,rfl,rfl,rfl,rfl,hs1,rfl,((vr_empty w (Nat.le_refl _)).keep (S:=Non) j1 (fun q e => e.elim)).keep K12 (fun q e => by have e' : q = R:=e;omega),(k0'.trans (kp_non j1)).trans K12,?_,?_⟩⟩
  ·simp only [List.length_nil]
   omega
  ·exact ⟨bn0,fun l' e => by rw [e];exact Nat.le_refl _⟩
 case round =>
  obtain ⟨g',st,els,xs,D,LP⟩:=hrel
  obtain ⟨lo,lc,rfl⟩:=LP.row.slice
  have hlow:=LP.low
  cases st with
  | error p =>
   have x1 : (g'.er == 0) = false:=by rw [st_isOk LP.sts];rfl
   have j5 : Kp Non wr wr:=Kp.refl Non wr
   have MU:=fun w5 (z5 : Zs R B L T N w5 g') => zmust_any z5 [41] (by have:=LP.zs.few;omega)
   have mst:=must_st (T:=T) (N:=N) LP.sts (s:=[41]) (by decide)
   obtain ⟨u1,u2,u3,u4,u5⟩:=must_facts (T:=T) (N:=N) g' [41]
   generalize g'.must T N [41] = g6 at *
   obtain ⟨d0,d1,d2,d3,d4,d5,d6,d7,d8,dz⟩:=LP.zs.cells
   go_wp2_with (first
    | (go_at_call 75;(with_reducible refine (MU _ (LP.zs.kp j5)).mono ?_);rintro e w6 ⟨rfl,z6,k6⟩)
    | fail)
   have k56 : Kp (Own1 R) wr w6:=(kp_non j5).trans k6
   have KR : Kp (Own1 R) w w6:=LP.kp.trans k56
   refine bodyPost_ret (v:=.slice lo els.length lc) (by simp [results,Tryz.results46,go_sem]) rfl ⟨els,_,_,_,g6,rfl,(LP.row.keep k56 (fun q e => by have e' : q = R:=e;omega)).at_,⟨z6,u5.trans LP.fx,u2.trans LP.a,u3.trans LP.b,u4.trans LP.c,KR⟩,?_,?_,?_⟩
   ·rw [LP.rel,relS_err]
    exact mst
   ·rw [LP.rel,relS_err]
    intro a m e;cases e
   ·omega
  | ok l' =>
   have x1 : (g'.er == 0) = true:=by rw [st_isOk LP.sts];rfl
   have hl' : Live T N g' l':=LP.sts
   by_cases h0 : els = []
   ·have x2 : ((els.length : Int) == 0) = true:=by rw [h0];rfl
    have hor : els = [] ∨ isP [41] l' = false:=Or.inl h0
    clear h0
    have j5 : Kp Non wr wr:=Kp.refl Non wr
    have hlenl:=live_len hl'
    have hl'l:=hlow.2 l' rfl
    have hfew:=LP.few
    have hTf:=LP.zs.few
    have hgI:=hl'.2.1
    have hl1' : 0 < l'.length:=by
     obtain ⟨r,hr⟩:=live_nx hl'
     rw [hr];exact Nat.succ_pos _
    have hbn:=bn2 (by omega)
    have MS:=fun w5 (z5 : Zs R B L T N w5 g') => zmust_any z5 [36] (by omega)
    have mst1:=must_st (T:=T) (N:=N) (st:=.ok l') hl' (s:=[36]) (by decide)
    obtain ⟨a1,a2,a3,a4,a5⟩:=must_facts (T:=T) (N:=N) g' [36]
    replace a1:=Nat.le_of_eq a1
    generalize g'.must T N [36] = g1 at *
    obtain ⟨nst2,hnm⟩:=name_st (T:=T) (N:=N) hT mst1
    replace hnm : ∀ a m,thnS nameS (rest (thnS (mustS [36]) (.ok l'))) = .ok (a,m) → (nx T N g1.I).t = a:=fun a m e => (hnm a m e).symm
    obtain ⟨n1,n2,n3,n4,n5⟩:=name_facts (T:=T) (N:=N) g1 []
    replace n1:=Nat.le_of_eq n1
    have NA:=fun w5 (z5 : Zs R B L T N w5 g1) => zname_any z5 [] (by omega)
    generalize (nx T N g1.I).t = nm at *
    generalize g1.name T N [] = g2 at *
    have mst3:=must_st (T:=T) (N:=N) nst2 (s:=[58]) (by decide)
    obtain ⟨b1,b2,b3,b4,b5⟩:=must_facts (T:=T) (N:=N) g2 [58]
    replace b1:=Nat.le_of_eq b1
    have MC:=fun w5 (z5 : Zs R B L T N w5 g2) => zmust_any z5 [58] (by omega)
    generalize g2.must T N [58] = g3 at *
    have hvd:=fun kn kw hs dv ds st5 => vd_st (st0:=.ok l') (nm:=nm) (kn:=kn) (kw:=kw) (hs:=hs) (dv:=dv) (ds:=ds) (st5:=st5) hnm
    have q1 : lenS (rest (thnS (mustS [36]) (Except.ok l'))) ≤ lenS (Except.ok l'):=len_keeps (mustS_eats _).keeps
    have q1' : lenS (Except.ok l' : Except (Nat × Int) (List Tok)) = l'.length:=rfl
    have q2:=len_keeps (st:=rest (thnS (mustS [36]) (Except.ok l'))) nameS_eats.keeps
    have q3:=len_keeps (st:=rest (thnS nameS (rest (thnS (mustS [36]) (Except.ok l'))))) (mustS_eats [58]).keeps
    generalize rest (thnS (mustS [58]) (rest (thnS nameS (rest (thnS (mustS [36]) (Except.ok l')))))) = st3 at *
    have s3l : lenS st3 ≤ l'.length:=by omega
    clear q1 q2 q3
    have KC:=fun w5 (z5 : Zs R B L T N w5 g3) => zkind_all hT z5 mst3 (by rw [b4,n4,a4,LP.c,hg])
    have q4:=len_keeps (st:=st3) (refF_eats 32).keeps
    have hLo:=fun k (e : (Value.slice lo els.length lc).ownBlock = some k) => own_block LP.row.own e
    have hkw:=LP.kp.size
    have e3 : g3.a = g.a ∧ g3.b = 0 ∧ g3.c = g.c:=⟨by rw [b2,n2,a2,LP.a],by rw [b3,n3,a3,LP.b,hb],by rw [b4,n4,a4,LP.c]⟩
    obtain ⟨e3a,e3b,e3c⟩:=e3
    clear a2 a3 a4 a5 n2 n3 n4 n5 b2 b3 b4 b5
    obtain ⟨ti,hti,hy0,hy1,hy2⟩:=info_parts Tryz.infoVar
    obtain ⟨d0,d1,d2,d3,d4,d5,d6,d7,d8,dz⟩:=LP.zs.cells
    go_wp2_with (first
     | (at_builtin;refine wpList_append_lies _ rfl (.tmp 64) (.tmp 66) 59 rfl w.heap.size 72 ti _ 9 152 Tryz.underlying59 hti hy0 hy1 hy2 rfl (by decide) (.slice lo els.length lc) els.length xs rfl (hrow7.own.alloc _) ⟨w7.heap.size,0,none⟩ 1 1 [.string ⟨nm.toArray⟩,.string ⟨kn.toArray⟩,.string ⟨kw.toArray⟩,.bool hs,.int .i64 kk,.string vt,.slice p1 q1 z1,.slice p2 q2 z2,.slice p3 q3 z3] rfl rfl (World.news_of_block (new_after2 w7 _ _ _ _ _)) (by intro u hu;simp at hu;rcases hu with rfl | rfl | rfl | rfl | rfl | rfl | rfl | rfl | rfl <;> rfl) (by decide) (by unfold maxLen;omega) (by omega) (by rw [World.size_alloc,setc_size,setc_size];omega) _ rfl ?_;intro q8 cp8 w8 own8 gr8 hor8 hlt8)
     | (go_at_call 43;(with_reducible refine (zdirs_all hT VAv.zs VAv.sts true hfv hbv hIv9).mono ?_);rintro e w7 ⟨ds,p3,q3,z3,g7,rfl,hat7,zk7,hst7,hcs7,hbd7⟩;have VA7:=VAv.kpR zk7.kp zk7.zs hst7;obtain ⟨y0,y1,y2,y3,y4,y5,y6,y7,y8,fy⟩:=row9 VA7.var;have VA8:=VA7.dirs (at_up hat7 (Nat.succ_le_of_lt (lt_of_block VAv.var)));obtain ⟨e0,e1,e2,e3,e4,e5,e6,e7,e8,fe⟩:=VA8.zs.cells;have VA9:=VA8.setFx false;obtain ⟨v0,v1,v2,v3,v4,v5,v6,v7,v8,fv⟩:=row9 VA9.var;have hrow7:=LP.row.keep VA9.kp (fun q e => by have e' : q = R:=e;omega);have hz7:=VA7.kp.size)
     | (go_at_call 77;(with_reducible refine (zvalue_at hT true VA6b.zs VA6b.sts hf6 hb6 hI6b).mono ?_);rintro e wv ⟨dv,v,gv,rfl,⟨kk,vt,p1,q1,z1,p2,q2,z2,rfl,hatv⟩,zkv,hstv,hcsv,hbdv⟩;have VAx:=VA6b.kpR zkv.kp zkv.zs hstv;obtain ⟨t0,t1,t2,t3,t4,t5,t6,t7,t8,ft⟩:=row9 VAx.var;have VAw:=VAx.val (y0:=sC nm) (y1:=sC kn) (y2:=sC kw) (y3:=bC true) (y8:=rowC 97 2 []) (.lf _) (.lf _) (.lf _) (.lf _) (.nil _ _) hatv (Nat.succ_le_of_lt (lt_of_block VA6b.var));obtain ⟨hs,sv,VAv,HD,q5⟩ : ∃ hs sv,Va R B L T N wn.heap.size wr 72 ([sC nm,sC kn,sC kw,bC hs] ++ dv ++ [rowC 97 2 []]) #[.string ⟨nm.toArray⟩,.string ⟨kn.toArray⟩,.string ⟨kw.toArray⟩,.bool hs,.int .i64 kk,.string vt,.slice p1 q1 z1,.slice p2 q2 z2,.slice none 0 0] ((((wv.setCell ⟨wn.heap.size,4,none⟩ (.int .i64 kk)).setCell ⟨wn.heap.size,5,none⟩ (.string vt)).setCell ⟨wn.heap.size,6,none⟩ (.slice p1 q1 z1)).setCell ⟨wn.heap.size,7,none⟩ (.slice p2 q2 z2)) gv sv ∧ Hid (thnS defS st4 = thnS (fun l => .ok ((hs,dv),l)) sv) ∧ lenS sv ≤ l'.length:=⟨true,_,VAw,def_some hst4 hq hcsv,(by have:=len_keeps (st:=tailS st4) (valF_eats true 32).keeps;have:=len_tail (st:=st4);omega)⟩;clear VAw;have hIv:=hIvb gv.I hbdv;have hfv : gv.fx = true:=zkv.fx;have hav : gv.a = g.a:=zkv.a.trans ha4;have hbv : gv.b = 0:=zkv.b.trans hb4;have hcv : gv.c = g.c:=zkv.c.trans hc4;have hIv9 : gv.I < 900000:=(by omega);clear VAx)
     | (go_at_call 45;have IS : Calls Tryz.prog 45 #[.pointer (some ⟨R,0,none⟩),.string ⟨[61].toArray⟩] _ fun e w' => e = .returned (.bool ((nx T N g4.I).k == 0 && (nx T N g4.I).t == [61])) ∧ Kp Non _ w':=zis_any VA5.zs [61];(cases hq : ((nx T N g4.I).k == 0 && (nx T N g4.I).t == [61]) <;> (rw [hq] at IS;(with_reducible refine IS.mono ?_);rintro e w6 ⟨rfl,j6⟩;have VA6:=VA5.look j6;first | (have hqf : ((nx T N g4.I).k == 0 && (nx T N g4.I).t == [61]) = false:=hq;clear hqf;obtain ⟨hs,kk,vt,p1,q1,z1,p2,q2,z2,dv,gv,sv,VAv,HD,q5,hIv,hfv,hav,hbv,hcv⟩ : ∃ hs kk vt p1 q1 z1 p2 q2 z2 dv gv sv,Va R B L T N wn.heap.size wr 72 ([sC nm,sC kn,sC kw,bC hs] ++ dv ++ [rowC 97 2 []]) #[.string ⟨nm.toArray⟩,.string ⟨kn.toArray⟩,.string ⟨kw.toArray⟩,.bool hs,.int .i64 kk,.string vt,.slice p1 q1 z1,.slice p2 q2 z2,.slice none 0 0] w6 gv sv ∧ Hid (thnS defS st4 = thnS (fun l => .ok ((hs,dv),l)) sv) ∧ lenS sv ≤ l'.length ∧ gv.I ≤ T.length + 16 * l'.length + 20 ∧ gv.fx = true ∧ gv.a = g.a ∧ gv.b = 0 ∧ gv.c = g.c:=⟨false,0,⟨#[]⟩,none,0,0,none,0,0,valC 0 [] [] [],_,st4,VA6,def_none hst4 hq,(by omega),(by show g4.I ≤ _;omega),rfl,ha4,hb4,hc4⟩;have hIv9 : gv.I < 900000:=(by omega)) | (have hqt : ((nx T N g4.I).k == 0 && (nx T N g4.I).t == [61]) = true:=hq;clear hqt;obtain ⟨f0,f1,f2,f3,f4,f5,f6,f7,f8,ff⟩:=VA6.zs.cells;have VA6a:=VA6.stepI hI4 (step_P (st_same hst4 rfl rfl rfl) (by decide) hq);obtain ⟨h0',h1',h2',h3',h4',h5',h6',h7',h8',hf'⟩:=row9 VA6a.var;have VA6b:=VA6a.re (ys':=[sC nm,sC kn,sC kw,bC true] ++ valC 0 [] [] [] ++ [rowC 97 2 []]) (cs':=#[.string ⟨nm.toArray⟩,.string ⟨kn.toArray⟩,.string ⟨kw.toArray⟩,.bool true,.int .i64 0,.string ⟨#[]⟩,.slice none 0 0,.slice none 0 0,.slice none 0 0]) rfl (Kp.own wn.heap.size 3 (.bool true)) (by rw [heap_setCell_same _ _ 3 _ _ _ VA6a.var];simp) (ats_varT _ _ nm kn kw true);have hb6 : (({ g4 with fx:=true } : Sg).step).b = 0:=hb4;have hf6 : (({ g4 with fx:=true } : Sg).step).fx = true:=rfl;have hI6b : (({ g4 with fx:=true } : Sg).step).I < 999999:=(by show g4.I + 1 < 999999;omega);have hIvb : ∀ x,x ≤ bd T (({ g4 with fx:=true } : Sg).step) (tailS st4) → x ≤ T.length + 16 * l'.length + 20:=(by intro x hx;have hbo:=bd_or (T:=T) (g:=({ g4 with fx:=true } : Sg).step) (st:=tailS st4);have hIs : (({ g4 with fx:=true } : Sg).step).I = g4.I + 1:=rfl;have:=len_tail (st:=st4);omega)) | fail)))
     | (go_at_call 76;(with_reducible refine (KC _ VA3.zs).mono ?_);rintro e w4 ⟨kn,kw,g4,rfl,zk4,hst4,hcs4,hwl,hbd4⟩;have VA4:=VA3.kpR zk4.kp zk4.zs hst4;generalize rest (thnS (refF 32) st3) = st4 at *;obtain ⟨r0,r1,r2,r3,r4,r5,r6,r7,r8,fr⟩:=row9 VA4.var;have VA4b:=VA4.re (ys':=[sC nm,sC kn,sC kw,bC false] ++ valC 0 [] [] [] ++ [rowC 97 2 []]) (cs':=#[.string ⟨nm.toArray⟩,.string ⟨kn.toArray⟩,.string ⟨kw.toArray⟩,.bool false,.int .i64 0,.string ⟨#[]⟩,.slice none 0 0,.slice none 0 0,.slice none 0 0]) rfl (ownAt2 wn.heap.size 1 (.string ⟨kn.toArray⟩) (.string ⟨kw.toArray⟩)) (by rw [heap_setCell_same _ _ 2 _ _ _ (heap_setCell_same _ _ 1 _ _ _ VA4.var)];simp) (ats_varT _ _ nm kn kw false);obtain ⟨o0,o1,o2,o3,o4,o5,o6,o7,o8,fo⟩:=VA4b.zs.cells;have VA5:=VA4b.setFx true;have hI4' : g4.I ≤ T.length + 16 * l'.length + 3:=(by have:=bdn_or (T:=T) (g:=g3) (st:=st3) 16 0;omega);have hI4 : g4.I < 1000000000:=(by omega);have ha4 : g4.a = g.a:=zk4.a.trans e3a;have hb4 : g4.b = 0:=zk4.b.trans e3b;have hc4 : g4.c = g.c:=zk4.c.trans e3c)
     | (go_at_call 75;(with_reducible refine (MC _ VA2.zs).mono ?_);rintro e w3 ⟨rfl,z3,k3⟩;have VA3:=VA2.kpR k3 z3 mst3)
     | (go_at_call 41;(with_reducible refine (NA _ zm).mono ?_);rintro e wn ⟨rfl,zn,kn2⟩;have VA2:=va_new (W:=wr) (E:=72) (ys:=[sC nm,sC [],sC [],bC false] ++ valC 0 [] [] [] ++ [rowC 97 2 []]) (cs:=#[.string ⟨nm.toArray⟩,.string ⟨#[]⟩,.string ⟨#[]⟩,.bool false,.int .i64 0,.string ⟨#[]⟩,.slice none 0 0,.slice none 0 0,.slice none 0 0]) zn nst2 ((kp_non j5).trans (km.trans kn2)) (ats_varT _ _ nm [] [] false);have hwn : wr.heap.size ≤ wn.heap.size:=(by have:=j5.size;have:=km.size;have:=kn2.size;omega))
     | (go_at_call 75;(with_reducible refine (MS _ (LP.zs.kp j5)).mono ?_);rintro e wm ⟨rfl,zm,km⟩)
     | fail)
    all_goals
     have hst8 : St T N { g7 with fx:=false } (rest (thnS (dirsS true) sv)):=st_same hst7 rfl rfl rfl
     have hme8 : varDefS l' = oneR _ (rest (thnS (dirsS true) sv)):=(hvd kn kw hs dv ds sv hcs4 HD.out hcs7).trans (done_oneR _)
     have hb7:=bdn_or (T:=T) (g:=gv) (st:=sv) 16 0
     have hbd8 : g7.I + 1 ≤ bn:=by omega
     generalize rest (thnS (dirsS true) sv) = st7 at *
     have hlS:=one_len varDefS_eats hme8 hl1'
     have hpV:=hrow7.push (cs:=[sC nm,sC kn,sC kw,bC hs] ++ dv ++ [rowC 97 2 ds]) (P:=wn.heap.size) (De:=Iv (wn.heap.size + 1) ((w7.setCell ⟨wn.heap.size,8,none⟩ (.slice p3 q3 z3)).setCell ⟨R,3,none⟩ (.bool false)).heap.size) (fun k e => Nat.lt_of_lt_of_le (hLo k e).2 hwn) (by omega) VA9.ats (fun k hk => ⟨Nat.le_of_succ_le hk.1,hk.2⟩) gr8 hor8 own8
     have K78 : Kp (fun k => w.heap.size ≤ k) ((w7.setCell ⟨wn.heap.size,8,none⟩ (.slice p3 q3 z3)).setCell ⟨R,3,none⟩ (.bool false)) w8:=((Kp.refl (fun k => w.heap.size ≤ k) _).alloc _).grew gr8 (fun k e => Or.inr (hLo k e).1)
     have z8:=VA9.zs.farS (fun k e => by have e' : w.heap.size ≤ k:=e;omega) K78
     refine ⟨⟨{ g7 with fx:=false },st7,els ++ [[sC nm,sC kn,sC kw,bC hs] ++ dv ++ [rowC 97 2 ds]],_,_,⟨z8,hf.symm,zk7.a.trans hav,(zk7.b.trans hbv).trans hb.symm,zk7.c.trans hcv,hst8,?_,hpV,?_,?_,?_⟩⟩,?_⟩
     ·rw [LP.rel]
      exact relS_step varDefS_eats hor hme8
     ·have KK:=LP.kp.trans VA9.kp
      exact ⟨K78.os.trans KK.os,K78.tape.trans KK.tape,K78.output.trans KK.output,Nat.le_trans KK.size K78.size,fun q hq hS => (K78.block q (by have:=KK.size;omega) (fun e => by have e' : w.heap.size ≤ q:=e;omega)).trans (KK.block q hq hS)⟩
     ·rw [List.length_append,List.length_cons,List.length_nil]
      have : lenS (Except.ok l') = l'.length:=rfl
      omega
     ·refine ⟨hbd8,fun l2 e => ?_⟩
      rw [e] at hlS
      have : lenS (Except.ok l2) = l2.length:=rfl
      omega
     ·rw [erZ_eq z8,erZ_eq LP.zs,idx_eq z8,idx_eq LP.zs,hl'.2.2,if_pos rfl]
      cases st7 with
      | error p =>
       have hd : Dead { g7 with fx:=false } p:=hst8
       rw [if_neg (by rw [hd.1];exact hd.2.1)]
       omega
      | ok l3 =>
       have hl7 : Live T N { g7 with fx:=false } l3:=hst8
       have hl7I : g7.I + l3.length = T.length + 1:=live_len hl7
       have e2 : lenS (Except.ok l3) = l3.length:=rfl
       rw [hl7.2.2,if_pos rfl]
       show T.length + 2 - g7.I < T.length + 2 - g'.I
       omega
   ·have x2 : ((els.length : Int) == 0) = false:=by
     cases els with
     | nil => exact absurd rfl h0
     | cons a b => simp;omega
    have X:=zis_any LP.zs [41]
    rw [← live_isP hl'] at X
    by_cases hqe : isP [41] l' = true
    ·rw [hqe] at X
     have MU:=fun w5 (z5 : Zs R B L T N w5 g') => zmust_any z5 [41] (by have:=LP.zs.few;omega)
     have mst:=must_st (T:=T) (N:=N) LP.sts (s:=[41]) (by decide)
     obtain ⟨u1,u2,u3,u4,u5⟩:=must_facts (T:=T) (N:=N) g' [41]
     generalize g'.must T N [41] = g6 at *
     obtain ⟨d0,d1,d2,d3,d4,d5,d6,d7,d8,dz⟩:=LP.zs.cells
     go_wp2_with (first
      | (go_at_call 75;(with_reducible refine (MU _ (LP.zs.kp j5)).mono ?_);rintro e w6 ⟨rfl,z6,k6⟩)
      | (go_at_call 45;(with_reducible refine X.mono ?_);rintro e w5 ⟨rfl,j5⟩)
      | fail)
     have k56 : Kp (Own1 R) wr w6:=(kp_non j5).trans k6
     have KR : Kp (Own1 R) w w6:=LP.kp.trans k56
     refine bodyPost_ret (v:=.slice lo els.length lc) (by simp [results,Tryz.results46,go_sem]) rfl ⟨els,_,_,_,g6,rfl,(LP.row.keep k56 (fun q e => by have e' : q = R:=e;omega)).at_,⟨z6,u5.trans LP.fx,u2.trans LP.a,u3.trans LP.b,u4.trans LP.c,KR⟩,?_,?_,?_⟩
     ·rw [LP.rel,relS_end varDefS_eats h0 hqe]
      exact (show Live T N g6 l'.tail from (by have:=mst;rw [show thnS (mustS [41]) (Except.ok l') = .ok ((),l'.tail) by (show mustS [41] l' = _;unfold mustS;rw [hqe];rfl)] at this;exact this))
     ·rw [LP.rel,relS_end varDefS_eats h0 hqe]
      intro a m e;cases e;rfl
     ·omega
    ·have hqf : isP [41] l' = false:=Bool.eq_false_iff.2 hqe
     have hor : els = [] ∨ isP [41] l' = false:=Or.inr hqf
     rw [hqf] at X
     have hlenl:=live_len hl'
     have hl'l:=hlow.2 l' rfl
     have hfew:=LP.few
     have hTf:=LP.zs.few
     have hgI:=hl'.2.1
     have hl1' : 0 < l'.length:=by
      obtain ⟨r,hr⟩:=live_nx hl'
      rw [hr];exact Nat.succ_pos _
     have hbn:=bn2 (by omega)
     have MS:=fun w5 (z5 : Zs R B L T N w5 g') => zmust_any z5 [36] (by omega)
     have mst1:=must_st (T:=T) (N:=N) (st:=.ok l') hl' (s:=[36]) (by decide)
     obtain ⟨a1,a2,a3,a4,a5⟩:=must_facts (T:=T) (N:=N) g' [36]
     replace a1:=Nat.le_of_eq a1
     generalize g'.must T N [36] = g1 at *
     obtain ⟨nst2,hnm⟩:=name_st (T:=T) (N:=N) hT mst1
     replace hnm : ∀ a m,thnS nameS (rest (thnS (mustS [36]) (.ok l'))) = .ok (a,m) → (nx T N g1.I).t = a:=fun a m e => (hnm a m e).symm
     obtain ⟨n1,n2,n3,n4,n5⟩:=name_facts (T:=T) (N:=N) g1 []
     replace n1:=Nat.le_of_eq n1
     have NA:=fun w5 (z5 : Zs R B L T N w5 g1) => zname_any z5 [] (by omega)
     generalize (nx T N g1.I).t = nm at *
     generalize g1.name T N [] = g2 at *
     have mst3:=must_st (T:=T) (N:=N) nst2 (s:=[58]) (by decide)
     obtain ⟨b1,b2,b3,b4,b5⟩:=must_facts (T:=T) (N:=N) g2 [58]
     replace b1:=Nat.le_of_eq b1
     have MC:=fun w5 (z5 : Zs R B L T N w5 g2) => zmust_any z5 [58] (by omega)
     generalize g2.must T N [58] = g3 at *
     have hvd:=fun kn kw hs dv ds st5 => vd_st (st0:=.ok l') (nm:=nm) (kn:=kn) (kw:=kw) (hs:=hs) (dv:=dv) (ds:=ds) (st5:=st5) hnm
     have q1 : lenS (rest (thnS (mustS [36]) (Except.ok l'))) ≤ lenS (Except.ok l'):=len_keeps (mustS_eats _).keeps
     have q1' : lenS (Except.ok l' : Except (Nat × Int) (List Tok)) = l'.length:=rfl
     have q2:=len_keeps (st:=rest (thnS (mustS [36]) (Except.ok l'))) nameS_eats.keeps
     have q3:=len_keeps (st:=rest (thnS nameS (rest (thnS (mustS [36]) (Except.ok l'))))) (mustS_eats [58]).keeps
     generalize rest (thnS (mustS [58]) (rest (thnS nameS (rest (thnS (mustS [36]) (Except.ok l')))))) = st3 at *
     have s3l : lenS st3 ≤ l'.length:=by omega
     clear q1 q2 q3
     have KC:=fun w5 (z5 : Zs R B L T N w5 g3) => zkind_all hT z5 mst3 (by rw [b4,n4,a4,LP.c,hg])
     have q4:=len_keeps (st:=st3) (refF_eats 32).keeps
     have hLo:=fun k (e : (Value.slice lo els.length lc).ownBlock = some k) => own_block LP.row.own e
     have hkw:=LP.kp.size
     have e3 : g3.a = g.a ∧ g3.b = 0 ∧ g3.c = g.c:=⟨by rw [b2,n2,a2,LP.a],by rw [b3,n3,a3,LP.b,hb],by rw [b4,n4,a4,LP.c]⟩
     obtain ⟨e3a,e3b,e3c⟩:=e3
     clear a2 a3 a4 a5 n2 n3 n4 n5 b2 b3 b4 b5
     obtain ⟨ti,hti,hy0,hy1,hy2⟩:=info_parts Tryz.infoVar
     obtain ⟨d0,d1,d2,d3,d4,d5,d6,d7,d8,dz⟩:=LP.zs.cells
     go_wp2_with (first
      | (at_builtin;refine wpList_append_lies _ rfl (.tmp 64) (.tmp 66) 59 rfl w.heap.size 72 ti _ 9 152 Tryz.underlying59 hti hy0 hy1 hy2 rfl (by decide) (.slice lo els.length lc) els.length xs rfl (hrow7.own.alloc _) ⟨w7.heap.size,0,none⟩ 1 1 [.string ⟨nm.toArray⟩,.string ⟨kn.toArray⟩,.string ⟨kw.toArray⟩,.bool hs,.int .i64 kk,.string vt,.slice p1 q1 z1,.slice p2 q2 z2,.slice p3 q3 z3] rfl rfl (World.news_of_block (new_after2 w7 _ _ _ _ _)) (by intro u hu;simp at hu;rcases hu with rfl | rfl | rfl | rfl | rfl | rfl | rfl | rfl | rfl <;> rfl) (by decide) (by unfold maxLen;omega) (by omega) (by rw [World.size_alloc,setc_size,setc_size];omega) _ rfl ?_;intro q8 cp8 w8 own8 gr8 hor8 hlt8)
      | (go_at_call 43;(with_reducible refine (zdirs_all hT VAv.zs VAv.sts true hfv hbv hIv9).mono ?_);rintro e w7 ⟨ds,p3,q3,z3,g7,rfl,hat7,zk7,hst7,hcs7,hbd7⟩;have VA7:=VAv.kpR zk7.kp zk7.zs hst7;obtain ⟨y0,y1,y2,y3,y4,y5,y6,y7,y8,fy⟩:=row9 VA7.var;have VA8:=VA7.dirs (at_up hat7 (Nat.succ_le_of_lt (lt_of_block VAv.var)));obtain ⟨e0,e1,e2,e3,e4,e5,e6,e7,e8,fe⟩:=VA8.zs.cells;have VA9:=VA8.setFx false;obtain ⟨v0,v1,v2,v3,v4,v5,v6,v7,v8,fv⟩:=row9 VA9.var;have hrow7:=LP.row.keep VA9.kp (fun q e => by have e' : q = R:=e;omega);have hz7:=VA7.kp.size)
      | (go_at_call 77;(with_reducible refine (zvalue_at hT true VA6b.zs VA6b.sts hf6 hb6 hI6b).mono ?_);rintro e wv ⟨dv,v,gv,rfl,⟨kk,vt,p1,q1,z1,p2,q2,z2,rfl,hatv⟩,zkv,hstv,hcsv,hbdv⟩;have VAx:=VA6b.kpR zkv.kp zkv.zs hstv;obtain ⟨t0,t1,t2,t3,t4,t5,t6,t7,t8,ft⟩:=row9 VAx.var;have VAw:=VAx.val (y0:=sC nm) (y1:=sC kn) (y2:=sC kw) (y3:=bC true) (y8:=rowC 97 2 []) (.lf _) (.lf _) (.lf _) (.lf _) (.nil _ _) hatv (Nat.succ_le_of_lt (lt_of_block VA6b.var));obtain ⟨hs,sv,VAv,HD,q5⟩ : ∃ hs sv,Va R B L T N wn.heap.size wr 72 ([sC nm,sC kn,sC kw,bC hs] ++ dv ++ [rowC 97 2 []]) #[.string ⟨nm.toArray⟩,.string ⟨kn.toArray⟩,.string ⟨kw.toArray⟩,.bool hs,.int .i64 kk,.string vt,.slice p1 q1 z1,.slice p2 q2 z2,.slice none 0 0] ((((wv.setCell ⟨wn.heap.size,4,none⟩ (.int .i64 kk)).setCell ⟨wn.heap.size,5,none⟩ (.string vt)).setCell ⟨wn.heap.size,6,none⟩ (.slice p1 q1 z1)).setCell ⟨wn.heap.size,7,none⟩ (.slice p2 q2 z2)) gv sv ∧ Hid (thnS defS st4 = thnS (fun l => .ok ((hs,dv),l)) sv) ∧ lenS sv ≤ l'.length:=⟨true,_,VAw,def_some hst4 hq hcsv,(by have:=len_keeps (st:=tailS st4) (valF_eats true 32).keeps;have:=len_tail (st:=st4);omega)⟩;clear VAw;have hIv:=hIvb gv.I hbdv;have hfv : gv.fx = true:=zkv.fx;have hav : gv.a = g.a:=zkv.a.trans ha4;have hbv : gv.b = 0:=zkv.b.trans hb4;have hcv : gv.c = g.c:=zkv.c.trans hc4;have hIv9 : gv.I < 900000:=(by omega);clear VAx)
      | (go_at_call 45;have IS : Calls Tryz.prog 45 #[.pointer (some ⟨R,0,none⟩),.string ⟨[61].toArray⟩] _ fun e w' => e = .returned (.bool ((nx T N g4.I).k == 0 && (nx T N g4.I).t == [61])) ∧ Kp Non _ w':=zis_any VA5.zs [61];(cases hq : ((nx T N g4.I).k == 0 && (nx T N g4.I).t == [61]) <;> (rw [hq] at IS;(with_reducible refine IS.mono ?_);rintro e w6 ⟨rfl,j6⟩;have VA6:=VA5.look j6;first | (have hqf : ((nx T N g4.I).k == 0 && (nx T N g4.I).t == [61]) = false:=hq;clear hqf;obtain ⟨hs,kk,vt,p1,q1,z1,p2,q2,z2,dv,gv,sv,VAv,HD,q5,hIv,hfv,hav,hbv,hcv⟩ : ∃ hs kk vt p1 q1 z1 p2 q2 z2 dv gv sv,Va R B L T N wn.heap.size wr 72 ([sC nm,sC kn,sC kw,bC hs] ++ dv ++ [rowC 97 2 []]) #[.string ⟨nm.toArray⟩,.string ⟨kn.toArray⟩,.string ⟨kw.toArray⟩,.bool hs,.int .i64 kk,.string vt,.slice p1 q1 z1,.slice p2 q2 z2,.slice none 0 0] w6 gv sv ∧ Hid (thnS defS st4 = thnS (fun l => .ok ((hs,dv),l)) sv) ∧ lenS sv ≤ l'.length ∧ gv.I ≤ T.length + 16 * l'.length + 20 ∧ gv.fx = true ∧ gv.a = g.a ∧ gv.b = 0 ∧ gv.c = g.c:=⟨false,0,⟨#[]⟩,none,0,0,none,0,0,valC 0 [] [] [],_,st4,VA6,def_none hst4 hq,(by omega),(by show g4.I ≤ _;omega),rfl,ha4,hb4,hc4⟩;have hIv9 : gv.I < 900000:=(by omega)) | (have hqt : ((nx T N g4.I).k == 0 && (nx T N g4.I).t == [61]) = true:=hq;clear hqt;obtain ⟨f0,f1,f2,f3,f4,f5,f6,f7,f8,ff⟩:=VA6.zs.cells;have VA6a:=VA6.stepI hI4 (step_P (st_same hst4 rfl rfl rfl) (by decide) hq);obtain ⟨h0',h1',h2',h3',h4',h5',h6',h7',h8',hf'⟩:=row9 VA6a.var;have VA6b:=VA6a.re (ys':=[sC nm,sC kn,sC kw,bC true] ++ valC 0 [] [] [] ++ [rowC 97 2 []]) (cs':=#[.string ⟨nm.toArray⟩,.string ⟨kn.toArray⟩,.string ⟨kw.toArray⟩,.bool true,.int .i64 0,.string ⟨#[]⟩,.slice none 0 0,.slice none 0 0,.slice none 0 0]) rfl (Kp.own wn.heap.size 3 (.bool true)) (by rw [heap_setCell_same _ _ 3 _ _ _ VA6a.var];simp) (ats_varT _ _ nm kn kw true);have hb6 : (({ g4 with fx:=true } : Sg).step).b = 0:=hb4;have hf6 : (({ g4 with fx:=true } : Sg).step).fx = true:=rfl;have hI6b : (({ g4 with fx:=true } : Sg).step).I < 999999:=(by show g4.I + 1 < 999999;omega);have hIvb : ∀ x,x ≤ bd T (({ g4 with fx:=true } : Sg).step) (tailS st4) → x ≤ T.length + 16 * l'.length + 20:=(by intro x hx;have hbo:=bd_or (T:=T) (g:=({ g4 with fx:=true } : Sg).step) (st:=tailS st4);have hIs : (({ g4 with fx:=true } : Sg).step).I = g4.I + 1:=rfl;have:=len_tail (st:=st4);omega)) | fail)))
      | (go_at_call 76;(with_reducible refine (KC _ VA3.zs).mono ?_);rintro e w4 ⟨kn,kw,g4,rfl,zk4,hst4,hcs4,hwl,hbd4⟩;have VA4:=VA3.kpR zk4.kp zk4.zs hst4;generalize rest (thnS (refF 32) st3) = st4 at *;obtain ⟨r0,r1,r2,r3,r4,r5,r6,r7,r8,fr⟩:=row9 VA4.var;have VA4b:=VA4.re (ys':=[sC nm,sC kn,sC kw,bC false] ++ valC 0 [] [] [] ++ [rowC 97 2 []]) (cs':=#[.string ⟨nm.toArray⟩,.string ⟨kn.toArray⟩,.string ⟨kw.toArray⟩,.bool false,.int .i64 0,.string ⟨#[]⟩,.slice none 0 0,.slice none 0 0,.slice none 0 0]) rfl (ownAt2 wn.heap.size 1 (.string ⟨kn.toArray⟩) (.string ⟨kw.toArray⟩)) (by rw [heap_setCell_same _ _ 2 _ _ _ (heap_setCell_same _ _ 1 _ _ _ VA4.var)];simp) (ats_varT _ _ nm kn kw false);obtain ⟨o0,o1,o2,o3,o4,o5,o6,o7,o8,fo⟩:=VA4b.zs.cells;have VA5:=VA4b.setFx true;have hI4' : g4.I ≤ T.length + 16 * l'.length + 3:=(by have:=bdn_or (T:=T) (g:=g3) (st:=st3) 16 0;omega);have hI4 : g4.I < 1000000000:=(by omega);have ha4 : g4.a = g.a:=zk4.a.trans e3a;have hb4 : g4.b = 0:=zk4.b.trans e3b;have hc4 : g4.c = g.c:=zk4.c.trans e3c)
      | (go_at_call 75;(with_reducible refine (MC _ VA2.zs).mono ?_);rintro e w3 ⟨rfl,z3,k3⟩;have VA3:=VA2.kpR k3 z3 mst3)
      | (go_at_call 41;(with_reducible refine (NA _ zm).mono ?_);rintro e wn ⟨rfl,zn,kn2⟩;have VA2:=va_new (W:=wr) (E:=72) (ys:=[sC nm,sC [],sC [],bC false] ++ valC 0 [] [] [] ++ [rowC 97 2 []]) (cs:=#[.string ⟨nm.toArray⟩,.string ⟨#[]⟩,.string ⟨#[]⟩,.bool false,.int .i64 0,.string ⟨#[]⟩,.slice none 0 0,.slice none 0 0,.slice none 0 0]) zn nst2 ((kp_non j5).trans (km.trans kn2)) (ats_varT _ _ nm [] [] false);have hwn : wr.heap.size ≤ wn.heap.size:=(by have:=j5.size;have:=km.size;have:=kn2.size;omega))
      | (go_at_call 75;(with_reducible refine (MS _ (LP.zs.kp j5)).mono ?_);rintro e wm ⟨rfl,zm,km⟩)
      | (go_at_call 45;(with_reducible refine X.mono ?_);rintro e w5 ⟨rfl,j5⟩)
      | fail)
     all_goals
      have hst8 : St T N { g7 with fx:=false } (rest (thnS (dirsS true) sv)):=st_same hst7 rfl rfl rfl
      have hme8 : varDefS l' = oneR _ (rest (thnS (dirsS true) sv)):=(hvd kn kw hs dv ds sv hcs4 HD.out hcs7).trans (done_oneR _)
      have hb7:=bdn_or (T:=T) (g:=gv) (st:=sv) 16 0
      have hbd8 : g7.I + 1 ≤ bn:=by omega
      generalize rest (thnS (dirsS true) sv) = st7 at *
      have hlS:=one_len varDefS_eats hme8 hl1'
      have hpV:=hrow7.push (cs:=[sC nm,sC kn,sC kw,bC hs] ++ dv ++ [rowC 97 2 ds]) (P:=wn.heap.size) (De:=Iv (wn.heap.size + 1) ((w7.setCell ⟨wn.heap.size,8,none⟩ (.slice p3 q3 z3)).setCell ⟨R,3,none⟩ (.bool false)).heap.size) (fun k e => Nat.lt_of_lt_of_le (hLo k e).2 hwn) (by omega) VA9.ats (fun k hk => ⟨Nat.le_of_succ_le hk.1,hk.2⟩) gr8 hor8 own8
      have K78 : Kp (fun k => w.heap.size ≤ k) ((w7.setCell ⟨wn.heap.size,8,none⟩ (.slice p3 q3 z3)).setCell ⟨R,3,none⟩ (.bool false)) w8:=((Kp.refl (fun k => w.heap.size ≤ k) _).alloc _).grew gr8 (fun k e => Or.inr (hLo k e).1)
      have z8:=VA9.zs.farS (fun k e => by have e' : w.heap.size ≤ k:=e;omega) K78
      refine ⟨⟨{ g7 with fx:=false },st7,els ++ [[sC nm,sC kn,sC kw,bC hs] ++ dv ++ [rowC 97 2 ds]],_,_,⟨z8,hf.symm,zk7.a.trans hav,(zk7.b.trans hbv).trans hb.symm,zk7.c.trans hcv,hst8,?_,hpV,?_,?_,?_⟩⟩,?_⟩
      ·rw [LP.rel]
       exact relS_step varDefS_eats hor hme8
      ·have KK:=LP.kp.trans VA9.kp
       exact ⟨K78.os.trans KK.os,K78.tape.trans KK.tape,K78.output.trans KK.output,Nat.le_trans KK.size K78.size,fun q hq hS => (K78.block q (by have:=KK.size;omega) (fun e => by have e' : w.heap.size ≤ q:=e;omega)).trans (KK.block q hq hS)⟩
      ·rw [List.length_append,List.length_cons,List.length_nil]
       have : lenS (Except.ok l') = l'.length:=rfl
       omega
      ·refine ⟨hbd8,fun l2 e => ?_⟩
       rw [e] at hlS
       have : lenS (Except.ok l2) = l2.length:=rfl
       omega
      ·rw [erZ_eq z8,erZ_eq LP.zs,idx_eq z8,idx_eq LP.zs,hl'.2.2,if_pos rfl]
       cases st7 with
       | error p =>
        have hd : Dead { g7 with fx:=false } p:=hst8
        rw [if_neg (by rw [hd.1];exact hd.2.1)]
        omega
       | ok l3 =>
        have hl7 : Live T N { g7 with fx:=false } l3:=hst8
        have hl7I : g7.I + l3.length = T.length + 1:=live_len hl7
        have e2 : lenS (Except.ok l3) = l3.length:=rfl
        rw [hl7.2.2,if_pos rfl]
        show T.length + 2 - g7.I < T.length + 2 - g'.I
        omega
theorem zvars_all (hT : TF T) (h : Zs R B L T N w g) {st : Except (Nat × Int) (List Tok)} (hst : St T N g st) (hf : g.fx = false) (hb : g.b = 0) (hg : g.c = 0) (hlo : g.I < 400000) : Calls Tryz.prog 46 #[.pointer (some ⟨R,0,none⟩)] w (RowY R B L T N 72 9 64 2 w g st (thnS varsS st)):=by
 cases hc : ((nx T N g.I).k == 0 && (nx T N g.I).t == [40]) with
 | false => exact zvars_none h hst hc
 | true => exact zvars_some hT h hst hf hb hg hc hlo
end
end Go.Proofs.YtgppemlciohjcaaGreatDoor
