/- The document's reader of trees: operations. -/
import Derived.Test.YtgppemlciohjcaaGreatDoorB43
import Derived.Test.YtgppemlciohjcaaGreatDoorB12
namespace Go.Proofs.YtgppemlciohjcaaGreatDoor
section
open Go Go.RowKit Go.Shelf
abbrev opX (k : Int) (t : Bs) (s1 s2 s3 : Value) : Array Value:=#[.int .i64 k,.string ⟨t.toArray⟩,s1,s2,s3]
abbrev opO : Obj:=.cells #[.int .i64 0,.string ⟨#[]⟩,.slice none 0 0,.slice none 0 0,.slice none 0 0] 61
abbrev quB : Bs:=[113,117,101,114,121]
abbrev muB : Bs:=[109,117,116,97,116,105,111,110]
abbrev suB : Bs:=[115,117,98,115,99,114,105,112,116,105,111,110]
section
variable {R B : Nat} {L : Value} {T : List Tok} {N : Nat} {V : Nat} {W w w0 : World} {g : Sg} {E : Nat} {ys : List CT} {cs : Array Value} {ou : Obj} {st : Except (Nat × Int) (List Tok)} {k : Int} {t : Bs} {vs ds ss : List (List CT)} {s1 s2 s3 : Value}
theorem ats_op (w : World) (D : Nat → Prop) : Ats w D (opC 0 [] [] [] []) (opX 0 [] (.slice none 0 0) (.slice none 0 0) (.slice none 0 0)).toList :=
 Ats.cons (.lf _) (Ats.cons (.lf _) (Ats.cons (.nil _ _) (Ats.cons (.nil _ _) (Ats.cons (.nil _ _) Ats.nil))))
theorem Va.oKind (h : Va R B L T N V W E (opC k t vs ds ss) (opX k t s1 s2 s3) w g st) (k' : Int) : Va R B L T N V W E (opC k' t vs ds ss) (opX k' t s1 s2 s3) (w.setCell ⟨V,0,none⟩ (.int .i64 k')) g st:=by
 have:=h.leaf 0 (.int .i64 k')
 simpa using this
theorem Va.oName (h : Va R B L T N V W E (opC k t vs ds ss) (opX k t s1 s2 s3) w g st) (t' : Bs) : Va R B L T N V W E (opC k t' vs ds ss) (opX k t' s1 s2 s3) (w.setCell ⟨V,1,none⟩ (.string ⟨t'.toArray⟩)) g st:=by
 have:=h.leaf 1 (.string ⟨t'.toArray⟩)
 simpa using this
theorem Va.oVars (h : Va R B L T N V W E (opC k t vs ds ss) (opX k t s1 s2 s3) w g st) {vs' : List (List CT)} {v : Value} (hy : At w (Iv (V + 1) w.heap.size) (rowC 72 9 vs') v) : Va R B L T N V W E (opC k t vs' ds ss) (opX k t v s2 s3) (w.setCell ⟨V,2,none⟩ v) g st:=by
 have:=h.put 2 hy
 simpa using this
theorem Va.oDirs (h : Va R B L T N V W E (opC k t vs ds ss) (opX k t s1 s2 s3) w g st) {ds' : List (List CT)} {v : Value} (hy : At w (Iv (V + 1) w.heap.size) (rowC 97 2 ds') v) : Va R B L T N V W E (opC k t vs ds' ss) (opX k t s1 v s3) (w.setCell ⟨V,3,none⟩ v) g st:=by
 have:=h.put 3 hy
 simpa using this
theorem Va.oSels (h : Va R B L T N V W E (opC k t vs ds ss) (opX k t s1 s2 s3) w g st) {ss' : List (List CT)} {v : Value} (hy : At w (Iv (V + 1) w.heap.size) (rowC 65 7 ss') v) : Va R B L T N V W E (opC k t vs ds ss') (opX k t s1 s2 v) (w.setCell ⟨V,4,none⟩ v) g st:=by
 have:=h.put 4 hy
 simpa using this
def OpZ (R B : Nat) (L : Value) (T : List Tok) (N : Nat) (w : World) (g : Sg) (l : List Tok) (r : Rs (List CT)) (e : Ending) (w' : World) : Prop :=
 ∃ cs v g',e = .returned v ∧ OpV w.heap.size cs v w' ∧ ZK R B L T N w g w' g' ∧ St T N g' (rest r) ∧ (∀ a m,r = .ok (a,m) → cs = a) ∧ g'.I ≤ T.length + 64 * l.length
theorem kind_st {l : List Tok} {k : Int} {x : Bs} (ht : txT l = x) (hk : ∀ m,isW x m = true → kindS m = .ok (k,m.tail)) (h0 : ∀ m,isK 1 m = false → kindS m = .error (atT m,60)) : kindS l = thnS (fun l => .ok (k,l)) (rest (nameS l)):=by
 unfold nameS
 cases hq : isK 1 l with
 | false =>
  rw [h0 l hq]
  rfl
 | true =>
  have hw : isW x l = true:=by
   cases l with
   | nil => cases hq
   | cons a r =>
    have e1 : (a.k == 1) = true:=hq
    have e2 : a.t = x:=ht
    show (a.k == 1 && a.t == x) = true
    rw [e1,e2]
    simp
  rw [hk l hw]
  rfl
theorem kind_none0 (m : List Tok) (h : isK 1 m = false) : kindS m = .error (atT m,60):=by
 have hw : ∀ x,isW x m = false:=by
  intro x
  cases m with
  | nil => rfl
  | cons a r =>
   have e1 : (a.k == 1) = false:=h
   show (a.k == 1 && a.t == x) = false
   rw [e1];rfl
 unfold kindS
 rw [hw,hw,hw]
 rfl
theorem kind_q (m : List Tok) (h : isW quB m = true) : kindS m = .ok (0,m.tail):=by unfold kindS;rw [h];rfl
theorem isW_ne {x y : Bs} (hxy : x ≠ y) {m : List Tok} (h : isW x m = true) : isW y m = false:=by
 cases m with
 | nil => cases h
 | cons a r =>
  simp only [isW,Bool.and_eq_true,beq_iff_eq] at h
  simp only [isW,h.1,h.2,Bool.and_eq_false_iff,beq_eq_false_iff_ne]
  exact Or.inr hxy
theorem kind_m (m : List Tok) (h : isW muB m = true) : kindS m = .ok (1,m.tail):=by unfold kindS;rw [isW_ne (y:=quB) (by decide) h,h];rfl
theorem kind_s (m : List Tok) (h : isW suB m = true) : kindS m = .ok (2,m.tail):=by unfold kindS;rw [isW_ne (y:=quB) (by decide) h,isW_ne (y:=muB) (by decide) h,h];rfl
theorem kind_bad {l : List Tok} (h1 : (txT l == quB) = false) (h2 : (txT l == muB) = false) (h3 : (txT l == suB) = false) : kindS l = .error (atT l,60):=by
 have hw : ∀ x,(txT l == x) = false → isW x l = false:=by
  intro x hx
  cases l with
  | nil => rfl
  | cons a r =>
   have e2 : (a.t == x) = false:=hx
   show (a.k == 1 && a.t == x) = false
   rw [e2,Bool.and_false]
 unfold kindS
 rw [hw _ h1,hw _ h2,hw _ h3]
 rfl
theorem title_none (hs : St T N g st) (hb : ((nx T N g.I).k == 1) = false) : thnS titleS st = thnS (fun l => .ok ([],l)) st:=thn_K hs 1 hb nameS (fun l => .ok ([],l))
theorem title_some {ti : Bs} (hs : St T N g st) (hb : ((nx T N g.I).k == 1) = true) (hv : ∀ a m,thnS nameS st = .ok (a,m) → ti = a) : thnS titleS st = thnS (fun l => .ok (ti,l)) (rest (thnS nameS st)):=by
 refine (thn_K hs 1 hb nameS (fun l => .ok ([],l))).trans ?_
 show thnS nameS st = _
 cases h : thnS nameS st with
 | error p => rfl
 | ok p =>
  obtain ⟨a,m⟩:=p
  rw [hv a m h]
  rfl
theorem op_set {l : List Tok} {ss : List (List CT)} (hp : isP [123] l = true) (hs : ∀ a m,setF 32 l = .ok (a,m) → ss = a) : opS l = thnS (fun l => .ok (opC 0 [] [] [] ss,l)) (rest (setF 32 l)):=by
 unfold opS
 rw [if_pos hp]
 exact thn_go (st:=.ok l) (f:=setF 32) (G:=fun ss l1 => .ok (opC 0 [] [] [] ss,l1)) (v:=ss) hs
theorem op_st {l : List Tok} {k : Int} {ti : Bs} {vs ds ss : List (List CT)} {st1 st2 : Except (Nat × Int) (List Tok)} (hp : isP [123] l = false) (h1 : kindS l = thnS (fun l => .ok (k,l)) st1) (h2 : thnS titleS st1 = thnS (fun l => .ok (ti,l)) st2) (h3 : ∀ a m,thnS varsS st2 = .ok (a,m) → vs = a) (h4 : ∀ a m,thnS (dirsS false) (rest (thnS varsS st2)) = .ok (a,m) → ds = a)
  (h5 : ∀ a m,thnS (setF 32) (rest (thnS (dirsS false) (rest (thnS varsS st2)))) = .ok (a,m) → ss = a) : opS l = thnS (fun l => .ok (opC k ti vs ds ss,l)) (rest (thnS (setF 32) (rest (thnS (dirsS false) (rest (thnS varsS st2)))))):=by
 unfold opS
 rw [if_neg (by rw [hp];decide)]
 have e1 : ((kindS l).go fun k l1 => (titleS l1).go fun t l2 => (varsS l2).go fun vs l3 => (dirsS false l3).go fun ds l4 => (setF 32 l4).go fun ss l5 => (.ok (opC k t vs ds ss,l5) : Rs (List CT))) = _:=thn_go (st:=.ok l) (f:=kindS) (G:=fun k l1 => (titleS l1).go fun t l2 => (varsS l2).go fun vs l3 => (dirsS false l3).go fun ds l4 => (setF 32 l4).go fun ss l5 => (.ok (opC k t vs ds ss,l5) : Rs (List CT))) (v:=k) (fun a m e => by rw [show thnS kindS (.ok l) = kindS l from rfl,h1] at e;exact val_ok _ e)
 refine e1.trans ?_
 rw [show thnS kindS (.ok l) = kindS l from rfl,h1,rest_ok]
 refine (thn_go (f:=titleS) (v:=ti) (fun a m e => by rw [h2] at e;exact val_ok _ e)).trans ?_
 rw [h2,rest_ok]
 refine (thn_go (f:=varsS) (v:=vs) h3).trans ?_
 refine (thn_go (f:=dirsS false) (v:=ds) h4).trans ?_
 exact thn_go (f:=setF 32) (v:=ss) h5
theorem op_bad {l : List Tok} (hp : isP [123] l = false) (h : kindS l = .error (atT l,60)) : opS l = .error (atT l,60):=by
 unfold opS
 rw [if_neg (by rw [hp];decide),h]
 rfl
set_option maxRecDepth 100000 in
set_option maxHeartbeats 8000000 in
theorem zop_set (hT : TF T) (h : Zs R B L T N w g) {l : List Tok} (hl : Live T N g l) (hf : g.fx = false) (ha : g.a = 0) (hb : g.b = 0) (hg : g.c = 0) (hp : isP [123] l = true) : Calls Tryz.prog 24 #[.pointer (some ⟨R,0,none⟩)] w (OpZ R B L T N w g l (opS l)):=by
 have SE:=zset_all (R:=R) (B:=B) (L:=L) (N:=N) hT 32 0 (by decide)
 unfold SetZ at SE
 have hTf:=h.few
 have hI:=hl.2.1
 have hbs:=h.bs
 have hrb:=h.rb
 have hlo : g.I < 300000:=by omega
 have VA:=va_two (ou:=opO) (cs:=opX 0 [] (.slice none 0 0) (.slice none 0 0) (.slice none 0 0)) (E:=61) (st:=.ok l) h hl (ats_op _ _)
 have I0:=zis_any VA.zs [123]
 rw [← live_isP hl,hp] at I0
 go_enter Tryz.func24,Tryz.ntmps24
 go_wp2_with (first
  | (go_at_call 44;(with_reducible refine (SE _ _ _ VA1.zs VA1.sts hf ha hb hg hlo).mono ?_);rintro e w6 ⟨ss,p3,q3,z3,g5,rfl,hat5,zk5,hst5,hcs5,hbd5⟩;have VA6:=VA1.kpR zk5.kp zk5.zs hst5;obtain ⟨t0,t1,t2,t3,t4,ft⟩:=row5 VA6.var;have VAf:=VA6.oSels (at_up hat5 (Nat.succ_le_of_lt (lt_of_block VA1.var)));obtain ⟨y0,y1,y2,y3,y4,fy⟩:=row5 VAf.var;obtain ⟨m0,m1,m2,m3,m4,fm⟩:=row5 (VAf.res hbs))
  | (go_at_call 45;(with_reducible refine I0.mono ?_);rintro e w1 ⟨rfl,j1⟩;have VA1:=VA.look j1)
  | fail)
 have hst6:=VAf.sts
 have HF:=op_set hp hcs5
 obtain ⟨r1',r2',r3'⟩:=VAf.fin hbs (own5 w.heap.size (.int .i64 0) (.string ⟨#[]⟩) (.slice none 0 0) (.slice none 0 0) (.slice p3 q3 z3))
 refine bodyPost_ret (v:=.agg #[.int .i64 0,.string ⟨#[]⟩,.slice none 0 0,.slice none 0 0,.slice p3 q3 z3]) (by simp [results,Tryz.results24,go_sem,m0,m1,m2,m3,m4]) rfl ⟨opC 0 [] [] [] ss,_,g5,rfl,⟨0,_,none,0,0,none,0,0,p3,q3,z3,rfl,r3'⟩,⟨r1',zk5.fx,zk5.a,zk5.b,zk5.c,r2'⟩,by rw [HF,rest_ok];exact hst6,fun a m e => (by rw [HF] at e;exact val_ok _ e),hbd5⟩
set_option maxRecDepth 100000 in
set_option maxHeartbeats 8000000 in
theorem zop_bad (hT : TF T) (h : Zs R B L T N w g) {l : List Tok} (hl : Live T N g l) (hp : isP [123] l = false) (c1 : ((nx T N g.I).t == quB) = false) (c2 : ((nx T N g.I).t == muB) = false) (c3 : ((nx T N g.I).t == suB) = false) : Calls Tryz.prog 24 #[.pointer (some ⟨R,0,none⟩)] w (OpZ R B L T N w g l (opS l)):=by
 have htx:=live_tx hl
 have HF:=op_bad hp (kind_bad (by rw [htx];exact c1) (by rw [htx];exact c2) (by rw [htx];exact c3))
 rw [HF]
 have hTf:=h.few
 have hI:=hl.2.1
 have hbs:=h.bs
 have hrb:=h.rb
 have VA:=va_two (ou:=opO) (cs:=opX 0 [] (.slice none 0 0) (.slice none 0 0) (.slice none 0 0)) (E:=61) (st:=.ok l) h hl (ats_op _ _)
 have I0:=zis_any VA.zs [123]
 rw [← live_isP hl,hp] at I0
 have NA:=fun w5 (z5 : Zs R B L T N w5 g) => zname_any z5 [] (by omega)
 obtain ⟨n1,n2,n3,n4,n5⟩:=name_facts (T:=T) (N:=N) g []
 have hns : St T N (g.name T N []) (rest (nameS l)):=(name_st (T:=T) (N:=N) (st:=.ok l) hT hl).1
 have hd : Dead ((({ g.name T N [] with I:=g.I } : Sg)).bad T N 60) (atT l,60):=by
  cases hk : isK 1 l with
  | true =>
   have e1 : rest (nameS l) = .ok l.tail:=by unfold nameS;rw [hk];rfl
   rw [e1] at hns
   have hlv : Live T N (g.name T N []) l.tail:=hns
   have hlv2 : Live T N ({ g.name T N [] with I:=g.I } : Sg) l:=⟨hl.1,hl.2.1,hlv.2.2⟩
   exact bad_live hlv2 60 (by decide)
  | false =>
   have e1 : rest (nameS l) = .error (atT l,60):=by unfold nameS;rw [hk];rfl
   rw [e1] at hns
   have hdd : Dead (g.name T N []) (atT l,60):=hns
   have hdd2 : Dead ({ g.name T N [] with I:=g.I } : Sg) (atT l,60):=hdd.of rfl rfl
   rw [bad_dead hdd2]
   exact hdd2
 have WR:=fun w5 (z5 : Zs R B L T N w5 ({ g.name T N [] with I:=g.I } : Sg)) => zwrong_any z5 60
 have b1:=bad_I (T:=T) (N:=N) ({ g.name T N [] with I:=g.I } : Sg) 60
 obtain ⟨b2,b3,b4,b5⟩:=bad_abc (T:=T) (N:=N) ({ g.name T N [] with I:=g.I } : Sg) 60
 have ZM:=fun w5 (z5 : Zs R B L T N w5 (g.name T N [])) => z5.set 1 (.int .i64 (g.I : Int)) ({ g.name T N [] with I:=g.I } : Sg) (by simp) (by show g.I ≤ 1000000000;omega) z5.da
 have hlp : 0 < l.length:=by
  obtain ⟨r,hr⟩:=live_nx hl
  rw [hr];exact Nat.succ_pos _
 generalize (({ g.name T N [] with I:=g.I } : Sg)).bad T N 60 = g3 at *
 have hg3 : g3.I ≤ g.I:=Nat.le_of_eq b1
 have f3 : g3.fx = g.fx:=b5.trans n5
 have a3 : g3.a = g.a:=b2.trans n2
 have e3 : g3.b = g.b:=b3.trans n3
 have d3 : g3.c = g.c:=b4.trans n4
 clear b1 b2 b3 b4 b5
 have hz1:=bytes_eq (nx T N g.I).t quB
 have hz2:=bytes_eq (nx T N g.I).t muB
 have hz3:=bytes_eq (nx T N g.I).t suB
 rw [c1] at hz1
 rw [c2] at hz2
 rw [c3] at hz3
 generalize (nx T N g.I).t = tt at *
 go_enter Tryz.func24,Tryz.ntmps24
 go_wp2_with (first
  | (go_at_call 42;(with_reducible refine (WR _ z4).mono ?_);rintro e w5 ⟨rfl,z5,k5⟩;have VAf:=VA3.kpR (st':=.error (atT l,60)) ((Kp.own R 1 _).trans k5) z5 hd;obtain ⟨y0,y1,y2,y3,y4,fy⟩:=row5 VAf.var;obtain ⟨m0,m1,m2,m3,m4,fm⟩:=row5 (VAf.res hbs))
  | (go_at_call 41;(with_reducible refine (NA _ VA1.zs).mono ?_);rintro e w3 ⟨rfl,z3,k3⟩;have VA3:=VA1.kpR k3 z3 hns;obtain ⟨e0,e1,e2,e3',e4,e5,e6,e7,e8,fe⟩:=z3.cells;rw [n1] at e1;have z4:=ZM _ z3)
  | (go_at_call 45;(with_reducible refine I0.mono ?_);rintro e w1 ⟨rfl,j1⟩;have VA1:=VA.look j1)
  | fail)
 obtain ⟨r1',r2',r3'⟩:=VAf.fin hbs (own5 w.heap.size (.int .i64 0) (.string ⟨#[]⟩) (.slice none 0 0) (.slice none 0 0) (.slice none 0 0))
 refine bodyPost_ret (v:=.agg #[.int .i64 0,.string ⟨#[]⟩,.slice none 0 0,.slice none 0 0,.slice none 0 0]) (by simp [results,Tryz.results24,go_sem,m0,m1,m2,m3,m4]) rfl ⟨opC 0 [] [] [] [],_,g3,rfl,⟨0,_,none,0,0,none,0,0,none,0,0,rfl,r3'⟩,⟨r1',f3,a3,e3,d3,r2'⟩,hd,fun a m e => (by cases e),by omega⟩
set_option maxRecDepth 100000 in
set_option maxHeartbeats 8000000 in
theorem zop_query (hT : TF T) (h : Zs R B L T N w g) {l : List Tok} (hl : Live T N g l) (hf : g.fx = false) (ha : g.a = 0) (hb : g.b = 0) (hg : g.c = 0) (hp : isP [123] l = false) (c1 : ((nx T N g.I).t == quB) = true) : Calls Tryz.prog 24 #[.pointer (some ⟨R,0,none⟩)] w (OpZ R B L T N w g l (opS l)):=by
 have htx:=live_tx hl
 have HK:=kind_st (l:=l) (k:=0) (x:=quB) (by rw [htx];simpa using c1) kind_q kind_none0
 have SE:=zset_all (R:=R) (B:=B) (L:=L) (N:=N) hT 32 0 (by decide)
 unfold SetZ at SE
 have hTf:=h.few
 have hI:=hl.2.1
 have hbs:=h.bs
 have hrb:=h.rb
 have hlen:=live_len hl
 have hlp : 0 < l.length:=by
  obtain ⟨r,hr⟩:=live_nx hl
  rw [hr];exact Nat.succ_pos _
 have VA:=va_two (ou:=opO) (cs:=opX 0 [] (.slice none 0 0) (.slice none 0 0) (.slice none 0 0)) (E:=61) (st:=.ok l) h hl (ats_op _ _)
 have I0:=zis_any VA.zs [123]
 rw [← live_isP hl,hp] at I0
 have NA:=fun w5 (z5 : Zs R B L T N w5 g) => zname_any z5 [] (by omega)
 obtain ⟨n1,n2,n3,n4,n5⟩:=name_facts (T:=T) (N:=N) g []
 replace n1:=Nat.le_of_eq n1
 have hns : St T N (g.name T N []) (rest (nameS l)):=(name_st (T:=T) (N:=N) (st:=.ok l) hT hl).1
 have s1l : lenS (rest (nameS l)) + 1 ≤ l.length:=len_eats (st:=.ok l) nameS_eats hlp
 generalize rest (nameS l) = st1 at *
 generalize g.name T N [] = g1 at *
 have m1f : g1.fx = false:=n5.trans hf
 have m1a : g1.a = 0:=n2.trans ha
 have m1b : g1.b = 0:=n3.trans hb
 have m1c : g1.c = 0:=n4.trans hg
 clear n2 n3 n4 n5
 have NX:=fun w5 (z5 : Zs R B L T N w5 g1) => znext_any z5
 have F0:=fld0 (nx T N g1.I)
 have hI1 : g1.I < 1000000000:=by omega
 have NB:=fun w5 (z5 : Zs R B L T N w5 g1) => zname_any z5 [] hI1
 obtain ⟨hns2,hnm2⟩:=name_st (T:=T) (N:=N) hT hns
 replace hnm2 : ∀ a m,thnS nameS st1 = .ok (a,m) → (nx T N g1.I).t = a:=fun a m e => (hnm2 a m e).symm
 obtain ⟨o1,o2,o3,o4,o5⟩:=name_facts (T:=T) (N:=N) g1 []
 replace o1:=Nat.le_of_eq o1
 have o2':=o2.trans m1a
 have o3':=o3.trans m1b
 have o4':=o4.trans m1c
 have o5':=o5.trans m1f
 clear o2 o3 o4 o5
 have hT0:=fun hb' => title_none (st:=st1) hns hb'
 have hT1:=fun ti hb' hv => title_some (st:=st1) (ti:=ti) hns hb' hv
 have q1l:=len_keeps (st:=st1) nameS_eats.keeps
 generalize g1.name T N [] = gq at *
 generalize rest (thnS nameS st1) = stq at *
 have hz1:=bytes_eq (nx T N g.I).t quB
 have hz2:=bytes_eq (nx T N g.I).t muB
 have hz3:=bytes_eq (nx T N g.I).t suB
 rw [c1] at hz1
 generalize (nx T N g.I).t = tt at *
 generalize nx T N g1.I = t2 at *
 go_enter Tryz.func24,Tryz.ntmps24
 go_wp2_with (first
  | (go_at_call 44;(with_reducible refine (SE _ _ _ VA5.zs VA5.sts hf4 ha4 hb4 hc4 hI49).mono ?_);rintro e w6 ⟨ss,p3,q3,z3,g5,rfl,hat5,zk5,hst5,hcs5,hbd5⟩;have VA6:=VA5.kpR zk5.kp zk5.zs hst5;obtain ⟨t0',t1',t2',t3',t4',ft'⟩:=row5 VA6.var;have VAf:=VA6.oSels (at_up hat5 (Nat.succ_le_of_lt (lt_of_block VA5.var)));have hf5:=zk5.fx.trans hf4;have ha5:=zk5.a.trans ha4;have hb5:=zk5.b.trans hb4;have hc5:=zk5.c.trans hc4;have hI5 : g5.I ≤ T.length + 64 * l.length:=(by have:=bdn_or (T:=T) (g:=g4) (st:=rest (thnS (dirsS false) (rest (thnS varsS st2)))) 64 2;omega);obtain ⟨y0,y1,y2,y3,y4,fy⟩:=row5 VAf.var;obtain ⟨m0,m1,m2,m3,m4,fm⟩:=row5 (VAf.res hbs))
  | (go_at_call 43;(with_reducible refine (zdirs_all hT VA4.zs VA4.sts false hf3 hb3 hI39).mono ?_);rintro e w4 ⟨ds,p2,q2,z2,g4,rfl,hat4,zk4,hst4,hcs4,hbd4⟩;have VA5a:=VA4.kpR zk4.kp zk4.zs hst4;obtain ⟨s0,s1,s2,s3,s4,fs⟩:=row5 VA5a.var;have VA5:=VA5a.oDirs (at_up hat4 (Nat.succ_le_of_lt (lt_of_block VA4.var)));have q4l : lenS (rest (thnS (dirsS false) (rest (thnS varsS st2)))) + 1 ≤ l.length:=(by have:=len_keeps (st:=rest (thnS varsS st2)) (dirsS_keeps false);omega);have hI4 : g4.I ≤ T.length + 64 * l.length:=(by have:=bdn_or (T:=T) (g:=g3) (st:=rest (thnS varsS st2)) 16 0;omega);have hI4b : g4.I + 2 ≤ T.length + 64 * l.length:=(by have:=bdn_or (T:=T) (g:=g3) (st:=rest (thnS varsS st2)) 16 0;omega);have hI49 : g4.I < 300000:=(by omega);have hf4:=zk4.fx.trans hf3;have ha4:=zk4.a.trans ha3;have hb4:=zk4.b.trans hb3;have hc4:=zk4.c.trans hc3;clear VA5a)
  | (go_at_call 46;(with_reducible refine (zvars_all hT VA2.zs VA2.sts hf2 hb2 hc2 hI29).mono ?_);rintro e w3 ⟨vs,p1,q1,z1,g3,rfl,hat3,zk3,hst3,hcs3,hbd3⟩;have VA4a:=VA2.kpR zk3.kp zk3.zs hst3;obtain ⟨r0,r1,r2,r3,r4,fr⟩:=row5 VA4a.var;have VA4:=VA4a.oVars (at_up hat3 (Nat.succ_le_of_lt (lt_of_block VA2.var)));have q3l : lenS (rest (thnS varsS st2)) + 1 ≤ l.length:=(by have:=len_keeps (st:=st2) varsS_keeps;omega);have hI3 : g3.I + 4 ≤ T.length + 64 * l.length:=(by have:=bdn_or (T:=T) (g:=g2) (st:=st2) 64 2;omega);have hI39 : g3.I < 900000:=(by omega);have hf3:=zk3.fx.trans hf2;have ha3:=zk3.a.trans ha2;have hb3:=zk3.b.trans hb2;have hc3:=zk3.c.trans hc2;clear VA4a)
  | (go_at_call 41;(with_reducible refine (NB _ VA1n.zs).mono ?_);rintro e wn2 ⟨rfl,zn2,kn2⟩;have VA1d:=VA1n.kpR kn2 zn2 hns2;obtain ⟨x0,x1,x2,x3,x4,fx4⟩:=row5 VA1d.var;have VAw:=VA1d.oName t2.t;obtain ⟨ti,g2,st2,VA2,HT,q2l,hI2,hf2,ha2,hb2,hc2⟩ : ∃ ti g2 st2,Va R B L T N (w.heap.size + 1) (w.alloc opO) 61 (opC 0 ti [] [] []) (opX 0 ti (.slice none 0 0) (.slice none 0 0) (.slice none 0 0)) (wn2.setCell ⟨w.heap.size + 1,1,none⟩ (.string ⟨t2.t.toArray⟩)) g2 st2 ∧ Hid (thnS titleS st1 = thnS (fun l => .ok (ti,l)) st2) ∧ lenS st2 + 1 ≤ l.length ∧ g2.I ≤ T.length + 2 ∧ g2.fx = false ∧ g2.a = 0 ∧ g2.b = 0 ∧ g2.c = 0:=⟨t2.t,_,_,VAw,hT1 t2.t hq1 hnm2,(by omega),(by omega),o5',o2',o3',o4'⟩;have hI29 : g2.I < 400000:=(by omega);clear VAw VA1d)
  | (go_at_call 40;have NX1:=NX _ VA1.zs;(cases hq1 : (t2.k == 1) <;> ((with_reducible refine NX1.mono ?_);rintro e w2 ⟨rfl,j2⟩;have VA1n:=VA1.look j2;first | (have hqf : (t2.k == 1) = false:=hq1;clear hqf;obtain ⟨ti,g2,st2,VA2,HT,q2l,hI2,hf2,ha2,hb2,hc2⟩ : ∃ ti g2 st2,Va R B L T N (w.heap.size + 1) (w.alloc opO) 61 (opC 0 ti [] [] []) (opX 0 ti (.slice none 0 0) (.slice none 0 0) (.slice none 0 0)) w2 g2 st2 ∧ Hid (thnS titleS st1 = thnS (fun l => .ok (ti,l)) st2) ∧ lenS st2 + 1 ≤ l.length ∧ g2.I ≤ T.length + 2 ∧ g2.fx = false ∧ g2.a = 0 ∧ g2.b = 0 ∧ g2.c = 0:=⟨[],g1,st1,VA1n,hT0 hq1,s1l,(by omega),m1f,m1a,m1b,m1c⟩;have hI29 : g2.I < 400000:=(by omega)) | (have hqt : (t2.k == 1) = true:=hq1;clear hqt) | fail)))
  | (go_at_call 41;(with_reducible refine (NA _ VA0.zs).mono ?_);rintro e wn ⟨rfl,zn,kn⟩;have VA1a:=VA0.kpR kn zn hns;obtain ⟨u0,u1,u2,u3,u4,fu⟩:=row5 VA1a.var;have VA1:=VA1a)
  | (go_at_call 45;(with_reducible refine I0.mono ?_);rintro e w1 ⟨rfl,j1⟩;have VA0:=VA.look j1)
  | fail)
 all_goals
  have hst6:=VAf.sts
  have HF:=op_st hp HK HT.out hcs3 hcs4 hcs5
  obtain ⟨r1',r2',r3'⟩:=VAf.fin hbs (own5 w.heap.size (.int .i64 0) (.string ⟨ti.toArray⟩) (.slice p1 q1 z1) (.slice p2 q2 z2) (.slice p3 q3 z3))
  refine bodyPost_ret (v:=.agg #[.int .i64 0,.string ⟨ti.toArray⟩,.slice p1 q1 z1,.slice p2 q2 z2,.slice p3 q3 z3]) (by simp [results,Tryz.results24,go_sem,m0,m1,m2,m3,m4]) rfl ⟨opC 0 ti vs ds ss,_,g5,rfl,⟨0,_,p1,q1,z1,p2,q2,z2,p3,q3,z3,rfl,r3'⟩,⟨r1',hf5.trans hf.symm,ha5.trans ha.symm,hb5.trans hb.symm,hc5.trans hg.symm,r2'⟩,by rw [HF,rest_ok];exact hst6,fun a m e => (by rw [HF] at e;exact val_ok _ e),hI5⟩
set_option maxRecDepth 100000 in
set_option maxHeartbeats 8000000 in
theorem zop_mut (hT : TF T) (h : Zs R B L T N w g) {l : List Tok} (hl : Live T N g l) (hf : g.fx = false) (ha : g.a = 0) (hb : g.b = 0) (hg : g.c = 0) (hp : isP [123] l = false) (c1 : ((nx T N g.I).t == quB) = false) (c2 : ((nx T N g.I).t == muB) = true) : Calls Tryz.prog 24 #[.pointer (some ⟨R,0,none⟩)] w (OpZ R B L T N w g l (opS l)):=by
 have htx:=live_tx hl
 have HK:=kind_st (l:=l) (k:=1) (x:=muB) (by rw [htx];simpa using c2) kind_m kind_none0
 have SE:=zset_all (R:=R) (B:=B) (L:=L) (N:=N) hT 32 0 (by decide)
 unfold SetZ at SE
 have hTf:=h.few
 have hI:=hl.2.1
 have hbs:=h.bs
 have hrb:=h.rb
 have hlen:=live_len hl
 have hlp : 0 < l.length:=by
  obtain ⟨r,hr⟩:=live_nx hl
  rw [hr];exact Nat.succ_pos _
 have VA:=va_two (ou:=opO) (cs:=opX 0 [] (.slice none 0 0) (.slice none 0 0) (.slice none 0 0)) (E:=61) (st:=.ok l) h hl (ats_op _ _)
 have I0:=zis_any VA.zs [123]
 rw [← live_isP hl,hp] at I0
 have NA:=fun w5 (z5 : Zs R B L T N w5 g) => zname_any z5 [] (by omega)
 obtain ⟨n1,n2,n3,n4,n5⟩:=name_facts (T:=T) (N:=N) g []
 replace n1:=Nat.le_of_eq n1
 have hns : St T N (g.name T N []) (rest (nameS l)):=(name_st (T:=T) (N:=N) (st:=.ok l) hT hl).1
 have s1l : lenS (rest (nameS l)) + 1 ≤ l.length:=len_eats (st:=.ok l) nameS_eats hlp
 generalize rest (nameS l) = st1 at *
 generalize g.name T N [] = g1 at *
 have m1f : g1.fx = false:=n5.trans hf
 have m1a : g1.a = 0:=n2.trans ha
 have m1b : g1.b = 0:=n3.trans hb
 have m1c : g1.c = 0:=n4.trans hg
 clear n2 n3 n4 n5
 have NX:=fun w5 (z5 : Zs R B L T N w5 g1) => znext_any z5
 have F0:=fld0 (nx T N g1.I)
 have hI1 : g1.I < 1000000000:=by omega
 have NB:=fun w5 (z5 : Zs R B L T N w5 g1) => zname_any z5 [] hI1
 obtain ⟨hns2,hnm2⟩:=name_st (T:=T) (N:=N) hT hns
 replace hnm2 : ∀ a m,thnS nameS st1 = .ok (a,m) → (nx T N g1.I).t = a:=fun a m e => (hnm2 a m e).symm
 obtain ⟨o1,o2,o3,o4,o5⟩:=name_facts (T:=T) (N:=N) g1 []
 replace o1:=Nat.le_of_eq o1
 have o2':=o2.trans m1a
 have o3':=o3.trans m1b
 have o4':=o4.trans m1c
 have o5':=o5.trans m1f
 clear o2 o3 o4 o5
 have hT0:=fun hb' => title_none (st:=st1) hns hb'
 have hT1:=fun ti hb' hv => title_some (st:=st1) (ti:=ti) hns hb' hv
 have q1l:=len_keeps (st:=st1) nameS_eats.keeps
 generalize g1.name T N [] = gq at *
 generalize rest (thnS nameS st1) = stq at *
 have hz1:=bytes_eq (nx T N g.I).t quB
 have hz2:=bytes_eq (nx T N g.I).t muB
 have hz3:=bytes_eq (nx T N g.I).t suB
 rw [c1] at hz1
 rw [c2] at hz2
 generalize (nx T N g.I).t = tt at *
 generalize nx T N g1.I = t2 at *
 go_enter Tryz.func24,Tryz.ntmps24
 go_wp2_with (first
  | (go_at_call 44;(with_reducible refine (SE _ _ _ VA5.zs VA5.sts hf4 ha4 hb4 hc4 hI49).mono ?_);rintro e w6 ⟨ss,p3,q3,z3,g5,rfl,hat5,zk5,hst5,hcs5,hbd5⟩;have VA6:=VA5.kpR zk5.kp zk5.zs hst5;obtain ⟨t0',t1',t2',t3',t4',ft'⟩:=row5 VA6.var;have VAf:=VA6.oSels (at_up hat5 (Nat.succ_le_of_lt (lt_of_block VA5.var)));have hf5:=zk5.fx.trans hf4;have ha5:=zk5.a.trans ha4;have hb5:=zk5.b.trans hb4;have hc5:=zk5.c.trans hc4;have hI5 : g5.I ≤ T.length + 64 * l.length:=(by have:=bdn_or (T:=T) (g:=g4) (st:=rest (thnS (dirsS false) (rest (thnS varsS st2)))) 64 2;omega);obtain ⟨y0,y1,y2,y3,y4,fy⟩:=row5 VAf.var;obtain ⟨m0,m1,m2,m3,m4,fm⟩:=row5 (VAf.res hbs))
  | (go_at_call 43;(with_reducible refine (zdirs_all hT VA4.zs VA4.sts false hf3 hb3 hI39).mono ?_);rintro e w4 ⟨ds,p2,q2,z2,g4,rfl,hat4,zk4,hst4,hcs4,hbd4⟩;have VA5a:=VA4.kpR zk4.kp zk4.zs hst4;obtain ⟨s0,s1,s2,s3,s4,fs⟩:=row5 VA5a.var;have VA5:=VA5a.oDirs (at_up hat4 (Nat.succ_le_of_lt (lt_of_block VA4.var)));have q4l : lenS (rest (thnS (dirsS false) (rest (thnS varsS st2)))) + 1 ≤ l.length:=(by have:=len_keeps (st:=rest (thnS varsS st2)) (dirsS_keeps false);omega);have hI4 : g4.I ≤ T.length + 64 * l.length:=(by have:=bdn_or (T:=T) (g:=g3) (st:=rest (thnS varsS st2)) 16 0;omega);have hI4b : g4.I + 2 ≤ T.length + 64 * l.length:=(by have:=bdn_or (T:=T) (g:=g3) (st:=rest (thnS varsS st2)) 16 0;omega);have hI49 : g4.I < 300000:=(by omega);have hf4:=zk4.fx.trans hf3;have ha4:=zk4.a.trans ha3;have hb4:=zk4.b.trans hb3;have hc4:=zk4.c.trans hc3;clear VA5a)
  | (go_at_call 46;(with_reducible refine (zvars_all hT VA2.zs VA2.sts hf2 hb2 hc2 hI29).mono ?_);rintro e w3 ⟨vs,p1,q1,z1,g3,rfl,hat3,zk3,hst3,hcs3,hbd3⟩;have VA4a:=VA2.kpR zk3.kp zk3.zs hst3;obtain ⟨r0,r1,r2,r3,r4,fr⟩:=row5 VA4a.var;have VA4:=VA4a.oVars (at_up hat3 (Nat.succ_le_of_lt (lt_of_block VA2.var)));have q3l : lenS (rest (thnS varsS st2)) + 1 ≤ l.length:=(by have:=len_keeps (st:=st2) varsS_keeps;omega);have hI3 : g3.I + 4 ≤ T.length + 64 * l.length:=(by have:=bdn_or (T:=T) (g:=g2) (st:=st2) 64 2;omega);have hI39 : g3.I < 900000:=(by omega);have hf3:=zk3.fx.trans hf2;have ha3:=zk3.a.trans ha2;have hb3:=zk3.b.trans hb2;have hc3:=zk3.c.trans hc2;clear VA4a)
  | (go_at_call 41;(with_reducible refine (NB _ VA1n.zs).mono ?_);rintro e wn2 ⟨rfl,zn2,kn2⟩;have VA1d:=VA1n.kpR kn2 zn2 hns2;obtain ⟨x0,x1,x2,x3,x4,fx4⟩:=row5 VA1d.var;have VAw:=VA1d.oName t2.t;obtain ⟨ti,g2,st2,VA2,HT,q2l,hI2,hf2,ha2,hb2,hc2⟩ : ∃ ti g2 st2,Va R B L T N (w.heap.size + 1) (w.alloc opO) 61 (opC 1 ti [] [] []) (opX 1 ti (.slice none 0 0) (.slice none 0 0) (.slice none 0 0)) (wn2.setCell ⟨w.heap.size + 1,1,none⟩ (.string ⟨t2.t.toArray⟩)) g2 st2 ∧ Hid (thnS titleS st1 = thnS (fun l => .ok (ti,l)) st2) ∧ lenS st2 + 1 ≤ l.length ∧ g2.I ≤ T.length + 2 ∧ g2.fx = false ∧ g2.a = 0 ∧ g2.b = 0 ∧ g2.c = 0:=⟨t2.t,_,_,VAw,hT1 t2.t hq1 hnm2,(by omega),(by omega),o5',o2',o3',o4'⟩;have hI29 : g2.I < 400000:=(by omega);clear VAw VA1d)
  | (go_at_call 40;have NX1:=NX _ VA1.zs;(cases hq1 : (t2.k == 1) <;> ((with_reducible refine NX1.mono ?_);rintro e w2 ⟨rfl,j2⟩;have VA1n:=VA1.look j2;first | (have hqf : (t2.k == 1) = false:=hq1;clear hqf;obtain ⟨ti,g2,st2,VA2,HT,q2l,hI2,hf2,ha2,hb2,hc2⟩ : ∃ ti g2 st2,Va R B L T N (w.heap.size + 1) (w.alloc opO) 61 (opC 1 ti [] [] []) (opX 1 ti (.slice none 0 0) (.slice none 0 0) (.slice none 0 0)) w2 g2 st2 ∧ Hid (thnS titleS st1 = thnS (fun l => .ok (ti,l)) st2) ∧ lenS st2 + 1 ≤ l.length ∧ g2.I ≤ T.length + 2 ∧ g2.fx = false ∧ g2.a = 0 ∧ g2.b = 0 ∧ g2.c = 0:=⟨[],g1,st1,VA1n,hT0 hq1,s1l,(by omega),m1f,m1a,m1b,m1c⟩;have hI29 : g2.I < 400000:=(by omega)) | (have hqt : (t2.k == 1) = true:=hq1;clear hqt) | fail)))
  | (go_at_call 41;(with_reducible refine (NA _ VA0.zs).mono ?_);rintro e wn ⟨rfl,zn,kn⟩;have VA1a:=VA0.kpR kn zn hns;obtain ⟨u0,u1,u2,u3,u4,fu⟩:=row5 VA1a.var;have VA1:=VA1a.oKind 1)
  | (go_at_call 45;(with_reducible refine I0.mono ?_);rintro e w1 ⟨rfl,j1⟩;have VA0:=VA.look j1)
  | fail)
 all_goals
  have hst6:=VAf.sts
  have HF:=op_st hp HK HT.out hcs3 hcs4 hcs5
  obtain ⟨r1',r2',r3'⟩:=VAf.fin hbs (own5 w.heap.size (.int .i64 1) (.string ⟨ti.toArray⟩) (.slice p1 q1 z1) (.slice p2 q2 z2) (.slice p3 q3 z3))
  refine bodyPost_ret (v:=.agg #[.int .i64 1,.string ⟨ti.toArray⟩,.slice p1 q1 z1,.slice p2 q2 z2,.slice p3 q3 z3]) (by simp [results,Tryz.results24,go_sem,m0,m1,m2,m3,m4]) rfl ⟨opC 1 ti vs ds ss,_,g5,rfl,⟨1,_,p1,q1,z1,p2,q2,z2,p3,q3,z3,rfl,r3'⟩,⟨r1',hf5.trans hf.symm,ha5.trans ha.symm,hb5.trans hb.symm,hc5.trans hg.symm,r2'⟩,by rw [HF,rest_ok];exact hst6,fun a m e => (by rw [HF] at e;exact val_ok _ e),hI5⟩
set_option maxRecDepth 100000 in
set_option maxHeartbeats 8000000 in
theorem zop_sub (hT : TF T) (h : Zs R B L T N w g) {l : List Tok} (hl : Live T N g l) (hf : g.fx = false) (ha : g.a = 0) (hb : g.b = 0) (hg : g.c = 0) (hp : isP [123] l = false) (c1 : ((nx T N g.I).t == quB) = false) (c2 : ((nx T N g.I).t == muB) = false) (c3 : ((nx T N g.I).t == suB) = true) : Calls Tryz.prog 24 #[.pointer (some ⟨R,0,none⟩)] w (OpZ R B L T N w g l (opS l)):=by
 have htx:=live_tx hl
 have HK:=kind_st (l:=l) (k:=2) (x:=suB) (by rw [htx];simpa using c3) kind_s kind_none0
 have SE:=zset_all (R:=R) (B:=B) (L:=L) (N:=N) hT 32 0 (by decide)
 unfold SetZ at SE
 have hTf:=h.few
 have hI:=hl.2.1
 have hbs:=h.bs
 have hrb:=h.rb
 have hlen:=live_len hl
 have hlp : 0 < l.length:=by
  obtain ⟨r,hr⟩:=live_nx hl
  rw [hr];exact Nat.succ_pos _
 have VA:=va_two (ou:=opO) (cs:=opX 0 [] (.slice none 0 0) (.slice none 0 0) (.slice none 0 0)) (E:=61) (st:=.ok l) h hl (ats_op _ _)
 have I0:=zis_any VA.zs [123]
 rw [← live_isP hl,hp] at I0
 have NA:=fun w5 (z5 : Zs R B L T N w5 g) => zname_any z5 [] (by omega)
 obtain ⟨n1,n2,n3,n4,n5⟩:=name_facts (T:=T) (N:=N) g []
 replace n1:=Nat.le_of_eq n1
 have hns : St T N (g.name T N []) (rest (nameS l)):=(name_st (T:=T) (N:=N) (st:=.ok l) hT hl).1
 have s1l : lenS (rest (nameS l)) + 1 ≤ l.length:=len_eats (st:=.ok l) nameS_eats hlp
 generalize rest (nameS l) = st1 at *
 generalize g.name T N [] = g1 at *
 have m1f : g1.fx = false:=n5.trans hf
 have m1a : g1.a = 0:=n2.trans ha
 have m1b : g1.b = 0:=n3.trans hb
 have m1c : g1.c = 0:=n4.trans hg
 clear n2 n3 n4 n5
 have NX:=fun w5 (z5 : Zs R B L T N w5 g1) => znext_any z5
 have F0:=fld0 (nx T N g1.I)
 have hI1 : g1.I < 1000000000:=by omega
 have NB:=fun w5 (z5 : Zs R B L T N w5 g1) => zname_any z5 [] hI1
 obtain ⟨hns2,hnm2⟩:=name_st (T:=T) (N:=N) hT hns
 replace hnm2 : ∀ a m,thnS nameS st1 = .ok (a,m) → (nx T N g1.I).t = a:=fun a m e => (hnm2 a m e).symm
 obtain ⟨o1,o2,o3,o4,o5⟩:=name_facts (T:=T) (N:=N) g1 []
 replace o1:=Nat.le_of_eq o1
 have o2':=o2.trans m1a
 have o3':=o3.trans m1b
 have o4':=o4.trans m1c
 have o5':=o5.trans m1f
 clear o2 o3 o4 o5
 have hT0:=fun hb' => title_none (st:=st1) hns hb'
 have hT1:=fun ti hb' hv => title_some (st:=st1) (ti:=ti) hns hb' hv
 have q1l:=len_keeps (st:=st1) nameS_eats.keeps
 generalize g1.name T N [] = gq at *
 generalize rest (thnS nameS st1) = stq at *
 have hz1:=bytes_eq (nx T N g.I).t quB
 have hz2:=bytes_eq (nx T N g.I).t muB
 have hz3:=bytes_eq (nx T N g.I).t suB
 rw [c1] at hz1
 rw [c2] at hz2
 rw [c3] at hz3
 generalize (nx T N g.I).t = tt at *
 generalize nx T N g1.I = t2 at *
 go_enter Tryz.func24,Tryz.ntmps24
 go_wp2_with (first
  | (go_at_call 44;(with_reducible refine (SE _ _ _ VA5.zs VA5.sts hf4 ha4 hb4 hc4 hI49).mono ?_);rintro e w6 ⟨ss,p3,q3,z3,g5,rfl,hat5,zk5,hst5,hcs5,hbd5⟩;have VA6:=VA5.kpR zk5.kp zk5.zs hst5;obtain ⟨t0',t1',t2',t3',t4',ft'⟩:=row5 VA6.var;have VAf:=VA6.oSels (at_up hat5 (Nat.succ_le_of_lt (lt_of_block VA5.var)));have hf5:=zk5.fx.trans hf4;have ha5:=zk5.a.trans ha4;have hb5:=zk5.b.trans hb4;have hc5:=zk5.c.trans hc4;have hI5 : g5.I ≤ T.length + 64 * l.length:=(by have:=bdn_or (T:=T) (g:=g4) (st:=rest (thnS (dirsS false) (rest (thnS varsS st2)))) 64 2;omega);obtain ⟨y0,y1,y2,y3,y4,fy⟩:=row5 VAf.var;obtain ⟨m0,m1,m2,m3,m4,fm⟩:=row5 (VAf.res hbs))
  | (go_at_call 43;(with_reducible refine (zdirs_all hT VA4.zs VA4.sts false hf3 hb3 hI39).mono ?_);rintro e w4 ⟨ds,p2,q2,z2,g4,rfl,hat4,zk4,hst4,hcs4,hbd4⟩;have VA5a:=VA4.kpR zk4.kp zk4.zs hst4;obtain ⟨s0,s1,s2,s3,s4,fs⟩:=row5 VA5a.var;have VA5:=VA5a.oDirs (at_up hat4 (Nat.succ_le_of_lt (lt_of_block VA4.var)));have q4l : lenS (rest (thnS (dirsS false) (rest (thnS varsS st2)))) + 1 ≤ l.length:=(by have:=len_keeps (st:=rest (thnS varsS st2)) (dirsS_keeps false);omega);have hI4 : g4.I ≤ T.length + 64 * l.length:=(by have:=bdn_or (T:=T) (g:=g3) (st:=rest (thnS varsS st2)) 16 0;omega);have hI4b : g4.I + 2 ≤ T.length + 64 * l.length:=(by have:=bdn_or (T:=T) (g:=g3) (st:=rest (thnS varsS st2)) 16 0;omega);have hI49 : g4.I < 300000:=(by omega);have hf4:=zk4.fx.trans hf3;have ha4:=zk4.a.trans ha3;have hb4:=zk4.b.trans hb3;have hc4:=zk4.c.trans hc3;clear VA5a)
  | (go_at_call 46;(with_reducible refine (zvars_all hT VA2.zs VA2.sts hf2 hb2 hc2 hI29).mono ?_);rintro e w3 ⟨vs,p1,q1,z1,g3,rfl,hat3,zk3,hst3,hcs3,hbd3⟩;have VA4a:=VA2.kpR zk3.kp zk3.zs hst3;obtain ⟨r0,r1,r2,r3,r4,fr⟩:=row5 VA4a.var;have VA4:=VA4a.oVars (at_up hat3 (Nat.succ_le_of_lt (lt_of_block VA2.var)));have q3l : lenS (rest (thnS varsS st2)) + 1 ≤ l.length:=(by have:=len_keeps (st:=st2) varsS_keeps;omega);have hI3 : g3.I + 4 ≤ T.length + 64 * l.length:=(by have:=bdn_or (T:=T) (g:=g2) (st:=st2) 64 2;omega);have hI39 : g3.I < 900000:=(by omega);have hf3:=zk3.fx.trans hf2;have ha3:=zk3.a.trans ha2;have hb3:=zk3.b.trans hb2;have hc3:=zk3.c.trans hc2;clear VA4a)
  | (go_at_call 41;(with_reducible refine (NB _ VA1n.zs).mono ?_);rintro e wn2 ⟨rfl,zn2,kn2⟩;have VA1d:=VA1n.kpR kn2 zn2 hns2;obtain ⟨x0,x1,x2,x3,x4,fx4⟩:=row5 VA1d.var;have VAw:=VA1d.oName t2.t;obtain ⟨ti,g2,st2,VA2,HT,q2l,hI2,hf2,ha2,hb2,hc2⟩ : ∃ ti g2 st2,Va R B L T N (w.heap.size + 1) (w.alloc opO) 61 (opC 2 ti [] [] []) (opX 2 ti (.slice none 0 0) (.slice none 0 0) (.slice none 0 0)) (wn2.setCell ⟨w.heap.size + 1,1,none⟩ (.string ⟨t2.t.toArray⟩)) g2 st2 ∧ Hid (thnS titleS st1 = thnS (fun l => .ok (ti,l)) st2) ∧ lenS st2 + 1 ≤ l.length ∧ g2.I ≤ T.length + 2 ∧ g2.fx = false ∧ g2.a = 0 ∧ g2.b = 0 ∧ g2.c = 0:=⟨t2.t,_,_,VAw,hT1 t2.t hq1 hnm2,(by omega),(by omega),o5',o2',o3',o4'⟩;have hI29 : g2.I < 400000:=(by omega);clear VAw VA1d)
  | (go_at_call 40;have NX1:=NX _ VA1.zs;(cases hq1 : (t2.k == 1) <;> ((with_reducible refine NX1.mono ?_);rintro e w2 ⟨rfl,j2⟩;have VA1n:=VA1.look j2;first | (have hqf : (t2.k == 1) = false:=hq1;clear hqf;obtain ⟨ti,g2,st2,VA2,HT,q2l,hI2,hf2,ha2,hb2,hc2⟩ : ∃ ti g2 st2,Va R B L T N (w.heap.size + 1) (w.alloc opO) 61 (opC 2 ti [] [] []) (opX 2 ti (.slice none 0 0) (.slice none 0 0) (.slice none 0 0)) w2 g2 st2 ∧ Hid (thnS titleS st1 = thnS (fun l => .ok (ti,l)) st2) ∧ lenS st2 + 1 ≤ l.length ∧ g2.I ≤ T.length + 2 ∧ g2.fx = false ∧ g2.a = 0 ∧ g2.b = 0 ∧ g2.c = 0:=⟨[],g1,st1,VA1n,hT0 hq1,s1l,(by omega),m1f,m1a,m1b,m1c⟩;have hI29 : g2.I < 400000:=(by omega)) | (have hqt : (t2.k == 1) = true:=hq1;clear hqt) | fail)))
  | (go_at_call 41;(with_reducible refine (NA _ VA0.zs).mono ?_);rintro e wn ⟨rfl,zn,kn⟩;have VA1a:=VA0.kpR kn zn hns;obtain ⟨u0,u1,u2,u3,u4,fu⟩:=row5 VA1a.var;have VA1:=VA1a.oKind 2)
  | (go_at_call 45;(with_reducible refine I0.mono ?_);rintro e w1 ⟨rfl,j1⟩;have VA0:=VA.look j1)
  | fail)
 all_goals
  have hst6:=VAf.sts
  have HF:=op_st hp HK HT.out hcs3 hcs4 hcs5
  obtain ⟨r1',r2',r3'⟩:=VAf.fin hbs (own5 w.heap.size (.int .i64 2) (.string ⟨ti.toArray⟩) (.slice p1 q1 z1) (.slice p2 q2 z2) (.slice p3 q3 z3))
  refine bodyPost_ret (v:=.agg #[.int .i64 2,.string ⟨ti.toArray⟩,.slice p1 q1 z1,.slice p2 q2 z2,.slice p3 q3 z3]) (by simp [results,Tryz.results24,go_sem,m0,m1,m2,m3,m4]) rfl ⟨opC 2 ti vs ds ss,_,g5,rfl,⟨2,_,p1,q1,z1,p2,q2,z2,p3,q3,z3,rfl,r3'⟩,⟨r1',hf5.trans hf.symm,ha5.trans ha.symm,hb5.trans hb.symm,hc5.trans hg.symm,r2'⟩,by rw [HF,rest_ok];exact hst6,fun a m e => (by rw [HF] at e;exact val_ok _ e),hI5⟩
theorem zop_all (hT : TF T) (h : Zs R B L T N w g) {l : List Tok} (hl : Live T N g l) (hf : g.fx = false) (ha : g.a = 0) (hb : g.b = 0) (hg : g.c = 0) : Calls Tryz.prog 24 #[.pointer (some ⟨R,0,none⟩)] w (OpZ R B L T N w g l (opS l)):=by
 cases hp : isP [123] l with
 | true => exact zop_set hT h hl hf ha hb hg hp
 | false =>
  cases c1 : ((nx T N g.I).t == quB) with
  | true => exact zop_query hT h hl hf ha hb hg hp c1
  | false =>
   cases c2 : ((nx T N g.I).t == muB) with
   | true => exact zop_mut hT h hl hf ha hb hg hp c1 c2
   | false =>
    cases c3 : ((nx T N g.I).t == suB) with
    | true => exact zop_sub hT h hl hf ha hb hg hp c1 c2 c3
    | false => exact zop_bad hT h hl hp c1 c2 c3
end
end
section
open Go Go.RowKit Go.Shelf
theorem numS_kinds {l : Bs} {p : Int × Bs} (h : numS l = some p) : p.1 = 2 ∨ p.1 = 3:=by
 unfold numS at h
 obtain ⟨l1,_,h⟩:=Option.bind_eq_some_iff.1 h
 obtain ⟨q,hq,h⟩:=Option.bind_eq_some_iff.1 h
 obtain ⟨u,hu,h⟩:=Option.bind_eq_some_iff.1 h
 have hq1 : q.1 = 2 ∨ q.1 = 3:=by
  unfold numB at hq
  split at hq
  ·obtain ⟨z,_,hz⟩:=Option.map_eq_some_iff.1 hq
   rw [← hz];exact Or.inr rfl
  ·injection hq with hq;rw [← hq];exact Or.inl rfl
 have hu1 : u.1 = 2 ∨ u.1 = 3:=by
  unfold numC at hu
  split at hu
  ·obtain ⟨z,_,hz⟩:=Option.map_eq_some_iff.1 hu
   rw [← hz];exact Or.inr rfl
  ·injection hu with hu;rw [← hu];exact hq1
 unfold numD at h
 split at h
 ·cases h
 ·injection h with h;rw [← h];exact hu1
theorem tokS_kinds {x : UInt8} {l t r : Bs} {k : Int} (h : tokS (x :: l) = .ok k t r) : (k = 1 → t ≠ []) ∧ (k = 0 ∨ k = 1 ∨ k = 2 ∨ k = 3 ∨ k = 4):=by
 have hf:=(tokS_facts h).2
 unfold tokS at h
 split at h
 ·obtain ⟨rfl,_,rfl⟩:=wrt_ok h
  exact ⟨fun e => (by cases e),Or.inl rfl⟩
 split at h
 ·obtain ⟨rfl,_,rfl⟩:=wrt_ok h
  exact ⟨fun e => (by cases e),Or.inl rfl⟩
 split at h
 ·obtain ⟨rfl,e,rfl⟩:=wrt_ok h
  exact ⟨fun _ => by rw [e];exact ahead_ne hf,Or.inr (Or.inl rfl)⟩
 split at h
 ·cases hn : numS (x :: l) with
  | none => rw [hn] at h;cases h
  | some p =>
   rw [hn] at h
   obtain ⟨e,_⟩:=wrt_ok h
   have hk:=numS_kinds hn
   rw [e] at hk
   refine ⟨fun e => by omega,by omega⟩
 split at h
 ·cases hn : textS (x :: l) with
  | none => rw [hn] at h;cases h
  | some p =>
   rw [hn] at h
   injection h with h1
   subst h1
   exact ⟨fun e => (by cases e),by omega⟩
 ·cases h
theorem lexF_kinds (N : Nat) : ∀ (n c : Nat) (l : Bs) (ts : List Tok),lexF N n c l = .inr ts → ∀ t ∈ ts,(t.k = 1 → t.t ≠ []) ∧ (t.k = 0 ∨ t.k = 1 ∨ t.k = 2 ∨ t.k = 3 ∨ t.k = 4)
 | 0,c,l,ts,h => by
  cases h
  intro t ht;cases ht
 | n + 1,c,l,ts,h => by
  unfold lexF at h
  cases hs : skipS l with
  | inr k => rw [hs] at h;cases h
  | inl q =>
   rw [hs] at h
   cases q with
   | nil => cases h;intro t ht;cases ht
   | cons x l1 =>
    simp only at h
    by_cases h2 : c = 2048
    ·rw [if_pos h2] at h;cases h
    ·rw [if_neg h2] at h
     cases ht : tokS (x :: l1) with
     | bad e => rw [ht] at h;cases h
     | ok k t r =>
      rw [ht] at h
      simp only at h
      cases hr : lexF N n (c + 1) r with
      | inl p => rw [hr] at h;cases h
      | inr us =>
       rw [hr] at h
       injection h with h
       subst h
       intro u hu
       rcases List.mem_cons.1 hu with rfl | hu
       ·exact tokS_kinds ht
       ·exact lexF_kinds N n (c + 1) r us hr u hu
theorem tf_of {s : Bs} {ts : List Tok} (h : lexS s = .inr ts) : TF ts:=by
 have h1:=(lexS_full h).2.2
 unfold lexS at h
 split at h
 ·cases h
 ·have h2:=lexF_kinds _ _ _ _ _ h
  exact fun t ht => ⟨h1 t ht,h2 t ht⟩
abbrev frX (t u : Bs) (s1 s2 : Value) : Array Value:=#[.string ⟨t.toArray⟩,.string ⟨u.toArray⟩,s1,s2]
abbrev frO : Obj:=.cells #[.string ⟨#[]⟩,.string ⟨#[]⟩,.slice none 0 0,.slice none 0 0] 57
section
variable {R B : Nat} {L : Value} {T : List Tok} {N : Nat} {V : Nat} {W w w0 : World} {g : Sg} {E : Nat} {ys : List CT} {cs : Array Value} {ou : Obj} {st : Except (Nat × Int) (List Tok)} {t u : Bs} {ds ss : List (List CT)} {s1 s2 : Value}
theorem Va.finG (h : Va R B L T N V (w0.alloc ou) E ys cs w g st) (hB : B ≤ w0.heap.size) {w4 : World} (k : Kp (Own1 w0.heap.size) w w4) : Zs R B L T N w4 g ∧ Kp (Own1 R) w0 w4 ∧ Ats w4 (Iv w0.heap.size w4.heap.size) ys cs.toList :=
 have hV : w0.heap.size + 1 ≤ V:=by have:=h.hV;rwa [World.size_alloc] at this
 ⟨h.zs.far hB k,(((Kp.refl (Own1 R) w0).alloc ou).trans h.kp).ret k (Nat.le_refl _),(h.ats.keep fun q hq => k.block q hq.2 (fun e => by have e' : q = w0.heap.size:=e;have:=hq.1;omega)).mono fun q hq => ⟨by have:=hq.1;omega,Nat.lt_of_lt_of_le hq.2 k.size⟩⟩
theorem Va.resG {cs0 : Array Value} {E0 : Nat} (h : Va R B L T N V (w0.alloc (.cells cs0 E0)) E ys cs w g st) (hB : B ≤ w0.heap.size) : w.heap[w0.heap.size]? = some (.cells cs0 E0 (0,0)):=new_row h.kp (fun e => by have e' : w0.heap.size = R:=e;have:=h.zs.rb;omega)
theorem ats_fr (w : World) (D : Nat → Prop) (t : Bs) : Ats w D (fragC t [] [] []) (frX t [] (.slice none 0 0) (.slice none 0 0)).toList :=
 Ats.cons (.lf _) (Ats.cons (.lf _) (Ats.cons (.nil _ _) (Ats.cons (.nil _ _) Ats.nil)))
theorem Va.fOn (h : Va R B L T N V W E (fragC t u ds ss) (frX t u s1 s2) w g st) (u' : Bs) : Va R B L T N V W E (fragC t u' ds ss) (frX t u' s1 s2) (w.setCell ⟨V,1,none⟩ (.string ⟨u'.toArray⟩)) g st:=by
 have:=h.leaf 1 (.string ⟨u'.toArray⟩)
 simpa using this
theorem Va.fDirs (h : Va R B L T N V W E (fragC t u ds ss) (frX t u s1 s2) w g st) {ds' : List (List CT)} {v : Value} (hy : At w (Iv (V + 1) w.heap.size) (rowC 97 2 ds') v) : Va R B L T N V W E (fragC t u ds' ss) (frX t u v s2) (w.setCell ⟨V,2,none⟩ v) g st:=by
 have:=h.put 2 hy
 simpa using this
theorem Va.fSels (h : Va R B L T N V W E (fragC t u ds ss) (frX t u s1 s2) w g st) {ss' : List (List CT)} {v : Value} (hy : At w (Iv (V + 1) w.heap.size) (rowC 65 7 ss') v) : Va R B L T N V W E (fragC t u ds ss') (frX t u s1 v) (w.setCell ⟨V,3,none⟩ v) g st:=by
 have:=h.put 3 hy
 simpa using this
def FragZ (R B : Nat) (L : Value) (T : List Tok) (N : Nat) (w : World) (g : Sg) (l : List Tok) (r : Rs (List CT)) (e : Ending) (w' : World) : Prop :=
 ∃ cs v g',e = .returned v ∧ FragV w.heap.size cs v w' ∧ ZK R B L T N w g w' g' ∧ St T N g' (rest r) ∧ (∀ a m,r = .ok (a,m) → cs = a) ∧ g'.I ≤ T.length + 64 * l.length
theorem frag_st {l : List Tok} {nm un : Bs} {ds ss : List (List CT)} (h1 : ∀ a m,((notOn l).go fun _ l0 => nameS l0) = .ok (a,m) → nm = a) (h2 : ∀ a m,thnS nameS (rest (thnS (mustW onB) (rest ((notOn l).go fun _ l0 => nameS l0)))) = .ok (a,m) → un = a) (h3 : ∀ a m,thnS (dirsS false) (rest (thnS nameS (rest (thnS (mustW onB) (rest ((notOn l).go fun _ l0 => nameS l0)))))) = .ok (a,m) → ds = a)
  (h4 : ∀ a m,thnS (setF 32) (rest (thnS (dirsS false) (rest (thnS nameS (rest (thnS (mustW onB) (rest ((notOn l).go fun _ l0 => nameS l0)))))))) = .ok (a,m) → ss = a) : fragS l = thnS (fun l => .ok (fragC nm un ds ss,l)) (rest (thnS (setF 32) (rest (thnS (dirsS false) (rest (thnS nameS (rest (thnS (mustW onB) (rest ((notOn l).go fun _ l0 => nameS l0)))))))))):=by
 have e0 : fragS l = (((notOn l).go fun _ l0 => nameS l0)).go fun t l1 => (mustW onB l1).go fun _ l2 => (nameS l2).go fun u l3 => (dirsS false l3).go fun ds l4 => (setF 32 l4).go fun ss l5 => .ok (fragC t u ds ss,l5):=by
  unfold fragS
  cases notOn l with
  | error p => rfl
  | ok p => rfl
 have e1 : ((((notOn l).go fun _ l0 => nameS l0)).go fun t l1 => (mustW onB l1).go fun _ l2 => (nameS l2).go fun u l3 => (dirsS false l3).go fun ds l4 => (setF 32 l4).go fun ss l5 => (.ok (fragC t u ds ss,l5) : Rs (List CT))) = _:=thn_go (st:=.ok l) (f:=fun l => (notOn l).go fun _ l0 => nameS l0) (G:=fun t l1 => (mustW onB l1).go fun _ l2 => (nameS l2).go fun u l3 => (dirsS false l3).go fun ds l4 => (setF 32 l4).go fun ss l5 => (.ok (fragC t u ds ss,l5) : Rs (List CT))) (v:=nm) h1
 refine e0.trans (e1.trans ?_)
 show thnS (fun l1 => (mustW onB l1).go fun _ l2 => (nameS l2).go fun u l3 => (dirsS false l3).go fun ds l4 => (setF 32 l4).go fun ss l5 => (.ok (fragC nm u ds ss,l5) : Rs (List CT))) (rest ((notOn l).go fun _ l0 => nameS l0)) = _
 refine (thn_go (f:=mustW onB) (v:=()) (fun _ _ _ => rfl)).trans ?_
 refine (thn_go (f:=nameS) (v:=un) h2).trans ?_
 refine (thn_go (f:=dirsS false) (v:=ds) h3).trans ?_
 exact thn_go (f:=setF 32) (v:=ss) h4
theorem mustW_st (h : St T N g st) {s : Bs} {b : Bool} (hb : ((nx T N g.I).k == 1 && (nx T N g.I).t == s) = b) : St T N (bif b then g else g.bad T N 60).step (rest (thnS (mustW s) st)):=by
 cases st with
 | error p =>
  have hd : Dead g p:=h
  cases b with
  | true => exact hd.of rfl rfl
  | false =>
   show Dead (g.bad T N 60).step p
   rw [bad_dead hd]
   exact hd.of rfl rfl
 | ok l =>
  have hl : Live T N g l:=h
  show St T N _ (rest (mustW s l))
  unfold mustW
  rw [live_isW hl,hb]
  cases b with
  | true => exact live_step hl (ne_W ((live_isW hl s).trans hb)) rfl hl.2.2
  | false => exact (bad_live hl 60 (by decide)).of rfl rfl
set_option maxRecDepth 100000 in
set_option maxHeartbeats 8000000 in
theorem zfrag_yes (hT : TF T) (h : Zs R B L T N w g) {l : List Tok} (hl : Live T N g l) (hf : g.fx = false) (ha : g.a = 0) (hb : g.b = 0) (hg : g.c = 0) (hq : ((nx T N (g.name T N onB).I).k == 1 && (nx T N (g.name T N onB).I).t == onB) = true) : Calls Tryz.prog 23 #[.pointer (some ⟨R,0,none⟩)] w (FragZ R B L T N w g l (fragS l)):=by
 have SE:=zset_all (R:=R) (B:=B) (L:=L) (N:=N) hT 32 0 (by decide)
 unfold SetZ at SE
 have hTf:=h.few
 have hI:=hl.2.1
 have hbs:=h.bs
 have hrb:=h.rb
 have hlen:=live_len hl
 have hlp : 0 < l.length:=by
  obtain ⟨r,hr⟩:=live_nx hl
  rw [hr];exact Nat.succ_pos _
 have k0 : Kp Non w (w.alloc frO):=(Kp.refl Non w).alloc _
 have NA:=zname_any (h.kp k0) onB (by omega)
 obtain ⟨n1,n2,n3,n4,n5⟩:=name_facts (T:=T) (N:=N) g onB
 replace n1:=Nat.le_of_eq n1
 obtain ⟨hns,hnm⟩:=nameOn_st (T:=T) (N:=N) (st:=.ok l) hl
 change St T N _ (rest ((notOn l).go fun _ l0 => nameS l0)) at hns
 have hnm' : ∀ a m,((notOn l).go fun _ l0 => nameS l0) = .ok (a,m) → (nx T N g.I).t = a:=fun a m e => (hnm a m e).symm
 have hFS:=fun un ds ss => frag_st (l:=l) (un:=un) (ds:=ds) (ss:=ss) hnm'
 have s1l : lenS (rest ((notOn l).go fun _ l0 => nameS l0)) + 1 ≤ l.length:=by
  unfold notOn
  split
  ·exact hlp
  ·exact len_eats (st:=.ok l) nameS_eats hlp
 clear hnm hnm'
 generalize rest ((notOn l).go fun _ l0 => nameS l0) = st1 at *
 generalize (nx T N g.I).t = nm at *
 generalize g.name T N onB = g1 at *
 have m1f : g1.fx = false:=n5.trans hf
 have m1a : g1.a = 0:=n2.trans ha
 have m1b : g1.b = 0:=n3.trans hb
 have m1c : g1.c = 0:=n4.trans hg
 clear n2 n3 n4 n5
 have WD:=fun w5 (z5 : Zs R B L T N w5 g1) => zword_any z5 onB
 rw [hq] at WD
 have WR:=fun w5 (z5 : Zs R B L T N w5 g1) => zwrong_any z5 60
 have mst:=mustW_st hns hq
 have b1:=Nat.le_of_eq (bad_I (T:=T) (N:=N) g1 60)
 obtain ⟨b2,b3,b4,b5⟩:=bad_abc (T:=T) (N:=N) g1 60
 have hbd:=hns
 have s2l:=len_keeps (st:=st1) (mustW_eats onB).keeps
 generalize rest (thnS (mustW onB) st1) = st2 at *
 change St T N g1.step st2 at mst
 have c1 : g1.I ≤ g1.I:=Nat.le_refl _
 have c2:=m1a
 have c3:=m1b
 have c4:=m1c
 have c5:=m1f
 clear b1 b2 b3 b4 b5 WR
 have hI2 : g1.I < 1000000000:=by omega
 have NB:=fun w5 (z5 : Zs R B L T N w5 g1.step) => zname_any z5 [] (by show g1.I + 1 < 1000000000;omega)
 obtain ⟨hns2,hnm2⟩:=name_st (T:=T) (N:=N) hT mst
 replace hnm2 : ∀ a m,thnS nameS st2 = .ok (a,m) → (nx T N g1.step.I).t = a:=fun a m e => (hnm2 a m e).symm
 obtain ⟨o1,o2,o3,o4,o5⟩:=name_facts (T:=T) (N:=N) g1.step []
 replace o1 : (g1.step.name T N []).I ≤ g1.I + 1 + 1:=Nat.le_of_eq o1
 change _ = g1.a at o2
 change _ = g1.b at o3
 change _ = g1.c at o4
 change _ = g1.fx at o5
 have hf2:=o5.trans c5
 have ha2:=o2.trans c2
 have hb2:=o3.trans c3
 have hc2:=o4.trans c4
 clear o2 o3 o4 o5 c2 c3 c4 c5
 have s3l:=len_keeps (st:=st2) nameS_eats.keeps
 have hFT:=fun un ds ss hu => hFS un ds ss hu
 generalize (nx T N g1.step.I).t = un at *
 generalize g1.step.name T N [] = g2 at *
 have hFU:=fun ds ss => hFT un ds ss hnm2
 clear hFS hFT
 generalize rest (thnS nameS st2) = st3 at *
 have hI29 : g2.I < 900000:=by omega
 have s4l:=len_keeps (st:=st3) (dirsS_keeps false)
 go_enter Tryz.func23,Tryz.ntmps23
 go_wp2_with (first
  | (go_at_call 44;(with_reducible refine (SE _ _ _ VA4.zs VA4.sts hf4 ha4 hb4 hc4 hI49).mono ?_);rintro e w6 ⟨ss,p3,q3,z3,g5,rfl,hat5,zk5,hst5,hcs5,hbd5⟩;have VA6:=VA4.kpR zk5.kp zk5.zs hst5;obtain ⟨t0',t1',t2',t3',ft'⟩:=row4 VA6.var;have VAf:=VA6.fSels (at_up hat5 (Nat.succ_le_of_lt (lt_of_block VA4.var)));have hf5:=zk5.fx.trans hf4;have ha5:=zk5.a.trans ha4;have hb5:=zk5.b.trans hb4;have hc5:=zk5.c.trans hc4;have hI5 : g5.I ≤ T.length + 64 * l.length:=(by have:=bdn_or (T:=T) (g:=g4) (st:=rest (thnS (dirsS false) st3)) 64 2;omega);obtain ⟨y0,y1,y2,y3,fy⟩:=row4 VAf.var;obtain ⟨m0,m1,m2,m3,fm⟩:=row4 (VAf.resG hbs))
  | (go_at_call 43;(with_reducible refine (zdirs_all hT VA3.zs VA3.sts false hf2 hb2 hI29).mono ?_);rintro e w4 ⟨ds,p2,q2,z2,g4,rfl,hat4,zk4,hst4,hcs4,hbd4⟩;have VA4a:=VA3.kpR zk4.kp zk4.zs hst4;obtain ⟨s0,s1',s2',s3',fs⟩:=row4 VA4a.var;have VA4:=VA4a.fDirs (at_up hat4 (Nat.succ_le_of_lt (lt_of_block VA3.var)));have hI4 : g4.I ≤ T.length + 16 * l.length + 3:=(by have:=bdn_or (T:=T) (g:=g2) (st:=st3) 16 0;omega);have hI49 : g4.I < 300000:=(by omega);have hf4:=zk4.fx.trans hf2;have ha4:=zk4.a.trans ha2;have hb4:=zk4.b.trans hb2;have hc4:=zk4.c.trans hc2;clear VA4a)
  | (go_at_call 41;(with_reducible refine (NB _ VA2.zs).mono ?_);rintro e wn2 ⟨rfl,zn2,kn2⟩;have VA3a:=VA2.kpR kn2 zn2 hns2;obtain ⟨x0,x1,x2,x3,fx4⟩:=row4 VA3a.var;have VA3:=VA3a.fOn un)
  | (go_at_call 22;(with_reducible refine (WD _ VA0.zs).mono ?_);rintro e w2 ⟨rfl,j2⟩;have VA1:=VA0.look j2;obtain ⟨e0,e1,e2,e3,e4,e5,e6,e7,e8,fe⟩:=VA1.zs.cells;have VA2:=VA1.stepI hI2 mst)
  | (go_at_call 41;(with_reducible refine NA.mono ?_);rintro e wn ⟨rfl,zn,kn⟩;have VA0:=va_new (W:=w.alloc frO) (E:=57) (ys:=fragC nm [] [] []) (cs:=frX nm [] (.slice none 0 0) (.slice none 0 0)) zn hns kn (ats_fr _ _ nm))
  | fail)
 have hst6:=VAf.sts
 have HF:=hFU ds ss hcs4 hcs5
 obtain ⟨r1',r2',r3'⟩:=VAf.finG hbs (own4 w.heap.size (.string ⟨nm.toArray⟩) (.string ⟨un.toArray⟩) (.slice p2 q2 z2) (.slice p3 q3 z3))
 refine bodyPost_ret (v:=.agg #[.string ⟨nm.toArray⟩,.string ⟨un.toArray⟩,.slice p2 q2 z2,.slice p3 q3 z3]) (by simp [results,Tryz.results23,go_sem,m0,m1,m2,m3]) rfl ⟨fragC nm un ds ss,_,g5,rfl,⟨_,_,p2,q2,z2,p3,q3,z3,rfl,r3'⟩,⟨r1',hf5.trans hf.symm,ha5.trans ha.symm,hb5.trans hb.symm,hc5.trans hg.symm,r2'⟩,by rw [HF,rest_ok];exact hst6,fun a m e => (by rw [HF] at e;exact val_ok _ e),hI5⟩
set_option maxRecDepth 100000 in
set_option maxHeartbeats 8000000 in
theorem zfrag_no (hT : TF T) (h : Zs R B L T N w g) {l : List Tok} (hl : Live T N g l) (hf : g.fx = false) (ha : g.a = 0) (hb : g.b = 0) (hg : g.c = 0) (hq : ((nx T N (g.name T N onB).I).k == 1 && (nx T N (g.name T N onB).I).t == onB) = false) : Calls Tryz.prog 23 #[.pointer (some ⟨R,0,none⟩)] w (FragZ R B L T N w g l (fragS l)):=by
 have SE:=zset_all (R:=R) (B:=B) (L:=L) (N:=N) hT 32 0 (by decide)
 unfold SetZ at SE
 have hTf:=h.few
 have hI:=hl.2.1
 have hbs:=h.bs
 have hrb:=h.rb
 have hlen:=live_len hl
 have hlp : 0 < l.length:=by
  obtain ⟨r,hr⟩:=live_nx hl
  rw [hr];exact Nat.succ_pos _
 have k0 : Kp Non w (w.alloc frO):=(Kp.refl Non w).alloc _
 have NA:=zname_any (h.kp k0) onB (by omega)
 obtain ⟨n1,n2,n3,n4,n5⟩:=name_facts (T:=T) (N:=N) g onB
 replace n1:=Nat.le_of_eq n1
 obtain ⟨hns,hnm⟩:=nameOn_st (T:=T) (N:=N) (st:=.ok l) hl
 change St T N _ (rest ((notOn l).go fun _ l0 => nameS l0)) at hns
 have hnm' : ∀ a m,((notOn l).go fun _ l0 => nameS l0) = .ok (a,m) → (nx T N g.I).t = a:=fun a m e => (hnm a m e).symm
 have hFS:=fun un ds ss => frag_st (l:=l) (un:=un) (ds:=ds) (ss:=ss) hnm'
 have s1l : lenS (rest ((notOn l).go fun _ l0 => nameS l0)) + 1 ≤ l.length:=by
  unfold notOn
  split
  ·exact hlp
  ·exact len_eats (st:=.ok l) nameS_eats hlp
 clear hnm hnm'
 generalize rest ((notOn l).go fun _ l0 => nameS l0) = st1 at *
 generalize (nx T N g.I).t = nm at *
 generalize g.name T N onB = g1 at *
 have m1f : g1.fx = false:=n5.trans hf
 have m1a : g1.a = 0:=n2.trans ha
 have m1b : g1.b = 0:=n3.trans hb
 have m1c : g1.c = 0:=n4.trans hg
 clear n2 n3 n4 n5
 have WD:=fun w5 (z5 : Zs R B L T N w5 g1) => zword_any z5 onB
 rw [hq] at WD
 have WR:=fun w5 (z5 : Zs R B L T N w5 g1) => zwrong_any z5 60
 have mst:=mustW_st hns hq
 have b1:=Nat.le_of_eq (bad_I (T:=T) (N:=N) g1 60)
 obtain ⟨b2,b3,b4,b5⟩:=bad_abc (T:=T) (N:=N) g1 60
 have hbd:=hns
 have s2l:=len_keeps (st:=st1) (mustW_eats onB).keeps
 generalize rest (thnS (mustW onB) st1) = st2 at *
 change St T N (g1.bad T N 60).step st2 at mst
 have c2:=b2.trans m1a
 have c3:=b3.trans m1b
 have c4:=b4.trans m1c
 have c5:=b5.trans m1f
 clear b2 b3 b4 b5
 have hbs1 : ∀ {V : Nat} {W w5 : World} {E : Nat} {ys : List CT} {cs : Array Value} {w6 : World},Va R B L T N V W E ys cs w5 g1 st1 → Kp (Own1 R) w5 w6 → Zs R B L T N w6 (g1.bad T N 60) → Va R B L T N V W E ys cs (w6.setCell ⟨R,1,none⟩ (.int .i64 (((g1.bad T N 60).I : Int) + 1))) (g1.bad T N 60).step st2:=fun v k z => v.kpR (k.set R 1 _ (Or.inr rfl)) (z.step (by omega)) mst
 generalize g1.bad T N 60 = g1b at *
 have hI2 : g1b.I < 1000000000:=by omega
 have NB:=fun w5 (z5 : Zs R B L T N w5 g1b.step) => zname_any z5 [] (by show g1b.I + 1 < 1000000000;omega)
 obtain ⟨hns2,hnm2⟩:=name_st (T:=T) (N:=N) hT mst
 replace hnm2 : ∀ a m,thnS nameS st2 = .ok (a,m) → (nx T N g1b.step.I).t = a:=fun a m e => (hnm2 a m e).symm
 obtain ⟨o1,o2,o3,o4,o5⟩:=name_facts (T:=T) (N:=N) g1b.step []
 replace o1 : (g1b.step.name T N []).I ≤ g1b.I + 1 + 1:=Nat.le_of_eq o1
 change _ = g1b.a at o2
 change _ = g1b.b at o3
 change _ = g1b.c at o4
 change _ = g1b.fx at o5
 have hf2:=o5.trans c5
 have ha2:=o2.trans c2
 have hb2:=o3.trans c3
 have hc2:=o4.trans c4
 clear o2 o3 o4 o5 c2 c3 c4 c5
 have s3l:=len_keeps (st:=st2) nameS_eats.keeps
 have hFT:=fun un ds ss hu => hFS un ds ss hu
 generalize (nx T N g1b.step.I).t = un at *
 generalize g1b.step.name T N [] = g2 at *
 have hFU:=fun ds ss => hFT un ds ss hnm2
 clear hFS hFT
 generalize rest (thnS nameS st2) = st3 at *
 have hI29 : g2.I < 900000:=by omega
 have s4l:=len_keeps (st:=st3) (dirsS_keeps false)
 go_enter Tryz.func23,Tryz.ntmps23
 go_wp2_with (first
  | (go_at_call 44;(with_reducible refine (SE _ _ _ VA4.zs VA4.sts hf4 ha4 hb4 hc4 hI49).mono ?_);rintro e w6 ⟨ss,p3,q3,z3,g5,rfl,hat5,zk5,hst5,hcs5,hbd5⟩;have VA6:=VA4.kpR zk5.kp zk5.zs hst5;obtain ⟨t0',t1',t2',t3',ft'⟩:=row4 VA6.var;have VAf:=VA6.fSels (at_up hat5 (Nat.succ_le_of_lt (lt_of_block VA4.var)));have hf5:=zk5.fx.trans hf4;have ha5:=zk5.a.trans ha4;have hb5:=zk5.b.trans hb4;have hc5:=zk5.c.trans hc4;have hI5 : g5.I ≤ T.length + 64 * l.length:=(by have:=bdn_or (T:=T) (g:=g4) (st:=rest (thnS (dirsS false) st3)) 64 2;omega);obtain ⟨y0,y1,y2,y3,fy⟩:=row4 VAf.var;obtain ⟨m0,m1,m2,m3,fm⟩:=row4 (VAf.resG hbs))
  | (go_at_call 43;(with_reducible refine (zdirs_all hT VA3.zs VA3.sts false hf2 hb2 hI29).mono ?_);rintro e w4 ⟨ds,p2,q2,z2,g4,rfl,hat4,zk4,hst4,hcs4,hbd4⟩;have VA4a:=VA3.kpR zk4.kp zk4.zs hst4;obtain ⟨s0,s1',s2',s3',fs⟩:=row4 VA4a.var;have VA4:=VA4a.fDirs (at_up hat4 (Nat.succ_le_of_lt (lt_of_block VA3.var)));have hI4 : g4.I ≤ T.length + 16 * l.length + 3:=(by have:=bdn_or (T:=T) (g:=g2) (st:=st3) 16 0;omega);have hI49 : g4.I < 300000:=(by omega);have hf4:=zk4.fx.trans hf2;have ha4:=zk4.a.trans ha2;have hb4:=zk4.b.trans hb2;have hc4:=zk4.c.trans hc2;clear VA4a)
  | (go_at_call 41;(with_reducible refine (NB _ VA2.zs).mono ?_);rintro e wn2 ⟨rfl,zn2,kn2⟩;have VA3a:=VA2.kpR kn2 zn2 hns2;obtain ⟨x0,x1,x2,x3,fx4⟩:=row4 VA3a.var;have VA3:=VA3a.fOn un)
  | (go_at_call 42;(with_reducible refine (WR _ VA1.zs).mono ?_);rintro e w5 ⟨rfl,z5,k5⟩;obtain ⟨e0,e1,e2,e3,e4,e5,e6,e7,e8,fe⟩:=z5.cells;have VA2:=hbs1 VA1 k5 z5)
  | (go_at_call 22;(with_reducible refine (WD _ VA0.zs).mono ?_);rintro e w2 ⟨rfl,j2⟩;have VA1:=VA0.look j2)
  | (go_at_call 41;(with_reducible refine NA.mono ?_);rintro e wn ⟨rfl,zn,kn⟩;have VA0:=va_new (W:=w.alloc frO) (E:=57) (ys:=fragC nm [] [] []) (cs:=frX nm [] (.slice none 0 0) (.slice none 0 0)) zn hns kn (ats_fr _ _ nm))
  | fail)
 have hst6:=VAf.sts
 have HF:=hFU ds ss hcs4 hcs5
 obtain ⟨r1',r2',r3'⟩:=VAf.finG hbs (own4 w.heap.size (.string ⟨nm.toArray⟩) (.string ⟨un.toArray⟩) (.slice p2 q2 z2) (.slice p3 q3 z3))
 refine bodyPost_ret (v:=.agg #[.string ⟨nm.toArray⟩,.string ⟨un.toArray⟩,.slice p2 q2 z2,.slice p3 q3 z3]) (by simp [results,Tryz.results23,go_sem,m0,m1,m2,m3]) rfl ⟨fragC nm un ds ss,_,g5,rfl,⟨_,_,p2,q2,z2,p3,q3,z3,rfl,r3'⟩,⟨r1',hf5.trans hf.symm,ha5.trans ha.symm,hb5.trans hb.symm,hc5.trans hg.symm,r2'⟩,by rw [HF,rest_ok];exact hst6,fun a m e => (by rw [HF] at e;exact val_ok _ e),hI5⟩
theorem zfrag_all (hT : TF T) (h : Zs R B L T N w g) {l : List Tok} (hl : Live T N g l) (hf : g.fx = false) (ha : g.a = 0) (hb : g.b = 0) (hg : g.c = 0) : Calls Tryz.prog 23 #[.pointer (some ⟨R,0,none⟩)] w (FragZ R B L T N w g l (fragS l)):=by
 cases hq : ((nx T N (g.name T N onB).I).k == 1 && (nx T N (g.name T N onB).I).t == onB) with
 | true => exact zfrag_yes hT h hl hf ha hb hg hq
 | false => exact zfrag_no hT h hl hf ha hb hg hq
end
end
end Go.Proofs.YtgppemlciohjcaaGreatDoor
