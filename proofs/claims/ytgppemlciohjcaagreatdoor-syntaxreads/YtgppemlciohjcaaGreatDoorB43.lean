/- The document's reader of trees: a selection. -/
import Derived.Test.YtgppemlciohjcaaGreatDoorB42
import Derived.Test.YtgppemlciohjcaaGreatDoorB11
namespace Go.Proofs.YtgppemlciohjcaaGreatDoor
section
open Go Go.RowKit Go.Shelf
abbrev selX (k : Int) (a n o : Bs) (s1 s2 s3 : Value) : Array Value:=#[.int .i64 k,.string ⟨a.toArray⟩,.string ⟨n.toArray⟩,.string ⟨o.toArray⟩,s1,s2,s3]
abbrev selO : Obj:=.cells #[.int .i64 0,.string ⟨#[]⟩,.string ⟨#[]⟩,.string ⟨#[]⟩,.slice none 0 0,.slice none 0 0,.slice none 0 0] 65
section
variable {R B : Nat} {L : Value} {T : List Tok} {N : Nat} {V : Nat} {W w w0 : World} {g : Sg} {E : Nat} {ys : List CT} {cs : Array Value} {ou : Obj} {st : Except (Nat × Int) (List Tok)} {k : Int} {a n o : Bs} {as_ ds ss : List (List CT)} {s1 s2 s3 : Value}
theorem Va.fin (h : Va R B L T N (w0.heap.size + 1) (w0.alloc ou) E ys cs w g st) (hB : B ≤ w0.heap.size) {w4 : World} (k : Kp (Own1 w0.heap.size) w w4) : Zs R B L T N w4 g ∧ Kp (Own1 R) w0 w4 ∧ Ats w4 (Iv w0.heap.size w4.heap.size) ys cs.toList :=
 ⟨h.zs.far hB k,(((Kp.refl (Own1 R) w0).alloc ou).trans h.kp).ret k (Nat.le_refl _),(h.ats.keep fun q hq => k.block q hq.2 (fun e => by have e' : q = w0.heap.size:=e;have:=hq.1;omega)).mono fun q hq => ⟨by have:=hq.1;omega,Nat.lt_of_lt_of_le hq.2 k.size⟩⟩
theorem Va.res {cs0 : Array Value} {E0 : Nat} (h : Va R B L T N (w0.heap.size + 1) (w0.alloc (.cells cs0 E0)) E ys cs w g st) (hB : B ≤ w0.heap.size) : w.heap[w0.heap.size]? = some (.cells cs0 E0 (0,0)):=new_row h.kp (fun e => by have e' : w0.heap.size = R:=e;have:=h.zs.rb;omega)
theorem va_two (h : Zs R B L T N w g) (hs : St T N g st) (ha : Ats ((w.alloc ou).alloc (.cells cs E)) (Iv (w.heap.size + 1 + 1) ((w.alloc ou).alloc (.cells cs E)).heap.size) ys cs.toList) : Va R B L T N (w.heap.size + 1) (w.alloc ou) E ys cs ((w.alloc ou).alloc (.cells cs E)) g st where
 zs:=h.kp (((Kp.refl Non w).alloc _).alloc _)
 sts:=hs
 var:=two_new w _ _
 ats:=ha
 kp:=(Kp.refl (Own1 R) _).alloc _
 bs:=Nat.le_succ_of_le h.bs
 hV:=by simp
theorem ats_sel (w : World) (D : Nat → Prop) : Ats w D (selC 0 [] [] [] [] [] []) (selX 0 [] [] [] (.slice none 0 0) (.slice none 0 0) (.slice none 0 0)).toList :=
 Ats.cons (.lf _) (Ats.cons (.lf _) (Ats.cons (.lf _) (Ats.cons (.lf _) (Ats.cons (.nil _ _) (Ats.cons (.nil _ _) (Ats.cons (.nil _ _) Ats.nil))))))
theorem Va.sKind (h : Va R B L T N V W E (selC k a n o as_ ds ss) (selX k a n o s1 s2 s3) w g st) (k' : Int) : Va R B L T N V W E (selC k' a n o as_ ds ss) (selX k' a n o s1 s2 s3) (w.setCell ⟨V,0,none⟩ (.int .i64 k')) g st:=by
 have:=h.leaf 0 (.int .i64 k')
 simpa using this
theorem Va.sAlias (h : Va R B L T N V W E (selC k a n o as_ ds ss) (selX k a n o s1 s2 s3) w g st) (a' : Bs) : Va R B L T N V W E (selC k a' n o as_ ds ss) (selX k a' n o s1 s2 s3) (w.setCell ⟨V,1,none⟩ (.string ⟨a'.toArray⟩)) g st:=by
 have:=h.leaf 1 (.string ⟨a'.toArray⟩)
 simpa using this
theorem Va.sName (h : Va R B L T N V W E (selC k a n o as_ ds ss) (selX k a n o s1 s2 s3) w g st) (n' : Bs) : Va R B L T N V W E (selC k a n' o as_ ds ss) (selX k a n' o s1 s2 s3) (w.setCell ⟨V,2,none⟩ (.string ⟨n'.toArray⟩)) g st:=by
 have:=h.leaf 2 (.string ⟨n'.toArray⟩)
 simpa using this
theorem Va.sOn (h : Va R B L T N V W E (selC k a n o as_ ds ss) (selX k a n o s1 s2 s3) w g st) (o' : Bs) : Va R B L T N V W E (selC k a n o' as_ ds ss) (selX k a n o' s1 s2 s3) (w.setCell ⟨V,3,none⟩ (.string ⟨o'.toArray⟩)) g st:=by
 have:=h.leaf 3 (.string ⟨o'.toArray⟩)
 simpa using this
theorem Va.sArgs (h : Va R B L T N V W E (selC k a n o as_ ds ss) (selX k a n o s1 s2 s3) w g st) {as' : List (List CT)} {v : Value} (hy : At w (Iv (V + 1) w.heap.size) (rowC 121 5 as') v) : Va R B L T N V W E (selC k a n o as' ds ss) (selX k a n o v s2 s3) (w.setCell ⟨V,4,none⟩ v) g st:=by
 have:=h.put 4 hy
 simpa using this
theorem Va.sDirs (h : Va R B L T N V W E (selC k a n o as_ ds ss) (selX k a n o s1 s2 s3) w g st) {ds' : List (List CT)} {v : Value} (hy : At w (Iv (V + 1) w.heap.size) (rowC 97 2 ds') v) : Va R B L T N V W E (selC k a n o as_ ds' ss) (selX k a n o s1 v s3) (w.setCell ⟨V,5,none⟩ v) g st:=by
 have:=h.put 5 hy
 simpa using this
theorem Va.sSels (h : Va R B L T N V W E (selC k a n o as_ ds ss) (selX k a n o s1 s2 s3) w g st) {ss' : List (List CT)} {v : Value} (hy : At w (Iv (V + 1) w.heap.size) (rowC 65 7 ss') v) : Va R B L T N V W E (selC k a n o as_ ds ss') (selX k a n o s1 s2 v) (w.setCell ⟨V,6,none⟩ v) g st:=by
 have:=h.put 6 hy
 simpa using this
def SelZ (R B : Nat) (L : Value) (T : List Tok) (N : Nat) (w : World) (g : Sg) (l : List Tok) (r : Rs (List CT)) (e : Ending) (w' : World) : Prop :=
 ∃ cs v g',e = .returned v ∧ SelV w.heap.size cs v w' ∧ ZK R B L T N w g w' g' ∧ St T N g' (rest r) ∧ (∀ a m,r = .ok (a,m) → cs = a) ∧ g'.I ≤ T.length + 64 * l.length
def SetZ (R B : Nat) (L : Value) (T : List Tok) (N : Nat) (d : Int) (f : List Tok → Rs (List (List CT))) : Prop:=∀ (w : World) (g : Sg) (st : Except (Nat × Int) (List Tok)),Zs R B L T N w g → St T N g st → g.fx = false → g.a = d → g.b = 0 → g.c = 0 → g.I < 300000 → Calls Tryz.prog 44 #[.pointer (some ⟨R,0,none⟩)] w (RowY R B L T N 65 7 64 2 w g st (thnS f st))
theorem nick_none {l : List Tok} {nm : Bs} {g1 : Sg} (hs : St T N g1 (rest (nameS l))) (hn : ∀ a m,nameS l = .ok (a,m) → nm = a) (hb : ((nx T N g1.I).k == 0 && (nx T N g1.I).t == [58]) = false) : nickS l = thnS (fun l => .ok (([],nm),l)) (rest (nameS l)):=by
 have e1 : nickS l = thnS (fun l1 => if isP [58] l1 then (nameS l1.tail).go fun u l2 => .ok ((nm,u),l2) else .ok (([],nm),l1)) (rest (nameS l)):=thn_go (st:=.ok l) (f:=nameS) (v:=nm) hn
 exact e1.trans (thn_P hs [58] hb (fun l1 => (nameS l1.tail).go fun u l2 => (.ok ((nm,u),l2) : Rs (Bs × Bs))) (fun l1 => .ok (([],nm),l1)))
theorem nick_some {l : List Tok} {nm un : Bs} {g1 : Sg} (hs : St T N g1 (rest (nameS l))) (hn : ∀ a m,nameS l = .ok (a,m) → nm = a) (hb : ((nx T N g1.I).k == 0 && (nx T N g1.I).t == [58]) = true) (hu : ∀ a m,thnS nameS (tailS (rest (nameS l))) = .ok (a,m) → un = a) : nickS l = thnS (fun l => .ok ((nm,un),l)) (rest (thnS nameS (tailS (rest (nameS l))))):=by
 have e1 : nickS l = thnS (fun l1 => if isP [58] l1 then (nameS l1.tail).go fun u l2 => .ok ((nm,u),l2) else .ok (([],nm),l1)) (rest (nameS l)):=thn_go (st:=.ok l) (f:=nameS) (v:=nm) hn
 refine e1.trans ((thn_P hs [58] hb (fun l1 => (nameS l1.tail).go fun u l2 => (.ok ((nm,u),l2) : Rs (Bs × Bs))) (fun l1 => .ok (([],nm),l1))).trans ?_)
 exact (thn_tail (fun l1 => (nameS l1).go fun u l2 => (.ok ((nm,u),l2) : Rs (Bs × Bs)))).trans (thn_go hu)
theorem with_none {f : List Tok → Rs (List (List CT))} (hs : St T N g st) (hb : ((nx T N g.I).k == 0 && (nx T N g.I).t == [123]) = false) : thnS (withS f) st = thnS (fun l => .ok ([],l)) st:=thn_P hs [123] hb f (fun l => .ok ([],l))
theorem with_some {f : List Tok → Rs (List (List CT))} {ss : List (List CT)} (hs : St T N g st) (hb : ((nx T N g.I).k == 0 && (nx T N g.I).t == [123]) = true) (hv : ∀ a m,thnS f st = .ok (a,m) → ss = a) : thnS (withS f) st = thnS (fun l => .ok (ss,l)) (rest (thnS f st)):=by
 refine (thn_P hs [123] hb f (fun l => .ok ([],l))).trans ?_
 show thnS f st = _
 cases h : thnS f st with
 | error p => rfl
 | ok p =>
  obtain ⟨a,m⟩:=p
  rw [hv a m h]
  rfl
theorem field_st {f : List Tok → Rs (List (List CT))} {l : List Tok} {al nm : Bs} {as_ ds ss : List (List CT)} {st2 st5 : Except (Nat × Int) (List Tok)} (h1 : nickS l = thnS (fun l => .ok ((al,nm),l)) st2) (h2 : ∀ a m,thnS (argsS false) st2 = .ok (a,m) → as_ = a) (h3 : ∀ a m,thnS (dirsS false) (rest (thnS (argsS false) st2)) = .ok (a,m) → ds = a)
  (h4 : thnS (withS f) (rest (thnS (dirsS false) (rest (thnS (argsS false) st2)))) = thnS (fun l => .ok (ss,l)) st5) : fieldS f l = thnS (fun l => .ok (selC 0 al nm [] as_ ds ss,l)) st5:=by
 have e1 : fieldS f l = _:=thn_go (st:=.ok l) (f:=nickS) (v:=(al,nm)) (fun a m e => by rw [show thnS nickS (.ok l) = nickS l from rfl,h1] at e;exact val_ok _ e)
 refine e1.trans ?_
 rw [show thnS nickS (.ok l) = nickS l from rfl,h1,rest_ok]
 refine (thn_go (f:=argsS false) (v:=as_) h2).trans ?_
 refine (thn_go (f:=dirsS false) (v:=ds) h3).trans ?_
 refine (thn_go (f:=withS f) (v:=ss) (fun a m e => by rw [h4] at e;exact val_ok _ e)).trans ?_
 rw [h4,rest_ok]
set_option maxRecDepth 100000 in
set_option maxHeartbeats 8000000 in
theorem zsel_field (hT : TF T) (h : Zs R B L T N w g) {l : List Tok} (hl : Live T N g l) (hf : g.fx = false) (hb : g.b = 0) (hg : g.c = 0) (hp : isP [46,46,46] l = false) {f : List Tok → Rs (List (List CT))} (SE : SetZ R B L T N g.a f) : Calls Tryz.prog 74 #[.pointer (some ⟨R,0,none⟩)] w (SelZ R B L T N w g l (fieldS f l)):=by
 unfold SetZ at SE
 have hTf:=h.few
 have hI:=hl.2.1
 have hbs:=h.bs
 have hrb:=h.rb
 have hlen:=live_len hl
 have hlp : 0 < l.length:=by
  obtain ⟨r,hr⟩:=live_nx hl
  rw [hr];exact Nat.succ_pos _
 have VA:=va_two (ou:=selO) (cs:=selX 0 [] [] [] (.slice none 0 0) (.slice none 0 0) (.slice none 0 0)) (E:=65) (st:=.ok l) h hl (ats_sel _ _)
 have I0:=zis_any VA.zs [46,46,46]
 rw [← live_isP hl,hp] at I0
 obtain ⟨hns,hnm⟩:=name_st (T:=T) (N:=N) (st:=.ok l) hT hl
 have hns' : St T N (g.name T N []) (rest (nameS l)):=hns
 have hnm' : ∀ a m,nameS l = .ok (a,m) → (nx T N g.I).t = a:=fun a m e => (hnm a m e).symm
 obtain ⟨n1,n2,n3,n4,n5⟩:=name_facts (T:=T) (N:=N) g []
 replace n1:=Nat.le_of_eq n1
 have NA:=fun w5 (z5 : Zs R B L T N w5 g) => zname_any z5 [] (by omega)
 clear hns hnm
 generalize (nx T N g.I).t = nm0 at *
 generalize g.name T N [] = g1 at *
 have m1f : g1.fx = false:=n5.trans hf
 have m1b : g1.b = 0:=n3.trans hb
 have m1c : g1.c = 0:=n4.trans hg
 have hN0:=fun hb' => nick_none hns' hnm' hb'
 have hN1:=fun un hb' hu => nick_some (un:=un) hns' hnm' hb' hu
 have s1l : lenS (rest (nameS l)) + 1 ≤ l.length:=len_eats (st:=.ok l) nameS_eats hlp
 clear hnm'
 generalize rest (nameS l) = st1 at *
 have hI1 : g1.I < 1000000000:=by omega
 have hS2 : ((nx T N g1.I).k == 0 && (nx T N g1.I).t == [58]) = true → St T N (g1.step.name T N []) (rest (thnS nameS (tailS st1))):=fun hb' => (name_st hT (step_P hns' (by decide) hb')).1
 have hu2 : ((nx T N g1.I).k == 0 && (nx T N g1.I).t == [58]) = true → ∀ a m,thnS nameS (tailS st1) = .ok (a,m) → (nx T N g1.step.I).t = a:=fun hb' a m e => ((name_st hT (step_P hns' (by decide) hb')).2 a m e).symm
 have NB:=fun w5 (z5 : Zs R B L T N w5 g1.step) => zname_any z5 [] (by show g1.I + 1 < 1000000000;omega)
 obtain ⟨o1,o2,o3,o4,o5⟩:=name_facts (T:=T) (N:=N) g1.step []
 replace o1 : (g1.step.name T N []).I ≤ g1.I + 1 + 1:=Nat.le_of_eq o1
 change _ = g1.a at o2
 change _ = g1.b at o3
 change _ = g1.c at o4
 change _ = g1.fx at o5
 generalize (nx T N g1.step.I).t = un at *
 generalize g1.step.name T N [] = gq at *
 go_enter Tryz.func74,Tryz.ntmps74
 go_wp2_with (first
  | (go_at_call 44;(with_reducible refine (SE _ _ _ VA5.zs VA5.sts hf4 ha4 hb4 hc4 hI49).mono ?_);rintro e w6 ⟨ss,p3,q3,z3,g5,rfl,hat5,zk5,hst5,hcs5,hbd5⟩;have VA6:=VA5.kpR zk5.kp zk5.zs hst5;obtain ⟨t0,t1,t2,t3,t4,t5,t6,ft⟩:=row7 VA6.var;have VAw:=VA6.sSels (at_up hat5 (Nat.succ_le_of_lt (lt_of_block VA5.var)));obtain ⟨st5,VAf,HW,hI5,hf5,ha5,hb5,hc5⟩ : ∃ st5,Va R B L T N (w.heap.size + 1) (w.alloc selO) 65 (selC 0 al nm [] as_ ds ss) (selX 0 al nm [] (.slice p1 q1 z1) (.slice p2 q2 z2) (.slice p3 q3 z3)) (w6.setCell ⟨w.heap.size + 1,6,none⟩ (.slice p3 q3 z3)) g5 st5 ∧ Hid (thnS (withS f) st4 = thnS (fun l => .ok (ss,l)) st5) ∧ g5.I ≤ T.length + 64 * l.length ∧ g5.fx = false ∧ g5.a = g.a ∧ g5.b = 0 ∧ g5.c = 0:=⟨_,VAw,with_some hst4 hq2 hcs5,hI5b g5.I hbd5,zk5.fx.trans hf4,zk5.a.trans ha4,zk5.b.trans hb4,zk5.c.trans hc4⟩;clear VAw VA6;obtain ⟨y0,y1,y2,y3,y4,y5,y6,fy⟩:=row7 VAf.var;obtain ⟨m0,m1,m2,m3,m4,m5,m6,fm⟩:=row7 (VAf.res hbs))
  | (go_at_call 45;have IS:=zis_any VA4.zs [123];(cases hq2 : ((nx T N g4.I).k == 0 && (nx T N g4.I).t == [123]) <;> (rw [hq2] at IS;(with_reducible refine IS.mono ?_);rintro e w5 ⟨rfl,j5⟩;have VA5:=VA4.look j5;first | (have hqf : ((nx T N g4.I).k == 0 && (nx T N g4.I).t == [123]) = false:=hq2;clear hqf;obtain ⟨ss,p3,q3,z3,g5,st5,VAf,HW,hI5,hf5,ha5,hb5,hc5⟩ : ∃ ss p3 q3 z3 g5 st5,Va R B L T N (w.heap.size + 1) (w.alloc selO) 65 (selC 0 al nm [] as_ ds ss) (selX 0 al nm [] (.slice p1 q1 z1) (.slice p2 q2 z2) (.slice p3 q3 z3)) w5 g5 st5 ∧ Hid (thnS (withS f) st4 = thnS (fun l => .ok (ss,l)) st5) ∧ g5.I ≤ T.length + 64 * l.length ∧ g5.fx = false ∧ g5.a = g.a ∧ g5.b = 0 ∧ g5.c = 0:=⟨[],none,0,0,g4,st4,VA5,with_none hst4 hq2,(by omega),hf4,ha4,hb4,hc4⟩;obtain ⟨y0,y1,y2,y3,y4,y5,y6,fy⟩:=row7 VAf.var;obtain ⟨m0,m1,m2,m3,m4,m5,m6,fm⟩:=row7 (VAf.res hbs)) | (have hqt : ((nx T N g4.I).k == 0 && (nx T N g4.I).t == [123]) = true:=hq2;clear hqt;have hI5b : ∀ x,x ≤ bdn T 64 2 g4 st4 → x ≤ T.length + 64 * l.length:=(by intro x hx;have:=bdn_or (T:=T) (g:=g4) (st:=st4) 64 2;omega)) | fail)))
  | (go_at_call 43;(with_reducible refine (zdirs_all hT VA3.zs VA3.sts false hf3 hb3 hI39).mono ?_);rintro e w4 ⟨ds,p2,q2,z2,g4,rfl,hat4,zk4,hst4,hcs4,hbd4⟩;have VA4a:=VA3.kpR zk4.kp zk4.zs hst4;obtain ⟨s0,s1,s2,s3,s4,s5,s6,fs⟩:=row7 VA4a.var;have VA4:=VA4a.sDirs (at_up hat4 (Nat.succ_le_of_lt (lt_of_block VA3.var)));have q4l : lenS (rest (thnS (dirsS false) st3)) + 1 ≤ l.length:=(by have:=len_keeps (st:=st3) (dirsS_keeps false);omega);have hI4 : g4.I ≤ T.length + 16 * l.length + 19:=(by have:=bdn_or (T:=T) (g:=g3) (st:=st3) 16 0;omega);have hI49 : g4.I < 300000:=(by omega);have hf4:=zk4.fx.trans hf3;have ha4:=zk4.a.trans ha3;have hb4:=zk4.b.trans hb3;have hc4:=zk4.c.trans hc3;have hFd:=fun ss st5 => hFa ds ss st5 hcs4;generalize rest (thnS (dirsS false) st3) = st4 at *;clear VA4a)
  | (go_at_call 72;(with_reducible refine (zargs_all hT VA2.zs VA2.sts false hf2 hb2 hI29).mono ?_);rintro e w3 ⟨as_,p1,q1,z1,g3,rfl,hat3,zk3,hst3,hcs3,hbd3⟩;have VA3a:=VA2.kpR zk3.kp zk3.zs hst3;obtain ⟨r0,r1,r2,r3,r4,r5,r6,fr⟩:=row7 VA3a.var;have VA3:=VA3a.sArgs (at_up hat3 (Nat.succ_le_of_lt (lt_of_block VA2.var)));have q3l : lenS (rest (thnS (argsS false) st2)) + 1 ≤ l.length:=(by have:=len_keeps (st:=st2) (argsS_keeps false);omega);have hI3 : g3.I ≤ T.length + 16 * l.length + 19:=(by have:=bd_or (T:=T) (g:=g2) (st:=st2);omega);have hI39 : g3.I < 900000:=(by omega);have hf3:=zk3.fx.trans hf2;have ha3:=zk3.a.trans ha2;have hb3:=zk3.b.trans hb2;have hc3:=zk3.c.trans hc2;have hFa:=fun ds ss st5 => field_st (f:=f) (l:=l) (ds:=ds) (ss:=ss) (st5:=st5) HN.out hcs3;generalize rest (thnS (argsS false) st2) = st3 at *;clear VA3a)
  | (go_at_call 41;(with_reducible refine (NB _ VA1c.zs).mono ?_);rintro e wn2 ⟨rfl,zn2,kn2⟩;have VA1d:=VA1c.kpR kn2 zn2 (hS2 hq1);obtain ⟨x0,x1,x2,x3,x4,x5,x6,fx6⟩:=row7 VA1d.var;have VAw:=VA1d.sName un;obtain ⟨al,nm,g2,st2,VA2,HN,q2l,hI2,hf2,ha2,hb2,hc2⟩ : ∃ al nm g2 st2,Va R B L T N (w.heap.size + 1) (w.alloc selO) 65 (selC 0 al nm [] [] [] []) (selX 0 al nm [] (.slice none 0 0) (.slice none 0 0) (.slice none 0 0)) (wn2.setCell ⟨w.heap.size + 1,2,none⟩ (.string ⟨un.toArray⟩)) g2 st2 ∧ Hid (nickS l = thnS (fun l => .ok ((al,nm),l)) st2) ∧ lenS st2 + 1 ≤ l.length ∧ g2.I ≤ T.length + 3 ∧ g2.fx = false ∧ g2.a = g.a ∧ g2.b = 0 ∧ g2.c = 0:=⟨nm0,un,_,_,VAw,hN1 un hq1 (hu2 hq1),(by have:=len_keeps (st:=tailS st1) nameS_eats.keeps;have:=len_tail (st:=st1);omega),(by omega),o5.trans m1f,o2.trans n2,o3.trans m1b,o4.trans m1c⟩;have hI29 : g2.I < 999999:=(by omega);clear VAw VA1d)
  | (go_at_call 45;have IS:=zis_any VA1.zs [58];(cases hq1 : ((nx T N g1.I).k == 0 && (nx T N g1.I).t == [58]) <;> (rw [hq1] at IS;(with_reducible refine IS.mono ?_);rintro e w2 ⟨rfl,j2⟩;have VA1b:=VA1.look j2;first | (have hqf : ((nx T N g1.I).k == 0 && (nx T N g1.I).t == [58]) = false:=hq1;clear hqf;obtain ⟨al,nm,g2,st2,VA2,HN,q2l,hI2,hf2,ha2,hb2,hc2⟩ : ∃ al nm g2 st2,Va R B L T N (w.heap.size + 1) (w.alloc selO) 65 (selC 0 al nm [] [] [] []) (selX 0 al nm [] (.slice none 0 0) (.slice none 0 0) (.slice none 0 0)) w2 g2 st2 ∧ Hid (nickS l = thnS (fun l => .ok ((al,nm),l)) st2) ∧ lenS st2 + 1 ≤ l.length ∧ g2.I ≤ T.length + 3 ∧ g2.fx = false ∧ g2.a = g.a ∧ g2.b = 0 ∧ g2.c = 0:=⟨[],nm0,g1,st1,VA1b,hN0 hq1,s1l,(by omega),m1f,n2,m1b,m1c⟩;have hI29 : g2.I < 999999:=(by omega);clear VA1b) | (have hqt : ((nx T N g1.I).k == 0 && (nx T N g1.I).t == [58]) = true:=hq1;clear hqt;obtain ⟨f0,f1,f2,f3,f4,f5,f6,f7,f8,ff⟩:=VA1b.zs.cells;have VA1s:=VA1b.stepI hI1 (step_P hns' (by decide) hq1);obtain ⟨h0',h1',h2',h3',h4',h5',h6',hf'⟩:=row7 VA1s.var;have VA1c:=VA1s.sAlias nm0) | fail)))
  | (go_at_call 41;(with_reducible refine (NA _ VA0.zs).mono ?_);rintro e wn ⟨rfl,zn,kn⟩;have VA1a:=VA0.kpR kn zn hns';obtain ⟨u0,u1,u2,u3,u4,u5,u6,fu⟩:=row7 VA1a.var;have VA1:=VA1a.sName nm0)
  | (go_at_call 45;(with_reducible refine I0.mono ?_);rintro e w1 ⟨rfl,j1⟩;have VA0:=VA.look j1)
  | fail)
 all_goals
  have hst5:=VAf.sts
  have HF : fieldS f l = thnS (fun l => .ok (selC 0 al nm [] as_ ds ss,l)) st5:=hFd ss st5 HW.out
  obtain ⟨r1',r2',r3'⟩:=VAf.fin hbs (own7 w.heap.size (.int .i64 0) (.string ⟨al.toArray⟩) (.string ⟨nm.toArray⟩) (.string ⟨#[]⟩) (.slice p1 q1 z1) (.slice p2 q2 z2) (.slice p3 q3 z3))
  refine bodyPost_ret (v:=.agg #[.int .i64 0,.string ⟨al.toArray⟩,.string ⟨nm.toArray⟩,.string ⟨#[]⟩,.slice p1 q1 z1,.slice p2 q2 z2,.slice p3 q3 z3]) (by simp [results,Tryz.results74,go_sem,m0,m1,m2,m3,m4,m5,m6]) rfl ⟨selC 0 al nm [] as_ ds ss,_,g5,rfl,⟨0,_,_,_,p1,q1,z1,p2,q2,z2,p3,q3,z3,rfl,r3'⟩,⟨r1',hf5.trans hf.symm,ha5,hb5.trans hb.symm,hc5.trans hg.symm,r2'⟩,by rw [HF,rest_ok];exact hst5,fun a m e => (by rw [HF] at e;exact val_ok _ e),hI5⟩
end
end
section
open Go Go.RowKit Go.Shelf
section
variable {R B : Nat} {L : Value} {T : List Tok} {N : Nat} {w : World} {g : Sg}
theorem spread_st {l : List Tok} {nm : Bs} {ds : List (List CT)} (h1 : ∀ a m,nameS l = .ok (a,m) → nm = a) (h2 : ∀ a m,thnS (dirsS false) (rest (nameS l)) = .ok (a,m) → ds = a) : spreadS l = thnS (fun l => .ok (selC 1 [] nm [] [] ds [],l)) (rest (thnS (dirsS false) (rest (nameS l)))):=by
 have e1 : spreadS l = _:=thn_go (st:=.ok l) (f:=nameS) (v:=nm) h1
 refine e1.trans ?_
 exact thn_go (f:=dirsS false) (v:=ds) h2
theorem inline_st {f : List Tok → Rs (List (List CT))} {l : List Tok} {on : Bs} {ds ss : List (List CT)} {st2 : Except (Nat × Int) (List Tok)} (h1 : onS l = thnS (fun l => .ok (on,l)) st2) (h2 : ∀ a m,thnS (dirsS false) st2 = .ok (a,m) → ds = a) (h3 : ∀ a m,thnS f (rest (thnS (dirsS false) st2)) = .ok (a,m) → ss = a) : inlineS f l = thnS (fun l => .ok (selC 2 [] [] on [] ds ss,l)) (rest (thnS f (rest (thnS (dirsS false) st2)))):=by
 have e1 : inlineS f l = _:=thn_go (st:=.ok l) (f:=onS) (v:=on) (fun a m e => by rw [show thnS onS (.ok l) = onS l from rfl,h1] at e;exact val_ok _ e)
 refine e1.trans ?_
 rw [show thnS onS (.ok l) = onS l from rfl,h1,rest_ok]
 refine (thn_go (f:=dirsS false) (v:=ds) h2).trans ?_
 exact thn_go (f:=f) (v:=ss) h3
abbrev tokO (t : Tok) : Obj:=.cells #[.int .i64 t.k,.string ⟨t.t.toArray⟩,.int .i64 (t.b : Int),.int .i64 (t.e : Int)] 40
set_option maxRecDepth 100000 in
set_option maxHeartbeats 8000000 in
theorem zsel_spread (hT : TF T) (h : Zs R B L T N w g) {l : List Tok} (hl : Live T N g l) (hf : g.fx = false) (hb : g.b = 0) (hg : g.c = 0) (hp : isP [46,46,46] l = true) (hk : ((nx T N g.step.I).k == 1) = true) (ho : ((nx T N g.step.I).t == onB) = false) : Calls Tryz.prog 74 #[.pointer (some ⟨R,0,none⟩)] w (SelZ R B L T N w g l (spreadS l.tail)):=by
 have hTf:=h.few
 have hI:=hl.2.1
 have hbs:=h.bs
 have hrb:=h.rb
 have hlen:=live_len hl
 have hlt : Live T N g.step l.tail:=live_step hl (ne_P (by decide) hp) rfl hl.2.2
 have hltl : l.tail.length + 1 = l.length:=by
  obtain ⟨r,hr⟩:=live_nx hl
  rw [hr];rfl
 have hlp : 0 < l.tail.length:=by
  obtain ⟨r,hr⟩:=live_nx hlt
  rw [hr];exact Nat.succ_pos _
 have VA:=va_two (ou:=selO) (cs:=selX 0 [] [] [] (.slice none 0 0) (.slice none 0 0) (.slice none 0 0)) (E:=65) (st:=.ok l) h hl (ats_sel _ _)
 have I0:=zis_any VA.zs [46,46,46]
 rw [← live_isP hl,hp] at I0
 have ZT:=fun {V : Nat} {W w5 : World} {E : Nat} {ys : List CT} {cs : Array Value} (v : Va R B L T N V W E ys cs w5 g (.ok l)) => v.stepI (st':=.ok l.tail) (by omega) hlt
 have sI : g.step.I ≤ g.I + 1:=Nat.le_refl _
 have sf : g.step.fx = false:=hf
 have sa : g.step.a = g.a:=rfl
 have sb : g.step.b = 0:=hb
 have sc : g.step.c = 0:=hg
 have NX:=fun w5 (z5 : Zs R B L T N w5 g.step) => znext_any z5
 have hw : isW onB l.tail = false:=by rw [live_isW hlt,ho,Bool.and_false]
 have hno : thnS (fun l => (notOn l).go fun _ l0 => nameS l0) (.ok l.tail) = nameS l.tail:=by
  show ((notOn l.tail).go fun _ l0 => nameS l0) = _
  unfold notOn
  rw [hw]
  rfl
 obtain ⟨hns,hnm⟩:=nameOn_st (T:=T) (N:=N) (st:=.ok l.tail) hlt
 rw [hno] at hns
 have hnm' : ∀ a m,nameS l.tail = .ok (a,m) → (nx T N g.step.I).t = a:=fun a m e => (hnm a m (hno.trans e)).symm
 obtain ⟨n1,n2,n3,n4,n5⟩:=name_facts (T:=T) (N:=N) g.step onB
 replace n1:=Nat.le_of_eq n1
 have NA:=fun w5 (z5 : Zs R B L T N w5 g.step) => zname_any z5 onB (by omega)
 generalize g.step.name T N onB = g2 at *
 have hf2 : g2.fx = false:=n5.trans sf
 have ha2 : g2.a = g.a:=n2
 have hb2 : g2.b = 0:=n3.trans sb
 have hc2 : g2.c = 0:=n4.trans sc
 have q2l : lenS (rest (nameS l.tail)) ≤ l.tail.length:=len_keeps (st:=.ok l.tail) nameS_eats.keeps
 have hS:=fun nm ds => spread_st (l:=l.tail) (nm:=nm) (ds:=ds)
 clear hnm hno
 generalize hst2 : rest (nameS l.tail) = st2 at *
 have hI29 : g2.I < 900000:=by omega
 generalize ht : nx T N g.step.I = t at *
 clear ht
 have hbo:=bytes_eq t.t onB
 rw [ho] at hbo
 go_enter Tryz.func74,Tryz.ntmps74
 go_wp2_with (first
  | (go_at_call 43;(with_reducible refine (zdirs_all hT VA3.zs VA3.sts false hf2 hb2 hI29).mono ?_);rintro e w4 ⟨ds,p2,q2,z2,g4,rfl,hat4,zk4,hst4,hcs4,hbd4⟩;have VA4a:=VA3.kpR zk4.kp zk4.zs hst4;obtain ⟨s0,s1,s2,s3,s4,s5,s6,fs⟩:=row7 VA4a.var;have VAf:=VA4a.sDirs (at_up hat4 (Nat.succ_le_of_lt (lt_of_block VA3.var)));have q4l : lenS (rest (thnS (dirsS false) st2)) ≤ l.tail.length:=(by have:=len_keeps (st:=st2) (dirsS_keeps false);omega);have hI4 : g4.I ≤ T.length + 16 * l.length + 3:=(by have:=bdn_or (T:=T) (g:=g2) (st:=st2) 16 0;omega);have hI49 : g4.I < 300000:=(by omega);have hf4:=zk4.fx.trans hf2;have ha4:=zk4.a.trans ha2;have hb4:=zk4.b.trans hb2;have hc4:=zk4.c.trans hc2;obtain ⟨y0,y1,y2,y3,y4,y5,y6,fy⟩:=row7 VAf.var;obtain ⟨m0,m1,m2,m3,m4,m5,m6,fm⟩:=row7 (VAf.res hbs))
  | (go_at_call 41;(with_reducible refine (NA _ VA2.zs).mono ?_);rintro e wn ⟨rfl,zn,kn⟩;have VA3a:=VA2.kpR kn zn hns;obtain ⟨u0,u1,u2,u3,u4,u5,u6,fu⟩:=row7 VA3a.var;have VA3:=VA3a.sName t.t)
  | (go_at_call 40;(with_reducible refine (NX _ VA1.zs).mono ?_);rintro e w2 ⟨rfl,j2⟩;have VA2a:=(VA1.look j2).look ((Kp.refl Non _).alloc (tokO t));obtain ⟨k0',k1',k2',k3'⟩:=row4z (heap_alloc_new w2 (tokO t));obtain ⟨h0',h1',h2',h3',h4',h5',h6',hf'⟩:=row7 VA2a.var;have VA2:=VA2a.sKind 1)
  | (go_at_call 45;(with_reducible refine I0.mono ?_);rintro e w1 ⟨rfl,j1⟩;obtain ⟨e0,e1,e2,e3,e4,e5,e6,e7,e8,fe⟩:=(VA.look j1).zs.cells;have VA1:=ZT (VA.look j1))
  | fail)
 have hst5:=VAf.sts
 have HF:=hS t.t ds hnm' hcs4
 obtain ⟨r1',r2',r3'⟩:=VAf.fin hbs (own7 w.heap.size (.int .i64 1) (.string ⟨#[]⟩) (.string ⟨t.t.toArray⟩) (.string ⟨#[]⟩) (.slice none 0 0) (.slice p2 q2 z2) (.slice none 0 0))
 refine bodyPost_ret (v:=.agg #[.int .i64 1,.string ⟨#[]⟩,.string ⟨t.t.toArray⟩,.string ⟨#[]⟩,.slice none 0 0,.slice p2 q2 z2,.slice none 0 0]) (by simp [results,Tryz.results74,go_sem,m0,m1,m2,m3,m4,m5,m6]) rfl ⟨selC 1 [] t.t [] [] ds [],_,g4,rfl,⟨1,_,_,_,none,0,0,p2,q2,z2,none,0,0,rfl,r3'⟩,⟨r1',hf4.trans hf.symm,ha4,hb4.trans hb.symm,hc4.trans hg.symm,r2'⟩,by rw [HF,rest_ok];exact hst5,fun a m e => (by rw [HF] at e;exact val_ok _ e),by omega⟩
set_option maxRecDepth 100000 in
set_option maxHeartbeats 8000000 in
theorem zsel_none (hT : TF T) (h : Zs R B L T N w g) {l : List Tok} (hl : Live T N g l) (hf : g.fx = false) (hb : g.b = 0) (hg : g.c = 0) (hp : isP [46,46,46] l = true) (hk : ((nx T N g.step.I).k == 1) = false) {f : List Tok → Rs (List (List CT))} (SE : SetZ R B L T N g.a f) : Calls Tryz.prog 74 #[.pointer (some ⟨R,0,none⟩)] w (SelZ R B L T N w g l (inlineS f l.tail)):=by
 unfold SetZ at SE
 have hTf:=h.few
 have hI:=hl.2.1
 have hbs:=h.bs
 have hrb:=h.rb
 have hlen:=live_len hl
 have hlt : Live T N g.step l.tail:=live_step hl (ne_P (by decide) hp) rfl hl.2.2
 have hltl : l.tail.length + 1 = l.length:=by
  obtain ⟨r,hr⟩:=live_nx hl
  rw [hr];rfl
 have hlp : 0 < l.tail.length:=by
  obtain ⟨r,hr⟩:=live_nx hlt
  rw [hr];exact Nat.succ_pos _
 have VA:=va_two (ou:=selO) (cs:=selX 0 [] [] [] (.slice none 0 0) (.slice none 0 0) (.slice none 0 0)) (E:=65) (st:=.ok l) h hl (ats_sel _ _)
 have I0:=zis_any VA.zs [46,46,46]
 rw [← live_isP hl,hp] at I0
 have ZT:=fun {V : Nat} {W w5 : World} {E : Nat} {ys : List CT} {cs : Array Value} (v : Va R B L T N V W E ys cs w5 g (.ok l)) => v.stepI (st':=.ok l.tail) (by omega) hlt
 have sI : g.step.I ≤ g.I + 1:=Nat.le_refl _
 have sf : g.step.fx = false:=hf
 have sa : g.step.a = g.a:=rfl
 have sb : g.step.b = 0:=hb
 have sc : g.step.c = 0:=hg
 have NX:=fun w5 (z5 : Zs R B L T N w5 g.step) => znext_any z5
 have hw : isW onB l.tail = false:=by rw [live_isW hlt,hk,Bool.false_and]
 have WD:=fun w5 (z5 : Zs R B L T N w5 g.step) => zword_any z5 onB
 rw [hk,Bool.false_and] at WD
 have hON : onS l.tail = thnS (fun l => .ok ([],l)) (.ok l.tail):=by
  unfold onS
  rw [hw]
  rfl
 have q2l : lenS (Except.ok l.tail : Except (Nat × Int) (List Tok)) ≤ l.tail.length:=Nat.le_refl _
 have hI2 : g.step.I ≤ T.length + 3:=by omega
 have hI29 : g.step.I < 900000:=by omega
 generalize ht : nx T N g.step.I = t at *
 clear ht
 have hbo:=bytes_eq t.t onB
 go_enter Tryz.func74,Tryz.ntmps74
 go_wp2_with (first
  | (go_at_call 44;(with_reducible refine (SE _ _ _ VA4.zs VA4.sts hf4 ha4 hb4 hc4 hI49).mono ?_);rintro e w6 ⟨ss,p3,q3,z3,g5,rfl,hat5,zk5,hst5,hcs5,hbd5⟩;have VA6:=VA4.kpR zk5.kp zk5.zs hst5;obtain ⟨t0,t1,t2,t3,t4,t5,t6,ft⟩:=row7 VA6.var;have VAf:=VA6.sSels (at_up hat5 (Nat.succ_le_of_lt (lt_of_block VA4.var)));have hf5:=zk5.fx.trans hf4;have ha5:=zk5.a.trans ha4;have hb5:=zk5.b.trans hb4;have hc5:=zk5.c.trans hc4;have hI5 : g5.I ≤ T.length + 64 * l.length:=(by have:=bdn_or (T:=T) (g:=g4) (st:=rest (thnS (dirsS false) (Except.ok l.tail))) 64 2;omega);obtain ⟨y0,y1,y2,y3,y4,y5,y6,fy⟩:=row7 VAf.var;obtain ⟨m0,m1,m2,m3,m4,m5,m6,fm⟩:=row7 (VAf.res hbs))
  | (go_at_call 43;(with_reducible refine (zdirs_all hT VA3.zs VA3.sts false sf sb hI29).mono ?_);rintro e w4 ⟨ds,p2,q2,z2,g4,rfl,hat4,zk4,hst4,hcs4,hbd4⟩;have VA4a:=VA3.kpR zk4.kp zk4.zs hst4;obtain ⟨s0,s1,s2,s3,s4,s5,s6,fs⟩:=row7 VA4a.var;have VA4:=VA4a.sDirs (at_up hat4 (Nat.succ_le_of_lt (lt_of_block VA3.var)));have q4l : lenS (rest (thnS (dirsS false) (Except.ok l.tail))) ≤ l.tail.length:=(by have:=len_keeps (st:=(Except.ok l.tail)) (dirsS_keeps false);omega);have hI4 : g4.I ≤ T.length + 16 * l.length + 3:=(by have:=bdn_or (T:=T) (g:=g.step) (st:=(Except.ok l.tail)) 16 0;omega);have hI49 : g4.I < 300000:=(by omega);have hf4:=zk4.fx.trans sf;have ha4:=zk4.a.trans sa;have hb4:=zk4.b.trans sb;have hc4:=zk4.c.trans sc)
  | (go_at_call 22;(with_reducible refine (WD _ VA2.zs).mono ?_);rintro e wd ⟨rfl,jd⟩;have VA3:=VA2.look jd)
  | (go_at_call 40;(with_reducible refine (NX _ VA1.zs).mono ?_);rintro e w2 ⟨rfl,j2⟩;have VA2a:=(VA1.look j2).look ((Kp.refl Non _).alloc (tokO t));obtain ⟨k0',k1',k2',k3'⟩:=row4z (heap_alloc_new w2 (tokO t));obtain ⟨h0',h1',h2',h3',h4',h5',h6',hf'⟩:=row7 VA2a.var;have VA2:=VA2a.sKind 2)
  | (go_at_call 45;(with_reducible refine I0.mono ?_);rintro e w1 ⟨rfl,j1⟩;obtain ⟨e0,e1,e2,e3,e4,e5,e6,e7,e8,fe⟩:=(VA.look j1).zs.cells;have VA1:=ZT (VA.look j1))
  | fail)
 have hst5:=VAf.sts
 have HF:=inline_st hON hcs4 hcs5
 obtain ⟨r1',r2',r3'⟩:=VAf.fin hbs (own7 w.heap.size (.int .i64 2) (.string ⟨#[]⟩) (.string ⟨#[]⟩) (.string ⟨#[]⟩) (.slice none 0 0) (.slice p2 q2 z2) (.slice p3 q3 z3))
 refine bodyPost_ret (v:=.agg #[.int .i64 2,.string ⟨#[]⟩,.string ⟨#[]⟩,.string ⟨#[]⟩,.slice none 0 0,.slice p2 q2 z2,.slice p3 q3 z3]) (by simp [results,Tryz.results74,go_sem,m0,m1,m2,m3,m4,m5,m6]) rfl ⟨selC 2 [] [] [] [] ds ss,_,g5,rfl,⟨2,_,_,_,none,0,0,p2,q2,z2,p3,q3,z3,rfl,r3'⟩,⟨r1',hf5.trans hf.symm,ha5,hb5.trans hb.symm,hc5.trans hg.symm,r2'⟩,by rw [HF,rest_ok];exact hst5,fun a m e => (by rw [HF] at e;exact val_ok _ e),hI5⟩
set_option maxRecDepth 100000 in
set_option maxHeartbeats 8000000 in
theorem zsel_on (hT : TF T) (h : Zs R B L T N w g) {l : List Tok} (hl : Live T N g l) (hf : g.fx = false) (hb : g.b = 0) (hg : g.c = 0) (hp : isP [46,46,46] l = true) (hk : ((nx T N g.step.I).k == 1) = true) (ho : ((nx T N g.step.I).t == onB) = true) {f : List Tok → Rs (List (List CT))} (SE : SetZ R B L T N g.a f) : Calls Tryz.prog 74 #[.pointer (some ⟨R,0,none⟩)] w (SelZ R B L T N w g l (inlineS f l.tail)):=by
 unfold SetZ at SE
 have hTf:=h.few
 have hI:=hl.2.1
 have hbs:=h.bs
 have hrb:=h.rb
 have hlen:=live_len hl
 have hlt : Live T N g.step l.tail:=live_step hl (ne_P (by decide) hp) rfl hl.2.2
 have hltl : l.tail.length + 1 = l.length:=by
  obtain ⟨r,hr⟩:=live_nx hl
  rw [hr];rfl
 have hlp : 0 < l.tail.length:=by
  obtain ⟨r,hr⟩:=live_nx hlt
  rw [hr];exact Nat.succ_pos _
 have VA:=va_two (ou:=selO) (cs:=selX 0 [] [] [] (.slice none 0 0) (.slice none 0 0) (.slice none 0 0)) (E:=65) (st:=.ok l) h hl (ats_sel _ _)
 have I0:=zis_any VA.zs [46,46,46]
 rw [← live_isP hl,hp] at I0
 have ZT:=fun {V : Nat} {W w5 : World} {E : Nat} {ys : List CT} {cs : Array Value} (v : Va R B L T N V W E ys cs w5 g (.ok l)) => v.stepI (st':=.ok l.tail) (by omega) hlt
 have sI : g.step.I ≤ g.I + 1:=Nat.le_refl _
 have sf : g.step.fx = false:=hf
 have sa : g.step.a = g.a:=rfl
 have sb : g.step.b = 0:=hb
 have sc : g.step.c = 0:=hg
 have NX:=fun w5 (z5 : Zs R B L T N w5 g.step) => znext_any z5
 have hw : isW onB l.tail = true:=by rw [live_isW hlt,ho,hk];rfl
 have WD:=fun w5 (z5 : Zs R B L T N w5 g.step) => zword_any z5 onB
 rw [ho,hk] at WD
 have hlu : Live T N g.step.step l.tail.tail:=live_step hlt (ne_W hw) rfl hlt.2.2
 have ZU:=fun {V : Nat} {W w5 : World} {E : Nat} {ys : List CT} {cs : Array Value} (v : Va R B L T N V W E ys cs w5 g.step (.ok l.tail)) => v.stepI (st':=.ok l.tail.tail) (by omega) hlu
 obtain ⟨hns,hnm⟩:=name_st (T:=T) (N:=N) (st:=.ok l.tail.tail) hT hlu
 have hns' : St T N (g.step.step.name T N []) (rest (nameS l.tail.tail)):=hns
 have hON : onS l.tail = thnS (fun l => .ok ((nx T N g.step.step.I).t,l)) (rest (nameS l.tail.tail)):=by
  unfold onS
  rw [hw,if_pos rfl]
  cases he : nameS l.tail.tail with
  | error p => rfl
  | ok p =>
   obtain ⟨a,m⟩:=p
   rw [← hnm a m he]
   rfl
 obtain ⟨n1,n2,n3,n4,n5⟩:=name_facts (T:=T) (N:=N) g.step.step []
 replace n1 : (g.step.step.name T N []).I ≤ g.I + 1 + 1 + 1:=Nat.le_of_eq n1
 have NA:=fun w5 (z5 : Zs R B L T N w5 g.step.step) => zname_any z5 [] (by show g.I + 1 + 1 < 1000000000;omega)
 have q2l : lenS (rest (nameS l.tail.tail)) ≤ l.tail.length:=by
  have : lenS (rest (nameS l.tail.tail)) ≤ l.tail.tail.length:=len_keeps (st:=.ok l.tail.tail) nameS_eats.keeps
  rw [List.length_tail] at this
  omega
 generalize (nx T N g.step.step.I).t = on at *
 generalize g.step.step.name T N [] = g2 at *
 have hf2 : g2.fx = false:=n5.trans sf
 have ha2 : g2.a = g.a:=n2
 have hb2 : g2.b = 0:=n3.trans sb
 have hc2 : g2.c = 0:=n4.trans sc
 clear hns hnm n2 n3 n4 n5
 generalize rest (nameS l.tail.tail) = st2 at *
 have hI2 : g2.I ≤ T.length + 3:=by omega
 have hI29 : g2.I < 900000:=by omega
 generalize ht : nx T N g.step.I = t at *
 clear ht
 have hbo:=bytes_eq t.t onB
 rw [ho] at hbo
 go_enter Tryz.func74,Tryz.ntmps74
 go_wp2_with (first
  | (go_at_call 44;(with_reducible refine (SE _ _ _ VA4.zs VA4.sts hf4 ha4 hb4 hc4 hI49).mono ?_);rintro e w6 ⟨ss,p3,q3,z3,g5,rfl,hat5,zk5,hst5,hcs5,hbd5⟩;have VA6:=VA4.kpR zk5.kp zk5.zs hst5;obtain ⟨t0,t1,t2,t3,t4,t5,t6,ft⟩:=row7 VA6.var;have VAf:=VA6.sSels (at_up hat5 (Nat.succ_le_of_lt (lt_of_block VA4.var)));have hf5:=zk5.fx.trans hf4;have ha5:=zk5.a.trans ha4;have hb5:=zk5.b.trans hb4;have hc5:=zk5.c.trans hc4;have hI5 : g5.I ≤ T.length + 64 * l.length:=(by have:=bdn_or (T:=T) (g:=g4) (st:=rest (thnS (dirsS false) st2)) 64 2;omega);obtain ⟨y0,y1,y2,y3,y4,y5,y6,fy⟩:=row7 VAf.var;obtain ⟨m0,m1,m2,m3,m4,m5,m6,fm⟩:=row7 (VAf.res hbs))
  | (go_at_call 43;(with_reducible refine (zdirs_all hT VA3.zs VA3.sts false hf2 hb2 hI29).mono ?_);rintro e w4 ⟨ds,p2,q2,z2,g4,rfl,hat4,zk4,hst4,hcs4,hbd4⟩;have VA4a:=VA3.kpR zk4.kp zk4.zs hst4;obtain ⟨s0,s1,s2,s3,s4,s5,s6,fs⟩:=row7 VA4a.var;have VA4:=VA4a.sDirs (at_up hat4 (Nat.succ_le_of_lt (lt_of_block VA3.var)));have q4l : lenS (rest (thnS (dirsS false) st2)) ≤ l.tail.length:=(by have:=len_keeps (st:=st2) (dirsS_keeps false);omega);have hI4 : g4.I ≤ T.length + 16 * l.length + 3:=(by have:=bdn_or (T:=T) (g:=g2) (st:=st2) 16 0;omega);have hI49 : g4.I < 300000:=(by omega);have hf4:=zk4.fx.trans hf2;have ha4:=zk4.a.trans ha2;have hb4:=zk4.b.trans hb2;have hc4:=zk4.c.trans hc2)
  | (go_at_call 41;(with_reducible refine (NA _ VA2s.zs).mono ?_);rintro e wn ⟨rfl,zn,kn⟩;have VA3a:=VA2s.kpR kn zn hns';obtain ⟨u0,u1,u2,u3,u4,u5,u6,fu⟩:=row7 VA3a.var;have VA3:=VA3a.sOn on)
  | (go_at_call 22;(with_reducible refine (WD _ VA2.zs).mono ?_);rintro e wd ⟨rfl,jd⟩;have VA2d:=VA2.look jd;obtain ⟨o0,o1,o2,o3,o4,o5,o6,o7,o8,fo⟩:=VA2d.zs.cells;have VA2s:=ZU VA2d)
  | (go_at_call 40;(with_reducible refine (NX _ VA1.zs).mono ?_);rintro e w2 ⟨rfl,j2⟩;have VA2a:=(VA1.look j2).look ((Kp.refl Non _).alloc (tokO t));obtain ⟨k0',k1',k2',k3'⟩:=row4z (heap_alloc_new w2 (tokO t));obtain ⟨h0',h1',h2',h3',h4',h5',h6',hf'⟩:=row7 VA2a.var;have VA2:=VA2a.sKind 2)
  | (go_at_call 45;(with_reducible refine I0.mono ?_);rintro e w1 ⟨rfl,j1⟩;obtain ⟨e0,e1,e2,e3,e4,e5,e6,e7,e8,fe⟩:=(VA.look j1).zs.cells;have VA1:=ZT (VA.look j1))
  | fail)
 have hst5:=VAf.sts
 have HF:=inline_st hON hcs4 hcs5
 obtain ⟨r1',r2',r3'⟩:=VAf.fin hbs (own7 w.heap.size (.int .i64 2) (.string ⟨#[]⟩) (.string ⟨#[]⟩) (.string ⟨on.toArray⟩) (.slice none 0 0) (.slice p2 q2 z2) (.slice p3 q3 z3))
 refine bodyPost_ret (v:=.agg #[.int .i64 2,.string ⟨#[]⟩,.string ⟨#[]⟩,.string ⟨on.toArray⟩,.slice none 0 0,.slice p2 q2 z2,.slice p3 q3 z3]) (by simp [results,Tryz.results74,go_sem,m0,m1,m2,m3,m4,m5,m6]) rfl ⟨selC 2 [] [] on [] ds ss,_,g5,rfl,⟨2,_,_,_,none,0,0,p2,q2,z2,p3,q3,z3,rfl,r3'⟩,⟨r1',hf5.trans hf.symm,ha5,hb5.trans hb.symm,hc5.trans hg.symm,r2'⟩,by rw [HF,rest_ok];exact hst5,fun a m e => (by rw [HF] at e;exact val_ok _ e),hI5⟩
theorem zsel_all (hT : TF T) (h : Zs R B L T N w g) {l : List Tok} (hl : Live T N g l) (hf : g.fx = false) (hb : g.b = 0) (hg : g.c = 0) {f : List Tok → Rs (List (List CT))} (SE : SetZ R B L T N g.a f) : Calls Tryz.prog 74 #[.pointer (some ⟨R,0,none⟩)] w (SelZ R B L T N w g l (selS f l)):=by
 unfold selS
 cases hp : isP [46,46,46] l with
 | false => exact zsel_field hT h hl hf hb hg hp SE
 | true =>
  have hlt : Live T N g.step l.tail:=live_step hl (ne_P (by decide) hp) rfl hl.2.2
  have e1:=live_isK hlt 1
  have e2:=live_isW hlt onB
  rw [if_pos rfl]
  cases hk : ((nx T N g.step.I).k == 1) with
  | false =>
   rw [e1,hk,Bool.false_and,if_neg (by decide)]
   exact zsel_none hT h hl hf hb hg hp hk SE
  | true =>
   cases ho : ((nx T N g.step.I).t == onB) with
   | false =>
    rw [e1,e2,hk,ho,if_pos (by rfl)]
    exact zsel_spread hT h hl hf hb hg hp hk ho
   | true =>
    rw [e1,e2,hk,ho,if_neg (by decide)]
    exact zsel_on hT h hl hf hb hg hp hk ho SE
end
end
section
open Go Go.RowKit Go.Shelf
section
variable {R B : Nat} {L : Value} {T : List Tok} {N : Nat} {w : World} {g : Sg} {st : Except (Nat × Int) (List Tok)}
theorem opens0_facts (g : Sg) (s : Bs) : (g.opens0 T N s).I = g.I + 1 ∧ (g.opens0 T N s).a = g.a + 1 ∧ (g.opens0 T N s).b = g.b ∧ (g.opens0 T N s).c = g.c ∧ (g.opens0 T N s).fx = g.fx:=by
 unfold Sg.opens0
 refine ⟨rfl,rfl,?_,?_,?_⟩ <;> simp only <;> (repeat' split) <;> simp [bad_abc]
theorem set_eq (n : Nat) (d : Int) (hd : d + n = 32) : thnS (setF n) st = thnS (someS (selS (setF (n - 1))) [125]) (rest (thnS (openS [123] d) st)):=by
 cases st with
 | error p => rfl
 | ok l =>
  show setF n l = thnS _ (rest (openS [123] d l))
  unfold openS
  cases n with
  | zero =>
   show setG none l = _
   unfold setG
   cases isP [123] l with
   | false => rfl
   | true =>
    rw [if_pos rfl,if_pos rfl,if_pos (by omega)]
    rfl
  | succ m =>
   show setG (some (setF m)) l = _
   unfold setG
   cases isP [123] l with
   | false => rfl
   | true =>
    rw [if_pos rfl,if_pos rfl,if_neg (by omega)]
    rfl
theorem open_len (s : Bs) (d : Int) : lenS (rest (thnS (openS s d) st)) ≤ lenS st - 1:=by
 cases st with
 | error p => exact Nat.zero_le _
 | ok l =>
  show lenS (rest (openS s d l)) ≤ l.length - 1
  unfold openS
  split
  ·split
   ·exact Nat.zero_le _
   ·show l.tail.length ≤ _
    rw [List.length_tail];exact Nat.le_refl _
  ·exact Nat.zero_le _
theorem open_pos {s : Bs} {d : Int} (h : 0 < lenS (rest (thnS (openS s d) st))) : d < 32:=by
 cases st with
 | error p => exact absurd h (Nat.lt_irrefl _)
 | ok l =>
  change 0 < lenS (rest (openS s d l)) at h
  unfold openS at h
  split at h
  ·split at h
   ·exact absurd h (Nat.lt_irrefl _)
   ·omega
  ·exact absurd h (Nat.lt_irrefl _)
structure Ls (R B : Nat) (L : Value) (T : List Tok) (N Q E sz : Nat) (w0 : World) (g : Sg) (f : List Tok → Rs (List CT)) (last : Bs) (st1 : Except (Nat × Int) (List Tok)) (bn : Nat) (wr : World) (g' : Sg) (st : Except (Nat × Int) (List Tok)) (els : List (List CT)) (lv : Value) (xs : List Value) (D : Nat → Prop) : Prop where
 zs : Zs R B L T N wr g'
 fx : g'.fx = g.fx
 a : g'.a = g.a + 1
 b : g'.b = g.b
 c : g'.c = g.c
 sts : St T N g' st
 rel : thnS (someS f last) st1 = relS f last els st
 row : Vr Q E sz wr lv els xs D
 kp : Kp (Own1 R) w0 wr
 few : els.length + lenS st ≤ 2049
 low : g'.I + 1 ≤ bn ∧ (∀ l,st = .ok l → l.length ≤ lenS st1)
set_option maxRecDepth 100000 in
set_option maxHeartbeats 8000000 in
theorem zset_any (hT : TF T) (h : Zs R B L T N w g) (hst : St T N g st) (hf : g.fx = false) (hb : g.b = 0) (hg : g.c = 0) (hlo : g.I < 300000) (n : Nat) (hn : g.a + n = 32) (IH : 0 < n → SetZ R B L T N (g.a + 1) (setF (n - 1))) : Calls Tryz.prog 44 #[.pointer (some ⟨R,0,none⟩)] w (RowY R B L T N 65 7 64 2 w g st (thnS (setF n) st)):=by
 have hBs:=h.bs
 have hRl:=h.lt
 have hrb:=h.rb
 have hTn:=h.few
 have hda:=h.da
 have k0 : Kp Non w (w.alloc (.cells #[] 65)):=(Kp.refl Non w).alloc _
 have OP:=zopens0_any (h.kp k0) [123] (by omega) (by omega)
 obtain ⟨o1,o2,o3,o4,o5⟩:=opens0_facts (T:=T) (N:=N) g [123]
 have hs1 : St T N (g.opens0 T N [123]) (rest (thnS (openS [123] g.a) st)):=opens_st hst (by decide) g.a rfl o1 rfl rfl
 have hok:=st_isOk hs1
 have hol:=open_len (st:=st) [123] g.a
 have hop:=fun hq => open_pos (st:=st) (s:=[123]) (d:=g.a) hq
 have hb1 : g.I + 2 ≤ bdn T 64 2 g st ∧ bdn T 64 2 g st ≤ 500000 ∧ (0 < lenS (rest (thnS (openS [123] g.a) st)) → T.length + 64 * lenS (rest (thnS (openS [123] g.a) st)) + 16 ≤ bdn T 64 2 g st) ∧ lenS (rest (thnS (openS [123] g.a) st)) ≤ 2048:=by
  cases st with
  | error p =>
   show g.I + 2 ≤ g.I + 2 ∧ g.I + 2 ≤ 500000 ∧ (0 < 0 → _) ∧ 0 ≤ 2048
   exact ⟨by omega,by omega,fun e => absurd e (Nat.lt_irrefl _),by omega⟩
  | ok l =>
   have hl : Live T N g l:=hst
   have h1:=live_len hl
   have h2:=hl.2.1
   change lenS _ ≤ l.length - 1 at hol
   refine ⟨?_,?_,fun e => ?_,by omega⟩
   ·show g.I + 2 ≤ T.length + 64 * l.length
    omega
   ·show T.length + 64 * l.length ≤ 500000
    omega
   ·show _ ≤ T.length + 64 * l.length
    omega
 rw [set_eq n g.a hn]
 obtain ⟨bn0,bn1,bn2,bn3⟩:=hb1
 unfold RowY
 generalize rest (thnS (openS [123] g.a) st) = st1 at *
 generalize bdn T 64 2 g st = bn at *
 replace o1:=Nat.le_of_eq o1
 generalize g.opens0 T N [123] = g1 at *
 rw [hok] at OP
 clear hok hst hol
 have SF : Eats (selS (setF (n - 1))):=selS_eats (setF_eats _).keeps
 have hnn : 0 < lenS st1 → 0 < n:=fun hq => by have:=hop hq;omega
 clear hop
 generalize hfq : selS (setF (n - 1)) = f at *
 go_enter Tryz.func44,Tryz.ntmps44
 go_wp2_with (first
  | (go_at_call 73;(with_reducible refine OP.mono ?_);rintro e w1 ⟨rfl,z1,k1⟩)
  | fail)
 go_loopw [3,4] (fun lv okv wr => ∃ g' st els xs D,okv = .bool (isOk st) ∧ Ls R B L T N w.heap.size 65 7 w g f [125] st1 bn wr g' st els lv xs D) (fun _ okv wr => match okv with | .bool true => T.length + 2 - idxZ R wr | _ => 0)
 case atStart =>
  refine ⟨g1,st1,[],_,_,rfl,⟨z1,o5,o2,o3,o4,hs1,rfl,(vr_empty w (Nat.le_refl _)).keep k1 (fun q e => by have e' : q = R:=e;omega),(kp_non k0).trans k1,?_,?_⟩⟩
  ·simp only [List.length_nil]
   omega
  ·exact ⟨by omega,fun l' e => by rw [e];exact Nat.le_refl _⟩
 case round =>
  obtain ⟨g',st,els,xs,D,rfl,LP⟩:=hrel
  obtain ⟨lo,lc,rfl⟩:=LP.row.slice
  have hlow:=LP.low
  cases st with
  | error p =>
   have hio : isOk (Except.error p) = false:=rfl
   have j5 : Kp Non wr wr:=Kp.refl Non wr
   have MU:=fun w5 (z5 : Zs R B L T N w5 g') => zmust_any z5 [125] (by omega)
   have mst:=must_st (T:=T) (N:=N) LP.sts (s:=[125]) (by decide)
   obtain ⟨u1,u2,u3,u4,u5⟩:=must_facts (T:=T) (N:=N) g' [125]
   replace u1:=Nat.le_of_eq u1
   generalize g'.must T N [125] = g6 at *
   have ha6 : g6.a = g.a + 1:=u2.trans LP.a
   have hrow:=LP.row
   have hkp:=LP.kp
   have hrel:=LP.rel
   have hf6 : g6.fx = g.fx:=u5.trans LP.fx
   have hb6 : g6.b = g.b:=u3.trans LP.b
   have hc6 : g6.c = g.c:=u4.trans LP.c
   go_wp2_with (first
    | (go_at_call 75;(with_reducible refine (MU _ (LP.zs.kp j5)).mono ?_);rintro e w6 ⟨rfl,z6,k6⟩)
    | fail)
   have k56 : Kp (Own1 R) wr w6:=(kp_non j5).trans k6
   obtain ⟨c0,c1,c2,c3,c4,c5,c6,c7,c8,fz⟩:=z6.cells
   rw [ha6] at c4
   have hF0:=z6.set 4 (.int .i64 g.a) { g6 with a:=g.a } (by simp) z6.low (by have:=z6.da;simp only;omega)
   have K7 : Kp (Own1 R) wr (w6.setCell ⟨R,4,none⟩ (.int .i64 g.a)):=k56.set R 4 _ (Or.inr rfl)
   have sC : w6.drew.cell? ⟨R,4,none⟩ = some (.int .i64 (g.a + 1)):=c4
   have sR : ∀ j,w6.drew.frozen? ⟨R,j,none⟩ = false:=fz
   have hst6 : St T N { g6 with a:=g.a } (rest (thnS (mustS [125]) (Except.error p))):=st_same mst rfl rfl rfl
   clear LP
   go_region
   all_goals go_wp2
   all_goals
    have K8:=K7.drew
    refine bodyPost_ret (v:=.slice lo els.length lc) (by simp [results,Tryz.results44,go_sem]) rfl ⟨els,_,_,_,{ g6 with a:=g.a },rfl,(hrow.keep K8 (fun q e => by have e' : q = R:=e;omega)).at_,⟨hF0.kp ((Kp.refl Non _).drew),hf6,rfl,hb6,hc6,hkp.trans K8⟩,?_,?_,?_⟩
    ·rw [hrel,relS_err]
     exact hst6
    ·rw [hrel,relS_err]
     intro a m e;cases e
    ·show g6.I ≤ bn
     omega
  | ok l' =>
   have hio : isOk (Except.ok l') = true:=rfl
   have hl' : Live T N g' l':=LP.sts
   by_cases h0 : els = []
   ·have x2 : ((els.length : Int) == 0) = true:=by rw [h0];rfl
    have hor : els = [] ∨ isP [125] l' = false:=Or.inl h0
    clear h0
    have j5 : Kp Non wr wr:=Kp.refl Non wr
    have hlenl:=live_len hl'
    have hl'l:=hlow.2 l' rfl
    have hfew:=LP.few
    have hTf:=LP.zs.few
    have hgI:=hl'.2.1
    have hl1' : 0 < l'.length:=by
     obtain ⟨r,hr⟩:=live_nx hl'
     rw [hr];exact Nat.succ_pos _
    have hbn:=bn2 (by omega)
    have SE : SetZ R B L T N g'.a (setF (n - 1)):=by rw [LP.a];exact IH (hnn (by omega))
    have SL:=fun w5 (z5 : Zs R B L T N w5 g') => zsel_all hT z5 hl' (LP.fx.trans hf) (LP.b.trans hb) (LP.c.trans hg) SE
    rw [hfq] at SL
    have hLo:=fun k (e : (Value.slice lo els.length lc).ownBlock = some k) => own_block LP.row.own e
    have hkw:=LP.kp.size
    obtain ⟨ti,hti,hy0,hy1,hy2⟩:=info_parts Tryz.infoSel
    go_wp2_with (first
     | (at_builtin;refine wpList_append_lies _ rfl (.tmp 27) (.tmp 29) 55 rfl w.heap.size 65 ti _ 7 128 Tryz.underlying55 hti hy0 hy1 hy2 rfl (by decide) (.slice lo els.length lc) els.length xs rfl (hrow7.own.alloc _) ⟨w7.heap.size + 1,0,none⟩ 1 1 [.int .i64 kk,.string v1,.string v2,.string v3,.slice p1 q1 y1,.slice p2 q2 y2,.slice p3 q3 y3] rfl rfl (World.news_of_block (two_new w7 _ _)) (by intro u hu;simp at hu;rcases hu with rfl | rfl | rfl | rfl | rfl | rfl | rfl <;> rfl) (by decide) (by unfold maxLen;omega) (by omega) (by rw [World.size_alloc,World.size_alloc];omega) _ rfl ?_;intro q8 cp8 w8 own8 gr8 hor8 hlt8;have K78 : Kp (fun k => w.heap.size ≤ k) w7 w8:=(((Kp.refl (fun k => w.heap.size ≤ k) w7).alloc _).alloc _).grew gr8 (fun k e => Or.inr (hLo k e).1);have z8:=zk.zs.farS (fun k e => by have e' : w.heap.size ≤ k:=e;omega) K78;obtain ⟨c0,c1,c2,c3,c4,c5,c6,c7,c8,fz⟩:=z8.cells)
     | (go_at_call 74;(with_reducible refine (SL _ (LP.zs.kp j5)).mono ?_);rintro e w7 ⟨cs,v,g7,rfl,⟨kk,v1,v2,v3,p1,q1,y1,p2,q2,y2,p3,q3,y3,rfl,hat⟩,zk,hst7,hcs7,hbd7⟩;have k57 : Kp (Own1 R) wr w7:=(kp_non j5).trans zk.kp;have hz57:=k57.size;have hrow7:=LP.row.keep (k57.alloc (.cells #[.int .i64 kk,.string v1,.string v2,.string v3,.slice p1 q1 y1,.slice p2 q2 y2,.slice p3 q3 y3] 65)) (fun q e => by have e' : q = R:=e;omega))
     | fail)
    have hok7:=st_isOk hst7
    have hme8 : f l' = oneR cs (rest (f l')):=by
     cases he : f l' with
     | error p => rfl
     | ok p =>
      obtain ⟨a,m⟩:=p
      rw [hcs7 a m he]
      rfl
    generalize rest (f l') = st7 at *
    have hlS:=one_len SF hme8 hl1'
    have hsw:=j5.size
    have hzm:=zk.kp.size
    have hat9:=hat.keep fun q hq => (al1 w7 (.cells #[.int .i64 kk,.string v1,.string v2,.string v3,.slice p1 q1 y1,.slice p2 q2 y2,.slice p3 q3 y3] 65)).block q hq.2
    have hpV:=hrow7.push (cs:=cs) (P:=wr.heap.size) (De:=Iv wr.heap.size w7.heap.size) (fun k e => Nat.lt_of_lt_of_le (hLo k e).2 hsw) (by omega) hat9 (fun k hk => ⟨hk.1,by rw [World.size_alloc];have:=hk.2;omega⟩) gr8 hor8 own8
    refine ⟨⟨g7,st7,els ++ [cs],_,_,by rw [hok7],⟨z8,zk.fx.trans LP.fx,zk.a.trans LP.a,zk.b.trans LP.b,zk.c.trans LP.c,hst7,?_,hpV,?_,?_,?_⟩⟩,?_⟩
    ·rw [LP.rel]
     exact relS_step SF hor hme8
    ·have KK:=LP.kp.trans k57
     exact ⟨K78.os.trans KK.os,K78.tape.trans KK.tape,K78.output.trans KK.output,Nat.le_trans KK.size K78.size,fun q hq hS => (K78.block q (by omega) (fun e => by have e' : w.heap.size ≤ q:=e;omega)).trans (KK.block q hq hS)⟩
    ·rw [List.length_append,List.length_cons,List.length_nil]
     have : lenS (Except.ok l') = l'.length:=rfl
     omega
    ·refine ⟨by omega,fun l2 e => ?_⟩
     rw [e] at hlS
     have : lenS (Except.ok l2) = l2.length:=rfl
     omega
    ·rw [hok7,hio,idx_eq LP.zs]
     cases st7 with
     | error p =>
      show 0 < T.length + 2 - g'.I
      omega
     | ok l3 =>
      have hl7 : Live T N g7 l3:=hst7
      have:=live_len hl7
      have e2 : lenS (Except.ok l3) = l3.length:=rfl
      show T.length + 2 - idxZ R _ < T.length + 2 - g'.I
      rw [idx_eq z8]
      omega
   ·have x2 : ((els.length : Int) == 0) = false:=by
     cases els with
     | nil => exact absurd rfl h0
     | cons a b => simp;omega
    have X:=zis_any LP.zs [125]
    rw [← live_isP hl'] at X
    by_cases hqe : isP [125] l' = true
    ·rw [hqe] at X
     have MU:=fun w5 (z5 : Zs R B L T N w5 g') => zmust_any z5 [125] (by omega)
     have mst:=must_st (T:=T) (N:=N) LP.sts (s:=[125]) (by decide)
     obtain ⟨u1,u2,u3,u4,u5⟩:=must_facts (T:=T) (N:=N) g' [125]
     replace u1:=Nat.le_of_eq u1
     generalize g'.must T N [125] = g6 at *
     have ha6 : g6.a = g.a + 1:=u2.trans LP.a
     have hrow:=LP.row
     have hkp:=LP.kp
     have hrel:=LP.rel
     have hf6 : g6.fx = g.fx:=u5.trans LP.fx
     have hb6 : g6.b = g.b:=u3.trans LP.b
     have hc6 : g6.c = g.c:=u4.trans LP.c
     go_wp2_with (first
      | (go_at_call 75;(with_reducible refine (MU _ (LP.zs.kp j5)).mono ?_);rintro e w6 ⟨rfl,z6,k6⟩)
      | (go_at_call 45;(with_reducible refine X.mono ?_);rintro e w5 ⟨rfl,j5⟩)
      | fail)
     have k56 : Kp (Own1 R) wr w6:=(kp_non j5).trans k6
     obtain ⟨c0,c1,c2,c3,c4,c5,c6,c7,c8,fz⟩:=z6.cells
     rw [ha6] at c4
     have hF0:=z6.set 4 (.int .i64 g.a) { g6 with a:=g.a } (by simp) z6.low (by have:=z6.da;simp only;omega)
     have K7 : Kp (Own1 R) wr (w6.setCell ⟨R,4,none⟩ (.int .i64 g.a)):=k56.set R 4 _ (Or.inr rfl)
     have sC : w6.drew.cell? ⟨R,4,none⟩ = some (.int .i64 (g.a + 1)):=c4
     have sR : ∀ j,w6.drew.frozen? ⟨R,j,none⟩ = false:=fz
     have hst6 : St T N { g6 with a:=g.a } (rest (thnS (mustS [125]) (Except.ok l'))):=st_same mst rfl rfl rfl
     clear LP
     go_region
     all_goals go_wp2
     all_goals
      have K8:=K7.drew
      refine bodyPost_ret (v:=.slice lo els.length lc) (by simp [results,Tryz.results44,go_sem]) rfl ⟨els,_,_,_,{ g6 with a:=g.a },rfl,(hrow.keep K8 (fun q e => by have e' : q = R:=e;omega)).at_,⟨hF0.kp ((Kp.refl Non _).drew),hf6,rfl,hb6,hc6,hkp.trans K8⟩,?_,?_,?_⟩
      ·rw [hrel,relS_end SF h0 hqe]
       exact (show Live T N { g6 with a:=g.a } l'.tail from (by have:=hst6;rw [show thnS (mustS [125]) (Except.ok l') = .ok ((),l'.tail) by (show mustS [125] l' = _;unfold mustS;rw [hqe];rfl)] at this;exact this))
      ·rw [hrel,relS_end SF h0 hqe]
       intro a m e;cases e;rfl
      ·show g6.I ≤ bn
       omega
    ·have hqf : isP [125] l' = false:=Bool.eq_false_iff.2 hqe
     have hor : els = [] ∨ isP [125] l' = false:=Or.inr hqf
     rw [hqf] at X
     have hlenl:=live_len hl'
     have hl'l:=hlow.2 l' rfl
     have hfew:=LP.few
     have hTf:=LP.zs.few
     have hgI:=hl'.2.1
     have hl1' : 0 < l'.length:=by
      obtain ⟨r,hr⟩:=live_nx hl'
      rw [hr];exact Nat.succ_pos _
     have hbn:=bn2 (by omega)
     have SE : SetZ R B L T N g'.a (setF (n - 1)):=by rw [LP.a];exact IH (hnn (by omega))
     have SL:=fun w5 (z5 : Zs R B L T N w5 g') => zsel_all hT z5 hl' (LP.fx.trans hf) (LP.b.trans hb) (LP.c.trans hg) SE
     rw [hfq] at SL
     have hLo:=fun k (e : (Value.slice lo els.length lc).ownBlock = some k) => own_block LP.row.own e
     have hkw:=LP.kp.size
     obtain ⟨ti,hti,hy0,hy1,hy2⟩:=info_parts Tryz.infoSel
     go_wp2_with (first
      | (at_builtin;refine wpList_append_lies _ rfl (.tmp 27) (.tmp 29) 55 rfl w.heap.size 65 ti _ 7 128 Tryz.underlying55 hti hy0 hy1 hy2 rfl (by decide) (.slice lo els.length lc) els.length xs rfl (hrow7.own.alloc _) ⟨w7.heap.size + 1,0,none⟩ 1 1 [.int .i64 kk,.string v1,.string v2,.string v3,.slice p1 q1 y1,.slice p2 q2 y2,.slice p3 q3 y3] rfl rfl (World.news_of_block (two_new w7 _ _)) (by intro u hu;simp at hu;rcases hu with rfl | rfl | rfl | rfl | rfl | rfl | rfl <;> rfl) (by decide) (by unfold maxLen;omega) (by omega) (by rw [World.size_alloc,World.size_alloc];omega) _ rfl ?_;intro q8 cp8 w8 own8 gr8 hor8 hlt8;have K78 : Kp (fun k => w.heap.size ≤ k) w7 w8:=(((Kp.refl (fun k => w.heap.size ≤ k) w7).alloc _).alloc _).grew gr8 (fun k e => Or.inr (hLo k e).1);have z8:=zk.zs.farS (fun k e => by have e' : w.heap.size ≤ k:=e;omega) K78;obtain ⟨c0,c1,c2,c3,c4,c5,c6,c7,c8,fz⟩:=z8.cells)
      | (go_at_call 74;(with_reducible refine (SL _ (LP.zs.kp j5)).mono ?_);rintro e w7 ⟨cs,v,g7,rfl,⟨kk,v1,v2,v3,p1,q1,y1,p2,q2,y2,p3,q3,y3,rfl,hat⟩,zk,hst7,hcs7,hbd7⟩;have k57 : Kp (Own1 R) wr w7:=(kp_non j5).trans zk.kp;have hz57:=k57.size;have hrow7:=LP.row.keep (k57.alloc (.cells #[.int .i64 kk,.string v1,.string v2,.string v3,.slice p1 q1 y1,.slice p2 q2 y2,.slice p3 q3 y3] 65)) (fun q e => by have e' : q = R:=e;omega))
      | (go_at_call 45;(with_reducible refine X.mono ?_);rintro e w5 ⟨rfl,j5⟩)
      | fail)
     have hok7:=st_isOk hst7
     have hme8 : f l' = oneR cs (rest (f l')):=by
      cases he : f l' with
      | error p => rfl
      | ok p =>
       obtain ⟨a,m⟩:=p
       rw [hcs7 a m he]
       rfl
     generalize rest (f l') = st7 at *
     have hlS:=one_len SF hme8 hl1'
     have hsw:=j5.size
     have hzm:=zk.kp.size
     have hat9:=hat.keep fun q hq => (al1 w7 (.cells #[.int .i64 kk,.string v1,.string v2,.string v3,.slice p1 q1 y1,.slice p2 q2 y2,.slice p3 q3 y3] 65)).block q hq.2
     have hpV:=hrow7.push (cs:=cs) (P:=w5.heap.size) (De:=Iv w5.heap.size w7.heap.size) (fun k e => Nat.lt_of_lt_of_le (hLo k e).2 hsw) (by omega) hat9 (fun k hk => ⟨hk.1,by rw [World.size_alloc];have:=hk.2;omega⟩) gr8 hor8 own8
     refine ⟨⟨g7,st7,els ++ [cs],_,_,by rw [hok7],⟨z8,zk.fx.trans LP.fx,zk.a.trans LP.a,zk.b.trans LP.b,zk.c.trans LP.c,hst7,?_,hpV,?_,?_,?_⟩⟩,?_⟩
     ·rw [LP.rel]
      exact relS_step SF hor hme8
     ·have KK:=LP.kp.trans k57
      exact ⟨K78.os.trans KK.os,K78.tape.trans KK.tape,K78.output.trans KK.output,Nat.le_trans KK.size K78.size,fun q hq hS => (K78.block q (by omega) (fun e => by have e' : w.heap.size ≤ q:=e;omega)).trans (KK.block q hq hS)⟩
     ·rw [List.length_append,List.length_cons,List.length_nil]
      have : lenS (Except.ok l') = l'.length:=rfl
      omega
     ·refine ⟨by omega,fun l2 e => ?_⟩
      rw [e] at hlS
      have : lenS (Except.ok l2) = l2.length:=rfl
      omega
     ·rw [hok7,hio,idx_eq LP.zs]
      cases st7 with
      | error p =>
       show 0 < T.length + 2 - g'.I
       omega
      | ok l3 =>
       have hl7 : Live T N g7 l3:=hst7
       have:=live_len hl7
       have e2 : lenS (Except.ok l3) = l3.length:=rfl
       show T.length + 2 - idxZ R _ < T.length + 2 - g'.I
       rw [idx_eq z8]
       omega
theorem zset_all (hT : TF T) : ∀ (n : Nat) (d : Int),d + n = 32 → SetZ R B L T N d (setF n):=by
 intro n
 induction n with
 | zero =>
  intro d hd w g st h hst hf ha hb hg hlo
  exact zset_any hT h hst hf hb hg hlo 0 (by rw [ha];exact hd) (fun h0 => absurd h0 (Nat.lt_irrefl _))
 | succ n ih =>
  intro d hd w g st h hst hf ha hb hg hlo
  exact zset_any hT h hst hf hb hg hlo _ (by rw [ha];exact hd) (fun _ => ih _ (by rw [ha];omega))
end
end
end Go.Proofs.YtgppemlciohjcaaGreatDoor
