/- The document's reader of trees: steps one behind another; a variable that a method fills. -/
import Derived.Test.YtgppemlciohjcaaGreatDoorB40
import Derived.Test.YtgppemlciohjcaaGreatDoorB10
namespace Go.Proofs.YtgppemlciohjcaaGreatDoor
section
open Go Go.RowKit Go.Shelf
section
variable {α β : Type} {T : List Tok} {N : Nat} {g : Sg} {st : Except (Nat × Int) (List Tok)}
theorem thn_go {f : List Tok → Rs α} {G : α → List Tok → Rs β} {v : α} (hv : ∀ a m,thnS f st = .ok (a,m) → v = a) : thnS (fun l => (f l).go G) st = thnS (G v) (rest (thnS f st)):=by
 cases st with
 | error p => rfl
 | ok l =>
  show (f l).go G = thnS (G v) (rest (f l))
  change ∀ a m,f l = .ok (a,m) → v = a at hv
  cases hf : f l with
  | error p => rfl
  | ok p =>
   obtain ⟨a,m⟩:=p
   rw [hv a m hf]
   rfl
theorem rest_ok (x : α) : rest (thnS (fun l => (.ok (x,l) : Rs α)) st) = st:=by cases st <;> rfl
theorem val_ok (x : α) {a : α} {m : List Tok} (h : thnS (fun l => (.ok (x,l) : Rs α)) st = .ok (a,m)) : x = a:=by
 cases st with
 | error p => cases h
 | ok l => cases h;rfl
theorem thn_tail (f : List Tok → Rs α) : thnS (fun l => f l.tail) st = thnS f (tailS st):=by cases st <;> rfl
theorem thn_P (h : St T N g st) (s : Bs) {b : Bool} (hb : ((nx T N g.I).k == 0 && (nx T N g.I).t == s) = b) (f k : List Tok → Rs α) : thnS (fun l => if isP s l then f l else k l) st = bif b then thnS f st else thnS k st:=by
 cases st with
 | error p => cases b <;> rfl
 | ok l =>
  have hl : Live T N g l:=h
  show (if isP s l then f l else k l) = _
  rw [live_isP hl,hb]
  cases b <;> rfl
theorem thn_K (h : St T N g st) (i : Int) {b : Bool} (hb : ((nx T N g.I).k == i) = b) (f k : List Tok → Rs α) : thnS (fun l => if isK i l then f l else k l) st = bif b then thnS f st else thnS k st:=by
 cases st with
 | error p => cases b <;> rfl
 | ok l =>
  have hl : Live T N g l:=h
  show (if isK i l then f l else k l) = _
  rw [live_isK hl,hb]
  cases b <;> rfl
theorem step_P (h : St T N g st) {s : Bs} (hs : s ≠ []) (hb : ((nx T N g.I).k == 0 && (nx T N g.I).t == s) = true) : St T N g.step (tailS st):=by
 cases st with
 | error p => exact (show Dead g p from h).of rfl rfl
 | ok l =>
  have hl : Live T N g l:=h
  exact live_step hl (ne_P hs ((live_isP hl s).trans hb)) rfl hl.2.2
end
def bdn (T : List Tok) (K D : Nat) (g : Sg) : Except (Nat × Int) (List Tok) → Nat
 | .ok l => T.length + K * l.length
 | .error _ => g.I + D
section
variable {R B : Nat} {L : Value} {T : List Tok} {N : Nat} {w : World} {g : Sg}
def RowY (R B : Nat) (L : Value) (T : List Tok) (N E sz K D : Nat) (w : World) (g : Sg) (st : Except (Nat × Int) (List Tok)) (r : Rs (List (List CT))) (e : Ending) (w' : World) : Prop :=
 ∃ els o n c g',e = .returned (.slice o n c) ∧ At w' (Iv w.heap.size w'.heap.size) (rowC E sz els) (.slice o n c) ∧ ZK R B L T N w g w' g' ∧ St T N g' (rest r) ∧ (∀ a m,r = .ok (a,m) → els = a) ∧ g'.I ≤ bdn T K D g st
structure Ln (R B : Nat) (L : Value) (T : List Tok) (N : Nat) (w0 : World) (g0 : Sg) (E : Nat) (ou : Obj) (ys : List CT) (cs : Array Value) (w : World) (g : Sg) (st : Except (Nat × Int) (List Tok)) : Prop where
 zs : Zs R B L T N w g
 sts : St T N g st
 var : w.heap[w0.heap.size + 1]? = some (.cells cs E (0,0))
 ats : Ats w (Iv (w0.heap.size + 2) w.heap.size) ys cs.toList
 kp : Kp (Own1 R) (w0.alloc ou) w
 bs : B ≤ w0.heap.size
 fx : g.fx = g0.fx
 a : g.a = g0.a
 b : g.b = g0.b
 c : g.c = g0.c
variable {w0 w' : World} {g0 g' : Sg} {E : Nat} {ou : Obj} {ys : List CT} {cs : Array Value} {st st' : Except (Nat × Int) (List Tok)}
theorem Ln.kpR (h : Ln R B L T N w0 g0 E ou ys cs w g st) (k : Kp (Own1 R) w w') (z : Zs R B L T N w' g') (hs : St T N g' st') (h1 : g'.fx = g.fx) (h2 : g'.a = g.a) (h3 : g'.b = g.b) (h4 : g'.c = g.c) : Ln R B L T N w0 g0 E ou ys cs w' g' st' where
 zs:=z
 sts:=hs
 var:=(k.block _ (lt_of_block h.var) (fun e => by have e' : w0.heap.size + 1 = R:=e;have:=h.zs.rb;have:=h.bs;omega)).trans h.var
 ats:=(h.ats.keep fun q hq => k.block q hq.2 (fun e => by have e' : q = R:=e;have:=hq.1;have:=h.zs.rb;have:=h.bs;omega)).mono fun q hq => ⟨hq.1,Nat.lt_of_lt_of_le hq.2 k.size⟩
 kp:=h.kp.trans k
 bs:=h.bs
 fx:=h1.trans h.fx
 a:=h2.trans h.a
 b:=h3.trans h.b
 c:=h4.trans h.c
theorem Ln.call (h : Ln R B L T N w0 g0 E ou ys cs w g st) (zk : ZK R B L T N w g w' g') (hs : St T N g' st') : Ln R B L T N w0 g0 E ou ys cs w' g' st':=h.kpR zk.kp zk.zs hs zk.fx zk.a zk.b zk.c
theorem Ln.look (h : Ln R B L T N w0 g0 E ou ys cs w g st) (k : Kp Non w w') : Ln R B L T N w0 g0 E ou ys cs w' g st:=h.kpR (kp_non k) (h.zs.kp k) h.sts rfl rfl rfl rfl
theorem Ln.stepI (h : Ln R B L T N w0 g0 E ou ys cs w g st) (hl : g.I < 1000000000) (hs : St T N g.step st') : Ln R B L T N w0 g0 E ou ys cs (w.setCell ⟨R,1,none⟩ (.int .i64 ((g.I : Int) + 1))) g.step st':=h.kpR (Kp.own R 1 _) (h.zs.step hl) hs rfl rfl rfl rfl
theorem ats_set {D : Nat → Prop} {ys : List CT} {us : List Value} (h : Ats w D ys us) (i : Nat) {y : CT} {v : Value} (hy : At w D y v) : Ats w D (ys.set i y) (us.set i v):=by
 refine ⟨by simp [h.len],fun j x u h1 h2 => ?_⟩
 by_cases e : i = j
 ·subst e
  rw [List.getElem?_set] at h1 h2
  rw [if_pos rfl] at h1 h2
  split at h1
  ·split at h2
   ·cases h1;cases h2;exact hy
   ·cases h2
  ·cases h1
 ·rw [List.getElem?_set_ne e] at h1 h2
  exact h.all j x u h1 h2
theorem Ln.put (h : Ln R B L T N w0 g0 E ou ys cs w g st) (i : Nat) {y : CT} {v : Value} (hy : At w (Iv (w0.heap.size + 2) w.heap.size) y v) : Ln R B L T N w0 g0 E ou (ys.set i y) (cs.setIfInBounds i v) (w.setCell ⟨w0.heap.size + 1,i,none⟩ v) g st where
 zs:=h.zs.far (X:=w0.heap.size + 1) (by have:=h.bs;omega) (Kp.own _ i v)
 sts:=h.sts
 var:=by
  rw [heap_setCell_same _ _ i _ _ _ h.var]
 ats:=by
  have k : Kp (Own1 (w0.heap.size + 1)) w (w.setCell ⟨w0.heap.size + 1,i,none⟩ v):=Kp.own _ i v
  have:=((ats_set h.ats i hy).keep (w':=w.setCell ⟨w0.heap.size + 1,i,none⟩ v) fun q hq => k.block q hq.2 (fun e => by have e' : q = w0.heap.size + 1:=e;have:=hq.1;omega)).mono (D':=Iv (w0.heap.size + 2) (w.setCell ⟨w0.heap.size + 1,i,none⟩ v).heap.size) fun q hq => ⟨hq.1,Nat.lt_of_lt_of_le hq.2 k.size⟩
  simpa using this
 kp:=h.kp.set _ i v (Or.inl (by simp))
 bs:=h.bs
 fx:=h.fx
 a:=h.a
 b:=h.b
 c:=h.c
theorem Ln.leaf (h : Ln R B L T N w0 g0 E ou ys cs w g st) (i : Nat) (v : Value) : Ln R B L T N w0 g0 E ou (ys.set i (.lf v)) (cs.setIfInBounds i v) (w.setCell ⟨w0.heap.size + 1,i,none⟩ v) g st:=h.put i (.lf v)
end
end
section
open Go Go.RowKit Go.Shelf
section
variable {R B : Nat} {L : Value} {T : List Tok} {N : Nat} {w : World} {g : Sg}
structure Ld (R B : Nat) (L : Value) (T : List Tok) (N Q E sz : Nat) (w0 : World) (g : Sg) (f : List Tok → Rs (List CT)) (first : Bs) (st1 : Except (Nat × Int) (List Tok)) (bn : Nat) (wr : World) (g' : Sg) (st : Except (Nat × Int) (List Tok)) (els : List (List CT)) (lv : Value) (xs : List Value) (D : Nat → Prop) : Prop where
 zs : Zs R B L T N wr g'
 fx : g'.fx = g.fx
 a : g'.a = g.a
 b : g'.b = g.b
 c : g'.c = g.c
 sts : St T N g' st
 rel : thnS (ledS f first) st1 = (thnS (ledS f first) st).go fun vs l1 => .ok (els ++ vs,l1)
 row : Vr Q E sz wr lv els xs D
 kp : Kp (Own1 R) w0 wr
 few : els.length + lenS st ≤ 2049
 low : g'.I ≤ bn ∧ (∀ l,st = .ok l → l.length ≤ lenS st1)
theorem led_step {f : List Tok → Rs (List CT)} (hf : Keeps f) {first : Bs} {els : List (List CT)} {l : List Tok} {cs : List CT} {st7 : Except (Nat × Int) (List Tok)} (h : isP first l = true) (hr : f l.tail = oneR cs st7) : ((ledS f first l).go fun vs l1 => .ok (els ++ vs,l1)) = (thnS (ledS f first) st7).go fun vs l1 => .ok ((els ++ [cs]) ++ vs,l1):=by
 rw [ledS_eq hf,h,hr]
 cases st7 with
 | error p => rfl
 | ok m =>
  simp only [oneR,go_ok,if_true]
  show ((ledS f first m).go _).go _ = (ledS f first m).go _
  cases ledS f first m with
  | error p => rfl
  | ok p => simp [Rs.go]
theorem dir_st {fx : Bool} {l : List Tok} {nm : Bs} {els : List (List CT)} (hn : ∀ a m,nameS l = .ok (a,m) → a = nm) (hc : ∀ a m,thnS (argsS fx) (rest (nameS l)) = .ok (a,m) → els = a) : dirS fx l = oneR [sC nm,rowC 121 5 els] (rest (thnS (argsS fx) (rest (nameS l)))):=by
 unfold dirS
 cases h1 : nameS l with
 | error p => rfl
 | ok p =>
  obtain ⟨a,m⟩:=p
  rw [h1] at hc
  have e1:=hn a m h1
  subst e1
  simp only [go_ok]
  change ∀ a' m',argsS fx m = .ok (a',m') → els = a' at hc
  show _ = oneR _ (rest (argsS fx m))
  cases h2 : argsS fx m with
  | error p => rfl
  | ok p =>
   obtain ⟨v,m3⟩:=p
   have:=hc v m3 h2
   subst this
   rfl
theorem dir_len {fx : Bool} {l : List Tok} : (∀ l3,rest (nameS l) = .ok l3 → l3.length < l.length) ∧ (∀ l3,rest (thnS (argsS fx) (rest (nameS l))) = .ok l3 → l3.length < l.length):=by
 have A : ∀ l3,rest (nameS l) = .ok l3 → l3.length < l.length:=by
  intro l3 e
  cases h1 : nameS l with
  | error p => rw [h1] at e;cases e
  | ok p =>
   rw [h1] at e
   have q1:=nameS_eats _ _ _ h1
   cases e
   exact q1
 refine ⟨A,fun l3 e => ?_⟩
 cases h2 : rest (nameS l) with
 | error p => rw [h2] at e;cases e
 | ok l2 =>
  rw [h2] at e
  have q1:=A l2 h2
  change rest (argsS fx l2) = _ at e
  cases h3 : argsS fx l2 with
  | error p => rw [h3] at e;cases e
  | ok p =>
   rw [h3] at e
   have q2:=argsS_keeps fx _ _ _ h3
   cases e
   omega
set_option maxRecDepth 100000 in
set_option maxHeartbeats 4000000 in
theorem zdirs_all (hT : TF T) (h : Zs R B L T N w g) {st : Except (Nat × Int) (List Tok)} (hst : St T N g st) (fx : Bool) (hf : g.fx = fx) (hb : g.b = 0) (hlo : g.I < 900000) : Calls Tryz.prog 43 #[.pointer (some ⟨R,0,none⟩)] w (RowY R B L T N 97 2 16 0 w g st (thnS (dirsS fx) st)):=by
 have hBs:=h.bs
 have hRl:=h.lt
 have hrb:=h.rb
 have hTn:=h.few
 have k0 : Kp Non w (w.alloc (.cells #[] 97)):=(Kp.refl Non w).alloc _
 have k0' : Kp (Own1 R) w (w.alloc (.cells #[] 97)):=(Kp.refl (Own1 R) w).alloc _
 have hb1 : g.I ≤ bdn T 16 0 g st ∧ bdn T 16 0 g st ≤ 1000000 ∧ (0 < lenS st → T.length + 16 * lenS st ≤ bdn T 16 0 g st) ∧ lenS st ≤ 2049:=by
  cases st with
  | error p =>
   show g.I ≤ g.I + 0 ∧ g.I + 0 ≤ 1000000 ∧ (0 < 0 → _) ∧ 0 ≤ 2049
   exact ⟨by omega,by omega,fun e => absurd e (Nat.lt_irrefl _),by omega⟩
  | ok l =>
   have hl : Live T N g l:=hst
   have h1:=live_len hl
   have h2:=hl.2.1
   show g.I ≤ T.length + 16 * l.length ∧ T.length + 16 * l.length ≤ 1000000 ∧ (0 < l.length → T.length + 16 * l.length ≤ T.length + 16 * l.length) ∧ l.length ≤ 2049
   exact ⟨by omega,by omega,fun e => by omega,by omega⟩
 obtain ⟨bn0,bn1,bn2,bn3⟩:=hb1
 unfold RowY dirsS
 generalize hst1 : st = st1 at *
 generalize bdn T 16 0 g st1 = bn at *
 clear hst1
 go_enter Tryz.func43,Tryz.ntmps43
 go_wp2
 go_loopw [3] (fun lv wr => ∃ g' st els xs D,Ld R B L T N w.heap.size 97 2 w g (dirS fx) [64] st1 bn wr g' st els lv xs D) (fun _ wr => if erZ R wr = 0 then T.length + 2 - idxZ R wr else 0)
 case atStart =>
  refine ⟨g,st1,[],_,_,⟨h.kp k0,rfl,rfl,rfl,rfl,hst,?_,vr_empty w (Nat.le_refl _),k0',?_,?_⟩⟩
  ·cases thnS (ledS (dirS fx) [64]) st1 with
   | error p => rfl
   | ok p => rfl
  ·simp only [List.length_nil]
   omega
  ·exact ⟨bn0,fun l' e => by rw [e];exact Nat.le_refl _⟩
 case round =>
  obtain ⟨g',st,els,xs,D,LP⟩:=hrel
  obtain ⟨lo,lc,rfl⟩:=LP.row.slice
  have hlow:=LP.low
  obtain ⟨d0,d1,d2,d3,d4,d5,d6,d7,d8,dz⟩:=LP.zs.cells
  cases st with
  | error p =>
   have x1 : (g'.er == 0) = false:=by rw [st_isOk LP.sts];rfl
   go_wp2
   refine bodyPost_ret (v:=.slice lo els.length lc) (by simp [results,Tryz.results43,go_sem]) rfl ⟨els,_,_,_,g',rfl,LP.row.at_,⟨LP.zs,LP.fx,LP.a,LP.b,LP.c,LP.kp⟩,?_,?_,hlow.1⟩
   ·rw [LP.rel]
    exact LP.sts
   ·rw [LP.rel]
    intro a m e;cases e
  | ok l' =>
   have x1 : (g'.er == 0) = true:=by rw [st_isOk LP.sts];rfl
   have hl' : Live T N g' l':=LP.sts
   have X:=zis_any LP.zs [64]
   rw [← live_isP hl'] at X
   by_cases hq : isP [64] l' = true
   ·rw [hq] at X
    have hlenl:=live_len hl'
    have hl'l:=hlow.2 l' rfl
    have hfew:=LP.few
    have hTf:=LP.zs.few
    have hgI:=hl'.2.1
    have hlt : Live T N g'.step l'.tail:=live_step hl' (ne_P (by decide) hq) rfl hl'.2.2
    have hltl : l'.tail.length + 1 = l'.length:=by
     obtain ⟨r,hr⟩:=live_nx hl'
     rw [hr];rfl
    have hltp : 0 < l'.tail.length:=by
     obtain ⟨r,hr⟩:=live_nx hlt
     rw [hr];exact Nat.succ_pos _
    obtain ⟨hns,hnm⟩:=name_st (T:=T) (N:=N) (st:=.ok l'.tail) hT hlt
    have hns' : St T N (g'.step.name T N []) (rest (nameS l'.tail)):=hns
    have hnm' : ∀ a m,nameS l'.tail = .ok (a,m) → a = (nx T N g'.step.I).t:=hnm
    obtain ⟨n1,n2,n3,n4,n5⟩:=name_facts (T:=T) (N:=N) g'.step []
    have hsI : g'.step.I = g'.I + 1:=rfl
    have hs2 : g'.step.a = g'.a:=rfl
    have hs3 : g'.step.b = g'.b:=rfl
    have hs4 : g'.step.c = g'.c:=rfl
    have hs5 : g'.step.fx = g'.fx:=rfl
    have ZT:=fun w5 (z5 : Zs R B L T N w5 g') => z5.step (by omega)
    have NA:=fun w5 (z5 : Zs R B L T N w5 g'.step) => zname_any z5 [] (by omega)
    clear hns hnm
    generalize (nx T N g'.step.I).t = nm at *
    generalize g'.step.name T N [] = g2 at *
    generalize g'.step = gS at *
    have hdl:=dir_len (fx:=fx) (l:=l'.tail)
    have hde:=fun els => dir_st (fx:=fx) (l:=l'.tail) (nm:=nm) (els:=els) hnm'
    generalize rest (nameS l'.tail) = st3 at *
    have VC:=fun w5 (z5 : Zs R B L T N w5 g2) => zargs_all hT z5 hns' fx (by rw [n5,hs5,LP.fx,hf]) (by rw [n3,hs3,LP.b,hb]) (by omega)
    have hLo:=fun k (e : (Value.slice lo els.length lc).ownBlock = some k) => own_block LP.row.own e
    have hkw:=LP.kp.size
    obtain ⟨ti,hti,hy0,hy1,hy2⟩:=info_parts Tryz.infoDir
    go_wp2_with (first
     | (at_builtin;refine wpList_append_lies _ rfl (.tmp 27) (.tmp 31) 54 rfl w.heap.size 97 ti _ 2 40 Tryz.underlying54 hti hy0 hy1 hy2 rfl (by decide) (.slice lo els.length lc) els.length xs rfl (hrow7.own.alloc _) ⟨w7.heap.size,0,none⟩ 1 1 [.string ⟨nm.toArray⟩,.slice p1 q1 z1] rfl rfl (World.news_of_block (heap_alloc_new w7 _)) (by intro u hu;simp at hu;rcases hu with rfl | rfl <;> rfl) (by decide) (by unfold maxLen;omega) (by omega) (by rw [World.size_alloc];omega) _ rfl ?_;intro q8 cp8 w8 own8 gr8 hor8 hlt8)
     | (go_at_call 72;(with_reducible refine (VC _ zn).mono ?_);rintro e w7 ⟨as_,p1,q1,z1,g7,rfl,hat,zk,hst7,hcs7,hbd7⟩;have k57 : Kp (Own1 R) wr w7:=((kp_non (S:=Own1 R) j5).set R 1 _ (Or.inr rfl)).trans (kn.trans zk.kp);have hz57:=k57.size;have hrow7:=LP.row.keep k57 (fun q e => by have e' : q = R:=e;omega))
     | (go_at_call 41;(with_reducible refine (NA _ z6).mono ?_);rintro e wn ⟨rfl,zn,kn⟩)
     | (go_at_call 45;(with_reducible refine X.mono ?_);rintro e w5 ⟨rfl,j5⟩;have z6:=ZT _ (LP.zs.kp j5);obtain ⟨e0,e1,e2,e3,e4,e5,e6,e7,e8,ez⟩:=(LP.zs.kp j5).cells)
     | fail)
    have hst8 : St T N g7 (rest (thnS (argsS fx) st3)):=hst7
    have hok7:=st_isOk hst8
    have hme8:=hde as_ hcs7
    have hbn:=bn2 (by omega)
    have hbd8 : g7.I ≤ bn:=by
     cases st3 with
     | error p =>
      have : g7.I ≤ g2.I + 16:=hbd7
      omega
     | ok l3 =>
      have : g7.I ≤ T.length + 16 * l3.length:=hbd7
      have:=hdl.1 l3 rfl
      omega
    have hdl2:=hdl.2
    generalize rest (thnS (argsS fx) st3) = st7 at *
    have hlS : lenS st7 < l'.length:=by
     cases st7 with
     | error p => exact Nat.lt_of_lt_of_le hltp (by omega)
     | ok l3 => have:=hdl2 l3 rfl;show l3.length < _;omega
    have hsw : wr.heap.size ≤ wn.heap.size:=by have:=j5.size;have hk2:=kn.size;rw [show (w5.setCell ⟨R,1,none⟩ (.int .i64 ((g'.I : Int) + 1))).heap.size = w5.heap.size by simp [World.setCell]] at hk2;omega
    have hzm:=zk.kp.size
    have hpV:=hrow7.push (cs:=[sC nm,rowC 121 5 as_]) (P:=wn.heap.size) (De:=Iv wn.heap.size w7.heap.size) (fun k e => Nat.lt_of_lt_of_le (hLo k e).2 hsw) (by omega) (Ats.cons (.lf _) (Ats.cons hat Ats.nil)) (fun k hk => hk) gr8 hor8 own8
    have K78 : Kp (fun k => w.heap.size ≤ k) w7 w8:=((Kp.refl (fun k => w.heap.size ≤ k) w7).alloc _).grew gr8 (fun k e => Or.inr (hLo k e).1)
    have z8:=zk.zs.farS (fun k e => by have e' : w.heap.size ≤ k:=e;omega) K78
    refine ⟨⟨g7,st7,els ++ [[sC nm,rowC 121 5 as_]],_,_,⟨z8,zk.fx.trans (n5.trans (hs5.trans LP.fx)),zk.a.trans (n2.trans (hs2.trans LP.a)),zk.b.trans (n3.trans (hs3.trans LP.b)),zk.c.trans (n4.trans (hs4.trans LP.c)),hst8,?_,hpV,?_,?_,?_⟩⟩,?_⟩
    ·rw [LP.rel]
     exact led_step (dirS_eats fx).keeps hq hme8
    ·have KK:=LP.kp.trans k57
     exact ⟨K78.os.trans KK.os,K78.tape.trans KK.tape,K78.output.trans KK.output,Nat.le_trans KK.size K78.size,fun q hq hS => (K78.block q (by omega) (fun e => by have e' : w.heap.size ≤ q:=e;omega)).trans (KK.block q hq hS)⟩
    ·rw [List.length_append,List.length_cons,List.length_nil]
     have : lenS (Except.ok l') = l'.length:=rfl
     omega
    ·refine ⟨hbd8,fun l2 e => ?_⟩
     rw [e] at hlS
     have : lenS (Except.ok l2) = l2.length:=rfl
     omega
    ·rw [erZ_eq z8,erZ_eq LP.zs,idx_eq z8,idx_eq LP.zs,hl'.2.2,if_pos rfl]
     cases st7 with
     | error p =>
      have hd : Dead g7 p:=hst8
      rw [if_neg (by rw [hd.1];exact hd.2.1)]
      omega
     | ok l3 =>
      have hl7 : Live T N g7 l3:=hst8
      have:=live_len hl7
      have e2 : lenS (Except.ok l3) = l3.length:=rfl
      rw [hl7.2.2,if_pos rfl]
      omega
   ·have hqf : isP [64] l' = false:=Bool.eq_false_iff.2 hq
    rw [hqf] at X
    have hled : ledS (dirS fx) [64] l' = .ok ([],l'):=by rw [ledS_eq (dirS_eats fx).keeps,hqf];rfl
    go_wp2_with (first
     | (go_at_call 45;(with_reducible refine X.mono ?_);rintro e w5 ⟨rfl,j5⟩)
     | fail)
    have k5 : Kp (Own1 R) wr w5:=kp_non j5
    refine bodyPost_ret (v:=.slice lo els.length lc) (by simp [results,Tryz.results43,go_sem]) rfl ⟨els,_,_,_,g',rfl,(LP.row.keep j5 (fun q e => e.elim)).at_,⟨LP.zs.kp j5,LP.fx,LP.a,LP.b,LP.c,LP.kp.trans k5⟩,?_,?_,hlow.1⟩
    ·rw [LP.rel,show thnS (ledS (dirS fx) [64]) (Except.ok l') = .ok ([],l') from hled]
     exact LP.sts
    ·rw [LP.rel,show thnS (ledS (dirS fx) [64]) (Except.ok l') = .ok ([],l') from hled]
     intro a m e;simp only [go_ok,List.append_nil] at e;cases e;rfl
end
end
section
open Go Go.RowKit Go.Shelf
section
variable {R B : Nat} {L : Value} {T : List Tok} {N : Nat} {w : World} {g : Sg} {w0 : World} {g0 : Sg} {E : Nat} {ou : Obj} {ys : List CT} {cs : Array Value} {st : Except (Nat × Int) (List Tok)}
theorem ln_new (h : Zs R B L T N w g) (hs : St T N g st) (ha : Ats ((w.alloc ou).alloc (.cells cs E)) (Iv (w.heap.size + 2) ((w.alloc ou).alloc (.cells cs E)).heap.size) ys cs.toList) : Ln R B L T N w g E ou ys cs ((w.alloc ou).alloc (.cells cs E)) g st where
 zs:=h.kp (((Kp.refl Non w).alloc _).alloc _)
 sts:=hs
 var:=two_new w _ _
 ats:=ha
 kp:=(Kp.refl (Own1 R) _).alloc _
 bs:=h.bs
 fx:=rfl
 a:=rfl
 b:=rfl
 c:=rfl
theorem Ln.fin (h : Ln R B L T N w0 g0 E ou ys cs w g st) {w4 : World} (k : Kp (Own1 w0.heap.size) w w4) : ZK R B L T N w0 g0 w4 g ∧ Ats w4 (Iv w0.heap.size w4.heap.size) ys cs.toList :=
 ⟨⟨h.zs.far h.bs k,h.fx,h.a,h.b,h.c,(((Kp.refl (Own1 R) w0).alloc ou).trans h.kp).ret k (Nat.le_refl _)⟩,(h.ats.keep fun q hq => k.block q hq.2 (fun e => by have e' : q = w0.heap.size:=e;have:=hq.1;omega)).mono fun q hq => ⟨by have:=hq.1;omega,Nat.lt_of_lt_of_le hq.2 k.size⟩⟩
theorem Ln.res {cs0 : Array Value} {E0 : Nat} (h : Ln R B L T N w0 g0 E (.cells cs0 E0) ys cs w g st) : w.heap[w0.heap.size]? = some (.cells cs0 E0 (0,0)):=new_row h.kp (fun e => by have e' : w0.heap.size = R:=e;have:=h.zs.rb;have:=h.bs;omega)
def KindZ (R B : Nat) (L : Value) (T : List Tok) (N n : Nat) (w : World) (g : Sg) (st : Except (Nat × Int) (List Tok)) (r : Rs (Bs × Bs)) (e : Ending) (w' : World) : Prop :=
 ∃ nm wr g',e = .returned (.agg #[.string ⟨nm.toArray⟩,.string ⟨wr.toArray⟩]) ∧ ZK R B L T N w g w' g' ∧ St T N g' (rest r) ∧ (∀ a m,r = .ok (a,m) → ((nm,wr) : Bs × Bs) = a) ∧ wr.length ≤ 2 * n + 2 ∧ g'.I ≤ bdn T 16 0 g st
theorem ats_ref (w : World) (D : Nat → Prop) : Ats w D [sC [],sC []] [.string ⟨#[]⟩,.string ⟨#[]⟩]:=Ats.cons (.lf _) (Ats.cons (.lf _) Ats.nil)
set_option maxRecDepth 100000 in
set_option maxHeartbeats 2000000 in
theorem zkind_none (h : Zs R B L T N w g) {p : Nat × Int} (hd : Dead g p) : Calls Tryz.prog 76 #[.pointer (some ⟨R,0,none⟩)] w fun e w' => e = .returned (.agg #[.string ⟨#[]⟩,.string ⟨#[]⟩]) ∧ ZK R B L T N w g w' g:=by
 have x1 : (g.er == 0) = false:=by have:=hd.1;have:=hd.2.1;simp;omega
 have x2 : (g.er != 0) = true:=by simp only [bne,x1];rfl
 have LN:=ln_new (ou:=zR) (cs:=#[.string ⟨#[]⟩,.string ⟨#[]⟩]) (E:=67) (ys:=[sC [],sC []]) (st:=.error p) h hd (ats_ref _ _)
 obtain ⟨c0,c1,c2,c3,c4,c5,c6,c7,c8,fz⟩:=LN.zs.cells
 obtain ⟨v0,v1,fv⟩:=row2 LN.var
 obtain ⟨m0,m1,fm⟩:=row2 LN.res
 go_enter Tryz.func76,Tryz.ntmps76
 go_wp2
 obtain ⟨r1,r2⟩:=LN.fin (Kp.refl _ _)
 refine bodyPost_ret (v:=.agg #[.string ⟨#[]⟩,.string ⟨#[]⟩]) (by simp [results,Tryz.results76,go_sem,m0,m1]) rfl ⟨rfl,r1⟩
theorem zkind_dead (h : Zs R B L T N w g) {p : Nat × Int} (hd : Dead g p) (n : Nat) : Calls Tryz.prog 76 #[.pointer (some ⟨R,0,none⟩)] w (KindZ R B L T N n w g (.error p) (.error p)):=by
 refine (zkind_none h hd).mono ?_
 rintro e w' ⟨rfl,zk⟩
 exact ⟨[],[],g,rfl,zk,hd,fun a m e => (by cases e),Nat.zero_le _,Nat.le_refl _⟩
theorem st_same {g' : Sg} (h : St T N g st) (h1 : g'.I = g.I) (h2 : g'.er = g.er) (h3 : g'.at_ = g.at_) : St T N g' st:=by
 cases st with
 | error p => exact (show Dead g p from h).of h2 h3
 | ok l =>
  have hl : Live T N g l:=h
  exact ⟨by rw [h1];exact hl.1,by rw [h1];exact hl.2.1,h2.trans hl.2.2⟩
theorem Ln.kpG (h : Ln R B L T N w0 g0 E ou ys cs w g st) {g1 g' : Sg} {w' : World} {st' : Except (Nat × Int) (List Tok)} (k : Kp (Own1 R) w w') (z : Zs R B L T N w' g') (hs : St T N g' st') (h1 : g'.fx = g1.fx) (h2 : g'.a = g1.a) (h3 : g'.b = g1.b) (h4 : g'.c = g1.c) : Ln R B L T N w0 g1 E ou ys cs w' g' st' where
 zs:=z
 sts:=hs
 var:=(k.block _ (lt_of_block h.var) (fun e => by have e' : w0.heap.size + 1 = R:=e;have:=h.zs.rb;have:=h.bs;omega)).trans h.var
 ats:=(h.ats.keep fun q hq => k.block q hq.2 (fun e => by have e' : q = R:=e;have:=hq.1;have:=h.zs.rb;have:=h.bs;omega)).mono fun q hq => ⟨hq.1,Nat.lt_of_lt_of_le hq.2 k.size⟩
 kp:=h.kp.trans k
 bs:=h.bs
 fx:=h1
 a:=h2
 b:=h3
 c:=h4
theorem refF_name (n : Nat) {l : List Tok} {nm : Bs} (hp : isP [91] l = false) (hn : ∀ a m,nameS l = .ok (a,m) → nm = a) : refF n l = thnS (refB (nm,[])) (rest (nameS l)):=by
 have : refF n l = ((nameS l).go fun t l1 => .ok ((t,[]),l1)).go refB:=by
  cases n <;> (show refG _ l = _;unfold refG;rw [if_neg (by rw [hp];decide)])
 rw [this]
 cases h : nameS l with
 | error p => rfl
 | ok p =>
  obtain ⟨a,m⟩:=p
  rw [hn a m h]
  rfl
theorem refF_in (n : Nat) (c : Int) (hc : c + n = 32) {l : List Tok} {nm wr : Bs} (hp : isP [91] l = true) (hk : ∀ a m,thnS (refF (n - 1)) (rest (openS [91] c l)) = .ok (a,m) → ((nm,wr) : Bs × Bs) = a) : refF n l = thnS (refB (nm,wr ++ [91])) (rest (thnS (mustS [93]) (rest (thnS (refF (n - 1)) (rest (openS [91] c l)))))):=by
 have h0 : openS [91] c l = if 32 ≤ c then .error (atT l,61) else .ok ((),l.tail):=by unfold openS;rw [hp];rfl
 rw [h0] at hk ⊢
 cases n with
 | zero =>
  show refG none l = _
  unfold refG
  rw [if_pos hp,if_pos (by omega)]
  rfl
 | succ n =>
  rw [if_neg (by omega)] at hk ⊢
  show refG (some (refF n)) l = thnS (refB (nm,wr ++ [91])) (rest (thnS (mustS [93]) (rest (refF n l.tail))))
  change ∀ a m,refF n l.tail = .ok (a,m) → _ at hk
  unfold refG
  rw [if_pos hp]
  simp only
  cases h : refF n l.tail with
  | error p => rfl
  | ok p =>
   obtain ⟨a,m⟩:=p
   have:=hk a m h
   subst this
   simp only [go_ok]
   show ((mustS [93] m).go fun _ l2 => (.ok ((nm,wr ++ [91]),l2) : Rs (Bs × Bs))).go refB = thnS (refB (nm,wr ++ [91])) (rest (mustS [93] m))
   cases mustS [93] m with
   | error p => rfl
   | ok p => rfl
theorem refB_st (h : St T N g st) {b : Bool} (hb : ((nx T N g.I).k == 0 && (nx T N g.I).t == [33]) = b) (x : Bs × Bs) : thnS (refB x) st = bif b then thnS (fun l => .ok ((x.1,x.2 ++ [33]),l)) (tailS st) else thnS (fun l => .ok (x,l)) st:=by
 have:=thn_P h [33] hb (fun l => (.ok ((x.1,x.2 ++ [33]),l.tail) : Rs (Bs × Bs))) (fun l => .ok (x,l))
 rw [← thn_tail (fun l => (.ok ((x.1,x.2 ++ [33]),l) : Rs (Bs × Bs)))]
 exact this
theorem opens2_facts (g : Sg) (s : Bs) : (g.opens2 T N s).I = g.I + 1 ∧ (g.opens2 T N s).c = g.c + 1 ∧ (g.opens2 T N s).a = g.a ∧ (g.opens2 T N s).b = g.b ∧ (g.opens2 T N s).fx = g.fx:=by
 unfold Sg.opens2
 refine ⟨rfl,rfl,?_,?_,?_⟩ <;> simp only <;> (repeat' split) <;> simp [bad_abc]
set_option maxRecDepth 100000 in
set_option maxHeartbeats 4000000 in
theorem zkind_name (hT : TF T) (h : Zs R B L T N w g) {l : List Tok} (hl : Live T N g l) (n : Nat) (hp : isP [91] l = false) : Calls Tryz.prog 76 #[.pointer (some ⟨R,0,none⟩)] w (KindZ R B L T N n w g (.ok l) (refF n l)):=by
 have x1 : (g.er == 0) = true:=by simp [hl.2.2]
 have x2 : (g.er != 0) = false:=by simp only [bne,x1];rfl
 have hTf:=h.few
 have hI:=hl.2.1
 have hbs:=h.bs
 have hrb:=h.rb
 have LN:=ln_new (ou:=zR) (cs:=#[.string ⟨#[]⟩,.string ⟨#[]⟩]) (E:=67) (ys:=[sC [],sC []]) (st:=.ok l) h hl (ats_ref _ _)
 obtain ⟨c0,c1,c2,c3,c4,c5,c6,c7,c8,fz⟩:=LN.zs.cells
 have I0:=zis_any LN.zs [91]
 rw [← live_isP hl,hp] at I0
 obtain ⟨hns,hnm⟩:=name_st (T:=T) (N:=N) (st:=.ok l) hT hl
 have hns' : St T N (g.name T N []) (rest (nameS l)):=hns
 have hnm' : ∀ a m,nameS l = .ok (a,m) → (nx T N g.I).t = a:=fun a m e => (hnm a m e).symm
 obtain ⟨n1,n2,n3,n4,n5⟩:=name_facts (T:=T) (N:=N) g []
 replace n1:=Nat.le_of_eq n1
 have NA:=fun w5 (z5 : Zs R B L T N w5 g) => zname_any z5 [] (by omega)
 clear hns hnm
 have hlen:=live_len hl
 rw [refF_name n hp hnm']
 generalize (nx T N g.I).t = nm at *
 generalize g.name T N [] = g2 at *
 generalize rest (nameS l) = st2 at *
 have I2:=fun w5 (z5 : Zs R B L T N w5 g2) => zis_any z5 [33]
 cases hb : ((nx T N g2.I).k == 0 && (nx T N g2.I).t == [33]) with
 | false =>
  rw [refB_st hns' hb]
  rw [hb] at I2
  go_enter Tryz.func76,Tryz.ntmps76
  go_wp2_with (first
   | (go_at_call 45;(with_reducible refine (I2 _ LN3.zs).mono ?_);rintro e w4 ⟨rfl,j4⟩;have LN4:=LN3.look j4;obtain ⟨v0,v1,fv⟩:=row2 LN4.var;obtain ⟨m0,m1,fm⟩:=row2 LN4.res)
   | (go_at_call 41;(with_reducible refine (NA _ LN1.zs).mono ?_);rintro e w2 ⟨rfl,z2,k2⟩;have LN2:=LN1.kpR k2 z2 hns' n5 n2 n3 n4;obtain ⟨u0,u1,fu⟩:=row2 LN2.var;have LN3:=LN2.leaf 0 (.string ⟨nm.toArray⟩))
   | (go_at_call 45;(with_reducible refine I0.mono ?_);rintro e w1 ⟨rfl,j1⟩;have LN1:=LN.look j1)
   | fail)
  obtain ⟨r1,r2⟩:=LN4.fin (own2 w.heap.size (.string ⟨nm.toArray⟩) (.string ⟨#[]⟩))
  refine bodyPost_ret (v:=.agg #[.string ⟨nm.toArray⟩,.string ⟨#[]⟩]) (by simp [results,Tryz.results76,go_sem,m0,m1]) rfl ⟨nm,[],g2,rfl,r1,?_,fun a m e => val_ok _ e,Nat.zero_le _,?_⟩
  ·show St T N g2 (rest (thnS _ st2))
   rw [rest_ok]
   exact hns'
  ·show g2.I ≤ T.length + 16 * l.length
   omega
 | true =>
  rw [refB_st hns' hb]
  rw [hb] at I2
  have hst3:=step_P hns' (s:=[33]) (by decide) hb
  have hI2 : g2.I < 1000000000:=by omega
  go_enter Tryz.func76,Tryz.ntmps76
  go_wp2_with (first
   | (go_at_call 45;(with_reducible refine (I2 _ LN3.zs).mono ?_);rintro e w4 ⟨rfl,j4⟩;have LN4:=LN3.look j4;have LN5:=LN4.stepI hI2 hst3;obtain ⟨d0,d1,d2,d3,d4,d5,d6,d7,d8,dz⟩:=LN4.zs.cells;obtain ⟨v0,v1,fv⟩:=row2 LN5.var;have LN6:=LN5.leaf 1 (.string ({ data:=#[] } ++ { data:=#[33] }));obtain ⟨t0,t1,ft⟩:=row2 LN6.var;obtain ⟨m0,m1,fm⟩:=row2 LN6.res)
   | (go_at_call 41;(with_reducible refine (NA _ LN1.zs).mono ?_);rintro e w2 ⟨rfl,z2,k2⟩;have LN2:=LN1.kpR k2 z2 hns' n5 n2 n3 n4;obtain ⟨u0,u1,fu⟩:=row2 LN2.var;have LN3:=LN2.leaf 0 (.string ⟨nm.toArray⟩))
   | (go_at_call 45;(with_reducible refine I0.mono ?_);rintro e w1 ⟨rfl,j1⟩;have LN1:=LN.look j1)
   | fail)
  obtain ⟨r1,r2⟩:=LN6.fin (own2 w.heap.size (.string ⟨nm.toArray⟩) (.string ({ data:=#[] } ++ { data:=#[33] })))
  refine bodyPost_ret (v:=.agg #[.string ⟨nm.toArray⟩,.string ({ data:=#[] } ++ { data:=#[33] })]) (by simp [results,Tryz.results76,go_sem,m0,m1]) rfl ⟨nm,[33],g2.step,congrArg (fun z => Ending.returned (Value.agg #[.string ⟨nm.toArray⟩,.string z])) (cat_bytes [] [33]),r1,?_,fun a m e => val_ok _ e,Nat.le_add_left _ _,?_⟩
  ·show St T N g2.step (rest (thnS _ (tailS st2)))
   rw [rest_ok]
   exact hst3
  ·show g2.I + 1 ≤ T.length + 16 * l.length
   obtain ⟨r,hr⟩:=live_nx hl
   have : l.length = r.length + 1:=by rw [hr];rfl
   omega
set_option maxRecDepth 100000 in
set_option maxHeartbeats 4000000 in
theorem zkind_in (h : Zs R B L T N w g) {l : List Tok} (hl : Live T N g l) (n : Nat) (hn : g.c + n = 32) (hp : isP [91] l = true) (IH : 0 < n → ∀ (w : World) (g : Sg) (l : List Tok),Zs R B L T N w g → Live T N g l → g.c + (n - 1 : Nat) = 32 → Calls Tryz.prog 76 #[.pointer (some ⟨R,0,none⟩)] w (KindZ R B L T N (n - 1) w g (.ok l) (refF (n - 1) l))) : Calls Tryz.prog 76 #[.pointer (some ⟨R,0,none⟩)] w (KindZ R B L T N n w g (.ok l) (refF n l)):=by
 have x1 : (g.er == 0) = true:=by simp [hl.2.2]
 have x2 : (g.er != 0) = false:=by simp only [bne,x1];rfl
 have hTf:=h.few
 have hI:=hl.2.1
 have hbs:=h.bs
 have hrb:=h.rb
 have hda:=h.da
 have LN:=ln_new (ou:=zR) (cs:=#[.string ⟨#[]⟩,.string ⟨#[]⟩]) (E:=67) (ys:=[sC [],sC []]) (st:=.ok l) h hl (ats_ref _ _)
 obtain ⟨c0,c1,c2,c3,c4,c5,c6,c7,c8,fz⟩:=LN.zs.cells
 have I0:=zis_any LN.zs [91]
 rw [← live_isP hl,hp] at I0
 have OP:=fun w1 (h' : Zs R B L T N w1 g) => zopens2_any h' [91] (by omega) (by omega)
 obtain ⟨o1,o2,o3,o4,o5⟩:=opens2_facts (T:=T) (N:=N) g [91]
 have hst1 : St T N (g.opens2 T N [91]) (rest (openS [91] g.c l)):=opens_st (st:=.ok l) hl (by decide) g.c rfl o1 rfl rfl
 have hlen:=live_len hl
 have hl1 : lenS (rest (openS [91] g.c l)) < l.length:=by
  unfold openS
  rw [hp]
  have:=isP_pos hp
  by_cases h32 : 32 ≤ g.c
  ·simp only [if_true,if_pos h32];exact this
  ·simp only [if_true,if_neg h32]
   show l.tail.length < l.length
   rw [List.length_tail];omega
 have hpos : 0 < lenS (rest (openS [91] g.c l)) → 0 < n:=by
  unfold openS
  rw [hp]
  by_cases h32 : 32 ≤ g.c
  ·simp only [if_true,if_pos h32]
   exact fun h => absurd h (Nat.lt_irrefl _)
  ·intro _;omega
 have hre:=fun nm wr => refF_in n g.c hn (l:=l) (nm:=nm) (wr:=wr) hp
 generalize hS1 : rest (openS [91] g.c l) = st1 at *
 generalize g.opens2 T N [91] = g1 at *
 generalize (g1.er == 0) = ob at *
 have KI : ∀ w5,Zs R B L T N w5 g1 → Calls Tryz.prog 76 #[.pointer (some ⟨R,0,none⟩)] w5 fun e w' => ∃ nm wr g',e = .returned (.agg #[.string ⟨nm.toArray⟩,.string ⟨wr.toArray⟩]) ∧ ZK R B L T N w5 g1 w' g' ∧ St T N g' (rest (thnS (refF (n - 1)) st1)) ∧ (∀ a m,thnS (refF (n - 1)) st1 = .ok (a,m) → ((nm,wr) : Bs × Bs) = a) ∧ wr.length ≤ 2 * n ∧ g'.I ≤ T.length + 16 * lenS st1 + 1:=by
  intro w5 z5
  cases st1 with
  | error p =>
   refine (zkind_none z5 hst1).mono ?_
   rintro e w' ⟨rfl,zk⟩
   refine ⟨[],[],g1,rfl,zk,hst1,fun a m e => (by cases e),Nat.zero_le _,?_⟩
   rw [o1]
   omega
  | ok l1 =>
   have hl1' : Live T N g1 l1:=hst1
   have hp1 : 0 < l1.length:=by
    obtain ⟨r,hr⟩:=live_nx hl1'
    rw [hr];exact Nat.succ_pos _
   have hn0:=hpos hp1
   refine (IH hn0 w5 g1 l1 z5 hl1' (by rw [o2];omega)).mono ?_
   rintro e w' ⟨nm,wr,g',rfl,zk,s1,s2,s3,s4⟩
   have s4' : g'.I ≤ T.length + 16 * l1.length:=s4
   exact ⟨nm,wr,g',rfl,zk,s1,s2,by omega,Nat.le_succ_of_le s4'⟩
 go_enter Tryz.func76,Tryz.ntmps76
 go_wp2_with (first
  | (go_at_call 75;(with_reducible refine (zmust_any LN4.zs [93] hI3).mono ?_);rintro e w5 ⟨rfl,z5,k5⟩;obtain ⟨u1,u2,u3,u4,u5⟩:=must_facts (T:=T) (N:=N) g3 [93];replace u1:=Nat.le_of_eq u1;have mst:=must_st (T:=T) (N:=N) s1 (s:=[93]) (by decide);generalize g3.must T N [93] = g5 at *;have LN5:=LN4.kpR k5 z5 mst u5 u2 u3 u4)
  | (go_at_call 76;(with_reducible refine (KI _ LN2.zs).mono ?_);rintro e w3 ⟨nm,wr,g3,rfl,zk,s1,s2,s3,s4⟩;have LN3:=LN2.call zk s1;obtain ⟨t0,t1,ft⟩:=row2 LN3.var;have LN4:=(LN3.leaf 0 (.string ⟨nm.toArray⟩)).leaf 1 (.string ⟨wr.toArray⟩);have hI3 : g3.I < 1000000000:=by omega)
  | (go_at_call 73;(with_reducible refine (OP _ LN1.zs).mono ?_);rintro e w2 ⟨rfl,z2,k2⟩;have LN2:=LN1.kpG (g1:={ g with c:=g.c + 1 }) k2 z2 hst1 o5 o3 o4 o2)
  | (go_at_call 45;(with_reducible refine I0.mono ?_);rintro e w1 ⟨rfl,j1⟩;have LN1:=LN.look j1)
  | fail)
 have hc5 : g5.c = g.c + 1:=LN5.c
 have HW : Hid (refF n l = thnS (refB (nm,wr ++ [91])) (rest (thnS (mustS [93]) (rest (thnS (refF (n - 1)) st1))))):=hre nm wr s2
 obtain ⟨d0,d1,d2,d3,d4,d5,d6,d7,d8,dz⟩:=LN5.zs.cells
 rw [hc5] at d6
 have hF0:=LN5.zs.set 6 (.int .i64 g.c) { g5 with c:=g.c } (by simp) LN5.zs.low (by have:=LN5.zs.da;simp only;omega)
 have LN6:=LN5.kpG (g1:=g) (Kp.own R 6 (.int .i64 g.c)) hF0 (st_same mst rfl rfl rfl) LN5.fx LN5.a LN5.b rfl
 have LN7:=LN6.look ((Kp.refl Non _).drew)
 have sC : w5.drew.cell? ⟨R,6,none⟩ = some (.int .i64 (g.c + 1)):=d6
 have sR : ∀ j,w5.drew.frozen? ⟨R,j,none⟩ = false:=dz
 have hVR : ¬ w.heap.size + 1 = R:=by omega
 have hg5 : g5.I ≤ T.length + 16 * lenS st1 + 2:=by omega
 have hwl : wr.length ≤ 100:=by omega
 have hy1 : ¬ 9223372036854775807 < wr.length + 1:=by omega
 have hy2 : ¬ 9223372036854775807 < wr.length + 1 + 1:=by omega
 generalize rest (thnS (mustS [93]) (rest (thnS (refF (n - 1)) st1))) = st5 at *
 generalize hg6 : ({ g5 with c:=g.c } : Sg) = g6 at *
 have hg6I : g6.I ≤ g5.I:=by rw [← hg6];exact Nat.le_refl _
 clear hre hg6 LN6 hF0 KI OP I0 LN LN1 LN2 LN3 s2 c0 c1 c2 c3 c4 c5 c6 c7 c8 fz t0 t1 ft
 go_region
 all_goals
  generalize (w5.setCell ⟨R,6,none⟩ (.int .i64 g.c)).drew = w6 at *
  clear d0 d1 d2 d3 d4 d5 d6 d7 d8 dz sC sR
  obtain ⟨v0,v1,fv⟩:=row2 LN7.var
  have LN8:=LN7.leaf 1 (.string ({ data:=wr.toArray } ++ { data:=#[91] }))
  have I2:=zis_any LN8.zs [33]
  cases hb : ((nx T N g6.I).k == 0 && (nx T N g6.I).t == [33]) with
  | false =>
   rw [hb] at I2
   go_wp2_with (first
    | (go_at_call 45;(with_reducible refine I2.mono ?_);rintro e w7 ⟨rfl,j7⟩;have LN9:=LN8.look j7;obtain ⟨p0,p1,fp⟩:=row2 LN9.var;obtain ⟨m0,m1,fm⟩:=row2 LN9.res)
    | fail)
   obtain ⟨r1,r2⟩:=LN9.fin (own2 w.heap.size (.string ⟨nm.toArray⟩) (.string ({ data:=wr.toArray } ++ { data:=#[91] })))
   refine bodyPost_ret (v:=.agg #[.string ⟨nm.toArray⟩,.string ({ data:=wr.toArray } ++ { data:=#[91] })]) (by simp [results,Tryz.results76,go_sem,m0,m1]) rfl ⟨nm,wr ++ [91],g6,by rw [← cat_bytes],r1,?_,fun a m e => (by rw [HW.out,refB_st LN7.sts hb] at e;exact val_ok _ e),?_,?_⟩
   ·rw [HW.out,refB_st LN7.sts hb]
    show St T N g6 (rest (thnS _ st5))
    rw [rest_ok]
    exact LN7.sts
   ·rw [List.length_append]
    show wr.length + 1 ≤ _
    omega
   ·show g6.I ≤ T.length + 16 * l.length
    omega
  | true =>
   rw [hb] at I2
   have hst3:=step_P LN7.sts (s:=[33]) (by decide) hb
   have hI6 : g6.I < 1000000000:=by omega
   go_wp2_with (first
    | (go_at_call 45;(with_reducible refine I2.mono ?_);rintro e w7 ⟨rfl,j7⟩;have LN9:=LN8.look j7;have LNa:=LN9.stepI hI6 hst3;obtain ⟨d0,d1,d2,d3,d4,d5,d6,d7,d8,dz⟩:=LN9.zs.cells;obtain ⟨p0,p1,fp⟩:=row2 LNa.var;have LNb:=LNa.leaf 1 (.string ({ data:=wr.toArray } ++ { data:=#[91] } ++ { data:=#[33] }));obtain ⟨q0,q1,fq⟩:=row2 LNb.var;obtain ⟨m0,m1,fm⟩:=row2 LNb.res)
    | fail)
   obtain ⟨r1,r2⟩:=LNb.fin (own2 w.heap.size (.string ⟨nm.toArray⟩) (.string ({ data:=wr.toArray } ++ { data:=#[91] } ++ { data:=#[33] })))
   refine bodyPost_ret (v:=.agg #[.string ⟨nm.toArray⟩,.string ({ data:=wr.toArray } ++ { data:=#[91] } ++ { data:=#[33] })]) (by simp [results,Tryz.results76,go_sem,m0,m1]) rfl ⟨nm,wr ++ [91] ++ [33],g6.step,by rw [← cat_bytes,← cat_bytes],r1,?_,fun a m e => (by rw [HW.out,refB_st LN7.sts hb] at e;exact val_ok _ e),?_,?_⟩
   ·rw [HW.out,refB_st LN7.sts hb]
    show St T N g6.step (rest (thnS _ (tailS st5)))
    rw [rest_ok]
    exact hst3
   ·rw [List.length_append,List.length_append]
    show wr.length + 1 + 1 ≤ _
    omega
   ·show g6.I + 1 ≤ T.length + 16 * l.length
    omega
theorem zkind_live (hT : TF T) : ∀ (n : Nat) (w : World) (g : Sg) (l : List Tok),Zs R B L T N w g → Live T N g l → g.c + n = 32 → Calls Tryz.prog 76 #[.pointer (some ⟨R,0,none⟩)] w (KindZ R B L T N n w g (.ok l) (refF n l)):=by
 intro n
 induction n with
 | zero =>
  intro w g l h hl hc
  cases hp : isP [91] l with
  | false => exact zkind_name hT h hl 0 hp
  | true => exact zkind_in h hl 0 hc hp (fun h0 => absurd h0 (Nat.lt_irrefl _))
 | succ n ih =>
  intro w g l h hl hc
  cases hp : isP [91] l with
  | false => exact zkind_name hT h hl _ hp
  | true => exact zkind_in h hl _ hc hp (fun _ => ih)
theorem zkind_all (hT : TF T) (h : Zs R B L T N w g) (hst : St T N g st) (hc : g.c = 0) : Calls Tryz.prog 76 #[.pointer (some ⟨R,0,none⟩)] w (KindZ R B L T N 32 w g st (thnS (refF 32) st)):=by
 cases st with
 | error p => exact zkind_dead h hst 32
 | ok l => exact zkind_live hT 32 w g l h hst (by rw [hc];rfl)
end
end
section
open Go Go.RowKit Go.Shelf
section
variable {R B : Nat} {L : Value} {T : List Tok} {N : Nat} {V : Nat} {W w w' : World} {g g' : Sg} {E : Nat} {ys : List CT} {cs : Array Value} {st st' : Except (Nat × Int) (List Tok)}
structure Va (R B : Nat) (L : Value) (T : List Tok) (N V : Nat) (W : World) (E : Nat) (ys : List CT) (cs : Array Value) (w : World) (g : Sg) (st : Except (Nat × Int) (List Tok)) : Prop where
 zs : Zs R B L T N w g
 sts : St T N g st
 var : w.heap[V]? = some (.cells cs E (0,0))
 ats : Ats w (Iv (V + 1) w.heap.size) ys cs.toList
 kp : Kp (Own1 R) W w
 bs : B ≤ V
 hV : W.heap.size ≤ V
theorem va_new (h : Zs R B L T N w g) (hs : St T N g st) (k : Kp (Own1 R) W w) (ha : Ats (w.alloc (.cells cs E)) (Iv (w.heap.size + 1) (w.alloc (.cells cs E)).heap.size) ys cs.toList) : Va R B L T N w.heap.size W E ys cs (w.alloc (.cells cs E)) g st where
 zs:=h.kp ((Kp.refl Non w).alloc _)
 sts:=hs
 var:=heap_alloc_new w _
 ats:=ha
 kp:=k.alloc _
 bs:=h.bs
 hV:=k.size
theorem Va.kpR (h : Va R B L T N V W E ys cs w g st) (k : Kp (Own1 R) w w') (z : Zs R B L T N w' g') (hs : St T N g' st') : Va R B L T N V W E ys cs w' g' st' where
 zs:=z
 sts:=hs
 var:=(k.block _ (lt_of_block h.var) (fun e => by have e' : V = R:=e;have:=h.zs.rb;have:=h.bs;omega)).trans h.var
 ats:=(h.ats.keep fun q hq => k.block q hq.2 (fun e => by have e' : q = R:=e;have:=hq.1;have:=h.zs.rb;have:=h.bs;omega)).mono fun q hq => ⟨hq.1,Nat.lt_of_lt_of_le hq.2 k.size⟩
 kp:=h.kp.trans k
 bs:=h.bs
 hV:=h.hV
theorem Va.look (h : Va R B L T N V W E ys cs w g st) (k : Kp Non w w') : Va R B L T N V W E ys cs w' g st:=h.kpR (kp_non k) (h.zs.kp k) h.sts
theorem Va.stepI (h : Va R B L T N V W E ys cs w g st) (hl : g.I < 1000000000) (hs : St T N g.step st') : Va R B L T N V W E ys cs (w.setCell ⟨R,1,none⟩ (.int .i64 ((g.I : Int) + 1))) g.step st':=h.kpR (Kp.own R 1 _) (h.zs.step hl) hs
theorem Va.setFx (h : Va R B L T N V W E ys cs w g st) (b : Bool) : Va R B L T N V W E ys cs (w.setCell ⟨R,3,none⟩ (.bool b)) { g with fx:=b } st:=h.kpR (Kp.own R 3 _) (h.zs.set 3 _ { g with fx:=b } (by simp) h.zs.low h.zs.da) (st_same h.sts rfl rfl rfl)
theorem Va.put (h : Va R B L T N V W E ys cs w g st) (i : Nat) {y : CT} {v : Value} (hy : At w (Iv (V + 1) w.heap.size) y v) : Va R B L T N V W E (ys.set i y) (cs.setIfInBounds i v) (w.setCell ⟨V,i,none⟩ v) g st where
 zs:=h.zs.far (X:=V) h.bs (Kp.own _ i v)
 sts:=h.sts
 var:=by
  rw [heap_setCell_same _ _ i _ _ _ h.var]
 ats:=by
  have k : Kp (Own1 V) w (w.setCell ⟨V,i,none⟩ v):=Kp.own _ i v
  have:=((ats_set h.ats i hy).keep (w':=w.setCell ⟨V,i,none⟩ v) fun q hq => k.block q hq.2 (fun e => by have e' : q = V:=e;have:=hq.1;omega)).mono (D':=Iv (V + 1) (w.setCell ⟨V,i,none⟩ v).heap.size) fun q hq => ⟨hq.1,Nat.lt_of_lt_of_le hq.2 k.size⟩
  simpa using this
 kp:=h.kp.set _ i v (Or.inl h.hV)
 bs:=h.bs
 hV:=h.hV
theorem Va.leaf (h : Va R B L T N V W E ys cs w g st) (i : Nat) (v : Value) : Va R B L T N V W E (ys.set i (.lf v)) (cs.setIfInBounds i v) (w.setCell ⟨V,i,none⟩ v) g st:=h.put i (.lf v)
theorem at_up {lo lo' : Nat} {y : CT} {v : Value} (h : At w (Iv lo w.heap.size) y v) (hl : lo' ≤ lo) : At w (Iv lo' w.heap.size) y v:=h.mono fun _ hq => ⟨Nat.le_trans hl hq.1,hq.2⟩
theorem setc_size (w : World) (a : Addr) (v : Value) : (w.setCell a v).heap.size = w.heap.size:=by simp [World.setCell]
theorem def_none (h : St T N g st) (hb : ((nx T N g.I).k == 0 && (nx T N g.I).t == [61]) = false) : thnS defS st = thnS (fun l => .ok ((false,valC 0 [] [] []),l)) st:=by
 have:=thn_P h [61] hb (fun l => (valF true 32 l.tail).go fun v l1 => (.ok ((true,v),l1) : Rs (Bool × List CT))) (fun l => .ok ((false,valC 0 [] [] []),l))
 exact this
theorem def_some {dv : List CT} (h : St T N g st) (hb : ((nx T N g.I).k == 0 && (nx T N g.I).t == [61]) = true) (hv : ∀ a m,thnS (valF true 32) (tailS st) = .ok (a,m) → dv = a) : thnS defS st = thnS (fun l => .ok ((true,dv),l)) (rest (thnS (valF true 32) (tailS st))):=by
 have:=thn_P h [61] hb (fun l => (valF true 32 l.tail).go fun v l1 => (.ok ((true,v),l1) : Rs (Bool × List CT))) (fun l => .ok ((false,valC 0 [] [] []),l))
 refine Eq.trans this ?_
 show thnS (fun l => (fun l0 => (valF true 32 l0).go fun v l1 => (.ok ((true,v),l1) : Rs (Bool × List CT))) l.tail) st = _
 rw [thn_tail (fun l0 => (valF true 32 l0).go fun v l1 => (.ok ((true,v),l1) : Rs (Bool × List CT)))]
 exact thn_go hv
theorem vd_st {st0 st5 : Except (Nat × Int) (List Tok)} {nm kn kw : Bs} {hs : Bool} {dv : List CT} {ds : List (List CT)} (h1 : ∀ a m,thnS nameS (rest (thnS (mustS [36]) st0)) = .ok (a,m) → nm = a) (h2 : ∀ a m,thnS (refF 32) (rest (thnS (mustS [58]) (rest (thnS nameS (rest (thnS (mustS [36]) st0)))))) = .ok (a,m) → ((kn,kw) : Bs × Bs) = a)
  (h3 : thnS defS (rest (thnS (refF 32) (rest (thnS (mustS [58]) (rest (thnS nameS (rest (thnS (mustS [36]) st0)))))))) = thnS (fun l => .ok ((hs,dv),l)) st5) (h4 : ∀ a m,thnS (dirsS true) st5 = .ok (a,m) → ds = a) :
  thnS varDefS st0 = thnS (fun l => .ok ([sC nm,sC kn,sC kw,bC hs] ++ dv ++ [rowC 97 2 ds],l)) (rest (thnS (dirsS true) st5)):=by
 have e1 : thnS varS st0 = thnS nameS (rest (thnS (mustS [36]) st0)):=thn_go (f:=mustS [36]) (G:=fun _ l1 => nameS l1) (v:=()) (fun _ _ _ => rfl)
 rw [← e1] at h1 h2 h3
 refine (thn_go (f:=varS) (v:=nm) h1).trans ?_
 refine (thn_go (f:=mustS [58]) (v:=()) (fun _ _ _ => rfl)).trans ?_
 refine (thn_go (f:=refF 32) (v:=(kn,kw)) h2).trans ?_
 refine (thn_go (f:=defS) (v:=(hs,dv)) (fun a m e => by rw [h3] at e;exact val_ok _ e)).trans ?_
 rw [h3,rest_ok]
 exact thn_go (f:=dirsS true) (v:=ds) h4
theorem done_oneR (x : List CT) : thnS (fun l => (.ok (x,l) : Rs (List CT))) st = oneR x st:=by cases st <;> rfl
theorem Va.val {a b c d x0 x1 x2 x3 z u0 u1 u2 u3 : Value} {y0 y1 y2 y3 y8 : CT} {dv : List CT} {lo : Nat} (h : Va R B L T N V W E ys #[a,b,c,d,x0,x1,x2,x3,z] w g st) (h0 : At w (Iv (V + 1) w.heap.size) y0 a) (h1 : At w (Iv (V + 1) w.heap.size) y1 b) (h2 : At w (Iv (V + 1) w.heap.size) y2 c) (h3 : At w (Iv (V + 1) w.heap.size) y3 d) (h8 : At w (Iv (V + 1) w.heap.size) y8 z) (hat : Ats w (Iv lo w.heap.size) dv [u0,u1,u2,u3]) (hlo : V + 1 ≤ lo) :
  Va R B L T N V W E ([y0,y1,y2,y3] ++ dv ++ [y8]) #[a,b,c,d,u0,u1,u2,u3,z] ((((w.setCell ⟨V,4,none⟩ u0).setCell ⟨V,5,none⟩ u1).setCell ⟨V,6,none⟩ u2).setCell ⟨V,7,none⟩ u3) g st:=by
 have k:=ownAt4 (w:=w) V 4 u0 u1 u2 u3
 refine ⟨h.zs.far h.bs k,h.sts,?_,?_,(((h.kp.set V 4 u0 (Or.inl h.hV)).set V 5 u1 (Or.inl h.hV)).set V 6 u2 (Or.inl h.hV)).set V 7 u3 (Or.inl h.hV),h.bs,h.hV⟩
 ·rw [heap_setCell_same _ V 7 _ _ _ (heap_setCell_same _ V 6 _ _ _ (heap_setCell_same _ V 5 _ _ _ (heap_setCell_same _ V 4 _ _ _ h.var)))]
  simp
 ·have A : Ats w (Iv (V + 1) w.heap.size) ([y0,y1,y2,y3] ++ dv ++ [y8]) ([a,b,c,d] ++ [u0,u1,u2,u3] ++ [z]):=((Ats.cons h0 (Ats.cons h1 (Ats.cons h2 (Ats.cons h3 Ats.nil)))).append (hat.mono fun q hq => ⟨Nat.le_trans hlo hq.1,hq.2⟩)).append (Ats.cons h8 Ats.nil)
  exact (A.keep fun q hq => k.block q hq.2 (fun e => by have e' : q = V:=e;have:=hq.1;omega)).mono fun q hq => ⟨hq.1,Nat.lt_of_lt_of_le hq.2 k.size⟩
theorem Va.dirs {v0 v1 v2 v3 v4 v5 v6 v7 z v : Value} {y0 y1 y2 y3 y8 y : CT} {dv : List CT} (h : Va R B L T N V W E ([y0,y1,y2,y3] ++ dv ++ [y8]) #[v0,v1,v2,v3,v4,v5,v6,v7,z] w g st) (hy : At w (Iv (V + 1) w.heap.size) y v) :
  Va R B L T N V W E ([y0,y1,y2,y3] ++ dv ++ [y]) #[v0,v1,v2,v3,v4,v5,v6,v7,v] (w.setCell ⟨V,8,none⟩ v) g st:=by
 have hl : dv.length = 4:=by
  have:=h.ats.len
  simp at this
  omega
 have:=h.put 8 hy
 have e : ([y0,y1,y2,y3] ++ dv ++ [y8]).set 8 y = [y0,y1,y2,y3] ++ dv ++ [y]:=by
  rw [List.set_append_right _ _ (by simp [hl])]
  simp [hl]
 rw [e] at this
 simpa using this
theorem len_keeps {α : Type} {f : List Tok → Rs α} (hf : Keeps f) : lenS (rest (thnS f st)) ≤ lenS st:=by
 cases st with
 | error p => exact Nat.le_refl _
 | ok l =>
  show lenS (rest (f l)) ≤ l.length
  cases h : f l with
  | error p => exact Nat.zero_le _
  | ok p => exact hf _ _ _ h
theorem len_eats {α : Type} {f : List Tok → Rs α} (hf : Eats f) (hp : 0 < lenS st) : lenS (rest (thnS f st)) < lenS st:=by
 cases st with
 | error p => exact absurd hp (Nat.lt_irrefl _)
 | ok l =>
  show lenS (rest (f l)) < l.length
  cases h : f l with
  | error p => exact hp
  | ok p => exact hf _ _ _ h
theorem len_tail : lenS (tailS st) ≤ lenS st:=by
 cases st with
 | error p => exact Nat.le_refl _
 | ok l =>
  show l.tail.length ≤ l.length
  rw [List.length_tail];omega
theorem bdn_or (K D : Nat) : bdn T K D g st = T.length + K * lenS st ∨ bdn T K D g st = g.I + D:=by
 cases st with
 | error p => exact Or.inr rfl
 | ok l => exact Or.inl rfl
theorem bd_or : bd T g st = T.length + 16 * lenS st ∨ bd T g st = g.I + 16:=by
 cases st with
 | error p => exact Or.inr rfl
 | ok l => exact Or.inl rfl
theorem one_len {x : List CT} {f : List Tok → Rs (List CT)} (hf : Eats f) {l : List Tok} (h : f l = oneR x st) (hp : 0 < l.length) : lenS st < l.length:=by
 cases st with
 | error p => exact hp
 | ok m => exact hf _ _ _ h
theorem Va.re {V' : Nat} (hV : V' = V) {ys' : List CT} {cs' : Array Value} (h : Va R B L T N V W E ys cs w g st) (k : Kp (Own1 V') w w') (hv : w'.heap[V]? = some (.cells cs' E (0,0))) (ha : Ats w (Iv (V + 1) w.heap.size) ys' cs'.toList) : Va R B L T N V W E ys' cs' w' g st:=by
 subst hV
 exact ⟨h.zs.far h.bs k,h.sts,hv,(ha.keep fun q hq => k.block q hq.2 (fun e => by have e' : q = V':=e;have:=hq.1;omega)).mono fun q hq => ⟨hq.1,Nat.lt_of_lt_of_le hq.2 k.size⟩,h.kp.trans2 k (fun q hq e => by have e' : q = V':=e;have:=h.hV;omega),h.bs,h.hV⟩
end
end
end Go.Proofs.YtgppemlciohjcaaGreatDoor
