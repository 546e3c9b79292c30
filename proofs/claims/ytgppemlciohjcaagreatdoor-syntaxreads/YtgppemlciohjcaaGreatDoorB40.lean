/- The document's reader of trees: an object. -/
import Derived.Test.YtgppemlciohjcaaGreatDoorB39
import Derived.Test.YtgppemlciohjcaaGreatDoorB09
import Derived.Test.YtgppemlciohjcaaGreatDoorB10
namespace Go.Proofs.YtgppemlciohjcaaGreatDoor
section
open Go Go.RowKit Go.Shelf
section
variable {Q E sz : Nat} {w w' : World} {lv : Value} {xs : List Value} {D : Nat → Prop} {α : Type} {f : α → List CT} {ms : List α}
theorem Vr.keep2 {els : List (List CT)} (h : Vr Q E sz w lv els xs D) {S : Nat → Prop} (k : Kp S w w') (hS : ∀ j,S j → lv.ownBlock ≠ some j ∧ ¬ D j) : Vr Q E sz w' lv els xs D where
 own:=own_keep h.own fun q hq => k.block q (own_block h.own hq).2 (fun e => (hS q e).1 hq)
 ats:=h.ats.keep fun q hq => k.block q (h.far q hq).2.1 (fun e => (hS q e).2 hq)
 far:=fun q hq => ⟨(h.far q hq).1,Nat.lt_of_lt_of_le (h.far q hq).2.1 k.size,(h.far q hq).2.2⟩
theorem Vr.ownM (h : Vr Q E sz w lv (ms.map f) xs D) : w.ownsRow Q E sz lv ms.length xs:=by
 have:=h.own
 rw [List.length_map] at this
 exact this
theorem Vr.sliceM (h : Vr Q E sz w lv (ms.map f) xs D) : ∃ o c,lv = .slice o ms.length c:=by
 have:=h.slice
 rw [List.length_map] at this
 exact this
theorem Vr.pushM (h : Vr Q E sz w lv (ms.map f) xs D) {w2 : World} {x : α} {us : List Value} {q cp P : Nat} {De : Nat → Prop} {o : Obj} (hP : ∀ k,lv.ownBlock = some k → k < P) (hQP : Q ≤ P)
  (hel : Ats w De (f x) us) (hDe : ∀ k,De k → P ≤ k ∧ k < w.heap.size) (hg : (w.alloc o).grownBy w2 lv.ownBlock) (hq : lv.ownBlock = some q ∨ q = (w.alloc o).heap.size)
  (ho : w2.ownsRow Q E sz (.slice (some ⟨q,0,none⟩) (ms.length + 1) cp) (ms.length + 1) (xs ++ us)) : Vr Q E sz w2 (.slice (some ⟨q,0,none⟩) (ms.length + 1) cp) ((ms ++ [x]).map f) (xs ++ us) (fun k => D k ∨ De k):=by
 have e : (ms.map f).length = ms.length:=List.length_map _
 have:=h.push (q:=q) (cp:=cp) hP hQP hel hDe hg hq (by rw [e];exact ho)
 rw [e] at this
 rw [List.map_append]
 exact this
end
section
variable {R B : Nat} {L : Value} {T : List Tok} {N : Nat} {w : World} {g : Sg}
structure Lo (R B : Nat) (L : Value) (T : List Tok) (N : Nat) (w0 : World) (g : Sg) (f : List Tok → Rs (List CT)) (V : Nat) (st1 : Except (Nat × Int) (List Tok)) (wr : World) (g' : Sg) (st : Except (Nat × Int) (List Tok)) (ms : List (Bs × List CT)) (lv nv : Value) (xs ns : List Value) (D D' : Nat → Prop) : Prop where
 zs : Zs R B L T N wr g'
 fx : g'.fx = g.fx
 a : g'.a = g.a
 b : g'.b = g.b + 1
 c : g'.c = g.c
 sts : St T N g' st
 rel : thnS (anyS (memS f) [125]) st1 = (thnS (anyS (memS f) [125]) st).go fun vs l1 => .ok (ms ++ vs,l1)
 var : wr.heap[V]? = some (.cells #[.int .i64 9,.string ⟨#[]⟩,lv,nv] 70 (0,0))
 row : Vr (V + 1) 70 4 wr lv (ms.map (·.2)) xs D
 nms : Vr (V + 1) 9 1 wr nv (ms.map fun m => [sC m.1]) ns D'
 non : ∀ k,¬ D' k
 far : ∀ q,nv.ownBlock = some q → lv.ownBlock ≠ some q ∧ ¬ D q
 kp : Kp (fun k => k = R ∨ k = V) w0 wr
 few : ms.length + lenS st ≤ 2049
 low : g'.I ≤ T.length + 16 * lenS st1 + 2 ∧ (∀ l,st = .ok l → l.length ≤ lenS st1)
theorem obj_eq (fx : Bool) (n : Nat) {l : List Tok} (d : Int) (hd : d + n = 32) (hp : isP [123] l = true) : signS fx (inF fx n) l = (thnS (anyS (memS (valF fx (n - 1))) [125]) (rest (thnS (openS [123] d) (.ok l)))).go fun ms l1 => .ok (valC 9 [] (ms.map (·.2)) (ms.map fun m => [sC m.1]),l1):=by
 unfold signS
 rw [other_sign hp (s':=[91]) (by decide),hp]
 show objS (inF fx n) l = _
 show _ = (thnS _ (rest (openS [123] d l))).go _
 unfold openS
 rw [hp]
 cases n with
 | zero =>
  have : (32 : Int) ≤ d:=by omega
  simp only [if_true,if_pos this]
  rfl
 | succ m =>
  have : ¬ (32 : Int) ≤ d:=by omega
  simp only [if_true,if_neg this]
  rfl
def memR (x : Bs × List CT) : Except (Nat × Int) (List Tok) → Rs (Bs × List CT)
 | .ok m => .ok (x,m)
 | .error p => .error p
theorem mem_st {f : List Tok → Rs (List CT)} {l : List Tok} {nm : Bs} {cs : List CT} (hn : ∀ a m,nameS l = .ok (a,m) → a = nm) (hc : ∀ a m,thnS f (rest (thnS (mustS [58]) (rest (nameS l)))) = .ok (a,m) → cs = a) : memS f l = memR (nm,cs) (rest (thnS f (rest (thnS (mustS [58]) (rest (nameS l)))))):=by
 unfold memS
 cases h1 : nameS l with
 | error p => rfl
 | ok p =>
  obtain ⟨a,m⟩:=p
  rw [h1] at hc
  have e1:=hn a m h1
  subst e1
  simp only [go_ok]
  change ∀ a' m',thnS f (rest (mustS [58] m)) = .ok (a',m') → cs = a' at hc
  show _ = memR (a,cs) (rest (thnS f (rest (mustS [58] m))))
  cases h2 : mustS [58] m with
  | error p => rfl
  | ok p =>
   obtain ⟨_,m2⟩:=p
   rw [h2] at hc
   simp only [go_ok]
   change ∀ a' m',f m2 = .ok (a',m') → cs = a' at hc
   show _ = memR (a,cs) (rest (f m2))
   cases h3 : f m2 with
   | error p => rfl
   | ok p =>
    obtain ⟨v,m3⟩:=p
    have:=hc v m3 h3
    subst this
    rfl
theorem mem_len {f : List Tok → Rs (List CT)} (hf : Eats f) {l : List Tok} : (∀ l3,rest (thnS (mustS [58]) (rest (nameS l))) = .ok l3 → l3.length < l.length) ∧ (∀ l3,rest (thnS f (rest (thnS (mustS [58]) (rest (nameS l))))) = .ok l3 → l3.length < l.length):=by
 have A : ∀ l3,rest (thnS (mustS [58]) (rest (nameS l))) = .ok l3 → l3.length < l.length:=by
  intro l3 e
  cases h1 : nameS l with
  | error p => rw [h1] at e;cases e
  | ok p =>
   rw [h1] at e
   have q1:=nameS_eats _ _ _ h1
   change rest (mustS [58] p.2) = _ at e
   cases h2 : mustS [58] p.2 with
   | error p => rw [h2] at e;cases e
   | ok p2 =>
    rw [h2] at e
    have q2:=mustS_eats _ _ _ _ h2
    cases e
    omega
 refine ⟨A,fun l3 e => ?_⟩
 cases h2 : rest (thnS (mustS [58]) (rest (nameS l))) with
 | error p => rw [h2] at e;cases e
 | ok l2 =>
  rw [h2] at e
  have q1:=A l2 h2
  change rest (f l2) = _ at e
  cases h3 : f l2 with
  | error p => rw [h3] at e;cases e
  | ok p =>
   rw [h3] at e
   have q2:=hf _ _ _ h3
   cases e
   omega
theorem must_facts (g : Sg) (s : Bs) : (g.must T N s).I = g.I + 1 ∧ (g.must T N s).a = g.a ∧ (g.must T N s).b = g.b ∧ (g.must T N s).c = g.c ∧ (g.must T N s).fx = g.fx:=by
 unfold Sg.must
 show (if _ then g else g.bad T N 60).I + 1 = _ ∧ (if _ then g else g.bad T N 60).a = _ ∧ (if _ then g else g.bad T N 60).b = _ ∧ (if _ then g else g.bad T N 60).c = _ ∧ (if _ then g else g.bad T N 60).fx = _
 split
 ·exact ⟨rfl,rfl,rfl,rfl,rfl⟩
 ·exact ⟨by rw [bad_I],bad_abc g 60⟩
theorem name_facts (g : Sg) (s : Bs) : (g.name T N s).I = g.I + 1 ∧ (g.name T N s).a = g.a ∧ (g.name T N s).b = g.b ∧ (g.name T N s).c = g.c ∧ (g.name T N s).fx = g.fx:=by
 unfold Sg.name
 show (if _ then g else g.bad T N 60).I + 1 = _ ∧ (if _ then g else g.bad T N 60).a = _ ∧ (if _ then g else g.bad T N 60).b = _ ∧ (if _ then g else g.bad T N 60).c = _ ∧ (if _ then g else g.bad T N 60).fx = _
 split
 ·exact ⟨rfl,rfl,rfl,rfl,rfl⟩
 ·exact ⟨by rw [bad_I],bad_abc g 60⟩
end
end
section
open Go Go.RowKit Go.Shelf
section
variable {R B : Nat} {L : Value} {T : List Tok} {N : Nat} {w : World} {g : Sg}
theorem var3 {V : Nat} {a b c d : Value} {E : TypeId} (h : w.heap[V]? = some (.cells #[a,b,c,d] E (0,0))) (x : Value) : (w.setCell ⟨V,3,none⟩ x).heap[V]? = some (.cells #[a,b,c,x] E (0,0)):=by
 have hq:=lt_of_block h
 obtain ⟨_,hg⟩:=Array.getElem?_eq_some_iff.1 h
 simp [World.setCell,hq,Array.getElem_modify,hg]
theorem new_after (w : World) (r : Addr) (x : Value) (o : Obj) : ((w.setCell r x).alloc o).heap[w.heap.size]? = some o:=by
 have:=heap_alloc_new (w.setCell r x) o
 rwa [show (w.setCell r x).heap.size = w.heap.size by simp [World.setCell]] at this
theorem own_q {q n c k : Nat} (e : (Value.slice (some ⟨q,0,none⟩) n c).ownBlock = some k) : k = q:=by
 have : q = k:=by simpa [Value.ownBlock] using e
 exact this.symm
theorem var2 {V : Nat} {a b c d : Value} {E : TypeId} (h : w.heap[V]? = some (.cells #[a,b,c,d] E (0,0))) (x : Value) : (w.setCell ⟨V,2,none⟩ x).heap[V]? = some (.cells #[a,b,x,d] E (0,0)):=by
 have hq:=lt_of_block h
 obtain ⟨_,hg⟩:=Array.getElem?_eq_some_iff.1 h
 simp [World.setCell,hq,Array.getElem_modify,hg]
set_option maxRecDepth 100000 in
set_option maxHeartbeats 4000000 in
theorem zmark_obj (hT : TF T) (h : Zs R B L T N w g) {l : List Tok} (hl : Live T N g l) (fx : Bool) (hf : g.fx = fx) (n : Nat) (hn : g.b + n = 32) (hp : isP [123] l = true) (IH : 0 < n → ValC R B L T N fx (g.b + 1) (n - 1) l.length) (hlo : g.I < 9999) : Calls Tryz.prog 104 #[.pointer (some ⟨R,0,none⟩)] w (ValZ R B L T N w g (.ok l) (signS fx (inF fx n) l)):=by
 rw [obj_eq fx n g.b hn hp]
 have hBs:=h.bs
 have hRl:=h.lt
 have hrb:=h.rb
 have I0:=mark_is h [36] (b:=false) (by rw [← live_isP hl];exact other_sign hp (by decide))
 have I1:=mark_is h [91] (b:=false) (by rw [← live_isP hl];exact other_sign hp (by decide))
 have I2:=mark_is h [123] (b:=true) (by rw [← live_isP hl];exact hp)
 have k0 : Kp Non w ((w.alloc zeroZ).alloc zeroZ):=((Kp.refl Non w).alloc _).alloc _
 have OP:=fun w1 (h' : Zs R B L T N w1 g) => zopens1_any h' [123] (by omega) (by omega)
 obtain ⟨o1,o2,o3,o4,o5⟩:=opens1_facts (T:=T) (N:=N) g [123]
 have hst : St T N (g.opens1 T N [123]) (rest (thnS (openS [123] g.b) (.ok l))):=opens_st (st:=.ok l) hl (by decide) g.b rfl o1 rfl rfl
 have hok:=st_er hst
 have hl1 : lenS (rest (thnS (openS [123] g.b) (.ok l))) < l.length:=by
  show lenS (rest (openS [123] g.b l)) < l.length
  unfold openS
  rw [hp]
  have:=isP_pos hp
  by_cases h32 : 32 ≤ g.b
  ·simp only [if_true,if_pos h32];exact this
  ·simp only [if_true,if_neg h32]
   show l.tail.length < l.length
   rw [List.length_tail];omega
 have hpos : 0 < lenS (rest (thnS (openS [123] g.b) (.ok l))) → 0 < n:=by
  show 0 < lenS (rest (openS [123] g.b l)) → 0 < n
  unfold openS
  rw [hp]
  by_cases h32 : 32 ≤ g.b
  ·simp only [if_true,if_pos h32]
   exact fun h => absurd h (Nat.lt_irrefl _)
  ·intro _;omega
 generalize rest (thnS (openS [123] g.b) (.ok l)) = st1 at *
 generalize g.opens1 T N [123] = g1 at *
 have hok' : (g1.er == 0) = isOk st1:=by rw [hok];cases st1 <;> rfl
 rw [hok'] at OP
 clear hok
 go_enter Tryz.func104,Tryz.ntmps104
 go_wp2_with (first
  | (go_at_call 73;(with_reducible refine (OP _ z2).mono ?_);rintro e w3 ⟨rfl,z3,k3⟩)
  | (go_at_call 45;(with_reducible refine (I2 _ k1b).mono ?_);rintro e w2 ⟨rfl,j2⟩;have k2:=k1b.trans j2;have KV : Kp (Own1 R) ((w.alloc zeroZ).alloc zeroZ) w2:=kp_non ((j1.trans j1b).trans j2);have bV:=(KV.block (w.heap.size + 1) (by rw [World.size_alloc,World.size_alloc];omega) (fun e => by have e' : w.heap.size + 1 = R:=e;omega)).trans (two_new w zeroZ zeroZ);obtain ⟨v0,v1,v2,v3,fv⟩:=row4 bV;have z2:=(h.kp k2).far (X:=w.heap.size + 1) (by omega) (Kp.own (w.heap.size + 1) 0 (.int .i64 9)))
  | (go_at_call 45;(with_reducible refine (I1 _ k1).mono ?_);rintro e w1b ⟨rfl,j1b⟩;have k1b:=k1.trans j1b)
  | (go_at_call 45;(with_reducible refine (I0 _ k0).mono ?_);rintro e w1 ⟨rfl,j1⟩;have k1:=k0.trans j1;obtain ⟨c0,c1,c2,c3,c4,c5,c6,c7,c8,fz⟩:=(h.kp k1).cells)
  | fail)
 have kW : Kp (fun k => k = R ∨ k = w.heap.size + 1) ((w.alloc zeroZ).alloc zeroZ) w3:=((kp_non (S:=fun k => k = R ∨ k = w.heap.size + 1) ((j1.trans j1b).trans j2)).set (w.heap.size + 1) 0 _ (Or.inr (Or.inr rfl))).trans ⟨k3.os,k3.tape,k3.output,k3.size,fun q hq hS => k3.block q hq (fun e => hS (Or.inl e))⟩
 have bV3 : w3.heap[w.heap.size + 1]? = some (.cells #[.int .i64 9,.string ⟨#[]⟩,.slice none 0 0,.slice none 0 0] 70 (0,0)):=by
  have hq:=lt_of_block bV
  obtain ⟨_,hg⟩:=Array.getElem?_eq_some_iff.1 bV
  refine (k3.block (w.heap.size + 1) (by rw [show (w2.setCell ⟨w.heap.size + 1,0,none⟩ (.int .i64 9)).heap.size = w2.heap.size by simp [World.setCell]];exact hq) (fun e => by have e' : w.heap.size + 1 = R:=e;omega)).trans ?_
  simp [World.setCell,hq,Array.getElem_modify,hg]
 have hz3 : w.heap.size + 2 ≤ w3.heap.size:=by have:=kW.size;rw [World.size_alloc,World.size_alloc] at this;omega
 go_loopw [6] (fun okv wr => ∃ g' st ms lv nv xs ns D D',okv = .bool (isOk st) ∧ Lo R B L T N ((w.alloc zeroZ).alloc zeroZ) g (valF fx (n - 1)) (w.heap.size + 1) st1 wr g' st ms lv nv xs ns D D') (fun okv wr => match okv with | .bool true => T.length + 2 - idxZ R wr | _ => 0)
 case atStart =>
  refine ⟨g1,st1,[],_,_,_,_,_,_,rfl,⟨z3,o5,o3,o2,o4,hst,?_,bV3,vr_none w3,vr_none w3,(fun k e => e),(fun q e => nomatch e),kW,?_,?_⟩⟩
  ·cases thnS (anyS (memS (valF fx (n - 1))) [125]) st1 <;> rfl
  ·have:=live_len hl
   have:=h.few
   simp only [List.length_nil]
   omega
  ·refine ⟨?_,fun l' e => by rw [e];exact Nat.le_refl _⟩
   rw [o1]
   have:=hl.2.1
   omega
 case round =>
  obtain ⟨g',st,ms,lv,nv,xs,ns,D,D',rfl,LP⟩:=hrel
  cases st with
  | error p =>
   have hio : isOk (Except.error p) = false:=rfl
   obtain ⟨lo,lc,rfl⟩:=LP.row.sliceM
   obtain ⟨no,nc,rfl⟩:=LP.nms.sliceM
   have MU:=fun w5 (z5 : Zs R B L T N w5 g') => zmust_any z5 [125] (by have:=LP.low.1;have:=LP.zs.few;have:=hl1;have:=live_len hl;omega)
   have mst:=must_st (T:=T) (N:=N) LP.sts (s:=[125]) (by decide)
   have mI : (g'.must T N [125]).I = g'.I + 1:=by
    unfold Sg.must
    show (if _ then g' else g'.bad T N 60).I + 1 = _
    split
    ·rfl
    ·rw [bad_I]
   have mabc : (g'.must T N [125]).a = g'.a ∧ (g'.must T N [125]).b = g'.b ∧ (g'.must T N [125]).c = g'.c ∧ (g'.must T N [125]).fx = g'.fx:=by
    unfold Sg.must
    show (if _ then g' else g'.bad T N 60).a = _ ∧ (if _ then g' else g'.bad T N 60).b = _ ∧ (if _ then g' else g'.bad T N 60).c = _ ∧ (if _ then g' else g'.bad T N 60).fx = _
    split
    ·exact ⟨rfl,rfl,rfl,rfl⟩
    ·exact bad_abc g' 60
   generalize g'.must T N [125] = g6 at *
   obtain ⟨ma,mb,mc,mf⟩:=mabc
   have hb6 : g6.b = g.b + 1:=mb.trans LP.b
   have bV5:=LP.var
   have hbd : g6.I ≤ T.length + 16 * l.length:=by have:=LP.low.1;omega
   go_wp2_with (first
    | (go_at_call 75;(with_reducible refine (MU _ LP.zs).mono ?_);rintro e w6 ⟨rfl,z6,k6⟩;have k56 : Kp (Own1 R) wr w6:=k6;obtain ⟨c0,c1,c2,c3,c4,c5,c6,c7,c8,fz⟩:=z6.cells;rw [hb6] at c5;have bV6:=(k56.block (w.heap.size + 1) (lt_of_block bV5) (fun e => by have e' : w.heap.size + 1 = R:=e;omega)).trans bV5;obtain ⟨y0,y1,y2,y3,fy⟩:=row4 bV6)
    | fail)
   have hda:=z6.da
   have hF0:=z6.set 5 (.int .i64 g.b) { g6 with b:=g.b } (by simp) z6.low (by have:=h.da;simp only;omega)
   have K7 : Kp (Own1 R) w6 (w6.setCell ⟨R,5,none⟩ (.int .i64 g.b)):=Kp.own R 5 _
   have KR:=((kp_drop LP.kp).trans k56).trans K7
   obtain ⟨m0,m1,m2,m3,fm⟩:=row4 (new_row KR (fun e => by have e' : w.heap.size = R:=e;omega))
   obtain ⟨y0',y1',y2',y3',fy'⟩:=row4 ((K7.block (w.heap.size + 1) (lt_of_block bV6) (fun e => by have e' : w.heap.size + 1 = R:=e;omega)).trans bV6)
   have sCl : w6.drew.cell? ⟨R,5,none⟩ = some (.int .i64 (g.b + 1)):=c5
   have sR : ∀ j,w6.drew.frozen? ⟨R,j,none⟩ = false:=fz
   have hVR : ¬ w.heap.size + 1 = R:=by omega
   have hrow:=LP.row
   have hnms:=LP.nms
   have hLfx:=mf.trans LP.fx
   have hLa:=ma.trans LP.a
   have hLc:=mc.trans LP.c
   have hrel:=LP.rel
   clear LP
   go_region
   all_goals go_wp2
   all_goals
    obtain ⟨r1,r2⟩:=zret4 KR hF0 hBs (.int .i64 9) (.string ⟨#[]⟩) (.slice lo ms.length lc) (.slice no ms.length nc)
    refine bodyPost_ret (v:=.agg #[.int .i64 9,.string ⟨#[]⟩,.slice lo ms.length lc,.slice no ms.length nc]) (by simp [results,Tryz.results104,go_sem,m0,m1,m2,m3]) rfl ⟨valC 9 [] (ms.map (·.2)) (ms.map fun m => [sC m.1]),_,{ g6 with b:=g.b },rfl,⟨9,⟨#[]⟩,lo,ms.length,lc,no,ms.length,nc,rfl,?_⟩,⟨r1.kp ((Kp.refl Non _).drew),hLfx,hLa,rfl,hLc,r2.drew⟩,?_,?_,hbd⟩
    ·have K9 : Kp (fun k => k = R ∨ k = w.heap.size) wr (((((w6.setCell ⟨R,5,none⟩ (.int .i64 g.b)).setCell ⟨w.heap.size,0,none⟩ (.int .i64 9)).setCell ⟨w.heap.size,1,none⟩ (.string ⟨#[]⟩)).setCell ⟨w.heap.size,2,none⟩ (.slice lo ms.length lc)).setCell ⟨w.heap.size,3,none⟩ (.slice no ms.length nc)).drew:=((((((⟨k56.os,k56.tape,k56.output,k56.size,fun q hq hS => k56.block q hq (fun e => hS (Or.inl e))⟩ : Kp (fun k => k = R ∨ k = w.heap.size) wr w6).set R 5 _ (Or.inr (Or.inl rfl))).set w.heap.size 0 _ (Or.inr (Or.inr rfl))).set w.heap.size 1 _ (Or.inr (Or.inr rfl))).set w.heap.size 2 _ (Or.inr (Or.inr rfl))).set w.heap.size 3 _ (Or.inr (Or.inr rfl))).drew
     have hat:=(hrow.keep K9 (fun q e => by rcases e with e | e <;> omega)).at_
     have hatn:=(hnms.keep K9 (fun q e => by rcases e with e | e <;> omega)).at_
     exact Ats.cons (.lf _) (Ats.cons (.lf _) (Ats.cons (hat.mono fun q hq => ⟨by have:=hq.1;omega,hq.2⟩) (Ats.cons (hatn.mono fun q hq => ⟨by have:=hq.1;omega,hq.2⟩) Ats.nil)))
    ·rw [hrel]
     exact (show Dead g6 p from mst).of rfl rfl
    ·rw [hrel]
     intro a m e;cases e
  | ok l' =>
   have hio : isOk (Except.ok l') = true:=rfl
   have hl' : Live T N g' l':=LP.sts
   have X:=zis_any LP.zs [125]
   rw [← live_isP hl'] at X
   by_cases hq : isP [125] l' = true
   ·rw [hq] at X
    have hany : anyS (memS (valF fx (n - 1))) [125] l' = .ok ([],l'.tail):=by rw [anyS_eq (memS_eats (valF_eats fx _).keeps),hq];rfl
    have hmu : mustS [125] l' = .ok ((),l'.tail):=by unfold mustS;rw [hq];rfl
    obtain ⟨lo,lc,rfl⟩:=LP.row.sliceM
    obtain ⟨no,nc,rfl⟩:=LP.nms.sliceM
    have MU:=fun w5 (z5 : Zs R B L T N w5 g') => zmust_any z5 [125] (by have:=LP.low.1;have:=LP.zs.few;have:=hl1;have:=live_len hl;omega)
    have mst:=must_st (T:=T) (N:=N) LP.sts (s:=[125]) (by decide)
    have mI : (g'.must T N [125]).I = g'.I + 1:=by
     unfold Sg.must
     show (if _ then g' else g'.bad T N 60).I + 1 = _
     split
     ·rfl
     ·rw [bad_I]
    have mabc : (g'.must T N [125]).a = g'.a ∧ (g'.must T N [125]).b = g'.b ∧ (g'.must T N [125]).c = g'.c ∧ (g'.must T N [125]).fx = g'.fx:=by
     unfold Sg.must
     show (if _ then g' else g'.bad T N 60).a = _ ∧ (if _ then g' else g'.bad T N 60).b = _ ∧ (if _ then g' else g'.bad T N 60).c = _ ∧ (if _ then g' else g'.bad T N 60).fx = _
     split
     ·exact ⟨rfl,rfl,rfl,rfl⟩
     ·exact bad_abc g' 60
    generalize g'.must T N [125] = g6 at *
    obtain ⟨ma,mb,mc,mf⟩:=mabc
    have hb6 : g6.b = g.b + 1:=mb.trans LP.b
    have bV5:=LP.var
    have hbd : g6.I ≤ T.length + 16 * l.length:=by have:=LP.low.1;omega
    go_wp2_with (first
     | (go_at_call 75;(with_reducible refine (MU _ (LP.zs.kp j5)).mono ?_);rintro e w6 ⟨rfl,z6,k6⟩;have k56 : Kp (Own1 R) wr w6:=(kp_non j5).trans k6;obtain ⟨c0,c1,c2,c3,c4,c5,c6,c7,c8,fz⟩:=z6.cells;rw [hb6] at c5;have bV6:=(k56.block (w.heap.size + 1) (lt_of_block bV5) (fun e => by have e' : w.heap.size + 1 = R:=e;omega)).trans bV5;obtain ⟨y0,y1,y2,y3,fy⟩:=row4 bV6)
     | (go_at_call 45;(with_reducible refine X.mono ?_);rintro e w5 ⟨rfl,j5⟩)
     | fail)
    have hda:=z6.da
    have hF0:=z6.set 5 (.int .i64 g.b) { g6 with b:=g.b } (by simp) z6.low (by have:=h.da;simp only;omega)
    have K7 : Kp (Own1 R) w6 (w6.setCell ⟨R,5,none⟩ (.int .i64 g.b)):=Kp.own R 5 _
    have KR:=((kp_drop LP.kp).trans k56).trans K7
    obtain ⟨m0,m1,m2,m3,fm⟩:=row4 (new_row KR (fun e => by have e' : w.heap.size = R:=e;omega))
    obtain ⟨y0',y1',y2',y3',fy'⟩:=row4 ((K7.block (w.heap.size + 1) (lt_of_block bV6) (fun e => by have e' : w.heap.size + 1 = R:=e;omega)).trans bV6)
    have sCl : w6.drew.cell? ⟨R,5,none⟩ = some (.int .i64 (g.b + 1)):=c5
    have sR : ∀ j,w6.drew.frozen? ⟨R,j,none⟩ = false:=fz
    have hVR : ¬ w.heap.size + 1 = R:=by omega
    have hrow:=LP.row
    have hnms:=LP.nms
    have hLfx:=mf.trans LP.fx
    have hLa:=ma.trans LP.a
    have hLc:=mc.trans LP.c
    have hrel:=LP.rel
    clear LP
    go_region
    all_goals go_wp2
    all_goals
     obtain ⟨r1,r2⟩:=zret4 KR hF0 hBs (.int .i64 9) (.string ⟨#[]⟩) (.slice lo ms.length lc) (.slice no ms.length nc)
     refine bodyPost_ret (v:=.agg #[.int .i64 9,.string ⟨#[]⟩,.slice lo ms.length lc,.slice no ms.length nc]) (by simp [results,Tryz.results104,go_sem,m0,m1,m2,m3]) rfl ⟨valC 9 [] (ms.map (·.2)) (ms.map fun m => [sC m.1]),_,{ g6 with b:=g.b },rfl,⟨9,⟨#[]⟩,lo,ms.length,lc,no,ms.length,nc,rfl,?_⟩,⟨r1.kp ((Kp.refl Non _).drew),hLfx,hLa,rfl,hLc,r2.drew⟩,?_,?_,hbd⟩
     ·have K9 : Kp (fun k => k = R ∨ k = w.heap.size) wr (((((w6.setCell ⟨R,5,none⟩ (.int .i64 g.b)).setCell ⟨w.heap.size,0,none⟩ (.int .i64 9)).setCell ⟨w.heap.size,1,none⟩ (.string ⟨#[]⟩)).setCell ⟨w.heap.size,2,none⟩ (.slice lo ms.length lc)).setCell ⟨w.heap.size,3,none⟩ (.slice no ms.length nc)).drew:=((((((⟨k56.os,k56.tape,k56.output,k56.size,fun q hq hS => k56.block q hq (fun e => hS (Or.inl e))⟩ : Kp (fun k => k = R ∨ k = w.heap.size) wr w6).set R 5 _ (Or.inr (Or.inl rfl))).set w.heap.size 0 _ (Or.inr (Or.inr rfl))).set w.heap.size 1 _ (Or.inr (Or.inr rfl))).set w.heap.size 2 _ (Or.inr (Or.inr rfl))).set w.heap.size 3 _ (Or.inr (Or.inr rfl))).drew
      have hat:=(hrow.keep K9 (fun q e => by rcases e with e | e <;> omega)).at_
      have hatn:=(hnms.keep K9 (fun q e => by rcases e with e | e <;> omega)).at_
      exact Ats.cons (.lf _) (Ats.cons (.lf _) (Ats.cons (hat.mono fun q hq => ⟨by have:=hq.1;omega,hq.2⟩) (Ats.cons (hatn.mono fun q hq => ⟨by have:=hq.1;omega,hq.2⟩) Ats.nil)))
     ·rw [hrel]
      rw [show thnS (anyS (memS (valF fx (n - 1))) [125]) (Except.ok l') = .ok ([],l'.tail) from hany];exact (show Live T N g6 l'.tail from (by have:=mst;rw [show thnS (mustS [125]) (Except.ok l') = .ok ((),l'.tail) from hmu] at this;exact this))
     ·rw [hrel]
      rw [show thnS (anyS (memS (valF fx (n - 1))) [125]) (Except.ok l') = .ok ([],l'.tail) from hany];intro a m e;simp only [go_ok,List.append_nil] at e;cases e;rfl
   ·have hqf : isP [125] l' = false:=Bool.eq_false_iff.2 hq
    rw [hqf] at X
    have hlenl:=live_len hl'
    have hlow:=LP.low
    have hl'l:=hlow.2 l' rfl
    have hfew:=LP.few
    have hTf:=LP.zs.few
    have hgI:=hl'.2.1
    have hany : anyS (memS (valF fx (n - 1))) [125] l' = (memS (valF fx (n - 1)) l').go fun a l1 => (anyS (memS (valF fx (n - 1))) [125] l1).go fun b l2 => .ok (a :: b,l2):=by rw [anyS_eq (memS_eats (valF_eats fx _).keeps),hqf];rfl
    obtain ⟨hns,hnm⟩:=name_st (T:=T) (N:=N) (st:=.ok l') hT hl'
    have hns' : St T N (g'.name T N []) (rest (nameS l')):=hns
    have hnm' : ∀ a m,nameS l' = .ok (a,m) → a = (nx T N g'.I).t:=hnm
    have hms:=must_st hns' (s:=[58]) (by decide)
    obtain ⟨n1,n2,n3,n4,n5⟩:=name_facts (T:=T) (N:=N) g' []
    obtain ⟨u1,u2,u3,u4,u5⟩:=must_facts (T:=T) (N:=N) (g'.name T N []) [58]
    have NA:=fun w5 (z5 : Zs R B L T N w5 g') => zname_any z5 [] (by omega)
    have MU:=fun w5 (z5 : Zs R B L T N w5 (g'.name T N [])) => zmust_any z5 [58] (by omega)
    clear hns hnm
    generalize (nx T N g'.I).t = nm at *
    generalize g'.name T N [] = g2 at *
    generalize g2.must T N [58] = g3 at *
    have hml:=mem_len (f:=valF fx (n - 1)) (valF_eats fx _) (l:=l')
    have hme:=fun cs => mem_st (f:=valF fx (n - 1)) (l:=l') (nm:=nm) (cs:=cs) hnm'
    generalize rest (thnS (mustS [58]) (rest (nameS l'))) = st3 at *
    have hn0 : 0 < n:=by
     obtain ⟨r,hr⟩:=live_nx hl'
     have : l'.length = r.length + 1:=by rw [hr];rfl
     exact hpos (by omega)
    have VC:=fun w5 (z5 : Zs R B L T N w5 g3) => IH hn0 w5 g3 st3 z5 hms (by rw [u5,n5,LP.fx,hf]) (by rw [u3,n3,LP.b]) (fun l2 e => by have:=hml.1 l2 e;omega) (by omega)
    obtain ⟨lo,lc,rfl⟩:=LP.row.sliceM
    obtain ⟨no,nc,rfl⟩:=LP.nms.sliceM
    have bV5:=LP.var
    have hVlt:=lt_of_block bV5
    have hNo:=fun k (e : (Value.slice no ms.length nc).ownBlock = some k) => own_block LP.nms.own e
    have hLo:=fun k (e : (Value.slice lo ms.length lc).ownBlock = some k) => own_block LP.row.own e
    have hD:=LP.row.far
    have hfar:=LP.far
    obtain ⟨ti,hti,hy0,hy1,hy2⟩:=info_parts Tryz.infoValZ
    obtain ⟨si,hsi,sy0,sy1,sy2⟩:=info_parts Tryz.infoStr
    go_wp2_with (first
     | (at_builtin;refine wpList_append_lies _ rfl (.tmp 91) (.tmp 93) 38 rfl (w.heap.size + 1 + 1) 9 si _ 1 16 Tryz.underlying38 hsi sy0 sy1 sy2 rfl (by decide) (.slice no ms.length nc) ms.length ns rfl (hnm7.ownM.alloc _) ⟨w7.heap.size + 1,0,none⟩ 1 1 [.string ⟨nm.toArray⟩] rfl rfl (World.news_of_block (two_new w7 (.cells #[.int .i64 kk,.string vt,.slice p1 q1 z1,.slice p2 q2 z2] 70) (.cells #[.string ⟨nm.toArray⟩] 9))) (by intro u hu;simp at hu;subst hu;rfl) (by decide) (by unfold maxLen;omega) (by omega) (by rw [World.size_alloc,World.size_alloc];omega) _ rfl ?_;intro q8 cp8 w8 own8 gr8 hor8 hlt8;have K78 : Kp (fun k => (Value.slice no ms.length nc).ownBlock = some k) (w7.alloc (.cells #[.int .i64 kk,.string vt,.slice p1 q1 z1,.slice p2 q2 z2] 70)) w8:=(((Kp.refl (fun k => (Value.slice no ms.length nc).ownBlock = some k) (w7.alloc (.cells #[.int .i64 kk,.string vt,.slice p1 q1 z1,.slice p2 q2 z2] 70))).alloc _)).grew gr8 (fun k e => Or.inr e);have hz8:=K78.size;rw [World.size_alloc] at hz8;have z8:=(zk.zs.below (al1 w7 (.cells #[.int .i64 kk,.string vt,.slice p1 q1 z1,.slice p2 q2 z2] 70))).farS (fun k e => by have:=(hNo k e).1;omega) K78;have bV8:=(K78.block (w.heap.size + 1) (by rw [World.size_alloc];omega) (fun e => by have:=(hNo _ e).1;omega)).trans bV7;have bX8:=(K78.block w7.heap.size (by rw [World.size_alloc];omega) (fun e => by have:=(hNo _ e).2;omega)).trans (heap_alloc_new w7 _);obtain ⟨x0,x1,x2,x3,fx8⟩:=row4 bV8;have K89 : Kp (Own1 (w.heap.size + 1)) w8 (w8.setCell ⟨w.heap.size + 1,3,none⟩ (.slice (some ⟨q8,0,none⟩) (ms.length + 1) cp8)):=Kp.own (w.heap.size + 1) 3 _;have bX9:=(K89.block w7.heap.size (by omega) (fun e => by have e' : w7.heap.size = w.heap.size + 1:=e;omega)).trans bX8;have bV9:=var3 bV8 (.slice (some ⟨q8,0,none⟩) (ms.length + 1) cp8);obtain ⟨s0,s1,s2,s3,fs⟩:=row4 bV9;obtain ⟨t0,t1,t2,t3,ft⟩:=row4 bX9;have hrow9:=(hrow7.keep2 K78 (fun k e => hfar k e)).keep K89 (fun q e => by have e' : q = w.heap.size + 1:=e;omega);have z9:=z8.far (X:=w.heap.size + 1) (by omega) K89;have hz9:=K89.size)
     | (at_builtin;refine wpList_append_lies _ rfl (.tmp 97) (.tmp 99) 68 rfl (w.heap.size + 1 + 1) 70 ti _ 4 72 Tryz.underlying68 hti hy0 hy1 hy2 rfl (by decide) (.slice lo ms.length lc) ms.length xs rfl (hrow9.ownM.alloc _) ⟨w8.heap.size,0,none⟩ 1 1 [.int .i64 kk,.string vt,.slice p1 q1 z1,.slice p2 q2 z2] rfl rfl (World.news_of_block (new_after w8 _ _ _)) (by intro u hu;simp at hu;rcases hu with rfl | rfl | rfl | rfl <;> rfl) (by decide) (by unfold maxLen;omega) (by omega) (by rw [World.size_alloc];omega) _ rfl ?_;intro q10 cp10 w10 own10 gr10 hor10 hlt10;have K910 : Kp (fun k => (Value.slice lo ms.length lc).ownBlock = some k) (w8.setCell ⟨w.heap.size + 1,3,none⟩ (.slice (some ⟨q8,0,none⟩) (ms.length + 1) cp8)) w10:=((Kp.refl (fun k => (Value.slice lo ms.length lc).ownBlock = some k) (w8.setCell ⟨w.heap.size + 1,3,none⟩ (.slice (some ⟨q8,0,none⟩) (ms.length + 1) cp8))).alloc _).grew gr10 (fun k e => Or.inr e);have hz10:=K910.size;have z10:=z9.farS (fun k e => by have:=(hLo k e).1;omega) K910;have bV10:=(K910.block (w.heap.size + 1) (by omega) (fun e => by have:=(hLo _ e).1;omega)).trans bV9;obtain ⟨r0,r1,r2,r3,fr⟩:=row4 bV10;have K1011 : Kp (Own1 (w.heap.size + 1)) w10 (w10.setCell ⟨w.heap.size + 1,2,none⟩ (.slice (some ⟨q10,0,none⟩) (ms.length + 1) cp10)):=Kp.own (w.heap.size + 1) 2 _;have z11:=z10.far (X:=w.heap.size + 1) (by omega) K1011;obtain ⟨c0,c1,c2,c3,c4,c5,c6,c7,c8,fz⟩:=z11.cells)
     | (go_at_call 77;(with_reducible refine (VC _ zm).mono ?_);rintro e w7 ⟨cs,v,g7,rfl,⟨kk,vt,p1,q1,z1,p2,q2,z2,rfl,hat⟩,zk,hst7,hcs7,hbd7⟩;have k57 : Kp (Own1 R) wr w7:=(kp_non j5).trans (kn.trans (km.trans zk.kp));have hz57:=k57.size;have bV7:=((al1 w7 (.cells #[.int .i64 kk,.string vt,.slice p1 q1 z1,.slice p2 q2 z2] 70)).block (w.heap.size + 1) (Nat.lt_of_lt_of_le hVlt hz57)).trans ((k57.block (w.heap.size + 1) hVlt (fun e => by have e' : w.heap.size + 1 = R:=e;omega)).trans bV5);obtain ⟨y0,y1,y2,y3,fy⟩:=row4 bV7;have hrow7:=LP.row.keep (k57.alloc (.cells #[.int .i64 kk,.string vt,.slice p1 q1 z1,.slice p2 q2 z2] 70)) (fun q e => by have e' : q = R:=e;omega);have hnm7:=LP.nms.keep (k57.alloc (.cells #[.int .i64 kk,.string vt,.slice p1 q1 z1,.slice p2 q2 z2] 70)) (fun q e => by have e' : q = R:=e;omega))
     | (go_at_call 75;(with_reducible refine (MU _ zn).mono ?_);rintro e wm ⟨rfl,zm,km⟩)
     | (go_at_call 41;(with_reducible refine (NA _ (LP.zs.kp j5)).mono ?_);rintro e wn ⟨rfl,zn,kn⟩)
     | (go_at_call 45;(with_reducible refine X.mono ?_);rintro e w5 ⟨rfl,j5⟩)
     | fail)
    have hst8 : St T N g7 (rest (thnS (valF fx (n - 1)) st3)):=hst7
    have hok7:=st_isOk hst8
    have hme8:=hme cs hcs7
    have hbd8 : g7.I ≤ T.length + 16 * lenS st1 + 2:=by
     cases st3 with
     | error p =>
      have : g7.I ≤ g3.I + 16:=hbd7
      obtain ⟨r,hr⟩:=live_nx hl'
      have : l'.length = r.length + 1:=by rw [hr];rfl
      omega
     | ok l3 =>
      have : g7.I ≤ T.length + 16 * l3.length:=hbd7
      have:=hml.1 l3 rfl
      omega
    have hml2:=hml.2
    generalize rest (thnS (valF fx (n - 1)) st3) = st7 at *
    have hlS : lenS st7 < l'.length:=by
     cases st7 with
     | error p =>
      obtain ⟨r,hr⟩:=live_nx hl'
      rw [hr]
      exact Nat.succ_pos _
     | ok l3 => exact hml2 l3 rfl
    have hsw : wr.heap.size ≤ wm.heap.size:=by have:=j5.size;have:=kn.size;have:=km.size;omega
    have hzm:=zk.kp.size
    have hpN:=hnm7.pushM (x:=(nm,cs)) (P:=wr.heap.size) (De:=fun _ => False) (fun k e => (hNo k e).2) (by omega) (Ats.cons (.lf _) Ats.nil) (fun k e => e.elim) gr8 hor8 own8
    have hat9:=(hat.keep fun q hq => (al1 w7 (.cells #[.int .i64 kk,.string vt,.slice p1 q1 z1,.slice p2 q2 z2] 70)).block q hq.2).keep fun q hq => K78.block q (by rw [World.size_alloc];have:=hq.2;omega) (fun e => by have:=(hNo q e).2;have:=hq.1;omega)
    have hat10:=hat9.keep fun q hq => K89.block q (by have:=hq.2;omega) (fun e => by have e' : q = w.heap.size + 1:=e;have:=hq.1;omega)
    have hpV:=hrow9.pushM (x:=(nm,cs)) (P:=wm.heap.size) (De:=Iv wm.heap.size w7.heap.size) (fun k e => Nat.lt_of_lt_of_le (hLo k e).2 hsw) (by omega) hat10 (fun k hk => ⟨hk.1,by have:=hk.2;omega⟩) gr10 hor10 own10
    have hq8 : (Value.slice no ms.length nc).ownBlock = some q8 ∨ w7.heap.size < q8 ∧ q8 < w8.heap.size:=by
     rcases hor8 with e | e
     ·exact Or.inl e
     ·rw [World.size_alloc,World.size_alloc] at e
      exact Or.inr ⟨by omega,hlt8⟩
    have hq10 : (Value.slice lo ms.length lc).ownBlock = some q10 ∨ w8.heap.size ≤ q10:=by
     rcases hor10 with e | e
     ·exact Or.inl e
     ·rw [World.size_alloc] at e
      exact Or.inr (by omega)
    have hnl : (Value.slice lo ms.length lc).ownBlock ≠ some q8:=fun e => by
     rcases hq8 with e8 | e8
     ·exact (hfar q8 e8).1 e
     ·have:=(hLo q8 e).2;omega
    have hpN11:=((hpN.keep K89 (fun q e => by have e' : q = w.heap.size + 1:=e;omega)).keep2 K910 (fun k e => ⟨fun e8 => hnl ((own_q e8) ▸ e),fun hd => by rcases hd with hd | hd;exact LP.non k hd;exact hd⟩)).keep K1011 (fun q e => by have e' : q = w.heap.size + 1:=e;omega)
    refine ⟨⟨g7,st7,ms ++ [(nm,cs)],_,_,_,_,_,_,by rw [hok7],⟨z11,zk.fx.trans (u5.trans (n5.trans LP.fx)),zk.a.trans (u2.trans (n2.trans LP.a)),zk.b.trans (u3.trans (n3.trans LP.b)),zk.c.trans (u4.trans (n4.trans LP.c)),hst8,?_,var2 bV10 _,hpV.keep K1011 (fun q e => by have e' : q = w.heap.size + 1:=e;omega),hpN11,?_,?_,?_,?_,?_⟩⟩,?_⟩
    ·rw [LP.rel]
     show (anyS (memS (valF fx (n - 1))) [125] l').go _ = _
     rw [hany,hme8]
     cases st7 with
     | error p => rfl
     | ok m =>
      simp only [memR,go_ok]
      show ((anyS (memS (valF fx (n - 1))) [125] m).go _).go _ = (anyS (memS (valF fx (n - 1))) [125] m).go _
      cases anyS (memS (valF fx (n - 1))) [125] m with
      | error p => rfl
      | ok p => simp [Rs.go]
    ·rintro k (hd | hd)
     ·exact LP.non k hd
     ·exact hd
    ·intro q e
     have e9 : q8 = q:=by simpa [Value.ownBlock] using e
     subst e9
     refine ⟨fun e => ?_,fun hd => ?_⟩
     ·have e9 : q10 = q8:=by simpa [Value.ownBlock] using e
      subst e9
      rcases hq10 with e10 | e10
      ·exact hnl e10
      ·rcases hq8 with e8 | e8
       ·have:=(hNo _ e8).2;omega
       ·omega
     ·rcases hd with hd | hd
      ·rcases hq8 with e8 | e8
       ·exact (hfar _ e8).2 hd
       ·have:=(hD _ hd).2.1;omega
      ·have h1 : wm.heap.size ≤ q8:=hd.1
       have h2 : q8 < w7.heap.size:=hd.2
       rcases hq8 with e8 | e8
       ·have:=(hNo _ e8).2;omega
       ·omega
    ·refine ⟨K1011.os.trans (K910.os.trans (K89.os.trans (K78.os.trans (k57.os.trans LP.kp.os)))),K1011.tape.trans (K910.tape.trans (K89.tape.trans (K78.tape.trans (k57.tape.trans LP.kp.tape)))),K1011.output.trans (K910.output.trans (K89.output.trans (K78.output.trans (k57.output.trans LP.kp.output)))),by have:=LP.kp.size;have:=K1011.size;omega,fun q hq hS => ?_⟩
     have hq2 : q < w.heap.size + 1 + 1:=by rw [World.size_alloc,World.size_alloc] at hq;exact hq
     have h0:=LP.kp.size
     rw [World.size_alloc,World.size_alloc] at h0
     exact (K1011.block q (by omega) (fun e => hS (Or.inr e))).trans ((K910.block q (by omega) (fun e => by have:=(hLo q e).1;omega)).trans ((K89.block q (by omega) (fun e => hS (Or.inr e))).trans ((K78.block q (by rw [World.size_alloc];omega) (fun e => by have:=(hNo q e).1;omega)).trans (((al1 w7 _).block q (by omega)).trans ((k57.block q (by omega) (fun e => hS (Or.inl e))).trans (LP.kp.block q hq hS))))))
    ·rw [List.length_append,List.length_cons,List.length_nil]
     have : lenS (Except.ok l') = l'.length:=rfl
     omega
    ·refine ⟨hbd8,fun l2 e => ?_⟩
     rw [e] at hlS
     have : lenS (Except.ok l2) = l2.length:=rfl
     omega
    ·rw [hok7,hio,idx_eq LP.zs]
     cases st7 with
     | error p =>
      show 0 < T.length + 2 - g'.I
      omega
     | ok l3 =>
      have hl7 : Live T N g7 l3:=hst8
      have:=live_len hl7
      have e2 : lenS (Except.ok l3) = l3.length:=rfl
      show T.length + 2 - idxZ R _ < T.length + 2 - g'.I
      rw [idx_eq z11]
      omega
end
end
section
open Go Go.RowKit Go.Shelf
section
variable {R B : Nat} {L : Value} {T : List Tok} {N : Nat}
theorem ValC.less {fx : Bool} {d : Int} {n m m' : Nat} (h : ValC R B L T N fx d n m) (hm : m' ≤ m) : ValC R B L T N fx d n m' :=
 fun w g st h1 h2 h3 h4 h5 h6 => h w g st h1 h2 h3 h4 (fun l e => Nat.lt_of_lt_of_le (h5 l e) hm) h6
theorem zvalue_all (hT : TF T) (fx : Bool) : ∀ (m n : Nat) (d : Int),d + n = 32 → ValC R B L T N fx d n m:=by
 intro m
 induction m with
 | zero =>
  intro n d _ w g st h hst _ _ hl _
  cases st with
  | ok l => exact absurd (hl l rfl) (Nat.not_lt_zero _)
  | error p => exact zvalue_dead h hst
 | succ m ih =>
  intro n d hd w g st h hst hf hb hl hlo
  cases st with
  | error p => exact zvalue_dead h hst
  | ok l =>
   have hlv : Live T N g l:=hst
   have hlen:=hl l rfl
   have hI:=hlv.2.1
   have hfw:=h.few
   show Calls _ _ _ _ (ValZ R B L T N w g (.ok l) (valF fx n l))
   have hk : (nx T N g.I).k = 0 ∨ (nx T N g.I).k = 1 ∨ (nx T N g.I).k = 2 ∨ (nx T N g.I).k = 3 ∨ (nx T N g.I).k = 4:=by
    rcases live_cases hlv with ⟨_,hm,_⟩ | ⟨_,he,_⟩
    ·exact (hT _ hm).2.2
    ·rw [he];exact Or.inl rfl
   rcases hk with hk | hk | hk | hk | hk
   ·refine zvalue_0 h hlv n fx hk fun w' z' => ?_
    by_cases h1 : isP [91] l = true
    ·exact zmark_list z' hlv fx hf n (by rw [hb];exact hd) h1 (fun hn => (ih (n - 1) (g.b + 1) (by rw [hb];omega)).less (Nat.le_of_lt_succ hlen)) (by omega)
    ·by_cases h2 : isP [123] l = true
     ·exact zmark_obj hT z' hlv fx hf n (by rw [hb];exact hd) h2 (fun hn => (ih (n - 1) (g.b + 1) (by rw [hb];omega)).less (Nat.le_of_lt_succ hlen)) (by omega)
     ·have h1':=Bool.eq_false_iff.2 h1
      have h2':=Bool.eq_false_iff.2 h2
      by_cases h3 : isP [36] l = true
      ·cases fx with
       | true => exact zmark_none z' hlv true hf _ h1' h2' (Or.inr rfl)
       | false => exact zmark_var hT z' hlv hf _ h3 (by omega)
      ·exact zmark_none z' hlv fx hf _ h1' h2' (Or.inl (Bool.eq_false_iff.2 h3))
   ·exact zvalue_1 h hlv n fx hk (by omega)
   ·exact zvalue_2 h hlv n fx hk (by omega)
   ·exact zvalue_3 h hlv n fx hk (by omega)
   ·exact zvalue_4 h hlv n fx hk (by omega)
end
end
section
open Go Go.RowKit Go.Shelf
theorem vr_empty {Q E sz : Nat} (w : World) (hQ : Q ≤ w.heap.size) : Vr Q E sz (w.alloc (.cells #[] E)) (.slice (some ⟨w.heap.size,0,none⟩) 0 0) [] [] (fun _ => False) :=
 ⟨⟨by simp,Or.inr ⟨w.heap.size,0,#[],rfl,hQ,heap_alloc_new w _,Nat.le_refl _,by simp,by simp,by simp⟩⟩,Ats.nil,fun _ h => h.elim⟩
def RowZ (R B : Nat) (L : Value) (T : List Tok) (N E sz : Nat) (w : World) (g : Sg) (st : Except (Nat × Int) (List Tok)) (r : Rs (List (List CT))) (e : Ending) (w' : World) : Prop :=
 ∃ els o n c g',e = .returned (.slice o n c) ∧ At w' (Iv w.heap.size w'.heap.size) (rowC E sz els) (.slice o n c) ∧ ZK R B L T N w g w' g' ∧ St T N g' (rest r) ∧ (∀ a m,r = .ok (a,m) → els = a) ∧ g'.I ≤ bd T g st
def relS (f : List Tok → Rs (List CT)) (last : Bs) (els : List (List CT)) (st : Except (Nat × Int) (List Tok)) : Rs (List (List CT)):=match els with
 | [] => thnS (someS f last) st
 | e :: r => (thnS (anyS f last) st).go fun vs l1 => .ok ((e :: r) ++ vs,l1)
def oneR (x : List CT) : Except (Nat × Int) (List Tok) → Rs (List CT)
 | .ok m => .ok (x,m)
 | .error p => .error p
theorem relS_step {f : List Tok → Rs (List CT)} (hf : Eats f) {last : Bs} {els : List (List CT)} {l : List Tok} {cs : List CT} {st7 : Except (Nat × Int) (List Tok)} (h : els = [] ∨ isP last l = false) (hr : f l = oneR cs st7) : relS f last els (.ok l) = relS f last (els ++ [cs]) st7:=by
 cases els with
 | nil =>
  show someS f last l = (thnS (anyS f last) st7).go fun vs l1 => .ok ([cs] ++ vs,l1)
  unfold someS
  rw [hr]
  cases st7 with
  | error p => rfl
  | ok m =>
   simp only [oneR,go_ok]
   rfl
 | cons e r =>
  have h' : isP last l = false:=by
   rcases h with h | h
   ·cases h
   ·exact h
  show ((anyS f last l).go fun vs l1 => .ok ((e :: r) ++ vs,l1)) = ((thnS (anyS f last) st7).go fun vs l1 => .ok ((e :: (r ++ [cs])) ++ vs,l1))
  rw [anyS_eq hf,h',hr]
  cases st7 with
  | error p => rfl
  | ok m =>
   simp only [oneR,go_ok,Bool.false_eq_true,if_false]
   show ((anyS f last m).go _).go _ = (anyS f last m).go _
   cases anyS f last m with
   | error p => rfl
   | ok p => simp [Rs.go]
theorem relS_err (f : List Tok → Rs (List CT)) (last : Bs) (els : List (List CT)) (p : Nat × Int) : relS f last els (.error p) = .error p:=by
 cases els <;> rfl
theorem relS_end {f : List Tok → Rs (List CT)} (hf : Eats f) {last : Bs} {els : List (List CT)} {l : List Tok} (h : els ≠ []) (hp : isP last l = true) : relS f last els (.ok l) = .ok (els,l.tail):=by
 cases els with
 | nil => exact absurd rfl h
 | cons e r =>
  show ((anyS f last l).go fun vs l1 => .ok ((e :: r) ++ vs,l1)) = _
  rw [anyS_eq hf,hp]
  simp [go_ok]
theorem arg_st {fx : Bool} {l : List Tok} {x : Bs × List CT} {st7 : Except (Nat × Int) (List Tok)} (h : memS (valF fx 32) l = memR x st7) : argS fx l = oneR (sC x.1 :: x.2) st7:=by
 unfold argS
 rw [h]
 cases st7 <;> rfl
section
variable {R B : Nat} {L : Value} {T : List Tok} {N : Nat} {w : World} {g : Sg}
structure La (R B : Nat) (L : Value) (T : List Tok) (N Q E sz : Nat) (w0 : World) (g : Sg) (f : List Tok → Rs (List CT)) (last : Bs) (st1 : Except (Nat × Int) (List Tok)) (bn : Nat) (wr : World) (g' : Sg) (st : Except (Nat × Int) (List Tok)) (els : List (List CT)) (lv : Value) (xs : List Value) (D : Nat → Prop) : Prop where
 zs : Zs R B L T N wr g'
 fx : g'.fx = g.fx
 a : g'.a = g.a
 b : g'.b = g.b
 c : g'.c = g.c
 sts : St T N g' st
 rel : thnS (someS f last) st1 = relS f last els st
 row : Vr Q E sz wr lv els xs D
 kp : Kp (Own1 R) w0 wr
 few : els.length + lenS st ≤ 2049
 low : g'.I + 1 ≤ bn ∧ (∀ l,st = .ok l → l.length ≤ lenS st1)
def erZ (R : Nat) (w : World) : Int:=match w.cell? ⟨R,8,none⟩ with
 | some (.int _ i) => i
 | _ => 0
theorem erZ_eq {wr : World} {g' : Sg} (h : Zs R B L T N wr g') : erZ R wr = g'.er:=by
 unfold erZ
 obtain ⟨c0,c1,c2,c3,c4,c5,c6,c7,c8,fz⟩:=h.cells
 rw [c8]
set_option maxRecDepth 100000 in
set_option maxHeartbeats 4000000 in
theorem zargs_none (h : Zs R B L T N w g) {st : Except (Nat × Int) (List Tok)} (hst : St T N g st) (fx : Bool) (hc : ((nx T N g.I).k == 0 && (nx T N g.I).t == [40]) = false) : Calls Tryz.prog 72 #[.pointer (some ⟨R,0,none⟩)] w (RowZ R B L T N 121 5 w g st (thnS (argsS fx) st)):=by
 have I0:=mark_is h [40] hc
 have k0 : Kp Non w (w.alloc (.cells #[] 121)):=(Kp.refl Non w).alloc _
 go_enter Tryz.func72,Tryz.ntmps72
 go_wp2_with (first
  | (go_at_call 45;(with_reducible refine (I0 _ k0).mono ?_);rintro e w1 ⟨rfl,j1⟩;have k1:=k0.trans j1)
  | fail)
 refine bodyPost_ret (v:=.slice (some ⟨w.heap.size,0,none⟩) 0 0) (by simp [results,Tryz.results72,go_sem]) rfl ⟨[],_,_,_,g,rfl,((vr_empty w (Nat.le_refl _)).keep (S:=Non) j1 (fun q e => e.elim)).at_,⟨h.kp k1,rfl,rfl,rfl,rfl,kp_non k1⟩,?_,?_,?_⟩
 ·cases st with
  | error p => exact hst
  | ok l =>
   have hl : Live T N g l:=hst
   show St T N g (rest (argsS fx l))
   unfold argsS
   rw [live_isP hl,hc]
   exact hst
 ·cases st with
  | error p => intro a m e;cases e
  | ok l =>
   have hl : Live T N g l:=hst
   intro a m e
   change argsS fx l = _ at e
   unfold argsS at e
   rw [live_isP hl,hc] at e
   cases e
   rfl
 ·cases st with
  | error p => exact Nat.le_add_right _ _
  | ok l =>
   have hl : Live T N g l:=hst
   exact Nat.le_trans hl.2.1 (Nat.le_add_right _ _)
end
end
section
open Go Go.RowKit Go.Shelf
section
variable {R B : Nat} {L : Value} {T : List Tok} {N : Nat} {w : World} {g : Sg}
def tailS : Except (Nat × Int) (List Tok) → Except (Nat × Int) (List Tok)
 | .ok l => .ok l.tail
 | .error p => .error p
set_option maxRecDepth 100000 in
set_option maxHeartbeats 4000000 in
theorem zargs_some (hT : TF T) (h : Zs R B L T N w g) {st : Except (Nat × Int) (List Tok)} (hst : St T N g st) (fx : Bool) (hf : g.fx = fx) (hb : g.b = 0) (hc : ((nx T N g.I).k == 0 && (nx T N g.I).t == [40]) = true) (hlo : g.I < 999999) : Calls Tryz.prog 72 #[.pointer (some ⟨R,0,none⟩)] w (RowZ R B L T N 121 5 w g st (thnS (argsS fx) st)):=by
 have I0:=mark_is h [40] hc
 have hBs:=h.bs
 have hRl:=h.lt
 have hrb:=h.rb
 have hTn:=h.few
 have k0 : Kp Non w (w.alloc (.cells #[] 121)):=(Kp.refl Non w).alloc _
 have k0' : Kp (Own1 R) w (w.alloc (.cells #[] 121)):=(Kp.refl (Own1 R) w).alloc _
 have he : thnS (argsS fx) st = thnS (someS (argS fx) [41]) (tailS st):=by
  cases st with
  | error p => rfl
  | ok l =>
   have hl : Live T N g l:=hst
   show argsS fx l = someS (argS fx) [41] l.tail
   unfold argsS
   rw [live_isP hl,hc]
   rfl
 have hs1 : St T N g.step (tailS st):=by
  cases st with
  | error p => exact (show Dead g p from hst).of rfl rfl
  | ok l =>
   have hl : Live T N g l:=hst
   exact live_step hl (ne_P (by decide) ((live_isP hl [40]).trans hc)) rfl hl.2.2
 have hb1 : g.I + 2 ≤ bd T g st ∧ bd T g st ≤ 1100000 ∧ (0 < lenS (tailS st) → T.length + 16 * lenS (tailS st) + 16 ≤ bd T g st) ∧ lenS (tailS st) ≤ 2048:=by
  cases st with
  | error p =>
   show g.I + 2 ≤ g.I + 16 ∧ g.I + 16 ≤ 1100000 ∧ (0 < 0 → _) ∧ 0 ≤ 2048
   exact ⟨by omega,by omega,fun e => absurd e (Nat.lt_irrefl _),by omega⟩
  | ok l =>
   have hl : Live T N g l:=hst
   have h1:=live_len hl
   have h2:=hl.2.1
   show g.I + 2 ≤ T.length + 16 * l.length ∧ T.length + 16 * l.length ≤ 1100000 ∧ (0 < l.tail.length → T.length + 16 * l.tail.length + 16 ≤ T.length + 16 * l.length) ∧ l.tail.length ≤ 2048
   rw [List.length_tail]
   exact ⟨by omega,by omega,fun e => by omega,by omega⟩
 rw [he]
 obtain ⟨bn0,bn1,bn2,bn3⟩:=hb1
 unfold RowZ
 generalize tailS st = st1 at *
 generalize bd T g st = bn at *
 go_enter Tryz.func72,Tryz.ntmps72
 go_wp2_with (first
  | (go_at_call 45;(with_reducible refine (I0 _ k0).mono ?_);rintro e w1 ⟨rfl,j1⟩;have k1:=k0.trans j1;obtain ⟨c0,c1,c2,c3,c4,c5,c6,c7,c8,fz⟩:=(h.kp k1).cells)
  | fail)
 have z2:=(h.kp k1).set 1 (.int .i64 (g.I + 1 : Nat)) g.step (by simp [Sg.step]) (by show g.I + 1 ≤ 1000000000;omega) h.da
 have K12 : Kp (Own1 R) w1 (w1.setCell ⟨R,1,none⟩ (.int .i64 (g.I + 1 : Nat))):=Kp.own R 1 _
 go_loopw [3] (fun lv wr => ∃ g' st els xs D,La R B L T N w.heap.size 121 5 w g (argS fx) [41] st1 bn wr g' st els lv xs D) (fun _ wr => if erZ R wr = 0 then T.length + 2 - idxZ R wr else 0)
 case atStart =>
  refine ⟨g.step,st1,[],_,_,⟨z2,rfl,rfl,rfl,rfl,hs1,rfl,((vr_empty w (Nat.le_refl _)).keep (S:=Non) j1 (fun q e => e.elim)).keep K12 (fun q e => by have e' : q = R:=e;omega),(k0'.trans (kp_non j1)).trans K12,?_,?_⟩⟩
  ·simp only [List.length_nil]
   omega
  ·exact ⟨bn0,fun l' e => by rw [e];exact Nat.le_refl _⟩
 case round =>
  obtain ⟨g',st,els,xs,D,LP⟩:=hrel
  obtain ⟨lo,lc,rfl⟩:=LP.row.slice
  have hlow:=LP.low
  cases st with
  | error p =>
   have x1 : (g'.er == 0) = false:=by rw [st_isOk LP.sts];rfl
   have j5 : Kp Non wr wr:=Kp.refl Non wr
   have MU:=fun w5 (z5 : Zs R B L T N w5 g') => zmust_any z5 [41] (by have:=LP.zs.few;omega)
   have mst:=must_st (T:=T) (N:=N) LP.sts (s:=[41]) (by decide)
   obtain ⟨u1,u2,u3,u4,u5⟩:=must_facts (T:=T) (N:=N) g' [41]
   generalize g'.must T N [41] = g6 at *
   obtain ⟨d0,d1,d2,d3,d4,d5,d6,d7,d8,dz⟩:=LP.zs.cells
   go_wp2_with (first
    | (go_at_call 75;(with_reducible refine (MU _ (LP.zs.kp j5)).mono ?_);rintro e w6 ⟨rfl,z6,k6⟩)
    | fail)
   have k56 : Kp (Own1 R) wr w6:=(kp_non j5).trans k6
   have KR : Kp (Own1 R) w w6:=LP.kp.trans k56
   refine bodyPost_ret (v:=.slice lo els.length lc) (by simp [results,Tryz.results72,go_sem]) rfl ⟨els,_,_,_,g6,rfl,(LP.row.keep k56 (fun q e => by have e' : q = R:=e;omega)).at_,⟨z6,u5.trans LP.fx,u2.trans LP.a,u3.trans LP.b,u4.trans LP.c,KR⟩,?_,?_,?_⟩
   ·rw [LP.rel,relS_err]
    exact mst
   ·rw [LP.rel,relS_err]
    intro a m e;cases e
   ·omega
  | ok l' =>
   have x1 : (g'.er == 0) = true:=by rw [st_isOk LP.sts];rfl
   have hl' : Live T N g' l':=LP.sts
   by_cases h0 : els = []
   ·have x2 : ((els.length : Int) == 0) = true:=by rw [h0];rfl
    have hor : els = [] ∨ isP [41] l' = false:=Or.inl h0
    clear h0
    have j5 : Kp Non wr wr:=Kp.refl Non wr
    have hlenl:=live_len hl'
    have hl'l:=hlow.2 l' rfl
    have hfew:=LP.few
    have hTf:=LP.zs.few
    have hgI:=hl'.2.1
    obtain ⟨hns,hnm⟩:=name_st (T:=T) (N:=N) (st:=.ok l') hT hl'
    have hns' : St T N (g'.name T N []) (rest (nameS l')):=hns
    have hnm' : ∀ a m,nameS l' = .ok (a,m) → a = (nx T N g'.I).t:=hnm
    have hms:=must_st hns' (s:=[58]) (by decide)
    obtain ⟨n1,n2,n3,n4,n5⟩:=name_facts (T:=T) (N:=N) g' []
    obtain ⟨u1,u2,u3,u4,u5⟩:=must_facts (T:=T) (N:=N) (g'.name T N []) [58]
    have NA:=fun w5 (z5 : Zs R B L T N w5 g') => zname_any z5 [] (by omega)
    have MU:=fun w5 (z5 : Zs R B L T N w5 (g'.name T N [])) => zmust_any z5 [58] (by omega)
    clear hns hnm
    generalize (nx T N g'.I).t = nm at *
    generalize g'.name T N [] = g2 at *
    generalize g2.must T N [58] = g3 at *
    have hml:=mem_len (f:=valF fx 32) (valF_eats fx _) (l:=l')
    have hme:=fun cs => mem_st (f:=valF fx 32) (l:=l') (nm:=nm) (cs:=cs) hnm'
    generalize rest (thnS (mustS [58]) (rest (nameS l'))) = st3 at *
    have VC:=fun w5 (z5 : Zs R B L T N w5 g3) => zvalue_all hT fx l'.length 32 0 (by decide) w5 g3 st3 z5 hms (by rw [u5,n5,LP.fx,hf]) (by rw [u3,n3,LP.b,hb]) (fun l2 e => hml.1 l2 e) (by omega)
    have hLo:=fun k (e : (Value.slice lo els.length lc).ownBlock = some k) => own_block LP.row.own e
    have hkw:=LP.kp.size
    obtain ⟨ti,hti,hy0,hy1,hy2⟩:=info_parts Tryz.infoArg
    obtain ⟨d0,d1,d2,d3,d4,d5,d6,d7,d8,dz⟩:=LP.zs.cells
    go_wp2_with (first
     | (at_builtin;refine wpList_append_lies _ rfl (.tmp 39) (.tmp 43) 63 rfl w.heap.size 121 ti _ 5 88 Tryz.underlying63 hti hy0 hy1 hy2 rfl (by decide) (.slice lo els.length lc) els.length xs rfl (hrow7.own.alloc _) ⟨w7.heap.size + 1,0,none⟩ 1 1 [.string ⟨nm.toArray⟩,.int .i64 kk,.string vt,.slice p1 q1 z1,.slice p2 q2 z2] rfl rfl (World.news_of_block (two_new w7 _ _)) (by intro u hu;simp at hu;rcases hu with rfl | rfl | rfl | rfl | rfl <;> rfl) (by decide) (by unfold maxLen;omega) (by omega) (by rw [World.size_alloc,World.size_alloc];omega) _ rfl ?_;intro q8 cp8 w8 own8 gr8 hor8 hlt8)
     | (go_at_call 77;(with_reducible refine (VC _ zm).mono ?_);rintro e w7 ⟨cs,v,g7,rfl,⟨kk,vt,p1,q1,z1,p2,q2,z2,rfl,hat⟩,zk,hst7,hcs7,hbd7⟩;have k57 : Kp (Own1 R) wr w7:=(kp_non j5).trans (kn.trans (km.trans zk.kp));have hz57:=k57.size;have hrow7:=LP.row.keep (k57.alloc (.cells #[.int .i64 kk,.string vt,.slice p1 q1 z1,.slice p2 q2 z2] 70)) (fun q e => by have e' : q = R:=e;omega))
     | (go_at_call 75;(with_reducible refine (MU _ zn).mono ?_);rintro e wm ⟨rfl,zm,km⟩)
     | (go_at_call 41;(with_reducible refine (NA _ (LP.zs.kp j5)).mono ?_);rintro e wn ⟨rfl,zn,kn⟩)
     | fail)
    have hst8 : St T N g7 (rest (thnS (valF fx 32) st3)):=hst7
    have hok7:=st_isOk hst8
    have hme8:=arg_st (hme cs hcs7)
    obtain ⟨r,hr⟩:=live_nx hl'
    have hl1' : l'.length = r.length + 1:=by rw [hr];rfl
    have hbn:=bn2 (by omega)
    have hbd8 : g7.I + 1 ≤ bn:=by
     cases st3 with
     | error p =>
      have : g7.I ≤ g3.I + 16:=hbd7
      omega
     | ok l3 =>
      have : g7.I ≤ T.length + 16 * l3.length:=hbd7
      have:=hml.1 l3 rfl
      omega
    have hml2:=hml.2
    generalize rest (thnS (valF fx 32) st3) = st7 at *
    have hlS : lenS st7 < l'.length:=by
     cases st7 with
     | error p => rw [hl1'];exact Nat.succ_pos _
     | ok l3 => exact hml2 l3 rfl
    have hsw : wr.heap.size ≤ wm.heap.size:=by have:=j5.size;have:=kn.size;have:=km.size;omega
    have hzm:=zk.kp.size
    have hat9:=hat.keep fun q hq => (al1 w7 (.cells #[.int .i64 kk,.string vt,.slice p1 q1 z1,.slice p2 q2 z2] 70)).block q hq.2
    have hpV:=hrow7.push (cs:=sC nm :: cs) (P:=wm.heap.size) (De:=Iv wm.heap.size w7.heap.size) (fun k e => Nat.lt_of_lt_of_le (hLo k e).2 hsw) (by omega) (Ats.cons (.lf _) hat9) (fun k hk => ⟨hk.1,by rw [World.size_alloc];have:=hk.2;omega⟩) gr8 hor8 own8
    have K78 : Kp (fun k => w.heap.size ≤ k) w7 w8:=(((Kp.refl (fun k => w.heap.size ≤ k) w7).alloc _).alloc _).grew gr8 (fun k e => Or.inr (hLo k e).1)
    have z8:=zk.zs.farS (fun k e => by have e' : w.heap.size ≤ k:=e;omega) K78
    refine ⟨⟨g7,st7,els ++ [sC nm :: cs],_,_,⟨z8,zk.fx.trans (u5.trans (n5.trans LP.fx)),zk.a.trans (u2.trans (n2.trans LP.a)),zk.b.trans (u3.trans (n3.trans LP.b)),zk.c.trans (u4.trans (n4.trans LP.c)),hst8,?_,hpV,?_,?_,?_⟩⟩,?_⟩
    ·rw [LP.rel]
     exact relS_step (argS_eats fx) hor hme8
    ·have KK:=LP.kp.trans k57
     exact ⟨K78.os.trans KK.os,K78.tape.trans KK.tape,K78.output.trans KK.output,Nat.le_trans KK.size K78.size,fun q hq hS => (K78.block q (by omega) (fun e => by have e' : w.heap.size ≤ q:=e;omega)).trans (KK.block q hq hS)⟩
    ·rw [List.length_append,List.length_cons,List.length_nil]
     have : lenS (Except.ok l') = l'.length:=rfl
     omega
    ·refine ⟨hbd8,fun l2 e => ?_⟩
     rw [e] at hlS
     have : lenS (Except.ok l2) = l2.length:=rfl
     omega
    ·rw [erZ_eq z8,erZ_eq LP.zs,idx_eq z8,idx_eq LP.zs,hl'.2.2,if_pos rfl]
     cases st7 with
     | error p =>
      have hd : Dead g7 p:=hst8
      rw [if_neg (by rw [hd.1];exact hd.2.1)]
      omega
     | ok l3 =>
      have hl7 : Live T N g7 l3:=hst8
      have:=live_len hl7
      have e2 : lenS (Except.ok l3) = l3.length:=rfl
      rw [hl7.2.2,if_pos rfl]
      omega
   ·have x2 : ((els.length : Int) == 0) = false:=by
     cases els with
     | nil => exact absurd rfl h0
     | cons a b => simp;omega
    have X:=zis_any LP.zs [41]
    rw [← live_isP hl'] at X
    by_cases hq : isP [41] l' = true
    ·rw [hq] at X
     have MU:=fun w5 (z5 : Zs R B L T N w5 g') => zmust_any z5 [41] (by have:=LP.zs.few;omega)
     have mst:=must_st (T:=T) (N:=N) LP.sts (s:=[41]) (by decide)
     obtain ⟨u1,u2,u3,u4,u5⟩:=must_facts (T:=T) (N:=N) g' [41]
     generalize g'.must T N [41] = g6 at *
     obtain ⟨d0,d1,d2,d3,d4,d5,d6,d7,d8,dz⟩:=LP.zs.cells
     go_wp2_with (first
      | (go_at_call 75;(with_reducible refine (MU _ (LP.zs.kp j5)).mono ?_);rintro e w6 ⟨rfl,z6,k6⟩)
      | (go_at_call 45;(with_reducible refine X.mono ?_);rintro e w5 ⟨rfl,j5⟩)
      | fail)
     have k56 : Kp (Own1 R) wr w6:=(kp_non j5).trans k6
     have KR : Kp (Own1 R) w w6:=LP.kp.trans k56
     refine bodyPost_ret (v:=.slice lo els.length lc) (by simp [results,Tryz.results72,go_sem]) rfl ⟨els,_,_,_,g6,rfl,(LP.row.keep k56 (fun q e => by have e' : q = R:=e;omega)).at_,⟨z6,u5.trans LP.fx,u2.trans LP.a,u3.trans LP.b,u4.trans LP.c,KR⟩,?_,?_,?_⟩
     ·rw [LP.rel,relS_end (argS_eats fx) h0 hq]
      exact (show Live T N g6 l'.tail from (by have:=mst;rw [show thnS (mustS [41]) (Except.ok l') = .ok ((),l'.tail) by (show mustS [41] l' = _;unfold mustS;rw [hq];rfl)] at this;exact this))
     ·rw [LP.rel,relS_end (argS_eats fx) h0 hq]
      intro a m e;cases e;rfl
     ·omega
    ·have hqf : isP [41] l' = false:=Bool.eq_false_iff.2 hq
     have hor : els = [] ∨ isP [41] l' = false:=Or.inr hqf
     rw [hqf] at X
     have hlenl:=live_len hl'
     have hl'l:=hlow.2 l' rfl
     have hfew:=LP.few
     have hTf:=LP.zs.few
     have hgI:=hl'.2.1
     obtain ⟨hns,hnm⟩:=name_st (T:=T) (N:=N) (st:=.ok l') hT hl'
     have hns' : St T N (g'.name T N []) (rest (nameS l')):=hns
     have hnm' : ∀ a m,nameS l' = .ok (a,m) → a = (nx T N g'.I).t:=hnm
     have hms:=must_st hns' (s:=[58]) (by decide)
     obtain ⟨n1,n2,n3,n4,n5⟩:=name_facts (T:=T) (N:=N) g' []
     obtain ⟨u1,u2,u3,u4,u5⟩:=must_facts (T:=T) (N:=N) (g'.name T N []) [58]
     have NA:=fun w5 (z5 : Zs R B L T N w5 g') => zname_any z5 [] (by omega)
     have MU:=fun w5 (z5 : Zs R B L T N w5 (g'.name T N [])) => zmust_any z5 [58] (by omega)
     clear hns hnm
     generalize (nx T N g'.I).t = nm at *
     generalize g'.name T N [] = g2 at *
     generalize g2.must T N [58] = g3 at *
     have hml:=mem_len (f:=valF fx 32) (valF_eats fx _) (l:=l')
     have hme:=fun cs => mem_st (f:=valF fx 32) (l:=l') (nm:=nm) (cs:=cs) hnm'
     generalize rest (thnS (mustS [58]) (rest (nameS l'))) = st3 at *
     have VC:=fun w5 (z5 : Zs R B L T N w5 g3) => zvalue_all hT fx l'.length 32 0 (by decide) w5 g3 st3 z5 hms (by rw [u5,n5,LP.fx,hf]) (by rw [u3,n3,LP.b,hb]) (fun l2 e => hml.1 l2 e) (by omega)
     have hLo:=fun k (e : (Value.slice lo els.length lc).ownBlock = some k) => own_block LP.row.own e
     have hkw:=LP.kp.size
     obtain ⟨ti,hti,hy0,hy1,hy2⟩:=info_parts Tryz.infoArg
     obtain ⟨d0,d1,d2,d3,d4,d5,d6,d7,d8,dz⟩:=LP.zs.cells
     go_wp2_with (first
      | (at_builtin;refine wpList_append_lies _ rfl (.tmp 39) (.tmp 43) 63 rfl w.heap.size 121 ti _ 5 88 Tryz.underlying63 hti hy0 hy1 hy2 rfl (by decide) (.slice lo els.length lc) els.length xs rfl (hrow7.own.alloc _) ⟨w7.heap.size + 1,0,none⟩ 1 1 [.string ⟨nm.toArray⟩,.int .i64 kk,.string vt,.slice p1 q1 z1,.slice p2 q2 z2] rfl rfl (World.news_of_block (two_new w7 _ _)) (by intro u hu;simp at hu;rcases hu with rfl | rfl | rfl | rfl | rfl <;> rfl) (by decide) (by unfold maxLen;omega) (by omega) (by rw [World.size_alloc,World.size_alloc];omega) _ rfl ?_;intro q8 cp8 w8 own8 gr8 hor8 hlt8)
      | (go_at_call 77;(with_reducible refine (VC _ zm).mono ?_);rintro e w7 ⟨cs,v,g7,rfl,⟨kk,vt,p1,q1,z1,p2,q2,z2,rfl,hat⟩,zk,hst7,hcs7,hbd7⟩;have k57 : Kp (Own1 R) wr w7:=(kp_non j5).trans (kn.trans (km.trans zk.kp));have hz57:=k57.size;have hrow7:=LP.row.keep (k57.alloc (.cells #[.int .i64 kk,.string vt,.slice p1 q1 z1,.slice p2 q2 z2] 70)) (fun q e => by have e' : q = R:=e;omega))
      | (go_at_call 75;(with_reducible refine (MU _ zn).mono ?_);rintro e wm ⟨rfl,zm,km⟩)
      | (go_at_call 41;(with_reducible refine (NA _ (LP.zs.kp j5)).mono ?_);rintro e wn ⟨rfl,zn,kn⟩)
      | (go_at_call 45;(with_reducible refine X.mono ?_);rintro e w5 ⟨rfl,j5⟩)
      | fail)
     have hst8 : St T N g7 (rest (thnS (valF fx 32) st3)):=hst7
     have hok7:=st_isOk hst8
     have hme8:=arg_st (hme cs hcs7)
     obtain ⟨r,hr⟩:=live_nx hl'
     have hl1' : l'.length = r.length + 1:=by rw [hr];rfl
     have hbn:=bn2 (by omega)
     have hbd8 : g7.I + 1 ≤ bn:=by
      cases st3 with
      | error p =>
       have : g7.I ≤ g3.I + 16:=hbd7
       omega
      | ok l3 =>
       have : g7.I ≤ T.length + 16 * l3.length:=hbd7
       have:=hml.1 l3 rfl
       omega
     have hml2:=hml.2
     generalize rest (thnS (valF fx 32) st3) = st7 at *
     have hlS : lenS st7 < l'.length:=by
      cases st7 with
      | error p => rw [hl1'];exact Nat.succ_pos _
      | ok l3 => exact hml2 l3 rfl
     have hsw : wr.heap.size ≤ wm.heap.size:=by have:=j5.size;have:=kn.size;have:=km.size;omega
     have hzm:=zk.kp.size
     have hat9:=hat.keep fun q hq => (al1 w7 (.cells #[.int .i64 kk,.string vt,.slice p1 q1 z1,.slice p2 q2 z2] 70)).block q hq.2
     have hpV:=hrow7.push (cs:=sC nm :: cs) (P:=wm.heap.size) (De:=Iv wm.heap.size w7.heap.size) (fun k e => Nat.lt_of_lt_of_le (hLo k e).2 hsw) (by omega) (Ats.cons (.lf _) hat9) (fun k hk => ⟨hk.1,by rw [World.size_alloc];have:=hk.2;omega⟩) gr8 hor8 own8
     have K78 : Kp (fun k => w.heap.size ≤ k) w7 w8:=(((Kp.refl (fun k => w.heap.size ≤ k) w7).alloc _).alloc _).grew gr8 (fun k e => Or.inr (hLo k e).1)
     have z8:=zk.zs.farS (fun k e => by have e' : w.heap.size ≤ k:=e;omega) K78
     refine ⟨⟨g7,st7,els ++ [sC nm :: cs],_,_,⟨z8,zk.fx.trans (u5.trans (n5.trans LP.fx)),zk.a.trans (u2.trans (n2.trans LP.a)),zk.b.trans (u3.trans (n3.trans LP.b)),zk.c.trans (u4.trans (n4.trans LP.c)),hst8,?_,hpV,?_,?_,?_⟩⟩,?_⟩
     ·rw [LP.rel]
      exact relS_step (argS_eats fx) hor hme8
     ·have KK:=LP.kp.trans k57
      exact ⟨K78.os.trans KK.os,K78.tape.trans KK.tape,K78.output.trans KK.output,Nat.le_trans KK.size K78.size,fun q hq hS => (K78.block q (by omega) (fun e => by have e' : w.heap.size ≤ q:=e;omega)).trans (KK.block q hq hS)⟩
     ·rw [List.length_append,List.length_cons,List.length_nil]
      have : lenS (Except.ok l') = l'.length:=rfl
      omega
     ·refine ⟨hbd8,fun l2 e => ?_⟩
      rw [e] at hlS
      have : lenS (Except.ok l2) = l2.length:=rfl
      omega
     ·rw [erZ_eq z8,erZ_eq LP.zs,idx_eq z8,idx_eq LP.zs,hl'.2.2,if_pos rfl]
      cases st7 with
      | error p =>
       have hd : Dead g7 p:=hst8
       rw [if_neg (by rw [hd.1];exact hd.2.1)]
       omega
      | ok l3 =>
       have hl7 : Live T N g7 l3:=hst8
       have:=live_len hl7
       have e2 : lenS (Except.ok l3) = l3.length:=rfl
       rw [hl7.2.2,if_pos rfl]
       omega
theorem zargs_all (hT : TF T) (h : Zs R B L T N w g) {st : Except (Nat × Int) (List Tok)} (hst : St T N g st) (fx : Bool) (hf : g.fx = fx) (hb : g.b = 0) (hlo : g.I < 999999) : Calls Tryz.prog 72 #[.pointer (some ⟨R,0,none⟩)] w (RowZ R B L T N 121 5 w g st (thnS (argsS fx) st)):=by
 cases hc : ((nx T N g.I).k == 0 && (nx T N g.I).t == [40]) with
 | false => exact zargs_none h hst fx hc
 | true => exact zargs_some hT h hst fx hf hb hc hlo
end
end
end Go.Proofs.YtgppemlciohjcaaGreatDoor
