/- The document's reader of trees: the whole document. -/
import Derived.Test.YtgppemlciohjcaaGreatDoorB44
import Derived.Test.YtgppemlciohjcaaGreatDoorB37
import Derived.Test.YtgppemlciohjcaaGreatDoorB12
namespace Go.Proofs.YtgppemlciohjcaaGreatDoor
section
open Go Go.RowKit Go.Shelf
theorem cellsT_atZ : ∀ (ts : List Tok) (i : Nat) (t : Tok),ts[i]? = some t → (cellsT ts)[4 * i]? = some (.int .i64 t.k) ∧ (cellsT ts)[4 * i + 1]? = some (.string ⟨t.t.toArray⟩) ∧ (cellsT ts)[4 * i + 2]? = some (.int .i64 (t.b : Int)) ∧ (cellsT ts)[4 * i + 3]? = some (.int .i64 (t.e : Int))
 | [],_,_,h => by simp at h
 | t :: ts,0,t',h => by
  simp at h
  subst h
  exact ⟨rfl,rfl,rfl,rfl⟩
 | t :: ts,i + 1,t',h => by
  have ih:=cellsT_atZ ts i t' (by simpa using h)
  have e : ∀ k,(cellsT (t :: ts))[4 * (i + 1) + k]? = (cellsT ts)[4 * i + k]?:=fun k => by
   rw [show 4 * (i + 1) + k = (4 * i + k) + 4 by omega]
   rfl
  exact ⟨(e 0).trans ih.1,(e 1).trans ih.2.1,(e 2).trans ih.2.2.1,(e 3).trans ih.2.2.2⟩
theorem tokL_of {W W' : World} {B0 : Nat} {v : Value} {ts : List Tok} (h : Toks W B0 v ts) (k : Kp Non W W') : TokL W.heap.size (W.heap.size + 1) W' v ts:=by
 rcases h.2 with ⟨rfl,h0⟩ | ⟨g,cap,cur,hv,hb,hg,hn,_,_,ht⟩
 ·exact ⟨none,0,by rw [h0],by omega,fun hne => absurd (List.length_eq_zero_iff.1 h0) hne⟩
 ·have hgl:=lt_of_block hg
  refine ⟨_,cap,hv,hn,fun _ => ⟨g,rfl,by omega,by omega,fun i t hi => ?_⟩⟩
  have hc:=cellsT_atZ ts i t hi
  have f : ∀ j x,(cellsT ts)[j]? = some x → W'.cell? ⟨g,j,none⟩ = some x:=fun j x hj => by
   rw [← ht,List.getElem?_take] at hj
   split at hj
   ·refine (World.cell?_of_block (a:=⟨g,j,none⟩) (k.block g hgl (fun e => e))).trans ?_
    unfold World.cell?
    rw [hg]
    simpa using hj
   ·cases hj
  rw [Nat.mul_comm i 4]
  exact ⟨f _ _ hc.1,f _ _ hc.2.1,f _ _ hc.2.2.1,f _ _ hc.2.2.2⟩
section
variable {α : Type}
def relG (f : List Tok → Rs α) (last : Bs) (xs : List α) (st : Except (Nat × Int) (List Tok)) : Rs (List α):=match xs with
 | [] => thnS (someS f last) st
 | e :: r => (thnS (anyS f last) st).go fun vs l1 => .ok ((e :: r) ++ vs,l1)
def oneG (x : α) : Except (Nat × Int) (List Tok) → Rs α
 | .ok m => .ok (x,m)
 | .error p => .error p
theorem relG_step {f : List Tok → Rs α} (hf : Eats f) {last : Bs} {xs : List α} {l : List Tok} {x : α} {st7 : Except (Nat × Int) (List Tok)} (h : xs = [] ∨ isP last l = false) (hr : f l = oneG x st7) : relG f last xs (.ok l) = relG f last (xs ++ [x]) st7:=by
 cases xs with
 | nil =>
  show someS f last l = (thnS (anyS f last) st7).go fun vs l1 => .ok ([x] ++ vs,l1)
  unfold someS
  rw [hr]
  cases st7 with
  | error p => rfl
  | ok m =>
   simp only [oneG,go_ok]
   rfl
 | cons e r =>
  have h' : isP last l = false:=by
   rcases h with h | h
   ·cases h
   ·exact h
  show ((anyS f last l).go fun vs l1 => .ok ((e :: r) ++ vs,l1)) = ((thnS (anyS f last) st7).go fun vs l1 => .ok ((e :: (r ++ [x])) ++ vs,l1))
  rw [anyS_eq hf,h',hr]
  cases st7 with
  | error p => rfl
  | ok m =>
   simp only [oneG,go_ok,Bool.false_eq_true,if_false]
   show ((anyS f last m).go _).go _ = (anyS f last m).go _
   cases anyS f last m with
   | error p => rfl
   | ok p => simp [Rs.go]
theorem relG_err (f : List Tok → Rs α) (last : Bs) (xs : List α) (p : Nat × Int) : relG f last xs (.error p) = .error p:=by
 cases xs <;> rfl
theorem relG_end {f : List Tok → Rs α} (hf : Eats f) {last : Bs} {xs : List α} {l : List Tok} (h : xs ≠ []) (hp : isP last l = true) : relG f last xs (.ok l) = .ok (xs,l.tail):=by
 cases xs with
 | nil => exact absurd rfl h
 | cons e r =>
  show ((anyS f last l).go fun vs l1 => .ok ((e :: r) ++ vs,l1)) = _
  rw [anyS_eq hf,hp]
  simp [go_ok]
end
theorem ops_op (xs : List (Bool × List CT)) (c : List CT) : opsOf (xs ++ [(false,c)]) = opsOf xs ++ [c]:=by simp [opsOf]
theorem ops_frag (xs : List (Bool × List CT)) (c : List CT) : opsOf (xs ++ [(true,c)]) = opsOf xs:=by simp [opsOf]
theorem frags_op (xs : List (Bool × List CT)) (c : List CT) : fragsOf (xs ++ [(false,c)]) = fragsOf xs:=by simp [fragsOf]
theorem frags_frag (xs : List (Bool × List CT)) (c : List CT) : fragsOf (xs ++ [(true,c)]) = fragsOf xs ++ [c]:=by simp [fragsOf]
theorem ops_len (xs : List (Bool × List CT)) : (opsOf xs).length ≤ xs.length:=by
 unfold opsOf
 rw [List.length_map]
 exact List.length_filter_le _ _
theorem frags_len (xs : List (Bool × List CT)) : (fragsOf xs).length ≤ xs.length:=by
 unfold fragsOf
 rw [List.length_map]
 exact List.length_filter_le _ _
theorem item_frag {l : List Tok} {cs : List CT} (hw : isW fragB l = true) (hc : ∀ a m,fragS l.tail = .ok (a,m) → cs = a) : itemS l = oneG (true,cs) (rest (fragS l.tail)):=by
 unfold itemS
 rw [if_pos hw]
 cases h : fragS l.tail with
 | error p => rfl
 | ok p =>
  obtain ⟨a,m⟩:=p
  rw [hc a m h]
  rfl
theorem item_op {l : List Tok} {cs : List CT} (hw : isW fragB l = false) (hc : ∀ a m,opS l = .ok (a,m) → cs = a) : itemS l = oneG (false,cs) (rest (opS l)):=by
 unfold itemS
 rw [if_neg (by rw [hw];decide)]
 cases h : opS l with
 | error p => rfl
 | ok p =>
  obtain ⟨a,m⟩:=p
  rw [hc a m h]
  rfl
theorem oneG_len {x : Bool × List CT} {l : List Tok} {st : Except (Nat × Int) (List Tok)} (h : itemS l = oneG x st) (hp : 0 < l.length) : lenS st < l.length:=by
 cases st with
 | error p => exact hp
 | ok m => exact itemS_eats _ _ _ h
section
variable {R B : Nat} {L : Value} {T : List Tok} {N : Nat}
structure Lz (R B : Nat) (L : Value) (T : List Tok) (N V : Nat) (w1 : World) (l0 : List Tok) (wr : World) (g : Sg) (st : Except (Nat × Int) (List Tok)) (xs : List (Bool × List CT)) (ov fv : Value) (os fs : List Value) (D E : Nat → Prop) : Prop where
 zs : Zs R B L T N wr g
 fx : g.fx = false
 a : g.a = 0
 b : g.b = 0
 c : g.c = 0
 sts : St T N g st
 rel : someS itemS [] l0 = relG itemS [] xs st
 var : wr.heap[V]? = some (.cells #[ov,fv] 25 (0,0))
 ro : Vr (V + 1) 61 5 wr ov (opsOf xs) os D
 rf : Vr (V + 1) 57 4 wr fv (fragsOf xs) fs E
 ap : ∀ q,ov.ownBlock = some q → fv.ownBlock ≠ some q ∧ ¬ E q
 ap' : ∀ q,fv.ownBlock = some q → ¬ D q
 kp : Kp Non w1 wr
 few : xs.length + lenS st ≤ 2050
 pos : ∀ l,st = .ok l → (xs = [] ∧ g.I = 0) ∨ (xs ≠ [] ∧ 0 < g.I)
theorem kp_new {w1 wr w' : World} {S : Nat → Prop} (k : Kp Non w1 wr) (k' : Kp S wr w') (hS : ∀ q,S q → w1.heap.size ≤ q) : Kp Non w1 w':=k.trans2 k' (fun q hq e => by have:=hS q e;omega)
theorem Lz.op {V : Nat} {w1 wr W w7 w8 : World} {l0 : List Tok} {g g7 : Sg} {st st7 : Except (Nat × Int) (List Tok)} {xs : List (Bool × List CT)} {ov fv : Value} {os fs : List Value} {D E : Nat → Prop} {cs : List CT} {us : List Value} {q8 cp8 : Nat} {o o' : Obj} (LP : Lz R B L T N V w1 l0 wr g st xs ov fv os fs D E) (hVR : R < V) (hBV : B ≤ V) (hw1 : w1.heap.size ≤ R)
  (j5 : Kp Non wr W) (zk : ZK R B L T N W g w7 g7) (hst7 : St T N g7 st7) (hat : Ats w7 (Iv W.heap.size w7.heap.size) cs us) (hrel : relG itemS [] xs st = relG itemS [] (xs ++ [(false,cs)]) st7) (hfew : xs.length + 1 + lenS st7 ≤ 2050) (hpos : ∀ l,st7 = .ok l → 0 < g7.I)
  (gr8 : ((w7.alloc o).alloc o').grownBy w8 ov.ownBlock) (hor8 : ov.ownBlock = some q8 ∨ q8 = ((w7.alloc o).alloc o').heap.size) (own8 : w8.ownsRow (V + 1) 61 5 (.slice (some ⟨q8,0,none⟩) ((opsOf xs).length + 1) cp8) ((opsOf xs).length + 1) (os ++ us)) :
  ∃ os' D',Lz R B L T N V w1 l0 (w8.setCell ⟨V,0,none⟩ (.slice (some ⟨q8,0,none⟩) ((opsOf xs).length + 1) cp8)) g7 st7 (xs ++ [(false,cs)]) (.slice (some ⟨q8,0,none⟩) ((opsOf xs).length + 1) cp8) fv os' fs D' E:=by
 have k57 : Kp (Own1 R) wr w7:=(kp_non j5).trans zk.kp
 have hz7:=k57.size
 have hz5:=j5.size
 have hVlt:=lt_of_block LP.var
 have hLo:=fun k (e : ov.ownBlock = some k) => own_block LP.ro.own e
 have hLf:=fun k (e : fv.ownBlock = some k) => own_block LP.rf.own e
 have hro7:=LP.ro.keep (k57.alloc o) (fun q e => by have e' : q = R:=e;omega)
 have hat9:=hat.keep fun q hq => (al1 w7 o).block q hq.2
 have hpV:=hro7.push (cs:=cs) (P:=W.heap.size) (De:=Iv W.heap.size w7.heap.size) (fun k e => Nat.lt_of_lt_of_le (hLo k e).2 hz5) (by omega) hat9 (fun k hk => ⟨hk.1,by rw [World.size_alloc];have:=hk.2;omega⟩) gr8 hor8 own8
 have K78 : Kp (fun k => V + 1 ≤ k) w7 w8:=(((Kp.refl (fun k => V + 1 ≤ k) w7).alloc o).alloc o').grew gr8 (fun k e => Or.inr (hLo k e).1)
 have z8:=zk.zs.farS (fun k e => by have e' : V + 1 ≤ k:=e;omega) K78
 have z9:=z8.far (X:=V) (by omega) (Kp.own V 0 (.slice (some ⟨q8,0,none⟩) ((opsOf xs).length + 1) cp8))
 have bV8 : w8.heap[V]? = some (.cells #[ov,fv] 25 (0,0)):=(K78.block V (by omega) (fun e => by have e' : V + 1 ≤ V:=e;omega)).trans ((k57.block V hVlt (fun e => by have e' : V = R:=e;omega)).trans LP.var)
 have K9 : Kp (fun k => k = V) w8 (w8.setCell ⟨V,0,none⟩ (.slice (some ⟨q8,0,none⟩) ((opsOf xs).length + 1) cp8)):=Kp.own V 0 _
 have Kx : Kp (fun k => ov.ownBlock = some k) w7 w8:=(((Kp.refl (fun k => ov.ownBlock = some k) w7).alloc o).alloc o').grew gr8 (fun k e => Or.inr e)
 have Kall : Kp (fun k => k = R ∨ k = V ∨ ov.ownBlock = some k) wr (w8.setCell ⟨V,0,none⟩ (.slice (some ⟨q8,0,none⟩) ((opsOf xs).length + 1) cp8)):=((k57.mono (fun _ _ e => Or.inl e)).trans (Kx.mono (fun _ _ e => Or.inr (Or.inr e)))).trans (K9.mono (fun _ _ e => Or.inr (Or.inl e)))
 have hw1s:=LP.kp.size
 refine ⟨os ++ us,fun k => D k ∨ Iv W.heap.size w7.heap.size k,⟨z9,zk.fx.trans LP.fx,zk.a.trans LP.a,zk.b.trans LP.b,zk.c.trans LP.c,hst7,LP.rel.trans hrel,?_,?_,?_,?_,?_,?_,?_,?_⟩⟩
 ·rw [heap_setCell_same _ V 0 _ _ _ bV8]
  simp
 ·rw [ops_op]
  exact hpV.keep K9 (fun q e => by have e' : q = V:=e;omega)
 ·rw [frags_op]
  refine LP.rf.keep2 Kall (fun q e => ?_)
  rcases e with e | e | e
  ·refine ⟨fun e2 => ?_,fun e2 => ?_⟩
   ·have:=(hLf q e2).1;omega
   ·have:=(LP.rf.far q e2).1;omega
  ·refine ⟨fun e2 => ?_,fun e2 => ?_⟩
   ·have:=(hLf q e2).1;omega
   ·have:=(LP.rf.far q e2).1;omega
  ·exact LP.ap q e
 ·intro q e
  obtain rfl : q = q8:=own_q e
  rcases hor8 with h | h
  ·exact LP.ap q h
  ·rw [World.size_alloc,World.size_alloc] at h
   refine ⟨fun e2 => ?_,fun e2 => ?_⟩
   ·have:=(hLf q e2).2;omega
   ·have:=(LP.rf.far q e2).2.1;omega
 ·intro q e hd
  rcases hd with hd | hd
  ·exact LP.ap' q e hd
  ·have:=(hLf q e).2
   have:=hd.1
   omega
 ·exact kp_new (kp_new LP.kp k57 (fun q e => by have e' : q = R:=e;omega)) (K78.trans (S:=fun k => V + 1 ≤ k) (Kp.refl _ _)) (fun q e => by have e' : V + 1 ≤ q:=e;omega) |> fun k => kp_new k K9 (fun q e => by have e' : q = V:=e;omega)
 ·rw [List.length_append,List.length_cons,List.length_nil]
  omega
 ·intro l e
  exact Or.inr ⟨by simp,hpos l e⟩
theorem Lz.frag {V : Nat} {w1 wr W w7 w8 : World} {l0 : List Tok} {g gs g7 : Sg} {st st7 : Except (Nat × Int) (List Tok)} {xs : List (Bool × List CT)} {ov fv : Value} {os fs : List Value} {D E : Nat → Prop} {cs : List CT} {us : List Value} {q8 cp8 : Nat} {o o' : Obj} (LP : Lz R B L T N V w1 l0 wr g st xs ov fv os fs D E) (hVR : R < V) (hBV : B ≤ V) (hw1 : w1.heap.size ≤ R)
  (j5 : Kp (Own1 R) wr W) (sf : gs.fx = false) (sa : gs.a = 0) (sb : gs.b = 0) (sc : gs.c = 0) (zk : ZK R B L T N W gs w7 g7) (hst7 : St T N g7 st7) (hat : Ats w7 (Iv W.heap.size w7.heap.size) cs us) (hrel : relG itemS [] xs st = relG itemS [] (xs ++ [(true,cs)]) st7) (hfew : xs.length + 1 + lenS st7 ≤ 2050) (hpos : ∀ l,st7 = .ok l → 0 < g7.I)
  (gr8 : ((w7.alloc o).alloc o').grownBy w8 fv.ownBlock) (hor8 : fv.ownBlock = some q8 ∨ q8 = ((w7.alloc o).alloc o').heap.size) (own8 : w8.ownsRow (V + 1) 57 4 (.slice (some ⟨q8,0,none⟩) ((fragsOf xs).length + 1) cp8) ((fragsOf xs).length + 1) (fs ++ us)) :
  ∃ fs' E',Lz R B L T N V w1 l0 (w8.setCell ⟨V,1,none⟩ (.slice (some ⟨q8,0,none⟩) ((fragsOf xs).length + 1) cp8)) g7 st7 (xs ++ [(true,cs)]) ov (.slice (some ⟨q8,0,none⟩) ((fragsOf xs).length + 1) cp8) os fs' D E':=by
 have k57 : Kp (Own1 R) wr w7:=j5.trans zk.kp
 have hz7:=k57.size
 have hz5:=j5.size
 have hVlt:=lt_of_block LP.var
 have hLo:=fun k (e : fv.ownBlock = some k) => own_block LP.rf.own e
 have hLf:=fun k (e : ov.ownBlock = some k) => own_block LP.ro.own e
 have hro7:=LP.rf.keep (k57.alloc o) (fun q e => by have e' : q = R:=e;omega)
 have hat9:=hat.keep fun q hq => (al1 w7 o).block q hq.2
 have hpV:=hro7.push (cs:=cs) (P:=W.heap.size) (De:=Iv W.heap.size w7.heap.size) (fun k e => Nat.lt_of_lt_of_le (hLo k e).2 hz5) (by omega) hat9 (fun k hk => ⟨hk.1,by rw [World.size_alloc];have:=hk.2;omega⟩) gr8 hor8 own8
 have K78 : Kp (fun k => V + 1 ≤ k) w7 w8:=(((Kp.refl (fun k => V + 1 ≤ k) w7).alloc o).alloc o').grew gr8 (fun k e => Or.inr (hLo k e).1)
 have z8:=zk.zs.farS (fun k e => by have e' : V + 1 ≤ k:=e;omega) K78
 have z9:=z8.far (X:=V) (by omega) (Kp.own V 1 (.slice (some ⟨q8,0,none⟩) ((fragsOf xs).length + 1) cp8))
 have bV8 : w8.heap[V]? = some (.cells #[ov,fv] 25 (0,0)):=(K78.block V (by omega) (fun e => by have e' : V + 1 ≤ V:=e;omega)).trans ((k57.block V hVlt (fun e => by have e' : V = R:=e;omega)).trans LP.var)
 have K9 : Kp (fun k => k = V) w8 (w8.setCell ⟨V,1,none⟩ (.slice (some ⟨q8,0,none⟩) ((fragsOf xs).length + 1) cp8)):=Kp.own V 1 _
 have Kx : Kp (fun k => fv.ownBlock = some k) w7 w8:=(((Kp.refl (fun k => fv.ownBlock = some k) w7).alloc o).alloc o').grew gr8 (fun k e => Or.inr e)
 have Kall : Kp (fun k => k = R ∨ k = V ∨ fv.ownBlock = some k) wr (w8.setCell ⟨V,1,none⟩ (.slice (some ⟨q8,0,none⟩) ((fragsOf xs).length + 1) cp8)):=((k57.mono (fun _ _ e => Or.inl e)).trans (Kx.mono (fun _ _ e => Or.inr (Or.inr e)))).trans (K9.mono (fun _ _ e => Or.inr (Or.inl e)))
 have hw1s:=LP.kp.size
 refine ⟨fs ++ us,fun k => E k ∨ Iv W.heap.size w7.heap.size k,⟨z9,zk.fx.trans sf,zk.a.trans sa,zk.b.trans sb,zk.c.trans sc,hst7,LP.rel.trans hrel,?_,?_,?_,?_,?_,?_,?_,?_⟩⟩
 ·rw [heap_setCell_same _ V 1 _ _ _ bV8]
  simp
 ·rw [ops_frag]
  refine LP.ro.keep2 Kall (fun q e => ?_)
  rcases e with e | e | e
  ·refine ⟨fun e2 => ?_,fun e2 => ?_⟩
   ·have:=(hLf q e2).1;omega
   ·have:=(LP.ro.far q e2).1;omega
  ·refine ⟨fun e2 => ?_,fun e2 => ?_⟩
   ·have:=(hLf q e2).1;omega
   ·have:=(LP.ro.far q e2).1;omega
  ·exact ⟨fun e2 => (LP.ap q e2).1 e,LP.ap' q e⟩
 ·rw [frags_frag]
  exact hpV.keep K9 (fun q e => by have e' : q = V:=e;omega)
 ·intro q e
  refine ⟨fun e2 => ?_,fun hd => ?_⟩
  ·obtain rfl : q = q8:=own_q e2
   rcases hor8 with h | h
   ·exact (LP.ap q e).1 h
   ·rw [World.size_alloc,World.size_alloc] at h
    have:=(hLf q e).2;omega
  ·rcases hd with hd | hd
   ·exact (LP.ap q e).2 hd
   ·have:=(hLf q e).2
    have:=hd.1
    omega
 ·intro q e hd
  obtain rfl : q = q8:=own_q e
  rcases hor8 with h | h
  ·exact LP.ap' q h hd
  ·rw [World.size_alloc,World.size_alloc] at h
   have:=(LP.ro.far q hd).2.1;omega
 ·exact kp_new (kp_new LP.kp k57 (fun q e => by have e' : q = R:=e;omega)) (K78.trans (S:=fun k => V + 1 ≤ k) (Kp.refl _ _)) (fun q e => by have e' : V + 1 ≤ q:=e;omega) |> fun k => kp_new k K9 (fun q e => by have e' : q = V:=e;omega)
 ·rw [List.length_append,List.length_cons,List.length_nil]
  omega
 ·intro l e
  exact Or.inr ⟨by simp,hpos l e⟩
end
end
section
open Go Go.RowKit Go.Shelf
theorem below_end {w w1 wr w' : World} {o : Obj} (b1 : Below (w.alloc o).heap.size (w.alloc o) w1) (k : Kp Non w1 wr) (k' : Kp (Own1 w.heap.size) wr w') : Below w.heap.size w w':=by
 have hz:=b1.size
 rw [World.size_alloc] at hz
 have hz2:=k.size
 have hz3:=k'.size
 refine ⟨k'.os.trans (k.os.trans b1.os),k'.tape.trans (k.tape.trans b1.tape),k'.output.trans (k.output.trans b1.output),by omega,fun j hj => ?_⟩
 exact (k'.block j (by omega) (fun e => by have e' : j = w.heap.size:=e;omega)).trans ((k.block j (by omega) (fun e => e)).trans ((b1.block j (by rw [World.size_alloc];omega)).trans ((al1 w o).block j hj)))
theorem end_block {w w1 wr : World} {o : Obj} (b1 : Below (w.alloc o).heap.size (w.alloc o) w1) (k : Kp Non w1 wr) : wr.heap[w.heap.size]? = some o:=by
 have hz:=b1.size
 rw [World.size_alloc] at hz
 exact (k.block _ (by omega) (fun e => e)).trans ((b1.block _ (by rw [World.size_alloc];omega)).trans (heap_alloc_new w o))
set_option maxRecDepth 100000 in
set_option maxHeartbeats 4000000 in
theorem zparse_lex (s : Bs) (p : Nat × Int) (hs : lexS s = .inl p) (w : World) : Calls Tryz.prog 10 #[.string ⟨s.toArray⟩] w (ParseP w (.error p)):=by
 have TO:=xtokens_any s (w.alloc zD)
 rw [hs] at TO
 have hp0:=lexS_bad hs
 obtain ⟨a,x⟩:=p
 have hp : (x != 0) = true:=by simpa using hp0
 have hp2 : (x == 0) = false:=by simpa using hp0
 clear hs hp0
 go_enter Tryz.func10,Tryz.ntmps10
 go_wp2_with (first
  | (go_at_call 21;(with_reducible refine TO.mono ?_);rintro e w1 ⟨rfl,hb⟩;obtain ⟨m0,m1,fm⟩:=row2 (end_block hb (Kp.refl Non w1)))
  | fail)
 refine bodyPost_ret (v:=.tuple #[.agg #[.slice none 0 0,.slice none 0 0],.int .i64 (a : Int),.int .i64 x]) (by simp [results,Tryz.results10,go_sem,m0,m1]) rfl ⟨rfl,?_⟩
 first
  | exact below_end hb (Kp.refl Non w1) (own2 w.heap.size (.slice none 0 0) (.slice none 0 0))
  | exact below_end hb (Kp.refl Non w1) (Kp.refl _ _)
section
variable {T : List Tok} {N : Nat}
abbrev gZ : Sg:=⟨0,false,0,0,0,0,0⟩
theorem zs_new {w1 : World} {B0 : Nat} {v : Value} {o : Obj} (ht : Toks w1 B0 v T) (hn : T.length ≤ 2048) : Zs w1.heap.size (w1.heap.size + 1) v T N ((w1.alloc (rowZ v N gZ)).alloc o) gZ where
 row:=((al1 (w1.alloc (rowZ v N gZ)) o).block _ (by simp)).trans (heap_alloc_new w1 _)
 tk:=tokL_of ht (((Kp.refl Non w1).alloc _).alloc _)
 few:=hn
 rb:=Nat.lt_succ_self _
 bs:=by rw [World.size_alloc,World.size_alloc];omega
 low:=Nat.zero_le _
 da:=by decide
end
set_option maxRecDepth 100000 in
set_option maxHeartbeats 16000000 in
theorem zparse_toks (s : Bs) (ts : List Tok) (hs : lexS s = .inr ts) (w : World) : Calls Tryz.prog 10 #[.string ⟨s.toArray⟩] w (ParseP w (match docS (ts ++ [eofT s.length]) with | .error p => .error p | .ok p => .ok p.1)):=by
 have TO:=xtokens_any s (w.alloc zD)
 rw [hs] at TO
 have hT:=tf_of hs
 obtain ⟨hn,hsl,_⟩:=lexS_full hs
 have hsz:=size_of s
 clear hs
 have hS0 : St ts s.length gZ (.ok (ts ++ [eofT s.length])):=⟨rfl,Nat.zero_le _,rfl⟩
 have hdo : (docS (ts ++ [eofT s.length])) = (someS itemS [] (ts ++ [eofT s.length])).go fun xs l1 => .ok (docC xs,l1):=rfl
 rw [hdo]
 clear hdo
 generalize hrr : (match ((someS itemS [] (ts ++ [eofT s.length])).go fun xs l1 => (.ok (docC xs,l1) : Rs (List CT))) with | .error p => .error p | .ok p => .ok p.1 : Except (Nat × Int) (List CT)) = rr
 have HR : Hid (rr = (match ((someS itemS [] (ts ++ [eofT s.length])).go fun xs l1 => (.ok (docC xs,l1) : Rs (List CT))) with | .error p => .error p | .ok p => .ok p.1)):=hrr.symm
 clear hrr
 have hl0 : (ts ++ [eofT s.length]).length = ts.length + 1:=by simp
 generalize ts ++ [eofT s.length] = l0 at *
 generalize hN : s.length = N at *
 obtain ⟨tiO,htiO,hyO0,hyO1,hyO2⟩:=info_parts Tryz.infoOp
 obtain ⟨tiF,htiF,hyF0,hyF1,hyF2⟩:=info_parts Tryz.infoFrag
 go_enter Tryz.func10,Tryz.ntmps10
 go_wp2_with (first
  | (go_at_call 21;(with_reducible refine TO.mono ?_);rintro e w1 ⟨⟨v,rfl,ht⟩,hb⟩;obtain ⟨tA,tc,rfl⟩:=own_slice ht;have hz0:=zs_new (N:=N) (o:=zD) ht hn)
  | fail)
 have hzw : w.heap.size + 1 ≤ w1.heap.size:=by have:=hb.size;rwa [World.size_alloc] at this
 have k13 : Kp Non w1 ((w1.alloc (rowZ (.slice tA ts.length tc) N gZ)).alloc zD):=((Kp.refl Non w1).alloc _).alloc _
 go_loopw [] (fun wr => ∃ g st xs ov fv os fs D E,Lz w1.heap.size (w1.heap.size + 1) (.slice tA ts.length tc) ts N (w1.heap.size + 1) w1 l0 wr g st xs ov fv os fs D E) (fun wr => if erZ w1.heap.size wr = 0 then ts.length + 2 - idxZ w1.heap.size wr else 0)
 case atStart =>
  refine ⟨gZ,.ok l0,[],_,_,_,_,_,_,⟨hz0,rfl,rfl,rfl,rfl,hS0,rfl,two_new w1 _ _,vr_none _,vr_none _,fun q e => (by cases e),fun q e => (by cases e),k13,?_,fun l e => Or.inl ⟨rfl,rfl⟩⟩⟩
  show 0 + l0.length ≤ 2050
  omega
 case round =>
  obtain ⟨g',st,xs,ov,fv,os,fs,D,E,LP⟩:=hrel
  obtain ⟨oo,oc,rfl⟩:=LP.ro.slice
  obtain ⟨fo,fc,rfl⟩:=LP.rf.slice
  obtain ⟨d0,d1,d2,d3,d4,d5,d6,d7,d8,dz⟩:=LP.zs.cells
  have bU:=end_block hb LP.kp
  obtain ⟨m0,m1,fm⟩:=row2 bU
  obtain ⟨v0,v1,fv0⟩:=row2 LP.var
  have hol:=ops_len xs
  have hfl:=frags_len xs
  have hfew:=LP.few
  cases st with
  | error p =>
   have hd : Dead g' p:=LP.sts
   have x1 : (g'.er == 0) = false:=by rw [st_isOk LP.sts];rfl
   have x2 : (g'.er != 0) = true:=by simp only [bne,x1];rfl
   have x3 : Hid (g'.at_ = (p.1 : Int)):=hd.2.2
   have x4 : Hid (g'.er = p.2):=hd.1
   have hrel:=LP.rel
   have hkp:=LP.kp
   clear LP hd
   go_wp2
   go_region
   all_goals go_wp2
   all_goals
    refine bodyPost_ret (v:=.tuple #[.agg #[.slice none 0 0,.slice none 0 0],.int .i64 g'.at_,.int .i64 g'.er]) (by simp [results,Tryz.results10,go_sem,m0,m1]) rfl ?_
    rw [HR.out,hrel,relG_err,x3.out,x4.out]
    refine ⟨rfl,?_⟩
    first
     | exact below_end hb hkp (own2 w.heap.size (.slice none 0 0) (.slice none 0 0)).drew
     | exact below_end hb hkp (Kp.refl _ _).drew
     | exact below_end hb hkp (Kp.refl _ _)
  | ok l' =>
   have hl' : Live ts N g' l':=LP.sts
   have hlenl:=live_len hl'
   have x1 : (g'.er == 0) = true:=by rw [st_isOk LP.sts];rfl
   have x2 : (g'.er != 0) = false:=by simp only [bne,x1];rfl
   have hp:=LP.pos l' rfl
   have hVlt:=lt_of_block LP.var
   have WD:=zword_any LP.zs [102,114,97,103,109,101,110,116]
   rw [show ((nx ts N g'.I).k == 1 && (nx ts N g'.I).t == [102,114,97,103,109,101,110,116]) = isW fragB l' from (live_isW hl' fragB).symm] at WD
   have hl1' : 0 < l'.length:=by
    obtain ⟨r,hr⟩:=live_nx hl'
    rw [hr];exact Nat.succ_pos _
   have hLs : lenS (Except.ok l' : Except (Nat × Int) (List Tok)) = l'.length:=rfl
   by_cases hlt : g'.I < ts.length
   ·have y1 : ((g'.I : Nat) : Int) < (ts.length : Int):=by omega
    have hor : xs = [] ∨ isP [] l' = false:=by
     right
     rcases live_cases hl' with ⟨_,hm,he⟩ | ⟨h1,_,_⟩
     ·rw [he]
      have:=(hT _ hm).1
      simp only [isP,Bool.and_eq_false_iff,beq_eq_false_iff_ne]
      by_cases hk : (nx ts N g'.I).k = 0
      ·exact Or.inr (fun e => this ⟨hk,e⟩)
      ·exact Or.inl hk
     ·omega
    cases hq : isW fragB l' with
    | true =>
     rw [hq] at WD
     have hlt' : Live ts N g'.step l'.tail:=live_step hl' (ne_W hq) rfl hl'.2.2
     have ZT:=fun w5 (z5 : Zs w1.heap.size (w1.heap.size + 1) (.slice tA ts.length tc) ts N w5 g') => z5.step (by omega)
     have sf : g'.step.fx = false:=LP.fx
     have sa : g'.step.a = 0:=LP.a
     have sb : g'.step.b = 0:=LP.b
     have sc : g'.step.c = 0:=LP.c
     have CL:=fun w5 (z5 : Zs w1.heap.size (w1.heap.size + 1) (.slice tA ts.length tc) ts N w5 g'.step) => zfrag_all hT z5 hlt' sf sa sb sc
     go_wp2_with (first
      | (at_builtin;refine wpList_append_lies _ rfl (.tmp 62) (.tmp 64) 23 rfl (w1.heap.size + 1 + 1) 57 tiF _ 4 80 Tryz.underlying23 htiF hyF0 hyF1 hyF2 rfl (by decide) (.slice fo (fragsOf xs).length fc) (fragsOf xs).length fs rfl (hrow7.own.alloc _) ⟨w7.heap.size + 1,0,none⟩ 1 1 [.string t1,.string t2,.slice p1 q1 z1,.slice p2 q2 z2] rfl rfl (World.news_of_block (two_new w7 _ _)) (by intro u hu;simp at hu;rcases hu with rfl | rfl | rfl | rfl <;> rfl) (by decide) (by unfold maxLen;omega) (by omega) (by rw [World.size_alloc,World.size_alloc];omega) _ rfl ?_;intro q8 cp8 w8 own8 gr8 hor8 hlt8;have bV8:=(((((Kp.refl (fun k => w1.heap.size + 1 + 1 ≤ k) w7).alloc _).alloc _).grew gr8 (fun k e => Or.inr (hLo k e).1)).block (w1.heap.size + 1) (by omega) (fun e => by have e' : w1.heap.size + 1 + 1 ≤ w1.heap.size + 1:=e;omega)).trans ((k57.block (w1.heap.size + 1) hVlt (fun e => by have e' : w1.heap.size + 1 = w1.heap.size:=e;omega)).trans LP.var);obtain ⟨c0,c1,fc8⟩:=row2 bV8)
      | (go_at_call 23;(with_reducible refine (CL _ z6).mono ?_);rintro e w7 ⟨cs,v,g7,rfl,⟨t1,t2,p1,q1,z1,p2,q2,z2,rfl,hat⟩,zk,hst7,hcs7,hbd7⟩;have k57 : Kp (Own1 w1.heap.size) wr w7:=((kp_non (S:=Own1 w1.heap.size) j5).set w1.heap.size 1 _ (Or.inr rfl)).trans zk.kp;have hz57:=k57.size;have hrow7:=LP.rf.keep (k57.alloc (.cells #[.string t1,.string t2,.slice p1 q1 z1,.slice p2 q2 z2] 57)) (fun q e => by have e' : q = w1.heap.size:=e;omega);have hLo:=fun k (e : (Value.slice fo (fragsOf xs).length fc).ownBlock = some k) => own_block LP.rf.own e;have bV7:=((al1 w7 (.cells #[.string t1,.string t2,.slice p1 q1 z1,.slice p2 q2 z2] 57)).block (w1.heap.size + 1) (by omega)).trans ((k57.block (w1.heap.size + 1) hVlt (fun e => by have e' : w1.heap.size + 1 = w1.heap.size:=e;omega)).trans LP.var);obtain ⟨u0,u1,fu⟩:=row2 bV7)
      | (go_at_call 22;(with_reducible refine WD.mono ?_);rintro e w5 ⟨rfl,j5⟩;have z6:=ZT _ (LP.zs.kp j5);obtain ⟨e0,e1,e2,e3,e4,e5,e6,e7,e8,ez⟩:=(LP.zs.kp j5).cells)
      | fail)
     have hme8:=item_frag hq hcs7
     generalize rest (fragS l'.tail) = st7 at *
     have hlS:=oneG_len hme8 hl1'
     have hpos7 : ∀ l,st7 = .ok l → 0 < g7.I:=by
      intro l e
      subst e
      have hl7 : Live ts N g7 l:=hst7
      have h1:=live_len hl7
      have h2 : lenS (Except.ok l : Except (Nat × Int) (List Tok)) = l.length:=rfl
      omega
     obtain ⟨fs',E',LQ⟩:=LP.frag (by omega) (by omega) (Nat.le_refl _) ((kp_non (S:=Own1 w1.heap.size) j5).set w1.heap.size 1 (.int .i64 ((g'.I : Int) + 1)) (Or.inr rfl)) sf sa sb sc zk hst7 (by rw [setc_size];rw [setc_size] at hat;exact hat) (relG_step itemS_eats hor hme8) (by omega) hpos7 gr8 hor8 own8
     refine ⟨⟨g7,st7,_,_,_,_,_,_,_,LQ⟩,?_⟩
     rw [erZ_eq LQ.zs,erZ_eq LP.zs,idx_eq LQ.zs,idx_eq LP.zs,hl'.2.2,if_pos rfl]
     cases st7 with
     | error p =>
      have hd : Dead g7 p:=hst7
      rw [if_neg (by rw [hd.1];exact hd.2.1)]
      omega
     | ok l3 =>
      have hl7 : Live ts N g7 l3:=hst7
      have:=live_len hl7
      have e2 : lenS (Except.ok l3 : Except (Nat × Int) (List Tok)) = l3.length:=rfl
      rw [hl7.2.2,if_pos rfl]
      omega
    | false =>
     rw [hq] at WD
     have CL:=fun w5 (z5 : Zs w1.heap.size (w1.heap.size + 1) (.slice tA ts.length tc) ts N w5 g') => zop_all hT z5 hl' LP.fx LP.a LP.b LP.c
     go_wp2_with (first
      | (at_builtin;refine wpList_append_lies _ rfl (.tmp 70) (.tmp 72) 22 rfl (w1.heap.size + 1 + 1) 61 tiO _ 5 96 Tryz.underlying22 htiO hyO0 hyO1 hyO2 rfl (by decide) (.slice oo (opsOf xs).length oc) (opsOf xs).length os rfl (hrow7.own.alloc _) ⟨w7.heap.size + 1,0,none⟩ 1 1 [.int .i64 kk,.string t1,.slice p1 q1 z1,.slice p2 q2 z2,.slice p3 q3 z3] rfl rfl (World.news_of_block (two_new w7 _ _)) (by intro u hu;simp at hu;rcases hu with rfl | rfl | rfl | rfl | rfl <;> rfl) (by decide) (by unfold maxLen;omega) (by omega) (by rw [World.size_alloc,World.size_alloc];omega) _ rfl ?_;intro q8 cp8 w8 own8 gr8 hor8 hlt8;have bV8:=(((((Kp.refl (fun k => w1.heap.size + 1 + 1 ≤ k) w7).alloc _).alloc _).grew gr8 (fun k e => Or.inr (hLo k e).1)).block (w1.heap.size + 1) (by omega) (fun e => by have e' : w1.heap.size + 1 + 1 ≤ w1.heap.size + 1:=e;omega)).trans ((k57.block (w1.heap.size + 1) hVlt (fun e => by have e' : w1.heap.size + 1 = w1.heap.size:=e;omega)).trans LP.var);obtain ⟨c0,c1,fc8⟩:=row2 bV8)
      | (go_at_call 24;(with_reducible refine (CL _ (LP.zs.kp j5)).mono ?_);rintro e w7 ⟨cs,v,g7,rfl,⟨kk,t1,p1,q1,z1,p2,q2,z2,p3,q3,z3,rfl,hat⟩,zk,hst7,hcs7,hbd7⟩;have k57 : Kp (Own1 w1.heap.size) wr w7:=(kp_non j5).trans zk.kp;have hz57:=k57.size;have hrow7:=LP.ro.keep (k57.alloc (.cells #[.int .i64 kk,.string t1,.slice p1 q1 z1,.slice p2 q2 z2,.slice p3 q3 z3] 61)) (fun q e => by have e' : q = w1.heap.size:=e;omega);have hLo:=fun k (e : (Value.slice oo (opsOf xs).length oc).ownBlock = some k) => own_block LP.ro.own e;have bV7:=((al1 w7 (.cells #[.int .i64 kk,.string t1,.slice p1 q1 z1,.slice p2 q2 z2,.slice p3 q3 z3] 61)).block (w1.heap.size + 1) (by omega)).trans ((k57.block (w1.heap.size + 1) hVlt (fun e => by have e' : w1.heap.size + 1 = w1.heap.size:=e;omega)).trans LP.var);obtain ⟨u0,u1,fu⟩:=row2 bV7)
      | (go_at_call 22;(with_reducible refine WD.mono ?_);rintro e w5 ⟨rfl,j5⟩)
      | fail)
     have hme8:=item_op hq hcs7
     generalize rest (opS l') = st7 at *
     have hlS:=oneG_len hme8 hl1'
     have hpos7 : ∀ l,st7 = .ok l → 0 < g7.I:=by
      intro l e
      subst e
      have hl7 : Live ts N g7 l:=hst7
      have h1:=live_len hl7
      have h2 : lenS (Except.ok l : Except (Nat × Int) (List Tok)) = l.length:=rfl
      omega
     obtain ⟨os',D',LQ⟩:=LP.op (by omega) (by omega) (Nat.le_refl _) j5 zk hst7 hat (relG_step itemS_eats hor hme8) (by omega) hpos7 gr8 hor8 own8
     refine ⟨⟨g7,st7,_,_,_,_,_,_,_,LQ⟩,?_⟩
     rw [erZ_eq LQ.zs,erZ_eq LP.zs,idx_eq LQ.zs,idx_eq LP.zs,hl'.2.2,if_pos rfl]
     cases st7 with
     | error p =>
      have hd : Dead g7 p:=hst7
      rw [if_neg (by rw [hd.1];exact hd.2.1)]
      omega
     | ok l3 =>
      have hl7 : Live ts N g7 l3:=hst7
      have:=live_len hl7
      have e2 : lenS (Except.ok l3 : Except (Nat × Int) (List Tok)) = l3.length:=rfl
      rw [hl7.2.2,if_pos rfl]
      omega
   ·have y1 : ¬ ((g'.I : Nat) : Int) < (ts.length : Int):=by omega
    have he : l' = [eofT N]:=by
     rcases live_cases hl' with ⟨h1,_,_⟩ | ⟨_,_,h2⟩
     ·exact absurd h1 hlt
     ·exact h2
    have hq : isW fragB l' = false:=by rw [he];rfl
    by_cases h0 : g'.I = 0
    ·have y2 : (((g'.I : Nat) : Int) == 0) = true:=by rw [h0];rfl
     have hor : xs = [] ∨ isP [] l' = false:=by
      rcases hp with h | h
      ·exact Or.inl h.1
      ·omega
     rw [hq] at WD
     clear he
     have hts : ts = []:=List.length_eq_zero_iff.1 (by omega)
     subst hts
     have CL:=fun w5 (z5 : Zs w1.heap.size (w1.heap.size + 1) (.slice tA ([] : List Tok).length tc) [] N w5 g') => zop_all hT z5 hl' LP.fx LP.a LP.b LP.c
     go_wp2_with (first
      | (at_builtin;refine wpList_append_lies _ rfl (.tmp 70) (.tmp 72) 22 rfl (w1.heap.size + 1 + 1) 61 tiO _ 5 96 Tryz.underlying22 htiO hyO0 hyO1 hyO2 rfl (by decide) (.slice oo (opsOf xs).length oc) (opsOf xs).length os rfl (hrow7.own.alloc _) ⟨w7.heap.size + 1,0,none⟩ 1 1 [.int .i64 kk,.string t1,.slice p1 q1 z1,.slice p2 q2 z2,.slice p3 q3 z3] rfl rfl (World.news_of_block (two_new w7 _ _)) (by intro u hu;simp at hu;rcases hu with rfl | rfl | rfl | rfl | rfl <;> rfl) (by decide) (by unfold maxLen;omega) (by omega) (by rw [World.size_alloc,World.size_alloc];omega) _ rfl ?_;intro q8 cp8 w8 own8 gr8 hor8 hlt8;have bV8:=(((((Kp.refl (fun k => w1.heap.size + 1 + 1 ≤ k) w7).alloc _).alloc _).grew gr8 (fun k e => Or.inr (hLo k e).1)).block (w1.heap.size + 1) (by omega) (fun e => by have e' : w1.heap.size + 1 + 1 ≤ w1.heap.size + 1:=e;omega)).trans ((k57.block (w1.heap.size + 1) hVlt (fun e => by have e' : w1.heap.size + 1 = w1.heap.size:=e;omega)).trans LP.var);obtain ⟨c0,c1,fc8⟩:=row2 bV8)
      | (go_at_call 24;(with_reducible refine (CL _ (LP.zs.kp j5)).mono ?_);rintro e w7 ⟨cs,v,g7,rfl,⟨kk,t1,p1,q1,z1,p2,q2,z2,p3,q3,z3,rfl,hat⟩,zk,hst7,hcs7,hbd7⟩;have k57 : Kp (Own1 w1.heap.size) wr w7:=(kp_non j5).trans zk.kp;have hz57:=k57.size;have hrow7:=LP.ro.keep (k57.alloc (.cells #[.int .i64 kk,.string t1,.slice p1 q1 z1,.slice p2 q2 z2,.slice p3 q3 z3] 61)) (fun q e => by have e' : q = w1.heap.size:=e;omega);have hLo:=fun k (e : (Value.slice oo (opsOf xs).length oc).ownBlock = some k) => own_block LP.ro.own e;have bV7:=((al1 w7 (.cells #[.int .i64 kk,.string t1,.slice p1 q1 z1,.slice p2 q2 z2,.slice p3 q3 z3] 61)).block (w1.heap.size + 1) (by omega)).trans ((k57.block (w1.heap.size + 1) hVlt (fun e => by have e' : w1.heap.size + 1 = w1.heap.size:=e;omega)).trans LP.var);obtain ⟨u0,u1,fu⟩:=row2 bV7)
      | (go_at_call 22;(with_reducible refine WD.mono ?_);rintro e w5 ⟨rfl,j5⟩)
      | fail)
     all_goals
      have hme8:=item_op hq hcs7
      generalize rest (opS l') = st7 at *
      have hlS:=oneG_len hme8 hl1'
      have hpos7 : ∀ l,st7 = .ok l → 0 < g7.I:=by
       intro l e
       subst e
       have hl7 : Live [] N g7 l:=hst7
       have h1:=live_len hl7
       have h2 : lenS (Except.ok l : Except (Nat × Int) (List Tok)) = l.length:=rfl
       omega
      obtain ⟨os',D',LQ⟩:=LP.op (by omega) (by omega) (Nat.le_refl _) j5 zk hst7 hat (relG_step itemS_eats hor hme8) (by omega) hpos7 gr8 hor8 own8
      first
       | refine ⟨⟨g7,st7,_,_,_,_,_,_,_,LQ⟩,?_⟩
       | exfalso
      have z1:=erZ_eq LQ.zs
      have i1:=idx_eq LQ.zs
      have i2:=idx_eq LP.zs
      have z2:=erZ_eq LP.zs
      have her:=hl'.2.2
      have e0 : ([] : List Tok).length = 0:=rfl
      cases st7 with
      | error p =>
       have hd : Dead g7 p:=hst7
       have h1:=hd.1
       have h2:=hd.2.1
       first
        | omega
        | (rw [z1,z2,if_neg (by omega),if_pos her];omega)
      | ok l3 =>
       have hl7 : Live [] N g7 l3:=hst7
       have h3:=live_len hl7
       have h4:=hl7.2.2
       have e2 : lenS (Except.ok l3 : Except (Nat × Int) (List Tok)) = l3.length:=rfl
       first
        | omega
        | (rw [z1,z2,if_pos h4,if_pos her];omega)
    ·have y2 : (((g'.I : Nat) : Int) == 0) = false:=by rw [beq_eq_false_iff_ne];omega
     have hx : xs ≠ []:=by
      rcases hp with h | h
      ·exact absurd h.2 h0
      ·exact h.1
     have hpe : isP [] l' = true:=by rw [he];rfl
     have hrel:=LP.rel
     rw [relG_end itemS_eats hx hpe] at hrel
     clear WD he hq
     go_wp2
     have K9:=own2 (w:=wr) w.heap.size (.slice oo (opsOf xs).length oc) (.slice fo (fragsOf xs).length fc)
     refine bodyPost_ret (v:=.tuple #[.agg #[.slice oo (opsOf xs).length oc,.slice fo (fragsOf xs).length fc],.int .i64 0,.int .i64 0]) (by simp [results,Tryz.results10,go_sem,m0,m1]) rfl ?_
     rw [HR.out,hrel]
     refine ⟨⟨_,rfl,oo,_,oc,fo,_,fc,rfl,?_⟩,below_end hb LP.kp K9⟩
     have h1:=(LP.ro.keep K9 (fun q e => by have e' : q = w.heap.size:=e;omega)).at_
     have h2:=(LP.rf.keep K9 (fun q e => by have e' : q = w.heap.size:=e;omega)).at_
     exact Ats.cons (h1.mono fun q hq => ⟨by have:=hq.1;omega,hq.2⟩) (Ats.cons (h2.mono fun q hq => ⟨by have:=hq.1;omega,hq.2⟩) Ats.nil)
theorem zparse_any (s : Bs) (w : World) : Calls Tryz.prog 10 #[.string ⟨s.toArray⟩] w (ParseP w (parseS s)):=by
 unfold parseS
 cases hs : lexS s with
 | inl p => exact zparse_lex s p hs w
 | inr ts => exact zparse_toks s ts hs w
end
end Go.Proofs.YtgppemlciohjcaaGreatDoor
