/- The document's reader of trees: a value that begins with no sign. -/
import Derived.Test.YtgppemlciohjcaaGreatDoorB38
import Derived.Test.YtgppemlciohjcaaGreatDoorB07
namespace Go.Proofs.YtgppemlciohjcaaGreatDoor
section
open Go Go.RowKit Go.Shelf
structure ZK (R B : Nat) (L : Value) (T : List Tok) (N : Nat) (w : World) (g : Sg) (w' : World) (g' : Sg) : Prop where
 zs : Zs R B L T N w' g'
 fx : g'.fx = g.fx
 a : g'.a = g.a
 b : g'.b = g.b
 c : g'.c = g.c
 kp : Kp (Own1 R) w w'
def bd (T : List Tok) (g : Sg) : Except (Nat × Int) (List Tok) → Nat
 | .ok l => T.length + 16 * l.length
 | .error _ => g.I + 16
theorem al2z (w : World) (o o' : Obj) : Below w.heap.size w ((w.alloc o).alloc o'):=(al1 w o).alloc (by simp) _
theorem valV_none (lo : Nat) (w' : World) (k : Int) (t : Bs) : ValV lo (valC k t [] []) (.agg #[.int .i64 k,.string ⟨t.toArray⟩,.slice none 0 0,.slice none 0 0]) w' :=
 ⟨k,_,none,0,0,none,0,0,rfl,Ats.cons (.lf _) (Ats.cons (.lf _) (Ats.cons (.nil _ _) (Ats.cons (.nil _ _) Ats.nil)))⟩
def ValZ (R B : Nat) (L : Value) (T : List Tok) (N : Nat) (w : World) (g : Sg) (st : Except (Nat × Int) (List Tok)) (r : Rs (List CT)) (e : Ending) (w' : World) : Prop :=
 ∃ cs v g',e = .returned v ∧ ValV w.heap.size cs v w' ∧ ZK R B L T N w g w' g' ∧ St T N g' (rest r) ∧ (∀ a m,r = .ok (a,m) → cs = a) ∧ g'.I ≤ bd T g st
section
variable {R B : Nat} {L : Value} {T : List Tok} {N : Nat} {w w3 w4 : World} {g : Sg}
theorem Zs.far (h : Zs R B L T N w3 g) {X : Nat} (hX : B ≤ X) (k : Kp (Own1 X) w3 w4) : Zs R B L T N w4 g where
 row:=(k.block R h.lt (fun e => by have e' : R = X:=e;have:=h.rb;omega)).trans h.row
 tk:=by
  obtain ⟨o,cap,e,hc,hq⟩:=h.tk
  refine ⟨o,cap,e,hc,fun hT => ?_⟩
  obtain ⟨q,e1,e2,e3,e4⟩:=hq hT
  have f : ∀ i,w4.cell? ⟨q,i,none⟩ = w3.cell? ⟨q,i,none⟩:=fun i => World.cell?_of_block (a:=⟨q,i,none⟩) (k.block q (Nat.lt_of_lt_of_le e3 h.bs) (fun e => by have e' : q = X:=e;omega))
  exact ⟨q,e1,e2,e3,fun i t ht => by
   obtain ⟨a0,a1,a2,a3⟩:=e4 i t ht
   exact ⟨(f _).trans a0,(f _).trans a1,(f _).trans a2,(f _).trans a3⟩⟩
 few:=h.few
 rb:=h.rb
 bs:=Nat.le_trans h.bs k.size
 low:=h.low
 da:=h.da
theorem zret4 {o : Obj} (hk : Kp (Own1 R) (w.alloc o) w3) (hS : Zs R B L T N w3 g) (hB : B ≤ w.heap.size) (u0 u1 u2 u3 : Value) : Zs R B L T N ((((w3.setCell ⟨w.heap.size,0,none⟩ u0).setCell ⟨w.heap.size,1,none⟩ u1).setCell ⟨w.heap.size,2,none⟩ u2).setCell ⟨w.heap.size,3,none⟩ u3) g ∧ Kp (Own1 R) w ((((w3.setCell ⟨w.heap.size,0,none⟩ u0).setCell ⟨w.heap.size,1,none⟩ u1).setCell ⟨w.heap.size,2,none⟩ u2).setCell ⟨w.heap.size,3,none⟩ u3) :=
 ⟨hS.far hB (own4 w.heap.size u0 u1 u2 u3),(((Kp.refl (Own1 R) w).alloc o).trans hk).ret (own4 w.heap.size u0 u1 u2 u3) (Nat.le_refl _)⟩
set_option maxRecDepth 100000 in
set_option maxHeartbeats 2000000 in
theorem zvalue_dead (h : Zs R B L T N w g) {p : Nat × Int} (hd : Dead g p) : Calls Tryz.prog 77 #[.pointer (some ⟨R,0,none⟩)] w (ValZ R B L T N w g (.error p) (.error p)):=by
 have X:=fun o => znext_any (h.below (al1 w o))
 have hRl:=h.lt
 generalize nx T N g.I = t at *
 have x1 : (g.er == 0) = false:=by have:=hd.1;have:=hd.2.1;simp;omega
 have x2 : (g.er != 0) = true:=by simp only [bne,x1];rfl
 go_enter Tryz.func77,Tryz.ntmps77
 go_wp2_with (first
  | (go_at_call 40;(with_reducible refine (X _).mono ?_);rintro e w1 ⟨rfl,k1⟩;have h1:=((h.below (al1 w _)).kp k1).below (al2z w1 (.cells #[.int .i64 t.k,.string ⟨t.t.toArray⟩,.int .i64 (t.b : Int),.int .i64 (t.e : Int)] 40) (.cells #[.int .i64 0,.string ⟨t.t.toArray⟩,.slice none 0 0,.slice none 0 0] 70));obtain ⟨c0,c1,c2,c3,c4,c5,c6,c7,c8,fz⟩:=h1.cells;have K2 : Kp (Own1 R) (w.alloc _) ((w1.alloc (.cells #[.int .i64 t.k,.string ⟨t.t.toArray⟩,.int .i64 (t.b : Int),.int .i64 (t.e : Int)] 40)).alloc (.cells #[.int .i64 0,.string ⟨t.t.toArray⟩,.slice none 0 0,.slice none 0 0] 70)):=((kp_non k1).alloc _).alloc _;obtain ⟨m0,m1,m2,m3,fm⟩:=row4 (new_row K2 (fun e => by have e' : w.heap.size = R:=e;omega)))
  | fail)
 obtain ⟨r1,r2⟩:=zret4 K2 h1 h.bs (.int .i64 0) (.string ⟨t.t.toArray⟩) (.slice none 0 0) (.slice none 0 0)
 refine bodyPost_ret (v:=.agg #[.int .i64 0,.string ⟨t.t.toArray⟩,.slice none 0 0,.slice none 0 0]) (by simp [results,Tryz.results77,go_sem,m0,m1,m2,m3]) rfl ⟨valC 0 t.t [] [],_,g,rfl,valV_none _ _ _ _,⟨r1,rfl,rfl,rfl,rfl,r2⟩,hd,fun a m e => (by cases e),Nat.le_add_right _ _⟩
theorem val_leaf (fx : Bool) (n : Nat) {l : List Tok} {t : Tok} {r : List Tok} (hl : l = t :: r) (h : t.k = 1 ∨ t.k = 2 ∨ t.k = 3 ∨ t.k = 4) : valF fx n l = .ok ((if t.k = 1 then namedC t.t else if t.k = 2 then valC 4 t.t [] [] else if t.k = 3 then valC 5 t.t [] [] else valC 6 t.t [] []),r):=by
 subst hl
 rw [valF_eq]
 unfold valG
 obtain ⟨k,tt,b,e⟩:=t
 simp only at h
 rcases h with rfl | rfl | rfl | rfl <;> rfl
theorem leaf_blocks {o o1 o2 : Obj} {w1 : World} (h : Zs R B L T N w g) (k1 : Kp Non (w.alloc o) w1) (hl : g.I < 1000000000) : Zs R B L T N (((w1.alloc o1).alloc o2).setCell ⟨R,1,none⟩ (.int .i64 ((g.I : Int) + 1))) g.step ∧ Kp (Own1 R) (w.alloc o) (((w1.alloc o1).alloc o2).setCell ⟨R,1,none⟩ (.int .i64 ((g.I : Int) + 1))) ∧ (((w1.alloc o1).alloc o2).setCell ⟨R,1,none⟩ (.int .i64 ((g.I : Int) + 1))).heap[w.heap.size]? = some o ∧ (((w1.alloc o1).alloc o2).setCell ⟨R,1,none⟩ (.int .i64 ((g.I : Int) + 1))).heap[w1.heap.size]? = some o1 ∧ (((w1.alloc o1).alloc o2).setCell ⟨R,1,none⟩ (.int .i64 ((g.I : Int) + 1))).heap[w1.heap.size + 1]? = some o2 ∧ w.heap.size < w1.heap.size:=by
 have h1:=((h.below (al1 w o)).kp k1)
 have hlt:=h.lt
 have hsz : w.heap.size + 1 ≤ w1.heap.size:=by have:=k1.size;simpa using this
 have h2:=h1.below (al2z w1 o1 o2)
 have K2 : Kp (Own1 R) (w.alloc o) ((w1.alloc o1).alloc o2):=((kp_non k1).alloc _).alloc _
 have e0 : w1.heap[w.heap.size]? = some o:=(k1.block w.heap.size (by simp) (fun e => e)).trans (heap_alloc_new w o)
 have set : ∀ q,q ≠ R → q < ((w1.alloc o1).alloc o2).heap.size → (((w1.alloc o1).alloc o2).setCell ⟨R,1,none⟩ (.int .i64 ((g.I : Int) + 1))).heap[q]? = ((w1.alloc o1).alloc o2).heap[q]?:=fun q hq hs => (Kp.own (w:=(w1.alloc o1).alloc o2) R 1 (.int .i64 ((g.I : Int) + 1))).block q hs (fun e => hq e)
 refine ⟨h2.step hl,K2.set R 1 _ (Or.inr rfl),?_,?_,?_,by omega⟩
 ·rw [set _ (by omega) (by rw [World.size_alloc,World.size_alloc];omega)]
  exact ((al2z w1 o1 o2).block w.heap.size (by omega)).trans e0
 ·rw [set _ (by omega) (by rw [World.size_alloc,World.size_alloc];omega)]
  exact ((al1 (w1.alloc o1) o2).block w1.heap.size (by simp)).trans (heap_alloc_new w1 o1)
 ·rw [set _ (by omega) (by rw [World.size_alloc,World.size_alloc];omega)]
  have:=heap_alloc_new (w1.alloc o1) o2
  rwa [World.size_alloc] at this
set_option maxRecDepth 100000 in
set_option maxHeartbeats 2000000 in
theorem zvalue_2 (h : Zs R B L T N w g) {l : List Tok} (hl : Live T N g l) (n : Nat) (fx : Bool) (hk : (nx T N g.I).k = 2) (hlo : g.I < 1000000000) : Calls Tryz.prog 77 #[.pointer (some ⟨R,0,none⟩)] w (ValZ R B L T N w g (.ok l) (valF fx n l)):=by
 have X:=fun o => znext_any (h.below (al1 w o))
 obtain ⟨rr,hrr⟩:=live_nx hl
 have hv:=val_leaf fx n hrr (by rw [hk];omega)
 have hst : Live T N g.step l.tail:=live_step hl (by rw [hrr];exact ⟨_,_,rfl,fun e => by have:=e.1;omega⟩) rfl hl.2.2
 have hlen:=live_len hl
 have hpos : l.length = rr.length + 1:=by rw [hrr];rfl
 have hBs:=h.bs
 have her:=hl.2.2
 rw [hrr,List.tail_cons] at hst
 rw [hv]
 clear hv
 generalize nx T N g.I = t at *
 obtain ⟨tk,tt,tb,te⟩:=t
 simp only at hk
 subst hk
 have x1 : (g.er == 0) = true:=by simp [her]
 have x2 : (g.er != 0) = false:=by simp only [bne,x1];rfl
 go_enter Tryz.func77,Tryz.ntmps77
 go_wp2_with (first
  | (go_at_call 40;(with_reducible refine (X _).mono ?_);rintro e w1 ⟨rfl,k1⟩;obtain ⟨h3,K3,bR,b3,b4,hsz⟩:=leaf_blocks (o1:=(.cells #[.int .i64 2,.string ⟨tt.toArray⟩,.int .i64 (tb : Int),.int .i64 (te : Int)] 40)) (o2:=(.cells #[.int .i64 0,.string ⟨tt.toArray⟩,.slice none 0 0,.slice none 0 0] 70)) h k1 hlo;obtain ⟨m0,m1,m2,m3,fm⟩:=row4 bR;obtain ⟨p0,p1,p2,p3,fp⟩:=row4 b3;obtain ⟨q0,q1,q2,q3,fq⟩:=row4 b4;have h1:=((h.below (al1 w _)).kp k1).below (al2z w1 (.cells #[.int .i64 2,.string ⟨tt.toArray⟩,.int .i64 (tb : Int),.int .i64 (te : Int)] 40) (.cells #[.int .i64 0,.string ⟨tt.toArray⟩,.slice none 0 0,.slice none 0 0] 70));obtain ⟨c0,c1,c2,c3,c4,c5,c6,c7,c8,fz⟩:=h1.cells)
  | fail)
 have h4:=h3.far (X:=w1.heap.size + 1) (by omega) (Kp.own (w1.heap.size + 1) 0 (.int .i64 4))
 have K4:=K3.set (w1.heap.size + 1) 0 (.int .i64 4) (Or.inl (by rw [World.size_alloc];omega))
 obtain ⟨r1,r2⟩:=zret4 K4 h4 hBs (.int .i64 4) (.string ⟨tt.toArray⟩) (.slice none 0 0) (.slice none 0 0)
 refine bodyPost_ret (v:=.agg #[.int .i64 4,.string ⟨tt.toArray⟩,.slice none 0 0,.slice none 0 0]) (by simp [results,Tryz.results77,go_sem,m0,m1,m2,m3]) rfl ⟨valC 4 tt [] [],_,g.step,rfl,valV_none _ _ _ _,⟨r1,rfl,rfl,rfl,rfl,r2⟩,hst,fun a m e => (by cases e;rfl),?_⟩
 show g.I + 1 ≤ T.length + 16 * (_ :: rr).length
 rw [List.length_cons]
 omega
set_option maxRecDepth 100000 in
set_option maxHeartbeats 2000000 in
theorem zvalue_3 (h : Zs R B L T N w g) {l : List Tok} (hl : Live T N g l) (n : Nat) (fx : Bool) (hk : (nx T N g.I).k = 3) (hlo : g.I < 1000000000) : Calls Tryz.prog 77 #[.pointer (some ⟨R,0,none⟩)] w (ValZ R B L T N w g (.ok l) (valF fx n l)):=by
 have X:=fun o => znext_any (h.below (al1 w o))
 obtain ⟨rr,hrr⟩:=live_nx hl
 have hv:=val_leaf fx n hrr (by rw [hk];omega)
 have hst : Live T N g.step l.tail:=live_step hl (by rw [hrr];exact ⟨_,_,rfl,fun e => by have:=e.1;omega⟩) rfl hl.2.2
 have hlen:=live_len hl
 have hpos : l.length = rr.length + 1:=by rw [hrr];rfl
 have hBs:=h.bs
 have her:=hl.2.2
 rw [hrr,List.tail_cons] at hst
 rw [hv]
 clear hv
 generalize nx T N g.I = t at *
 obtain ⟨tk,tt,tb,te⟩:=t
 simp only at hk
 subst hk
 have x1 : (g.er == 0) = true:=by simp [her]
 have x2 : (g.er != 0) = false:=by simp only [bne,x1];rfl
 go_enter Tryz.func77,Tryz.ntmps77
 go_wp2_with (first
  | (go_at_call 40;(with_reducible refine (X _).mono ?_);rintro e w1 ⟨rfl,k1⟩;obtain ⟨h3,K3,bR,b3,b4,hsz⟩:=leaf_blocks (o1:=(.cells #[.int .i64 3,.string ⟨tt.toArray⟩,.int .i64 (tb : Int),.int .i64 (te : Int)] 40)) (o2:=(.cells #[.int .i64 0,.string ⟨tt.toArray⟩,.slice none 0 0,.slice none 0 0] 70)) h k1 hlo;obtain ⟨m0,m1,m2,m3,fm⟩:=row4 bR;obtain ⟨p0,p1,p2,p3,fp⟩:=row4 b3;obtain ⟨q0,q1,q2,q3,fq⟩:=row4 b4;have h1:=((h.below (al1 w _)).kp k1).below (al2z w1 (.cells #[.int .i64 3,.string ⟨tt.toArray⟩,.int .i64 (tb : Int),.int .i64 (te : Int)] 40) (.cells #[.int .i64 0,.string ⟨tt.toArray⟩,.slice none 0 0,.slice none 0 0] 70));obtain ⟨c0,c1,c2,c3,c4,c5,c6,c7,c8,fz⟩:=h1.cells)
  | fail)
 have h4:=h3.far (X:=w1.heap.size + 1) (by omega) (Kp.own (w1.heap.size + 1) 0 (.int .i64 5))
 have K4:=K3.set (w1.heap.size + 1) 0 (.int .i64 5) (Or.inl (by rw [World.size_alloc];omega))
 obtain ⟨r1,r2⟩:=zret4 K4 h4 hBs (.int .i64 5) (.string ⟨tt.toArray⟩) (.slice none 0 0) (.slice none 0 0)
 refine bodyPost_ret (v:=.agg #[.int .i64 5,.string ⟨tt.toArray⟩,.slice none 0 0,.slice none 0 0]) (by simp [results,Tryz.results77,go_sem,m0,m1,m2,m3]) rfl ⟨valC 5 tt [] [],_,g.step,rfl,valV_none _ _ _ _,⟨r1,rfl,rfl,rfl,rfl,r2⟩,hst,fun a m e => (by cases e;rfl),?_⟩
 show g.I + 1 ≤ T.length + 16 * (_ :: rr).length
 rw [List.length_cons]
 omega
set_option maxRecDepth 100000 in
set_option maxHeartbeats 2000000 in
theorem zvalue_4 (h : Zs R B L T N w g) {l : List Tok} (hl : Live T N g l) (n : Nat) (fx : Bool) (hk : (nx T N g.I).k = 4) (hlo : g.I < 1000000000) : Calls Tryz.prog 77 #[.pointer (some ⟨R,0,none⟩)] w (ValZ R B L T N w g (.ok l) (valF fx n l)):=by
 have X:=fun o => znext_any (h.below (al1 w o))
 obtain ⟨rr,hrr⟩:=live_nx hl
 have hv:=val_leaf fx n hrr (by rw [hk];omega)
 have hst : Live T N g.step l.tail:=live_step hl (by rw [hrr];exact ⟨_,_,rfl,fun e => by have:=e.1;omega⟩) rfl hl.2.2
 have hlen:=live_len hl
 have hpos : l.length = rr.length + 1:=by rw [hrr];rfl
 have hBs:=h.bs
 have her:=hl.2.2
 rw [hrr,List.tail_cons] at hst
 rw [hv]
 clear hv
 generalize nx T N g.I = t at *
 obtain ⟨tk,tt,tb,te⟩:=t
 simp only at hk
 subst hk
 have x1 : (g.er == 0) = true:=by simp [her]
 have x2 : (g.er != 0) = false:=by simp only [bne,x1];rfl
 go_enter Tryz.func77,Tryz.ntmps77
 go_wp2_with (first
  | (go_at_call 40;(with_reducible refine (X _).mono ?_);rintro e w1 ⟨rfl,k1⟩;obtain ⟨h3,K3,bR,b3,b4,hsz⟩:=leaf_blocks (o1:=(.cells #[.int .i64 4,.string ⟨tt.toArray⟩,.int .i64 (tb : Int),.int .i64 (te : Int)] 40)) (o2:=(.cells #[.int .i64 0,.string ⟨tt.toArray⟩,.slice none 0 0,.slice none 0 0] 70)) h k1 hlo;obtain ⟨m0,m1,m2,m3,fm⟩:=row4 bR;obtain ⟨p0,p1,p2,p3,fp⟩:=row4 b3;obtain ⟨q0,q1,q2,q3,fq⟩:=row4 b4;have h1:=((h.below (al1 w _)).kp k1).below (al2z w1 (.cells #[.int .i64 4,.string ⟨tt.toArray⟩,.int .i64 (tb : Int),.int .i64 (te : Int)] 40) (.cells #[.int .i64 0,.string ⟨tt.toArray⟩,.slice none 0 0,.slice none 0 0] 70));obtain ⟨c0,c1,c2,c3,c4,c5,c6,c7,c8,fz⟩:=h1.cells)
  | fail)
 have h4:=h3.far (X:=w1.heap.size + 1) (by omega) (Kp.own (w1.heap.size + 1) 0 (.int .i64 6))
 have K4:=K3.set (w1.heap.size + 1) 0 (.int .i64 6) (Or.inl (by rw [World.size_alloc];omega))
 obtain ⟨r1,r2⟩:=zret4 K4 h4 hBs (.int .i64 6) (.string ⟨tt.toArray⟩) (.slice none 0 0) (.slice none 0 0)
 refine bodyPost_ret (v:=.agg #[.int .i64 6,.string ⟨tt.toArray⟩,.slice none 0 0,.slice none 0 0]) (by simp [results,Tryz.results77,go_sem,m0,m1,m2,m3]) rfl ⟨valC 6 tt [] [],_,g.step,rfl,valV_none _ _ _ _,⟨r1,rfl,rfl,rfl,rfl,r2⟩,hst,fun a m e => (by cases e;rfl),?_⟩
 show g.I + 1 ≤ T.length + 16 * (_ :: rr).length
 rw [List.length_cons]
 omega
set_option maxRecDepth 100000 in
set_option maxHeartbeats 2000000 in
theorem zvalue_1 (h : Zs R B L T N w g) {l : List Tok} (hl : Live T N g l) (n : Nat) (fx : Bool) (hk : (nx T N g.I).k = 1) (hlo : g.I < 1000000000) : Calls Tryz.prog 77 #[.pointer (some ⟨R,0,none⟩)] w (ValZ R B L T N w g (.ok l) (valF fx n l)):=by
 have X:=fun o => znext_any (h.below (al1 w o))
 obtain ⟨rr,hrr⟩:=live_nx hl
 have hv:=val_leaf fx n hrr (by rw [hk];omega)
 rw [if_pos hk] at hv
 have hst : Live T N g.step l.tail:=live_step hl (by rw [hrr];exact ⟨_,_,rfl,fun e => by have:=e.1;omega⟩) rfl hl.2.2
 have hlen:=live_len hl
 have hpos : l.length = rr.length + 1:=by rw [hrr];rfl
 have hBs:=h.bs
 have her:=hl.2.2
 rw [hrr,List.tail_cons] at hst
 rw [hv]
 clear hv
 generalize nx T N g.I = t at *
 obtain ⟨tk,tt,tb,te⟩:=t
 simp only at hk
 subst hk
 have x1 : (g.er == 0) = true:=by simp [her]
 have x2 : (g.er != 0) = false:=by simp only [bne,x1];rfl
 unfold namedC
 by_cases e1 : tt = [110,117,108,108]
 ·subst e1
  rw [if_pos rfl]
  go_enter Tryz.func77,Tryz.ntmps77
  go_wp2_with (first
   | (go_at_call 40;(with_reducible refine (X _).mono ?_);rintro e w1 ⟨rfl,k1⟩;obtain ⟨h3,K3,bR,b3,b4,hsz⟩:=leaf_blocks (o1:=(.cells #[.int .i64 1,.string ⟨#[110,117,108,108]⟩,.int .i64 (tb : Int),.int .i64 (te : Int)] 40)) (o2:=(.cells #[.int .i64 0,.string ⟨#[110,117,108,108]⟩,.slice none 0 0,.slice none 0 0] 70)) h k1 hlo;obtain ⟨m0,m1,m2,m3,fm⟩:=row4 bR;obtain ⟨p0,p1,p2,p3,fp⟩:=row4 b3;obtain ⟨q0,q1,q2,q3,fq⟩:=row4 b4;have h1:=((h.below (al1 w _)).kp k1).below (al2z w1 (.cells #[.int .i64 1,.string ⟨#[110,117,108,108]⟩,.int .i64 (tb : Int),.int .i64 (te : Int)] 40) (.cells #[.int .i64 0,.string ⟨#[110,117,108,108]⟩,.slice none 0 0,.slice none 0 0] 70));obtain ⟨c0,c1,c2,c3,c4,c5,c6,c7,c8,fz⟩:=h1.cells)
   | fail)
  have h4:=(h3.far (X:=w1.heap.size + 1) (by omega) (Kp.own (w1.heap.size + 1) 0 (.int .i64 7))).far (X:=w1.heap.size + 1) (by omega) (own4 (w1.heap.size + 1) (.int .i64 0) (.string ⟨#[]⟩) (.slice none 0 0) (.slice none 0 0))
  have K4:=((((K3.set (w1.heap.size + 1) 0 (.int .i64 7) (Or.inl (by rw [World.size_alloc];omega))).set (w1.heap.size + 1) 0 (.int .i64 0) (Or.inl (by rw [World.size_alloc];omega))).set (w1.heap.size + 1) 1 (.string ⟨#[]⟩) (Or.inl (by rw [World.size_alloc];omega))).set (w1.heap.size + 1) 2 (.slice none 0 0) (Or.inl (by rw [World.size_alloc];omega))).set (w1.heap.size + 1) 3 (.slice none 0 0) (Or.inl (by rw [World.size_alloc];omega))
  obtain ⟨r1,r2⟩:=zret4 K4 h4 hBs (.int .i64 0) (.string ⟨#[]⟩) (.slice none 0 0) (.slice none 0 0)
  refine bodyPost_ret (v:=.agg #[.int .i64 0,.string ⟨#[]⟩,.slice none 0 0,.slice none 0 0]) (by simp [results,Tryz.results77,go_sem,m0,m1,m2,m3]) rfl ⟨valC 0 [] [] [],_,g.step,rfl,valV_none _ _ _ _,⟨r1,rfl,rfl,rfl,rfl,r2⟩,hst,fun a m e => (by cases e;rfl),?_⟩
  show g.I + 1 ≤ T.length + 16 * l.length
  omega
 ·rw [if_neg e1]
  have y1 : (tt == [110,117,108,108]) = false:=by simpa using e1
  by_cases e2 : tt = [102,97,108,115,101]
  ·subst e2
   rw [if_pos rfl]
   go_enter Tryz.func77,Tryz.ntmps77
   go_wp2_with (first
    | (go_at_call 40;(with_reducible refine (X _).mono ?_);rintro e w1 ⟨rfl,k1⟩;obtain ⟨h3,K3,bR,b3,b4,hsz⟩:=leaf_blocks (o1:=(.cells #[.int .i64 1,.string ⟨#[102,97,108,115,101]⟩,.int .i64 (tb : Int),.int .i64 (te : Int)] 40)) (o2:=(.cells #[.int .i64 0,.string ⟨#[102,97,108,115,101]⟩,.slice none 0 0,.slice none 0 0] 70)) h k1 hlo;obtain ⟨m0,m1,m2,m3,fm⟩:=row4 bR;obtain ⟨p0,p1,p2,p3,fp⟩:=row4 b3;obtain ⟨q0,q1,q2,q3,fq⟩:=row4 b4;have h1:=((h.below (al1 w _)).kp k1).below (al2z w1 (.cells #[.int .i64 1,.string ⟨#[102,97,108,115,101]⟩,.int .i64 (tb : Int),.int .i64 (te : Int)] 40) (.cells #[.int .i64 0,.string ⟨#[102,97,108,115,101]⟩,.slice none 0 0,.slice none 0 0] 70));obtain ⟨c0,c1,c2,c3,c4,c5,c6,c7,c8,fz⟩:=h1.cells)
    | fail)
   have h4:=(h3.far (X:=w1.heap.size + 1) (by omega) (Kp.own (w1.heap.size + 1) 0 (.int .i64 7))).far (X:=w1.heap.size + 1) (by omega) (own4 (w1.heap.size + 1) (.int .i64 1) (.string ⟨#[]⟩) (.slice none 0 0) (.slice none 0 0))
   have K4:=((((K3.set (w1.heap.size + 1) 0 (.int .i64 7) (Or.inl (by rw [World.size_alloc];omega))).set (w1.heap.size + 1) 0 (.int .i64 1) (Or.inl (by rw [World.size_alloc];omega))).set (w1.heap.size + 1) 1 (.string ⟨#[]⟩) (Or.inl (by rw [World.size_alloc];omega))).set (w1.heap.size + 1) 2 (.slice none 0 0) (Or.inl (by rw [World.size_alloc];omega))).set (w1.heap.size + 1) 3 (.slice none 0 0) (Or.inl (by rw [World.size_alloc];omega))
   obtain ⟨r1,r2⟩:=zret4 K4 h4 hBs (.int .i64 1) (.string ⟨#[]⟩) (.slice none 0 0) (.slice none 0 0)
   refine bodyPost_ret (v:=.agg #[.int .i64 1,.string ⟨#[]⟩,.slice none 0 0,.slice none 0 0]) (by simp [results,Tryz.results77,go_sem,m0,m1,m2,m3]) rfl ⟨valC 1 [] [] [],_,g.step,rfl,valV_none _ _ _ _,⟨r1,rfl,rfl,rfl,rfl,r2⟩,hst,fun a m e => (by cases e;rfl),?_⟩
   show g.I + 1 ≤ T.length + 16 * l.length
   omega
  ·rw [if_neg e2]
   have y2 : (tt == [102,97,108,115,101]) = false:=by simpa using e2
   by_cases e3 : tt = [116,114,117,101]
   ·subst e3
    rw [if_pos rfl]
    go_enter Tryz.func77,Tryz.ntmps77
    go_wp2_with (first
     | (go_at_call 40;(with_reducible refine (X _).mono ?_);rintro e w1 ⟨rfl,k1⟩;obtain ⟨h3,K3,bR,b3,b4,hsz⟩:=leaf_blocks (o1:=(.cells #[.int .i64 1,.string ⟨#[116,114,117,101]⟩,.int .i64 (tb : Int),.int .i64 (te : Int)] 40)) (o2:=(.cells #[.int .i64 0,.string ⟨#[116,114,117,101]⟩,.slice none 0 0,.slice none 0 0] 70)) h k1 hlo;obtain ⟨m0,m1,m2,m3,fm⟩:=row4 bR;obtain ⟨p0,p1,p2,p3,fp⟩:=row4 b3;obtain ⟨q0,q1,q2,q3,fq⟩:=row4 b4;have h1:=((h.below (al1 w _)).kp k1).below (al2z w1 (.cells #[.int .i64 1,.string ⟨#[116,114,117,101]⟩,.int .i64 (tb : Int),.int .i64 (te : Int)] 40) (.cells #[.int .i64 0,.string ⟨#[116,114,117,101]⟩,.slice none 0 0,.slice none 0 0] 70));obtain ⟨c0,c1,c2,c3,c4,c5,c6,c7,c8,fz⟩:=h1.cells)
     | fail)
    have h4:=(h3.far (X:=w1.heap.size + 1) (by omega) (Kp.own (w1.heap.size + 1) 0 (.int .i64 7))).far (X:=w1.heap.size + 1) (by omega) (own4 (w1.heap.size + 1) (.int .i64 2) (.string ⟨#[]⟩) (.slice none 0 0) (.slice none 0 0))
    have K4:=((((K3.set (w1.heap.size + 1) 0 (.int .i64 7) (Or.inl (by rw [World.size_alloc];omega))).set (w1.heap.size + 1) 0 (.int .i64 2) (Or.inl (by rw [World.size_alloc];omega))).set (w1.heap.size + 1) 1 (.string ⟨#[]⟩) (Or.inl (by rw [World.size_alloc];omega))).set (w1.heap.size + 1) 2 (.slice none 0 0) (Or.inl (by rw [World.size_alloc];omega))).set (w1.heap.size + 1) 3 (.slice none 0 0) (Or.inl (by rw [World.size_alloc];omega))
    obtain ⟨r1,r2⟩:=zret4 K4 h4 hBs (.int .i64 2) (.string ⟨#[]⟩) (.slice none 0 0) (.slice none 0 0)
    refine bodyPost_ret (v:=.agg #[.int .i64 2,.string ⟨#[]⟩,.slice none 0 0,.slice none 0 0]) (by simp [results,Tryz.results77,go_sem,m0,m1,m2,m3]) rfl ⟨valC 2 [] [] [],_,g.step,rfl,valV_none _ _ _ _,⟨r1,rfl,rfl,rfl,rfl,r2⟩,hst,fun a m e => (by cases e;rfl),?_⟩
    show g.I + 1 ≤ T.length + 16 * l.length
    omega
   ·rw [if_neg e3]
    have y3 : (tt == [116,114,117,101]) = false:=by simpa using e3
    clear e1 e2 e3
    go_enter Tryz.func77,Tryz.ntmps77
    go_wp2_with (first
     | (go_at_call 40;(with_reducible refine (X _).mono ?_);rintro e w1 ⟨rfl,k1⟩;obtain ⟨h3,K3,bR,b3,b4,hsz⟩:=leaf_blocks (o1:=(.cells #[.int .i64 1,.string ⟨tt.toArray⟩,.int .i64 (tb : Int),.int .i64 (te : Int)] 40)) (o2:=(.cells #[.int .i64 0,.string ⟨tt.toArray⟩,.slice none 0 0,.slice none 0 0] 70)) h k1 hlo;obtain ⟨m0,m1,m2,m3,fm⟩:=row4 bR;obtain ⟨p0,p1,p2,p3,fp⟩:=row4 b3;obtain ⟨q0,q1,q2,q3,fq⟩:=row4 b4;have h1:=((h.below (al1 w _)).kp k1).below (al2z w1 (.cells #[.int .i64 1,.string ⟨tt.toArray⟩,.int .i64 (tb : Int),.int .i64 (te : Int)] 40) (.cells #[.int .i64 0,.string ⟨tt.toArray⟩,.slice none 0 0,.slice none 0 0] 70));obtain ⟨c0,c1,c2,c3,c4,c5,c6,c7,c8,fz⟩:=h1.cells)
     | fail)
    have h4:=h3.far (X:=w1.heap.size + 1) (by omega) (Kp.own (w1.heap.size + 1) 0 (.int .i64 7))
    have K4:=K3.set (w1.heap.size + 1) 0 (.int .i64 7) (Or.inl (by rw [World.size_alloc];omega))
    obtain ⟨r1,r2⟩:=zret4 K4 h4 hBs (.int .i64 7) (.string ⟨tt.toArray⟩) (.slice none 0 0) (.slice none 0 0)
    refine bodyPost_ret (v:=.agg #[.int .i64 7,.string ⟨tt.toArray⟩,.slice none 0 0,.slice none 0 0]) (by simp [results,Tryz.results77,go_sem,m0,m1,m2,m3]) rfl ⟨valC 7 tt [] [],_,g.step,rfl,valV_none _ _ _ _,⟨r1,rfl,rfl,rfl,rfl,r2⟩,hst,fun a m e => (by cases e;rfl),?_⟩
    show g.I + 1 ≤ T.length + 16 * l.length
    omega
theorem val_sign (fx : Bool) (n : Nat) {l : List Tok} (h : Live T N g l) (hk : (nx T N g.I).k = 0) : valF fx n l = signS fx (inF fx n) l:=by
 rw [valF_eq]
 unfold valG
 rw [live_isK h,live_isK h,live_isK h,live_isK h,hk]
 rfl
theorem zvalue_0 (h : Zs R B L T N w g) {l : List Tok} (hl : Live T N g l) (n : Nat) (fx : Bool) (hk : (nx T N g.I).k = 0) (M : ∀ w',Zs R B L T N w' g → Calls Tryz.prog 104 #[.pointer (some ⟨R,0,none⟩)] w' (ValZ R B L T N w' g (.ok l) (signS fx (inF fx n) l))) : Calls Tryz.prog 77 #[.pointer (some ⟨R,0,none⟩)] w (ValZ R B L T N w g (.ok l) (valF fx n l)):=by
 have X:=fun o => znext_any (h.below (al1 w o))
 rw [val_sign fx n hl hk]
 have hBs:=h.bs
 have hRl:=h.lt
 have her:=hl.2.2
 generalize nx T N g.I = t at *
 obtain ⟨tk,tt,tb,te⟩:=t
 simp only at hk
 subst hk
 have x1 : (g.er == 0) = true:=by simp [her]
 have x2 : (g.er != 0) = false:=by simp only [bne,x1];rfl
 go_enter Tryz.func77,Tryz.ntmps77
 go_wp2_with (first
  | (go_at_call 104;(with_reducible refine (M _ h1).mono ?_);rintro e w2 ⟨cs,v,g',rfl,⟨kk,vt,o1,n1,z1,o2,n2,z2,rfl,hat⟩,zk,hst,hcs,hbd⟩;have K2 : Kp (Own1 R) (w.alloc _) w2:=(((kp_non k1).alloc _).alloc _).trans zk.kp;obtain ⟨m0,m1,m2,m3,fm⟩:=row4 (new_row K2 (fun e => by have e' : w.heap.size = R:=e;omega)))
  | (go_at_call 40;(with_reducible refine (X _).mono ?_);rintro e w1 ⟨rfl,k1⟩;have h1:=((h.below (al1 w _)).kp k1).below (al2z w1 (.cells #[.int .i64 0,.string ⟨tt.toArray⟩,.int .i64 (tb : Int),.int .i64 (te : Int)] 40) (.cells #[.int .i64 0,.string ⟨tt.toArray⟩,.slice none 0 0,.slice none 0 0] 70));obtain ⟨c0,c1,c2,c3,c4,c5,c6,c7,c8,fz⟩:=h1.cells;have hz1 : w.heap.size + 1 ≤ w1.heap.size:=by have:=k1.size;simpa using this)
  | fail)
 obtain ⟨r1,r2⟩:=zret4 K2 zk.zs hBs (.int .i64 kk) (.string vt) (.slice o1 n1 z1) (.slice o2 n2 z2)
 refine bodyPost_ret (v:=.agg #[.int .i64 kk,.string vt,.slice o1 n1 z1,.slice o2 n2 z2]) (by simp [results,Tryz.results77,go_sem,m0,m1,m2,m3]) rfl ⟨cs,_,g',rfl,⟨kk,vt,o1,n1,z1,o2,n2,z2,rfl,?_⟩,⟨r1,zk.fx,zk.a,zk.b,zk.c,r2⟩,hst,hcs,hbd⟩
 have hz2 : w1.heap.size + 2 ≤ w2.heap.size:=by have:=zk.kp.size;simpa using this
 have kk4:=own4 (w:=w2) w.heap.size (.int .i64 kk) (.string vt) (.slice o1 n1 z1) (.slice o2 n2 z2)
 refine (hat.keep fun q hq => kk4.block q hq.2 (fun e => ?_)).mono fun q hq => ⟨?_,?_⟩
 ·have e' : q = w.heap.size:=e
  have:=hq.1
  rw [World.size_alloc,World.size_alloc] at this
  omega
 ·have:=hq.1
  rw [World.size_alloc,World.size_alloc] at this
  omega
 ·exact Nat.lt_of_lt_of_le hq.2 kk4.size
end
end
section
open Go Go.RowKit Go.Shelf
section
variable {R B : Nat} {L : Value} {T : List Tok} {N : Nat} {w : World} {g : Sg}
theorem mark_is (h : Zs R B L T N w g) (s : Bs) {b : Bool} (hb : ((nx T N g.I).k == 0 && (nx T N g.I).t == s) = b) : ∀ w',Kp Non w w' → Calls Tryz.prog 45 #[.pointer (some ⟨R,0,none⟩),.string ⟨s.toArray⟩] w' fun e w2 => e = .returned (.bool b) ∧ Kp Non w' w2:=fun w' k => by
 have:=zis_any (h.kp k) s
 rw [hb] at this
 exact this
theorem sign_var (fx : Bool) (inner : Option (List Tok → Rs (List CT))) {l : List Tok} (hp : isP [36] l = true) (hf : fx = false) : signS fx inner l = (varS l).go fun t l1 => .ok (valC 3 t [] [],l1):=by
 cases l with
 | nil => cases hp
 | cons x r =>
  obtain ⟨k,t,b,e⟩:=x
  simp only [isP,Bool.and_eq_true,beq_iff_eq] at hp
  obtain ⟨rfl,rfl⟩:=hp
  subst hf
  rfl
theorem sign_none (fx : Bool) (inner : Option (List Tok → Rs (List CT))) {l : List Tok} (h1 : isP [91] l = false) (h2 : isP [123] l = false) (h3 : isP [36] l = false ∨ fx = true) : signS fx inner l = .error (atT l,60):=by
 unfold signS
 rw [h1,h2]
 cases fx with
 | true => rfl
 | false =>
  rcases h3 with h3 | h3
  ·simp only [Bool.false_eq_true,if_false]
   unfold varS mustS
   rw [h3];rfl
  ·cases h3
theorem two_new (w : World) (o o' : Obj) : ((w.alloc o).alloc o').heap[w.heap.size + 1]? = some o':=by
 have:=heap_alloc_new (w.alloc o) o'
 rwa [World.size_alloc] at this
abbrev zeroZ : Obj:=.cells #[.int .i64 0,.string ⟨#[]⟩,.slice none 0 0,.slice none 0 0] 70
set_option maxRecDepth 100000 in
set_option maxHeartbeats 2000000 in
theorem zmark_none (h : Zs R B L T N w g) {l : List Tok} (hl : Live T N g l) (fx : Bool) (hf : g.fx = fx) (inner : Option (List Tok → Rs (List CT))) (h1 : isP [91] l = false) (h2 : isP [123] l = false) (h3 : isP [36] l = false ∨ fx = true) : Calls Tryz.prog 104 #[.pointer (some ⟨R,0,none⟩)] w (ValZ R B L T N w g (.ok l) (signS fx inner l)):=by
 rw [sign_none fx inner h1 h2 h3]
 have hBs:=h.bs
 have hRl:=h.lt
 have hlen:=live_len hl
 have I1:=mark_is h [91] (b:=false) (by rw [← live_isP hl];exact h1)
 have I2:=mark_is h [123] (b:=false) (by rw [← live_isP hl];exact h2)
 have k0 : Kp Non w ((w.alloc zeroZ).alloc zeroZ):=((Kp.refl Non w).alloc _).alloc _
 have W:=fun w1 (h' : Zs R B L T N w1 g) => zwrong_any h' 60
 have hdead:=bad_live hl 60 (by decide)
 have hI:=bad_I (T:=T) (N:=N) g 60
 obtain ⟨ba,bb,bc,bf⟩:=bad_abc (T:=T) (N:=N) g 60
 have hbd : (g.bad T N 60).I ≤ T.length + 16 * l.length:=by
  rw [hI]
  have:=hl.2.1
  omega
 generalize g.bad T N 60 = g2 at *
 by_cases hd : isP [36] l = true
 ·have hfx : g.fx = true:=by
   rcases h3 with h3 | h3
   ·rw [hd] at h3;cases h3
   ·rw [hf];exact h3
  have I0:=mark_is h [36] (b:=true) (by rw [← live_isP hl];exact hd)
  go_enter Tryz.func104,Tryz.ntmps104
  go_wp2_with (first
   | (go_at_call 42;(with_reducible refine (W _ (h.kp k3)).mono ?_);rintro e w4 ⟨rfl,z4,k4⟩;have KV : Kp (Own1 R) ((w.alloc zeroZ).alloc zeroZ) w4:=(kp_non (j1.trans (j2.trans j3))).trans k4;have K4 : Kp (Own1 R) (w.alloc zeroZ) w4:=((Kp.refl (Own1 R) (w.alloc zeroZ)).alloc zeroZ).trans KV;obtain ⟨m0,m1,m2,m3,fm⟩:=row4 (new_row K4 (fun e => by have e' : w.heap.size = R:=e;omega));obtain ⟨v0,v1,v2,v3,fv⟩:=row4 ((KV.block (w.heap.size + 1) (by rw [World.size_alloc,World.size_alloc];omega) (fun e => by have e' : w.heap.size + 1 = R:=e;omega)).trans (two_new w zeroZ zeroZ)))
   | (go_at_call 45;(with_reducible refine (I2 _ k2).mono ?_);rintro e w3 ⟨rfl,j3⟩;have k3:=k2.trans j3)
   | (go_at_call 45;(with_reducible refine (I1 _ k1).mono ?_);rintro e w2 ⟨rfl,j2⟩;have k2:=k1.trans j2)
   | (go_at_call 45;(with_reducible refine (I0 _ k0).mono ?_);rintro e w1 ⟨rfl,j1⟩;have k1:=k0.trans j1;obtain ⟨c0,c1,c2,c3,c4,c5,c6,c7,c8,fz⟩:=(h.kp k1).cells;rw [hfx] at c3)
   | fail)
  obtain ⟨r1,r2⟩:=zret4 K4 z4 hBs (.int .i64 0) (.string ⟨#[]⟩) (.slice none 0 0) (.slice none 0 0)
  refine bodyPost_ret (v:=.agg #[.int .i64 0,.string ⟨#[]⟩,.slice none 0 0,.slice none 0 0]) (by simp [results,Tryz.results104,go_sem,m0,m1,m2,m3]) rfl ⟨valC 0 [] [] [],_,g2,rfl,valV_none _ _ 0 [],⟨r1,bf,ba,bb,bc,r2⟩,hdead,fun a m e => (by cases e),?_⟩
  exact hbd
 ·have I0:=mark_is h [36] (b:=false) (by rw [← live_isP hl];exact Bool.eq_false_iff.2 hd)
  go_enter Tryz.func104,Tryz.ntmps104
  go_wp2_with (first
   | (go_at_call 42;(with_reducible refine (W _ (h.kp k3)).mono ?_);rintro e w4 ⟨rfl,z4,k4⟩;have KV : Kp (Own1 R) ((w.alloc zeroZ).alloc zeroZ) w4:=(kp_non (j1.trans (j2.trans j3))).trans k4;have K4 : Kp (Own1 R) (w.alloc zeroZ) w4:=((Kp.refl (Own1 R) (w.alloc zeroZ)).alloc zeroZ).trans KV;obtain ⟨m0,m1,m2,m3,fm⟩:=row4 (new_row K4 (fun e => by have e' : w.heap.size = R:=e;omega));obtain ⟨v0,v1,v2,v3,fv⟩:=row4 ((KV.block (w.heap.size + 1) (by rw [World.size_alloc,World.size_alloc];omega) (fun e => by have e' : w.heap.size + 1 = R:=e;omega)).trans (two_new w zeroZ zeroZ)))
   | (go_at_call 45;(with_reducible refine (I2 _ k2).mono ?_);rintro e w3 ⟨rfl,j3⟩;have k3:=k2.trans j3)
   | (go_at_call 45;(with_reducible refine (I1 _ k1).mono ?_);rintro e w2 ⟨rfl,j2⟩;have k2:=k1.trans j2)
   | (go_at_call 45;(with_reducible refine (I0 _ k0).mono ?_);rintro e w1 ⟨rfl,j1⟩;have k1:=k0.trans j1;obtain ⟨c0,c1,c2,c3,c4,c5,c6,c7,c8,fz⟩:=(h.kp k1).cells)
   | fail)
  obtain ⟨r1,r2⟩:=zret4 K4 z4 hBs (.int .i64 0) (.string ⟨#[]⟩) (.slice none 0 0) (.slice none 0 0)
  refine bodyPost_ret (v:=.agg #[.int .i64 0,.string ⟨#[]⟩,.slice none 0 0,.slice none 0 0]) (by simp [results,Tryz.results104,go_sem,m0,m1,m2,m3]) rfl ⟨valC 0 [] [] [],_,g2,rfl,valV_none _ _ 0 [],⟨r1,bf,ba,bb,bc,r2⟩,hdead,fun a m e => (by cases e),?_⟩
  exact hbd
set_option maxRecDepth 100000 in
set_option maxHeartbeats 2000000 in
theorem zmark_var (hT : TF T) (h : Zs R B L T N w g) {l : List Tok} (hl : Live T N g l) (hf : g.fx = false) (inner : Option (List Tok → Rs (List CT))) (hp : isP [36] l = true) (hlo : g.I < 999999999) : Calls Tryz.prog 104 #[.pointer (some ⟨R,0,none⟩)] w (ValZ R B L T N w g (.ok l) (signS false inner l)):=by
 rw [sign_var false inner hp rfl]
 have hBs:=h.bs
 have hRl:=h.lt
 have I0:=mark_is h [36] (b:=true) (by rw [← live_isP hl];exact hp)
 have k0 : Kp Non w ((w.alloc zeroZ).alloc zeroZ):=((Kp.refl Non w).alloc _).alloc _
 have hst : Live T N g.step l.tail:=live_step hl (ne_P (by decide) hp) rfl hl.2.2
 have hv : varS l = nameS l.tail:=by unfold varS mustS;rw [hp];rfl
 rw [hv]
 obtain ⟨n1,n2⟩:=name_st hT (st:=.ok l.tail) hst
 have n3 : ∀ a m,thnS nameS (.ok l.tail) = .ok (a,m) → a = (nx T N g.step.I).t:=n2
 have NM:=fun w1 (h' : Zs R B L T N w1 g.step) => zname_any h' [] (by show g.I + 1 < 1000000000;omega)
 have hgI : (g.step.name T N []).I ≤ T.length + 16 * l.length:=by
  have e1 : (g.step.name T N []).I = g.I + 1 + 1:=by
   unfold Sg.name
   show (if _ then g.step else g.step.bad T N 60).I + 1 = _
   split
   ·rfl
   ·rw [bad_I];rfl
  have:=live_len hl
  have:=hl.2.1
  have:=isP_pos hp
  rw [e1];omega
 have hgf : (g.step.name T N []).fx = g.fx ∧ (g.step.name T N []).a = g.a ∧ (g.step.name T N []).b = g.b ∧ (g.step.name T N []).c = g.c:=by
  unfold Sg.name
  obtain ⟨ba,bb,bc,bf⟩:=bad_abc (T:=T) (N:=N) g.step 60
  show (if _ then g.step else g.step.bad T N 60).fx = _ ∧ (if _ then g.step else g.step.bad T N 60).a = _ ∧ (if _ then g.step else g.step.bad T N 60).b = _ ∧ (if _ then g.step else g.step.bad T N 60).c = _
  split
  ·exact ⟨rfl,rfl,rfl,rfl⟩
  ·exact ⟨bf,ba,bb,bc⟩
 obtain ⟨ef,ea,eb,ec⟩:=hgf
 have hr : rest ((nameS l.tail).go fun t l1 => (.ok (valC 3 t [] [],l1) : Rs (List CT))) = rest (thnS nameS (.ok l.tail)):=by
  show rest ((nameS l.tail).go _) = rest (nameS l.tail)
  cases nameS l.tail <;> rfl
 have hcs : ∀ a m,((nameS l.tail).go fun t l1 => (.ok (valC 3 t [] [],l1) : Rs (List CT))) = .ok (a,m) → valC 3 (nx T N g.step.I).t [] [] = a:=by
  intro a m e
  obtain ⟨t,l1,e1,e2⟩:=go_ok_inv e
  cases e2
  rw [n3 t m e1]
 rw [← hr] at n1
 generalize g.step.name T N [] = g2 at *
 generalize nx T N g.step.I = t at *
 go_enter Tryz.func104,Tryz.ntmps104
 go_wp2_with (first
  | (go_at_call 41;(with_reducible refine (NM _ z1).mono ?_);rintro e w4 ⟨rfl,z4,k4⟩;have K4 : Kp (Own1 R) (w.alloc zeroZ) w4:=((((Kp.refl (Own1 R) (w.alloc zeroZ)).alloc zeroZ).trans (kp_non j1)).set R 1 _ (Or.inr rfl)).trans k4;obtain ⟨m0,m1,m2,m3,fm⟩:=row4 (new_row K4 (fun e => by have e' : w.heap.size = R:=e;omega)))
  | (go_at_call 45;(with_reducible refine (I0 _ k0).mono ?_);rintro e w1 ⟨rfl,j1⟩;have k1:=k0.trans j1;obtain ⟨c0,c1,c2,c3,c4,c5,c6,c7,c8,fz⟩:=(h.kp k1).cells;rw [hf] at c3;have z1:=(h.kp k1).step (by omega))
  | fail)
 obtain ⟨r1,r2⟩:=zret4 K4 z4 hBs (.int .i64 3) (.string ⟨t.t.toArray⟩) (.slice none 0 0) (.slice none 0 0)
 exact bodyPost_ret (v:=.agg #[.int .i64 3,.string ⟨t.t.toArray⟩,.slice none 0 0,.slice none 0 0]) (by simp [results,Tryz.results104,go_sem,m0,m1,m2,m3]) rfl ⟨valC 3 t.t [] [],_,g2,rfl,valV_none _ _ 3 t.t,⟨r1,ef,ea,eb,ec,r2⟩,n1,hcs,hgI⟩
end
end
section
open Go Go.RowKit Go.Shelf
structure Vr (Q E sz : Nat) (w : World) (lv : Value) (els : List (List CT)) (xs : List Value) (D : Nat → Prop) : Prop where
 own : w.ownsRow Q E sz lv els.length xs
 ats : Ats w D els.flatten xs
 far : ∀ k,D k → Q ≤ k ∧ k < w.heap.size ∧ lv.ownBlock ≠ some k
section
variable {Q E sz : Nat} {w w' : World} {lv : Value} {els : List (List CT)} {xs : List Value} {D : Nat → Prop}
theorem Vr.keep (h : Vr Q E sz w lv els xs D) {S : Nat → Prop} (k : Kp S w w') (hS : ∀ j,S j → j < Q) : Vr Q E sz w' lv els xs D where
 own:=own_keep h.own fun q hq => k.block q (own_block h.own hq).2 (fun e => by have:=(own_block h.own hq).1;have:=hS q e;omega)
 ats:=h.ats.keep fun q hq => k.block q (h.far q hq).2.1 (fun e => by have:=(h.far q hq).1;have:=hS q e;omega)
 far:=fun q hq => ⟨(h.far q hq).1,Nat.lt_of_lt_of_le (h.far q hq).2.1 k.size,(h.far q hq).2.2⟩
theorem vr_none (w : World) : Vr Q E sz w (.slice none 0 0) [] [] (fun _ => False):=⟨⟨by simp,Or.inl ⟨rfl,rfl⟩⟩,Ats.nil,fun _ h => h.elim⟩
theorem Vr.slice (h : Vr Q E sz w lv els xs D) : ∃ o c,lv = .slice o els.length c:=by
 rcases h.own.2 with ⟨h1,h2⟩ | ⟨q,cp,cu,hv,_⟩
 ·exact ⟨_,_,by rw [h1,h2]⟩
 ·exact ⟨_,_,hv⟩
theorem Vr.push (h : Vr Q E sz w lv els xs D) {w2 : World} {cs : List CT} {us : List Value} {q cp P : Nat} {De : Nat → Prop} {o : Obj} (hP : ∀ k,lv.ownBlock = some k → k < P) (hQP : Q ≤ P)
  (hel : Ats w De cs us) (hDe : ∀ k,De k → P ≤ k ∧ k < w.heap.size) (hg : (w.alloc o).grownBy w2 lv.ownBlock) (hq : lv.ownBlock = some q ∨ q = (w.alloc o).heap.size)
  (ho : w2.ownsRow Q E sz (.slice (some ⟨q,0,none⟩) (els.length + 1) cp) (els.length + 1) (xs ++ us)) : Vr Q E sz w2 (.slice (some ⟨q,0,none⟩) (els.length + 1) cp) (els ++ [cs]) (xs ++ us) (fun k => D k ∨ De k):=by
 have hz2 : w.heap.size < (w.alloc o).heap.size:=by simp
 have hz3:=hg.size
 have M : ∀ k,k < w.heap.size → lv.ownBlock ≠ some k → w2.heap[k]? = w.heap[k]?:=fun k hk' ho' => (hg.block k (by omega) (fun e => ho' e.symm)).trans ((al1 w o).block k hk')
 have hf : (els ++ [cs]).flatten = els.flatten ++ cs:=by simp
 refine ⟨by rw [List.length_append];exact ho,?_,?_⟩
 ·rw [hf]
  refine Ats.append ?_ ?_
  ·refine (h.ats.keep fun k hD => ?_).mono fun k hD => Or.inl hD
   obtain ⟨_,f2,f3⟩:=h.far k hD
   exact M k f2 f3
  ·refine (hel.keep fun k hD => ?_).mono fun k hD => Or.inr hD
   obtain ⟨f1,f2⟩:=hDe k hD
   exact M k f2 (fun e => by have:=hP k e;omega)
 ·rintro k (hD | hD)
  ·obtain ⟨f1,f2,f3⟩:=h.far k hD
   refine ⟨f1,by omega,fun e => ?_⟩
   have e' : q = k:=by simpa [Value.ownBlock] using e
   rcases hq with hq | hq
   ·exact f3 (by rw [hq,e'])
   ·omega
  ·obtain ⟨f1,f2⟩:=hDe k hD
   refine ⟨by omega,by omega,fun e => ?_⟩
   have e' : q = k:=by simpa [Value.ownBlock] using e
   rcases hq with hq | hq
   ·have:=hP q hq;omega
   ·omega
theorem Vr.at_ (h : Vr Q E sz w lv els xs D) : At w (Iv Q w.heap.size) (rowC E sz els) lv:=by
 have hlen:=h.own.1
 rcases h.own.2 with ⟨rfl,h0⟩ | ⟨q,cp,cur,rfl,hb,hg,hn,_,hc,htk⟩
 ·have : els = []:=List.length_eq_zero_iff.1 h0
  subst this
  exact .nil _ _
 ·refine .row hg ⟨hb,lt_of_block hg⟩ hn (by rw [h.ats.len];exact hlen) (by rw [hc];exact Nat.mul_le_mul_right _ hn) ?_
  intro j y u h1 h2
  have hj : j < els.length * sz:=by
   have:=(List.getElem?_eq_some_iff.1 h1).1
   rw [h.ats.len,hlen] at this
   exact this
  have h3 : xs[j]? = some u:=by
   rw [← htk,List.getElem?_take,if_pos hj]
   simpa using h2
  exact (h.ats.all j y u h1 h3).mono fun k hk => ⟨(h.far k hk).1,(h.far k hk).2.1⟩
end
end
section
open Go Go.RowKit Go.Shelf
section
variable {R B : Nat} {L : Value} {T : List Tok} {N : Nat} {w : World} {g : Sg}
theorem Tryz.infoValZ : (Tryz.prog.info? 70).map (fun i => (i.zero,i.size,i.bytes)) = some (some (.agg #[.int .i64 0,.string ⟨#[]⟩,.slice none 0 0,.slice none 0 0]),4,72):=by kernel_rfl
def ValC (R B : Nat) (L : Value) (T : List Tok) (N : Nat) (fx : Bool) (d : Int) (n m : Nat) : Prop:=∀ (w : World) (g : Sg) (st : Except (Nat × Int) (List Tok)),Zs R B L T N w g → St T N g st → g.fx = fx → g.b = d → (∀ l,st = .ok l → l.length < m) → g.I < 999999 → Calls Tryz.prog 77 #[.pointer (some ⟨R,0,none⟩)] w (ValZ R B L T N w g st (thnS (valF fx n) st))
def isOk : Except (Nat × Int) (List Tok) → Bool
 | .ok _ => true
 | .error _ => false
theorem st_isOk {st : Except (Nat × Int) (List Tok)} (h : St T N g st) : (g.er == 0) = isOk st:=by
 cases st with
 | ok l => exact st_er h
 | error p => exact st_er h
def lenS : Except (Nat × Int) (List Tok) → Nat
 | .ok l => l.length
 | .error _ => 0
structure Lp (R B : Nat) (L : Value) (T : List Tok) (N : Nat) (w0 : World) (g : Sg) (f : List Tok → Rs (List CT)) (last : Bs) (V kd : Nat) (st1 : Except (Nat × Int) (List Tok)) (wr : World) (g' : Sg) (st : Except (Nat × Int) (List Tok)) (els : List (List CT)) (lv : Value) (xs : List Value) (D : Nat → Prop) : Prop where
 zs : Zs R B L T N wr g'
 fx : g'.fx = g.fx
 a : g'.a = g.a
 b : g'.b = g.b + 1
 c : g'.c = g.c
 sts : St T N g' st
 rel : thnS (anyS f last) st1 = (thnS (anyS f last) st).go fun vs l1 => .ok (els ++ vs,l1)
 var : wr.heap[V]? = some (.cells #[.int .i64 (kd : Int),.string ⟨#[]⟩,lv,.slice none 0 0] 70 (0,0))
 row : Vr (V + 1) 70 4 wr lv els xs D
 kp : Kp (fun k => k = R ∨ k = V) w0 wr
 few : els.length + lenS st ≤ 2049
 low : g'.I ≤ T.length + 16 * lenS st1 + 2 ∧ (∀ l,st = .ok l → l.length ≤ lenS st1)
theorem kp_drop {o : Obj} {wr : World} (k : Kp (fun k => k = R ∨ k = w.heap.size + 1) ((w.alloc o).alloc o) wr) : Kp (Own1 R) (w.alloc o) wr :=
 ⟨k.os,k.tape,k.output,Nat.le_trans (by simp) k.size,fun q hq hS => (k.block q (by rw [World.size_alloc] at hq;rw [World.size_alloc,World.size_alloc];omega) (fun e => by
  rcases e with e | e
  ·exact hS e
  ·rw [World.size_alloc] at hq;omega)).trans ((al1 (w.alloc o) o).block q hq)⟩
theorem Zs.farS {w3 w4 : World} (h : Zs R B L T N w3 g) {S : Nat → Prop} (hS : ∀ k,S k → B ≤ k) (k : Kp S w3 w4) : Zs R B L T N w4 g where
 row:=(k.block R h.lt (fun e => by have:=hS R e;have:=h.rb;omega)).trans h.row
 tk:=by
  obtain ⟨o,cap,e,hc,hq⟩:=h.tk
  refine ⟨o,cap,e,hc,fun hT => ?_⟩
  obtain ⟨q,e1,e2,e3,e4⟩:=hq hT
  have f : ∀ i,w4.cell? ⟨q,i,none⟩ = w3.cell? ⟨q,i,none⟩:=fun i => World.cell?_of_block (a:=⟨q,i,none⟩) (k.block q (Nat.lt_of_lt_of_le e3 h.bs) (fun e => by have:=hS q e;omega))
  exact ⟨q,e1,e2,e3,fun i t ht => by
   obtain ⟨a0,a1,a2,a3⟩:=e4 i t ht
   exact ⟨(f _).trans a0,(f _).trans a1,(f _).trans a2,(f _).trans a3⟩⟩
 few:=h.few
 rb:=h.rb
 bs:=Nat.le_trans h.bs k.size
 low:=h.low
 da:=h.da
def idxZ (R : Nat) (w : World) : Nat:=match w.cell? ⟨R,1,none⟩ with
 | some (.int _ i) => i.toNat
 | _ => 0
theorem idx_eq {wr : World} {g' : Sg} (h : Zs R B L T N wr g') : idxZ R wr = g'.I:=by
 unfold idxZ
 rw [h.cells.2.1]
 simp
theorem list_eq (fx : Bool) (n : Nat) {l : List Tok} (d : Int) (hd : d + n = 32) (hp : isP [91] l = true) : signS fx (inF fx n) l = (thnS (anyS (valF fx (n - 1)) [93]) (rest (thnS (openS [91] d) (.ok l)))).go fun vs l1 => .ok (valC 8 [] vs [],l1):=by
 unfold signS
 rw [hp]
 show listS (inF fx n) l = _
 show _ = (thnS _ (rest (openS [91] d l))).go _
 unfold openS
 rw [hp]
 cases n with
 | zero =>
  have : (32 : Int) ≤ d:=by omega
  simp only [if_true,if_pos this]
  rfl
 | succ m =>
  have : ¬ (32 : Int) ≤ d:=by omega
  simp only [if_true,if_neg this]
  rfl
theorem other_sign {l : List Tok} {s s' : Bs} (h : isP s l = true) (hne : s ≠ s') : isP s' l = false:=by
 cases l with
 | nil => cases h
 | cons x r =>
  simp only [isP,Bool.and_eq_true,beq_iff_eq] at h
  simp only [isP,h.1,h.2,Bool.and_eq_false_iff,beq_eq_false_iff_ne]
  exact Or.inr hne
theorem opens1_facts (g : Sg) (s : Bs) : (g.opens1 T N s).I = g.I + 1 ∧ (g.opens1 T N s).b = g.b + 1 ∧ (g.opens1 T N s).a = g.a ∧ (g.opens1 T N s).c = g.c ∧ (g.opens1 T N s).fx = g.fx:=by
 unfold Sg.opens1
 refine ⟨rfl,rfl,?_,?_,?_⟩ <;> simp only <;> (repeat' split) <;> simp [bad_abc]
set_option maxRecDepth 100000 in
set_option maxHeartbeats 4000000 in
theorem zmark_list (h : Zs R B L T N w g) {l : List Tok} (hl : Live T N g l) (fx : Bool) (hf : g.fx = fx) (n : Nat) (hn : g.b + n = 32) (hp : isP [91] l = true) (IH : 0 < n → ValC R B L T N fx (g.b + 1) (n - 1) l.length) (hlo : g.I < 9999) : Calls Tryz.prog 104 #[.pointer (some ⟨R,0,none⟩)] w (ValZ R B L T N w g (.ok l) (signS fx (inF fx n) l)):=by
 rw [list_eq fx n g.b hn hp]
 have hBs:=h.bs
 have hRl:=h.lt
 have hrb:=h.rb
 have I0:=mark_is h [36] (b:=false) (by rw [← live_isP hl];exact other_sign hp (by decide))
 have I1:=mark_is h [91] (b:=true) (by rw [← live_isP hl];exact hp)
 have k0 : Kp Non w ((w.alloc zeroZ).alloc zeroZ):=((Kp.refl Non w).alloc _).alloc _
 have OP:=fun w1 (h' : Zs R B L T N w1 g) => zopens1_any h' [91] (by omega) (by omega)
 obtain ⟨o1,o2,o3,o4,o5⟩:=opens1_facts (T:=T) (N:=N) g [91]
 have hst : St T N (g.opens1 T N [91]) (rest (thnS (openS [91] g.b) (.ok l))):=opens_st (st:=.ok l) hl (by decide) g.b rfl o1 rfl rfl
 have hok:=st_er hst
 have hl1 : lenS (rest (thnS (openS [91] g.b) (.ok l))) < l.length:=by
  show lenS (rest (openS [91] g.b l)) < l.length
  unfold openS
  rw [hp]
  have:=isP_pos hp
  by_cases h32 : 32 ≤ g.b
  ·simp only [if_true,if_pos h32];exact this
  ·simp only [if_true,if_neg h32]
   show l.tail.length < l.length
   rw [List.length_tail];omega
 have hpos : 0 < lenS (rest (thnS (openS [91] g.b) (.ok l))) → 0 < n:=by
  show 0 < lenS (rest (openS [91] g.b l)) → 0 < n
  unfold openS
  rw [hp]
  by_cases h32 : 32 ≤ g.b
  ·simp only [if_true,if_pos h32]
   exact fun h => absurd h (Nat.lt_irrefl _)
  ·intro _;omega
 generalize rest (thnS (openS [91] g.b) (.ok l)) = st1 at *
 generalize g.opens1 T N [91] = g1 at *
 have hok' : (g1.er == 0) = isOk st1:=by rw [hok];cases st1 <;> rfl
 rw [hok'] at OP
 clear hok
 go_enter Tryz.func104,Tryz.ntmps104
 go_wp2_with (first
  | (go_at_call 73;(with_reducible refine (OP _ z2).mono ?_);rintro e w3 ⟨rfl,z3,k3⟩)
  | (go_at_call 45;(with_reducible refine (I1 _ k1).mono ?_);rintro e w2 ⟨rfl,j2⟩;have k2:=k1.trans j2;have KV : Kp (Own1 R) ((w.alloc zeroZ).alloc zeroZ) w2:=kp_non (j1.trans j2);have bV:=(KV.block (w.heap.size + 1) (by rw [World.size_alloc,World.size_alloc];omega) (fun e => by have e' : w.heap.size + 1 = R:=e;omega)).trans (two_new w zeroZ zeroZ);obtain ⟨v0,v1,v2,v3,fv⟩:=row4 bV;have z2:=(h.kp k2).far (X:=w.heap.size + 1) (by omega) (Kp.own (w.heap.size + 1) 0 (.int .i64 8)))
  | (go_at_call 45;(with_reducible refine (I0 _ k0).mono ?_);rintro e w1 ⟨rfl,j1⟩;have k1:=k0.trans j1;obtain ⟨c0,c1,c2,c3,c4,c5,c6,c7,c8,fz⟩:=(h.kp k1).cells)
  | fail)
 have kW : Kp (fun k => k = R ∨ k = w.heap.size + 1) ((w.alloc zeroZ).alloc zeroZ) w3:=((kp_non (S:=fun k => k = R ∨ k = w.heap.size + 1) (j1.trans j2)).set (w.heap.size + 1) 0 _ (Or.inr (Or.inr rfl))).trans ⟨k3.os,k3.tape,k3.output,k3.size,fun q hq hS => k3.block q hq (fun e => hS (Or.inl e))⟩
 have bV3 : w3.heap[w.heap.size + 1]? = some (.cells #[.int .i64 ((8 : Nat) : Int),.string ⟨#[]⟩,.slice none 0 0,.slice none 0 0] 70 (0,0)):=by
  have hq:=lt_of_block bV
  obtain ⟨_,hg⟩:=Array.getElem?_eq_some_iff.1 bV
  refine (k3.block (w.heap.size + 1) (by rw [show (w2.setCell ⟨w.heap.size + 1,0,none⟩ (.int .i64 8)).heap.size = w2.heap.size by simp [World.setCell]];exact hq) (fun e => by have e' : w.heap.size + 1 = R:=e;omega)).trans ?_
  simp [World.setCell,hq,Array.getElem_modify,hg]
 have hz3 : w.heap.size + 2 ≤ w3.heap.size:=by have:=kW.size;rw [World.size_alloc,World.size_alloc] at this;omega
 go_loopw [4] (fun okv wr => ∃ g' st els lv xs D,okv = .bool (isOk st) ∧ Lp R B L T N ((w.alloc zeroZ).alloc zeroZ) g (valF fx (n - 1)) [93] (w.heap.size + 1) 8 st1 wr g' st els lv xs D) (fun okv wr => match okv with | .bool true => T.length + 2 - idxZ R wr | _ => 0)
 case atStart =>
  refine ⟨g1,st1,[],_,_,_,rfl,⟨z3,o5,o3,o2,o4,hst,?_,bV3,vr_none w3,kW,?_,?_⟩⟩
  ·cases thnS (anyS (valF fx (n - 1)) [93]) st1 <;> rfl
  ·have:=live_len hl
   have:=h.few
   simp only [List.length_nil]
   omega
  ·refine ⟨?_,fun l' e => by rw [e];exact Nat.le_refl _⟩
   rw [o1]
   have:=hl.2.1
   omega
 case round =>
  obtain ⟨g',st,els,lv,xs,D,rfl,LP⟩:=hrel
  cases st with
  | error p =>
   have hio : isOk (Except.error p) = false:=rfl
   obtain ⟨lo,lc,rfl⟩:=LP.row.slice
   have MU:=fun w5 (z5 : Zs R B L T N w5 g') => zmust_any z5 [93] (by have:=LP.low.1;have:=LP.zs.few;have:=hl1;have:=live_len hl;omega)
   have mst:=must_st (T:=T) (N:=N) LP.sts (s:=[93]) (by decide)
   have mI : (g'.must T N [93]).I = g'.I + 1:=by
    unfold Sg.must
    show (if _ then g' else g'.bad T N 60).I + 1 = _
    split
    ·rfl
    ·rw [bad_I]
   have mabc : (g'.must T N [93]).a = g'.a ∧ (g'.must T N [93]).b = g'.b ∧ (g'.must T N [93]).c = g'.c ∧ (g'.must T N [93]).fx = g'.fx:=by
    unfold Sg.must
    show (if _ then g' else g'.bad T N 60).a = _ ∧ (if _ then g' else g'.bad T N 60).b = _ ∧ (if _ then g' else g'.bad T N 60).c = _ ∧ (if _ then g' else g'.bad T N 60).fx = _
    split
    ·exact ⟨rfl,rfl,rfl,rfl⟩
    ·exact bad_abc g' 60
   generalize g'.must T N [93] = g6 at *
   obtain ⟨ma,mb,mc,mf⟩:=mabc
   have hb6 : g6.b = g.b + 1:=mb.trans LP.b
   have bV5:=LP.var
   have hbd : g6.I ≤ T.length + 16 * l.length:=by have:=LP.low.1;omega
   go_wp2_with (first
    | (go_at_call 75;(with_reducible refine (MU _ LP.zs).mono ?_);rintro e w6 ⟨rfl,z6,k6⟩;have k56 : Kp (Own1 R) wr w6:=k6;obtain ⟨c0,c1,c2,c3,c4,c5,c6,c7,c8,fz⟩:=z6.cells;rw [hb6] at c5;have bV6:=(k56.block (w.heap.size + 1) (lt_of_block bV5) (fun e => by have e' : w.heap.size + 1 = R:=e;omega)).trans bV5;obtain ⟨y0,y1,y2,y3,fy⟩:=row4 bV6)
    | fail)
   have hda:=z6.da
   have hF0:=z6.set 5 (.int .i64 g.b) { g6 with b:=g.b } (by simp) z6.low (by have:=h.da;simp only;omega)
   have K7 : Kp (Own1 R) w6 (w6.setCell ⟨R,5,none⟩ (.int .i64 g.b)):=Kp.own R 5 _
   have KR:=((kp_drop LP.kp).trans k56).trans K7
   obtain ⟨m0,m1,m2,m3,fm⟩:=row4 (new_row KR (fun e => by have e' : w.heap.size = R:=e;omega))
   obtain ⟨y0',y1',y2',y3',fy'⟩:=row4 ((K7.block (w.heap.size + 1) (lt_of_block bV6) (fun e => by have e' : w.heap.size + 1 = R:=e;omega)).trans bV6)
   have sC : w6.drew.cell? ⟨R,5,none⟩ = some (.int .i64 (g.b + 1)):=c5
   have sR : ∀ j,w6.drew.frozen? ⟨R,j,none⟩ = false:=fz
   have hVR : ¬ w.heap.size + 1 = R:=by omega
   have hrow:=LP.row
   have hLfx:=mf.trans LP.fx
   have hLa:=ma.trans LP.a
   have hLc:=mc.trans LP.c
   have hrel:=LP.rel
   clear LP
   go_region
   all_goals go_wp2
   all_goals
    obtain ⟨r1,r2⟩:=zret4 KR hF0 hBs (.int .i64 8) (.string ⟨#[]⟩) (.slice lo els.length lc) (.slice none 0 0)
    refine bodyPost_ret (v:=.agg #[.int .i64 8,.string ⟨#[]⟩,.slice lo els.length lc,.slice none 0 0]) (by simp [results,Tryz.results104,go_sem,m0,m1,m2,m3]) rfl ⟨valC 8 [] els [],_,{ g6 with b:=g.b },rfl,⟨8,⟨#[]⟩,lo,els.length,lc,none,0,0,rfl,?_⟩,⟨r1.kp ((Kp.refl Non _).drew),hLfx,hLa,rfl,hLc,r2.drew⟩,?_,?_,hbd⟩
    ·have K9 : Kp (fun k => k = R ∨ k = w.heap.size) wr (((((w6.setCell ⟨R,5,none⟩ (.int .i64 g.b)).setCell ⟨w.heap.size,0,none⟩ (.int .i64 8)).setCell ⟨w.heap.size,1,none⟩ (.string ⟨#[]⟩)).setCell ⟨w.heap.size,2,none⟩ (.slice lo els.length lc)).setCell ⟨w.heap.size,3,none⟩ (.slice none 0 0)).drew:=((((((⟨k56.os,k56.tape,k56.output,k56.size,fun q hq hS => k56.block q hq (fun e => hS (Or.inl e))⟩ : Kp (fun k => k = R ∨ k = w.heap.size) wr w6).set R 5 _ (Or.inr (Or.inl rfl))).set w.heap.size 0 _ (Or.inr (Or.inr rfl))).set w.heap.size 1 _ (Or.inr (Or.inr rfl))).set w.heap.size 2 _ (Or.inr (Or.inr rfl))).set w.heap.size 3 _ (Or.inr (Or.inr rfl))).drew
     have hat:=(hrow.keep K9 (fun q e => by rcases e with e | e <;> omega)).at_
     exact Ats.cons (.lf _) (Ats.cons (.lf _) (Ats.cons (hat.mono fun q hq => ⟨by have:=hq.1;omega,hq.2⟩) (Ats.cons (.nil _ _) Ats.nil)))
    ·rw [hrel]
     exact (show Dead g6 p from mst).of rfl rfl
    ·rw [hrel]
     intro a m e;cases e
  | ok l' =>
   have hio : isOk (Except.ok l') = true:=rfl
   have hl' : Live T N g' l':=LP.sts
   have X:=zis_any LP.zs [93]
   rw [← live_isP hl'] at X
   by_cases hq : isP [93] l' = true
   ·rw [hq] at X
    have hany : anyS (valF fx (n - 1)) [93] l' = .ok ([],l'.tail):=by rw [anyS_eq (valF_eats fx _),hq];rfl
    have hmu : mustS [93] l' = .ok ((),l'.tail):=by unfold mustS;rw [hq];rfl
    obtain ⟨lo,lc,rfl⟩:=LP.row.slice
    have MU:=fun w5 (z5 : Zs R B L T N w5 g') => zmust_any z5 [93] (by have:=LP.low.1;have:=LP.zs.few;have:=hl1;have:=live_len hl;omega)
    have mst:=must_st (T:=T) (N:=N) LP.sts (s:=[93]) (by decide)
    have mI : (g'.must T N [93]).I = g'.I + 1:=by
     unfold Sg.must
     show (if _ then g' else g'.bad T N 60).I + 1 = _
     split
     ·rfl
     ·rw [bad_I]
    have mabc : (g'.must T N [93]).a = g'.a ∧ (g'.must T N [93]).b = g'.b ∧ (g'.must T N [93]).c = g'.c ∧ (g'.must T N [93]).fx = g'.fx:=by
     unfold Sg.must
     show (if _ then g' else g'.bad T N 60).a = _ ∧ (if _ then g' else g'.bad T N 60).b = _ ∧ (if _ then g' else g'.bad T N 60).c = _ ∧ (if _ then g' else g'.bad T N 60).fx = _
     split
     ·exact ⟨rfl,rfl,rfl,rfl⟩
     ·exact bad_abc g' 60
    generalize g'.must T N [93] = g6 at *
    obtain ⟨ma,mb,mc,mf⟩:=mabc
    have hb6 : g6.b = g.b + 1:=mb.trans LP.b
    have bV5:=LP.var
    have hbd : g6.I ≤ T.length + 16 * l.length:=by have:=LP.low.1;omega
    go_wp2_with (first
     | (go_at_call 75;(with_reducible refine (MU _ (LP.zs.kp j5)).mono ?_);rintro e w6 ⟨rfl,z6,k6⟩;have k56 : Kp (Own1 R) wr w6:=(kp_non j5).trans k6;obtain ⟨c0,c1,c2,c3,c4,c5,c6,c7,c8,fz⟩:=z6.cells;rw [hb6] at c5;have bV6:=(k56.block (w.heap.size + 1) (lt_of_block bV5) (fun e => by have e' : w.heap.size + 1 = R:=e;omega)).trans bV5;obtain ⟨y0,y1,y2,y3,fy⟩:=row4 bV6)
     | (go_at_call 45;(with_reducible refine X.mono ?_);rintro e w5 ⟨rfl,j5⟩)
     | fail)
    have hda:=z6.da
    have hF0:=z6.set 5 (.int .i64 g.b) { g6 with b:=g.b } (by simp) z6.low (by have:=h.da;simp only;omega)
    have K7 : Kp (Own1 R) w6 (w6.setCell ⟨R,5,none⟩ (.int .i64 g.b)):=Kp.own R 5 _
    have KR:=((kp_drop LP.kp).trans k56).trans K7
    obtain ⟨m0,m1,m2,m3,fm⟩:=row4 (new_row KR (fun e => by have e' : w.heap.size = R:=e;omega))
    obtain ⟨y0',y1',y2',y3',fy'⟩:=row4 ((K7.block (w.heap.size + 1) (lt_of_block bV6) (fun e => by have e' : w.heap.size + 1 = R:=e;omega)).trans bV6)
    have sC : w6.drew.cell? ⟨R,5,none⟩ = some (.int .i64 (g.b + 1)):=c5
    have sR : ∀ j,w6.drew.frozen? ⟨R,j,none⟩ = false:=fz
    have hVR : ¬ w.heap.size + 1 = R:=by omega
    have hrow:=LP.row
    have hLfx:=mf.trans LP.fx
    have hLa:=ma.trans LP.a
    have hLc:=mc.trans LP.c
    have hrel:=LP.rel
    clear LP
    go_region
    all_goals go_wp2
    all_goals
     obtain ⟨r1,r2⟩:=zret4 KR hF0 hBs (.int .i64 8) (.string ⟨#[]⟩) (.slice lo els.length lc) (.slice none 0 0)
     refine bodyPost_ret (v:=.agg #[.int .i64 8,.string ⟨#[]⟩,.slice lo els.length lc,.slice none 0 0]) (by simp [results,Tryz.results104,go_sem,m0,m1,m2,m3]) rfl ⟨valC 8 [] els [],_,{ g6 with b:=g.b },rfl,⟨8,⟨#[]⟩,lo,els.length,lc,none,0,0,rfl,?_⟩,⟨r1.kp ((Kp.refl Non _).drew),hLfx,hLa,rfl,hLc,r2.drew⟩,?_,?_,hbd⟩
     ·have K9 : Kp (fun k => k = R ∨ k = w.heap.size) wr (((((w6.setCell ⟨R,5,none⟩ (.int .i64 g.b)).setCell ⟨w.heap.size,0,none⟩ (.int .i64 8)).setCell ⟨w.heap.size,1,none⟩ (.string ⟨#[]⟩)).setCell ⟨w.heap.size,2,none⟩ (.slice lo els.length lc)).setCell ⟨w.heap.size,3,none⟩ (.slice none 0 0)).drew:=((((((⟨k56.os,k56.tape,k56.output,k56.size,fun q hq hS => k56.block q hq (fun e => hS (Or.inl e))⟩ : Kp (fun k => k = R ∨ k = w.heap.size) wr w6).set R 5 _ (Or.inr (Or.inl rfl))).set w.heap.size 0 _ (Or.inr (Or.inr rfl))).set w.heap.size 1 _ (Or.inr (Or.inr rfl))).set w.heap.size 2 _ (Or.inr (Or.inr rfl))).set w.heap.size 3 _ (Or.inr (Or.inr rfl))).drew
      have hat:=(hrow.keep K9 (fun q e => by rcases e with e | e <;> omega)).at_
      exact Ats.cons (.lf _) (Ats.cons (.lf _) (Ats.cons (hat.mono fun q hq => ⟨by have:=hq.1;omega,hq.2⟩) (Ats.cons (.nil _ _) Ats.nil)))
     ·rw [hrel]
      rw [show thnS (anyS (valF fx (n - 1)) [93]) (Except.ok l') = .ok ([],l'.tail) from hany];exact (show Live T N g6 l'.tail from (by have:=mst;rw [show thnS (mustS [93]) (Except.ok l') = .ok ((),l'.tail) from hmu] at this;exact this))
     ·rw [hrel]
      rw [show thnS (anyS (valF fx (n - 1)) [93]) (Except.ok l') = .ok ([],l'.tail) from hany];intro a m e;simp only [go_ok,List.append_nil] at e;cases e;rfl
   ·have hqf : isP [93] l' = false:=Bool.eq_false_iff.2 hq
    rw [hqf] at X
    have hlenl:=live_len hl'
    have hlow:=LP.low
    have hl'l:=hlow.2 l' rfl
    have hfew:=LP.few
    have hTf:=LP.zs.few
    have hany : anyS (valF fx (n - 1)) [93] l' = (valF fx (n - 1) l').go fun a l1 => (anyS (valF fx (n - 1)) [93] l1).go fun b l2 => .ok (a :: b,l2):=by rw [anyS_eq (valF_eats fx _),hqf];rfl
    have hn0 : 0 < n:=by
     obtain ⟨r,hr⟩:=live_nx hl'
     have : l'.length = r.length + 1:=by rw [hr];rfl
     exact hpos (by omega)
    have VC:=fun w5 (z5 : Zs R B L T N w5 g') => IH hn0 w5 g' (.ok l') z5 LP.sts (LP.fx.trans hf) LP.b (fun l2 e => by cases e;omega) (by omega)
    obtain ⟨lo,lc,rfl⟩:=LP.row.slice
    have bV5:=LP.var
    have hVlt:=lt_of_block bV5
    obtain ⟨ti,hti,hy0,hy1,hy2⟩:=info_parts Tryz.infoValZ
    go_wp2_with (first
     | (at_builtin;refine wpList_append_lies _ rfl (.tmp 50) (.tmp 52) 68 rfl (w.heap.size + 1 + 1) 70 ti _ 4 72 Tryz.underlying68 hti hy0 hy1 hy2 rfl (by decide) (.slice lo els.length lc) els.length xs rfl (hrow7.own.alloc _) ⟨w7.heap.size + 1,0,none⟩ 1 1 [.int .i64 kk,.string vt,.slice p1 n1 z1,.slice p2 n2 z2] rfl rfl (World.news_of_block (two_new w7 (.cells #[.int .i64 kk,.string vt,.slice p1 n1 z1,.slice p2 n2 z2] 70) (.cells #[.int .i64 kk,.string vt,.slice p1 n1 z1,.slice p2 n2 z2] 70))) (by intro u hu;simp at hu;rcases hu with rfl | rfl | rfl | rfl <;> rfl) (by decide) (by unfold maxLen;omega) (by omega) (by rw [World.size_alloc,World.size_alloc];omega) _ rfl ?_;intro q8 cp8 w8 own8 gr8 hor8 hlt8;have K78 : Kp (fun k => w.heap.size + 1 + 1 ≤ k) w7 w8:=(((Kp.refl (fun k => w.heap.size + 1 + 1 ≤ k) w7).alloc _).alloc _).grew gr8 (fun k e => Or.inr (own_block hrow7.own e).1);have z8:=zk.zs.farS (fun k e => by have e' : w.heap.size + 1 + 1 ≤ k:=e;omega) K78;have bV8:=(K78.block (w.heap.size + 1) (Nat.lt_of_lt_of_le hVlt hz57) (fun e => by have e' : w.heap.size + 1 + 1 ≤ w.heap.size + 1:=e;omega)).trans ((k57.block (w.heap.size + 1) hVlt (fun e => by have e' : w.heap.size + 1 = R:=e;omega)).trans bV5);obtain ⟨x0,x1,x2,x3,fx8⟩:=row4 bV8;have z9:=z8.far (X:=w.heap.size + 1) (by omega) (Kp.own (w.heap.size + 1) 2 (.slice (some ⟨q8,0,none⟩) (els.length + 1) cp8));obtain ⟨c0,c1,c2,c3,c4,c5,c6,c7,c8,fz⟩:=z9.cells)
     | (go_at_call 77;(with_reducible refine (VC _ (LP.zs.kp j5)).mono ?_);rintro e w7 ⟨cs,v,g7,rfl,⟨kk,vt,p1,n1,z1,p2,n2,z2,rfl,hat⟩,zk,hst7,hcs7,hbd7⟩;have k57 : Kp (Own1 R) wr w7:=(kp_non j5).trans zk.kp;have bV7:=((al1 w7 (.cells #[.int .i64 kk,.string vt,.slice p1 n1 z1,.slice p2 n2 z2] 70)).block (w.heap.size + 1) (Nat.lt_of_lt_of_le hVlt k57.size)).trans ((k57.block (w.heap.size + 1) hVlt (fun e => by have e' : w.heap.size + 1 = R:=e;omega)).trans bV5);obtain ⟨y0,y1,y2,y3,fy⟩:=row4 bV7;have hrow7:=LP.row.keep (k57.alloc (.cells #[.int .i64 kk,.string vt,.slice p1 n1 z1,.slice p2 n2 z2] 70)) (fun q e => by have e' : q = R:=e;omega);have hz57:=k57.size)
     | (go_at_call 45;(with_reducible refine X.mono ?_);rintro e w5 ⟨rfl,j5⟩)
     | fail)
    have hst8 : St T N g7 (rest (valF fx (n - 1) l')):=hst7
    have hok7 : (g7.er == 0) = isOk (rest (valF fx (n - 1) l')):=by
     exact st_isOk hst8
    have hbd8 : g7.I ≤ T.length + 16 * l'.length:=hbd7
    have hcs8 : ∀ a m,valF fx (n - 1) l' = .ok (a,m) → cs = a:=hcs7
    have hsz5:=j5.size
    have hpsh:=hrow7.push (P:=w5.heap.size) (De:=Iv w5.heap.size w7.heap.size) (fun k e => Nat.lt_of_lt_of_le (own_block LP.row.own e).2 hsz5) (by omega) (hat.keep fun q hq => (al1 w7 (.cells #[.int .i64 kk,.string vt,.slice p1 n1 z1,.slice p2 n2 z2] 70)).block q hq.2) (fun k hk => ⟨hk.1,by rw [World.size_alloc];have:=hk.2;omega⟩) gr8 hor8 own8
    have hlS : lenS (rest (valF fx (n - 1) l')) < l'.length:=by
     cases hv : valF fx (n - 1) l' with
     | error p =>
      obtain ⟨r,hr⟩:=live_nx hl'
      rw [hr]
      exact Nat.succ_pos _
     | ok p => exact valF_eats fx _ _ _ _ hv
    refine ⟨⟨g7,rest (valF fx (n - 1) l'),els ++ [cs],_,_,_,by rw [hok7],⟨z9,zk.fx.trans LP.fx,zk.a.trans LP.a,zk.b.trans LP.b,zk.c.trans LP.c,hst8,?_,?_,hpsh.keep (Kp.own (w.heap.size + 1) 2 _) (fun q e => by have e' : q = w.heap.size + 1:=e;omega),?_,?_,?_⟩⟩,?_⟩
    ·rw [LP.rel]
     show (anyS (valF fx (n - 1)) [93] l').go _ = _
     rw [hany]
     cases hv : valF fx (n - 1) l' with
     | error p => rfl
     | ok p =>
      obtain ⟨a,m⟩:=p
      rw [hcs8 a m hv]
      simp only [go_ok]
      show ((anyS (valF fx (n - 1)) [93] m).go _).go _ = (anyS (valF fx (n - 1)) [93] m).go _
      cases anyS (valF fx (n - 1)) [93] m with
      | error p => rfl
      | ok p => simp [Rs.go]
    ·have hq:=lt_of_block bV8
     obtain ⟨_,hg⟩:=Array.getElem?_eq_some_iff.1 bV8
     simp [World.setCell,hq,Array.getElem_modify,hg]
    ·have K9:=Kp.own (w:=w8) (w.heap.size + 1) 2 (.slice (some ⟨q8,0,none⟩) (els.length + 1) cp8)
     refine ⟨K9.os.trans (K78.os.trans (k57.os.trans LP.kp.os)),K9.tape.trans (K78.tape.trans (k57.tape.trans LP.kp.tape)),K9.output.trans (K78.output.trans (k57.output.trans LP.kp.output)),Nat.le_trans LP.kp.size (Nat.le_trans k57.size (Nat.le_trans K78.size K9.size)),fun q hq hS => ?_⟩
     have hq2 : q < w.heap.size + 1 + 1:=by rw [World.size_alloc,World.size_alloc] at hq;exact hq
     have h0:=LP.kp.size
     rw [World.size_alloc,World.size_alloc] at h0
     have hz:=k57.size
     have hz8:=K78.size
     exact (K9.block q (by omega) (fun e => hS (Or.inr e))).trans ((K78.block q (by omega) (fun e => by have e' : w.heap.size + 1 + 1 ≤ q:=e;omega)).trans ((k57.block q (by omega) (fun e => hS (Or.inl e))).trans (LP.kp.block q hq hS)))
    ·rw [List.length_append,List.length_cons,List.length_nil]
     have : lenS (Except.ok l') = l'.length:=rfl
     omega
    ·refine ⟨by omega,fun l2 e => ?_⟩
     rw [e] at hlS
     have : lenS (Except.ok l2) = l2.length:=rfl
     omega
    ·rw [hok7,hio,idx_eq LP.zs]
     have hI':=hl'.2.1
     cases hv : valF fx (n - 1) l' with
     | error p =>
      show 0 < T.length + 2 - g'.I
      omega
     | ok p =>
      rw [hv] at hst8 hlS
      have hl7 : Live T N g7 p.2:=hst8
      have:=live_len hl7
      have e2 : lenS (rest (Except.ok p : Rs (List CT))) = p.2.length:=rfl
      show T.length + 2 - idxZ R _ < T.length + 2 - g'.I
      rw [idx_eq z9]
      omega
end
end
end Go.Proofs.YtgppemlciohjcaaGreatDoor
