/- The document's reader of trees: its state, and its small steps. -/
import Derived.Test.YtgppemlciohjcaaGreatDoorB07
import Derived.Test.YtgppemlciohjcaaGreatDoorB01
import Derived.Test.YtgppemlciohjcaaGreatDoorB15
namespace Go.Proofs.YtgppemlciohjcaaGreatDoor
section
open Go Go.RowKit Go.Shelf
structure Sg where
 I : Nat
 fx : Bool
 a : Int
 b : Int
 c : Int
 at_ : Int
 er : Int
abbrev rowZ (L : Value) (N : Nat) (g : Sg) : Obj:=.cells #[L,.int .i64 (g.I : Int),.int .i64 (N : Int),.bool g.fx,.int .i64 g.a,.int .i64 g.b,.int .i64 g.c,.int .i64 g.at_,.int .i64 g.er] 53
def TokL (R B : Nat) (w : World) (L : Value) (T : List Tok) : Prop:=∃ o cap,L = .slice o T.length cap ∧ T.length ≤ cap ∧ (T ≠ [] → ∃ q,o = some ⟨q,0,none⟩ ∧ q ≠ R ∧ q < B ∧ ∀ i t,T[i]? = some t → w.cell? ⟨q,i * 4,none⟩ = some (.int .i64 t.k) ∧ w.cell? ⟨q,i * 4 + 1,none⟩ = some (.string ⟨t.t.toArray⟩) ∧ w.cell? ⟨q,i * 4 + 2,none⟩ = some (.int .i64 (t.b : Int)) ∧ w.cell? ⟨q,i * 4 + 3,none⟩ = some (.int .i64 (t.e : Int)))
structure Zs (R B : Nat) (L : Value) (T : List Tok) (N : Nat) (w : World) (g : Sg) : Prop where
 row : w.heap[R]? = some (rowZ L N g)
 tk : TokL R B w L T
 few : T.length ≤ 2048
 rb : R < B
 bs : B ≤ w.heap.size
 low : g.I ≤ 1000000000
 da : 0 ≤ g.a ∧ g.a ≤ 1000 ∧ 0 ≤ g.b ∧ g.b ≤ 1000 ∧ 0 ≤ g.c ∧ g.c ≤ 1000
def nx (T : List Tok) (N I : Nat) : Tok:=(T[I]?).getD (eofT N)
abbrev tokZ (t : Tok) : Value:=.agg #[.int .i64 t.k,.string ⟨t.t.toArray⟩,.int .i64 (t.b : Int),.int .i64 (t.e : Int)]
section
variable {R B : Nat} {L : Value} {T : List Tok} {N : Nat} {w w' : World} {g : Sg}
theorem TokL.kp (h : TokL R B w L T) (hB : B ≤ w.heap.size) (k : Kp (Own1 R) w w') : TokL R B w' L T:=by
 obtain ⟨o,cap,e,hc,hq⟩:=h
 refine ⟨o,cap,e,hc,fun hT => ?_⟩
 obtain ⟨q,e1,e2,e3,e4⟩:=hq hT
 have f : ∀ i,w'.cell? ⟨q,i,none⟩ = w.cell? ⟨q,i,none⟩:=fun i => World.cell?_of_block (k.block q (Nat.lt_of_lt_of_le e3 hB) (fun e => e2 e))
 exact ⟨q,e1,e2,e3,fun i t ht => by
  obtain ⟨a0,a1,a2,a3⟩:=e4 i t ht
  exact ⟨(f _).trans a0,(f _).trans a1,(f _).trans a2,(f _).trans a3⟩⟩
theorem Zs.lt (h : Zs R B L T N w g) : R < w.heap.size:=lt_of_block h.row
theorem Zs.kp (h : Zs R B L T N w g) (k : Kp Non w w') : Zs R B L T N w' g:=⟨(k.block R h.lt (fun e => e)).trans h.row,h.tk.kp h.bs ⟨k.os,k.tape,k.output,k.size,fun j hj _ => k.block j hj (fun e => e)⟩,h.few,h.rb,Nat.le_trans h.bs k.size,h.low,h.da⟩
theorem Zs.below (h : Zs R B L T N w g) (k : Below w.heap.size w w') : Zs R B L T N w' g:=h.kp ⟨k.os,k.tape,k.output,k.size,fun j hj _ => k.block j hj⟩
theorem Zs.cells (h : Zs R B L T N w g) : w.cell? ⟨R,0,none⟩ = some L ∧ w.cell? ⟨R,1,none⟩ = some (.int .i64 (g.I : Int)) ∧ w.cell? ⟨R,2,none⟩ = some (.int .i64 (N : Int)) ∧ w.cell? ⟨R,3,none⟩ = some (.bool g.fx) ∧ w.cell? ⟨R,4,none⟩ = some (.int .i64 g.a) ∧ w.cell? ⟨R,5,none⟩ = some (.int .i64 g.b) ∧ w.cell? ⟨R,6,none⟩ = some (.int .i64 g.c) ∧ w.cell? ⟨R,7,none⟩ = some (.int .i64 g.at_) ∧ w.cell? ⟨R,8,none⟩ = some (.int .i64 g.er) ∧ ∀ j,w.frozen? ⟨R,j,none⟩ = false:=by
 have hr:=h.row
 refine ⟨?_,?_,?_,?_,?_,?_,?_,?_,?_,fun j => frozen_of_row w R j _ _ hr⟩ <;> simp [World.cell?,hr]
theorem Zs.set (h : Zs R B L T N w g) (i : Nat) (v : Value) (g' : Sg) (hg : (#[L,.int .i64 (g.I : Int),.int .i64 (N : Int),.bool g.fx,.int .i64 g.a,.int .i64 g.b,.int .i64 g.c,.int .i64 g.at_,.int .i64 g.er] : Array Value).setIfInBounds i v = #[L,.int .i64 (g'.I : Int),.int .i64 (N : Int),.bool g'.fx,.int .i64 g'.a,.int .i64 g'.b,.int .i64 g'.c,.int .i64 g'.at_,.int .i64 g'.er]) (hl : g'.I ≤ 1000000000) (hd : 0 ≤ g'.a ∧ g'.a ≤ 1000 ∧ 0 ≤ g'.b ∧ g'.b ≤ 1000 ∧ 0 ≤ g'.c ∧ g'.c ≤ 1000) : Zs R B L T N (w.setCell ⟨R,i,none⟩ v) g' where
 row:=by
  have hq:=h.lt
  obtain ⟨_,he⟩:=Array.getElem?_eq_some_iff.1 h.row
  have : (w.setCell ⟨R,i,none⟩ v).heap[R]? = some (.cells ((#[L,.int .i64 (g.I : Int),.int .i64 (N : Int),.bool g.fx,.int .i64 g.a,.int .i64 g.b,.int .i64 g.c,.int .i64 g.at_,.int .i64 g.er] : Array Value).setIfInBounds i v) 53 (0,0)):=by
   simp [World.setCell,hq,Array.getElem_modify,he]
  rw [this,hg]
 tk:=h.tk.kp h.bs (Kp.own R i v)
 few:=h.few
 rb:=h.rb
 bs:=Nat.le_trans h.bs (Kp.own R i v).size
 low:=hl
 da:=hd
theorem kk4 (w : World) (o : Obj) (n : Nat) (v0 v1 v2 v3 : Value) : Kp Non w ((((((w.alloc o).drewN n).setCell ⟨w.heap.size,0,none⟩ v0).setCell ⟨w.heap.size,1,none⟩ v1).setCell ⟨w.heap.size,2,none⟩ v2).setCell ⟨w.heap.size,3,none⟩ v3) :=
 ((((((Kp.refl Non w).alloc o).drewN n).set _ _ v0 (Or.inl (Nat.le_refl _))).set _ _ v1 (Or.inl (Nat.le_refl _))).set _ _ v2 (Or.inl (Nat.le_refl _))).set _ _ v3 (Or.inl (Nat.le_refl _))
theorem kp_cell {w w' : World} (k : Kp Non w w') {b i : Nat} {v : Value} (h : w.cell? ⟨b,i,none⟩ = some v) : w'.cell? ⟨b,i,none⟩ = some v:=(World.cell?_of_block (a:=⟨b,i,none⟩) (k.block b (World.block_lt_of_cell? w _ h) (fun e => e))).trans h
set_option maxRecDepth 100000 in
set_option maxHeartbeats 2000000 in
theorem znext_any (h : Zs R B L T N w g) : Calls Tryz.prog 40 #[.pointer (some ⟨R,0,none⟩)] w fun e w' => e = .returned (tokZ (nx T N g.I)) ∧ Kp Non w w':=by
 obtain ⟨c0,c1,c2,_⟩:=h.cells
 obtain ⟨o,cap,rfl,hcap,hrow⟩:=h.tk
 have hfew:=h.few
 have hlow:=h.low
 have hRl:=h.lt
 have d0:=fun o => cell_on (al1 w o) c0
 have d1:=fun o => cell_on (al1 w o) c1
 have d2:=fun o => cell_on (al1 w o) c2
 unfold nx
 by_cases hlt : g.I < T.length
 ·obtain ⟨q,rfl,hqR,hqB,hc⟩:=hrow (by rintro rfl;simp at hlt)
  have hql:=Nat.lt_of_lt_of_le hqB h.bs
  rw [List.getElem?_eq_getElem hlt]
  simp only [Option.getD_some]
  obtain ⟨q0,q1,q2,q3⟩:=hc g.I _ (List.getElem?_eq_getElem hlt)
  generalize T[g.I] = t at *
  have l1 : ((g.I : Nat) : Int) < (T.length : Int):=by omega
  have p0:=fun o => cell_on (al1 w o) q0
  have p1:=fun o => cell_on (al1 w o) q1
  have p2:=fun o => cell_on (al1 w o) q2
  have p3:=fun o => cell_on (al1 w o) q3
  clear h hc hrow
  generalize g.I = A at *
  have hA : ((A : Nat) : Int).toNat = A:=by omega
  go_enter Tryz.func40,Tryz.ntmps40
  go_wp2
  go_quiet (fail)
  go_wp2
  go_region_held3 (fun w' => w'.cell? ⟨R,0,none⟩ = some (.slice (some ⟨q,0,none⟩) T.length cap) ∧ w'.cell? ⟨R,1,none⟩ = some (.int .i64 (A : Int)) ∧ w'.cell? ⟨q,A * 4,none⟩ = some (.int .i64 t.k) ∧ w'.cell? ⟨q,A * 4 + 1,none⟩ = some (.string ⟨t.t.toArray⟩) ∧ w'.cell? ⟨q,A * 4 + 2,none⟩ = some (.int .i64 (t.b : Int)) ∧ w'.cell? ⟨q,A * 4 + 3,none⟩ = some (.int .i64 (t.e : Int))) (first | with_reducible exact ⟨kp_cell (kk4 w _ _ _ _ _ _) c0,kp_cell (kk4 w _ _ _ _ _ _) c1,kp_cell (kk4 w _ _ _ _ _ _) q0,kp_cell (kk4 w _ _ _ _ _ _) q1,kp_cell (kk4 w _ _ _ _ _ _) q2,kp_cell (kk4 w _ _ _ _ _ _) q3⟩ | go_keep) (fail)
  go_wp2
  refine bodyPost_ret (v:=tokZ t) (by simp [results,Tryz.results40,go_sem]) rfl ⟨rfl,?_⟩
  exact kk4 w _ _ _ _ _ _
 ·rw [List.getElem?_eq_none (by omega)]
  simp only [Option.getD_none]
  have l1 : ¬ ((g.I : Nat) : Int) < (T.length : Int):=by omega
  clear h hrow
  generalize g.I = A at *
  go_enter Tryz.func40,Tryz.ntmps40
  go_wp2
  go_quiet (fail)
  go_wp2
  refine bodyPost_ret (v:=tokZ (eofT N)) (by simp [results,Tryz.results40,go_sem]) rfl ⟨rfl,?_⟩
  exact kk4 w _ _ _ _ _ _
theorem kp_non {S : Nat → Prop} (k : Kp Non w w') : Kp S w w':=⟨k.os,k.tape,k.output,k.size,fun j hj _ => k.block j hj (fun e => e)⟩
theorem zis_any (h : Zs R B L T N w g) (s : Bs) : Calls Tryz.prog 45 #[.pointer (some ⟨R,0,none⟩),.string ⟨s.toArray⟩] w fun e w' => e = .returned (.bool ((nx T N g.I).k == 0 && (nx T N g.I).t == s)) ∧ Kp Non w w':=by
 have n1:=znext_any h
 have n2:=fun w' (k : Kp Non w w') => znext_any (h.kp k)
 generalize nx T N g.I = t at *
 have F0:=fld0 t
 have F1:=fld1 t
 have hb:=bytes_eq t.t s
 by_cases hk : t.k = 0
 ·have x1 : (t.k == 0) = true:=by simpa using hk
  have x2 : (t.k == 0 && t.t == s) = (t.t == s):=by rw [x1,Bool.true_and]
  rw [x2]
  go_enter Tryz.func45,Tryz.ntmps45
  go_wp2_with (first
   | (go_at_call 40;refine (n2 _ k1).mono ?_;rintro e w2 ⟨rfl,k2⟩)
   | (go_at_call 40;refine n1.mono ?_;rintro e w1 ⟨rfl,k1⟩)
   | fail)
  go_ret
  exact ⟨by simp,k1.trans k2⟩
 ·have x1 : (t.k == 0) = false:=by simpa using hk
  rw [x1,Bool.false_and]
  go_enter Tryz.func45,Tryz.ntmps45
  go_wp2_with (first
   | (go_at_call 40;refine n1.mono ?_;rintro e w1 ⟨rfl,k1⟩)
   | fail)
  go_ret
  exact ⟨rfl,k1⟩
theorem zword_any (h : Zs R B L T N w g) (s : Bs) : Calls Tryz.prog 22 #[.pointer (some ⟨R,0,none⟩),.string ⟨s.toArray⟩] w fun e w' => e = .returned (.bool ((nx T N g.I).k == 1 && (nx T N g.I).t == s)) ∧ Kp Non w w':=by
 have n1:=znext_any h
 have n2:=fun w' (k : Kp Non w w') => znext_any (h.kp k)
 generalize nx T N g.I = t at *
 have F0:=fld0 t
 have F1:=fld1 t
 have hb:=bytes_eq t.t s
 by_cases hk : t.k = 1
 ·have x1 : (t.k == 1) = true:=by simpa using hk
  have x2 : (t.k == 1 && t.t == s) = (t.t == s):=by rw [x1,Bool.true_and]
  rw [x2]
  go_enter Tryz.func22,Tryz.ntmps22
  go_wp2_with (first
   | (go_at_call 40;refine (n2 _ k1).mono ?_;rintro e w2 ⟨rfl,k2⟩)
   | (go_at_call 40;refine n1.mono ?_;rintro e w1 ⟨rfl,k1⟩)
   | fail)
  go_ret
  exact ⟨by simp,k1.trans k2⟩
 ·have x1 : (t.k == 1) = false:=by simpa using hk
  rw [x1,Bool.false_and]
  go_enter Tryz.func22,Tryz.ntmps22
  go_wp2_with (first
   | (go_at_call 40;refine n1.mono ?_;rintro e w1 ⟨rfl,k1⟩)
   | fail)
  go_ret
  exact ⟨rfl,k1⟩
def Sg.bad (T : List Tok) (N : Nat) (g : Sg) (e : Int) : Sg:=if g.er = 0 then { g with at_:=((nx T N g.I).b : Int),er:=e } else g
theorem zwrong_any (h : Zs R B L T N w g) (x : Int) : Calls Tryz.prog 42 #[.pointer (some ⟨R,0,none⟩),.int .i64 x] w fun e w' => e = .returned (.tuple #[]) ∧ Zs R B L T N w' (g.bad T N x) ∧ Kp (Own1 R) w w':=by
 obtain ⟨c0,c1,c2,c3,c4,c5,c6,c7,c8,fz⟩:=h.cells
 have n2:=fun w' (h' : Zs R B L T N w' { g with er:=x }) => znext_any h'
 have F2:=fld2 (nx T N g.I)
 unfold Sg.bad
 by_cases he : g.er = 0
 ·rw [if_pos he]
  rw [he] at c8
  have h1 : Zs R B L T N (w.setCell ⟨R,8,none⟩ (.int .i64 x)) { g with er:=x }:=h.set 8 _ _ (by simp) h.low h.da
  go_enter Tryz.func42,Tryz.ntmps42
  go_wp2_with (first
   | (go_at_call 40;refine (n2 _ h1).mono ?_;rintro e w2 ⟨rfl,k2⟩;obtain ⟨e0,e1,e2,e3,e4,e5,e6,e7,e8,fe⟩:=(h1.kp k2).cells)
   | fail)
  go_end0
  refine ⟨rfl,(h1.kp k2).set 7 _ _ (by simp) h.low h.da,?_⟩
  exact ((Kp.own R 8 _).trans (kp_non k2)).set R 7 _ (Or.inr rfl)
 ·rw [if_neg he]
  have x1 : (g.er == 0) = false:=by simpa using he
  go_enter Tryz.func42,Tryz.ntmps42
  go_wp2
  go_end0
  exact ⟨rfl,h,Kp.refl _ _⟩
def Sg.step (g : Sg) : Sg:={ g with I:=g.I + 1 }
theorem Zs.step (h : Zs R B L T N w g) (hl : g.I < 1000000000) : Zs R B L T N (w.setCell ⟨R,1,none⟩ (.int .i64 ((g.I : Int) + 1))) g.step:=h.set 1 _ g.step (by simp [Sg.step]) hl h.da
theorem bad_I (g : Sg) (e : Int) : (g.bad T N e).I = g.I:=by unfold Sg.bad;split <;> rfl
def Sg.must (T : List Tok) (N : Nat) (g : Sg) (s : Bs) : Sg:=(if ((nx T N g.I).k == 0 && (nx T N g.I).t == s) = true then g else g.bad T N 60).step
theorem zmust_any (h : Zs R B L T N w g) (s : Bs) (hl : g.I < 1000000000) : Calls Tryz.prog 75 #[.pointer (some ⟨R,0,none⟩),.string ⟨s.toArray⟩] w fun e w' => e = .returned (.tuple #[]) ∧ Zs R B L T N w' (g.must T N s) ∧ Kp (Own1 R) w w':=by
 have X:=zis_any h s
 unfold Sg.must
 generalize ((nx T N g.I).k == 0 && (nx T N g.I).t == s) = b at *
 cases b with
 | true =>
  rw [if_pos rfl]
  go_enter Tryz.func75,Tryz.ntmps75
  go_wp2_with (first
   | (go_at_call 45;refine X.mono ?_;rintro e w1 ⟨rfl,k1⟩;obtain ⟨c0,c1,c2,c3,c4,c5,c6,c7,c8,fz⟩:=(h.kp k1).cells)
   | fail)
  go_end0
  exact ⟨rfl,(h.kp k1).step hl,(kp_non k1).set R 1 _ (Or.inr rfl)⟩
 | false =>
  rw [if_neg (by decide)]
  have hl2 : (g.bad T N 60).I < 1000000000:=by rw [bad_I];exact hl
  have W:=fun w1 (k : Kp Non w w1) => zwrong_any (h.kp k) 60
  generalize hg : g.bad T N 60 = g2 at *
  go_enter Tryz.func75,Tryz.ntmps75
  go_wp2_with (first
   | (go_at_call 42;refine (W _ k1).mono ?_;rintro e w2 ⟨rfl,h2,k2⟩;obtain ⟨c0,c1,c2,c3,c4,c5,c6,c7,c8,fz⟩:=h2.cells)
   | (go_at_call 45;refine X.mono ?_;rintro e w1 ⟨rfl,k1⟩)
   | fail)
  go_end0
  exact ⟨rfl,h2.step hl2,((kp_non k1).trans k2).set R 1 _ (Or.inr rfl)⟩
def Sg.name (T : List Tok) (N : Nat) (g : Sg) (s : Bs) : Sg:=(if ((nx T N g.I).k == 1 && !((nx T N g.I).t == s)) = true then g else g.bad T N 60).step
theorem row4z {w1 : World} {X : Nat} {v0 v1 v2 v3 : Value} {E : TypeId} (hb : w1.heap[X]? = some (.cells #[v0,v1,v2,v3] E (0,0))) : w1.cell? ⟨X,0,none⟩ = some v0 ∧ w1.cell? ⟨X,1,none⟩ = some v1 ∧ w1.cell? ⟨X,2,none⟩ = some v2 ∧ w1.cell? ⟨X,3,none⟩ = some v3:=⟨by simp [World.cell?,hb],by simp [World.cell?,hb],by simp [World.cell?,hb],by simp [World.cell?,hb]⟩
set_option maxHeartbeats 1000000 in
theorem zname_any (h : Zs R B L T N w g) (s : Bs) (hl : g.I < 1000000000) : Calls Tryz.prog 41 #[.pointer (some ⟨R,0,none⟩),.string ⟨s.toArray⟩] w fun e w' => e = .returned (.string ⟨(nx T N g.I).t.toArray⟩) ∧ Zs R B L T N w' (g.name T N s) ∧ Kp (Own1 R) w w':=by
 have X:=znext_any h
 have hl2 : (g.bad T N 60).I < 1000000000:=by rw [bad_I];exact hl
 have W:=fun w1 (h' : Zs R B L T N w1 g) => zwrong_any h' 60
 unfold Sg.name
 have hb:=bytes_eq (nx T N g.I).t s
 generalize hg : g.bad T N 60 = g2 at *
 generalize nx T N g.I = t at *
 by_cases hk : t.k = 1
 ·have x2 : (t.k == 1) = true:=by simpa using hk
  have x4 : (t.k != 1) = false:=by simp only [bne,x2];rfl
  clear hk
  by_cases hs : t.t = s
  ·have x1 : (t.k == 1 && !(t.t == s)) = false:=by simp [hs]
   have x3 : (t.t == s) = true:=by simpa using hs
   rw [x1,if_neg (by decide)]
   rw [x3] at hb
   clear hs x1
   go_enter Tryz.func41,Tryz.ntmps41
   go_wp2_with (first
    | (go_at_call 42;refine (W _ h1).mono ?_;rintro e w2 ⟨rfl,h2,k2⟩;obtain ⟨c0,c1,c2,c3,c4,c5,c6,c7,c8,fz⟩:=h2.cells;have m5:=(World.cell?_of_block (a:=⟨w1.heap.size,1,none⟩) (k2.block w1.heap.size (by simp) (fun e => hRn (e : w1.heap.size = R).symm))).trans m1)
    | (go_at_call 40;refine X.mono ?_;rintro e w1 ⟨rfl,k1⟩;have h1:=(h.kp k1).below (al1 w1 (.cells #[.int .i64 t.k,.string ⟨t.t.toArray⟩,.int .i64 (t.b : Int),.int .i64 (t.e : Int)] 40));obtain ⟨m0,m1,m2,m3⟩:=row4z (heap_alloc_new w1 (.cells #[.int .i64 t.k,.string ⟨t.t.toArray⟩,.int .i64 (t.b : Int),.int .i64 (t.e : Int)] 40));have hRn : R ≠ w1.heap.size:=Nat.ne_of_lt (h.kp k1).lt)
    | fail)
   go_ret
   exact ⟨rfl,h2.step hl2,(((kp_non k1).alloc _).trans k2).set R 1 _ (Or.inr rfl)⟩
  ·have x3 : (t.t == s) = false:=by simpa using hs
   have x1 : (t.k == 1 && !(t.t == s)) = true:=by rw [x2,x3];rfl
   rw [x1,if_pos rfl]
   rw [x3] at hb
   clear hs x1
   go_enter Tryz.func41,Tryz.ntmps41
   go_wp2_with (first
    | (go_at_call 40;refine X.mono ?_;rintro e w1 ⟨rfl,k1⟩;have h1:=(h.kp k1).below (al1 w1 (.cells #[.int .i64 t.k,.string ⟨t.t.toArray⟩,.int .i64 (t.b : Int),.int .i64 (t.e : Int)] 40));obtain ⟨c0,c1,c2,c3,c4,c5,c6,c7,c8,fz⟩:=h1.cells;obtain ⟨m0,m1,m2,m3⟩:=row4z (heap_alloc_new w1 (.cells #[.int .i64 t.k,.string ⟨t.t.toArray⟩,.int .i64 (t.b : Int),.int .i64 (t.e : Int)] 40));have hRn : R ≠ w1.heap.size:=Nat.ne_of_lt (h.kp k1).lt)
    | fail)
   go_ret
   exact ⟨rfl,h1.step hl,((kp_non k1).alloc _).set R 1 _ (Or.inr rfl)⟩
 ·have x2 : (t.k == 1) = false:=by simpa using hk
  have x4 : (t.k != 1) = true:=by simp only [bne,x2];rfl
  rw [x2,Bool.false_and,if_neg (by decide)]
  go_enter Tryz.func41,Tryz.ntmps41
  go_wp2_with (first
   | (go_at_call 42;refine (W _ h1).mono ?_;rintro e w2 ⟨rfl,h2,k2⟩;obtain ⟨c0,c1,c2,c3,c4,c5,c6,c7,c8,fz⟩:=h2.cells;have m5:=(World.cell?_of_block (a:=⟨w1.heap.size,1,none⟩) (k2.block w1.heap.size (by simp) (fun e => hRn (e : w1.heap.size = R).symm))).trans m1)
   | (go_at_call 40;refine X.mono ?_;rintro e w1 ⟨rfl,k1⟩;have h1:=(h.kp k1).below (al1 w1 (.cells #[.int .i64 t.k,.string ⟨t.t.toArray⟩,.int .i64 (t.b : Int),.int .i64 (t.e : Int)] 40));obtain ⟨m0,m1,m2,m3⟩:=row4z (heap_alloc_new w1 (.cells #[.int .i64 t.k,.string ⟨t.t.toArray⟩,.int .i64 (t.b : Int),.int .i64 (t.e : Int)] 40));have hRn : R ≠ w1.heap.size:=Nat.ne_of_lt (h.kp k1).lt)
   | fail)
  go_ret
  exact ⟨rfl,h2.step hl2,(((kp_non k1).alloc _).trans k2).set R 1 _ (Or.inr rfl)⟩
def Sg.opens0 (T : List Tok) (N : Nat) (g : Sg) (s : Bs) : Sg:={ (if 32 ≤ g.a then (if ((nx T N g.I).k == 0 && (nx T N g.I).t == s) = true then g else g.bad T N 60).bad T N 61 else (if ((nx T N g.I).k == 0 && (nx T N g.I).t == s) = true then g else g.bad T N 60)) with I:=g.I + 1,a:=g.a + 1 }
def Sg.opens1 (T : List Tok) (N : Nat) (g : Sg) (s : Bs) : Sg:={ (if 32 ≤ g.b then (if ((nx T N g.I).k == 0 && (nx T N g.I).t == s) = true then g else g.bad T N 60).bad T N 61 else (if ((nx T N g.I).k == 0 && (nx T N g.I).t == s) = true then g else g.bad T N 60)) with I:=g.I + 1,b:=g.b + 1 }
def Sg.opens2 (T : List Tok) (N : Nat) (g : Sg) (s : Bs) : Sg:={ (if 32 ≤ g.c then (if ((nx T N g.I).k == 0 && (nx T N g.I).t == s) = true then g else g.bad T N 60).bad T N 61 else (if ((nx T N g.I).k == 0 && (nx T N g.I).t == s) = true then g else g.bad T N 60)) with I:=g.I + 1,c:=g.c + 1 }
theorem bad_abc (g : Sg) (e : Int) : (g.bad T N e).a = g.a ∧ (g.bad T N e).b = g.b ∧ (g.bad T N e).c = g.c ∧ (g.bad T N e).fx = g.fx:=by unfold Sg.bad;split <;> exact ⟨rfl,rfl,rfl,rfl⟩
set_option maxHeartbeats 2000000 in
theorem zopens0_any (h : Zs R B L T N w g) (s : Bs) (hl : g.I < 1000000000) (hd : g.a < 1000) : Calls Tryz.prog 73 #[.pointer (some ⟨R,0,none⟩),.int .i64 0,.string ⟨s.toArray⟩] w fun e w' => e = .returned (.bool ((g.opens0 T N s).er == 0)) ∧ Zs R B L T N w' (g.opens0 T N s) ∧ Kp (Own1 R) w w':=by
 have X:=zis_any h s
 have hdb:=h.da
 have fin : ∀ (w2 : World) (g2 : Sg),Zs R B L T N w2 g2 → g2.I = g.I → g2.a = g.a → Zs R B L T N ((w2.setCell ⟨R,1,none⟩ (.int .i64 ((g.I : Int) + 1))).setCell ⟨R,4,none⟩ (.int .i64 (g.a + 1))) { g2 with I:=g.I + 1,a:=g.a + 1 }:=by
  intro w2 g2 h2 e1 e2
  have hda:=h2.da
  refine (h2.set 1 _ { g2 with I:=g.I + 1 } (by simp) hl hda).set 4 _ _ (by simp) hl ?_
  simp only
  omega
 have W:=fun w1 (h' : Zs R B L T N w1 g) => zwrong_any h' 60
 unfold Sg.opens0
 have b1:=bad_I (T:=T) (N:=N) g 60
 have b2:=(bad_abc (T:=T) (N:=N) g 60).1
 generalize hb : ((nx T N g.I).k == 0 && (nx T N g.I).t == s) = b at *
 clear hb
 cases b with
 | true =>
  simp only [if_true]
  by_cases h32 : 32 ≤ g.a
  ·rw [if_pos h32]
   have c1:=bad_I (T:=T) (N:=N) g 61
   have c2:=(bad_abc (T:=T) (N:=N) g 61).1
   have W2:=fun w1 (h' : Zs R B L T N w1 g) => zwrong_any h' 61
   generalize hq : g.bad T N 61 = g3 at *
   clear hq
   go_enter Tryz.func73,Tryz.ntmps73
   go_wp2_with (first
    | (go_at_call 42;refine (W2 _ (h.kp k1)).mono ?_;rintro e w3 ⟨rfl,h3,k3⟩;obtain ⟨c0',c1',c2',c3',c4',c5',c6',c7',c8',fz⟩:=h3.cells)
    | (go_at_call 45;refine X.mono ?_;rintro e w1 ⟨rfl,k1⟩;obtain ⟨c0',c1',c2',c3',c4',c5',c6',c7',c8',fz⟩:=(h.kp k1).cells)
    | fail)
   have hS:=h3.set 1 (.int .i64 ((g.I : Int) + 1)) { g3 with I:=g.I + 1 } (by simp) hl h3.da
   obtain ⟨s0,s1,s2,s3,s4,s5,s6,s7,s8,fs⟩:=hS.cells
   have hF:=fin w3 g3 h3 c1 c2
   have hF1:=hF.kp ((Kp.refl Non _).drew)
   obtain ⟨u0,u1,u2,u3,u4,u5,u6,u7,u8,fu⟩:=hF1.cells
   try rw [show g3.a = g.a from c2] at s4
   have sR : ∀ j,World.frozen? ((w3.setCell ⟨R,1,none⟩ (.int .i64 ((g.I : Int) + 1))).drew) ⟨R,j,none⟩ = false:=fs
   have sC : World.cell? ((w3.setCell ⟨R,1,none⟩ (.int .i64 ((g.I : Int) + 1))).drew) ⟨R,4,none⟩ = some (.int .i64 g.a):=s4
   go_region
   all_goals go_wp2
   all_goals go_ret
   all_goals exact ⟨rfl,hF1,((((kp_non k1).trans k3).set R 1 _ (Or.inr rfl)).set R 4 _ (Or.inr rfl)).drew⟩
  ·rw [if_neg h32]
   go_enter Tryz.func73,Tryz.ntmps73
   go_wp2_with (first
    | (go_at_call 45;refine X.mono ?_;rintro e w1 ⟨rfl,k1⟩;obtain ⟨c0',c1',c2',c3',c4',c5',c6',c7',c8',fz⟩:=(h.kp k1).cells)
    | fail)
   have hS:=(h.kp k1).set 1 (.int .i64 ((g.I : Int) + 1)) { g with I:=g.I + 1 } (by simp) hl (h.kp k1).da
   obtain ⟨s0,s1,s2,s3,s4,s5,s6,s7,s8,fs⟩:=hS.cells
   have hF:=fin w1 g (h.kp k1) rfl rfl
   have hF1:=hF.kp ((Kp.refl Non _).drew)
   obtain ⟨u0,u1,u2,u3,u4,u5,u6,u7,u8,fu⟩:=hF1.cells
   have sR : ∀ j,World.frozen? ((w1.setCell ⟨R,1,none⟩ (.int .i64 ((g.I : Int) + 1))).drew) ⟨R,j,none⟩ = false:=fs
   have sC : World.cell? ((w1.setCell ⟨R,1,none⟩ (.int .i64 ((g.I : Int) + 1))).drew) ⟨R,4,none⟩ = some (.int .i64 g.a):=s4
   go_region
   all_goals go_wp2
   all_goals go_ret
   all_goals exact ⟨rfl,hF1,(((kp_non (S:=Own1 R) k1).set R 1 _ (Or.inr rfl)).set R 4 _ (Or.inr rfl)).drew⟩
 | false =>
  simp only [Bool.false_eq_true,if_false]
  have c1:=bad_I (T:=T) (N:=N) (g.bad T N 60) 61
  have c2:=(bad_abc (T:=T) (N:=N) (g.bad T N 60) 61).1
  have W2:=fun w1 (h' : Zs R B L T N w1 (g.bad T N 60)) => zwrong_any h' 61
  generalize hq : (g.bad T N 60).bad T N 61 = g3 at *
  clear hq
  generalize hq : g.bad T N 60 = g2 at *
  clear hq
  by_cases h32 : 32 ≤ g.a
  ·rw [if_pos h32]
   go_enter Tryz.func73,Tryz.ntmps73
   go_wp2_with (first
    | (go_at_call 42;refine (W2 _ h2).mono ?_;rintro e w3 ⟨rfl,h3,k3⟩;obtain ⟨c0',c1',c2',c3',c4',c5',c6',c7',c8',fz⟩:=h3.cells)
    | (go_at_call 42;refine (W _ (h.kp k1)).mono ?_;rintro e w2 ⟨rfl,h2,k2⟩;obtain ⟨c0',c1',c2',c3',c4',c5',c6',c7',c8',fz⟩:=h2.cells)
    | (go_at_call 45;refine X.mono ?_;rintro e w1 ⟨rfl,k1⟩;obtain ⟨c0',c1',c2',c3',c4',c5',c6',c7',c8',fz⟩:=(h.kp k1).cells)
    | fail)
   have hS:=h3.set 1 (.int .i64 ((g.I : Int) + 1)) { g3 with I:=g.I + 1 } (by simp) hl h3.da
   obtain ⟨s0,s1,s2,s3,s4,s5,s6,s7,s8,fs⟩:=hS.cells
   have hF:=fin w3 g3 h3 (c1.trans b1) (c2.trans b2)
   have hF1:=hF.kp ((Kp.refl Non _).drew)
   obtain ⟨u0,u1,u2,u3,u4,u5,u6,u7,u8,fu⟩:=hF1.cells
   try rw [show g3.a = g.a from (c2.trans b2)] at s4
   have sR : ∀ j,World.frozen? ((w3.setCell ⟨R,1,none⟩ (.int .i64 ((g.I : Int) + 1))).drew) ⟨R,j,none⟩ = false:=fs
   have sC : World.cell? ((w3.setCell ⟨R,1,none⟩ (.int .i64 ((g.I : Int) + 1))).drew) ⟨R,4,none⟩ = some (.int .i64 g.a):=s4
   go_region
   all_goals go_wp2
   all_goals go_ret
   all_goals exact ⟨rfl,hF1,(((((kp_non k1).trans k2).trans k3).set R 1 _ (Or.inr rfl)).set R 4 _ (Or.inr rfl)).drew⟩
  ·rw [if_neg h32]
   go_enter Tryz.func73,Tryz.ntmps73
   go_wp2_with (first
    | (go_at_call 42;refine (W _ (h.kp k1)).mono ?_;rintro e w2 ⟨rfl,h2,k2⟩;obtain ⟨c0',c1',c2',c3',c4',c5',c6',c7',c8',fz⟩:=h2.cells)
    | (go_at_call 45;refine X.mono ?_;rintro e w1 ⟨rfl,k1⟩;obtain ⟨c0',c1',c2',c3',c4',c5',c6',c7',c8',fz⟩:=(h.kp k1).cells)
    | fail)
   have hS:=h2.set 1 (.int .i64 ((g.I : Int) + 1)) { g2 with I:=g.I + 1 } (by simp) hl h2.da
   obtain ⟨s0,s1,s2,s3,s4,s5,s6,s7,s8,fs⟩:=hS.cells
   have hF:=fin w2 g2 h2 b1 b2
   have hF1:=hF.kp ((Kp.refl Non _).drew)
   obtain ⟨u0,u1,u2,u3,u4,u5,u6,u7,u8,fu⟩:=hF1.cells
   try rw [show g2.a = g.a from b2] at s4
   have sR : ∀ j,World.frozen? ((w2.setCell ⟨R,1,none⟩ (.int .i64 ((g.I : Int) + 1))).drew) ⟨R,j,none⟩ = false:=fs
   have sC : World.cell? ((w2.setCell ⟨R,1,none⟩ (.int .i64 ((g.I : Int) + 1))).drew) ⟨R,4,none⟩ = some (.int .i64 g.a):=s4
   go_region
   all_goals go_wp2
   all_goals go_ret
   all_goals exact ⟨rfl,hF1,((((kp_non k1).trans k2).set R 1 _ (Or.inr rfl)).set R 4 _ (Or.inr rfl)).drew⟩
set_option maxHeartbeats 2000000 in
theorem zopens1_any (h : Zs R B L T N w g) (s : Bs) (hl : g.I < 1000000000) (hd : g.b < 1000) : Calls Tryz.prog 73 #[.pointer (some ⟨R,0,none⟩),.int .i64 1,.string ⟨s.toArray⟩] w fun e w' => e = .returned (.bool ((g.opens1 T N s).er == 0)) ∧ Zs R B L T N w' (g.opens1 T N s) ∧ Kp (Own1 R) w w':=by
 have X:=zis_any h s
 have hdb:=h.da
 have fin : ∀ (w2 : World) (g2 : Sg),Zs R B L T N w2 g2 → g2.I = g.I → g2.b = g.b → Zs R B L T N ((w2.setCell ⟨R,1,none⟩ (.int .i64 ((g.I : Int) + 1))).setCell ⟨R,5,none⟩ (.int .i64 (g.b + 1))) { g2 with I:=g.I + 1,b:=g.b + 1 }:=by
  intro w2 g2 h2 e1 e2
  have hda:=h2.da
  refine (h2.set 1 _ { g2 with I:=g.I + 1 } (by simp) hl hda).set 5 _ _ (by simp) hl ?_
  simp only
  omega
 have W:=fun w1 (h' : Zs R B L T N w1 g) => zwrong_any h' 60
 unfold Sg.opens1
 have b1:=bad_I (T:=T) (N:=N) g 60
 have b2:=(bad_abc (T:=T) (N:=N) g 60).2.1
 generalize hb : ((nx T N g.I).k == 0 && (nx T N g.I).t == s) = b at *
 clear hb
 cases b with
 | true =>
  simp only [if_true]
  by_cases h32 : 32 ≤ g.b
  ·rw [if_pos h32]
   have c1:=bad_I (T:=T) (N:=N) g 61
   have c2:=(bad_abc (T:=T) (N:=N) g 61).2.1
   have W2:=fun w1 (h' : Zs R B L T N w1 g) => zwrong_any h' 61
   generalize hq : g.bad T N 61 = g3 at *
   clear hq
   go_enter Tryz.func73,Tryz.ntmps73
   go_wp2_with (first
    | (go_at_call 42;refine (W2 _ (h.kp k1)).mono ?_;rintro e w3 ⟨rfl,h3,k3⟩;obtain ⟨c0',c1',c2',c3',c4',c5',c6',c7',c8',fz⟩:=h3.cells)
    | (go_at_call 45;refine X.mono ?_;rintro e w1 ⟨rfl,k1⟩;obtain ⟨c0',c1',c2',c3',c4',c5',c6',c7',c8',fz⟩:=(h.kp k1).cells)
    | fail)
   have hS:=h3.set 1 (.int .i64 ((g.I : Int) + 1)) { g3 with I:=g.I + 1 } (by simp) hl h3.da
   obtain ⟨s0,s1,s2,s3,s4,s5,s6,s7,s8,fs⟩:=hS.cells
   have hF:=fin w3 g3 h3 c1 c2
   have hF1:=hF.kp ((Kp.refl Non _).drew)
   obtain ⟨u0,u1,u2,u3,u4,u5,u6,u7,u8,fu⟩:=hF1.cells
   try rw [show g3.b = g.b from c2] at s5
   have sR : ∀ j,World.frozen? ((w3.setCell ⟨R,1,none⟩ (.int .i64 ((g.I : Int) + 1))).drew) ⟨R,j,none⟩ = false:=fs
   have sC : World.cell? ((w3.setCell ⟨R,1,none⟩ (.int .i64 ((g.I : Int) + 1))).drew) ⟨R,5,none⟩ = some (.int .i64 g.b):=s5
   go_region
   all_goals go_wp2
   all_goals go_ret
   all_goals exact ⟨rfl,hF1,((((kp_non k1).trans k3).set R 1 _ (Or.inr rfl)).set R 5 _ (Or.inr rfl)).drew⟩
  ·rw [if_neg h32]
   go_enter Tryz.func73,Tryz.ntmps73
   go_wp2_with (first
    | (go_at_call 45;refine X.mono ?_;rintro e w1 ⟨rfl,k1⟩;obtain ⟨c0',c1',c2',c3',c4',c5',c6',c7',c8',fz⟩:=(h.kp k1).cells)
    | fail)
   have hS:=(h.kp k1).set 1 (.int .i64 ((g.I : Int) + 1)) { g with I:=g.I + 1 } (by simp) hl (h.kp k1).da
   obtain ⟨s0,s1,s2,s3,s4,s5,s6,s7,s8,fs⟩:=hS.cells
   have hF:=fin w1 g (h.kp k1) rfl rfl
   have hF1:=hF.kp ((Kp.refl Non _).drew)
   obtain ⟨u0,u1,u2,u3,u4,u5,u6,u7,u8,fu⟩:=hF1.cells
   have sR : ∀ j,World.frozen? ((w1.setCell ⟨R,1,none⟩ (.int .i64 ((g.I : Int) + 1))).drew) ⟨R,j,none⟩ = false:=fs
   have sC : World.cell? ((w1.setCell ⟨R,1,none⟩ (.int .i64 ((g.I : Int) + 1))).drew) ⟨R,5,none⟩ = some (.int .i64 g.b):=s5
   go_region
   all_goals go_wp2
   all_goals go_ret
   all_goals exact ⟨rfl,hF1,(((kp_non (S:=Own1 R) k1).set R 1 _ (Or.inr rfl)).set R 5 _ (Or.inr rfl)).drew⟩
 | false =>
  simp only [Bool.false_eq_true,if_false]
  have c1:=bad_I (T:=T) (N:=N) (g.bad T N 60) 61
  have c2:=(bad_abc (T:=T) (N:=N) (g.bad T N 60) 61).2.1
  have W2:=fun w1 (h' : Zs R B L T N w1 (g.bad T N 60)) => zwrong_any h' 61
  generalize hq : (g.bad T N 60).bad T N 61 = g3 at *
  clear hq
  generalize hq : g.bad T N 60 = g2 at *
  clear hq
  by_cases h32 : 32 ≤ g.b
  ·rw [if_pos h32]
   go_enter Tryz.func73,Tryz.ntmps73
   go_wp2_with (first
    | (go_at_call 42;refine (W2 _ h2).mono ?_;rintro e w3 ⟨rfl,h3,k3⟩;obtain ⟨c0',c1',c2',c3',c4',c5',c6',c7',c8',fz⟩:=h3.cells)
    | (go_at_call 42;refine (W _ (h.kp k1)).mono ?_;rintro e w2 ⟨rfl,h2,k2⟩;obtain ⟨c0',c1',c2',c3',c4',c5',c6',c7',c8',fz⟩:=h2.cells)
    | (go_at_call 45;refine X.mono ?_;rintro e w1 ⟨rfl,k1⟩;obtain ⟨c0',c1',c2',c3',c4',c5',c6',c7',c8',fz⟩:=(h.kp k1).cells)
    | fail)
   have hS:=h3.set 1 (.int .i64 ((g.I : Int) + 1)) { g3 with I:=g.I + 1 } (by simp) hl h3.da
   obtain ⟨s0,s1,s2,s3,s4,s5,s6,s7,s8,fs⟩:=hS.cells
   have hF:=fin w3 g3 h3 (c1.trans b1) (c2.trans b2)
   have hF1:=hF.kp ((Kp.refl Non _).drew)
   obtain ⟨u0,u1,u2,u3,u4,u5,u6,u7,u8,fu⟩:=hF1.cells
   try rw [show g3.b = g.b from (c2.trans b2)] at s5
   have sR : ∀ j,World.frozen? ((w3.setCell ⟨R,1,none⟩ (.int .i64 ((g.I : Int) + 1))).drew) ⟨R,j,none⟩ = false:=fs
   have sC : World.cell? ((w3.setCell ⟨R,1,none⟩ (.int .i64 ((g.I : Int) + 1))).drew) ⟨R,5,none⟩ = some (.int .i64 g.b):=s5
   go_region
   all_goals go_wp2
   all_goals go_ret
   all_goals exact ⟨rfl,hF1,(((((kp_non k1).trans k2).trans k3).set R 1 _ (Or.inr rfl)).set R 5 _ (Or.inr rfl)).drew⟩
  ·rw [if_neg h32]
   go_enter Tryz.func73,Tryz.ntmps73
   go_wp2_with (first
    | (go_at_call 42;refine (W _ (h.kp k1)).mono ?_;rintro e w2 ⟨rfl,h2,k2⟩;obtain ⟨c0',c1',c2',c3',c4',c5',c6',c7',c8',fz⟩:=h2.cells)
    | (go_at_call 45;refine X.mono ?_;rintro e w1 ⟨rfl,k1⟩;obtain ⟨c0',c1',c2',c3',c4',c5',c6',c7',c8',fz⟩:=(h.kp k1).cells)
    | fail)
   have hS:=h2.set 1 (.int .i64 ((g.I : Int) + 1)) { g2 with I:=g.I + 1 } (by simp) hl h2.da
   obtain ⟨s0,s1,s2,s3,s4,s5,s6,s7,s8,fs⟩:=hS.cells
   have hF:=fin w2 g2 h2 b1 b2
   have hF1:=hF.kp ((Kp.refl Non _).drew)
   obtain ⟨u0,u1,u2,u3,u4,u5,u6,u7,u8,fu⟩:=hF1.cells
   try rw [show g2.b = g.b from b2] at s5
   have sR : ∀ j,World.frozen? ((w2.setCell ⟨R,1,none⟩ (.int .i64 ((g.I : Int) + 1))).drew) ⟨R,j,none⟩ = false:=fs
   have sC : World.cell? ((w2.setCell ⟨R,1,none⟩ (.int .i64 ((g.I : Int) + 1))).drew) ⟨R,5,none⟩ = some (.int .i64 g.b):=s5
   go_region
   all_goals go_wp2
   all_goals go_ret
   all_goals exact ⟨rfl,hF1,((((kp_non k1).trans k2).set R 1 _ (Or.inr rfl)).set R 5 _ (Or.inr rfl)).drew⟩
set_option maxHeartbeats 2000000 in
theorem zopens2_any (h : Zs R B L T N w g) (s : Bs) (hl : g.I < 1000000000) (hd : g.c < 1000) : Calls Tryz.prog 73 #[.pointer (some ⟨R,0,none⟩),.int .i64 2,.string ⟨s.toArray⟩] w fun e w' => e = .returned (.bool ((g.opens2 T N s).er == 0)) ∧ Zs R B L T N w' (g.opens2 T N s) ∧ Kp (Own1 R) w w':=by
 have X:=zis_any h s
 have hdb:=h.da
 have fin : ∀ (w2 : World) (g2 : Sg),Zs R B L T N w2 g2 → g2.I = g.I → g2.c = g.c → Zs R B L T N ((w2.setCell ⟨R,1,none⟩ (.int .i64 ((g.I : Int) + 1))).setCell ⟨R,6,none⟩ (.int .i64 (g.c + 1))) { g2 with I:=g.I + 1,c:=g.c + 1 }:=by
  intro w2 g2 h2 e1 e2
  have hda:=h2.da
  refine (h2.set 1 _ { g2 with I:=g.I + 1 } (by simp) hl hda).set 6 _ _ (by simp) hl ?_
  simp only
  omega
 have W:=fun w1 (h' : Zs R B L T N w1 g) => zwrong_any h' 60
 unfold Sg.opens2
 have b1:=bad_I (T:=T) (N:=N) g 60
 have b2:=(bad_abc (T:=T) (N:=N) g 60).2.2.1
 generalize hb : ((nx T N g.I).k == 0 && (nx T N g.I).t == s) = b at *
 clear hb
 cases b with
 | true =>
  simp only [if_true]
  by_cases h32 : 32 ≤ g.c
  ·rw [if_pos h32]
   have c1:=bad_I (T:=T) (N:=N) g 61
   have c2:=(bad_abc (T:=T) (N:=N) g 61).2.2.1
   have W2:=fun w1 (h' : Zs R B L T N w1 g) => zwrong_any h' 61
   generalize hq : g.bad T N 61 = g3 at *
   clear hq
   go_enter Tryz.func73,Tryz.ntmps73
   go_wp2_with (first
    | (go_at_call 42;refine (W2 _ (h.kp k1)).mono ?_;rintro e w3 ⟨rfl,h3,k3⟩;obtain ⟨c0',c1',c2',c3',c4',c5',c6',c7',c8',fz⟩:=h3.cells)
    | (go_at_call 45;refine X.mono ?_;rintro e w1 ⟨rfl,k1⟩;obtain ⟨c0',c1',c2',c3',c4',c5',c6',c7',c8',fz⟩:=(h.kp k1).cells)
    | fail)
   have hS:=h3.set 1 (.int .i64 ((g.I : Int) + 1)) { g3 with I:=g.I + 1 } (by simp) hl h3.da
   obtain ⟨s0,s1,s2,s3,s4,s5,s6,s7,s8,fs⟩:=hS.cells
   have hF:=fin w3 g3 h3 c1 c2
   have hF1:=hF.kp ((Kp.refl Non _).drew)
   obtain ⟨u0,u1,u2,u3,u4,u5,u6,u7,u8,fu⟩:=hF1.cells
   try rw [show g3.c = g.c from c2] at s6
   have sR : ∀ j,World.frozen? ((w3.setCell ⟨R,1,none⟩ (.int .i64 ((g.I : Int) + 1))).drew) ⟨R,j,none⟩ = false:=fs
   have sC : World.cell? ((w3.setCell ⟨R,1,none⟩ (.int .i64 ((g.I : Int) + 1))).drew) ⟨R,6,none⟩ = some (.int .i64 g.c):=s6
   go_region
   all_goals go_wp2
   all_goals go_ret
   all_goals exact ⟨rfl,hF1,((((kp_non k1).trans k3).set R 1 _ (Or.inr rfl)).set R 6 _ (Or.inr rfl)).drew⟩
  ·rw [if_neg h32]
   go_enter Tryz.func73,Tryz.ntmps73
   go_wp2_with (first
    | (go_at_call 45;refine X.mono ?_;rintro e w1 ⟨rfl,k1⟩;obtain ⟨c0',c1',c2',c3',c4',c5',c6',c7',c8',fz⟩:=(h.kp k1).cells)
    | fail)
   have hS:=(h.kp k1).set 1 (.int .i64 ((g.I : Int) + 1)) { g with I:=g.I + 1 } (by simp) hl (h.kp k1).da
   obtain ⟨s0,s1,s2,s3,s4,s5,s6,s7,s8,fs⟩:=hS.cells
   have hF:=fin w1 g (h.kp k1) rfl rfl
   have hF1:=hF.kp ((Kp.refl Non _).drew)
   obtain ⟨u0,u1,u2,u3,u4,u5,u6,u7,u8,fu⟩:=hF1.cells
   have sR : ∀ j,World.frozen? ((w1.setCell ⟨R,1,none⟩ (.int .i64 ((g.I : Int) + 1))).drew) ⟨R,j,none⟩ = false:=fs
   have sC : World.cell? ((w1.setCell ⟨R,1,none⟩ (.int .i64 ((g.I : Int) + 1))).drew) ⟨R,6,none⟩ = some (.int .i64 g.c):=s6
   go_region
   all_goals go_wp2
   all_goals go_ret
   all_goals exact ⟨rfl,hF1,(((kp_non (S:=Own1 R) k1).set R 1 _ (Or.inr rfl)).set R 6 _ (Or.inr rfl)).drew⟩
 | false =>
  simp only [Bool.false_eq_true,if_false]
  have c1:=bad_I (T:=T) (N:=N) (g.bad T N 60) 61
  have c2:=(bad_abc (T:=T) (N:=N) (g.bad T N 60) 61).2.2.1
  have W2:=fun w1 (h' : Zs R B L T N w1 (g.bad T N 60)) => zwrong_any h' 61
  generalize hq : (g.bad T N 60).bad T N 61 = g3 at *
  clear hq
  generalize hq : g.bad T N 60 = g2 at *
  clear hq
  by_cases h32 : 32 ≤ g.c
  ·rw [if_pos h32]
   go_enter Tryz.func73,Tryz.ntmps73
   go_wp2_with (first
    | (go_at_call 42;refine (W2 _ h2).mono ?_;rintro e w3 ⟨rfl,h3,k3⟩;obtain ⟨c0',c1',c2',c3',c4',c5',c6',c7',c8',fz⟩:=h3.cells)
    | (go_at_call 42;refine (W _ (h.kp k1)).mono ?_;rintro e w2 ⟨rfl,h2,k2⟩;obtain ⟨c0',c1',c2',c3',c4',c5',c6',c7',c8',fz⟩:=h2.cells)
    | (go_at_call 45;refine X.mono ?_;rintro e w1 ⟨rfl,k1⟩;obtain ⟨c0',c1',c2',c3',c4',c5',c6',c7',c8',fz⟩:=(h.kp k1).cells)
    | fail)
   have hS:=h3.set 1 (.int .i64 ((g.I : Int) + 1)) { g3 with I:=g.I + 1 } (by simp) hl h3.da
   obtain ⟨s0,s1,s2,s3,s4,s5,s6,s7,s8,fs⟩:=hS.cells
   have hF:=fin w3 g3 h3 (c1.trans b1) (c2.trans b2)
   have hF1:=hF.kp ((Kp.refl Non _).drew)
   obtain ⟨u0,u1,u2,u3,u4,u5,u6,u7,u8,fu⟩:=hF1.cells
   try rw [show g3.c = g.c from (c2.trans b2)] at s6
   have sR : ∀ j,World.frozen? ((w3.setCell ⟨R,1,none⟩ (.int .i64 ((g.I : Int) + 1))).drew) ⟨R,j,none⟩ = false:=fs
   have sC : World.cell? ((w3.setCell ⟨R,1,none⟩ (.int .i64 ((g.I : Int) + 1))).drew) ⟨R,6,none⟩ = some (.int .i64 g.c):=s6
   go_region
   all_goals go_wp2
   all_goals go_ret
   all_goals exact ⟨rfl,hF1,(((((kp_non k1).trans k2).trans k3).set R 1 _ (Or.inr rfl)).set R 6 _ (Or.inr rfl)).drew⟩
  ·rw [if_neg h32]
   go_enter Tryz.func73,Tryz.ntmps73
   go_wp2_with (first
    | (go_at_call 42;refine (W _ (h.kp k1)).mono ?_;rintro e w2 ⟨rfl,h2,k2⟩;obtain ⟨c0',c1',c2',c3',c4',c5',c6',c7',c8',fz⟩:=h2.cells)
    | (go_at_call 45;refine X.mono ?_;rintro e w1 ⟨rfl,k1⟩;obtain ⟨c0',c1',c2',c3',c4',c5',c6',c7',c8',fz⟩:=(h.kp k1).cells)
    | fail)
   have hS:=h2.set 1 (.int .i64 ((g.I : Int) + 1)) { g2 with I:=g.I + 1 } (by simp) hl h2.da
   obtain ⟨s0,s1,s2,s3,s4,s5,s6,s7,s8,fs⟩:=hS.cells
   have hF:=fin w2 g2 h2 b1 b2
   have hF1:=hF.kp ((Kp.refl Non _).drew)
   obtain ⟨u0,u1,u2,u3,u4,u5,u6,u7,u8,fu⟩:=hF1.cells
   try rw [show g2.c = g.c from b2] at s6
   have sR : ∀ j,World.frozen? ((w2.setCell ⟨R,1,none⟩ (.int .i64 ((g.I : Int) + 1))).drew) ⟨R,j,none⟩ = false:=fs
   have sC : World.cell? ((w2.setCell ⟨R,1,none⟩ (.int .i64 ((g.I : Int) + 1))).drew) ⟨R,6,none⟩ = some (.int .i64 g.c):=s6
   go_region
   all_goals go_wp2
   all_goals go_ret
   all_goals exact ⟨rfl,hF1,((((kp_non k1).trans k2).set R 1 _ (Or.inr rfl)).set R 6 _ (Or.inr rfl)).drew⟩
end
end
section
open Go Go.RowKit Go.Shelf
def TF (T : List Tok) : Prop:=∀ t ∈ T,¬ (t.k = 0 ∧ t.t = []) ∧ (t.k = 1 → t.t ≠ []) ∧ (t.k = 0 ∨ t.k = 1 ∨ t.k = 2 ∨ t.k = 3 ∨ t.k = 4)
def Live (T : List Tok) (N : Nat) (g : Sg) (l : List Tok) : Prop:=l = T.drop g.I ++ [eofT N] ∧ g.I ≤ T.length ∧ g.er = 0
def Dead (g : Sg) (p : Nat × Int) : Prop:=g.er = p.2 ∧ p.2 ≠ 0 ∧ g.at_ = (p.1 : Int)
def St (T : List Tok) (N : Nat) (g : Sg) : Except (Nat × Int) (List Tok) → Prop
 | .ok l => Live T N g l
 | .error p => Dead g p
def thnS {α : Type} (f : List Tok → Rs α) : Except (Nat × Int) (List Tok) → Rs α
 | .ok l => f l
 | .error p => .error p
def rest {α : Type} : Rs α → Except (Nat × Int) (List Tok)
 | .ok p => .ok p.2
 | .error p => .error p
section
variable {T : List Tok} {N : Nat} {g : Sg} {l : List Tok} {p : Nat × Int} {st : Except (Nat × Int) (List Tok)}
theorem live_cases (h : Live T N g l) : (g.I < T.length ∧ nx T N g.I ∈ T ∧ l = nx T N g.I :: (T.drop (g.I + 1) ++ [eofT N])) ∨ (g.I = T.length ∧ nx T N g.I = eofT N ∧ l = [eofT N]):=by
 obtain ⟨h1,h2,_⟩:=h
 rcases Nat.lt_or_ge g.I T.length with hlt | hge
 ·left
  have e : nx T N g.I = T[g.I]:=by
   unfold nx
   rw [List.getElem?_eq_getElem hlt];rfl
  refine ⟨hlt,by rw [e];exact List.getElem_mem hlt,?_⟩
  rw [h1,e,List.drop_eq_getElem_cons hlt];rfl
 ·right
  obtain hI : g.I = T.length:=by omega
  refine ⟨hI,?_,?_⟩
  ·unfold nx
   rw [List.getElem?_eq_none (by omega)];rfl
  ·rw [h1,hI,List.drop_length];rfl
theorem live_nx (h : Live T N g l) : ∃ r,l = nx T N g.I :: r:=by
 rcases live_cases h with ⟨_,_,e⟩ | ⟨_,e1,e⟩
 ·exact ⟨_,e⟩
 ·exact ⟨[],by rw [e,e1]⟩
theorem live_isP (h : Live T N g l) (s : Bs) : isP s l = ((nx T N g.I).k == 0 && (nx T N g.I).t == s):=by
 obtain ⟨r,rfl⟩:=live_nx h;rfl
theorem live_isW (h : Live T N g l) (s : Bs) : isW s l = ((nx T N g.I).k == 1 && (nx T N g.I).t == s):=by
 obtain ⟨r,rfl⟩:=live_nx h;rfl
theorem live_isK (h : Live T N g l) (k : Int) : isK k l = ((nx T N g.I).k == k):=by
 obtain ⟨r,rfl⟩:=live_nx h;rfl
theorem live_tx (h : Live T N g l) : txT l = (nx T N g.I).t:=by
 obtain ⟨r,rfl⟩:=live_nx h;rfl
theorem live_at (h : Live T N g l) : atT l = (nx T N g.I).b:=by
 obtain ⟨r,rfl⟩:=live_nx h;rfl
theorem live_len (h : Live T N g l) : g.I + l.length = T.length + 1:=by
 obtain ⟨h1,h2,_⟩:=h
 rw [h1];simp;omega
theorem live_step (h : Live T N g l) (hn : NE l) {g' : Sg} (hI : g'.I = g.I + 1) (he : g'.er = 0) : Live T N g' l.tail:=by
 rcases live_cases h with ⟨h1,_,e⟩ | ⟨_,_,e⟩
 ·refine ⟨?_,by omega,he⟩
  rw [e,hI];rfl
 ·obtain ⟨x,r,e2,hx⟩:=hn
  rw [e] at e2
  cases e2
  exact absurd ⟨rfl,rfl⟩ hx
theorem bad_live (h : Live T N g l) (e : Int) (he : e ≠ 0) : Dead (g.bad T N e) (atT l,e):=by
 unfold Sg.bad
 rw [if_pos h.2.2]
 exact ⟨rfl,he,by rw [live_at h]⟩
theorem bad_dead (h : Dead g p) (e : Int) : g.bad T N e = g:=by
 unfold Sg.bad
 rw [if_neg (by rw [h.1];exact h.2.1)]
theorem Dead.of {g' : Sg} (h : Dead g p) (h1 : g'.er = g.er) (h2 : g'.at_ = g.at_) : Dead g' p:=⟨h1.trans h.1,h.2.1,h2.trans h.2.2⟩
theorem must_st (h : St T N g st) {s : Bs} (hs : s ≠ []) : St T N (g.must T N s) (rest (thnS (mustS s) st)):=by
 unfold Sg.must
 cases st with
 | error p =>
  have hd : Dead g p:=h
  rw [bad_dead hd,ite_self]
  exact hd.of rfl rfl
 | ok l =>
  have hl : Live T N g l:=h
  show St T N _ (rest (mustS s l))
  unfold mustS
  rw [← live_isP hl s]
  by_cases hp : isP s l = true
  ·rw [if_pos hp,if_pos hp]
   exact live_step hl (ne_P hs hp) rfl hl.2.2
  ·rw [if_neg hp,if_neg hp]
   exact (bad_live hl 60 (by decide)).of rfl rfl
theorem name_st (hT : TF T) (h : St T N g st) : St T N (g.name T N []) (rest (thnS nameS st)) ∧ ∀ a m,thnS nameS st = .ok (a,m) → a = (nx T N g.I).t:=by
 unfold Sg.name
 cases st with
 | error p =>
  have hd : Dead g p:=h
  rw [bad_dead hd,ite_self]
  exact ⟨hd.of rfl rfl,fun a m e => by cases e⟩
 | ok l =>
  have hl : Live T N g l:=h
  show St T N _ (rest (nameS l)) ∧ ∀ a m,nameS l = .ok (a,m) → _
  unfold nameS
  have hk:=live_isK hl 1
  by_cases hp : isK 1 l = true
  ·have hne : ((nx T N g.I).t == []) = false:=by
    rw [hk] at hp
    rcases live_cases hl with ⟨_,hm,_⟩ | ⟨_,e,_⟩
    ·have:=(hT _ hm).2.1 (by simpa using hp)
     simpa using this
    ·rw [e] at hp;cases hp
   rw [if_pos hp,hne,← hk,hp]
   refine ⟨live_step hl (ne_K (by decide) hp) rfl hl.2.2,fun a m e => ?_⟩
   cases e
   exact live_tx hl
  ·rw [if_neg hp,← hk,Bool.eq_false_iff.2 hp,Bool.false_and,if_neg (by decide)]
   exact ⟨(bad_live hl 60 (by decide)).of rfl rfl,fun a m e => by cases e⟩
theorem nameOn_st (h : St T N g st) : St T N (g.name T N onB) (rest (thnS (fun l => (notOn l).go fun _ l0 => nameS l0) st)) ∧ ∀ a m,thnS (fun l => (notOn l).go fun _ l0 => nameS l0) st = .ok (a,m) → a = (nx T N g.I).t:=by
 unfold Sg.name
 cases st with
 | error p =>
  have hd : Dead g p:=h
  rw [bad_dead hd,ite_self]
  exact ⟨hd.of rfl rfl,fun a m e => by cases e⟩
 | ok l =>
  have hl : Live T N g l:=h
  show St T N _ (rest ((notOn l).go fun _ l0 => nameS l0)) ∧ ∀ a m,((notOn l).go fun _ l0 => nameS l0) = .ok (a,m) → _
  unfold notOn nameS
  have hk:=live_isK hl 1
  have hw:=live_isW hl onB
  by_cases hp : isK 1 l = true
  ·rw [hk] at hp
   by_cases hq : isW onB l = true
   ·rw [if_pos hq]
    rw [hw,hp,Bool.true_and] at hq
    rw [hp,hq,Bool.not_true,Bool.and_false,if_neg (by decide)]
    exact ⟨(bad_live hl 60 (by decide)).of rfl rfl,fun a m e => by cases e⟩
   ·rw [if_neg hq]
    have hq' : ((nx T N g.I).t == onB) = false:=by
     rw [hw,hp,Bool.true_and] at hq
     exact Bool.eq_false_iff.2 hq
    rw [hp,hq',Bool.not_false,Bool.and_true,if_pos rfl]
    simp only [go_ok]
    rw [hk,hp,if_pos rfl]
    refine ⟨live_step hl (ne_K (k:=1) (by decide) (by rw [hk];exact hp)) rfl hl.2.2,fun a m e => ?_⟩
    cases e
    exact live_tx hl
  ·have hq : isW onB l = false:=by
    rw [hw,← hk,Bool.eq_false_iff.2 hp,Bool.false_and]
   have hk0 : ((nx T N g.I).k == 1) = false:=by rw [← hk];exact Bool.eq_false_iff.2 hp
   rw [hk0,Bool.false_and,if_neg (by decide : ¬ (false = true)),hq,if_neg (by decide : ¬ (false = true))]
   simp only [go_ok]
   rw [if_neg hp]
   exact ⟨(bad_live hl 60 (by decide)).of rfl rfl,fun a m e => by cases e⟩
def openS (s : Bs) (d : Int) (l : List Tok) : Rs Unit:=if isP s l then (if 32 ≤ d then .error (atT l,61) else .ok ((),l.tail)) else .error (atT l,60)
theorem opens_st (h : St T N g st) {s : Bs} (hs : s ≠ []) (d : Int) {g' : Sg}
  (hg : g' = (if 32 ≤ d then (if ((nx T N g.I).k == 0 && (nx T N g.I).t == s) = true then g else g.bad T N 60).bad T N 61 else (if ((nx T N g.I).k == 0 && (nx T N g.I).t == s) = true then g else g.bad T N 60)))
  {g2 : Sg} (h1 : g2.I = g.I + 1) (h2 : g2.er = g'.er) (h3 : g2.at_ = g'.at_) : St T N g2 (rest (thnS (openS s d) st)):=by
 cases st with
 | error p =>
  have hd : Dead g p:=h
  rw [bad_dead hd,ite_self,bad_dead hd,ite_self] at hg
  subst hg
  exact hd.of h2 h3
 | ok l =>
  have hl : Live T N g l:=h
  show St T N g2 (rest (openS s d l))
  unfold openS
  rw [← live_isP hl s] at hg
  by_cases hp : isP s l = true
  ·rw [if_pos hp] at hg
   rw [if_pos hp]
   by_cases h32 : 32 ≤ d
   ·rw [if_pos h32] at hg ⊢
    subst hg
    exact (bad_live hl 61 (by decide)).of h2 h3
   ·rw [if_neg h32] at hg ⊢
    subst hg
    exact live_step hl (ne_P hs hp) h1 (h2.trans hl.2.2)
  ·rw [if_neg hp] at hg
   rw [if_neg hp]
   have hd:=bad_live hl 60 (by decide)
   rw [bad_dead hd,ite_self] at hg
   subst hg
   exact hd.of h2 h3
theorem st_er (h : St T N g st) : (g.er == 0) = (match st with | .ok _ => true | .error _ => false):=by
 cases st with
 | ok l => have : Live T N g l:=h;simp [this.2.2]
 | error p => have : Dead g p:=h;simp [this.1,this.2.1]
end
end
end Go.Proofs.YtgppemlciohjcaaGreatDoor
