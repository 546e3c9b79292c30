/- None or more, one or more, each behind a sign: for whatever reads one. -/
import Derived.Test.YtgmlbjfgfmfliaaGreatDoorA02
import Derived.Deep.RegionHeld3
import Derived.Deep.RegionLawGrows
import Derived.Deep.DrawnRows
import Derived.Deep.AppendLies
namespace Go.Proofs.YtgmlbjfgfmfliaaGreatDoor
open Go Go.RowKit
theorem Kp.cellAt {S : Nat → Prop} {w w' : World} (hk : Kp S w w') {g o : Nat} {v : Value} (h : w.cell? ⟨g,o,none⟩ = some v) (hS : ¬ S g) : w'.cell? ⟨g,o,none⟩ = some v:=by
 have e:=hk.block g (World.block_lt_of_cell? w _ h) hS
 rw [← h]
 simp only [World.cell?,e]
/-- Nothing that was there. -/
abbrev Non : Nat → Prop:=fun _ => False
theorem Kp.any {S : Nat → Prop} {w w' : World} (h : Kp Non w w') : Kp S w w':=h.mono (fun _ _ e => e.elim)
theorem Kp.bel {w w' : World} (h : Kp Non w w') : Below w.heap.size w w':=h.below (Nat.le_refl _) (fun _ _ e => e)
/-- The panic with this fault. -/
abbrev DiesY (p : Nat × Int) : Ending:=.panicked [{ v:=.iface 76 (.agg #[.int .i64 (p.1 : Int),.int .i64 p.2]),recovered:=false }]
/-- The tokens, and behind them the one that ends them. -/
structure Full (T : List Tok) : Prop where
 last : ∃ ts N,T = ts ++ [eofT N] ∧ ∀ t ∈ ts,¬ (t.k = 0 ∧ t.t = [])
 small : T.length ≤ 2049
theorem Full.more {T l : List Tok} {t : Tok} (h : Full T) (hs : (t :: l) <:+ T) (ht : ¬ (t.k = 0 ∧ t.t = [])) : l ≠ []:=by
 rintro rfl
 obtain ⟨ts,N,rfl,hts⟩:=h.last
 obtain ⟨p,hp⟩:=hs
 have e:=List.append_inj' hp (by simp)
 have : t = eofT N:=by simpa using e.2
 subst this
 exact ht ⟨rfl,rfl⟩
section
variable {R g cap : Nat} {T : List Tok}
/-- The reader R of the tokens T: what is left, whether values are fixed, how deep it is. -/
structure Sx (R g cap : Nat) (T : List Tok) (w : World) (l : List Tok) (fx : Bool) (a b c : Nat) : Prop where
 row : w.heap[R]? = some (.cells #[.slice (some ⟨g,0,none⟩) T.length cap,.int .i64 ((T.length - l.length : Nat) : Int),.bool fx,.int .i64 (a : Int),.int .i64 (b : Int),.int .i64 (c : Int)] 81 (0,0))
 tk : ∀ (i : Nat) t,T[i]? = some t → w.cell? ⟨g,i * 4,none⟩ = some (.int .i64 t.k) ∧ w.cell? ⟨g,i * 4 + 1,none⟩ = some (.string ⟨t.t.toArray⟩) ∧ w.cell? ⟨g,i * 4 + 2,none⟩ = some (.int .i64 (t.b : Int)) ∧ w.cell? ⟨g,i * 4 + 3,none⟩ = some (.int .i64 (t.e : Int))
 suf : l <:+ T
 gR : g ≠ R
 lt : g < w.heap.size
 full : Full T
 deep : a ≤ 32 ∧ b ≤ 32 ∧ c ≤ 32
variable {w w' : World} {l : List Tok} {fx : Bool} {a b c : Nat}
theorem Sx.c0 (h : Sx R g cap T w l fx a b c) : w.cell? ⟨R,0,none⟩ = some (.slice (some ⟨g,0,none⟩) T.length cap):=by simp [World.cell?,h.row]
theorem Sx.c1 (h : Sx R g cap T w l fx a b c) : w.cell? ⟨R,1,none⟩ = some (.int .i64 ((T.length - l.length : Nat) : Int)):=by simp [World.cell?,h.row]
theorem Sx.c2 (h : Sx R g cap T w l fx a b c) : w.cell? ⟨R,2,none⟩ = some (.bool fx):=by simp [World.cell?,h.row]
theorem Sx.c3 (h : Sx R g cap T w l fx a b c) : w.cell? ⟨R,3,none⟩ = some (.int .i64 (a : Int)):=by simp [World.cell?,h.row]
theorem Sx.c4 (h : Sx R g cap T w l fx a b c) : w.cell? ⟨R,4,none⟩ = some (.int .i64 (b : Int)):=by simp [World.cell?,h.row]
theorem Sx.c5 (h : Sx R g cap T w l fx a b c) : w.cell? ⟨R,5,none⟩ = some (.int .i64 (c : Int)):=by simp [World.cell?,h.row]
theorem Sx.free (h : Sx R g cap T w l fx a b c) (i : Nat) : w.frozen? ⟨R,i,none⟩ = false:=frozen_of_row w R i _ _ h.row
theorem Sx.ltR (h : Sx R g cap T w l fx a b c) : R < w.heap.size:=World.block_lt_of_cell? w _ h.c0
theorem Sx.kp {S : Nat → Prop} (h : Sx R g cap T w l fx a b c) (k : Kp S w w') (h1 : ¬ S R) (h2 : ¬ S g) : Sx R g cap T w' l fx a b c :=
 ⟨(k.block R h.ltR h1).trans h.row,fun i t hi => (by
  obtain ⟨q0,q1,q2,q3⟩:=h.tk i t hi
  exact ⟨k.cellAt q0 h2,k.cellAt q1 h2,k.cellAt q2 h2,k.cellAt q3 h2⟩),h.suf,h.gR,Nat.lt_of_lt_of_le h.lt k.size,h.full,h.deep⟩
theorem Sx.non (h : Sx R g cap T w l fx a b c) (k : Kp Non w w') : Sx R g cap T w' l fx a b c:=h.kp k (fun e => e) (fun e => e)
theorem Sx.alloc (h : Sx R g cap T w l fx a b c) (o : Obj) : Sx R g cap T (w.alloc o) l fx a b c:=h.non ((Kp.refl Non w).alloc o)
theorem Sx.drewN (h : Sx R g cap T w l fx a b c) (n : Nat) : Sx R g cap T (w.drewN n) l fx a b c:=h.non (Kp.n w n)
theorem Sx.drew (h : Sx R g cap T w l fx a b c) : Sx R g cap T w.drew l fx a b c:=h.non (Kp.refl Non w).drew
/-- A store into another block. -/
theorem Sx.set (h : Sx R g cap T w l fx a b c) (V i : Nat) (v : Value) (h1 : V ≠ R) (h2 : V ≠ g) : Sx R g cap T (w.setCell ⟨V,i,none⟩ v) l fx a b c :=
 h.kp (Kp.own V i v) (fun e => h1 e.symm) (fun e => h2 e.symm)
theorem Sx.put (h : Sx R g cap T w l fx a b c) (i : Nat) (v : Value) {m : List Tok} {fx' : Bool} {a' b' c' : Nat}
  (e : (#[.slice (some ⟨g,0,none⟩) T.length cap,.int .i64 ((T.length - l.length : Nat) : Int),.bool fx,.int .i64 (a : Int),.int .i64 (b : Int),.int .i64 (c : Int)] : Array Value).setIfInBounds i v = #[.slice (some ⟨g,0,none⟩) T.length cap,.int .i64 ((T.length - m.length : Nat) : Int),.bool fx',.int .i64 (a' : Int),.int .i64 (b' : Int),.int .i64 (c' : Int)]) (hm : m <:+ T) (hd : a' ≤ 32 ∧ b' ≤ 32 ∧ c' ≤ 32) :
  Sx R g cap T (w.setCell ⟨R,i,none⟩ v) m fx' a' b' c' :=
 ⟨e ▸ heap_setCell_same w R i _ _ _ h.row,fun j t hj => (by
  obtain ⟨q0,q1,q2,q3⟩:=h.tk j t hj
  have k : Kp (Own1 R) w (w.setCell ⟨R,i,none⟩ v):=Kp.own R i v
  exact ⟨k.cellAt q0 h.gR,k.cellAt q1 h.gR,k.cellAt q2 h.gR,k.cellAt q3 h.gR⟩),hm,h.gR,Nat.lt_of_lt_of_le h.lt (Kp.own R i v).size,h.full,hd⟩
theorem Sx.move (h : Sx R g cap T w l fx a b c) {m : List Tok} (hm : m <:+ l) (x : Int) (hx : x = ((T.length - m.length : Nat) : Int)) : Sx R g cap T (w.setCell ⟨R,1,none⟩ (.int .i64 x)) m fx a b c:=by
 subst hx;exact h.put 1 _ rfl (hm.trans h.suf) h.deep
theorem Sx.fix (h : Sx R g cap T w l fx a b c) (fx' : Bool) : Sx R g cap T (w.setCell ⟨R,2,none⟩ (.bool fx')) l fx' a b c:=h.put 2 _ rfl h.suf h.deep
theorem Sx.set3 (h : Sx R g cap T w l fx a b c) (x : Int) (a' : Nat) (hx : x = (a' : Int)) (ha : a' ≤ 32) : Sx R g cap T (w.setCell ⟨R,3,none⟩ (.int .i64 x)) l fx a' b c:=by
 subst hx;exact h.put 3 _ rfl h.suf ⟨ha,h.deep.2⟩
theorem Sx.set4 (h : Sx R g cap T w l fx a b c) (x : Int) (b' : Nat) (hx : x = (b' : Int)) (hb : b' ≤ 32) : Sx R g cap T (w.setCell ⟨R,4,none⟩ (.int .i64 x)) l fx a b' c:=by
 subst hx;exact h.put 4 _ rfl h.suf ⟨h.deep.1,hb,h.deep.2.2⟩
theorem Sx.set5 (h : Sx R g cap T w l fx a b c) (x : Int) (c' : Nat) (hx : x = (c' : Int)) (hc : c' ≤ 32) : Sx R g cap T (w.setCell ⟨R,5,none⟩ (.int .i64 x)) l fx a b c':=by
 subst hx;exact h.put 5 _ rfl h.suf ⟨h.deep.1,h.deep.2.1,hc⟩
theorem suf_cons_get {t : Tok} {r T : List Tok} (h : (t :: r) <:+ T) : T[T.length - (t :: r).length]? = some t:=by
 obtain ⟨p,rfl⟩:=h
 have e : (p ++ t :: r).length - (t :: r).length = p.length:=by simp
 rw [e];simp
theorem Sx.tail {t : Tok} {r : List Tok} (_h : Sx R g cap T w (t :: r) fx a b c) : r <:+ t :: r:=List.suffix_cons t r
theorem Sx.le (h : Sx R g cap T w l fx a b c) : l.length ≤ T.length:=h.suf.length_le
theorem cell_on {w w' : World} (hb : Below w.heap.size w w') {k i : Nat} {v : Value} (h : w.cell? ⟨k,i,none⟩ = some v) : w'.cell? ⟨k,i,none⟩ = some v:=(hb.cell (p:=⟨k,i,none⟩) (World.block_lt_of_cell? w _ h)).trans h
theorem al1 (w : World) (o : Obj) : Below w.heap.size w (w.alloc o):=(Below.refl _ _).alloc (Nat.le_refl _) _
/-- The two cells of a new block, later on. -/
theorem pair_at {S : Nat → Prop} {w w1 : World} {v0 v1 : Value} {E : TypeId} (hk : Kp S (w.alloc (.cells #[v0,v1] E)) w1) (hS : ¬ S w.heap.size:=by exact fun e => e) : w1.cell? ⟨w.heap.size,0,none⟩ = some v0 ∧ w1.cell? ⟨w.heap.size,1,none⟩ = some v1 ∧ ∀ j,w1.frozen? ⟨w.heap.size,j,none⟩ = false:=by
 have hb : w1.heap[w.heap.size]? = some (.cells #[v0,v1] E (0,0)):=(hk.block _ (by simp) hS).trans (heap_alloc_new _ _)
 exact ⟨by simp [World.cell?,hb],by simp [World.cell?,hb],fun j => frozen_of_row w1 _ j _ _ hb⟩
set_option maxHeartbeats 1000000 in
theorem ynext_any {t : Tok} {r : List Tok} (h : Sx R g cap T w (t :: r) fx a b c) : Calls Tryz.prog 147 #[.pointer (some ⟨R,0,none⟩)] w fun e w' => e = .returned (.agg #[.int .i64 t.k,.string ⟨t.t.toArray⟩,.int .i64 (t.b : Int),.int .i64 (t.e : Int)]) ∧ Kp Non w w':=by
 have c0:=h.c0
 have c1:=h.c1
 obtain ⟨q0,q1,q2,q3⟩:=h.tk _ t (suf_cons_get h.suf)
 have hle:=h.le
 have hlt : ((T.length - (t :: r).length : Nat) : Int) < (T.length : Int):=by simp only [List.length_cons] at hle ⊢;omega
 have hA0 : (0 : Int) ≤ ((T.length - (t :: r).length : Nat) : Int):=by omega
 have K1 : ∀ o v0 v1 v2 v3,Kp Non w (((((w.alloc o).setCell ⟨w.heap.size,0,none⟩ v0).setCell ⟨w.heap.size,1,none⟩ v1).setCell ⟨w.heap.size,2,none⟩ v2).setCell ⟨w.heap.size,3,none⟩ v3):=fun o v0 v1 v2 v3 =>
  (((((Kp.refl Non w).alloc o).set _ _ v0 (Or.inl (Nat.le_refl _))).set _ _ v1 (Or.inl (Nat.le_refl _))).set _ _ v2 (Or.inl (Nat.le_refl _))).set _ _ v3 (Or.inl (Nat.le_refl _))
 have hgl:=h.lt
 have hRl:=h.ltR
 have d0:=fun o => cell_on (al1 w o) c0
 have d1:=fun o => cell_on (al1 w o) c1
 have p0:=fun o => cell_on (al1 w o) q0
 have p1:=fun o => cell_on (al1 w o) q1
 have p2:=fun o => cell_on (al1 w o) q2
 have p3:=fun o => cell_on (al1 w o) q3
 clear h
 generalize T.length - (t :: r).length = A at *
 have hA : ((A : Nat) : Int).toNat = A:=by omega
 go_enter Tryz.func147,Tryz.ntmps147
 go_wp2
 go_region_held3 (fun w' => w'.cell? ⟨R,0,none⟩ = some (.slice (some ⟨g,0,none⟩) T.length cap) ∧ w'.cell? ⟨R,1,none⟩ = some (.int .i64 (A : Int)) ∧ w'.cell? ⟨g,A * 4,none⟩ = some (.int .i64 t.k) ∧ w'.cell? ⟨g,A * 4 + 1,none⟩ = some (.string ⟨t.t.toArray⟩) ∧ w'.cell? ⟨g,A * 4 + 2,none⟩ = some (.int .i64 (t.b : Int)) ∧ w'.cell? ⟨g,A * 4 + 3,none⟩ = some (.int .i64 (t.e : Int))) (go_keep) (fail)
 go_wp2
 refine bodyPost_ret (v:=.agg #[.int .i64 t.k,.string ⟨t.t.toArray⟩,.int .i64 (t.b : Int),.int .i64 (t.e : Int)]) (by simp [results,Tryz.results147,go_sem]) rfl ⟨rfl,?_⟩
 exact ((Kp.refl Non w).alloc _).drew
theorem fld0 (t : Tok) (w : World) : (Instr.field 78 (.agg #[.int .i64 t.k,.string ⟨t.t.toArray⟩,.int .i64 (t.b : Int),.int .i64 (t.e : Int)]) 0).run Tryz.prog w = .ok (.int .i64 t.k) w:=by kernel_rfl
theorem fld1 (t : Tok) (w : World) : (Instr.field 78 (.agg #[.int .i64 t.k,.string ⟨t.t.toArray⟩,.int .i64 (t.b : Int),.int .i64 (t.e : Int)]) 1).run Tryz.prog w = .ok (.string ⟨t.t.toArray⟩) w:=by kernel_rfl
theorem fld2 (t : Tok) (w : World) : (Instr.field 78 (.agg #[.int .i64 t.k,.string ⟨t.t.toArray⟩,.int .i64 (t.b : Int),.int .i64 (t.e : Int)]) 2).run Tryz.prog w = .ok (.int .i64 (t.b : Int)) w:=by kernel_rfl
theorem fault_any {t : Tok} {r : List Tok} (x : Int) (h : Sx R g cap T w (t :: r) fx a b c) : Calls Tryz.prog 148 #[.pointer (some ⟨R,0,none⟩),.int .i64 x] w fun e w' => e = .returned (.agg #[.int .i64 (t.b : Int),.int .i64 x]) ∧ Kp Non w w':=by
 have F:=fld2 t
 go_enter Tryz.func148,Tryz.ntmps148
 go_wp2_with (go_at_call 147;refine (ynext_any (h.alloc _)).mono ?_;rintro e w1 ⟨rfl,k1⟩;obtain ⟨c0,c1,cf⟩:=pair_at k1)
 refine bodyPost_ret (v:=.agg #[.int .i64 (t.b : Int),.int .i64 x]) (by simp [results,Tryz.results148,go_sem,c0,c1]) rfl ⟨rfl,?_⟩
 exact ((((Kp.refl Non w).alloc _).trans k1).set _ _ _ (Or.inl (Nat.le_refl _))).set _ _ _ (Or.inl (Nat.le_refl _))
theorem seesKind_any {t : Tok} {r : List Tok} (x : Int) (h : Sx R g cap T w (t :: r) fx a b c) : Calls Tryz.prog 110 #[.pointer (some ⟨R,0,none⟩),.int .i64 x] w fun e w' => e = .returned (.bool (t.k == x)) ∧ Kp Non w w':=by
 have F:=fld0 t
 go_enter Tryz.func110,Tryz.ntmps110
 go_wp2_with (go_at_call 147;refine (ynext_any h).mono ?_;rintro e w1 ⟨rfl,k1⟩)
 go_ret
 exact ⟨rfl,k1⟩
theorem bytes_eq (x y : Bs) : ((ByteArray.mk x.toArray).toList == (ByteArray.mk y.toArray).toList) = (x == y):=by simp [ByteArray.toList_eq]
theorem sees_eq {t : Tok} {r : List Tok} (s : Bs) (h : Sx R g cap T w (t :: r) fx a b c) : Calls Tryz.prog 108 #[.pointer (some ⟨R,0,none⟩),.string ⟨s.toArray⟩] w fun e w' => e = .returned (.bool (t.k == 0 && t.t == s)) ∧ Kp Non w w':=by
 have X:=seesKind_any 0 h
 by_cases hk : (t.k == 0) = true
 ·rw [hk] at X ⊢
  rw [Bool.true_and]
  clear hk
  have F:=fld1 t
  go_enter Tryz.func108,Tryz.ntmps108
  go_wp2_with (first
   | (go_at_call 147;refine (ynext_any (h.non k1)).mono ?_;rintro e w2 ⟨rfl,k2⟩)
   | (go_at_call 110;refine X.mono ?_;rintro e w1 ⟨rfl,k1⟩))
  go_ret
  exact ⟨rfl,k1.trans k2⟩
 ·have hk' : (t.k == 0) = false:=Bool.eq_false_iff.2 hk
  rw [hk'] at X ⊢
  clear hk hk'
  go_enter Tryz.func108,Tryz.ntmps108
  go_wp2_with (go_at_call 110;refine X.mono ?_;rintro e w1 ⟨rfl,k1⟩)
  go_ret
  exact ⟨rfl,k1⟩
theorem seesWord_eq {t : Tok} {r : List Tok} (s : Bs) (h : Sx R g cap T w (t :: r) fx a b c) : Calls Tryz.prog 103 #[.pointer (some ⟨R,0,none⟩),.string ⟨s.toArray⟩] w fun e w' => e = .returned (.bool (t.k == 1 && t.t == s)) ∧ Kp Non w w':=by
 have X:=seesKind_any 1 h
 by_cases hk : (t.k == 1) = true
 ·rw [hk] at X ⊢
  rw [Bool.true_and]
  clear hk
  have F:=fld1 t
  go_enter Tryz.func103,Tryz.ntmps103
  go_wp2_with (first
   | (go_at_call 147;refine (ynext_any (h.non k1)).mono ?_;rintro e w2 ⟨rfl,k2⟩)
   | (go_at_call 110;refine X.mono ?_;rintro e w1 ⟨rfl,k1⟩))
  go_ret
  exact ⟨rfl,k1.trans k2⟩
 ·have hk' : (t.k == 1) = false:=Bool.eq_false_iff.2 hk
  rw [hk'] at X ⊢
  clear hk hk'
  go_enter Tryz.func103,Tryz.ntmps103
  go_wp2_with (go_at_call 110;refine X.mono ?_;rintro e w1 ⟨rfl,k1⟩)
  go_ret
  exact ⟨rfl,k1⟩
set_option maxHeartbeats 1000000 in
theorem read_any {t : Tok} {r : List Tok} (h : Sx R g cap T w (t :: r) fx a b c) : Calls Tryz.prog 149 #[.pointer (some ⟨R,0,none⟩)] w fun e w' => e = .returned (.string ⟨t.t.toArray⟩) ∧ Sx R g cap T w' r fx a b c ∧ Kp (Own1 R) w w':=by
 have c0:=h.c0
 have c1:=h.c1
 have hf:=h.free 1
 obtain ⟨q0,q1,q2,q3⟩:=h.tk _ t (suf_cons_get h.suf)
 have hle:=h.le
 have hsm:=h.full.small
 have hlt : ((T.length - (t :: r).length : Nat) : Int) < (T.length : Int):=by simp only [List.length_cons] at hle ⊢;omega
 have hA0 : (0 : Int) ≤ ((T.length - (t :: r).length : Nat) : Int):=by omega
 have hA2 : ((T.length - (t :: r).length : Nat) : Int) ≤ 2049:=by omega
 have hgR:=h.gR
 have hRg : ¬ R = g:=fun e => hgR e.symm
 have HM : Hid (Sx R g cap T (w.setCell ⟨R,1,none⟩ (.int .i64 (((T.length - (t :: r).length : Nat) : Int) + 1))) r fx a b c):=h.move h.tail _ (by simp only [List.length_cons] at hle ⊢;omega)
 clear h hle hsm
 generalize T.length - (t :: r).length = A at *
 have hA : ((A : Nat) : Int).toNat = A:=by omega
 have e1 : (A : Int) + 1 - 1 = A:=by omega
 go_enter Tryz.func149,Tryz.ntmps149
 go_wp2
 go_quiet (fail)
 go_wp2
 go_ret
 exact ⟨rfl,HM.out.drewN _,by first | exact (Kp.own R 1 _).drewN _ | exact (Kp.n w _).trans (Kp.own R 1 _)⟩
theorem take_eq {t : Tok} {r : List Tok} (s : Bs) (h : Sx R g cap T w (t :: r) fx a b c) : Calls Tryz.prog 146 #[.pointer (some ⟨R,0,none⟩),.string ⟨s.toArray⟩] w fun e w' => e = .returned (.bool (t.k == 0 && t.t == s)) ∧ Sx R g cap T w' (if (t.k == 0 && t.t == s) then r else t :: r) fx a b c ∧ Kp (Own1 R) w w':=by
 have X:=sees_eq s h
 have hle:=h.le
 have hsm:=h.full.small
 by_cases hk : (t.k == 0 && t.t == s) = true
 ·rw [hk] at X ⊢
  rw [if_pos rfl]
  clear hk
  go_enter Tryz.func146,Tryz.ntmps146
  go_wp2_with (go_at_call 108;refine X.mono ?_;rintro e w1 ⟨rfl,k1⟩;have h1:=h.non k1;have c1:=h1.c1;have hf:=h1.free 1;have hA : ((T.length - (t :: r).length : Nat) : Int) ≤ 2049:=(by omega);have hA0 : (0 : Int) ≤ ((T.length - (t :: r).length : Nat) : Int):=(by omega);have HM : Hid (Sx R g cap T (w1.setCell ⟨R,1,none⟩ (.int .i64 (((T.length - (t :: r).length : Nat) : Int) + 1))) r fx a b c):=h1.move h1.tail _ (by simp only [List.length_cons] at hle ⊢;omega);clear h1;generalize T.length - (t :: r).length = A at *)
  go_ret
  exact ⟨rfl,HM.out,k1.any.trans (Kp.own R 1 _)⟩
 ·have hk' : (t.k == 0 && t.t == s) = false:=Bool.eq_false_iff.2 hk
  rw [hk'] at X ⊢
  rw [if_neg (by simp)]
  clear hk hk'
  go_enter Tryz.func146,Tryz.ntmps146
  go_wp2_with (go_at_call 108;refine X.mono ?_;rintro e w1 ⟨rfl,k1⟩)
  go_ret
  exact ⟨rfl,h.non k1,k1.any⟩
theorem takeWord_eq {t : Tok} {r : List Tok} (s : Bs) (h : Sx R g cap T w (t :: r) fx a b c) : Calls Tryz.prog 66 #[.pointer (some ⟨R,0,none⟩),.string ⟨s.toArray⟩] w fun e w' => e = .returned (.bool (t.k == 1 && t.t == s)) ∧ Sx R g cap T w' (if (t.k == 1 && t.t == s) then r else t :: r) fx a b c ∧ Kp (Own1 R) w w':=by
 have X:=seesWord_eq s h
 have hle:=h.le
 have hsm:=h.full.small
 by_cases hk : (t.k == 1 && t.t == s) = true
 ·rw [hk] at X ⊢
  rw [if_pos rfl]
  clear hk
  go_enter Tryz.func66,Tryz.ntmps66
  go_wp2_with (go_at_call 103;refine X.mono ?_;rintro e w1 ⟨rfl,k1⟩;have h1:=h.non k1;have c1:=h1.c1;have hf:=h1.free 1;have hA : ((T.length - (t :: r).length : Nat) : Int) ≤ 2049:=(by omega);have hA0 : (0 : Int) ≤ ((T.length - (t :: r).length : Nat) : Int):=(by omega);have HM : Hid (Sx R g cap T (w1.setCell ⟨R,1,none⟩ (.int .i64 (((T.length - (t :: r).length : Nat) : Int) + 1))) r fx a b c):=h1.move h1.tail _ (by simp only [List.length_cons] at hle ⊢;omega);clear h1;generalize T.length - (t :: r).length = A at *)
  go_ret
  exact ⟨rfl,HM.out,k1.any.trans (Kp.own R 1 _)⟩
 ·have hk' : (t.k == 1 && t.t == s) = false:=Bool.eq_false_iff.2 hk
  rw [hk'] at X ⊢
  rw [if_neg (by simp)]
  clear hk hk'
  go_enter Tryz.func66,Tryz.ntmps66
  go_wp2_with (go_at_call 103;refine X.mono ?_;rintro e w1 ⟨rfl,k1⟩)
  go_ret
  exact ⟨rfl,h.non k1,k1.any⟩
theorem yneed_yes (w : World) : Calls Tryz.prog 104 #[.pointer (some ⟨R,0,none⟩),.bool true] w fun e w' => e = .returned (.tuple #[]) ∧ w = w':=by
 go_enter Tryz.func104,Tryz.ntmps104
 go_wp2
 go_end0
 exact ⟨rfl,rfl⟩
theorem yneed_no {t : Tok} {r : List Tok} (h : Sx R g cap T w (t :: r) fx a b c) : Calls Tryz.prog 104 #[.pointer (some ⟨R,0,none⟩),.bool false] w fun e w' => e = DiesY (t.b,60) ∧ Kp Non w w':=by
 go_enter Tryz.func104,Tryz.ntmps104
 go_wp2_with (go_at_call 148;refine (fault_any _ h).mono ?_;rintro e w1 ⟨rfl,k1⟩)
 exact ⟨rfl,rfl,k1⟩
end
end Go.Proofs.YtgmlbjfgfmfliaaGreatDoor
namespace Go.Proofs.YtgmlbjfgfmfliaaGreatDoor
open Go Go.RowKit
section
variable {R g cap : Nat} {T : List Tok} {w w' : World} {l : List Tok} {fx : Bool} {a b c : Nat}
/-- What a step of the reader comes to: it gives up, or it reads something and tells it. -/
def Out {α : Type} (R g cap : Nat) (T : List Tok) (w : World) (fx : Bool) (a b c : Nat) (r : Rs α) (V : α → Value → World → Prop) (e : Ending) (w' : World) : Prop :=
 (∃ p,r = .error p ∧ e = DiesY p ∧ Kp (Own1 R) w w') ∨ (∃ x m v,r = .ok (x,m) ∧ e = .returned v ∧ V x v w' ∧ Sx R g cap T w' m fx a b c ∧ m ≠ [] ∧ Kp (Own1 R) w w')
theorem isP_cons (s : Bs) (t : Tok) (r : List Tok) : isP s (t :: r) = (t.k == 0 && t.t == s):=rfl
theorem tok_of_isP {s : Bs} {t : Tok} {r : List Tok} (h : isP s (t :: r) = true) : t.k = 0 ∧ t.t = s:=by simpa [isP] using h
theorem Sx.next (h : Sx R g cap T w l fx a b c) {s : Bs} (hs : s ≠ []) (hp : isP s l = true) : l.tail ≠ []:=by
 cases l with
 | nil => cases hp
 | cons t r =>
  obtain ⟨h1,h2⟩:=tok_of_isP hp
  exact h.full.more h.suf (fun e => hs (h2.symm.trans e.2))
theorem Sx.nextK (h : Sx R g cap T w l fx a b c) {k : Int} (hk : k ≠ 0) (hp : isK k l = true) : l.tail ≠ []:=by
 cases l with
 | nil => cases hp
 | cons t r => exact h.full.more h.suf (fun e => hk (by have : t.k = k:=(by simpa [isK] using hp);omega))
theorem Sx.nextW (h : Sx R g cap T w l fx a b c) {s : Bs} (hp : isW s l = true) : l.tail ≠ []:=by
 cases l with
 | nil => cases hp
 | cons t r => exact h.full.more h.suf (fun e => by have : t.k = 1 ∧ t.t = s:=(by simpa [isW] using hp);omega)
theorem see_any (s : Bs) (h : Sx R g cap T w l fx a b c) (hl : l ≠ []) : Calls Tryz.prog 108 #[.pointer (some ⟨R,0,none⟩),.string ⟨s.toArray⟩] w fun e w' => e = .returned (.bool (isP s l)) ∧ Kp Non w w':=by
 cases l with
 | nil => exact absurd rfl hl
 | cons t r => exact sees_eq s h
theorem seeW_any (s : Bs) (h : Sx R g cap T w l fx a b c) (hl : l ≠ []) : Calls Tryz.prog 103 #[.pointer (some ⟨R,0,none⟩),.string ⟨s.toArray⟩] w fun e w' => e = .returned (.bool (isW s l)) ∧ Kp Non w w':=by
 cases l with
 | nil => exact absurd rfl hl
 | cons t r => exact seesWord_eq s h
theorem seeK_any (k : Int) (h : Sx R g cap T w l fx a b c) (hl : l ≠ []) : Calls Tryz.prog 110 #[.pointer (some ⟨R,0,none⟩),.int .i64 k] w fun e w' => e = .returned (.bool (isK k l)) ∧ Kp Non w w':=by
 cases l with
 | nil => exact absurd rfl hl
 | cons t r => exact seesKind_any k h
/-- That punctuator is gone over if it is next. -/
theorem ytake_any (s : Bs) (h : Sx R g cap T w l fx a b c) (hl : l ≠ []) : Calls Tryz.prog 146 #[.pointer (some ⟨R,0,none⟩),.string ⟨s.toArray⟩] w fun e w' =>
  (isP s l = true ∧ e = .returned (.bool true) ∧ Sx R g cap T w' l.tail fx a b c ∧ Kp (Own1 R) w w') ∨ (isP s l = false ∧ e = .returned (.bool false) ∧ Sx R g cap T w' l fx a b c ∧ Kp (Own1 R) w w'):=by
 cases l with
 | nil => exact absurd rfl hl
 | cons t r =>
  refine (take_eq s h).mono ?_
  rintro e w' ⟨rfl,h1,k1⟩
  rw [isP_cons]
  cases hb : (t.k == 0 && t.t == s) with
  | true => rw [hb] at h1;exact Or.inl ⟨rfl,rfl,h1,k1⟩
  | false => rw [hb] at h1;exact Or.inr ⟨rfl,rfl,h1,k1⟩
theorem ytakeW_any (s : Bs) (h : Sx R g cap T w l fx a b c) (hl : l ≠ []) : Calls Tryz.prog 66 #[.pointer (some ⟨R,0,none⟩),.string ⟨s.toArray⟩] w fun e w' =>
  (isW s l = true ∧ e = .returned (.bool true) ∧ Sx R g cap T w' l.tail fx a b c ∧ Kp (Own1 R) w w') ∨ (isW s l = false ∧ e = .returned (.bool false) ∧ Sx R g cap T w' l fx a b c ∧ Kp (Own1 R) w w'):=by
 cases l with
 | nil => exact absurd rfl hl
 | cons t r =>
  refine (takeWord_eq s h).mono ?_
  rintro e w' ⟨rfl,h1,k1⟩
  rw [show isW s (t :: r) = (t.k == 1 && t.t == s) from rfl]
  cases hb : (t.k == 1 && t.t == s) with
  | true => rw [hb] at h1;exact Or.inl ⟨rfl,rfl,h1,k1⟩
  | false => rw [hb] at h1;exact Or.inr ⟨rfl,rfl,h1,k1⟩
theorem yread_any (h : Sx R g cap T w l fx a b c) (hl : l ≠ []) : Calls Tryz.prog 149 #[.pointer (some ⟨R,0,none⟩)] w fun e w' => e = .returned (.string ⟨(txT l).toArray⟩) ∧ Sx R g cap T w' l.tail fx a b c ∧ Kp (Own1 R) w w':=by
 cases l with
 | nil => exact absurd rfl hl
 | cons t r => exact read_any h
theorem need_dies (h : Sx R g cap T w l fx a b c) (hl : l ≠ []) : Calls Tryz.prog 104 #[.pointer (some ⟨R,0,none⟩),.bool false] w fun e w' => e = DiesY (atT l,60) ∧ Kp Non w w':=by
 cases l with
 | nil => exact absurd rfl hl
 | cons t r => exact yneed_no h
theorem yfault_any (x : Int) (h : Sx R g cap T w l fx a b c) (hl : l ≠ []) : Calls Tryz.prog 148 #[.pointer (some ⟨R,0,none⟩),.int .i64 x] w fun e w' => e = .returned (.agg #[.int .i64 (atT l : Int),.int .i64 x]) ∧ Kp Non w w':=by
 cases l with
 | nil => exact absurd rfl hl
 | cons t r => exact fault_any x h
/-- What a name's reading tells. -/
abbrev StrV : Bs → Value → World → Prop:=fun t v _ => v = .string ⟨t.toArray⟩
theorem name_any (h : Sx R g cap T w l fx a b c) (hl : l ≠ []) : Calls Tryz.prog 105 #[.pointer (some ⟨R,0,none⟩)] w (Out R g cap T w fx a b c (nameS l) StrV):=by
 have X:=seeK_any 1 h hl
 by_cases hk : isK 1 l = true
 ·rw [hk] at X
  have hne:=h.nextK (by decide) hk
  have HE : Hid (nameS l = .ok (txT l,l.tail)):=if_pos hk
  clear hk
  go_enter Tryz.func105,Tryz.ntmps105
  go_wp2_with (first
   | (go_at_call 149;refine (yread_any (h.non k1) hl).mono ?_;rintro e w3 ⟨rfl,h3,k3⟩)
   | (go_at_call 104;refine (yneed_yes _).mono ?_;rintro e w2 ⟨rfl,rfl⟩)
   | (go_at_call 110;refine X.mono ?_;rintro e w1 ⟨rfl,k1⟩))
  go_ret
  exact Or.inr ⟨_,_,_,HE.out,rfl,rfl,h3,hne,k1.any.trans k3⟩
 ·have hk' : isK 1 l = false:=Bool.eq_false_iff.2 hk
  rw [hk'] at X
  have HE : Hid (nameS l = .error (atT l,60)):=if_neg hk
  clear hk hk'
  go_enter Tryz.func105,Tryz.ntmps105
  go_wp2_with (first
   | (go_at_call 104;refine (need_dies (h.non k1) hl).mono ?_;rintro e w2 ⟨rfl,k2⟩)
   | (go_at_call 110;refine X.mono ?_;rintro e w1 ⟨rfl,k1⟩))
  exact ⟨rfl,Or.inl ⟨_,HE.out,rfl,k1.any.trans k2.any⟩⟩
/-- What a sign that must be next comes to: a call of take, then of need. -/
theorem variable_any (h : Sx R g cap T w l fx a b c) (hl : l ≠ []) : Calls Tryz.prog 190 #[.pointer (some ⟨R,0,none⟩)] w (Out R g cap T w fx a b c (varS l) StrV):=by
 have X:=ytake_any [36] h hl
 have N:=fun w1 (h1 : Sx R g cap T w1 l.tail fx a b c) (hp : isP [36] l = true) => name_any h1 (h.next (by simp) hp)
 go_enter Tryz.func190,Tryz.ntmps190
 go_wp2_with (first
  | (go_at_call 105;refine (N _ h1 hp).mono ?_;rintro e w3 (⟨p,hq,rfl,k3⟩ | ⟨x,m,v,hq,rfl,rfl,h3,n3,k3⟩))
  | (go_at_call 104;first | ((with_reducible refine (yneed_yes _).mono ?_);rintro e w2 ⟨rfl,rfl⟩) | ((with_reducible refine (need_dies h1 hl).mono ?_);rintro e w2 ⟨rfl,k2⟩))
  | (go_at_call 146;refine X.mono ?_;rintro e w1 (⟨hp,rfl,h1,k1⟩ | ⟨hp,rfl,h1,k1⟩)))
 ·exact ⟨rfl,Or.inl ⟨p,by simp only [varS,mustS,hp,if_true,go_ok,hq],rfl,k1.trans k3⟩⟩
 ·go_ret
  exact Or.inr ⟨_,_,_,by simp only [varS,mustS,hp,if_true,go_ok,hq],rfl,rfl,h3,n3,k1.trans k3⟩
 ·exact ⟨rfl,Or.inl ⟨(atT l,60),by simp only [varS,mustS,hp,Bool.false_eq_true,if_false,go_error],rfl,k1.trans k2.any⟩⟩
set_option maxHeartbeats 2000000 in
/-- One more is open, of kind 0. -/
theorem open0_any (s : Bs) (hs : s ≠ []) (h : Sx R g cap T w l fx a b c) (hl : l ≠ []) (hp : isP s l = true) (hd : a < 32) : Calls Tryz.prog 153 #[.pointer (some ⟨R,0,none⟩),.int .i64 0,.string ⟨s.toArray⟩] w fun e w' => e = .returned (.tuple #[]) ∧ Sx R g cap T w' l.tail fx (a + 1) b c ∧ l.tail ≠ [] ∧ Kp (Own1 R) w w':=by
 have X:=see_any s h hl
 rw [hp] at X
 have hne:=h.next hs hp
 have hle:=h.le
 have hpos:=isP_pos hp
 have hsm:=h.full.small
 have hdI : ((a : Nat) : Int) < 32:=by omega
 have hd0 : (0 : Int) ≤ ((a : Nat) : Int):=by omega
 have hd32 : (((a : Nat) : Int) == 32) = false:=by rw [beq_eq_false_iff_ne];omega
 have hA2 : ((T.length - l.length : Nat) : Int) ≤ 2049:=by omega
 have hA0 : (0 : Int) ≤ ((T.length - l.length : Nat) : Int):=by omega
 have HM : ∀ w1,Kp Non w w1 → Hid (Sx R g cap T ((w1.setCell ⟨R,3,none⟩ (.int .i64 (((a : Nat) : Int) + 1))).setCell ⟨R,1,none⟩ (.int .i64 (((T.length - l.length : Nat) : Int) + 1))) l.tail fx (a + 1) b c):=fun w1 k =>
  ((h.non k).set3 _ (a + 1) (by omega) (by omega)).move (List.tail_suffix l) _ (by rw [List.length_tail];omega)
 go_enter Tryz.func153,Tryz.ntmps153
 go_wp2_with (first
  | (go_at_call 104;refine (yneed_yes _).mono ?_;rintro e w2 ⟨rfl,rfl⟩)
  | (go_at_call 108;refine X.mono ?_;rintro e w1 ⟨rfl,k1⟩;have cF:=(h.non k1).c3;have c1:=(h.non k1).c1;have fF:=(h.non k1).free 3;have f1:=(h.non k1).free 1;have HM1:=HM w1 k1;clear HM;generalize T.length - l.length = A at *))
 go_region
 all_goals go_wp2
 all_goals go_end0
 all_goals exact ⟨rfl,by first | exact HM1.out | exact HM1.out.drew | exact HM1.out.drewN 1,hne,by first | exact (k1.any.trans ((Kp.own R 3 _).trans (Kp.own R 1 _))).drew | exact (k1.any.trans ((Kp.own R 3 _).trans (Kp.own R 1 _))).drewN _⟩
theorem open0_shut (s : Bs) (h : Sx R g cap T w l fx a b c) (hl : l ≠ []) (hp : isP s l = false) : Calls Tryz.prog 153 #[.pointer (some ⟨R,0,none⟩),.int .i64 0,.string ⟨s.toArray⟩] w fun e w' => e = DiesY (atT l,60) ∧ Kp (Own1 R) w w':=by
 have X:=see_any s h hl
 rw [hp] at X
 go_enter Tryz.func153,Tryz.ntmps153
 go_wp2_with (first
  | (go_at_call 104;refine (need_dies (h.non k1) hl).mono ?_;rintro e w2 ⟨rfl,k2⟩)
  | (go_at_call 108;refine X.mono ?_;rintro e w1 ⟨rfl,k1⟩))
 exact ⟨rfl,rfl,k1.any.trans k2.any⟩
theorem open0_deep (s : Bs) (h : Sx R g cap T w l fx 32 b c) (hl : l ≠ []) (hp : isP s l = true) : Calls Tryz.prog 153 #[.pointer (some ⟨R,0,none⟩),.int .i64 0,.string ⟨s.toArray⟩] w fun e w' => e = DiesY (atT l,61) ∧ Kp (Own1 R) w w':=by
 have X:=see_any s h hl
 rw [hp] at X
 go_enter Tryz.func153,Tryz.ntmps153
 go_wp2_with (first
  | (go_at_call 148;refine (yfault_any _ (h.non k1) hl).mono ?_;rintro e w3 ⟨rfl,k3⟩)
  | (go_at_call 104;refine (yneed_yes _).mono ?_;rintro e w2 ⟨rfl,rfl⟩)
  | (go_at_call 108;refine X.mono ?_;rintro e w1 ⟨rfl,k1⟩;have cF:=(h.non k1).c3))
 exact ⟨rfl,rfl,k1.any.trans k3.any⟩
set_option maxHeartbeats 2000000 in
/-- One more is open, of kind 1. -/
theorem open1_any (s : Bs) (hs : s ≠ []) (h : Sx R g cap T w l fx a b c) (hl : l ≠ []) (hp : isP s l = true) (hd : b < 32) : Calls Tryz.prog 153 #[.pointer (some ⟨R,0,none⟩),.int .i64 1,.string ⟨s.toArray⟩] w fun e w' => e = .returned (.tuple #[]) ∧ Sx R g cap T w' l.tail fx a (b + 1) c ∧ l.tail ≠ [] ∧ Kp (Own1 R) w w':=by
 have X:=see_any s h hl
 rw [hp] at X
 have hne:=h.next hs hp
 have hle:=h.le
 have hpos:=isP_pos hp
 have hsm:=h.full.small
 have hdI : ((b : Nat) : Int) < 32:=by omega
 have hd0 : (0 : Int) ≤ ((b : Nat) : Int):=by omega
 have hd32 : (((b : Nat) : Int) == 32) = false:=by rw [beq_eq_false_iff_ne];omega
 have hA2 : ((T.length - l.length : Nat) : Int) ≤ 2049:=by omega
 have hA0 : (0 : Int) ≤ ((T.length - l.length : Nat) : Int):=by omega
 have HM : ∀ w1,Kp Non w w1 → Hid (Sx R g cap T ((w1.setCell ⟨R,4,none⟩ (.int .i64 (((b : Nat) : Int) + 1))).setCell ⟨R,1,none⟩ (.int .i64 (((T.length - l.length : Nat) : Int) + 1))) l.tail fx a (b + 1) c):=fun w1 k =>
  ((h.non k).set4 _ (b + 1) (by omega) (by omega)).move (List.tail_suffix l) _ (by rw [List.length_tail];omega)
 go_enter Tryz.func153,Tryz.ntmps153
 go_wp2_with (first
  | (go_at_call 104;refine (yneed_yes _).mono ?_;rintro e w2 ⟨rfl,rfl⟩)
  | (go_at_call 108;refine X.mono ?_;rintro e w1 ⟨rfl,k1⟩;have cF:=(h.non k1).c4;have c1:=(h.non k1).c1;have fF:=(h.non k1).free 4;have f1:=(h.non k1).free 1;have HM1:=HM w1 k1;clear HM;generalize T.length - l.length = A at *))
 go_region
 all_goals go_wp2
 all_goals go_end0
 all_goals exact ⟨rfl,by first | exact HM1.out | exact HM1.out.drew | exact HM1.out.drewN 1,hne,by first | exact (k1.any.trans ((Kp.own R 4 _).trans (Kp.own R 1 _))).drew | exact (k1.any.trans ((Kp.own R 4 _).trans (Kp.own R 1 _))).drewN _⟩
theorem open1_shut (s : Bs) (h : Sx R g cap T w l fx a b c) (hl : l ≠ []) (hp : isP s l = false) : Calls Tryz.prog 153 #[.pointer (some ⟨R,0,none⟩),.int .i64 1,.string ⟨s.toArray⟩] w fun e w' => e = DiesY (atT l,60) ∧ Kp (Own1 R) w w':=by
 have X:=see_any s h hl
 rw [hp] at X
 go_enter Tryz.func153,Tryz.ntmps153
 go_wp2_with (first
  | (go_at_call 104;refine (need_dies (h.non k1) hl).mono ?_;rintro e w2 ⟨rfl,k2⟩)
  | (go_at_call 108;refine X.mono ?_;rintro e w1 ⟨rfl,k1⟩))
 exact ⟨rfl,rfl,k1.any.trans k2.any⟩
theorem open1_deep (s : Bs) (h : Sx R g cap T w l fx a 32 c) (hl : l ≠ []) (hp : isP s l = true) : Calls Tryz.prog 153 #[.pointer (some ⟨R,0,none⟩),.int .i64 1,.string ⟨s.toArray⟩] w fun e w' => e = DiesY (atT l,61) ∧ Kp (Own1 R) w w':=by
 have X:=see_any s h hl
 rw [hp] at X
 go_enter Tryz.func153,Tryz.ntmps153
 go_wp2_with (first
  | (go_at_call 148;refine (yfault_any _ (h.non k1) hl).mono ?_;rintro e w3 ⟨rfl,k3⟩)
  | (go_at_call 104;refine (yneed_yes _).mono ?_;rintro e w2 ⟨rfl,rfl⟩)
  | (go_at_call 108;refine X.mono ?_;rintro e w1 ⟨rfl,k1⟩;have cF:=(h.non k1).c4))
 exact ⟨rfl,rfl,k1.any.trans k3.any⟩
set_option maxHeartbeats 2000000 in
/-- One more is open, of kind 2. -/
theorem open2_any (s : Bs) (hs : s ≠ []) (h : Sx R g cap T w l fx a b c) (hl : l ≠ []) (hp : isP s l = true) (hd : c < 32) : Calls Tryz.prog 153 #[.pointer (some ⟨R,0,none⟩),.int .i64 2,.string ⟨s.toArray⟩] w fun e w' => e = .returned (.tuple #[]) ∧ Sx R g cap T w' l.tail fx a b (c + 1) ∧ l.tail ≠ [] ∧ Kp (Own1 R) w w':=by
 have X:=see_any s h hl
 rw [hp] at X
 have hne:=h.next hs hp
 have hle:=h.le
 have hpos:=isP_pos hp
 have hsm:=h.full.small
 have hdI : ((c : Nat) : Int) < 32:=by omega
 have hd0 : (0 : Int) ≤ ((c : Nat) : Int):=by omega
 have hd32 : (((c : Nat) : Int) == 32) = false:=by rw [beq_eq_false_iff_ne];omega
 have hA2 : ((T.length - l.length : Nat) : Int) ≤ 2049:=by omega
 have hA0 : (0 : Int) ≤ ((T.length - l.length : Nat) : Int):=by omega
 have HM : ∀ w1,Kp Non w w1 → Hid (Sx R g cap T ((w1.setCell ⟨R,5,none⟩ (.int .i64 (((c : Nat) : Int) + 1))).setCell ⟨R,1,none⟩ (.int .i64 (((T.length - l.length : Nat) : Int) + 1))) l.tail fx a b (c + 1)):=fun w1 k =>
  ((h.non k).set5 _ (c + 1) (by omega) (by omega)).move (List.tail_suffix l) _ (by rw [List.length_tail];omega)
 go_enter Tryz.func153,Tryz.ntmps153
 go_wp2_with (first
  | (go_at_call 104;refine (yneed_yes _).mono ?_;rintro e w2 ⟨rfl,rfl⟩)
  | (go_at_call 108;refine X.mono ?_;rintro e w1 ⟨rfl,k1⟩;have cF:=(h.non k1).c5;have c1:=(h.non k1).c1;have fF:=(h.non k1).free 5;have f1:=(h.non k1).free 1;have HM1:=HM w1 k1;clear HM;generalize T.length - l.length = A at *))
 go_region
 all_goals go_wp2
 all_goals go_end0
 all_goals exact ⟨rfl,by first | exact HM1.out | exact HM1.out.drew | exact HM1.out.drewN 1,hne,by first | exact (k1.any.trans ((Kp.own R 5 _).trans (Kp.own R 1 _))).drew | exact (k1.any.trans ((Kp.own R 5 _).trans (Kp.own R 1 _))).drewN _⟩
theorem open2_shut (s : Bs) (h : Sx R g cap T w l fx a b c) (hl : l ≠ []) (hp : isP s l = false) : Calls Tryz.prog 153 #[.pointer (some ⟨R,0,none⟩),.int .i64 2,.string ⟨s.toArray⟩] w fun e w' => e = DiesY (atT l,60) ∧ Kp (Own1 R) w w':=by
 have X:=see_any s h hl
 rw [hp] at X
 go_enter Tryz.func153,Tryz.ntmps153
 go_wp2_with (first
  | (go_at_call 104;refine (need_dies (h.non k1) hl).mono ?_;rintro e w2 ⟨rfl,k2⟩)
  | (go_at_call 108;refine X.mono ?_;rintro e w1 ⟨rfl,k1⟩))
 exact ⟨rfl,rfl,k1.any.trans k2.any⟩
theorem open2_deep (s : Bs) (h : Sx R g cap T w l fx a b 32) (hl : l ≠ []) (hp : isP s l = true) : Calls Tryz.prog 153 #[.pointer (some ⟨R,0,none⟩),.int .i64 2,.string ⟨s.toArray⟩] w fun e w' => e = DiesY (atT l,61) ∧ Kp (Own1 R) w w':=by
 have X:=see_any s h hl
 rw [hp] at X
 go_enter Tryz.func153,Tryz.ntmps153
 go_wp2_with (first
  | (go_at_call 148;refine (yfault_any _ (h.non k1) hl).mono ?_;rintro e w3 ⟨rfl,k3⟩)
  | (go_at_call 104;refine (yneed_yes _).mono ?_;rintro e w2 ⟨rfl,rfl⟩)
  | (go_at_call 108;refine X.mono ?_;rintro e w1 ⟨rfl,k1⟩;have cF:=(h.non k1).c5))
 exact ⟨rfl,rfl,k1.any.trans k3.any⟩
end
end Go.Proofs.YtgmlbjfgfmfliaaGreatDoor
namespace Go.Proofs.YtgmlbjfgfmfliaaGreatDoor
open Go Go.RowKit
/-- In this world, in these blocks, the value holds this cell of a tree. -/
inductive At (w : World) (D : Nat → Prop) : CT → Value → Prop
 | lf (v : Value) : At w D (.lf v) v
 | nil (E sz : Nat) : At w D (.rw E sz 0 []) (.slice none 0 0)
 | row {E sz n q cp : Nat} {ys : List CT} {cur : Array Value} (hb : w.heap[q]? = some (.cells cur E (0,0))) (hD : D q) (hn : n ≤ cp) (hl : ys.length = n * sz) (hc : n * sz ≤ cur.size)
   (hy : ∀ (j : Nat) y u,ys[j]? = some y → cur[j]? = some u → At w D y u) : At w D (.rw E sz n ys) (.slice (some ⟨q,0,none⟩) n cp)
theorem At.keep {w w' : World} {D : Nat → Prop} {y : CT} {u : Value} (h : At w D y u) (hk : ∀ k,D k → w'.heap[k]? = w.heap[k]?) : At w' D y u:=by
 induction h with
 | lf v => exact .lf v
 | nil E sz => exact .nil E sz
 | row hb hD hn hl hc _ ih => exact .row ((hk _ hD).trans hb) hD hn hl hc ih
theorem At.mono {w : World} {D D' : Nat → Prop} {y : CT} {u : Value} (h : At w D y u) (hk : ∀ k,D k → D' k) : At w D' y u:=by
 induction h with
 | lf v => exact .lf v
 | nil E sz => exact .nil E sz
 | row hb hD hn hl hc _ ih => exact .row hb (hk _ hD) hn hl hc ih
/-- The same, cell by cell. -/
structure Ats (w : World) (D : Nat → Prop) (ys : List CT) (us : List Value) : Prop where
 len : ys.length = us.length
 all : ∀ (j : Nat) y u,ys[j]? = some y → us[j]? = some u → At w D y u
theorem Ats.keep {w w' : World} {D : Nat → Prop} {ys : List CT} {us : List Value} (h : Ats w D ys us) (hk : ∀ k,D k → w'.heap[k]? = w.heap[k]?) : Ats w' D ys us:=⟨h.len,fun j y u h1 h2 => (h.all j y u h1 h2).keep hk⟩
theorem Ats.mono {w : World} {D D' : Nat → Prop} {ys : List CT} {us : List Value} (h : Ats w D ys us) (hk : ∀ k,D k → D' k) : Ats w D' ys us:=⟨h.len,fun j y u h1 h2 => (h.all j y u h1 h2).mono hk⟩
theorem Ats.nil {w : World} {D : Nat → Prop} : Ats w D [] []:=⟨rfl,fun j y u h => by simp at h⟩
theorem Ats.cons {w : World} {D : Nat → Prop} {y : CT} {u : Value} {ys : List CT} {us : List Value} (h0 : At w D y u) (h : Ats w D ys us) : Ats w D (y :: ys) (u :: us):=by
 refine ⟨by simp [h.len],fun j x v h1 h2 => ?_⟩
 cases j with
 | zero => simp at h1 h2;subst h1 h2;exact h0
 | succ j => exact h.all j x v (by simpa using h1) (by simpa using h2)
theorem Ats.append {w : World} {D : Nat → Prop} {ys zs : List CT} {us vs : List Value} (h1 : Ats w D ys us) (h2 : Ats w D zs vs) : Ats w D (ys ++ zs) (us ++ vs):=by
 refine ⟨by simp [h1.len,h2.len],fun j x v hx hv => ?_⟩
 by_cases hj : j < ys.length
 ·rw [List.getElem?_append_left hj] at hx
  rw [List.getElem?_append_left (by rw [← h1.len];exact hj)] at hv
  exact h1.all j x v hx hv
 ·rw [List.getElem?_append_right (by omega)] at hx
  rw [List.getElem?_append_right (by rw [← h1.len];omega),← h1.len] at hv
  exact h2.all _ x v hx hv
abbrev Iv (lo hi : Nat) : Nat → Prop:=fun k => lo ≤ k ∧ k < hi
theorem Ats.later {w w' : World} {S : Nat → Prop} {lo hi lo' hi' : Nat} {ys : List CT} {us : List Value} (h : Ats w (Iv lo hi) ys us) (k : Kp S w w') (hh : hi ≤ w.heap.size) (hS : ∀ k,lo ≤ k → k < hi → ¬ S k) (h1 : lo' ≤ lo) (h2 : hi ≤ hi') : Ats w' (Iv lo' hi') ys us :=
 (h.keep (fun j hj => k.block j (by omega) (hS j hj.1 hj.2))).mono (fun j hj => ⟨Nat.le_trans h1 hj.1,Nat.lt_of_lt_of_le hj.2 h2⟩)
theorem At.later {w w' : World} {S : Nat → Prop} {lo hi lo' hi' : Nat} {y : CT} {u : Value} (h : At w (Iv lo hi) y u) (k : Kp S w w') (hh : hi ≤ w.heap.size) (hS : ∀ k,lo ≤ k → k < hi → ¬ S k) (h1 : lo' ≤ lo) (h2 : hi ≤ hi') : At w' (Iv lo' hi') y u :=
 (h.keep (fun j hj => k.block j (by omega) (hS j hj.1 hj.2))).mono (fun j hj => ⟨Nat.le_trans h1 hj.1,Nat.lt_of_lt_of_le hj.2 h2⟩)
theorem Kp.trans2 {S S' : Nat → Prop} {a b c : World} (h : Kp S a b) (h' : Kp S' b c) (hS : ∀ k,k < a.heap.size → S' k → S k) : Kp S a c :=
 ⟨h'.os.trans h.os,h'.tape.trans h.tape,h'.output.trans h.output,Nat.le_trans h.size h'.size,fun k hk hn => (h'.block k (Nat.lt_of_lt_of_le hk h.size) (fun e => hn (hS k hk e))).trans (h.block k hk hn)⟩
theorem Kp.grew {S : Nat → Prop} {a b c : World} {v : Value} (h : Kp S a b) (hg : b.grownBy c v.ownBlock) (hS : ∀ k,v.ownBlock = some k → a.heap.size ≤ k ∨ S k) : Kp S a c:=by
 refine ⟨hg.os.trans h.os,hg.tape.trans h.tape,hg.output.trans h.output,Nat.le_trans h.size hg.size,fun k hk hn => ?_⟩
 refine (hg.block k (Nat.lt_of_lt_of_le hk h.size) (fun e => ?_)).trans (h.block k hk hn)
 rcases hS k e.symm with h1 | h1
 ·omega
 ·exact hn h1
theorem own_keep {w w' : World} {B E sz n : Nat} {v : Value} {xs : List Value} (h : w.ownsRow B E sz v n xs) (hk : ∀ q,v.ownBlock = some q → w'.heap[q]? = w.heap[q]?) : w'.ownsRow B E sz v n xs:=by
 refine ⟨h.1,?_⟩
 rcases h.2 with h2 | ⟨q,cp,cur,hv,hb,hg,r⟩
 ·exact Or.inl h2
 ·exact Or.inr ⟨q,cp,cur,hv,hb,(hk q (by rw [hv];rfl)).trans hg,r⟩
theorem own_block {w : World} {B E sz n : Nat} {v : Value} {xs : List Value} (h : w.ownsRow B E sz v n xs) {q : Nat} (hq : v.ownBlock = some q) : B ≤ q ∧ q < w.heap.size:=by
 rcases h.2 with ⟨rfl,_⟩ | ⟨q',cp,cur,hv,hb,hg,_⟩
 ·cases hq
 ·rw [hv] at hq
  have e : q' = q:=by simpa [Value.ownBlock] using hq
  subst e
  exact ⟨hb,lt_of_block hg⟩
/-- Where the variable V, the box P, the reader R and its tokens g lie: below B, apart. -/
structure Pl (R g V P B : Nat) : Prop where
 bR : R < B
 bg : g < B
 bV : V < B
 bP : P < B
 VR : V ≠ R
 Vg : V ≠ g
 PR : P ≠ R
 VP : V ≠ P
/-- A row that grows in the cell i of the variable V. -/
structure Js (R V P B : Nat) (cur : Array Value) (ty tp : TypeId) (i E sz : Nat) (w : World) (els : List (List CT)) (lv : Value) (xs : List Value) (D : Nat → Prop) : Prop where
 var : w.heap[V]? = some (.cells (cur.setIfInBounds i lv) ty (0,0))
 box : w.heap[P]? = some (.cells #[.pointer (some ⟨R,0,none⟩)] tp (0,0))
 own : w.ownsRow B E sz lv els.length xs
 ats : Ats w D els.flatten xs
 far : ∀ k,D k → B ≤ k ∧ k < w.heap.size ∧ lv.ownBlock ≠ some k
 size : B ≤ w.heap.size
section
variable {R g V P B : Nat} {cur : Array Value} {ty tp : TypeId} {i E sz : Nat} {w : World} {els : List (List CT)} {lv : Value} {xs : List Value} {D : Nat → Prop}
theorem Js.kp {w' : World} (h : Js R V P B cur ty tp i E sz w els lv xs D) (pl : Pl R g V P B) (k : Kp (Own1 R) w w') : Js R V P B cur ty tp i E sz w' els lv xs D where
 var:=(k.block V (lt_of_block h.var) pl.VR).trans h.var
 box:=(k.block P (lt_of_block h.box) pl.PR).trans h.box
 own:=own_keep h.own (fun q hq => k.block q (own_block h.own hq).2 (fun e => by have:=(own_block h.own hq).1;have:=pl.bR;have e' : q = R:=e;omega))
 ats:=h.ats.keep (fun q hq => k.block q (h.far q hq).2.1 (fun e => by have:=(h.far q hq).1;have:=pl.bR;have e' : q = R:=e;omega))
 far:=fun q hq => ⟨(h.far q hq).1,Nat.lt_of_lt_of_le (h.far q hq).2.1 k.size,(h.far q hq).2.2⟩
 size:=Nat.le_trans h.size k.size
theorem Js.slice (h : Js R V P B cur ty tp i E sz w els lv xs D) : ∃ o c,lv = .slice o els.length c:=by
 rcases h.own.2 with ⟨h1,h2⟩ | ⟨q,cp,cu,hv,_⟩
 ·exact ⟨none,0,by rw [h1,h2]⟩
 ·exact ⟨_,_,hv⟩
theorem Js.cell (h : Js R V P B cur ty tp i E sz w els lv xs D) (hi : i < cur.size) : w.cell? ⟨V,i,none⟩ = some lv:=by
 simp [World.cell?,h.var,hi]
theorem Js.free (h : Js R V P B cur ty tp i E sz w els lv xs D) (j : Nat) : w.frozen? ⟨V,j,none⟩ = false:=frozen_of_row w V j _ _ h.var
theorem Js.ptr (h : Js R V P B cur ty tp i E sz w els lv xs D) : w.cell? ⟨P,0,none⟩ = some (.pointer (some ⟨R,0,none⟩)):=by
 simp [World.cell?,h.box]
theorem Js.var2 {W w1 W2 w2 : World} (h : Js R V P B cur ty tp i E sz w els lv xs D) (pl : Pl R g V P B) (hW : Kp Non w W) (hk : Kp (Own1 R) W w1) (hW2 : Kp Non w1 W2) (hgr : W2.grownBy w2 lv.ownBlock) : w2.heap[V]? = some (.cells (cur.setIfInBounds i lv) ty (0,0)):=by
 have hv:=lt_of_block h.var
 have z1:=hW.size
 have z2:=hk.size
 have z3:=hW2.size
 have p2:=pl.bV
 exact (hgr.block V (by omega) (fun e => by have:=(own_block h.own e.symm).1;omega)).trans ((hW2.block V (by omega) (fun e => e)).trans ((hk.block V (by omega) pl.VR).trans ((hW.block V hv (fun e => e)).trans h.var)))
/-- One more element, which lies in De: a place for it taken from W2 to w2, laid, and the variable set, in w4. -/
theorem Js.pushG {w1 W2 w2 w4 : World} {el : List CT} {us : List Value} {q cp : Nat} {De : Nat → Prop} (h : Js R V P B cur ty tp i E sz w els lv xs D) (pl : Pl R g V P B) (hk : Kp (Own1 R) w w1)
  (hel : Ats w1 De el us) (hDe : ∀ k,De k → B ≤ k ∧ k < w1.heap.size ∧ lv.ownBlock ≠ some k) (hW2 : Kp Non w1 W2) (hgr : W2.grownBy w2 lv.ownBlock) (hat : lv.ownBlock = some q ∨ W2.heap.size ≤ q) (h4 : Kp (fun k => k = q ∨ k = V) w2 w4)
  (var4 : w4.heap[V]? = some (.cells (cur.setIfInBounds i (.slice (some ⟨q,0,none⟩) (els.length + 1) cp)) ty (0,0)))
  (own4 : w4.ownsRow B E sz (.slice (some ⟨q,0,none⟩) (els.length + 1) cp) (els.length + 1) (xs ++ us)) :
  Js R V P B cur ty tp i E sz w4 (els ++ [el]) (.slice (some ⟨q,0,none⟩) (els.length + 1) cp) (xs ++ us) (fun k => D k ∨ De k) ∧
  Kp (fun k => k = R ∨ k = V ∨ lv.ownBlock = some k) w w4:=by
 have z0:=h.size
 have z2:=hk.size
 have z3:=hW2.size
 have z4:=hgr.size
 have z5:=h4.size
 have hold : ∀ k,lv.ownBlock = some k → B ≤ k ∧ k < w.heap.size:=fun k e => own_block h.own e
 have hBq : B ≤ q:=(own_block own4 rfl).1
 have p1:=pl.bR;have p2:=pl.bV;have p3:=pl.bP
 have M : ∀ k,k < w1.heap.size → k ≠ q → k ≠ V → lv.ownBlock ≠ some k → w4.heap[k]? = w1.heap[k]?:=fun k hk hq hV ho =>
  (h4.block k (by omega) (by rintro (e | e);exact hq e;exact hV e)).trans ((hgr.block k (by omega) (fun e => ho e.symm)).trans (hW2.block k hk (fun e => e)))
 have M0 : ∀ k,k < w.heap.size → k ≠ R → w1.heap[k]? = w.heap[k]?:=fun k hk0 hR => hk.block k hk0 hR
 have hq2 : ∀ k,D k → k ≠ q:=fun k hd e => by
  subst e
  rcases hat with e | e
  ·exact (h.far k hd).2.2 e
  ·have:=(h.far k hd).2.1;omega
 have hq3 : ∀ k,De k → k ≠ q:=fun k hd e => by
  subst e
  rcases hat with e | e
  ·exact (hDe k hd).2.2 e
  ·have:=(hDe k hd).2.1;omega
 refine ⟨⟨var4,?_,?_,?_,?_,?_⟩,?_⟩
 ·exact (M P (by have:=lt_of_block h.box;omega) (by omega) (fun e => pl.VP e.symm) (fun e => by have:=(hold P e).1;omega)).trans ((M0 P (lt_of_block h.box) pl.PR).trans h.box)
 ·rw [List.length_append]
  exact own4
 ·rw [List.flatten_append]
  refine Ats.append ((h.ats.keep (fun k hd => ?_)).mono (fun k hd => Or.inl hd)) (((by simpa using hel : Ats w1 De [el].flatten us).keep (fun k hd => ?_)).mono (fun k hd => Or.inr hd))
  ·have f:=h.far k hd
   exact (M k (by omega) (hq2 k hd) (by omega) f.2.2).trans (M0 k f.2.1 (by omega))
  ·have f:=hDe k hd
   exact M k f.2.1 (hq3 k hd) (by omega) f.2.2
 ·intro k hd
  rcases hd with hd | hd
  ·have f:=h.far k hd
   exact ⟨f.1,by omega,fun e => hq2 k hd (by simpa [Value.ownBlock] using e.symm)⟩
  ·have f:=hDe k hd
   exact ⟨f.1,by omega,fun e => hq3 k hd (by simpa [Value.ownBlock] using e.symm)⟩
 ·omega
 ·have K1 : Kp (fun k => k = R ∨ k = V ∨ lv.ownBlock = some k) w w1:=hk.mono (fun k _ e => Or.inl e)
  have K2:=(K1.trans hW2.any).grew hgr (fun k e => Or.inr (Or.inr (Or.inr e)))
  refine K2.trans2 h4 (fun k hk e => ?_)
  rcases e with e | e
  ·subst e
   rcases hat with e | e
   ·exact Or.inr (Or.inr e)
   ·omega
  ·exact Or.inr (Or.inl e)
/-- One more element: read from W to w1, a place for it taken from W2 to w2, laid, and the variable set, in w4. -/
theorem Js.push {W w1 W2 w2 w4 : World} {el : List CT} {us : List Value} {q cp : Nat} (h : Js R V P B cur ty tp i E sz w els lv xs D) (pl : Pl R g V P B) (hW : Kp Non w W) (hk : Kp (Own1 R) W w1)
  (hel : Ats w1 (Iv W.heap.size w1.heap.size) el us) (hW2 : Kp Non w1 W2) (hgr : W2.grownBy w2 lv.ownBlock) (hat : lv.ownBlock = some q ∨ W2.heap.size ≤ q) (h4 : Kp (fun k => k = q ∨ k = V) w2 w4)
  (var4 : w4.heap[V]? = some (.cells (cur.setIfInBounds i (.slice (some ⟨q,0,none⟩) (els.length + 1) cp)) ty (0,0)))
  (own4 : w4.ownsRow B E sz (.slice (some ⟨q,0,none⟩) (els.length + 1) cp) (els.length + 1) (xs ++ us)) :
  Js R V P B cur ty tp i E sz w4 (els ++ [el]) (.slice (some ⟨q,0,none⟩) (els.length + 1) cp) (xs ++ us) (fun k => D k ∨ Iv W.heap.size w1.heap.size k) ∧
  Kp (fun k => k = R ∨ k = V ∨ lv.ownBlock = some k) w w4 :=
 h.pushG pl (hW.any.trans hk) hel (fun k hd => ⟨by have:=hd.1;have:=h.size;have:=hW.size;omega,hd.2,fun e => by have:=(own_block h.own e).2;have:=hd.1;have:=hW.size;omega⟩) hW2 hgr hat h4 var4 own4
/-- Another row of the same variable grew. -/
theorem Js.other {w' : World} {ov : Value} {cur' : Array Value} (h : Js R V P B cur ty tp i E sz w els lv xs D) (pl : Pl R g V P B) (k : Kp (fun k => k = R ∨ k = V ∨ ov.ownBlock = some k) w w') (hv : w'.heap[V]? = some (.cells (cur'.setIfInBounds i lv) ty (0,0)))
  (ho : ∀ q,ov.ownBlock = some q → B ≤ q ∧ lv.ownBlock ≠ some q ∧ ¬ D q) : Js R V P B cur' ty tp i E sz w' els lv xs D where
 var:=hv
 box:=(k.block P (lt_of_block h.box) (by have:=pl.bP;rintro (e | e | e);exact pl.PR e;exact pl.VP e.symm;have:=(ho P e).1;omega)).trans h.box
 own:=own_keep h.own (fun q hq => k.block q (own_block h.own hq).2 (by have:=(own_block h.own hq).1;have:=pl.bR;have:=pl.bV;rintro (e | e | e);omega;omega;exact (ho q e).2.1 hq))
 ats:=h.ats.keep (fun q hq => k.block q (h.far q hq).2.1 (by have:=(h.far q hq).1;have:=pl.bR;have:=pl.bV;rintro (e | e | e);omega;omega;exact (ho q e).2.2 hq))
 far:=fun q hq => ⟨(h.far q hq).1,Nat.lt_of_lt_of_le (h.far q hq).2.1 k.size,(h.far q hq).2.2⟩
 size:=Nat.le_trans h.size k.size
end
end Go.Proofs.YtgmlbjfgfmfliaaGreatDoor
namespace Go.Proofs.YtgmlbjfgfmfliaaGreatDoor
open Go Go.RowKit
/-- How far the reader is, read off its own cell. -/
def atY (w : World) (R : Nat) : Int:=match w.cell? ⟨R,1,none⟩ with | some (.int _ n) => n | _ => 0
theorem atY_eq {R g cap : Nat} {T : List Tok} {w : World} {l : List Tok} {fx : Bool} {a b c : Nat} (h : Sx R g cap T w l fx a b c) : atY w R = ((T.length - l.length : Nat) : Int):=by
 unfold atY;rw [h.c1]
/-- What one reading by a function value comes to: KK holds of the world where it gives up. -/
def OneR {α : Type} (R g cap : Nat) (T : List Tok) (fx : Bool) (a b c : Nat) (K : Nat) (caps : Array Value) (f : List Tok → Rs α) (J : List α → List Tok → World → Prop) (KK : World → Prop) : Prop :=
 ∀ xs l w,J xs l w → Sx R g cap T w l fx a b c → l ≠ [] → Calls Tryz.prog K caps w fun e w' => (∃ p,f l = .error p ∧ e = DiesY p ∧ KK w') ∨ (∃ x m,f l = .ok (x,m) ∧ e = .returned (.tuple #[]) ∧ J (xs ++ [x]) m w' ∧ Sx R g cap T w' m fx a b c ∧ m ≠ [])
theorem go_more {α : Type} (r : Rs (List α)) (x : α) (ys : List α) : (r.go fun b l2 => .ok (x :: b,l2)).go (fun b l2 => (.ok (ys ++ b,l2) : Rs (List α))) = r.go fun b l2 => .ok ((ys ++ [x]) ++ b,l2):=by
 cases r with
 | error p => rfl
 | ok p => simp [Rs.go]
theorem go_none {α : Type} (r : Rs (List α)) : r = r.go fun b l2 => .ok ([] ++ b,l2):=by
 cases r with
 | error p => rfl
 | ok p => rfl
section
variable {R g cap : Nat} {T : List Tok} {fx : Bool} {a b c : Nat} {α : Type}
set_option maxHeartbeats 1000000 in
set_option maxRecDepth 100000 in
theorem any_any (K : Nat) (caps : Array Value) (hK : ∀ args W,Sem.run Tryz.prog (callFunc K args) W = .ok (.enter K args) W) (last : Bs) (f : List Tok → Rs α) (hf : Eats f) (J : List α → List Tok → World → Prop) (KK : World → Prop)
  (hJ : ∀ xs l m w w',J xs l w → Kp (Own1 R) w w' → m.length ≤ l.length → J xs m w') (one : OneR R g cap T fx a b c K caps f J KK)
  (xs : List α) (l : List Tok) (w : World) (h0 : J xs l w) (h : Sx R g cap T w l fx a b c) (hl : l ≠ []) :
  Calls Tryz.prog 102 #[.pointer (some ⟨R,0,none⟩),.string ⟨last.toArray⟩,.func (.func K) #[] caps] w fun e w' => (∃ p,anyS f last l = .error p ∧ e = DiesY p ∧ KK w') ∨ (∃ ys m,anyS f last l = .ok (ys,m) ∧ e = .returned (.tuple #[]) ∧ J (xs ++ ys) m w' ∧ Sx R g cap T w' m fx a b c ∧ (last ≠ [] → m ≠ [])):=by
 have HS : Hid (Sx R g cap T w l fx a b c):=h
 have HJ0 : Hid (J xs l w):=h0
 clear h h0
 go_enter Tryz.func102,Tryz.ntmps102
 go_wp2
 go_loopw [] (fun wr => ∃ ys l',J (xs ++ ys) l' wr ∧ Sx R g cap T wr l' fx a b c ∧ l' ≠ [] ∧ anyS f last l = (anyS f last l').go fun b l2 => .ok (ys ++ b,l2)) (fun wr => T.length - (atY wr R).toNat)
 case atStart => exact ⟨[],l,by simpa using HJ0.out,HS.out,hl,go_none _⟩
 case round =>
  obtain ⟨ys,l',hJ',hS',hl',he⟩:=hrel
  have X:=ytake_any last hS' hl'
  have ha:=atY_eq hS'
  have hle:=hS'.le
  have HE : Hid (anyS f last l = (anyS f last l').go fun b l2 => .ok (ys ++ b,l2)):=he
  have HL : ∀ w1,J (xs ++ ys) l' w1 → Sx R g cap T w1 l' fx a b c → _:=fun w1 h1 h2 => one _ _ w1 h1 h2 hl'
  clear he
  have hlen : l' ≠ [] → 0 < l'.length:=fun h => List.length_pos_iff.2 h
  go_wp2_with (first
   | (go_at_call 146;refine X.mono ?_;rintro e w1 (⟨hp,rfl,h1,k1⟩ | ⟨hp,rfl,h1,k1⟩)))
  ·go_end0
   refine Or.inr ⟨ys,l'.tail,?_,rfl,hJ _ _ _ _ _ hJ' k1 (by simp),h1,fun hn => hS'.next hn hp⟩
   rw [HE.out,anyS_eq hf,if_pos hp]
   simp [go_ok]
  ·refine (HL _ (hJ _ _ _ _ _ hJ' k1 (Nat.le_refl _)) h1).mono ?_
   have hp' : ¬ isP last l' = true:=by rw [hp];simp
   rintro e w2 (⟨p,hq,rfl,k2⟩ | ⟨x,m,hq,rfl,hJ2,h2,n2⟩)
   ·refine ⟨rfl,Or.inl ⟨p,?_,rfl,k2⟩⟩
    rw [HE.out,anyS_eq hf,if_neg hp',hq,go_error,go_error]
   ·have hx:=hf _ _ _ hq
    have h3:=atY_eq h2
    have h4:=h2.le
    go_wp2
    refine ⟨⟨ys ++ [x],m,by rw [← List.append_assoc];exact hJ2,h2,n2,?_⟩,?_⟩
    ·rw [HE.out,anyS_eq hf,if_neg hp',hq,go_ok,go_more]
    ·rw [h3,ha]
     simp only [Int.toNat_natCast]
     omega
set_option maxHeartbeats 1000000 in
set_option maxRecDepth 100000 in
theorem some_any (K : Nat) (caps : Array Value) (hK : ∀ args W,Sem.run Tryz.prog (callFunc K args) W = .ok (.enter K args) W) (last : Bs) (f : List Tok → Rs α) (hf : Eats f) (J : List α → List Tok → World → Prop) (KK : World → Prop)
  (hJ : ∀ xs l m w w',J xs l w → Kp (Own1 R) w w' → m.length ≤ l.length → J xs m w') (one : OneR R g cap T fx a b c K caps f J KK)
  (xs : List α) (l : List Tok) (w : World) (h0 : J xs l w) (h : Sx R g cap T w l fx a b c) (hl : l ≠ []) :
  Calls Tryz.prog 64 #[.pointer (some ⟨R,0,none⟩),.string ⟨last.toArray⟩,.func (.func K) #[] caps] w fun e w' => (∃ p,someS f last l = .error p ∧ e = DiesY p ∧ KK w') ∨ (∃ ys m,someS f last l = .ok (ys,m) ∧ e = .returned (.tuple #[]) ∧ J (xs ++ ys) m w' ∧ Sx R g cap T w' m fx a b c ∧ (last ≠ [] → m ≠ [])):=by
 have X:=one xs l w h0 h hl
 have A:=any_any K caps hK last f hf J KK hJ one
 clear h h0 one
 go_enter Tryz.func64,Tryz.ntmps64
 go_wp2
 refine X.mono ?_
 rintro e w1 (⟨p,hq,rfl,k1⟩ | ⟨x,m,hq,rfl,hJ1,h1,n1⟩)
 ·exact ⟨rfl,Or.inl ⟨p,by unfold someS;rw [hq,go_error],rfl,k1⟩⟩
 ·go_wp2_with (go_at_call 102;refine (A _ _ _ hJ1 h1 n1).mono ?_;rintro e w2 (⟨p,hq2,rfl,k2⟩ | ⟨ys,m2,hq2,rfl,hJ2,h2,n2⟩))
  ·exact ⟨rfl,Or.inl ⟨p,by unfold someS;rw [hq,go_ok,hq2,go_error],rfl,k2⟩⟩
  ·go_end0
   exact Or.inr ⟨x :: ys,m2,by unfold someS;rw [hq,go_ok,hq2,go_ok],rfl,by rw [List.append_assoc] at hJ2;exact hJ2,h2,n2⟩
set_option maxHeartbeats 1000000 in
set_option maxRecDepth 100000 in
theorem led_any (K : Nat) (caps : Array Value) (hK : ∀ args W,Sem.run Tryz.prog (callFunc K args) W = .ok (.enter K args) W) (first : Bs) (hfi : first ≠ []) (f : List Tok → Rs α) (hf : Keeps f) (J : List α → List Tok → World → Prop) (KK : World → Prop)
  (hJ : ∀ xs l m w w',J xs l w → Kp (Own1 R) w w' → m.length ≤ l.length → J xs m w') (one : OneR R g cap T fx a b c K caps f J KK)
  (xs : List α) (l : List Tok) (w : World) (h0 : J xs l w) (h : Sx R g cap T w l fx a b c) (hl : l ≠ []) :
  Calls Tryz.prog 150 #[.pointer (some ⟨R,0,none⟩),.string ⟨first.toArray⟩,.func (.func K) #[] caps] w fun e w' => (∃ p,ledS f first l = .error p ∧ e = DiesY p ∧ KK w') ∨ (∃ ys m,ledS f first l = .ok (ys,m) ∧ e = .returned (.tuple #[]) ∧ J (xs ++ ys) m w' ∧ Sx R g cap T w' m fx a b c ∧ m ≠ []):=by
 have HS : Hid (Sx R g cap T w l fx a b c):=h
 have HJ0 : Hid (J xs l w):=h0
 clear h h0
 go_enter Tryz.func150,Tryz.ntmps150
 go_wp2
 go_loopw [] (fun wr => ∃ ys l',J (xs ++ ys) l' wr ∧ Sx R g cap T wr l' fx a b c ∧ l' ≠ [] ∧ ledS f first l = (ledS f first l').go fun b l2 => .ok (ys ++ b,l2)) (fun wr => T.length - (atY wr R).toNat)
 case atStart => exact ⟨[],l,by simpa using HJ0.out,HS.out,hl,go_none _⟩
 case round =>
  obtain ⟨ys,l',hJ',hS',hl',he⟩:=hrel
  have X:=ytake_any first hS' hl'
  have ha:=atY_eq hS'
  have hle:=hS'.le
  have HE : Hid (ledS f first l = (ledS f first l').go fun b l2 => .ok (ys ++ b,l2)):=he
  have HL : ∀ w1,isP first l' = true → J (xs ++ ys) l'.tail w1 → Sx R g cap T w1 l'.tail fx a b c → _:=fun w1 hp h1 h2 => one _ _ w1 h1 h2 (hS'.next hfi hp)
  clear he
  go_wp2_with (first
   | (go_at_call 146;refine X.mono ?_;rintro e w1 (⟨hp,rfl,h1,k1⟩ | ⟨hp,rfl,h1,k1⟩)))
  ·refine (HL _ hp (hJ _ _ _ _ _ hJ' k1 (by simp)) h1).mono ?_
   rintro e w2 (⟨p,hq,rfl,k2⟩ | ⟨x,m,hq,rfl,hJ2,h2,n2⟩)
   ·refine ⟨rfl,Or.inl ⟨p,?_,rfl,k2⟩⟩
    rw [HE.out,ledS_eq hf,if_pos hp,hq,go_error,go_error]
   ·have hx:=hf _ _ _ hq
    have h3:=atY_eq h2
    have h4:=h2.le
    have h5:=isP_pos hp
    rw [List.length_tail] at hx
    go_wp2
    refine ⟨⟨ys ++ [x],m,by rw [← List.append_assoc];exact hJ2,h2,n2,?_⟩,?_⟩
    ·rw [HE.out,ledS_eq hf,if_pos hp,hq,go_ok,go_more]
    ·rw [h3,ha]
     simp only [Int.toNat_natCast]
     omega
  ·have hp' : ¬ isP first l' = true:=by rw [hp];simp
   go_end0
   refine Or.inr ⟨ys,l',?_,rfl,hJ _ _ _ _ _ hJ' k1 (Nat.le_refl _),h1,hl'⟩
   rw [HE.out,ledS_eq hf,if_neg hp']
   simp [go_ok]
end
end Go.Proofs.YtgmlbjfgfmfliaaGreatDoor
