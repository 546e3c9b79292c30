/- The document's reader of schemas: a field, walked. -/
import Derived.Test.YtlabcadpkdgjnaaGreatDoorE6
namespace Go.Proofs.YtlabcadpkdgjnaaGreatDoor
section
open Go Go.RowKit Go.Shelf
structure Sp where
 i : Nat
 a : Int
section
variable (ts : List Tok) (N : Nat)
def nxM (s : Sp) : Tok:=(ts[s.i]?).getD (eofT N)
def isM (k : Int) (t : Bs) (s : Sp) : Bool:=(nxM ts N s).k == k && (nxM ts N s).t == t
def wrongM (s : Sp) : Sp:=if s.a < 0 then ⟨s.i,((nxM ts N s).b : Int)⟩ else s
def incM (s : Sp) : Sp:=⟨s.i + 1,s.a⟩
def mustM (k : Int) (t : Bs) (s : Sp) : Sp:=incM (if isM ts N k t s then s else wrongM ts N s)
def nameM (s : Sp) : Bs × Sp:=((nxM ts N s).t,incM (if (nxM ts N s).k == 1 then s else wrongM ts N s))
def wordB (s : Sp) : Bool:=isM ts N 1 [116,114,117,101] s || isM ts N 1 [102,97,108,115,101] s || isM ts N 1 [110,117,108,108] s
def wordM (s : Sp) : Bs × Sp:=nameM ts N (if wordB ts N s then wrongM ts N s else s)
structure Zp (w : World) (P : Nat) (g : Option Addr) (cap : Nat) (s : Sp) : Prop where
 row : w.heap[P]? = some (.cells #[.slice g ts.length cap,.int .i64 (s.i : Int),.int .i64 (N : Int),.int .i64 s.a] 53 (0,0))
 hc : ts.length ≤ cap
 tk : ∀ (i : Nat) t,ts[i]? = some t → ∃ b o,g = some ⟨b,o,none⟩ ∧ b ≠ P ∧ b < w.heap.size ∧ w.cell? ⟨b,o + i * 4,none⟩ = some (.int .i64 t.k) ∧ w.cell? ⟨b,o + i * 4 + 1,none⟩ = some (.string ⟨t.t.toArray⟩) ∧ w.cell? ⟨b,o + i * 4 + 2,none⟩ = some (.int .i64 (t.b : Int)) ∧ w.cell? ⟨b,o + i * 4 + 3,none⟩ = some (.int .i64 (t.e : Int))
 few : ts.length ≤ 2048
 hN : N ≤ 16384
end
section
variable {ts : List Tok} {N : Nat} {P cap : Nat} {g : Option Addr} {w w' : World} {s : Sp}
theorem rowZ4 {w : World} {k E : Nat} {a b c d : Value} (h : w.heap[k]? = some (.cells #[a,b,c,d] E (0,0))) : w.cell? ⟨k,0,none⟩ = some a ∧ w.cell? ⟨k,1,none⟩ = some b ∧ w.cell? ⟨k,2,none⟩ = some c ∧ w.cell? ⟨k,3,none⟩ = some d ∧ ∀ j,w.frozen? ⟨k,j,none⟩ = false:=⟨by simp [World.cell?,h],by simp [World.cell?,h],by simp [World.cell?,h],by simp [World.cell?,h],fun j => frozen_of_row w k j _ _ h⟩
theorem Zp.lt (h : Zp ts N w P g cap s) : P < w.heap.size:=lt_of_block h.row
theorem Zp.kp {S : Nat → Prop} (h : Zp ts N w P g cap s) (k : Kp S w w') (hP : ¬ S P) (hS : ∀ b o,g = some ⟨b,o,none⟩ → ¬ S b) : Zp ts N w' P g cap s:=⟨rowOld h.row k hP,h.hc,fun i t ht => by
 obtain ⟨b,o,e,h1,h2,c0,c1,c2,c3⟩:=h.tk i t ht
 exact ⟨b,o,e,h1,Nat.lt_of_lt_of_le h2 k.size,k.cellAt c0 (hS b o e),k.cellAt c1 (hS b o e),k.cellAt c2 (hS b o e),k.cellAt c3 (hS b o e)⟩,h.few,h.hN⟩
theorem Zp.non (h : Zp ts N w P g cap s) (k : Kp Non w w') : Zp ts N w' P g cap s:=h.kp k (fun e => e) (fun _ _ _ e => e)
theorem Zp.set (h : Zp ts N w P g cap s) (s' : Sp) (hr : w'.heap[P]? = some (.cells #[.slice g ts.length cap,.int .i64 (s'.i : Int),.int .i64 (N : Int),.int .i64 s'.a] 53 (0,0))) (k : Kp (Own1 P) w w') : Zp ts N w' P g cap s':=⟨hr,h.hc,fun i t ht => by
 obtain ⟨b,o,e,h1,h2,c0,c1,c2,c3⟩:=h.tk i t ht
 exact ⟨b,o,e,h1,Nat.lt_of_lt_of_le h2 k.size,k.cellAt c0 h1,k.cellAt c1 h1,k.cellAt c2 h1,k.cellAt c3 h1⟩,h.few,h.hN⟩
theorem Zp.incr (h : Zp ts N w P g cap s) (x : Int) (hx : x = (s.i : Int) + 1) : Zp ts N (w.setCell ⟨P,1,none⟩ (.int .i64 x)) P g cap (incM s):=by
 subst hx
 exact h.set (incM s) (heap_setCell_same _ P 1 _ _ _ h.row) (Kp.own P 1 _)
theorem Zp.mark (h : Zp ts N w P g cap s) (x : Int) : Zp ts N (w.setCell ⟨P,3,none⟩ (.int .i64 x)) P g cap ⟨s.i,x⟩:=h.set ⟨s.i,x⟩ (heap_setCell_same _ P 3 _ _ _ h.row) (Kp.own P 3 _)
abbrev tokY (t : Tok) : Value:=.agg #[.int .i64 t.k,.string ⟨t.t.toArray⟩,.int .i64 (t.b : Int),.int .i64 (t.e : Int)]
set_option maxRecDepth 100000 in
set_option maxHeartbeats 2000000 in
theorem znext_any (h : Zp ts N w P g cap s) (hi : s.i ≤ 1000000) : Calls Tryz.prog 37 #[.pointer (some ⟨P,0,none⟩)] w fun e w' => e = .returned (tokY (nxM ts N s)) ∧ Kp Non w w':=by
 obtain ⟨r0,r1,r2,r3,_⟩:=rowZ4 h.row
 have hP:=h.lt
 have hc:=h.hc
 have hfew:=h.few
 by_cases hlt : s.i < ts.length
 ·obtain ⟨t,ht⟩ : ∃ t,ts[s.i]? = some t:=⟨_,List.getElem?_eq_getElem hlt⟩
  have e : nxM ts N s = t:=by unfold nxM;rw [ht];rfl
  rw [e]
  obtain ⟨b,o,rfl,_,hb,c0,c1,c2,c3⟩:=h.tk _ t ht
  clear h ht e
  obtain ⟨i,a⟩:=s
  simp only at *
  have l1 : ((i : Nat) : Int) < (ts.length : Int):=by omega
  have hiN : ((i : Nat) : Int).toNat = i:=by omega
  have q:=fun o => cell_on (al1 w o) r0
  have q1:=fun o => cell_on (al1 w o) r1
  have p0:=fun o => cell_on (al1 w o) c0
  have p1:=fun o => cell_on (al1 w o) c1
  have p2:=fun o => cell_on (al1 w o) c2
  have p3:=fun o => cell_on (al1 w o) c3
  go_enter Tryz.func37,Tryz.ntmps37
  go_wp2
  go_region_held3 (fun w' => w'.cell? ⟨P,0,none⟩ = some (.slice (some ⟨b,o,none⟩) ts.length cap) ∧ w'.cell? ⟨P,1,none⟩ = some (.int .i64 (i : Int)) ∧ w'.cell? ⟨b,o + i * 4,none⟩ = some (.int .i64 t.k) ∧ w'.cell? ⟨b,o + i * 4 + 1,none⟩ = some (.string ⟨t.t.toArray⟩) ∧ w'.cell? ⟨b,o + i * 4 + 2,none⟩ = some (.int .i64 (t.b : Int)) ∧ w'.cell? ⟨b,o + i * 4 + 3,none⟩ = some (.int .i64 (t.e : Int))) (go_keep) (fail)
  go_wp2
  go_region_held3 (fun w' => w'.cell? ⟨P,0,none⟩ = some (.slice (some ⟨b,o,none⟩) ts.length cap) ∧ w'.cell? ⟨P,1,none⟩ = some (.int .i64 (i : Int)) ∧ w'.cell? ⟨b,o + i * 4,none⟩ = some (.int .i64 t.k) ∧ w'.cell? ⟨b,o + i * 4 + 1,none⟩ = some (.string ⟨t.t.toArray⟩) ∧ w'.cell? ⟨b,o + i * 4 + 2,none⟩ = some (.int .i64 (t.b : Int)) ∧ w'.cell? ⟨b,o + i * 4 + 3,none⟩ = some (.int .i64 (t.e : Int))) (go_keep) (fail)
  go_wp2
  refine bodyPost_ret (v:=tokY t) (by simp [results,Tryz.results37,go_sem]) rfl ⟨rfl,?_⟩
  first
   | exact ((Kp.refl Non w).alloc _).drew.drew
   | exact ((((((Kp.refl Non w).alloc _).drew.drew).set _ _ _ (Or.inl (Nat.le_refl _))).set _ _ _ (Or.inl (Nat.le_refl _))).set _ _ _ (Or.inl (Nat.le_refl _))).set _ _ _ (Or.inl (Nat.le_refl _))
   | (trace_state;sorry)
 ·have e : nxM ts N s = eofT N:=by unfold nxM;rw [List.getElem?_eq_none (by omega)];rfl
  rw [e]
  clear h e
  obtain ⟨i,a⟩:=s
  simp only at *
  have l2 : decide (((i : Nat) : Int) < (ts.length : Int)) = false:=by simp;omega
  have l3 : decide (i < ts.length) = false:=by simp;omega
  go_enter Tryz.func37,Tryz.ntmps37
  go_wp2
  have q:=fun o => cell_on (al1 w o) r0
  have q1:=fun o => cell_on (al1 w o) r1
  have q2:=fun o => cell_on (al1 w o) r2
  go_region_held3 (fun w' => w'.cell? ⟨P,0,none⟩ = some (.slice g ts.length cap) ∧ w'.cell? ⟨P,1,none⟩ = some (.int .i64 (i : Int)) ∧ w'.cell? ⟨P,2,none⟩ = some (.int .i64 (N : Int))) (go_keep) (fail)
  go_wp2
  refine bodyPost_ret (v:=tokY (eofT N)) (by simp [results,Tryz.results37,go_sem]) rfl ⟨rfl,?_⟩
  first
   | exact ((Kp.refl Non w).alloc _).drew
   | (trace_state;sorry)
theorem fldY0 (t : Tok) (w : World) : (Instr.field 43 (tokY t) 0).run Tryz.prog w = .ok (.int .i64 t.k) w:=by kernel_rfl
theorem fldY1 (t : Tok) (w : World) : (Instr.field 43 (tokY t) 1).run Tryz.prog w = .ok (.string ⟨t.t.toArray⟩) w:=by kernel_rfl
theorem fldY2 (t : Tok) (w : World) : (Instr.field 43 (tokY t) 2).run Tryz.prog w = .ok (.int .i64 (t.b : Int)) w:=by kernel_rfl
set_option maxRecDepth 100000 in
theorem zwrong_any (h : Zp ts N w P g cap s) (hi : s.i ≤ 1000000) : Calls Tryz.prog 38 #[.pointer (some ⟨P,0,none⟩)] w fun e w' => e = .returned (.tuple #[]) ∧ Zp ts N w' P g cap (wrongM ts N s) ∧ Kp (Own1 P) w w':=by
 obtain ⟨r0,r1,r2,r3,rf⟩:=rowZ4 h.row
 have X:=znext_any h hi
 have F:=fldY2 (nxM ts N s)
 unfold wrongM
 by_cases ha : s.a < 0
 ·rw [if_pos ha]
  go_enter Tryz.func38,Tryz.ntmps38
  go_wp2_with (first
   | (go_at_call 37;(with_reducible refine X.mono ?_);rintro e w1 ⟨rfl,k1⟩;have h1:=h.non k1;obtain ⟨q0,q1,q2,q3,qf⟩:=rowZ4 h1.row)
   | fail)
  go_end0
  exact ⟨rfl,h1.mark _,k1.any.trans (Kp.own P 3 _)⟩
 ·rw [if_neg ha]
  have ha' : decide (s.a < 0) = false:=by simpa using ha
  go_enter Tryz.func38,Tryz.ntmps38
  go_wp2
  go_end0
  exact ⟨rfl,h,Kp.refl _ _⟩
set_option maxRecDepth 100000 in
theorem zis_any (h : Zp ts N w P g cap s) (hi : s.i ≤ 1000000) (k : Int) (t : Bs) : Calls Tryz.prog 19 #[.pointer (some ⟨P,0,none⟩),.int .i64 k,.string ⟨t.toArray⟩] w fun e w' => e = .returned (.bool (isM ts N k t s)) ∧ Zp ts N w' P g cap s ∧ Kp Non w w':=by
 have X:=fun {W : World} (b : Kp Non w W) => znext_any (h.non b) hi
 have kr : Kp Non w w:=Kp.refl _ _
 unfold isM
 have HH : Hid (Zp ts N w P g cap s):=h
 clear h
 generalize nxM ts N s = x at *
 have F0:=fldY0 x
 have F1:=fldY1 x
 have BE:=bytes_eq x.t t
 cases hk : (x.k == k) with
 | true =>
  rw [Bool.true_and]
  go_enter Tryz.func19,Tryz.ntmps19
  go_wp2_with (go_at_call 37;refine (X kr).mono ?_;rintro e w1 ⟨rfl,k1⟩;replace kr:=kr.trans k1)
  go_ret
  exact ⟨by first | rfl | simp_all,HH.out.non kr,kr⟩
 | false =>
  rw [Bool.false_and]
  go_enter Tryz.func19,Tryz.ntmps19
  go_wp2_with (go_at_call 37;refine (X kr).mono ?_;rintro e w1 ⟨rfl,k1⟩;replace kr:=kr.trans k1)
  go_ret
  exact ⟨rfl,HH.out.non kr,kr⟩
theorem wrongM_i (s : Sp) : (wrongM ts N s).i = s.i:=by unfold wrongM;split <;> rfl
set_option maxRecDepth 100000 in
theorem zmust_any (h : Zp ts N w P g cap s) (hi : s.i ≤ 1000000) (k : Int) (t : Bs) : Calls Tryz.prog 21 #[.pointer (some ⟨P,0,none⟩),.int .i64 k,.string ⟨t.toArray⟩] w fun e w' => e = .returned (.tuple #[]) ∧ Zp ts N w' P g cap (mustM ts N k t s) ∧ Kp (Own1 P) w w':=by
 have X:=zis_any h hi k t
 unfold mustM
 clear h
 cases hb : isM ts N k t s with
 | true =>
  rw [hb] at X
  rw [if_pos rfl]
  clear hb
  go_enter Tryz.func21,Tryz.ntmps21
  go_wp2_with (first
   | (go_at_call 19;(with_reducible refine X.mono ?_);rintro e w1 ⟨rfl,h1,k1⟩;obtain ⟨q0,q1,q2,q3,qf⟩:=rowZ4 h1.row;have hz : ((s.i : Nat) : Int) ≤ 1000000:=(by omega);have hz0 : (0 : Int) ≤ ((s.i : Nat) : Int):=(by omega))
   | fail)
  go_end0
  exact ⟨rfl,h1.incr _ rfl,k1.any.trans (Kp.own P 1 _)⟩
 | false =>
  rw [hb] at X
  rw [if_neg (by simp)]
  clear hb
  go_enter Tryz.func21,Tryz.ntmps21
  go_wp2_with (first
   | (go_at_call 38;(with_reducible refine (zwrong_any h1 hi).mono ?_);rintro e w2 ⟨rfl,h2,k2⟩;obtain ⟨q0,q1,q2,q3,qf⟩:=rowZ4 h2.row;rw [wrongM_i] at q1;have hz : ((s.i : Nat) : Int) ≤ 1000000:=(by omega);have hz0 : (0 : Int) ≤ ((s.i : Nat) : Int):=(by omega))
   | (go_at_call 19;(with_reducible refine X.mono ?_);rintro e w1 ⟨rfl,h1,k1⟩)
   | fail)
  go_end0
  exact ⟨rfl,h2.incr _ (by rw [wrongM_i]),(k1.any.trans k2).trans (Kp.own P 1 _)⟩
set_option maxRecDepth 100000 in
set_option maxHeartbeats 1000000 in
theorem zname_st (h : Zp ts N w P g cap s) (hi : s.i ≤ 1000000) : Calls Tryz.prog 20 #[.pointer (some ⟨P,0,none⟩)] w fun e w' => e = .returned (.string ⟨(nameM ts N s).1.toArray⟩) ∧ Zp ts N w' P g cap (nameM ts N s).2 ∧ Kp (Own1 P) w w':=by
 have X:=znext_any h hi
 unfold nameM
 dsimp only
 have HH : Hid (Zp ts N w P g cap s):=h
 have hP:=h.lt
 clear h
 cases hb : ((nxM ts N s).k == 1) with
 | true =>
  rw [if_pos rfl]
  have hb' : ((nxM ts N s).k != 1) = false:=by simp only [bne,hb];rfl
  generalize nxM ts N s = x at *
  go_enter Tryz.func20,Tryz.ntmps20
  go_wp2_with (first
   | (go_at_call 37;(with_reducible refine X.mono ?_);rintro e w1 ⟨rfl,k1⟩;have h1:=HH.out.non (k1.alloc (.cells #[.int .i64 x.k,.string ⟨x.t.toArray⟩,.int .i64 (x.b : Int),.int .i64 (x.e : Int)] 43));obtain ⟨q0,q1,q2,q3,qf⟩:=rowZ4 h1.row;have hP1:=(HH.out.non k1).lt;have hz : ((s.i : Nat) : Int) ≤ 1000000:=(by omega);have hz0 : (0 : Int) ≤ ((s.i : Nat) : Int):=(by omega);have hne : ¬ w1.heap.size = P:=(by omega);have hne2 : ¬ P = w1.heap.size:=(by omega))
   | fail)
  go_ret
  exact ⟨rfl,((HH.out.non k1).incr _ rfl).non ((Kp.refl Non _).alloc _),(k1.any.trans (Kp.own P 1 _)).alloc _⟩
 | false =>
  rw [if_neg (by simp)]
  have hb' : ((nxM ts N s).k != 1) = true:=by simp only [bne,hb];rfl
  generalize hx : nxM ts N s = x at *
  clear hx
  go_enter Tryz.func20,Tryz.ntmps20
  go_wp2_with (first
   | (go_at_call 38;(with_reducible refine (zwrong_any h1 hi).mono ?_);rintro e w2 ⟨rfl,h2,k2⟩;obtain ⟨q0,q1,q2,q3,qf⟩:=rowZ4 h2.row;rw [wrongM_i] at q1;have hz : ((s.i : Nat) : Int) ≤ 1000000:=(by omega);have hz0 : (0 : Int) ≤ ((s.i : Nat) : Int):=(by omega);have T2:=rowOld R1 k2 (fun e => hne e);have u1 : w2.cell? ⟨w1.heap.size,1,none⟩ = some (.string ⟨x.t.toArray⟩):=(by simp [World.cell?,T2]))
   | (go_at_call 37;(with_reducible refine X.mono ?_);rintro e w1 ⟨rfl,k1⟩;have h1:=HH.out.non (k1.alloc (.cells #[.int .i64 x.k,.string ⟨x.t.toArray⟩,.int .i64 (x.b : Int),.int .i64 (x.e : Int)] 43));have R1:=heap_alloc_new w1 (.cells #[.int .i64 x.k,.string ⟨x.t.toArray⟩,.int .i64 (x.b : Int),.int .i64 (x.e : Int)] 43);have hP1:=(HH.out.non k1).lt;have hne : ¬ w1.heap.size = P:=(by omega);have hne2 : ¬ P = w1.heap.size:=(by omega))
   | fail)
  go_ret
  exact ⟨rfl,h2.incr _ (by rw [wrongM_i]),((k1.alloc _).any.trans k2).trans (Kp.own P 1 _)⟩
end
end
section
open Go Go.RowKit Go.Shelf
section
variable (ts : List Tok) (N : Nat)
def refM (s : Sp) : (Bs × Bs) × Sp :=
  if isM ts N 0 [91] s then
    (if isM ts N 0 [33] (nameM ts N (incM s)).2 then
      (if isM ts N 0 [33] (mustM ts N 0 [93] (incM (nameM ts N (incM s)).2)) then (((nameM ts N (incM s)).1,[33,91,33]),incM (mustM ts N 0 [93] (incM (nameM ts N (incM s)).2)))
       else (((nameM ts N (incM s)).1,[33,91]),mustM ts N 0 [93] (incM (nameM ts N (incM s)).2)))
     else
      (if isM ts N 0 [33] (mustM ts N 0 [93] (nameM ts N (incM s)).2) then (((nameM ts N (incM s)).1,[91,33]),incM (mustM ts N 0 [93] (nameM ts N (incM s)).2))
       else (((nameM ts N (incM s)).1,[91]),mustM ts N 0 [93] (nameM ts N (incM s)).2)))
  else
    (if isM ts N 0 [33] (nameM ts N s).2 then (((nameM ts N s).1,[33]),incM (nameM ts N s).2) else (((nameM ts N s).1,[]),(nameM ts N s).2))
end
section
variable {ts : List Tok} {N : Nat} {P cap : Nat} {g : Option Addr} {w w' : World} {s : Sp}
theorem nameM_i (s : Sp) : (nameM ts N s).2.i = s.i + 1:=by
 unfold nameM incM
 dsimp only
 split
 ·rfl
 ·rw [wrongM_i]
theorem mustM_i (k : Int) (t : Bs) (s : Sp) : (mustM ts N k t s).i = s.i + 1:=by
 unfold mustM incM
 dsimp only
 split
 ·rfl
 ·rw [wrongM_i]
theorem Zp.oth (h : Zp ts N w P g cap s) (V i : Nat) (v : Value) (hP : V ≠ P) (hg : ∀ b o,g = some ⟨b,o,none⟩ → b ≠ V) : Zp ts N (w.setCell ⟨V,i,none⟩ v) P g cap s:=h.kp (Kp.own V i v) (fun e => hP e.symm) (fun b o e q => hg b o e q)
theorem int_of {k : Nat} (h : k ≤ 1000000) : ∃ J : Int,Hid (J = (k : Int)) ∧ 0 ≤ J ∧ J ≤ 1000000:=⟨_,rfl,by omega,by omega⟩
set_option maxRecDepth 100000 in
set_option maxHeartbeats 1000000 in
theorem zword_any (h : Zp ts N w P g cap s) (hi : s.i ≤ 999990) : Calls Tryz.prog 23 #[.pointer (some ⟨P,0,none⟩)] w fun e w' => e = .returned (.string ⟨(wordM ts N s).1.toArray⟩) ∧ Zp ts N w' P g cap (wordM ts N s).2 ∧ Kp (Own1 P) w w':=by
 have hi' : s.i ≤ 1000000:=by omega
 have X:=zis_any h hi' 1 [116,114,117,101]
 unfold wordM wordB
 clear h
 cases h1 : isM ts N 1 [116,114,117,101] s with
 | true =>
  rw [h1] at X
  simp only [Bool.true_or,if_true]
  clear h1
  go_enter Tryz.func23,Tryz.ntmps23
  go_wp2_with (first
   | (go_at_call 20;(with_reducible refine (zname_st z2 (by rw [wrongM_i];omega)).mono ?_);rintro e w3 ⟨rfl,z3,k3⟩)
   | (go_at_call 38;(with_reducible refine (zwrong_any z1 hi').mono ?_);rintro e w2 ⟨rfl,z2,k2⟩)
   | (go_at_call 19;(with_reducible refine X.mono ?_);rintro e w1 ⟨rfl,z1,k1⟩)
   | fail)
  go_ret
  exact ⟨rfl,z3,(k1.any.trans k2).trans k3⟩
 | false =>
  rw [h1] at X
  clear h1
  cases h2 : isM ts N 1 [102,97,108,115,101] s with
  | true =>
   simp only [Bool.false_or,Bool.true_or,if_true]
   have Y:=fun {W : World} (z : Zp ts N W P g cap s) => zis_any z hi' 1 [102,97,108,115,101]
   rw [h2] at Y
   clear h2
   go_enter Tryz.func23,Tryz.ntmps23
   go_wp2_with (first
    | (go_at_call 20;(with_reducible refine (zname_st z2 (by rw [wrongM_i];omega)).mono ?_);rintro e w3 ⟨rfl,z3,k3⟩)
    | (go_at_call 38;(with_reducible refine (zwrong_any y1 hi').mono ?_);rintro e w2 ⟨rfl,z2,k2⟩)
    | (go_at_call 19;(with_reducible refine (Y z1).mono ?_);rintro e v1 ⟨rfl,y1,j1⟩)
    | (go_at_call 19;(with_reducible refine X.mono ?_);rintro e w1 ⟨rfl,z1,k1⟩)
    | fail)
   go_ret
   exact ⟨rfl,z3,((k1.trans j1).any.trans k2).trans k3⟩
  | false =>
   simp only [Bool.false_or]
   have Y:=fun {W : World} (z : Zp ts N W P g cap s) => zis_any z hi' 1 [102,97,108,115,101]
   rw [h2] at Y
   clear h2
   have V:=fun {W : World} (z : Zp ts N W P g cap s) => zis_any z hi' 1 [110,117,108,108]
   cases h3 : isM ts N 1 [110,117,108,108] s with
   | true =>
    rw [h3] at V
    rw [if_pos rfl]
    clear h3
    go_enter Tryz.func23,Tryz.ntmps23
    go_wp2_with (first
     | (go_at_call 20;(with_reducible refine (zname_st z2 (by rw [wrongM_i];omega)).mono ?_);rintro e w3 ⟨rfl,z3,k3⟩)
     | (go_at_call 38;(with_reducible refine (zwrong_any x1 hi').mono ?_);rintro e w2 ⟨rfl,z2,k2⟩)
     | (go_at_call 19;(with_reducible refine (V y1).mono ?_);rintro e u1 ⟨rfl,x1,i1⟩)
     | (go_at_call 19;(with_reducible refine (Y z1).mono ?_);rintro e v1 ⟨rfl,y1,j1⟩)
     | (go_at_call 19;(with_reducible refine X.mono ?_);rintro e w1 ⟨rfl,z1,k1⟩)
     | fail)
    go_ret
    exact ⟨rfl,z3,(((k1.trans j1).trans i1).any.trans k2).trans k3⟩
   | false =>
    rw [h3] at V
    rw [if_neg (by simp)]
    clear h3
    go_enter Tryz.func23,Tryz.ntmps23
    go_wp2_with (first
     | (go_at_call 20;(with_reducible refine (zname_st x1 hi').mono ?_);rintro e w3 ⟨rfl,z3,k3⟩)
     | (go_at_call 19;(with_reducible refine (V y1).mono ?_);rintro e u1 ⟨rfl,x1,i1⟩)
     | (go_at_call 19;(with_reducible refine (Y z1).mono ?_);rintro e v1 ⟨rfl,y1,j1⟩)
     | (go_at_call 19;(with_reducible refine X.mono ?_);rintro e w1 ⟨rfl,z1,k1⟩)
     | fail)
    go_ret
    exact ⟨rfl,z3,((k1.trans j1).trans i1).any.trans k3⟩
set_option maxRecDepth 100000 in
set_option maxHeartbeats 4000000 in
theorem zref_rnm (h : Zp ts N w P g cap s) (hne : ∀ b o,g = some ⟨b,o,none⟩ → b < w.heap.size) (hi : s.i ≤ 999990) (h1 : isM ts N 0 [91] s = false) (h3 : isM ts N 0 [33] (nameM ts N (s)).2 = false) : Calls Tryz.prog 39 #[.pointer (some ⟨P,0,none⟩)] w fun e w' => e = .returned (.agg #[.string ⟨(refM ts N s).1.1.toArray⟩,.string ⟨(refM ts N s).1.2.toArray⟩]) ∧ Zp ts N w' P g cap (refM ts N s).2 ∧ Kp (Own1 P) w w':=by
 have hP:=h.lt
 obtain ⟨w0,hw0⟩ : ∃ w0,w0 = (w.alloc (.cells #[.string ⟨#[]⟩,.string ⟨#[]⟩] 61)).alloc (.cells #[.string ⟨#[]⟩,.string ⟨#[]⟩] 61):=⟨_,rfl⟩
 have k0 : Kp Non w w0:=by rw [hw0];exact ((Kp.refl Non w).alloc _).alloc _
 have Q1 : w0.heap[w.heap.size + 1]? = some (.cells #[.string ⟨#[]⟩,.string ⟨#[]⟩] 61 (0,0)):=by
  rw [hw0]
  have:=heap_alloc_new (w.alloc (.cells #[.string ⟨#[]⟩,.string ⟨#[]⟩] 61)) (.cells #[.string ⟨#[]⟩,.string ⟨#[]⟩] 61)
  rw [World.size_alloc] at this
  exact this
 have Q0 : w0.heap[w.heap.size]? = some (.cells #[.string ⟨#[]⟩,.string ⟨#[]⟩] 61 (0,0)):=by rw [hw0];exact rowOld (heap_alloc_new w _) ((Kp.refl Non _).alloc _) (fun e => e)
 have z0:=h.non k0
 unfold refM
 rw [h1,h3]
 simp only [if_false,Bool.false_eq_true]
 have hVP : ¬ w.heap.size + 1 = P:=by omega
 have nV2 : ¬ Own1 P (w.heap.size + 1):=fun e => hVP e
 have nW2 : ¬ Own1 P w.heap.size:=fun e => by have e' : w.heap.size = P:=e;omega
 have nWV : ¬ Own1 (w.heap.size + 1) w.heap.size:=fun e => by have e' : w.heap.size = w.heap.size + 1:=e;omega
 have hgV : ∀ b o,g = some ⟨b,o,none⟩ → b ≠ w.heap.size + 1:=fun b o e q => by have:=hne b o e;omega
 have hgW : ∀ b o,g = some ⟨b,o,none⟩ → b ≠ w.heap.size:=fun b o e q => by have:=hne b o e;omega
 have hWP : ¬ w.heap.size = P:=by omega
 have nPV : ¬ P = w.heap.size + 1:=by omega
 have nPW : ¬ P = w.heap.size:=by omega
 obtain ⟨SS,hSS⟩ : ∃ SS : Nat → Prop,SS = fun k => k = P ∨ k = P ∨ w.heap.size ≤ k:=⟨_,rfl⟩
 have hzi : ((s.i : Nat) : Int) ≤ 999990:=by omega
 have hz0 : (0 : Int) ≤ ((s.i : Nat) : Int):=by omega
 have bi0 : s.i ≤ 1000000:=by omega
 have bi1 : (incM s).i ≤ 1000000:=by show s.i + 1 ≤ _;omega
 have C1:=zis_any z0 (by omega) 0 [91]
 rw [h1] at C1
 have hb3 : (nameM ts N (s)).2.i ≤ 1000000:=by rw [nameM_i];show s.i + 1 ≤ _;omega
 have cc1 : (ByteArray.mk #[]) ++ (ByteArray.mk #[91]) = ⟨#[91]⟩:=rfl
 have cc2 : (ByteArray.mk #[33]) ++ (ByteArray.mk #[91]) = ⟨#[33,91]⟩:=rfl
 have cc3 : (ByteArray.mk #[91]) ++ (ByteArray.mk #[33]) = ⟨#[91,33]⟩:=rfl
 have cc4 : (ByteArray.mk #[33,91]) ++ (ByteArray.mk #[33]) = ⟨#[33,91,33]⟩:=rfl
 have C3:=fun {W : World} (z : Zp ts N W P g cap (nameM ts N (s)).2) => zis_any z (by rw [nameM_i];show s.i + 1 ≤ _;omega) 0 [33]
 rw [h3] at C3
 clear h1 h3
 go_enter Tryz.func39,Tryz.ntmps39
 go_wp2_with (first
  | (go_at_call 19;(with_reducible refine (C3 y2).mono ?_);rintro e w3 ⟨rfl,z3,k3⟩;have R3:=rowOld R2' k3 (fun e => e);have E3:=rowOld E2' k3 (fun e => e);obtain ⟨v0,v1,vf⟩:=row2 R3;obtain ⟨m0,m1,m2,m3,mf⟩:=rowZ4 z3.row;obtain ⟨J,hJ,hJ0,hJ1⟩:=int_of (hb3 : (nameM ts N (s)).2.i ≤ 1000000);rw [← hJ.out] at m1;have K3 : Kp SS w0 w3:=K2.trans k3.any;obtain ⟨x0,x1,xf⟩:=row2 E3)
  | (go_at_call 20;(with_reducible refine (zname_st z1 bi0).mono ?_);rintro e w2 ⟨rfl,z2,k2⟩;have R2:=rowOld R1 k2 (fun e => nV2 e);have E2:=rowOld E1 k2 (fun e => nW2 e);obtain ⟨u0,u1,uf⟩:=row2 R2;have K2 : Kp SS w0 (w2.setCell ⟨w.heap.size + 1,0,none⟩ (.string ⟨(nameM ts N (s)).1.toArray⟩)):=(K1.trans (k2.mono fun _ _ e => by rw [hSS];exact Or.inl e)).set (w.heap.size + 1) 0 _ (Or.inr (by rw [hSS];exact Or.inr (Or.inr (by omega))));have R2':=heap_setCell_same _ (w.heap.size + 1) 0 _ _ (.string ⟨(nameM ts N (s)).1.toArray⟩) R2;have E2':=rowOld E2 (Kp.own (w.heap.size + 1) 0 (.string ⟨(nameM ts N (s)).1.toArray⟩)) nWV;have y2:=z2.oth (w.heap.size + 1) 0 (.string ⟨(nameM ts N (s)).1.toArray⟩) (fun e => nV2 e) hgV)
  | (go_at_call 19;rw [← hw0];(with_reducible refine C1.mono ?_);rintro e w1 ⟨rfl,z1,k1⟩;have K1 : Kp SS w0 w1:=k1.any;obtain ⟨q0,q1,q2,q3,qf⟩:=rowZ4 z1.row;have R1:=rowOld Q1 k1 (fun e => e);have E1:=rowOld Q0 k1 (fun e => e))
  | fail)
 refine bodyPost_ret (v:=.agg #[.string ⟨(nameM ts N (s)).1.toArray⟩,.string ⟨#[]⟩]) (by simp [results,Tryz.results39,go_sem, *]) rfl ⟨rfl,(z3.oth w.heap.size 0 (.string ⟨(nameM ts N (s)).1.toArray⟩) hWP hgW).oth w.heap.size 1 (.string ⟨#[]⟩) hWP hgW,?_⟩
 refine (k0.any : Kp (Own1 P) w w0).tr2 ((K3.set w.heap.size 0 _ (Or.inr (by rw [hSS];exact Or.inr (Or.inr (Nat.le_refl _))))).set w.heap.size 1 _ (Or.inr (by rw [hSS];exact Or.inr (Or.inr (Nat.le_refl _))))) ?_
 intro k hk e
 rw [hSS] at e
 rcases e with e | e | e
 ·exact e
 ·exact e
 ·omega
set_option maxRecDepth 100000 in
set_option maxHeartbeats 4000000 in
theorem zref_rnb (h : Zp ts N w P g cap s) (hne : ∀ b o,g = some ⟨b,o,none⟩ → b < w.heap.size) (hi : s.i ≤ 999990) (h1 : isM ts N 0 [91] s = false) (h3 : isM ts N 0 [33] (nameM ts N (s)).2 = true) : Calls Tryz.prog 39 #[.pointer (some ⟨P,0,none⟩)] w fun e w' => e = .returned (.agg #[.string ⟨(refM ts N s).1.1.toArray⟩,.string ⟨(refM ts N s).1.2.toArray⟩]) ∧ Zp ts N w' P g cap (refM ts N s).2 ∧ Kp (Own1 P) w w':=by
 have hP:=h.lt
 obtain ⟨w0,hw0⟩ : ∃ w0,w0 = (w.alloc (.cells #[.string ⟨#[]⟩,.string ⟨#[]⟩] 61)).alloc (.cells #[.string ⟨#[]⟩,.string ⟨#[]⟩] 61):=⟨_,rfl⟩
 have k0 : Kp Non w w0:=by rw [hw0];exact ((Kp.refl Non w).alloc _).alloc _
 have Q1 : w0.heap[w.heap.size + 1]? = some (.cells #[.string ⟨#[]⟩,.string ⟨#[]⟩] 61 (0,0)):=by
  rw [hw0]
  have:=heap_alloc_new (w.alloc (.cells #[.string ⟨#[]⟩,.string ⟨#[]⟩] 61)) (.cells #[.string ⟨#[]⟩,.string ⟨#[]⟩] 61)
  rw [World.size_alloc] at this
  exact this
 have Q0 : w0.heap[w.heap.size]? = some (.cells #[.string ⟨#[]⟩,.string ⟨#[]⟩] 61 (0,0)):=by rw [hw0];exact rowOld (heap_alloc_new w _) ((Kp.refl Non _).alloc _) (fun e => e)
 have z0:=h.non k0
 unfold refM
 rw [h1,h3]
 simp only [if_true,if_false,Bool.false_eq_true]
 have hVP : ¬ w.heap.size + 1 = P:=by omega
 have nV2 : ¬ Own1 P (w.heap.size + 1):=fun e => hVP e
 have nW2 : ¬ Own1 P w.heap.size:=fun e => by have e' : w.heap.size = P:=e;omega
 have nWV : ¬ Own1 (w.heap.size + 1) w.heap.size:=fun e => by have e' : w.heap.size = w.heap.size + 1:=e;omega
 have hgV : ∀ b o,g = some ⟨b,o,none⟩ → b ≠ w.heap.size + 1:=fun b o e q => by have:=hne b o e;omega
 have hgW : ∀ b o,g = some ⟨b,o,none⟩ → b ≠ w.heap.size:=fun b o e q => by have:=hne b o e;omega
 have hWP : ¬ w.heap.size = P:=by omega
 have nPV : ¬ P = w.heap.size + 1:=by omega
 have nPW : ¬ P = w.heap.size:=by omega
 obtain ⟨SS,hSS⟩ : ∃ SS : Nat → Prop,SS = fun k => k = P ∨ k = P ∨ w.heap.size ≤ k:=⟨_,rfl⟩
 have hzi : ((s.i : Nat) : Int) ≤ 999990:=by omega
 have hz0 : (0 : Int) ≤ ((s.i : Nat) : Int):=by omega
 have bi0 : s.i ≤ 1000000:=by omega
 have bi1 : (incM s).i ≤ 1000000:=by show s.i + 1 ≤ _;omega
 have C1:=zis_any z0 (by omega) 0 [91]
 rw [h1] at C1
 have hb3 : (nameM ts N (s)).2.i ≤ 1000000:=by rw [nameM_i];show s.i + 1 ≤ _;omega
 have cc1 : (ByteArray.mk #[]) ++ (ByteArray.mk #[91]) = ⟨#[91]⟩:=rfl
 have cc2 : (ByteArray.mk #[33]) ++ (ByteArray.mk #[91]) = ⟨#[33,91]⟩:=rfl
 have cc3 : (ByteArray.mk #[91]) ++ (ByteArray.mk #[33]) = ⟨#[91,33]⟩:=rfl
 have cc4 : (ByteArray.mk #[33,91]) ++ (ByteArray.mk #[33]) = ⟨#[33,91,33]⟩:=rfl
 have C3:=fun {W : World} (z : Zp ts N W P g cap (nameM ts N (s)).2) => zis_any z (by rw [nameM_i];show s.i + 1 ≤ _;omega) 0 [33]
 rw [h3] at C3
 clear h1 h3
 go_enter Tryz.func39,Tryz.ntmps39
 go_wp2_with (first
  | (go_at_call 19;(with_reducible refine (C3 y2).mono ?_);rintro e w3 ⟨rfl,z3,k3⟩;have R3:=rowOld R2' k3 (fun e => e);have E3:=rowOld E2' k3 (fun e => e);obtain ⟨v0,v1,vf⟩:=row2 R3;obtain ⟨m0,m1,m2,m3,mf⟩:=rowZ4 z3.row;obtain ⟨J,hJ,hJ0,hJ1⟩:=int_of (hb3 : (nameM ts N (s)).2.i ≤ 1000000);rw [← hJ.out] at m1;have K3 : Kp SS w0 w3:=K2.trans k3.any;obtain ⟨x0,x1,xf⟩:=row2 E3;have R3':=heap_setCell_same _ (w.heap.size + 1) 1 _ _ (.string ⟨#[33]⟩) (rowOld R3 (Kp.own P 1 (.int .i64 (J + 1))) (fun e => nV2 e));have E3':=rowOld (rowOld E3 (Kp.own P 1 (.int .i64 (J + 1))) (fun e => nW2 e)) (Kp.own (w.heap.size + 1) 1 (.string ⟨#[33]⟩)) nWV;have y3:=(z3.incr (J + 1) (by rw [hJ.out])).oth (w.heap.size + 1) 1 (.string ⟨#[33]⟩) (fun e => nV2 e) hgV;have K3':=(K3.set P 1 (.int .i64 (J + 1)) (Or.inr (by rw [hSS];exact Or.inl rfl))).set (w.heap.size + 1) 1 (.string ⟨#[33]⟩) (Or.inr (by rw [hSS];exact Or.inr (Or.inr (by omega))));obtain ⟨t0,t1,tf⟩:=row2 R3';obtain ⟨o0,o1,of⟩:=row2 E3')
  | (go_at_call 20;(with_reducible refine (zname_st z1 bi0).mono ?_);rintro e w2 ⟨rfl,z2,k2⟩;have R2:=rowOld R1 k2 (fun e => nV2 e);have E2:=rowOld E1 k2 (fun e => nW2 e);obtain ⟨u0,u1,uf⟩:=row2 R2;have K2 : Kp SS w0 (w2.setCell ⟨w.heap.size + 1,0,none⟩ (.string ⟨(nameM ts N (s)).1.toArray⟩)):=(K1.trans (k2.mono fun _ _ e => by rw [hSS];exact Or.inl e)).set (w.heap.size + 1) 0 _ (Or.inr (by rw [hSS];exact Or.inr (Or.inr (by omega))));have R2':=heap_setCell_same _ (w.heap.size + 1) 0 _ _ (.string ⟨(nameM ts N (s)).1.toArray⟩) R2;have E2':=rowOld E2 (Kp.own (w.heap.size + 1) 0 (.string ⟨(nameM ts N (s)).1.toArray⟩)) nWV;have y2:=z2.oth (w.heap.size + 1) 0 (.string ⟨(nameM ts N (s)).1.toArray⟩) (fun e => nV2 e) hgV)
  | (go_at_call 19;rw [← hw0];(with_reducible refine C1.mono ?_);rintro e w1 ⟨rfl,z1,k1⟩;have K1 : Kp SS w0 w1:=k1.any;obtain ⟨q0,q1,q2,q3,qf⟩:=rowZ4 z1.row;have R1:=rowOld Q1 k1 (fun e => e);have E1:=rowOld Q0 k1 (fun e => e))
  | fail)
 refine bodyPost_ret (v:=.agg #[.string ⟨(nameM ts N (s)).1.toArray⟩,.string ⟨#[33]⟩]) (by simp [results,Tryz.results39,go_sem, *]) rfl ⟨rfl,(y3.oth w.heap.size 0 (.string ⟨(nameM ts N (s)).1.toArray⟩) hWP hgW).oth w.heap.size 1 (.string ⟨#[33]⟩) hWP hgW,?_⟩
 refine (k0.any : Kp (Own1 P) w w0).tr2 ((K3'.set w.heap.size 0 _ (Or.inr (by rw [hSS];exact Or.inr (Or.inr (Nat.le_refl _))))).set w.heap.size 1 _ (Or.inr (by rw [hSS];exact Or.inr (Or.inr (Nat.le_refl _))))) ?_
 intro k hk e
 rw [hSS] at e
 rcases e with e | e | e
 ·exact e
 ·exact e
 ·omega
set_option maxRecDepth 100000 in
set_option maxHeartbeats 4000000 in
theorem zref_rlmd (h : Zp ts N w P g cap s) (hne : ∀ b o,g = some ⟨b,o,none⟩ → b < w.heap.size) (hi : s.i ≤ 999990) (h1 : isM ts N 0 [91] s = true) (h3 : isM ts N 0 [33] (nameM ts N (incM s)).2 = false) (h5 : isM ts N 0 [33] (mustM ts N 0 [93] (nameM ts N (incM s)).2) = false) : Calls Tryz.prog 39 #[.pointer (some ⟨P,0,none⟩)] w fun e w' => e = .returned (.agg #[.string ⟨(refM ts N s).1.1.toArray⟩,.string ⟨(refM ts N s).1.2.toArray⟩]) ∧ Zp ts N w' P g cap (refM ts N s).2 ∧ Kp (Own1 P) w w':=by
 have hP:=h.lt
 obtain ⟨w0,hw0⟩ : ∃ w0,w0 = (w.alloc (.cells #[.string ⟨#[]⟩,.string ⟨#[]⟩] 61)).alloc (.cells #[.string ⟨#[]⟩,.string ⟨#[]⟩] 61):=⟨_,rfl⟩
 have k0 : Kp Non w w0:=by rw [hw0];exact ((Kp.refl Non w).alloc _).alloc _
 have Q1 : w0.heap[w.heap.size + 1]? = some (.cells #[.string ⟨#[]⟩,.string ⟨#[]⟩] 61 (0,0)):=by
  rw [hw0]
  have:=heap_alloc_new (w.alloc (.cells #[.string ⟨#[]⟩,.string ⟨#[]⟩] 61)) (.cells #[.string ⟨#[]⟩,.string ⟨#[]⟩] 61)
  rw [World.size_alloc] at this
  exact this
 have Q0 : w0.heap[w.heap.size]? = some (.cells #[.string ⟨#[]⟩,.string ⟨#[]⟩] 61 (0,0)):=by rw [hw0];exact rowOld (heap_alloc_new w _) ((Kp.refl Non _).alloc _) (fun e => e)
 have z0:=h.non k0
 unfold refM
 rw [h1,h3,h5]
 simp only [if_true,if_false,Bool.false_eq_true]
 have hVP : ¬ w.heap.size + 1 = P:=by omega
 have nV2 : ¬ Own1 P (w.heap.size + 1):=fun e => hVP e
 have nW2 : ¬ Own1 P w.heap.size:=fun e => by have e' : w.heap.size = P:=e;omega
 have nWV : ¬ Own1 (w.heap.size + 1) w.heap.size:=fun e => by have e' : w.heap.size = w.heap.size + 1:=e;omega
 have hgV : ∀ b o,g = some ⟨b,o,none⟩ → b ≠ w.heap.size + 1:=fun b o e q => by have:=hne b o e;omega
 have hgW : ∀ b o,g = some ⟨b,o,none⟩ → b ≠ w.heap.size:=fun b o e q => by have:=hne b o e;omega
 have hWP : ¬ w.heap.size = P:=by omega
 have nPV : ¬ P = w.heap.size + 1:=by omega
 have nPW : ¬ P = w.heap.size:=by omega
 obtain ⟨SS,hSS⟩ : ∃ SS : Nat → Prop,SS = fun k => k = P ∨ k = P ∨ w.heap.size ≤ k:=⟨_,rfl⟩
 have hzi : ((s.i : Nat) : Int) ≤ 999990:=by omega
 have hz0 : (0 : Int) ≤ ((s.i : Nat) : Int):=by omega
 have bi0 : s.i ≤ 1000000:=by omega
 have bi1 : (incM s).i ≤ 1000000:=by show s.i + 1 ≤ _;omega
 have C1:=zis_any z0 (by omega) 0 [91]
 rw [h1] at C1
 have hb3 : (nameM ts N (incM s)).2.i ≤ 1000000:=by rw [nameM_i];show s.i + 1 + 1 ≤ _;omega
 have cc1 : (ByteArray.mk #[]) ++ (ByteArray.mk #[91]) = ⟨#[91]⟩:=rfl
 have cc2 : (ByteArray.mk #[33]) ++ (ByteArray.mk #[91]) = ⟨#[33,91]⟩:=rfl
 have cc3 : (ByteArray.mk #[91]) ++ (ByteArray.mk #[33]) = ⟨#[91,33]⟩:=rfl
 have cc4 : (ByteArray.mk #[33,91]) ++ (ByteArray.mk #[33]) = ⟨#[33,91,33]⟩:=rfl
 have C3:=fun {W : World} (z : Zp ts N W P g cap (nameM ts N (incM s)).2) => zis_any z (by rw [nameM_i];show s.i + 1 + 1 ≤ _;omega) 0 [33]
 rw [h3] at C3
 have hb5 : (mustM ts N 0 [93] (nameM ts N (incM s)).2).i ≤ 1000000:=by rw [mustM_i,nameM_i];show s.i + 1 + 1 + 1 ≤ _;omega
 have C4:=fun {W : World} (z : Zp ts N W P g cap (nameM ts N (incM s)).2) => zmust_any z (by rw [nameM_i];show s.i + 1 + 1 ≤ _;omega) 0 [93]
 have C5:=fun {W : World} (z : Zp ts N W P g cap (mustM ts N 0 [93] (nameM ts N (incM s)).2)) => zis_any z (by rw [mustM_i,nameM_i];show s.i + 1 + 1 + 1 ≤ _;omega) 0 [33]
 rw [h5] at C5
 clear h1 h3 h5
 go_enter Tryz.func39,Tryz.ntmps39
 go_wp2_with (first
  | (go_at_call 19;(with_reducible refine (C5 y4).mono ?_);rintro e w5 ⟨rfl,z5,k5⟩;have R5:=rowOld R4' k5 (fun e => e);have E5:=rowOld E4' k5 (fun e => e);obtain ⟨c0,c1,cf⟩:=row2 R5;obtain ⟨d0,d1,df⟩:=row2 E5;obtain ⟨n0,n1,n2,n3,nf⟩:=rowZ4 z5.row;obtain ⟨H,hH,hH0,hH1⟩:=int_of hb5;rw [← hH.out] at n1;have K5 : Kp SS w0 w5:=K4.trans k5.any)
  | (go_at_call 21;(with_reducible refine (C4 z3).mono ?_);rintro e w4 ⟨rfl,z4,k4⟩;have R4:=rowOld R3 k4 (fun e => nV2 e);have E4:=rowOld E3 k4 (fun e => nW2 e);obtain ⟨a0,a1,af⟩:=row2 R4;have K4 : Kp SS w0 (w4.setCell ⟨w.heap.size + 1,1,none⟩ (.string ⟨#[91]⟩)):=(K3.trans (k4.mono fun _ _ e => by rw [hSS];exact Or.inl e)).set (w.heap.size + 1) 1 _ (Or.inr (by rw [hSS];exact Or.inr (Or.inr (by omega))));have R4':=heap_setCell_same _ (w.heap.size + 1) 1 _ _ (.string ⟨#[91]⟩) R4;have E4':=rowOld E4 (Kp.own (w.heap.size + 1) 1 (.string ⟨#[91]⟩)) nWV;have y4:=z4.oth (w.heap.size + 1) 1 (.string ⟨#[91]⟩) (fun e => nV2 e) hgV)
  | (go_at_call 19;(with_reducible refine (C3 y2).mono ?_);rintro e w3 ⟨rfl,z3,k3⟩;have R3:=rowOld R2' k3 (fun e => e);have E3:=rowOld E2' k3 (fun e => e);obtain ⟨v0,v1,vf⟩:=row2 R3;obtain ⟨m0,m1,m2,m3,mf⟩:=rowZ4 z3.row;obtain ⟨J,hJ,hJ0,hJ1⟩:=int_of (hb3 : (nameM ts N (incM s)).2.i ≤ 1000000);rw [← hJ.out] at m1;have K3 : Kp SS w0 w3:=K2.trans k3.any;obtain ⟨x0,x1,xf⟩:=row2 E3)
  | (go_at_call 20;(with_reducible refine (zname_st (z1.incr ((s.i : Int) + 1) rfl) bi1).mono ?_);rintro e w2 ⟨rfl,z2,k2⟩;have R2:=rowOld R1' k2 (fun e => nV2 e);have E2:=rowOld E1' k2 (fun e => nW2 e);obtain ⟨u0,u1,uf⟩:=row2 R2;have K2 : Kp SS w0 (w2.setCell ⟨w.heap.size + 1,0,none⟩ (.string ⟨(nameM ts N (incM s)).1.toArray⟩)):=(K1'.trans (k2.mono fun _ _ e => by rw [hSS];exact Or.inl e)).set (w.heap.size + 1) 0 _ (Or.inr (by rw [hSS];exact Or.inr (Or.inr (by omega))));have R2':=heap_setCell_same _ (w.heap.size + 1) 0 _ _ (.string ⟨(nameM ts N (incM s)).1.toArray⟩) R2;have E2':=rowOld E2 (Kp.own (w.heap.size + 1) 0 (.string ⟨(nameM ts N (incM s)).1.toArray⟩)) nWV;have y2:=z2.oth (w.heap.size + 1) 0 (.string ⟨(nameM ts N (incM s)).1.toArray⟩) (fun e => nV2 e) hgV)
  | (go_at_call 19;rw [← hw0];(with_reducible refine C1.mono ?_);rintro e w1 ⟨rfl,z1,k1⟩;have K1 : Kp SS w0 w1:=k1.any;obtain ⟨q0,q1,q2,q3,qf⟩:=rowZ4 z1.row;have R1:=rowOld Q1 k1 (fun e => e);have E1:=rowOld Q0 k1 (fun e => e);have K1' : Kp SS w0 (w1.setCell ⟨P,1,none⟩ (.int .i64 ((s.i : Int) + 1))):=K1.set P 1 _ (Or.inr (by rw [hSS];exact Or.inl rfl));have R1':=rowOld R1 (Kp.own P 1 (.int .i64 ((s.i : Int) + 1))) (fun e => nV2 e);have E1':=rowOld E1 (Kp.own P 1 (.int .i64 ((s.i : Int) + 1))) (fun e => nW2 e))
  | fail)
 refine bodyPost_ret (v:=.agg #[.string ⟨(nameM ts N (incM s)).1.toArray⟩,.string ⟨#[91]⟩]) (by simp [results,Tryz.results39,go_sem, *]) rfl ⟨rfl,(z5.oth w.heap.size 0 (.string ⟨(nameM ts N (incM s)).1.toArray⟩) hWP hgW).oth w.heap.size 1 (.string ⟨#[91]⟩) hWP hgW,?_⟩
 refine (k0.any : Kp (Own1 P) w w0).tr2 ((K5.set w.heap.size 0 _ (Or.inr (by rw [hSS];exact Or.inr (Or.inr (Nat.le_refl _))))).set w.heap.size 1 _ (Or.inr (by rw [hSS];exact Or.inr (Or.inr (Nat.le_refl _))))) ?_
 intro k hk e
 rw [hSS] at e
 rcases e with e | e | e
 ·exact e
 ·exact e
 ·omega
set_option maxRecDepth 100000 in
set_option maxHeartbeats 4000000 in
theorem zref_rlmc (h : Zp ts N w P g cap s) (hne : ∀ b o,g = some ⟨b,o,none⟩ → b < w.heap.size) (hi : s.i ≤ 999990) (h1 : isM ts N 0 [91] s = true) (h3 : isM ts N 0 [33] (nameM ts N (incM s)).2 = false) (h5 : isM ts N 0 [33] (mustM ts N 0 [93] (nameM ts N (incM s)).2) = true) : Calls Tryz.prog 39 #[.pointer (some ⟨P,0,none⟩)] w fun e w' => e = .returned (.agg #[.string ⟨(refM ts N s).1.1.toArray⟩,.string ⟨(refM ts N s).1.2.toArray⟩]) ∧ Zp ts N w' P g cap (refM ts N s).2 ∧ Kp (Own1 P) w w':=by
 have hP:=h.lt
 obtain ⟨w0,hw0⟩ : ∃ w0,w0 = (w.alloc (.cells #[.string ⟨#[]⟩,.string ⟨#[]⟩] 61)).alloc (.cells #[.string ⟨#[]⟩,.string ⟨#[]⟩] 61):=⟨_,rfl⟩
 have k0 : Kp Non w w0:=by rw [hw0];exact ((Kp.refl Non w).alloc _).alloc _
 have Q1 : w0.heap[w.heap.size + 1]? = some (.cells #[.string ⟨#[]⟩,.string ⟨#[]⟩] 61 (0,0)):=by
  rw [hw0]
  have:=heap_alloc_new (w.alloc (.cells #[.string ⟨#[]⟩,.string ⟨#[]⟩] 61)) (.cells #[.string ⟨#[]⟩,.string ⟨#[]⟩] 61)
  rw [World.size_alloc] at this
  exact this
 have Q0 : w0.heap[w.heap.size]? = some (.cells #[.string ⟨#[]⟩,.string ⟨#[]⟩] 61 (0,0)):=by rw [hw0];exact rowOld (heap_alloc_new w _) ((Kp.refl Non _).alloc _) (fun e => e)
 have z0:=h.non k0
 unfold refM
 rw [h1,h3,h5]
 simp only [if_true,if_false,Bool.false_eq_true]
 have hVP : ¬ w.heap.size + 1 = P:=by omega
 have nV2 : ¬ Own1 P (w.heap.size + 1):=fun e => hVP e
 have nW2 : ¬ Own1 P w.heap.size:=fun e => by have e' : w.heap.size = P:=e;omega
 have nWV : ¬ Own1 (w.heap.size + 1) w.heap.size:=fun e => by have e' : w.heap.size = w.heap.size + 1:=e;omega
 have hgV : ∀ b o,g = some ⟨b,o,none⟩ → b ≠ w.heap.size + 1:=fun b o e q => by have:=hne b o e;omega
 have hgW : ∀ b o,g = some ⟨b,o,none⟩ → b ≠ w.heap.size:=fun b o e q => by have:=hne b o e;omega
 have hWP : ¬ w.heap.size = P:=by omega
 have nPV : ¬ P = w.heap.size + 1:=by omega
 have nPW : ¬ P = w.heap.size:=by omega
 obtain ⟨SS,hSS⟩ : ∃ SS : Nat → Prop,SS = fun k => k = P ∨ k = P ∨ w.heap.size ≤ k:=⟨_,rfl⟩
 have hzi : ((s.i : Nat) : Int) ≤ 999990:=by omega
 have hz0 : (0 : Int) ≤ ((s.i : Nat) : Int):=by omega
 have bi0 : s.i ≤ 1000000:=by omega
 have bi1 : (incM s).i ≤ 1000000:=by show s.i + 1 ≤ _;omega
 have C1:=zis_any z0 (by omega) 0 [91]
 rw [h1] at C1
 have hb3 : (nameM ts N (incM s)).2.i ≤ 1000000:=by rw [nameM_i];show s.i + 1 + 1 ≤ _;omega
 have cc1 : (ByteArray.mk #[]) ++ (ByteArray.mk #[91]) = ⟨#[91]⟩:=rfl
 have cc2 : (ByteArray.mk #[33]) ++ (ByteArray.mk #[91]) = ⟨#[33,91]⟩:=rfl
 have cc3 : (ByteArray.mk #[91]) ++ (ByteArray.mk #[33]) = ⟨#[91,33]⟩:=rfl
 have cc4 : (ByteArray.mk #[33,91]) ++ (ByteArray.mk #[33]) = ⟨#[33,91,33]⟩:=rfl
 have C3:=fun {W : World} (z : Zp ts N W P g cap (nameM ts N (incM s)).2) => zis_any z (by rw [nameM_i];show s.i + 1 + 1 ≤ _;omega) 0 [33]
 rw [h3] at C3
 have hb5 : (mustM ts N 0 [93] (nameM ts N (incM s)).2).i ≤ 1000000:=by rw [mustM_i,nameM_i];show s.i + 1 + 1 + 1 ≤ _;omega
 have C4:=fun {W : World} (z : Zp ts N W P g cap (nameM ts N (incM s)).2) => zmust_any z (by rw [nameM_i];show s.i + 1 + 1 ≤ _;omega) 0 [93]
 have C5:=fun {W : World} (z : Zp ts N W P g cap (mustM ts N 0 [93] (nameM ts N (incM s)).2)) => zis_any z (by rw [mustM_i,nameM_i];show s.i + 1 + 1 + 1 ≤ _;omega) 0 [33]
 rw [h5] at C5
 clear h1 h3 h5
 go_enter Tryz.func39,Tryz.ntmps39
 go_wp2_with (first
  | (go_at_call 19;(with_reducible refine (C5 y4).mono ?_);rintro e w5 ⟨rfl,z5,k5⟩;have R5:=rowOld R4' k5 (fun e => e);have E5:=rowOld E4' k5 (fun e => e);obtain ⟨c0,c1,cf⟩:=row2 R5;obtain ⟨d0,d1,df⟩:=row2 E5;obtain ⟨n0,n1,n2,n3,nf⟩:=rowZ4 z5.row;obtain ⟨H,hH,hH0,hH1⟩:=int_of hb5;rw [← hH.out] at n1;have K5 : Kp SS w0 w5:=K4.trans k5.any)
  | (go_at_call 21;(with_reducible refine (C4 z3).mono ?_);rintro e w4 ⟨rfl,z4,k4⟩;have R4:=rowOld R3 k4 (fun e => nV2 e);have E4:=rowOld E3 k4 (fun e => nW2 e);obtain ⟨a0,a1,af⟩:=row2 R4;have K4 : Kp SS w0 (w4.setCell ⟨w.heap.size + 1,1,none⟩ (.string ⟨#[91]⟩)):=(K3.trans (k4.mono fun _ _ e => by rw [hSS];exact Or.inl e)).set (w.heap.size + 1) 1 _ (Or.inr (by rw [hSS];exact Or.inr (Or.inr (by omega))));have R4':=heap_setCell_same _ (w.heap.size + 1) 1 _ _ (.string ⟨#[91]⟩) R4;have E4':=rowOld E4 (Kp.own (w.heap.size + 1) 1 (.string ⟨#[91]⟩)) nWV;have y4:=z4.oth (w.heap.size + 1) 1 (.string ⟨#[91]⟩) (fun e => nV2 e) hgV)
  | (go_at_call 19;(with_reducible refine (C3 y2).mono ?_);rintro e w3 ⟨rfl,z3,k3⟩;have R3:=rowOld R2' k3 (fun e => e);have E3:=rowOld E2' k3 (fun e => e);obtain ⟨v0,v1,vf⟩:=row2 R3;obtain ⟨m0,m1,m2,m3,mf⟩:=rowZ4 z3.row;obtain ⟨J,hJ,hJ0,hJ1⟩:=int_of (hb3 : (nameM ts N (incM s)).2.i ≤ 1000000);rw [← hJ.out] at m1;have K3 : Kp SS w0 w3:=K2.trans k3.any;obtain ⟨x0,x1,xf⟩:=row2 E3)
  | (go_at_call 20;(with_reducible refine (zname_st (z1.incr ((s.i : Int) + 1) rfl) bi1).mono ?_);rintro e w2 ⟨rfl,z2,k2⟩;have R2:=rowOld R1' k2 (fun e => nV2 e);have E2:=rowOld E1' k2 (fun e => nW2 e);obtain ⟨u0,u1,uf⟩:=row2 R2;have K2 : Kp SS w0 (w2.setCell ⟨w.heap.size + 1,0,none⟩ (.string ⟨(nameM ts N (incM s)).1.toArray⟩)):=(K1'.trans (k2.mono fun _ _ e => by rw [hSS];exact Or.inl e)).set (w.heap.size + 1) 0 _ (Or.inr (by rw [hSS];exact Or.inr (Or.inr (by omega))));have R2':=heap_setCell_same _ (w.heap.size + 1) 0 _ _ (.string ⟨(nameM ts N (incM s)).1.toArray⟩) R2;have E2':=rowOld E2 (Kp.own (w.heap.size + 1) 0 (.string ⟨(nameM ts N (incM s)).1.toArray⟩)) nWV;have y2:=z2.oth (w.heap.size + 1) 0 (.string ⟨(nameM ts N (incM s)).1.toArray⟩) (fun e => nV2 e) hgV)
  | (go_at_call 19;rw [← hw0];(with_reducible refine C1.mono ?_);rintro e w1 ⟨rfl,z1,k1⟩;have K1 : Kp SS w0 w1:=k1.any;obtain ⟨q0,q1,q2,q3,qf⟩:=rowZ4 z1.row;have R1:=rowOld Q1 k1 (fun e => e);have E1:=rowOld Q0 k1 (fun e => e);have K1' : Kp SS w0 (w1.setCell ⟨P,1,none⟩ (.int .i64 ((s.i : Int) + 1))):=K1.set P 1 _ (Or.inr (by rw [hSS];exact Or.inl rfl));have R1':=rowOld R1 (Kp.own P 1 (.int .i64 ((s.i : Int) + 1))) (fun e => nV2 e);have E1':=rowOld E1 (Kp.own P 1 (.int .i64 ((s.i : Int) + 1))) (fun e => nW2 e))
  | fail)
 refine bodyPost_ret (v:=.agg #[.string ⟨(nameM ts N (incM s)).1.toArray⟩,.string ⟨#[91,33]⟩]) (by simp [results,Tryz.results39,go_sem, *]) rfl ⟨rfl,(((z5.incr (H + 1) (by rw [hH.out])).oth (w.heap.size + 1) 1 (.string ⟨#[91,33]⟩) (fun e => nV2 e) hgV).oth w.heap.size 0 (.string ⟨(nameM ts N (incM s)).1.toArray⟩) hWP hgW).oth w.heap.size 1 (.string ⟨#[91,33]⟩) hWP hgW,?_⟩
 refine (k0.any : Kp (Own1 P) w w0).tr2 ((((K5.set P 1 _ (Or.inr (by rw [hSS];exact Or.inl rfl))).set (w.heap.size + 1) 1 _ (Or.inr (by rw [hSS];exact Or.inr (Or.inr (by omega))))).set w.heap.size 0 _ (Or.inr (by rw [hSS];exact Or.inr (Or.inr (Nat.le_refl _))))).set w.heap.size 1 _ (Or.inr (by rw [hSS];exact Or.inr (Or.inr (Nat.le_refl _))))) ?_
 intro k hk e
 rw [hSS] at e
 rcases e with e | e | e
 ·exact e
 ·exact e
 ·omega
set_option maxRecDepth 100000 in
set_option maxHeartbeats 4000000 in
theorem zref_rlbd (h : Zp ts N w P g cap s) (hne : ∀ b o,g = some ⟨b,o,none⟩ → b < w.heap.size) (hi : s.i ≤ 999990) (h1 : isM ts N 0 [91] s = true) (h3 : isM ts N 0 [33] (nameM ts N (incM s)).2 = true) (h5 : isM ts N 0 [33] (mustM ts N 0 [93] (incM (nameM ts N (incM s)).2)) = false) : Calls Tryz.prog 39 #[.pointer (some ⟨P,0,none⟩)] w fun e w' => e = .returned (.agg #[.string ⟨(refM ts N s).1.1.toArray⟩,.string ⟨(refM ts N s).1.2.toArray⟩]) ∧ Zp ts N w' P g cap (refM ts N s).2 ∧ Kp (Own1 P) w w':=by
 have hP:=h.lt
 obtain ⟨w0,hw0⟩ : ∃ w0,w0 = (w.alloc (.cells #[.string ⟨#[]⟩,.string ⟨#[]⟩] 61)).alloc (.cells #[.string ⟨#[]⟩,.string ⟨#[]⟩] 61):=⟨_,rfl⟩
 have k0 : Kp Non w w0:=by rw [hw0];exact ((Kp.refl Non w).alloc _).alloc _
 have Q1 : w0.heap[w.heap.size + 1]? = some (.cells #[.string ⟨#[]⟩,.string ⟨#[]⟩] 61 (0,0)):=by
  rw [hw0]
  have:=heap_alloc_new (w.alloc (.cells #[.string ⟨#[]⟩,.string ⟨#[]⟩] 61)) (.cells #[.string ⟨#[]⟩,.string ⟨#[]⟩] 61)
  rw [World.size_alloc] at this
  exact this
 have Q0 : w0.heap[w.heap.size]? = some (.cells #[.string ⟨#[]⟩,.string ⟨#[]⟩] 61 (0,0)):=by rw [hw0];exact rowOld (heap_alloc_new w _) ((Kp.refl Non _).alloc _) (fun e => e)
 have z0:=h.non k0
 unfold refM
 rw [h1,h3,h5]
 simp only [if_true,if_false,Bool.false_eq_true]
 have hVP : ¬ w.heap.size + 1 = P:=by omega
 have nV2 : ¬ Own1 P (w.heap.size + 1):=fun e => hVP e
 have nW2 : ¬ Own1 P w.heap.size:=fun e => by have e' : w.heap.size = P:=e;omega
 have nWV : ¬ Own1 (w.heap.size + 1) w.heap.size:=fun e => by have e' : w.heap.size = w.heap.size + 1:=e;omega
 have hgV : ∀ b o,g = some ⟨b,o,none⟩ → b ≠ w.heap.size + 1:=fun b o e q => by have:=hne b o e;omega
 have hgW : ∀ b o,g = some ⟨b,o,none⟩ → b ≠ w.heap.size:=fun b o e q => by have:=hne b o e;omega
 have hWP : ¬ w.heap.size = P:=by omega
 have nPV : ¬ P = w.heap.size + 1:=by omega
 have nPW : ¬ P = w.heap.size:=by omega
 obtain ⟨SS,hSS⟩ : ∃ SS : Nat → Prop,SS = fun k => k = P ∨ k = P ∨ w.heap.size ≤ k:=⟨_,rfl⟩
 have hzi : ((s.i : Nat) : Int) ≤ 999990:=by omega
 have hz0 : (0 : Int) ≤ ((s.i : Nat) : Int):=by omega
 have bi0 : s.i ≤ 1000000:=by omega
 have bi1 : (incM s).i ≤ 1000000:=by show s.i + 1 ≤ _;omega
 have C1:=zis_any z0 (by omega) 0 [91]
 rw [h1] at C1
 have hb3 : (nameM ts N (incM s)).2.i ≤ 1000000:=by rw [nameM_i];show s.i + 1 + 1 ≤ _;omega
 have cc1 : (ByteArray.mk #[]) ++ (ByteArray.mk #[91]) = ⟨#[91]⟩:=rfl
 have cc2 : (ByteArray.mk #[33]) ++ (ByteArray.mk #[91]) = ⟨#[33,91]⟩:=rfl
 have cc3 : (ByteArray.mk #[91]) ++ (ByteArray.mk #[33]) = ⟨#[91,33]⟩:=rfl
 have cc4 : (ByteArray.mk #[33,91]) ++ (ByteArray.mk #[33]) = ⟨#[33,91,33]⟩:=rfl
 have C3:=fun {W : World} (z : Zp ts N W P g cap (nameM ts N (incM s)).2) => zis_any z (by rw [nameM_i];show s.i + 1 + 1 ≤ _;omega) 0 [33]
 rw [h3] at C3
 have hb5 : (mustM ts N 0 [93] (incM (nameM ts N (incM s)).2)).i ≤ 1000000:=by rw [mustM_i];show (nameM ts N (incM s)).2.i + 1 + 1 ≤ _;rw [nameM_i];show s.i + 1 + 1 + 1 + 1 ≤ _;omega
 have C4:=fun {W : World} (z : Zp ts N W P g cap (incM (nameM ts N (incM s)).2)) => zmust_any z (by show (nameM ts N (incM s)).2.i + 1 ≤ _;rw [nameM_i];show s.i + 1 + 1 + 1 ≤ _;omega) 0 [93]
 have C5:=fun {W : World} (z : Zp ts N W P g cap (mustM ts N 0 [93] (incM (nameM ts N (incM s)).2))) => zis_any z (by rw [mustM_i];show (nameM ts N (incM s)).2.i + 1 + 1 ≤ _;rw [nameM_i];show s.i + 1 + 1 + 1 + 1 ≤ _;omega) 0 [33]
 rw [h5] at C5
 clear h1 h3 h5
 go_enter Tryz.func39,Tryz.ntmps39
 go_wp2_with (first
  | (go_at_call 19;(with_reducible refine (C5 y4).mono ?_);rintro e w5 ⟨rfl,z5,k5⟩;have R5:=rowOld R4' k5 (fun e => e);have E5:=rowOld E4' k5 (fun e => e);obtain ⟨c0,c1,cf⟩:=row2 R5;obtain ⟨d0,d1,df⟩:=row2 E5;obtain ⟨n0,n1,n2,n3,nf⟩:=rowZ4 z5.row;obtain ⟨H,hH,hH0,hH1⟩:=int_of hb5;rw [← hH.out] at n1;have K5 : Kp SS w0 w5:=K4.trans k5.any)
  | (go_at_call 21;(with_reducible refine (C4 y3).mono ?_);rintro e w4 ⟨rfl,z4,k4⟩;have R4:=rowOld R3' k4 (fun e => nV2 e);have E4:=rowOld E3' k4 (fun e => nW2 e);obtain ⟨a0,a1,af⟩:=row2 R4;have K4 : Kp SS w0 (w4.setCell ⟨w.heap.size + 1,1,none⟩ (.string ⟨#[33,91]⟩)):=(K3'.trans (k4.mono fun _ _ e => by rw [hSS];exact Or.inl e)).set (w.heap.size + 1) 1 _ (Or.inr (by rw [hSS];exact Or.inr (Or.inr (by omega))));have R4':=heap_setCell_same _ (w.heap.size + 1) 1 _ _ (.string ⟨#[33,91]⟩) R4;have E4':=rowOld E4 (Kp.own (w.heap.size + 1) 1 (.string ⟨#[33,91]⟩)) nWV;have y4:=z4.oth (w.heap.size + 1) 1 (.string ⟨#[33,91]⟩) (fun e => nV2 e) hgV)
  | (go_at_call 19;(with_reducible refine (C3 y2).mono ?_);rintro e w3 ⟨rfl,z3,k3⟩;have R3:=rowOld R2' k3 (fun e => e);have E3:=rowOld E2' k3 (fun e => e);obtain ⟨v0,v1,vf⟩:=row2 R3;obtain ⟨m0,m1,m2,m3,mf⟩:=rowZ4 z3.row;obtain ⟨J,hJ,hJ0,hJ1⟩:=int_of (hb3 : (nameM ts N (incM s)).2.i ≤ 1000000);rw [← hJ.out] at m1;have K3 : Kp SS w0 w3:=K2.trans k3.any;obtain ⟨x0,x1,xf⟩:=row2 E3;have R3':=heap_setCell_same _ (w.heap.size + 1) 1 _ _ (.string ⟨#[33]⟩) (rowOld R3 (Kp.own P 1 (.int .i64 (J + 1))) (fun e => nV2 e));have E3':=rowOld (rowOld E3 (Kp.own P 1 (.int .i64 (J + 1))) (fun e => nW2 e)) (Kp.own (w.heap.size + 1) 1 (.string ⟨#[33]⟩)) nWV;have y3:=(z3.incr (J + 1) (by rw [hJ.out])).oth (w.heap.size + 1) 1 (.string ⟨#[33]⟩) (fun e => nV2 e) hgV;have K3':=(K3.set P 1 (.int .i64 (J + 1)) (Or.inr (by rw [hSS];exact Or.inl rfl))).set (w.heap.size + 1) 1 (.string ⟨#[33]⟩) (Or.inr (by rw [hSS];exact Or.inr (Or.inr (by omega))));obtain ⟨t0,t1,tf⟩:=row2 R3';obtain ⟨o0,o1,of⟩:=row2 E3')
  | (go_at_call 20;(with_reducible refine (zname_st (z1.incr ((s.i : Int) + 1) rfl) bi1).mono ?_);rintro e w2 ⟨rfl,z2,k2⟩;have R2:=rowOld R1' k2 (fun e => nV2 e);have E2:=rowOld E1' k2 (fun e => nW2 e);obtain ⟨u0,u1,uf⟩:=row2 R2;have K2 : Kp SS w0 (w2.setCell ⟨w.heap.size + 1,0,none⟩ (.string ⟨(nameM ts N (incM s)).1.toArray⟩)):=(K1'.trans (k2.mono fun _ _ e => by rw [hSS];exact Or.inl e)).set (w.heap.size + 1) 0 _ (Or.inr (by rw [hSS];exact Or.inr (Or.inr (by omega))));have R2':=heap_setCell_same _ (w.heap.size + 1) 0 _ _ (.string ⟨(nameM ts N (incM s)).1.toArray⟩) R2;have E2':=rowOld E2 (Kp.own (w.heap.size + 1) 0 (.string ⟨(nameM ts N (incM s)).1.toArray⟩)) nWV;have y2:=z2.oth (w.heap.size + 1) 0 (.string ⟨(nameM ts N (incM s)).1.toArray⟩) (fun e => nV2 e) hgV)
  | (go_at_call 19;rw [← hw0];(with_reducible refine C1.mono ?_);rintro e w1 ⟨rfl,z1,k1⟩;have K1 : Kp SS w0 w1:=k1.any;obtain ⟨q0,q1,q2,q3,qf⟩:=rowZ4 z1.row;have R1:=rowOld Q1 k1 (fun e => e);have E1:=rowOld Q0 k1 (fun e => e);have K1' : Kp SS w0 (w1.setCell ⟨P,1,none⟩ (.int .i64 ((s.i : Int) + 1))):=K1.set P 1 _ (Or.inr (by rw [hSS];exact Or.inl rfl));have R1':=rowOld R1 (Kp.own P 1 (.int .i64 ((s.i : Int) + 1))) (fun e => nV2 e);have E1':=rowOld E1 (Kp.own P 1 (.int .i64 ((s.i : Int) + 1))) (fun e => nW2 e))
  | fail)
 refine bodyPost_ret (v:=.agg #[.string ⟨(nameM ts N (incM s)).1.toArray⟩,.string ⟨#[33,91]⟩]) (by simp [results,Tryz.results39,go_sem, *]) rfl ⟨rfl,(z5.oth w.heap.size 0 (.string ⟨(nameM ts N (incM s)).1.toArray⟩) hWP hgW).oth w.heap.size 1 (.string ⟨#[33,91]⟩) hWP hgW,?_⟩
 refine (k0.any : Kp (Own1 P) w w0).tr2 ((K5.set w.heap.size 0 _ (Or.inr (by rw [hSS];exact Or.inr (Or.inr (Nat.le_refl _))))).set w.heap.size 1 _ (Or.inr (by rw [hSS];exact Or.inr (Or.inr (Nat.le_refl _))))) ?_
 intro k hk e
 rw [hSS] at e
 rcases e with e | e | e
 ·exact e
 ·exact e
 ·omega
set_option maxRecDepth 100000 in
set_option maxHeartbeats 4000000 in
theorem zref_rlbc (h : Zp ts N w P g cap s) (hne : ∀ b o,g = some ⟨b,o,none⟩ → b < w.heap.size) (hi : s.i ≤ 999990) (h1 : isM ts N 0 [91] s = true) (h3 : isM ts N 0 [33] (nameM ts N (incM s)).2 = true) (h5 : isM ts N 0 [33] (mustM ts N 0 [93] (incM (nameM ts N (incM s)).2)) = true) : Calls Tryz.prog 39 #[.pointer (some ⟨P,0,none⟩)] w fun e w' => e = .returned (.agg #[.string ⟨(refM ts N s).1.1.toArray⟩,.string ⟨(refM ts N s).1.2.toArray⟩]) ∧ Zp ts N w' P g cap (refM ts N s).2 ∧ Kp (Own1 P) w w':=by
 have hP:=h.lt
 obtain ⟨w0,hw0⟩ : ∃ w0,w0 = (w.alloc (.cells #[.string ⟨#[]⟩,.string ⟨#[]⟩] 61)).alloc (.cells #[.string ⟨#[]⟩,.string ⟨#[]⟩] 61):=⟨_,rfl⟩
 have k0 : Kp Non w w0:=by rw [hw0];exact ((Kp.refl Non w).alloc _).alloc _
 have Q1 : w0.heap[w.heap.size + 1]? = some (.cells #[.string ⟨#[]⟩,.string ⟨#[]⟩] 61 (0,0)):=by
  rw [hw0]
  have:=heap_alloc_new (w.alloc (.cells #[.string ⟨#[]⟩,.string ⟨#[]⟩] 61)) (.cells #[.string ⟨#[]⟩,.string ⟨#[]⟩] 61)
  rw [World.size_alloc] at this
  exact this
 have Q0 : w0.heap[w.heap.size]? = some (.cells #[.string ⟨#[]⟩,.string ⟨#[]⟩] 61 (0,0)):=by rw [hw0];exact rowOld (heap_alloc_new w _) ((Kp.refl Non _).alloc _) (fun e => e)
 have z0:=h.non k0
 unfold refM
 rw [h1,h3,h5]
 simp only [if_true]
 have hVP : ¬ w.heap.size + 1 = P:=by omega
 have nV2 : ¬ Own1 P (w.heap.size + 1):=fun e => hVP e
 have nW2 : ¬ Own1 P w.heap.size:=fun e => by have e' : w.heap.size = P:=e;omega
 have nWV : ¬ Own1 (w.heap.size + 1) w.heap.size:=fun e => by have e' : w.heap.size = w.heap.size + 1:=e;omega
 have hgV : ∀ b o,g = some ⟨b,o,none⟩ → b ≠ w.heap.size + 1:=fun b o e q => by have:=hne b o e;omega
 have hgW : ∀ b o,g = some ⟨b,o,none⟩ → b ≠ w.heap.size:=fun b o e q => by have:=hne b o e;omega
 have hWP : ¬ w.heap.size = P:=by omega
 have nPV : ¬ P = w.heap.size + 1:=by omega
 have nPW : ¬ P = w.heap.size:=by omega
 obtain ⟨SS,hSS⟩ : ∃ SS : Nat → Prop,SS = fun k => k = P ∨ k = P ∨ w.heap.size ≤ k:=⟨_,rfl⟩
 have hzi : ((s.i : Nat) : Int) ≤ 999990:=by omega
 have hz0 : (0 : Int) ≤ ((s.i : Nat) : Int):=by omega
 have bi0 : s.i ≤ 1000000:=by omega
 have bi1 : (incM s).i ≤ 1000000:=by show s.i + 1 ≤ _;omega
 have C1:=zis_any z0 (by omega) 0 [91]
 rw [h1] at C1
 have hb3 : (nameM ts N (incM s)).2.i ≤ 1000000:=by rw [nameM_i];show s.i + 1 + 1 ≤ _;omega
 have cc1 : (ByteArray.mk #[]) ++ (ByteArray.mk #[91]) = ⟨#[91]⟩:=rfl
 have cc2 : (ByteArray.mk #[33]) ++ (ByteArray.mk #[91]) = ⟨#[33,91]⟩:=rfl
 have cc3 : (ByteArray.mk #[91]) ++ (ByteArray.mk #[33]) = ⟨#[91,33]⟩:=rfl
 have cc4 : (ByteArray.mk #[33,91]) ++ (ByteArray.mk #[33]) = ⟨#[33,91,33]⟩:=rfl
 have C3:=fun {W : World} (z : Zp ts N W P g cap (nameM ts N (incM s)).2) => zis_any z (by rw [nameM_i];show s.i + 1 + 1 ≤ _;omega) 0 [33]
 rw [h3] at C3
 have hb5 : (mustM ts N 0 [93] (incM (nameM ts N (incM s)).2)).i ≤ 1000000:=by rw [mustM_i];show (nameM ts N (incM s)).2.i + 1 + 1 ≤ _;rw [nameM_i];show s.i + 1 + 1 + 1 + 1 ≤ _;omega
 have C4:=fun {W : World} (z : Zp ts N W P g cap (incM (nameM ts N (incM s)).2)) => zmust_any z (by show (nameM ts N (incM s)).2.i + 1 ≤ _;rw [nameM_i];show s.i + 1 + 1 + 1 ≤ _;omega) 0 [93]
 have C5:=fun {W : World} (z : Zp ts N W P g cap (mustM ts N 0 [93] (incM (nameM ts N (incM s)).2))) => zis_any z (by rw [mustM_i];show (nameM ts N (incM s)).2.i + 1 + 1 ≤ _;rw [nameM_i];show s.i + 1 + 1 + 1 + 1 ≤ _;omega) 0 [33]
 rw [h5] at C5
 clear h1 h3 h5
 go_enter Tryz.func39,Tryz.ntmps39
 go_wp2_with (first
  | (go_at_call 19;(with_reducible refine (C5 y4).mono ?_);rintro e w5 ⟨rfl,z5,k5⟩;have R5:=rowOld R4' k5 (fun e => e);have E5:=rowOld E4' k5 (fun e => e);obtain ⟨c0,c1,cf⟩:=row2 R5;obtain ⟨d0,d1,df⟩:=row2 E5;obtain ⟨n0,n1,n2,n3,nf⟩:=rowZ4 z5.row;obtain ⟨H,hH,hH0,hH1⟩:=int_of hb5;rw [← hH.out] at n1;have K5 : Kp SS w0 w5:=K4.trans k5.any)
  | (go_at_call 21;(with_reducible refine (C4 y3).mono ?_);rintro e w4 ⟨rfl,z4,k4⟩;have R4:=rowOld R3' k4 (fun e => nV2 e);have E4:=rowOld E3' k4 (fun e => nW2 e);obtain ⟨a0,a1,af⟩:=row2 R4;have K4 : Kp SS w0 (w4.setCell ⟨w.heap.size + 1,1,none⟩ (.string ⟨#[33,91]⟩)):=(K3'.trans (k4.mono fun _ _ e => by rw [hSS];exact Or.inl e)).set (w.heap.size + 1) 1 _ (Or.inr (by rw [hSS];exact Or.inr (Or.inr (by omega))));have R4':=heap_setCell_same _ (w.heap.size + 1) 1 _ _ (.string ⟨#[33,91]⟩) R4;have E4':=rowOld E4 (Kp.own (w.heap.size + 1) 1 (.string ⟨#[33,91]⟩)) nWV;have y4:=z4.oth (w.heap.size + 1) 1 (.string ⟨#[33,91]⟩) (fun e => nV2 e) hgV)
  | (go_at_call 19;(with_reducible refine (C3 y2).mono ?_);rintro e w3 ⟨rfl,z3,k3⟩;have R3:=rowOld R2' k3 (fun e => e);have E3:=rowOld E2' k3 (fun e => e);obtain ⟨v0,v1,vf⟩:=row2 R3;obtain ⟨m0,m1,m2,m3,mf⟩:=rowZ4 z3.row;obtain ⟨J,hJ,hJ0,hJ1⟩:=int_of (hb3 : (nameM ts N (incM s)).2.i ≤ 1000000);rw [← hJ.out] at m1;have K3 : Kp SS w0 w3:=K2.trans k3.any;obtain ⟨x0,x1,xf⟩:=row2 E3;have R3':=heap_setCell_same _ (w.heap.size + 1) 1 _ _ (.string ⟨#[33]⟩) (rowOld R3 (Kp.own P 1 (.int .i64 (J + 1))) (fun e => nV2 e));have E3':=rowOld (rowOld E3 (Kp.own P 1 (.int .i64 (J + 1))) (fun e => nW2 e)) (Kp.own (w.heap.size + 1) 1 (.string ⟨#[33]⟩)) nWV;have y3:=(z3.incr (J + 1) (by rw [hJ.out])).oth (w.heap.size + 1) 1 (.string ⟨#[33]⟩) (fun e => nV2 e) hgV;have K3':=(K3.set P 1 (.int .i64 (J + 1)) (Or.inr (by rw [hSS];exact Or.inl rfl))).set (w.heap.size + 1) 1 (.string ⟨#[33]⟩) (Or.inr (by rw [hSS];exact Or.inr (Or.inr (by omega))));obtain ⟨t0,t1,tf⟩:=row2 R3';obtain ⟨o0,o1,of⟩:=row2 E3')
  | (go_at_call 20;(with_reducible refine (zname_st (z1.incr ((s.i : Int) + 1) rfl) bi1).mono ?_);rintro e w2 ⟨rfl,z2,k2⟩;have R2:=rowOld R1' k2 (fun e => nV2 e);have E2:=rowOld E1' k2 (fun e => nW2 e);obtain ⟨u0,u1,uf⟩:=row2 R2;have K2 : Kp SS w0 (w2.setCell ⟨w.heap.size + 1,0,none⟩ (.string ⟨(nameM ts N (incM s)).1.toArray⟩)):=(K1'.trans (k2.mono fun _ _ e => by rw [hSS];exact Or.inl e)).set (w.heap.size + 1) 0 _ (Or.inr (by rw [hSS];exact Or.inr (Or.inr (by omega))));have R2':=heap_setCell_same _ (w.heap.size + 1) 0 _ _ (.string ⟨(nameM ts N (incM s)).1.toArray⟩) R2;have E2':=rowOld E2 (Kp.own (w.heap.size + 1) 0 (.string ⟨(nameM ts N (incM s)).1.toArray⟩)) nWV;have y2:=z2.oth (w.heap.size + 1) 0 (.string ⟨(nameM ts N (incM s)).1.toArray⟩) (fun e => nV2 e) hgV)
  | (go_at_call 19;rw [← hw0];(with_reducible refine C1.mono ?_);rintro e w1 ⟨rfl,z1,k1⟩;have K1 : Kp SS w0 w1:=k1.any;obtain ⟨q0,q1,q2,q3,qf⟩:=rowZ4 z1.row;have R1:=rowOld Q1 k1 (fun e => e);have E1:=rowOld Q0 k1 (fun e => e);have K1' : Kp SS w0 (w1.setCell ⟨P,1,none⟩ (.int .i64 ((s.i : Int) + 1))):=K1.set P 1 _ (Or.inr (by rw [hSS];exact Or.inl rfl));have R1':=rowOld R1 (Kp.own P 1 (.int .i64 ((s.i : Int) + 1))) (fun e => nV2 e);have E1':=rowOld E1 (Kp.own P 1 (.int .i64 ((s.i : Int) + 1))) (fun e => nW2 e))
  | fail)
 refine bodyPost_ret (v:=.agg #[.string ⟨(nameM ts N (incM s)).1.toArray⟩,.string ⟨#[33,91,33]⟩]) (by simp [results,Tryz.results39,go_sem, *]) rfl ⟨rfl,(((z5.incr (H + 1) (by rw [hH.out])).oth (w.heap.size + 1) 1 (.string ⟨#[33,91,33]⟩) (fun e => nV2 e) hgV).oth w.heap.size 0 (.string ⟨(nameM ts N (incM s)).1.toArray⟩) hWP hgW).oth w.heap.size 1 (.string ⟨#[33,91,33]⟩) hWP hgW,?_⟩
 refine (k0.any : Kp (Own1 P) w w0).tr2 ((((K5.set P 1 _ (Or.inr (by rw [hSS];exact Or.inl rfl))).set (w.heap.size + 1) 1 _ (Or.inr (by rw [hSS];exact Or.inr (Or.inr (by omega))))).set w.heap.size 0 _ (Or.inr (by rw [hSS];exact Or.inr (Or.inr (Nat.le_refl _))))).set w.heap.size 1 _ (Or.inr (by rw [hSS];exact Or.inr (Or.inr (Nat.le_refl _))))) ?_
 intro k hk e
 rw [hSS] at e
 rcases e with e | e | e
 ·exact e
 ·exact e
 ·omega
theorem zref_any (h : Zp ts N w P g cap s) (hne : ∀ b o,g = some ⟨b,o,none⟩ → b < w.heap.size) (hi : s.i ≤ 999990) : Calls Tryz.prog 39 #[.pointer (some ⟨P,0,none⟩)] w fun e w' => e = .returned (.agg #[.string ⟨(refM ts N s).1.1.toArray⟩,.string ⟨(refM ts N s).1.2.toArray⟩]) ∧ Zp ts N w' P g cap (refM ts N s).2 ∧ Kp (Own1 P) w w':=by
 cases h1 : isM ts N 0 [91] s with
 | false =>
  cases h3 : isM ts N 0 [33] (nameM ts N s).2 with
  | false => exact zref_rnm h hne hi h1 h3
  | true => exact zref_rnb h hne hi h1 h3
 | true =>
  cases h3 : isM ts N 0 [33] (nameM ts N (incM s)).2 with
  | false =>
   cases h5 : isM ts N 0 [33] (mustM ts N 0 [93] (nameM ts N (incM s)).2) with
   | false => exact zref_rlmd h hne hi h1 h3 h5
   | true => exact zref_rlmc h hne hi h1 h3 h5
  | true =>
   cases h5 : isM ts N 0 [33] (mustM ts N 0 [93] (incM (nameM ts N (incM s)).2)) with
   | false => exact zref_rlbd h hne hi h1 h3 h5
   | true => exact zref_rlbc h hne hi h1 h3 h5
end
end
section
open Go Go.RowKit Go.Shelf
section
variable (ts : List Tok) (N : Nat)
def condM (x : Sp × Bool × Bs) : Bool:=decide (x.1.a < 0) && isM ts N 0 [64] x.1 && (!x.2.1 || x.2.2 == [])
def inverM (s : Sp) : Bs × Sp:=((nameM ts N (mustM ts N 0 [58] (mustM ts N 1 fieldB (mustM ts N 0 [40] s)))).1,mustM ts N 0 [41] (nameM ts N (mustM ts N 0 [58] (mustM ts N 1 fieldB (mustM ts N 0 [40] s)))).2)
def stepM (x : Sp × Bool × Bs) : Sp × Bool × Bs :=
 if isM ts N 1 searchB (incM x.1) && !x.2.1 then (incM (incM x.1),true,x.2.2)
 else if isM ts N 1 inverseB (incM x.1) && x.2.2 == [] then ((inverM ts N (incM (incM x.1))).2,x.2.1,(inverM ts N (incM (incM x.1))).1)
 else (wrongM ts N (incM x.1),x.2.1,x.2.2)
def dirsM : Nat → Sp × Bool × Bs → Sp × Bool × Bs
 | 0,x => x
 | k + 1,x => if condM ts N x then dirsM k (stepM ts N x) else x
end
section
variable {ts : List Tok} {N : Nat} {P cap : Nat} {g : Option Addr} {w w' : World} {s : Sp}
theorem is_lt {k : Int} {t : Bs} (h : isM ts N k t s = true) (hk : k ≠ 0 ∨ t ≠ []) : s.i < ts.length:=by
 rcases Nat.lt_or_ge s.i ts.length with q | q
 ·exact q
 ·exfalso
  unfold isM nxM at h
  rw [List.getElem?_eq_none q] at h
  simp at h
  rcases hk with e | e
  ·exact e h.1.symm
  ·exact e h.2
theorem wrongM_a (s : Sp) : 0 ≤ (wrongM ts N s).a:=by
 unfold wrongM
 split
 ·show (0 : Int) ≤ ((nxM ts N s).b : Int)
  omega
 ·rename_i h
  exact Int.not_lt.1 h
theorem mustM_a {k : Int} {t : Bs} (h : (mustM ts N k t s).a < 0) : isM ts N k t s = true ∧ s.a < 0:=by
 unfold mustM incM at h
 dsimp only at h
 split at h
 ·rename_i q
  exact ⟨q,h⟩
 ·have:=wrongM_a (ts:=ts) (N:=N) s
  omega
theorem nameM_a (h : (nameM ts N s).2.a < 0) : (nxM ts N s).k = 1 ∧ s.a < 0:=by
 unfold nameM incM at h
 dsimp only at h
 split at h
 ·rename_i q
  exact ⟨by simpa using q,h⟩
 ·have:=wrongM_a (ts:=ts) (N:=N) s
  omega
def AliveM (ts : List Tok) (s : Sp) : Prop:=s.a < 0 → s.i ≤ ts.length
theorem stepM_alive (x : Sp × Bool × Bs) : AliveM ts (stepM ts N x).1:=by
 intro h
 unfold stepM at *
 split at h
 ·rename_i q
  rw [if_pos q]
  simp only [Bool.and_eq_true] at q
  have:=is_lt q.1 (Or.inl (by decide))
  show x.1.i + 1 + 1 ≤ _
  have e : (incM x.1).i = x.1.i + 1:=rfl
  omega
 ·rename_i q
  rw [if_neg q]
  split at h
  ·rename_i r
   rw [if_pos r]
   have m:=mustM_a (ts:=ts) (N:=N) h
   have l:=is_lt m.1 (Or.inr (by decide))
   show (mustM ts N 0 [41] _).i ≤ _
   rw [mustM_i]
   omega
  ·have:=wrongM_a (ts:=ts) (N:=N) (incM x.1)
   exact absurd h (by show ¬ (wrongM ts N (incM x.1)).a < 0;omega)
theorem stepM_i (x : Sp × Bool × Bs) : x.1.i + 1 ≤ (stepM ts N x).1.i ∧ (stepM ts N x).1.i ≤ x.1.i + 8:=by
 unfold stepM
 split
 ·show x.1.i + 1 ≤ x.1.i + 1 + 1 ∧ x.1.i + 1 + 1 ≤ x.1.i + 8
  omega
 ·split
  ·show x.1.i + 1 ≤ (mustM ts N 0 [41] _).i ∧ (mustM ts N 0 [41] _).i ≤ x.1.i + 8
   rw [mustM_i,nameM_i,mustM_i,mustM_i,mustM_i]
   show x.1.i + 1 ≤ x.1.i + 1 + 1 + 1 + 1 + 1 + 1 + 1 ∧ x.1.i + 1 + 1 + 1 + 1 + 1 + 1 + 1 ≤ x.1.i + 8
   omega
  ·show x.1.i + 1 ≤ (wrongM ts N (incM x.1)).i ∧ (wrongM ts N (incM x.1)).i ≤ x.1.i + 8
   rw [wrongM_i]
   show x.1.i + 1 ≤ x.1.i + 1 ∧ x.1.i + 1 ≤ x.1.i + 8
   omega
def leftM (ts : List Tok) (s : Sp) : Nat:=if s.a < 0 then ts.length + 1 - s.i else 0
theorem step_left {x : Sp × Bool × Bs} (hc : condM ts N x = true) (ha : AliveM ts x.1) : leftM ts (stepM ts N x).1 < leftM ts x.1:=by
 unfold condM at hc
 simp only [Bool.and_eq_true,decide_eq_true_eq] at hc
 have h1:=ha hc.1.1
 have h2:=stepM_i (ts:=ts) (N:=N) x
 unfold leftM
 rw [if_pos hc.1.1]
 split <;> omega
theorem dirsM_enough : ∀ (k j : Nat) (x : Sp × Bool × Bs),AliveM ts x.1 → leftM ts x.1 < k → leftM ts x.1 < j → dirsM ts N k x = dirsM ts N j x
 | 0,_,_,_,h,_ => absurd h (Nat.not_lt_zero _)
 | _ + 1,0,_,_,_,h => absurd h (Nat.not_lt_zero _)
 | k + 1,j + 1,x,ha,h1,h2 => by
  unfold dirsM
  split
  ·rename_i hc
   have:=step_left hc ha
   exact dirsM_enough k j _ (stepM_alive x) (by omega) (by omega)
  ·rfl
end
end
section
open Go Go.RowKit Go.Shelf
section
variable (ts : List Tok) (N : Nat)
def fieldM (s : Sp) : Fld × Sp :=
 (⟨(nameM ts N s).1,(refM ts N (mustM ts N 0 [58] (nameM ts N s).2)).1.1,(refM ts N (mustM ts N 0 [58] (nameM ts N s).2)).1.2,(dirsM ts N (ts.length + 2) ((refM ts N (mustM ts N 0 [58] (nameM ts N s).2)).2,false,[])).2.1,(dirsM ts N (ts.length + 2) ((refM ts N (mustM ts N 0 [58] (nameM ts N s).2)).2,false,[])).2.2⟩,(dirsM ts N (ts.length + 2) ((refM ts N (mustM ts N 0 [58] (nameM ts N s).2)).2,false,[])).1)
end
section
variable {ts : List Tok} {N : Nat} {P cap : Nat} {g : Option Addr} {w w' : World} {s : Sp}
theorem refM_i (s : Sp) : (refM ts N s).2.i ≤ s.i + 5 ∧ s.i ≤ (refM ts N s).2.i:=by
 unfold refM
 split
 ·split
  ·split
   ·show (mustM ts N 0 [93] (incM (nameM ts N (incM s)).2)).i + 1 ≤ _ ∧ _ ≤ (mustM ts N 0 [93] (incM (nameM ts N (incM s)).2)).i + 1
    rw [mustM_i]
    show (nameM ts N (incM s)).2.i + 1 + 1 + 1 ≤ _ ∧ _ ≤ (nameM ts N (incM s)).2.i + 1 + 1 + 1
    rw [nameM_i]
    show s.i + 1 + 1 + 1 + 1 + 1 ≤ _ ∧ _ ≤ s.i + 1 + 1 + 1 + 1 + 1
    omega
   ·show (mustM ts N 0 [93] (incM (nameM ts N (incM s)).2)).i ≤ _ ∧ _ ≤ (mustM ts N 0 [93] (incM (nameM ts N (incM s)).2)).i
    rw [mustM_i]
    show (nameM ts N (incM s)).2.i + 1 + 1 ≤ _ ∧ _ ≤ (nameM ts N (incM s)).2.i + 1 + 1
    rw [nameM_i]
    show s.i + 1 + 1 + 1 + 1 ≤ _ ∧ _ ≤ s.i + 1 + 1 + 1 + 1
    omega
  ·split
   ·show (mustM ts N 0 [93] (nameM ts N (incM s)).2).i + 1 ≤ _ ∧ _ ≤ (mustM ts N 0 [93] (nameM ts N (incM s)).2).i + 1
    rw [mustM_i,nameM_i]
    show s.i + 1 + 1 + 1 + 1 ≤ _ ∧ _ ≤ s.i + 1 + 1 + 1 + 1
    omega
   ·show (mustM ts N 0 [93] (nameM ts N (incM s)).2).i ≤ _ ∧ _ ≤ (mustM ts N 0 [93] (nameM ts N (incM s)).2).i
    rw [mustM_i,nameM_i]
    show s.i + 1 + 1 + 1 ≤ _ ∧ _ ≤ s.i + 1 + 1 + 1
    omega
 ·split
  ·show (nameM ts N s).2.i + 1 ≤ _ ∧ _ ≤ (nameM ts N s).2.i + 1
   rw [nameM_i]
   omega
  ·show (nameM ts N s).2.i ≤ _ ∧ _ ≤ (nameM ts N s).2.i
   rw [nameM_i]
   omega
theorem nx_lt (h : (nxM ts N s).k = 1) : s.i < ts.length:=by
 rcases Nat.lt_or_ge s.i ts.length with q | q
 ·exact q
 ·exfalso
  unfold nxM at h
  rw [List.getElem?_eq_none q] at h
  cases h
theorem nameM_alive (s : Sp) : AliveM ts (nameM ts N s).2:=fun h => by
 have:=nx_lt (nameM_a h).1
 rw [nameM_i]
 omega
theorem mustM_alive {k : Int} {t : Bs} (hk : k ≠ 0 ∨ t ≠ []) (s : Sp) : AliveM ts (mustM ts N k t s):=fun h => by
 have:=is_lt (mustM_a h).1 hk
 rw [mustM_i]
 omega
theorem incM_alive {k : Int} {t : Bs} (hk : k ≠ 0 ∨ t ≠ []) {s : Sp} (h : isM ts N k t s = true) : AliveM ts (incM s):=fun _ => by
 have:=is_lt h hk
 show s.i + 1 ≤ _
 omega
theorem refM_alive (s : Sp) : AliveM ts (refM ts N s).2:=by
 unfold refM
 split
 ·split
  ·split
   ·rename_i q
    exact incM_alive (Or.inr (by decide)) q
   ·exact mustM_alive (Or.inr (by decide)) _
  ·split
   ·rename_i q
    exact incM_alive (Or.inr (by decide)) q
   ·exact mustM_alive (Or.inr (by decide)) _
 ·split
  ·rename_i q
   exact incM_alive (Or.inr (by decide)) q
  ·exact nameM_alive _
theorem rowZ5 {w : World} {k E : Nat} {a b c d e : Value} (h : w.heap[k]? = some (.cells #[a,b,c,d,e] E (0,0))) : w.cell? ⟨k,0,none⟩ = some a ∧ w.cell? ⟨k,1,none⟩ = some b ∧ w.cell? ⟨k,2,none⟩ = some c ∧ w.cell? ⟨k,3,none⟩ = some d ∧ w.cell? ⟨k,4,none⟩ = some e ∧ ∀ j,w.frozen? ⟨k,j,none⟩ = false:=⟨by simp [World.cell?,h],by simp [World.cell?,h],by simp [World.cell?,h],by simp [World.cell?,h],by simp [World.cell?,h],fun j => frozen_of_row w k j _ _ h⟩
def leftZ (L : Nat) (w : World) (P : Nat) : Nat:=match w.cell? ⟨P,1,none⟩,w.cell? ⟨P,3,none⟩ with
 | some (.int _ i),some (.int _ a) => if a < 0 then L + 1 - i.toNat else 0
 | _,_ => 0
theorem leftZ_eq (h : Zp ts N w P g cap s) : leftZ ts.length w P = leftM ts s:=by
 obtain ⟨_,r1,_,r3,_⟩:=rowZ4 h.row
 unfold leftZ leftM
 rw [r1,r3]
 simp
structure Lf (w : World) (R V : Nat) (n t x : Bs) (b : Bool) (i : Bs) : Prop where
 r : w.heap[R]? = some (.cells #[.string ⟨#[]⟩,.string ⟨#[]⟩,.string ⟨#[]⟩,.bool false,.string ⟨#[]⟩] 63 (0,0))
 v : w.heap[V]? = some (.cells #[.string ⟨n.toArray⟩,.string ⟨t.toArray⟩,.string ⟨x.toArray⟩,.bool b,.string ⟨i.toArray⟩] 63 (0,0))
theorem Lf.kp {S : Nat → Prop} {R V : Nat} {n t x i : Bs} {b : Bool} (h : Lf w R V n t x b i) (k : Kp S w w') (h1 : ¬ S R) (h2 : ¬ S V) : Lf w' R V n t x b i:=⟨rowOld h.r k h1,rowOld h.v k h2⟩
theorem dirs_next {x : Sp × Bool × Bs} (hc : condM ts N x = true) (ha : AliveM ts x.1) : dirsM ts N (ts.length + 2) x = dirsM ts N (ts.length + 2) (stepM ts N x):=by
 have h1:=step_left hc ha
 have h2 : leftM ts x.1 ≤ ts.length + 1:=by unfold leftM;split <;> omega
 conv => lhs;unfold dirsM
 rw [if_pos hc]
 exact dirsM_enough _ _ _ (stepM_alive x) (by omega) (by omega)
theorem dirs_stop {x : Sp × Bool × Bs} (hc : condM ts N x = false) : dirsM ts N (ts.length + 2) x = x:=by
 unfold dirsM
 rw [if_neg (by rw [hc];simp)]
theorem Lf.sea {R V : Nat} {n t x i : Bs} {b : Bool} (h : Lf w R V n t x b i) (hRV : R ≠ V) (c : Bool) : Lf (w.setCell ⟨V,3,none⟩ (.bool c)) R V n t x c i:=⟨rowOld h.r (Kp.own V 3 _) (fun e => hRV e),heap_setCell_same _ V 3 _ _ _ h.v⟩
theorem Lf.inv {R V : Nat} {n t x i : Bs} {b : Bool} (h : Lf w R V n t x b i) (hRV : R ≠ V) (c : Bs) : Lf (w.setCell ⟨V,4,none⟩ (.string ⟨c.toArray⟩)) R V n t x b c:=⟨rowOld h.r (Kp.own V 4 _) (fun e => hRV e),heap_setCell_same _ V 4 _ _ _ h.v⟩
theorem Lf.typ {R V : Nat} {n t x i : Bs} {b : Bool} (h : Lf w R V n t x b i) (hRV : R ≠ V) (c d : Bs) : Lf ((w.setCell ⟨V,1,none⟩ (.string ⟨c.toArray⟩)).setCell ⟨V,2,none⟩ (.string ⟨d.toArray⟩)) R V n c d b i:=⟨rowOld (rowOld h.r (Kp.own V 1 _) (fun e => hRV e)) (Kp.own V 2 _) (fun e => hRV e),heap_setCell_same _ V 2 _ _ _ (heap_setCell_same _ V 1 _ _ _ h.v)⟩
theorem Lf.p {R V : Nat} {n t x i : Bs} {b : Bool} (h : Lf w R V n t x b i) (hR : R ≠ P) (hV : V ≠ P) (k : Kp (Own1 P) w w') : Lf w' R V n t x b i:=h.kp k (fun e => hR e) (fun e => hV e)
theorem Lf.inc {R V : Nat} {n t x i : Bs} {b : Bool} (h : Lf w R V n t x b i) (hR : R ≠ P) (hV : V ≠ P) (J : Int) : Lf (w.setCell ⟨P,1,none⟩ (.int .i64 J)) R V n t x b i:=h.p hR hV (Kp.own P 1 _)
theorem Lf.non {R V : Nat} {n t x i : Bs} {b : Bool} (h : Lf w R V n t x b i) (k : Kp Non w w') : Lf w' R V n t x b i:=h.kp k (fun e => e) (fun e => e)
abbrev SF (P B : Nat) : Nat → Prop:=fun k => k = P ∨ B ≤ k
theorem kp_sf {B : Nat} (k : Kp (Own1 P) w w') : Kp (SF P B) w w':=k.mono fun _ _ e => Or.inl e
set_option maxRecDepth 100000 in
set_option maxHeartbeats 16000000 in
theorem zfield_any (h : Zp ts N w P g cap s) (hne : ∀ b o,g = some ⟨b,o,none⟩ → b < w.heap.size) (hi : s.i ≤ 999900) : Calls Tryz.prog 22 #[.pointer (some ⟨P,0,none⟩)] w fun e w' => e = .returned (fldV (fieldM ts N s).1) ∧ Zp ts N w' P g cap (fieldM ts N s).2 ∧ Kp (Own1 P) w w':=by
 have hP:=h.lt
 have hfew:=h.few
 obtain ⟨w0,hw0⟩ : ∃ w0,w0 = w.alloc (.cells #[.string ⟨#[]⟩,.string ⟨#[]⟩,.string ⟨#[]⟩,.bool false,.string ⟨#[]⟩] 63):=⟨_,rfl⟩
 have k0 : Kp Non w w0:=by rw [hw0];exact (Kp.refl Non w).alloc _
 have Q0 : w0.heap[w.heap.size]? = some (.cells #[.string ⟨#[]⟩,.string ⟨#[]⟩,.string ⟨#[]⟩,.bool false,.string ⟨#[]⟩] 63 (0,0)):=by rw [hw0];exact heap_alloc_new w _
 have z0:=h.non k0
 have hsz0:=lt_of_block Q0
 have hRP : w.heap.size ≠ P:=by omega
 have C1:=zname_st z0 (by omega)
 have b2 : (nameM ts N s).2.i ≤ 1000000:=by rw [nameM_i];omega
 have b3 : (mustM ts N 0 [58] (nameM ts N s).2).i ≤ 999990:=by rw [mustM_i,nameM_i];omega
 obtain ⟨n,hn⟩ : ∃ n,(nameM ts N s).1 = n:=⟨_,rfl⟩
 obtain ⟨s1,hs1⟩ : ∃ s1,(nameM ts N s).2 = s1:=⟨_,rfl⟩
 obtain ⟨s2,hs2⟩ : ∃ s2,mustM ts N 0 [58] s1 = s2:=⟨_,rfl⟩
 obtain ⟨t,ht⟩ : ∃ t,(refM ts N s2).1.1 = t:=⟨_,rfl⟩
 obtain ⟨x,hx⟩ : ∃ x,(refM ts N s2).1.2 = x:=⟨_,rfl⟩
 obtain ⟨s3,hs3⟩ : ∃ s3,(refM ts N s2).2 = s3:=⟨_,rfl⟩
 have hal3 : AliveM ts s3:=by rw [← hs3];exact refM_alive _
 have b4 : s3.i ≤ 999950:=by
  rw [← hs3]
  have:=(refM_i (ts:=ts) (N:=N) s2).1
  rw [← hs2,mustM_i,← hs1,nameM_i] at this
  rw [← hs2,← hs1]
  omega
 have HF : Hid (fieldM ts N s = (⟨n,t,x,(dirsM ts N (ts.length + 2) (s3,false,[])).2.1,(dirsM ts N (ts.length + 2) (s3,false,[])).2.2⟩,(dirsM ts N (ts.length + 2) (s3,false,[])).1)):=by
  show _ = _
  unfold fieldM
  rw [hn,hs1,hs2,ht,hx,hs3]
 rw [hs1] at b2 b3 C1
 rw [hs2] at b3
 rw [hn] at C1
 have C2:=fun {W : World} (z : Zp ts N W P g cap s1) => zmust_any z b2 0 [58]
 rw [hs2] at C2
 have C3:=fun {W : World} (z : Zp ts N W P g cap s2) (hW : w.heap.size ≤ W.heap.size) => zref_any z (fun b o e => Nat.lt_of_lt_of_le (hne b o e) hW) b3
 rw [ht,hx,hs3] at C3
 clear hn hs1 hs2 ht hx hs3 h
 go_enter Tryz.func22,Tryz.ntmps22
 go_wp2_with (first
  | (go_at_call 39;(with_reducible refine (C3 z2 hsz2).mono ?_);rintro e w3 ⟨rfl,z3,k3⟩;have L3:=L2.p hRP hVP k3;obtain ⟨v0,v1,v2,v3,v4,vf⟩:=rowZ5 L3.v)
  | (go_at_call 21;(with_reducible refine (C2 z1').mono ?_);rintro e w2 ⟨rfl,z2,k2⟩;have L2:=L1.p hRP hVP k2;have hsz2 : w.heap.size ≤ w2.heap.size:=Nat.le_trans (Nat.le_trans (Nat.le_of_lt hsz0) k1.size) (Nat.le_trans (al1 w1 _).size k2.size))
  | (go_at_call 20;rw [← hw0];(with_reducible refine C1.mono ?_);rintro e w1 ⟨rfl,z1,k1⟩;have z1':=z1.non ((Kp.refl Non w1).alloc (.cells #[.string ⟨n.toArray⟩,.string ⟨#[]⟩,.string ⟨#[]⟩,.bool false,.string ⟨#[]⟩] 63));have hP1:=z1.lt;have hVP : w1.heap.size ≠ P:=(by omega);have E1:=rowOld Q0 k1 (fun e => hRP e);have hRV : w.heap.size ≠ w1.heap.size:=Nat.ne_of_lt (lt_of_block E1);have L1 : Lf (w1.alloc (.cells #[.string ⟨n.toArray⟩,.string ⟨#[]⟩,.string ⟨#[]⟩,.bool false,.string ⟨#[]⟩] 63)) w.heap.size w1.heap.size n [] [] false []:=⟨rowOld E1 ((Kp.refl Non w1).alloc _) (fun e => e),heap_alloc_new w1 _⟩)
  | fail)
 have hgV : ∀ b o,g = some ⟨b,o,none⟩ → b ≠ w1.heap.size:=fun b o e q => by have:=hne b o e;have:=k1.size;omega
 have hgR : ∀ b o,g = some ⟨b,o,none⟩ → b ≠ w.heap.size:=fun b o e q => by have:=hne b o e;omega
 have z4:=(z3.oth w1.heap.size 1 (.string ⟨t.toArray⟩) hVP hgV).oth w1.heap.size 2 (.string ⟨x.toArray⟩) hVP hgV
 have L4:=L3.typ hRV t x
 have hsz1 : w.heap.size ≤ w1.heap.size:=Nat.le_trans (Nat.le_of_lt hsz0) k1.size
 have K4 : Kp (SF P w.heap.size) w ((w3.setCell ⟨w1.heap.size,1,none⟩ (.string ⟨t.toArray⟩)).setCell ⟨w1.heap.size,2,none⟩ (.string ⟨x.toArray⟩)):=((((((k0.any.trans (kp_sf k1)).alloc _).trans (kp_sf k2)).trans (kp_sf k3)).set w1.heap.size 1 _ (Or.inl hsz1)).set w1.heap.size 2 _ (Or.inl hsz1))
 go_loopw [] (fun wr => ∃ (sx : Sp) (sea : Bool) (inv : Bs),Zp ts N wr P g cap sx ∧ Lf wr w.heap.size w1.heap.size n t x sea inv ∧ AliveM ts sx ∧ sx.i ≤ 999950 ∧ dirsM ts N (ts.length + 2) (s3,false,[]) = dirsM ts N (ts.length + 2) (sx,sea,inv) ∧ Kp (SF P w.heap.size) w wr) (fun wr => leftZ ts.length wr P)
 case atStart => exact ⟨s3,false,[],z4,L4,hal3,b4,rfl,K4⟩
 case round =>
  obtain ⟨sx,sea,inv,hz,hL,hal,hib,hdm,hK⟩:=hrel
  have HD : Hid (dirsM ts N (ts.length + 2) (s3,false,[]) = dirsM ts N (ts.length + 2) (sx,sea,inv)):=hdm
  have lz:=leftZ_eq hz
  have b6 : sx.i ≤ 1000000:=by omega
  clear hdm z4 L4 K4 C1 C2 C3 z3 L3 z2 L2 z1 z1' L1 k1 k2 k3
  obtain ⟨a0,c0,d0,f0,g0⟩:=rowZ4 hz.row
  obtain ⟨p0,q0,r0,u0,t0,o0⟩:=rowZ5 hL.v
  obtain ⟨m0,m1,m2,m3,m4,mf⟩:=rowZ5 hL.r
  by_cases ha : sx.a < 0
  ·have C64:=zis_any hz b6 0 [64]
   have hsl:=hal ha
   have hls : sx.i ≤ 2048:=by omega
   cases e64 : isM ts N 0 [64] sx with
   | false =>
    rw [e64] at C64
    have hc : condM ts N (sx,sea,inv) = false:=by unfold condM;rw [e64];simp
    clear e64
    go_wp2_with (first
     | (go_at_call 19;(with_reducible refine C64.mono ?_);rintro e y1 ⟨rfl,z1,j1⟩;have M1:=hL.non j1;obtain ⟨a1,c1,d1,f1,g1⟩:=rowZ4 z1.row;obtain ⟨p1,q1,r1,u1,t1,o1⟩:=rowZ5 M1.v;obtain ⟨v0,v1,v2,v3,v4,vf⟩:=rowZ5 M1.r)
     | fail)
    have hfm : fieldM ts N s = (⟨n,t,x,sea,inv⟩,sx):=by rw [HF.out,HD.out,dirs_stop hc]
    refine bodyPost_ret (v:=fldV ⟨n,t,x,sea,inv⟩) (by simp [results,Tryz.results22,go_sem, *]) rfl ⟨by rw [hfm],by rw [hfm];exact (((((z1.oth w.heap.size 0 (.string ⟨n.toArray⟩) hRP hgR).oth w.heap.size 1 (.string ⟨t.toArray⟩) hRP hgR).oth w.heap.size 2 (.string ⟨x.toArray⟩) hRP hgR).oth w.heap.size 3 (.bool sea) hRP hgR).oth w.heap.size 4 (.string ⟨inv.toArray⟩) hRP hgR),((((((hK.trans j1.any).set w.heap.size 0 _ (Or.inl (Nat.le_refl _))).set w.heap.size 1 _ (Or.inl (Nat.le_refl _))).set w.heap.size 2 _ (Or.inl (Nat.le_refl _))).set w.heap.size 3 _ (Or.inl (Nat.le_refl _))).set w.heap.size 4 _ (Or.inl (Nat.le_refl _))).mono fun k hk e => e.elim id (fun q => absurd hk (by omega))⟩
   | true =>
    rw [e64] at C64
    have b7 : (incM sx).i ≤ 1000000:=by show sx.i + 1 ≤ _;omega
    have b8 : (incM (incM sx)).i ≤ 1000000:=by show sx.i + 1 + 1 ≤ _;omega
    have Cs:=fun {W : World} (z : Zp ts N W P g cap (incM sx)) => zis_any z b7 1 searchB
    have Ci:=fun {W : World} (z : Zp ts N W P g cap (incM sx)) => zis_any z b7 1 inverseB
    have Cw:=fun {W : World} (z : Zp ts N W P g cap (incM sx)) => zwrong_any z b7
    obtain ⟨sB,hsB⟩ : ∃ q,mustM ts N 0 [40] (incM (incM sx)) = q:=⟨_,rfl⟩
    obtain ⟨sC,hsC⟩ : ∃ q,mustM ts N 1 fieldB sB = q:=⟨_,rfl⟩
    obtain ⟨sD,hsD⟩ : ∃ q,mustM ts N 0 [58] sC = q:=⟨_,rfl⟩
    obtain ⟨nn,hn1⟩ : ∃ q,(nameM ts N sD).1 = q:=⟨_,rfl⟩
    obtain ⟨sN,hsN⟩ : ∃ q,(nameM ts N sD).2 = q:=⟨_,rfl⟩
    obtain ⟨sE,hsE1⟩ : ∃ q,mustM ts N 0 [41] sN = q:=⟨_,rfl⟩
    have iB : sB.i ≤ 1000000:=by rw [← hsB,mustM_i];show sx.i + 1 + 1 + 1 ≤ _;omega
    have iC : sC.i ≤ 1000000:=by rw [← hsC,mustM_i,← hsB,mustM_i];show sx.i + 1 + 1 + 1 + 1 ≤ _;omega
    have iD : sD.i ≤ 1000000:=by rw [← hsD,mustM_i,← hsC,mustM_i,← hsB,mustM_i];show sx.i + 1 + 1 + 1 + 1 + 1 ≤ _;omega
    have iN : sN.i ≤ 1000000:=by rw [← hsN,nameM_i,← hsD,mustM_i,← hsC,mustM_i,← hsB,mustM_i];show sx.i + 1 + 1 + 1 + 1 + 1 + 1 ≤ _;omega
    have hsE : mustM ts N 0 [41] (nameM ts N (mustM ts N 0 [58] (mustM ts N 1 fieldB (mustM ts N 0 [40] (incM (incM sx)))))).2 = sE:=by rw [hsB,hsC,hsD,hsN,hsE1]
    have hnn : (nameM ts N (mustM ts N 0 [58] (mustM ts N 1 fieldB (mustM ts N 0 [40] (incM (incM sx)))))).1 = nn:=by rw [hsB,hsC,hsD,hn1]
    have Ca:=fun {W : World} (z : Zp ts N W P g cap (incM (incM sx))) => zmust_any z b8 0 [40]
    have Cb:=fun {W : World} (z : Zp ts N W P g cap sB) => zmust_any z iB 1 fieldB
    have Cc:=fun {W : World} (z : Zp ts N W P g cap sC) => zmust_any z iC 0 [58]
    have Cn:=fun {W : World} (z : Zp ts N W P g cap sD) => zname_st z iD
    have Cd:=fun {W : World} (z : Zp ts N W P g cap sN) => zmust_any z iN 0 [41]
    rw [hsB] at Ca
    rw [hsC] at Cb
    rw [hsD] at Cc
    rw [hn1,hsN] at Cn
    rw [hsE1] at Cd
    clear hsB hsC hsD hn1 hsN hsE1
    have hda : decide (sx.a < 0) = true:=by simpa using ha
    cases sea with
    | true =>
     by_cases hv : inv = []
     ·subst hv
      have hc : condM ts N (sx,true,[]) = true:=by unfold condM;rw [e64,hda];rfl
      clear e64
      cases e1 : isM ts N 1 searchB (incM sx) with
      | true =>
       rw [e1] at Cs
       cases e2 : isM ts N 1 inverseB (incM sx) with
       | true =>
        rw [e2] at Ci
        have hst : stepM ts N (sx,true,[]) = (sE,true,nn):=by unfold stepM inverM;rw [e1,e2];simp [hsE,hnn]
        clear e1 e2
        go_wp2_with (first
         | (go_at_call 21;(with_reducible refine (Cd z7i).mono ?_);rintro e y8 ⟨rfl,z8,j8⟩;have M8:=M7i.p hRP hVP j8)
         | (go_at_call 20;(with_reducible refine (Cn z6).mono ?_);rintro e y7 ⟨rfl,z7,j7⟩;have M7:=M6.p hRP hVP j7;obtain ⟨p7,q7,r7,u7,t7,o7⟩:=rowZ5 M7.v;have z7i:=z7.oth w1.heap.size 4 (.string ⟨nn.toArray⟩) hVP hgV;have M7i:=M7.inv hRV nn)
         | (go_at_call 21;(with_reducible refine (Cc z5).mono ?_);rintro e y6 ⟨rfl,z6,j6⟩;have M6:=M5.p hRP hVP j6)
         | (go_at_call 21;(with_reducible refine (Cb z4).mono ?_);rintro e y5 ⟨rfl,z5,j5⟩;have M5:=M4.p hRP hVP j5)
         | (go_at_call 21;(with_reducible refine (Ca z3i).mono ?_);rintro e y4 ⟨rfl,z4,j4⟩;have M4:=M3i.p hRP hVP j4)
         | (go_at_call 19;(with_reducible refine (Ci z2).mono ?_);rintro e y3 ⟨rfl,z3,j3⟩;have M3:=M2.non j3;obtain ⟨a3,c3,d3,f3,g3⟩:=rowZ4 z3.row;obtain ⟨p3,q3,r3,u3,t3,o3⟩:=rowZ5 M3.v;rw [← hH.out] at c3;have z3i:=z3.incr (H + 1) (by rw [hH.out]);have M3i:=M3.inc hRP hVP (H + 1))
         | (go_at_call 19;(with_reducible refine (Cs z1i).mono ?_);rintro e y2 ⟨rfl,z2,j2⟩;have M2:=M1i.non j2;obtain ⟨a2,c2,d2,f2,g2⟩:=rowZ4 z2.row;obtain ⟨p2,q2,r2,u2,t2,o2⟩:=rowZ5 M2.v;obtain ⟨H,hH,hH0,hH1⟩:=int_of b7;rw [← hH.out] at c2)
         | (go_at_call 19;(with_reducible refine C64.mono ?_);rintro e y1 ⟨rfl,z1,j1⟩;have M1:=hL.non j1;obtain ⟨a1,c1,d1,f1,g1⟩:=rowZ4 z1.row;obtain ⟨p1,q1,r1,u1,t1,o1⟩:=rowZ5 M1.v;obtain ⟨v0,v1,v2,v3,v4,vf⟩:=rowZ5 M1.r;obtain ⟨J,hJ,hJ0,hJ1⟩:=int_of b6;rw [← hJ.out] at c1;have z1i:=z1.incr (J + 1) (by rw [hJ.out]);have M1i:=M1.inc hRP hVP (J + 1))
         | fail)
        have hm:=step_left hc hal
        have hsa:=stepM_alive (ts:=ts) (N:=N) (sx,true,[])
        have hsi:=(stepM_i (ts:=ts) (N:=N) (sx,true,[])).2
        have hdn:=dirs_next hc hal
        rw [hst] at hm hsa hsi hdn
        have ZN:=z8
        refine ⟨⟨sE,true,nn,ZN,M8,hsa,by have e : sx.i ≤ 2048:=hls;show (sE).i ≤ 999950;have h9 : (sE).i ≤ sx.i + 8:=hsi;omega,HD.out.trans hdn,(((((((((hK.trans j1.any).set P 1 _ (Or.inr (Or.inl rfl))).trans j2.any).trans j3.any).set P 1 _ (Or.inr (Or.inl rfl))).trans (kp_sf j4)).trans (kp_sf j5)).trans (kp_sf j6)).trans (kp_sf j7)).set w1.heap.size 4 _ (Or.inl hsz1) |>.trans (kp_sf j8)⟩,?_⟩
        rw [leftZ_eq ZN,lz]
        exact hm
       | false =>
        rw [e2] at Ci
        have hst : stepM ts N (sx,true,[]) = (wrongM ts N (incM sx),true,[]):=by unfold stepM;rw [e1,e2];rfl
        clear e1 e2
        go_wp2_with (first
         | (go_at_call 38;(with_reducible refine (Cw z3).mono ?_);rintro e y4 ⟨rfl,z4,j4⟩;have M4:=M3.p hRP hVP j4)
         | (go_at_call 19;(with_reducible refine (Ci z2).mono ?_);rintro e y3 ⟨rfl,z3,j3⟩;have M3:=M2.non j3;obtain ⟨a3,c3,d3,f3,g3⟩:=rowZ4 z3.row;obtain ⟨p3,q3,r3,u3,t3,o3⟩:=rowZ5 M3.v;rw [← hH.out] at c3;have z3i:=z3.incr (H + 1) (by rw [hH.out]);have M3i:=M3.inc hRP hVP (H + 1))
         | (go_at_call 19;(with_reducible refine (Cs z1i).mono ?_);rintro e y2 ⟨rfl,z2,j2⟩;have M2:=M1i.non j2;obtain ⟨a2,c2,d2,f2,g2⟩:=rowZ4 z2.row;obtain ⟨p2,q2,r2,u2,t2,o2⟩:=rowZ5 M2.v;obtain ⟨H,hH,hH0,hH1⟩:=int_of b7;rw [← hH.out] at c2)
         | (go_at_call 19;(with_reducible refine C64.mono ?_);rintro e y1 ⟨rfl,z1,j1⟩;have M1:=hL.non j1;obtain ⟨a1,c1,d1,f1,g1⟩:=rowZ4 z1.row;obtain ⟨p1,q1,r1,u1,t1,o1⟩:=rowZ5 M1.v;obtain ⟨v0,v1,v2,v3,v4,vf⟩:=rowZ5 M1.r;obtain ⟨J,hJ,hJ0,hJ1⟩:=int_of b6;rw [← hJ.out] at c1;have z1i:=z1.incr (J + 1) (by rw [hJ.out]);have M1i:=M1.inc hRP hVP (J + 1))
         | fail)
        have hm:=step_left hc hal
        have hsa:=stepM_alive (ts:=ts) (N:=N) (sx,true,[])
        have hsi:=(stepM_i (ts:=ts) (N:=N) (sx,true,[])).2
        have hdn:=dirs_next hc hal
        rw [hst] at hm hsa hsi hdn
        have ZN:=z4
        refine ⟨⟨wrongM ts N (incM sx),true,[],ZN,M4,hsa,by have e : sx.i ≤ 2048:=hls;show (wrongM ts N (incM sx)).i ≤ 999950;have h9 : (wrongM ts N (incM sx)).i ≤ sx.i + 8:=hsi;omega,HD.out.trans hdn,((((hK.trans j1.any).set P 1 _ (Or.inr (Or.inl rfl))).trans j2.any).trans j3.any).trans (kp_sf j4)⟩,?_⟩
        rw [leftZ_eq ZN,lz]
        exact hm
      | false =>
       rw [e1] at Cs
       cases e2 : isM ts N 1 inverseB (incM sx) with
       | true =>
        rw [e2] at Ci
        have hst : stepM ts N (sx,true,[]) = (sE,true,nn):=by unfold stepM inverM;rw [e1,e2];simp [hsE,hnn]
        clear e1 e2
        go_wp2_with (first
         | (go_at_call 21;(with_reducible refine (Cd z7i).mono ?_);rintro e y8 ⟨rfl,z8,j8⟩;have M8:=M7i.p hRP hVP j8)
         | (go_at_call 20;(with_reducible refine (Cn z6).mono ?_);rintro e y7 ⟨rfl,z7,j7⟩;have M7:=M6.p hRP hVP j7;obtain ⟨p7,q7,r7,u7,t7,o7⟩:=rowZ5 M7.v;have z7i:=z7.oth w1.heap.size 4 (.string ⟨nn.toArray⟩) hVP hgV;have M7i:=M7.inv hRV nn)
         | (go_at_call 21;(with_reducible refine (Cc z5).mono ?_);rintro e y6 ⟨rfl,z6,j6⟩;have M6:=M5.p hRP hVP j6)
         | (go_at_call 21;(with_reducible refine (Cb z4).mono ?_);rintro e y5 ⟨rfl,z5,j5⟩;have M5:=M4.p hRP hVP j5)
         | (go_at_call 21;(with_reducible refine (Ca z3i).mono ?_);rintro e y4 ⟨rfl,z4,j4⟩;have M4:=M3i.p hRP hVP j4)
         | (go_at_call 19;(with_reducible refine (Ci z2).mono ?_);rintro e y3 ⟨rfl,z3,j3⟩;have M3:=M2.non j3;obtain ⟨a3,c3,d3,f3,g3⟩:=rowZ4 z3.row;obtain ⟨p3,q3,r3,u3,t3,o3⟩:=rowZ5 M3.v;rw [← hH.out] at c3;have z3i:=z3.incr (H + 1) (by rw [hH.out]);have M3i:=M3.inc hRP hVP (H + 1))
         | (go_at_call 19;(with_reducible refine (Cs z1i).mono ?_);rintro e y2 ⟨rfl,z2,j2⟩;have M2:=M1i.non j2;obtain ⟨a2,c2,d2,f2,g2⟩:=rowZ4 z2.row;obtain ⟨p2,q2,r2,u2,t2,o2⟩:=rowZ5 M2.v;obtain ⟨H,hH,hH0,hH1⟩:=int_of b7;rw [← hH.out] at c2)
         | (go_at_call 19;(with_reducible refine C64.mono ?_);rintro e y1 ⟨rfl,z1,j1⟩;have M1:=hL.non j1;obtain ⟨a1,c1,d1,f1,g1⟩:=rowZ4 z1.row;obtain ⟨p1,q1,r1,u1,t1,o1⟩:=rowZ5 M1.v;obtain ⟨v0,v1,v2,v3,v4,vf⟩:=rowZ5 M1.r;obtain ⟨J,hJ,hJ0,hJ1⟩:=int_of b6;rw [← hJ.out] at c1;have z1i:=z1.incr (J + 1) (by rw [hJ.out]);have M1i:=M1.inc hRP hVP (J + 1))
         | fail)
        have hm:=step_left hc hal
        have hsa:=stepM_alive (ts:=ts) (N:=N) (sx,true,[])
        have hsi:=(stepM_i (ts:=ts) (N:=N) (sx,true,[])).2
        have hdn:=dirs_next hc hal
        rw [hst] at hm hsa hsi hdn
        have ZN:=z8
        refine ⟨⟨sE,true,nn,ZN,M8,hsa,by have e : sx.i ≤ 2048:=hls;show (sE).i ≤ 999950;have h9 : (sE).i ≤ sx.i + 8:=hsi;omega,HD.out.trans hdn,(((((((((hK.trans j1.any).set P 1 _ (Or.inr (Or.inl rfl))).trans j2.any).trans j3.any).set P 1 _ (Or.inr (Or.inl rfl))).trans (kp_sf j4)).trans (kp_sf j5)).trans (kp_sf j6)).trans (kp_sf j7)).set w1.heap.size 4 _ (Or.inl hsz1) |>.trans (kp_sf j8)⟩,?_⟩
        rw [leftZ_eq ZN,lz]
        exact hm
       | false =>
        rw [e2] at Ci
        have hst : stepM ts N (sx,true,[]) = (wrongM ts N (incM sx),true,[]):=by unfold stepM;rw [e1,e2];rfl
        clear e1 e2
        go_wp2_with (first
         | (go_at_call 38;(with_reducible refine (Cw z3).mono ?_);rintro e y4 ⟨rfl,z4,j4⟩;have M4:=M3.p hRP hVP j4)
         | (go_at_call 19;(with_reducible refine (Ci z2).mono ?_);rintro e y3 ⟨rfl,z3,j3⟩;have M3:=M2.non j3;obtain ⟨a3,c3,d3,f3,g3⟩:=rowZ4 z3.row;obtain ⟨p3,q3,r3,u3,t3,o3⟩:=rowZ5 M3.v;rw [← hH.out] at c3;have z3i:=z3.incr (H + 1) (by rw [hH.out]);have M3i:=M3.inc hRP hVP (H + 1))
         | (go_at_call 19;(with_reducible refine (Cs z1i).mono ?_);rintro e y2 ⟨rfl,z2,j2⟩;have M2:=M1i.non j2;obtain ⟨a2,c2,d2,f2,g2⟩:=rowZ4 z2.row;obtain ⟨p2,q2,r2,u2,t2,o2⟩:=rowZ5 M2.v;obtain ⟨H,hH,hH0,hH1⟩:=int_of b7;rw [← hH.out] at c2)
         | (go_at_call 19;(with_reducible refine C64.mono ?_);rintro e y1 ⟨rfl,z1,j1⟩;have M1:=hL.non j1;obtain ⟨a1,c1,d1,f1,g1⟩:=rowZ4 z1.row;obtain ⟨p1,q1,r1,u1,t1,o1⟩:=rowZ5 M1.v;obtain ⟨v0,v1,v2,v3,v4,vf⟩:=rowZ5 M1.r;obtain ⟨J,hJ,hJ0,hJ1⟩:=int_of b6;rw [← hJ.out] at c1;have z1i:=z1.incr (J + 1) (by rw [hJ.out]);have M1i:=M1.inc hRP hVP (J + 1))
         | fail)
        have hm:=step_left hc hal
        have hsa:=stepM_alive (ts:=ts) (N:=N) (sx,true,[])
        have hsi:=(stepM_i (ts:=ts) (N:=N) (sx,true,[])).2
        have hdn:=dirs_next hc hal
        rw [hst] at hm hsa hsi hdn
        have ZN:=z4
        refine ⟨⟨wrongM ts N (incM sx),true,[],ZN,M4,hsa,by have e : sx.i ≤ 2048:=hls;show (wrongM ts N (incM sx)).i ≤ 999950;have h9 : (wrongM ts N (incM sx)).i ≤ sx.i + 8:=hsi;omega,HD.out.trans hdn,((((hK.trans j1.any).set P 1 _ (Or.inr (Or.inl rfl))).trans j2.any).trans j3.any).trans (kp_sf j4)⟩,?_⟩
        rw [leftZ_eq ZN,lz]
        exact hm
     ·have hv2 : inv.isEmpty = false:=by simpa using hv
      have hv3 : (inv == []) = false:=by simpa using hv
      have hc : condM ts N (sx,true,inv) = false:=by unfold condM;rw [e64,hda,hv3];rfl
      clear e64
      go_wp2_with (first
       | (go_at_call 19;(with_reducible refine C64.mono ?_);rintro e y1 ⟨rfl,z1,j1⟩;have M1:=hL.non j1;obtain ⟨a1,c1,d1,f1,g1⟩:=rowZ4 z1.row;obtain ⟨p1,q1,r1,u1,t1,o1⟩:=rowZ5 M1.v;obtain ⟨v0,v1,v2,v3,v4,vf⟩:=rowZ5 M1.r)
       | fail)
      have hfm : fieldM ts N s = (⟨n,t,x,true,inv⟩,sx):=by rw [HF.out,HD.out,dirs_stop hc]
      refine bodyPost_ret (v:=fldV ⟨n,t,x,true,inv⟩) (by simp [results,Tryz.results22,go_sem, *]) rfl ⟨by rw [hfm],by rw [hfm];exact (((((z1.oth w.heap.size 0 (.string ⟨n.toArray⟩) hRP hgR).oth w.heap.size 1 (.string ⟨t.toArray⟩) hRP hgR).oth w.heap.size 2 (.string ⟨x.toArray⟩) hRP hgR).oth w.heap.size 3 (.bool true) hRP hgR).oth w.heap.size 4 (.string ⟨inv.toArray⟩) hRP hgR),((((((hK.trans j1.any).set w.heap.size 0 _ (Or.inl (Nat.le_refl _))).set w.heap.size 1 _ (Or.inl (Nat.le_refl _))).set w.heap.size 2 _ (Or.inl (Nat.le_refl _))).set w.heap.size 3 _ (Or.inl (Nat.le_refl _))).set w.heap.size 4 _ (Or.inl (Nat.le_refl _))).mono fun k hk e => e.elim id (fun q => absurd hk (by omega))⟩
    | false =>
     have hc : condM ts N (sx,false,inv) = true:=by unfold condM;rw [e64,hda];rfl
     clear e64
     cases e1 : isM ts N 1 searchB (incM sx) with
     | true =>
      rw [e1] at Cs
      have hst : stepM ts N (sx,false,inv) = (incM (incM sx),true,inv):=by unfold stepM;rw [e1];rfl
      clear e1
      go_wp2_with (first
       | (go_at_call 19;(with_reducible refine (Cs z1i).mono ?_);rintro e y2 ⟨rfl,z2,j2⟩;have M2:=M1i.non j2;obtain ⟨a2,c2,d2,f2,g2⟩:=rowZ4 z2.row;obtain ⟨p2,q2,r2,u2,t2,o2⟩:=rowZ5 M2.v;obtain ⟨H,hH,hH0,hH1⟩:=int_of b7;rw [← hH.out] at c2)
       | (go_at_call 19;(with_reducible refine C64.mono ?_);rintro e y1 ⟨rfl,z1,j1⟩;have M1:=hL.non j1;obtain ⟨a1,c1,d1,f1,g1⟩:=rowZ4 z1.row;obtain ⟨p1,q1,r1,u1,t1,o1⟩:=rowZ5 M1.v;obtain ⟨v0,v1,v2,v3,v4,vf⟩:=rowZ5 M1.r;obtain ⟨J,hJ,hJ0,hJ1⟩:=int_of b6;rw [← hJ.out] at c1;have z1i:=z1.incr (J + 1) (by rw [hJ.out]);have M1i:=M1.inc hRP hVP (J + 1))
       | fail)
      have hm:=step_left hc hal
      have hsa:=stepM_alive (ts:=ts) (N:=N) (sx,false,inv)
      have hsi:=(stepM_i (ts:=ts) (N:=N) (sx,false,inv)).2
      have hdn:=dirs_next hc hal
      rw [hst] at hm hsa hsi hdn
      have ZN:=(z2.incr (H + 1) (by rw [hH.out])).oth w1.heap.size 3 (.bool true) hVP hgV
      refine ⟨⟨incM (incM sx),true,inv,ZN,(M2.inc hRP hVP (H + 1)).sea hRV true,hsa,by have e : sx.i ≤ 2048:=hls;show (incM (incM sx)).i ≤ 999950;have h9 : (incM (incM sx)).i ≤ sx.i + 8:=hsi;omega,HD.out.trans hdn,((((hK.trans j1.any).set P 1 _ (Or.inr (Or.inl rfl))).trans j2.any).set P 1 _ (Or.inr (Or.inl rfl))).set w1.heap.size 3 _ (Or.inl hsz1)⟩,?_⟩
      rw [leftZ_eq ZN,lz]
      exact hm
     | false =>
      rw [e1] at Cs
      cases e2 : isM ts N 1 inverseB (incM sx) with
      | true =>
       rw [e2] at Ci
       by_cases hv : inv = []
       ·subst hv
        have hst : stepM ts N (sx,false,[]) = (sE,false,nn):=by unfold stepM inverM;rw [e1,e2];simp [hsE,hnn]
        clear e1 e2
        go_wp2_with (first
         | (go_at_call 21;(with_reducible refine (Cd z7i).mono ?_);rintro e y8 ⟨rfl,z8,j8⟩;have M8:=M7i.p hRP hVP j8)
         | (go_at_call 20;(with_reducible refine (Cn z6).mono ?_);rintro e y7 ⟨rfl,z7,j7⟩;have M7:=M6.p hRP hVP j7;obtain ⟨p7,q7,r7,u7,t7,o7⟩:=rowZ5 M7.v;have z7i:=z7.oth w1.heap.size 4 (.string ⟨nn.toArray⟩) hVP hgV;have M7i:=M7.inv hRV nn)
         | (go_at_call 21;(with_reducible refine (Cc z5).mono ?_);rintro e y6 ⟨rfl,z6,j6⟩;have M6:=M5.p hRP hVP j6)
         | (go_at_call 21;(with_reducible refine (Cb z4).mono ?_);rintro e y5 ⟨rfl,z5,j5⟩;have M5:=M4.p hRP hVP j5)
         | (go_at_call 21;(with_reducible refine (Ca z3i).mono ?_);rintro e y4 ⟨rfl,z4,j4⟩;have M4:=M3i.p hRP hVP j4)
         | (go_at_call 19;(with_reducible refine (Ci z2).mono ?_);rintro e y3 ⟨rfl,z3,j3⟩;have M3:=M2.non j3;obtain ⟨a3,c3,d3,f3,g3⟩:=rowZ4 z3.row;obtain ⟨p3,q3,r3,u3,t3,o3⟩:=rowZ5 M3.v;rw [← hH.out] at c3;have z3i:=z3.incr (H + 1) (by rw [hH.out]);have M3i:=M3.inc hRP hVP (H + 1))
         | (go_at_call 19;(with_reducible refine (Cs z1i).mono ?_);rintro e y2 ⟨rfl,z2,j2⟩;have M2:=M1i.non j2;obtain ⟨a2,c2,d2,f2,g2⟩:=rowZ4 z2.row;obtain ⟨p2,q2,r2,u2,t2,o2⟩:=rowZ5 M2.v;obtain ⟨H,hH,hH0,hH1⟩:=int_of b7;rw [← hH.out] at c2)
         | (go_at_call 19;(with_reducible refine C64.mono ?_);rintro e y1 ⟨rfl,z1,j1⟩;have M1:=hL.non j1;obtain ⟨a1,c1,d1,f1,g1⟩:=rowZ4 z1.row;obtain ⟨p1,q1,r1,u1,t1,o1⟩:=rowZ5 M1.v;obtain ⟨v0,v1,v2,v3,v4,vf⟩:=rowZ5 M1.r;obtain ⟨J,hJ,hJ0,hJ1⟩:=int_of b6;rw [← hJ.out] at c1;have z1i:=z1.incr (J + 1) (by rw [hJ.out]);have M1i:=M1.inc hRP hVP (J + 1))
         | fail)
        have hm:=step_left hc hal
        have hsa:=stepM_alive (ts:=ts) (N:=N) (sx,false,[])
        have hsi:=(stepM_i (ts:=ts) (N:=N) (sx,false,[])).2
        have hdn:=dirs_next hc hal
        rw [hst] at hm hsa hsi hdn
        have ZN:=z8
        refine ⟨⟨sE,false,nn,ZN,M8,hsa,by have e : sx.i ≤ 2048:=hls;show (sE).i ≤ 999950;have h9 : (sE).i ≤ sx.i + 8:=hsi;omega,HD.out.trans hdn,(((((((((hK.trans j1.any).set P 1 _ (Or.inr (Or.inl rfl))).trans j2.any).trans j3.any).set P 1 _ (Or.inr (Or.inl rfl))).trans (kp_sf j4)).trans (kp_sf j5)).trans (kp_sf j6)).trans (kp_sf j7)).set w1.heap.size 4 _ (Or.inl hsz1) |>.trans (kp_sf j8)⟩,?_⟩
        rw [leftZ_eq ZN,lz]
        exact hm
       ·have hv2 : inv.isEmpty = false:=by simpa using hv
        have hv3 : (inv == []) = false:=by simpa using hv
        have hst : stepM ts N (sx,false,inv) = (wrongM ts N (incM sx),false,inv):=by unfold stepM;rw [e1,e2,hv3];rfl
        clear e1 e2
        go_wp2_with (first
         | (go_at_call 38;(with_reducible refine (Cw z3).mono ?_);rintro e y4 ⟨rfl,z4,j4⟩;have M4:=M3.p hRP hVP j4)
         | (go_at_call 19;(with_reducible refine (Ci z2).mono ?_);rintro e y3 ⟨rfl,z3,j3⟩;have M3:=M2.non j3;obtain ⟨a3,c3,d3,f3,g3⟩:=rowZ4 z3.row;obtain ⟨p3,q3,r3,u3,t3,o3⟩:=rowZ5 M3.v;rw [← hH.out] at c3;have z3i:=z3.incr (H + 1) (by rw [hH.out]);have M3i:=M3.inc hRP hVP (H + 1))
         | (go_at_call 19;(with_reducible refine (Cs z1i).mono ?_);rintro e y2 ⟨rfl,z2,j2⟩;have M2:=M1i.non j2;obtain ⟨a2,c2,d2,f2,g2⟩:=rowZ4 z2.row;obtain ⟨p2,q2,r2,u2,t2,o2⟩:=rowZ5 M2.v;obtain ⟨H,hH,hH0,hH1⟩:=int_of b7;rw [← hH.out] at c2)
         | (go_at_call 19;(with_reducible refine C64.mono ?_);rintro e y1 ⟨rfl,z1,j1⟩;have M1:=hL.non j1;obtain ⟨a1,c1,d1,f1,g1⟩:=rowZ4 z1.row;obtain ⟨p1,q1,r1,u1,t1,o1⟩:=rowZ5 M1.v;obtain ⟨v0,v1,v2,v3,v4,vf⟩:=rowZ5 M1.r;obtain ⟨J,hJ,hJ0,hJ1⟩:=int_of b6;rw [← hJ.out] at c1;have z1i:=z1.incr (J + 1) (by rw [hJ.out]);have M1i:=M1.inc hRP hVP (J + 1))
         | fail)
        have hm:=step_left hc hal
        have hsa:=stepM_alive (ts:=ts) (N:=N) (sx,false,inv)
        have hsi:=(stepM_i (ts:=ts) (N:=N) (sx,false,inv)).2
        have hdn:=dirs_next hc hal
        rw [hst] at hm hsa hsi hdn
        have ZN:=z4
        refine ⟨⟨wrongM ts N (incM sx),false,inv,ZN,M4,hsa,by have e : sx.i ≤ 2048:=hls;show (wrongM ts N (incM sx)).i ≤ 999950;have h9 : (wrongM ts N (incM sx)).i ≤ sx.i + 8:=hsi;omega,HD.out.trans hdn,((((hK.trans j1.any).set P 1 _ (Or.inr (Or.inl rfl))).trans j2.any).trans j3.any).trans (kp_sf j4)⟩,?_⟩
        rw [leftZ_eq ZN,lz]
        exact hm
      | false =>
       rw [e2] at Ci
       have hst : stepM ts N (sx,false,inv) = (wrongM ts N (incM sx),false,inv):=by unfold stepM;rw [e1,e2];rfl
       clear e1 e2
       go_wp2_with (first
        | (go_at_call 38;(with_reducible refine (Cw z3).mono ?_);rintro e y4 ⟨rfl,z4,j4⟩;have M4:=M3.p hRP hVP j4)
        | (go_at_call 19;(with_reducible refine (Ci z2).mono ?_);rintro e y3 ⟨rfl,z3,j3⟩;have M3:=M2.non j3;obtain ⟨a3,c3,d3,f3,g3⟩:=rowZ4 z3.row;obtain ⟨p3,q3,r3,u3,t3,o3⟩:=rowZ5 M3.v;rw [← hH.out] at c3;have z3i:=z3.incr (H + 1) (by rw [hH.out]);have M3i:=M3.inc hRP hVP (H + 1))
        | (go_at_call 19;(with_reducible refine (Cs z1i).mono ?_);rintro e y2 ⟨rfl,z2,j2⟩;have M2:=M1i.non j2;obtain ⟨a2,c2,d2,f2,g2⟩:=rowZ4 z2.row;obtain ⟨p2,q2,r2,u2,t2,o2⟩:=rowZ5 M2.v;obtain ⟨H,hH,hH0,hH1⟩:=int_of b7;rw [← hH.out] at c2)
        | (go_at_call 19;(with_reducible refine C64.mono ?_);rintro e y1 ⟨rfl,z1,j1⟩;have M1:=hL.non j1;obtain ⟨a1,c1,d1,f1,g1⟩:=rowZ4 z1.row;obtain ⟨p1,q1,r1,u1,t1,o1⟩:=rowZ5 M1.v;obtain ⟨v0,v1,v2,v3,v4,vf⟩:=rowZ5 M1.r;obtain ⟨J,hJ,hJ0,hJ1⟩:=int_of b6;rw [← hJ.out] at c1;have z1i:=z1.incr (J + 1) (by rw [hJ.out]);have M1i:=M1.inc hRP hVP (J + 1))
        | fail)
       have hm:=step_left hc hal
       have hsa:=stepM_alive (ts:=ts) (N:=N) (sx,false,inv)
       have hsi:=(stepM_i (ts:=ts) (N:=N) (sx,false,inv)).2
       have hdn:=dirs_next hc hal
       rw [hst] at hm hsa hsi hdn
       have ZN:=z4
       refine ⟨⟨wrongM ts N (incM sx),false,inv,ZN,M4,hsa,by have e : sx.i ≤ 2048:=hls;show (wrongM ts N (incM sx)).i ≤ 999950;have h9 : (wrongM ts N (incM sx)).i ≤ sx.i + 8:=hsi;omega,HD.out.trans hdn,((((hK.trans j1.any).set P 1 _ (Or.inr (Or.inl rfl))).trans j2.any).trans j3.any).trans (kp_sf j4)⟩,?_⟩
       rw [leftZ_eq ZN,lz]
       exact hm
  ·have ha' : decide (sx.a < 0) = false:=by simpa using ha
   have hc : condM ts N (sx,sea,inv) = false:=by unfold condM;rw [ha'];rfl
   go_wp2
   have hfm : fieldM ts N s = (⟨n,t,x,sea,inv⟩,sx):=by rw [HF.out,HD.out,dirs_stop hc]
   refine bodyPost_ret (v:=fldV ⟨n,t,x,sea,inv⟩) (by simp [results,Tryz.results22,go_sem, *]) rfl ⟨by rw [hfm],by rw [hfm];exact (((((hz.oth w.heap.size 0 (.string ⟨n.toArray⟩) hRP hgR).oth w.heap.size 1 (.string ⟨t.toArray⟩) hRP hgR).oth w.heap.size 2 (.string ⟨x.toArray⟩) hRP hgR).oth w.heap.size 3 (.bool sea) hRP hgR).oth w.heap.size 4 (.string ⟨inv.toArray⟩) hRP hgR),(((((hK.set w.heap.size 0 _ (Or.inl (Nat.le_refl _))).set w.heap.size 1 _ (Or.inl (Nat.le_refl _))).set w.heap.size 2 _ (Or.inl (Nat.le_refl _))).set w.heap.size 3 _ (Or.inl (Nat.le_refl _))).set w.heap.size 4 _ (Or.inl (Nat.le_refl _))).mono fun k hk e => e.elim id (fun q => absurd hk (by omega))⟩
end
end
end Go.Proofs.YtlabcadpkdgjnaaGreatDoor
