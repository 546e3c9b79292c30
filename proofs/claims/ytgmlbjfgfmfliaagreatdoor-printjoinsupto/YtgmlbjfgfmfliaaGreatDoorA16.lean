/- Are two values the same? Trees that are values'. -/
import Derived.Test.YtgmlbjfgfmfliaaGreatDoorA08
import Derived.Test.YtgmlbjfgfmfliaaGreatDoorA15
namespace Go.Proofs.YtgmlbjfgfmfliaaGreatDoor
open Go Go.RowKit Go.Shelf
theorem ahead_ne {l r : Bs} (h : r.length < l.length) : ahead l r ≠ []:=by
 intro e
 have:=congrArg List.length e
 unfold ahead at this
 rw [List.length_take] at this
 simp at this
 omega
theorem wrt_ok {k k' : Int} {l r t r' : Bs} (h : wrt k l r = .ok k' t r') : k = k' ∧ t = ahead l r ∧ r = r':=by
 unfold wrt at h
 injection h with h1 h2 h3
 exact ⟨h1,h2.symm,h3⟩
theorem numS_kind {l : Bs} {p : Int × Bs} (h : numS l = some p) : p.1 ≠ 0:=by
 unfold numS at h
 obtain ⟨l1,_,h⟩:=Option.bind_eq_some_iff.1 h
 obtain ⟨q,hq,h⟩:=Option.bind_eq_some_iff.1 h
 obtain ⟨u,hu,h⟩:=Option.bind_eq_some_iff.1 h
 have hq1 : q.1 ≠ 0:=by
  unfold numB at hq
  split at hq
  ·obtain ⟨z,_,hz⟩:=Option.map_eq_some_iff.1 hq
   rw [← hz];simp
  ·injection hq with hq;rw [← hq];simp
 have hu1 : u.1 ≠ 0:=by
  unfold numC at hu
  split at hu
  ·obtain ⟨z,_,hz⟩:=Option.map_eq_some_iff.1 hu
   rw [← hz];simp
  ·injection hu with hu;rw [← hu];exact hq1
 unfold numD at h
 split at h
 ·cases h
 ·injection h with h;rw [← h];exact hu1
theorem tokS_text {x : UInt8} {l t r : Bs} {k : Int} (h : tokS (x :: l) = .ok k t r) : ¬ (k = 0 ∧ t = []):=by
 have hf:=(tokS_facts h).2
 rintro ⟨rfl,rfl⟩
 unfold tokS at h
 split at h
 ·obtain ⟨_,e,rfl⟩:=wrt_ok h
  exact ahead_ne hf e.symm
 split at h
 ·obtain ⟨_,e,rfl⟩:=wrt_ok h
  exact ahead_ne hf e.symm
 split at h
 ·obtain ⟨e,_⟩:=wrt_ok h
  cases e
 split at h
 ·cases hn : numS (x :: l) with
  | none => rw [hn] at h;cases h
  | some p =>
   rw [hn] at h
   obtain ⟨e,_⟩:=wrt_ok h
   exact numS_kind hn e
 split at h
 ·cases hn : textS (x :: l) with
  | none => rw [hn] at h;cases h
  | some p => rw [hn] at h;cases h
 ·cases h
theorem lexF_full (N : Nat) : ∀ (n c : Nat) (l : Bs) (ts : List Tok),c ≤ 2048 → lexF N n c l = .inr ts → ts.length + c ≤ 2048 ∧ ∀ t ∈ ts,¬ (t.k = 0 ∧ t.t = [])
 | 0,c,l,ts,hc,h => by
  cases h
  exact ⟨by simpa using hc,by simp⟩
 | n + 1,c,l,ts,hc,h => by
  unfold lexF at h
  cases hs : skipS l with
  | inr k => rw [hs] at h;cases h
  | inl q =>
   rw [hs] at h
   cases q with
   | nil => cases h;exact ⟨by simpa using hc,by simp⟩
   | cons x l1 =>
    simp only at h
    by_cases h2 : c = 2048
    ·rw [if_pos h2] at h;cases h
    ·rw [if_neg h2] at h
     cases ht : tokS (x :: l1) with
     | bad e => rw [ht] at h;cases h
     | ok k t r =>
      rw [ht] at h
      simp only at h
      cases hr : lexF N n (c + 1) r with
      | inl p => rw [hr] at h;cases h
      | inr us =>
       rw [hr] at h
       injection h with h
       subst h
       obtain ⟨i1,i2⟩:=lexF_full N n (c + 1) r us (by omega) hr
       refine ⟨by simp;omega,?_⟩
       intro u hu
       rcases List.mem_cons.1 hu with rfl | hu
       ·exact tokS_text ht
       ·exact i2 u hu
theorem lexS_full {s : Bs} {ts : List Tok} (h : lexS s = .inr ts) : ts.length ≤ 2048 ∧ s.length ≤ 16384 ∧ ∀ t ∈ ts,¬ (t.k = 0 ∧ t.t = []):=by
 unfold lexS at h
 split at h
 ·cases h
 ·obtain ⟨h1,h2⟩:=lexF_full _ _ 0 _ _ (by omega) h
  exact ⟨by omega,by omega,h2⟩
theorem full_of {s : Bs} {ts : List Tok} (h : lexS s = .inr ts) : Full (ts ++ [eofT s.length]):=by
 obtain ⟨h1,_,h2⟩:=lexS_full h
 exact ⟨⟨ts,s.length,rfl,h2⟩,by simp;omega⟩
theorem cellsT_get : ∀ (ts : List Tok) (i : Nat) (t : Tok),ts[i]? = some t → (cellsT ts)[i * 4]? = some (.int .i64 t.k) ∧ (cellsT ts)[i * 4 + 1]? = some (.string ⟨t.t.toArray⟩) ∧ (cellsT ts)[i * 4 + 2]? = some (.int .i64 (t.b : Int)) ∧ (cellsT ts)[i * 4 + 3]? = some (.int .i64 (t.e : Int))
 | [],_,_,h => by simp at h
 | t :: ts,0,t',h => by
  simp at h
  subst h
  simp [cellsT]
 | t :: ts,i + 1,t',h => by
  have ih:=cellsT_get ts i t' (by simpa using h)
  have e : cellsT (t :: ts) = [.int .i64 t.k,.string ⟨t.t.toArray⟩,.int .i64 (t.b : Int),.int .i64 (t.e : Int)] ++ cellsT ts:=by simp [cellsT]
  have f : ∀ j,(cellsT (t :: ts))[(i + 1) * 4 + j]? = (cellsT ts)[i * 4 + j]?:=fun j => by
   rw [e,List.getElem?_append_right (by simp;omega)]
   congr 1
   simp
   omega
  exact ⟨(f 0).trans ih.1,(f 1).trans ih.2.1,(f 2).trans ih.2.2.1,(f 3).trans ih.2.2.2⟩
/-- The reader that Parse makes. -/
theorem sx_start {w : World} {B g cap : Nat} {T : List Tok} (full : Full T) (own : w.ownsRow B 78 4 (.slice (some ⟨g,0,none⟩) T.length cap) T.length (cellsT T)) :
  Sx w.heap.size g cap T (w.alloc (.cells #[.slice (some ⟨g,0,none⟩) T.length cap,.int .i64 0,.bool false,.int .i64 0,.int .i64 0,.int .i64 0] 81)) T false 0 0 0:=by
 have hg : g < w.heap.size:=(own_block own rfl).2
 refine ⟨?_,?_,List.suffix_refl _,by omega,by simp;omega,full,by omega⟩
 ·rw [heap_alloc_new]
  simp
 ·intro i t hi
  have hc:=cellsT_get T i t hi
  have hlen:=own.1
  have f : ∀ j x,(cellsT T)[j]? = some x → (w.alloc (.cells #[.slice (some ⟨g,0,none⟩) T.length cap,.int .i64 0,.bool false,.int .i64 0,.int .i64 0,.int .i64 0] 81)).cell? ⟨g,j,none⟩ = some x:=fun j x hj => by
   have hlt : j < T.length * 4:=by rw [← hlen];exact (List.getElem?_eq_some_iff.1 hj).1
   refine cell_on (al1 w _) ?_
   rw [own.cellAt j (by omega)]
   exact hj
  exact ⟨f _ _ hc.1,f _ _ hc.2.1,f _ _ hc.2.2.1,f _ _ hc.2.2.2⟩
end Go.Proofs.YtgmlbjfgfmfliaaGreatDoor
namespace Go.Proofs.YtgmlbjfgfmfliaaGreatDoor
open Go Go.RowKit Go.Shelf
abbrev zD : Obj:=.cells #[.slice none 0 0,.slice none 0 0] 25
set_option maxRecDepth 100000 in
theorem ytold_any (p : Nat × Int) (w : World) : Calls Tryz.prog 33 #[.iface 76 (.agg #[.int .i64 (p.1 : Int),.int .i64 p.2])] w fun e w' => e = .returned (.tuple #[.agg #[.slice none 0 0,.slice none 0 0],.int .i64 (p.1 : Int),.int .i64 p.2]) ∧ Kp Non w w':=by
 have hta : ∀ w : World,(Instr.typeAssert (.iface 76 (.agg #[.int .i64 (p.1 : Int),.int .i64 p.2])) 20 76 false).run Tryz.prog w = .ok (.agg #[.int .i64 (p.1 : Int),.int .i64 p.2]) w:=fun _ => by kernel_rfl
 go_enter Tryz.func33,Tryz.ntmps33
 go_wp2
 go_region
 all_goals go_wp2
 refine bodyPost_ret (v:=.tuple #[.agg #[.slice none 0 0,.slice none 0 0],.int .i64 (p.1 : Int),.int .i64 p.2]) (by simp [results,Tryz.results33,go_sem]) rfl ⟨rfl,?_⟩
 exact (((Kp.refl Non w).alloc _).alloc _).drew
/-- The three results' variables. -/
structure ResY (W : World) (B : Nat) (u v : Value) (y z : Int) : Prop where
 bd : W.heap[B]? = some (.cells #[u,v] 25 (0,0))
 ba : W.heap[B + 1]? = some (.cells #[.int .i64 y] 3 (0,0))
 be : W.heap[B + 2]? = some (.cells #[.int .i64 z] 26 (0,0))
theorem ResY.kp {S : Nat → Prop} {W W' : World} {B : Nat} {u v : Value} {y z : Int} (h : ResY W B u v y z) (k : Kp S W W') (h0 : ¬ S B) (h1 : ¬ S (B + 1)) (h2 : ¬ S (B + 2)) : ResY W' B u v y z:=⟨old_row h.bd k h0,old_row h.ba k h1,old_row h.be k h2⟩
set_option maxRecDepth 100000 in
set_option maxHeartbeats 1000000 in
theorem ycatch_dies (B : Nat) (p : Nat × Int) (o1 o2 : Option Addr) (n1 z1 n2 z2 : Nat) (y z : Int) (older : List PanicEntry) (W : World) (h : ResY W B (.slice o1 n1 z1) (.slice o2 n2 z2) y z) :
  CallsD Tryz.prog 32 #[.pointer (some ⟨B,0,none⟩),.pointer (some ⟨B + 1,0,none⟩),.pointer (some ⟨B + 2,0,none⟩)] (.panicking ({ v:=.iface 76 (.agg #[.int .i64 (p.1 : Int),.int .i64 p.2]),recovered:=false } :: older)) W fun e u' w' =>
   e = .returned (.tuple #[]) ∧ u' = .panicking ({ v:=.iface 76 (.agg #[.int .i64 (p.1 : Int),.int .i64 p.2]),recovered:=true } :: older) ∧ ResY w' B (.slice none 0 0) (.slice none 0 0) p.1 p.2 ∧ Kp (fun k => k = B ∨ k = B + 1 ∨ k = B + 2) W w':=by
 refine callsD_of_wpS Tryz.func32 rfl fun c₀ cs hu => ?_
 apply wpS_seq
 apply wpS_region
 simp [wpOpsS,go_sem,recoverD,hu,Tryz.ntmps32,Exit.thenS]
 refine wpS_of_wp ?_
 go_wp2_with (go_at_call 33;refine (ytold_any p _).mono ?_;rintro e w1 ⟨rfl,k1⟩;have r1:=h.kp k1 (fun e => e) (fun e => e) (fun e => e);obtain ⟨d0,d1,df⟩:=row2 r1.bd;obtain ⟨e0,ef⟩:=row1 r1.ba;obtain ⟨g0,gf⟩:=row1 r1.be)
 refine ⟨rfl,_,rfl,.tuple #[],results_none rfl _ _ _,rfl,rfl,⟨?_,?_,?_⟩,?_⟩
 ·exact old_row (heap_setCell_same _ B 1 _ _ _ (heap_setCell_same _ B 0 _ _ _ r1.bd)) (((Kp.own (B + 1) 0 (.int .i64 (p.1 : Int))).mono (fun _ _ e => Or.inl e)).trans ((Kp.own (B + 2) 0 (.int .i64 p.2)).mono (fun _ _ e => Or.inr e)) : Kp (fun k => k = B + 1 ∨ k = B + 2) _ _) (by omega)
 ·refine old_row (heap_setCell_same _ (B + 1) 0 _ _ _ (old_row r1.ba ((Kp.own B 0 (.slice none 0 0)).set B 1 (.slice none 0 0) (Or.inr rfl)) ?_)) (Kp.own (B + 2) 0 (.int .i64 p.2)) ?_
  ·intro e;have e' : B + 1 = B:=e;omega
  ·intro e;have e' : B + 1 = B + 2:=e;omega
 ·refine heap_setCell_same _ (B + 2) 0 _ _ _ (old_row (old_row r1.be ((Kp.own B 0 (.slice none 0 0)).set B 1 (.slice none 0 0) (Or.inr rfl)) ?_) (Kp.own (B + 1) 0 (.int .i64 (p.1 : Int))) ?_)
  ·intro e;have e' : B + 2 = B:=e;omega
  ·intro e;have e' : B + 2 = B + 1:=e;omega
 ·exact (((k1.any.set B 0 _ (Or.inr (Or.inl rfl))).set B 1 _ (Or.inr (Or.inl rfl))).set (B + 1) 0 _ (Or.inr (Or.inr (Or.inl rfl)))).set (B + 2) 0 _ (Or.inr (Or.inr (Or.inr rfl)))
theorem ycatch_idle (B : Nat) (W : World) :
  CallsD Tryz.prog 32 #[.pointer (some ⟨B,0,none⟩),.pointer (some ⟨B + 1,0,none⟩),.pointer (some ⟨B + 2,0,none⟩)] .returning W fun e u' w' => e = .returned (.tuple #[]) ∧ u' = .returning ∧ w' = W:=by
 refine callsD_of_wpS Tryz.func32 rfl fun c₀ cs hu => ?_
 apply wpS_seq
 apply wpS_region
 simp [wpOpsS,go_sem,recoverD,hu,Tryz.ntmps32,Exit.thenS]
 refine wpS_of_wp ?_
 go_wp2
 refine ⟨rfl,.returning,?_,.tuple #[],results_none rfl _ _ _,rfl,rfl,rfl⟩
 cases c₀
 simp_all
theorem own_slice {w : World} {B E sz n : Nat} {v : Value} {xs : List Value} (h : w.ownsRow B E sz v n xs) : ∃ o c,v = .slice o n c:=by
 rcases h.2 with ⟨h1,h2⟩ | ⟨q,cp,cu,hv,_⟩
 ·exact ⟨none,0,by rw [h1,h2]⟩
 ·exact ⟨_,_,hv⟩
/-- What Parse comes to. -/
def ParseP (w : World) (r : Except (Nat × Int) (List CT)) (e : Ending) (w' : World) : Prop:=(match r with
 | .error p => e = .returned (.tuple #[.agg #[.slice none 0 0,.slice none 0 0],.int .i64 (p.1 : Int),.int .i64 p.2])
 | .ok cs => ∃ v,e = .returned (.tuple #[v,.int .i64 0,.int .i64 0]) ∧ DocV w.heap.size cs v w') ∧ Below w.heap.size w w'
abbrev preY (w : World) : World:=((w.alloc zD).alloc (.cells #[.int .i64 0] 3)).alloc (.cells #[.int .i64 0] 26)
theorem preY_res (w : World) : ResY (preY w) w.heap.size (.slice none 0 0) (.slice none 0 0) 0 0:=by
 refine ⟨old_row (heap_alloc_new w zD) (((Kp.refl Non _).alloc _).alloc _) (fun e => e),?_,?_⟩
 ·have:=old_row (heap_alloc_new (w.alloc zD) (.cells #[.int .i64 0] 3)) ((Kp.refl Non _).alloc (.cells #[.int .i64 0] 26)) (fun e => e)
  rw [World.size_alloc] at this
  exact this
 ·have:=heap_alloc_new ((w.alloc zD).alloc (.cells #[.int .i64 0] 3)) (.cells #[.int .i64 0] 26)
  rw [World.size_alloc,World.size_alloc] at this
  exact this
theorem preY_size (w : World) : (preY w).heap.size = w.heap.size + 3:=by simp
theorem preY_below (w : World) : Below w.heap.size w (preY w):=(((Below.refl _ w).alloc (Nat.le_refl _) _).alloc (by simp) _).alloc (by simp;omega) _
set_option maxRecDepth 100000 in
set_option maxHeartbeats 4000000 in
theorem parse_lex (s : Bs) (p : Nat × Int) (hs : lexS s = .inl p) (hp : p.2 ≠ 0) (w : World) (gl : Gl w) : Calls Tryz.prog 15 #[.string ⟨s.toArray⟩] w (ParseP w (.error p)):=by
 have hmf : ∀ (fn : Fn) (first cap : Array Value) (w : World),(Instr.makeFunc fn first cap).run Tryz.prog w = .ok (.func fn first cap) w:=fun _ _ _ _ => rfl
 have TO:=tokens_any s (preY w) (gl.below (preY_below w) (Nat.le_refl _))
 rw [hs] at TO
 have hp' : (p.2 == 0) = false:=by simpa using hp
 clear hs hp
 go_enter_defers Tryz.func15,Tryz.ntmps15
 go_wp2_with (go_at_call 34;refine TO.mono ?_;rintro e w1 ⟨rfl,hb⟩;have r1:=(preY_res w).kp (Kp.of_below (S:=Non) hb) (fun e => e) (fun e => e) (fun e => e);obtain ⟨d0,d1,df⟩:=row2 r1.bd;obtain ⟨e0,ef⟩:=row1 r1.ba;obtain ⟨g0,gf⟩:=row1 r1.be)
 have r2 : ResY ((w1.setCell ⟨w.heap.size + 1,0,none⟩ (.int .i64 (p.1 : Int))).setCell ⟨w.heap.size + 1 + 1,0,none⟩ (.int .i64 p.2)) w.heap.size (.slice none 0 0) (.slice none 0 0) p.1 p.2:=by
  refine ⟨?_,?_,?_⟩
  ·exact old_row r1.bd (((Kp.own (w.heap.size + 1) 0 (.int .i64 (p.1 : Int))).mono (fun _ _ e => Or.inl e)).trans ((Kp.own (w.heap.size + 1 + 1) 0 (.int .i64 p.2)).mono (fun _ _ e => Or.inr e)) : Kp (fun k => k = w.heap.size + 1 ∨ k = w.heap.size + 1 + 1) _ _) (by omega)
  ·exact old_row (heap_setCell_same _ (w.heap.size + 1) 0 _ _ _ r1.ba) (Kp.own (w.heap.size + 1 + 1) 0 (.int .i64 p.2)) (by intro e;have e' : w.heap.size + 1 = w.heap.size + 1 + 1:=e;omega)
  ·exact heap_setCell_same _ (w.heap.size + 1 + 1) 0 _ _ _ (old_row r1.be (Kp.own (w.heap.size + 1) 0 (.int .i64 (p.1 : Int))) (by intro e;have e' : w.heap.size + 2 = w.heap.size + 1:=e;omega))
 have hb2 : Below w.heap.size w ((w1.setCell ⟨w.heap.size + 1,0,none⟩ (.int .i64 (p.1 : Int))).setCell ⟨w.heap.size + 1 + 1,0,none⟩ (.int .i64 p.2)):=(((preY_below w).trans (hb.mono (by rw [preY_size];omega))).setCell (p:=⟨w.heap.size + 1,0,none⟩) (by show _ ≤ _ + 1;omega) _).setCell (p:=⟨w.heap.size + 1 + 1,0,none⟩) (by show _ ≤ _ + 1 + 1;omega) _
 generalize (w1.setCell ⟨w.heap.size + 1,0,none⟩ (.int .i64 (p.1 : Int))).setCell ⟨w.heap.size + 1 + 1,0,none⟩ (.int .i64 p.2) = w2 at *
 refine leaves_cons (f:=32) (args:=#[.pointer (some ⟨w.heap.size,0,none⟩),.pointer (some ⟨w.heap.size + 1,0,none⟩),.pointer (some ⟨w.heap.size + 1 + 1,0,none⟩)]) (by simp) (by simp [go_sem]) ?_
 refine (ycatch_dies w.heap.size p none none 0 0 0 0 p.1 p.2 [] _ r2).mono ?_
 rintro e u' w'' ⟨rfl,rfl,r3,k3⟩
 obtain ⟨x0,x1,xf⟩:=row2 r3.bd
 obtain ⟨y0,yf⟩:=row1 r3.ba
 obtain ⟨z0,zf⟩:=row1 r3.be
 simp [Leaves,settle,results,Tryz.results15,go_sem,x0,x1,y0,z0]
 exact ⟨rfl,hb2.trans (k3.below hb2.size (fun k hk e => by omega))⟩
theorem toks_face {w w1 : World} {ts : List Tok} {v : Value} (ht : Toks w1 (preY w).heap.size v ts) (hb : Below (preY w).heap.size (preY w) w1) (s : Bs) : ∃ o lc,v = .slice o ts.length lc ∧ ResY w1 w.heap.size (.slice none 0 0) (.slice none 0 0) 0 0 ∧ w.heap.size + 3 ≤ w1.heap.size ∧
  Hid ((((w1.setCell ⟨w.heap.size + 1,0,none⟩ (.int .i64 0)).setCell ⟨w.heap.size + 1 + 1,0,none⟩ (.int .i64 0)).alloc (.cells #[.int .i64 0,.string ⟨#[]⟩,.int .i64 (s.length : Int),.int .i64 0] 78)).ownsRow (w.heap.size + 3) 78 4 (.slice o ts.length lc) ts.length (cellsT ts)) ∧ Hid ((((w1.setCell ⟨w.heap.size + 1,0,none⟩ (.int .i64 0)).setCell ⟨w.heap.size + 1 + 1,0,none⟩ (.int .i64 0)).alloc (.cells #[.int .i64 0,.string ⟨#[]⟩,.int .i64 (s.length : Int),.int .i64 0] 78)).heap[w1.heap.size]? = some (.cells #[.int .i64 0,.string ⟨#[]⟩,.int .i64 (s.length : Int),.int .i64 0] 78 (0,0))):=by
 rw [preY_size] at ht
 obtain ⟨o,lc,rfl⟩:=own_slice ht
 have hz1:=hb.size
 rw [preY_size] at hz1
 have hT:=heap_alloc_new ((w1.setCell ⟨w.heap.size + 1,0,none⟩ (.int .i64 0)).setCell ⟨w.heap.size + 1 + 1,0,none⟩ (.int .i64 0)) (.cells #[.int .i64 0,.string ⟨#[]⟩,.int .i64 (s.length : Int),.int .i64 0] 78)
 rw [show ((w1.setCell ⟨w.heap.size + 1,0,none⟩ (.int .i64 0)).setCell ⟨w.heap.size + 1 + 1,0,none⟩ (.int .i64 0)).heap.size = w1.heap.size by simp [World.setCell]] at hT
 exact ⟨o,lc,rfl,(preY_res w).kp (Kp.of_below (S:=Non) hb) (fun e => e) (fun e => e) (fun e => e),hz1,(ownsRow_setCell_below (ownsRow_setCell_below ht (a:=⟨w.heap.size + 1,0,none⟩) (by show _ + 1 < _;omega) (.int .i64 0)) (a:=⟨w.heap.size + 1 + 1,0,none⟩) (by show _ + 1 + 1 < _;omega) (.int .i64 0)).alloc _,hT⟩
/-- What lies there where the reader begins. -/
theorem face_mid {w w1 w2 : World} {lv : Value} {s : Bs} (r1 : ResY w1 w.heap.size (.slice none 0 0) (.slice none 0 0) 0 0) (hb : Below w.heap.size w w1) (hlv : ∀ k,lv.ownBlock = some k → w.heap.size + 3 ≤ k) (hgr : (((w1.setCell ⟨w.heap.size + 1,0,none⟩ (.int .i64 0)).setCell ⟨w.heap.size + 1 + 1,0,none⟩ (.int .i64 0)).alloc (.cells #[.int .i64 0,.string ⟨#[]⟩,.int .i64 (s.length : Int),.int .i64 0] 78)).grownBy w2 lv.ownBlock) : ResY w2 w.heap.size (.slice none 0 0) (.slice none 0 0) 0 0 ∧ Below w.heap.size w w2:=by
 have hsz : ((w1.setCell ⟨w.heap.size + 1,0,none⟩ (.int .i64 0)).setCell ⟨w.heap.size + 1 + 1,0,none⟩ (.int .i64 0)).heap.size = w1.heap.size:=by simp [World.setCell]
 have K1 : Kp (fun k => lv.ownBlock = some k) ((w1.setCell ⟨w.heap.size + 1,0,none⟩ (.int .i64 0)).setCell ⟨w.heap.size + 1 + 1,0,none⟩ (.int .i64 0)) w2:=((Kp.refl _ ((w1.setCell ⟨w.heap.size + 1,0,none⟩ (.int .i64 0)).setCell ⟨w.heap.size + 1 + 1,0,none⟩ (.int .i64 0))).alloc (.cells #[.int .i64 0,.string ⟨#[]⟩,.int .i64 (s.length : Int),.int .i64 0] 78)).grew hgr (fun k e => Or.inr e)
 have r2 : ResY ((w1.setCell ⟨w.heap.size + 1,0,none⟩ (.int .i64 0)).setCell ⟨w.heap.size + 1 + 1,0,none⟩ (.int .i64 0)) w.heap.size (.slice none 0 0) (.slice none 0 0) 0 0:=by
  refine ⟨?_,?_,?_⟩
  ·exact old_row r1.bd (((Kp.own (w.heap.size + 1) 0 (.int .i64 0)).mono (fun _ _ e => Or.inl e)).trans ((Kp.own (w.heap.size + 1 + 1) 0 (.int .i64 0)).mono (fun _ _ e => Or.inr e)) : Kp (fun k => k = w.heap.size + 1 ∨ k = w.heap.size + 1 + 1) _ _) (by omega)
  ·exact old_row (heap_setCell_same _ (w.heap.size + 1) 0 _ _ _ r1.ba) (Kp.own (w.heap.size + 1 + 1) 0 (.int .i64 0)) (by intro e;have e' : w.heap.size + 1 = w.heap.size + 1 + 1:=e;omega)
  ·exact heap_setCell_same _ (w.heap.size + 1 + 1) 0 _ _ _ (old_row r1.be (Kp.own (w.heap.size + 1) 0 (.int .i64 0)) (by intro e;have e' : w.heap.size + 2 = w.heap.size + 1:=e;omega))
 have hb2 : Below w.heap.size w ((w1.setCell ⟨w.heap.size + 1,0,none⟩ (.int .i64 0)).setCell ⟨w.heap.size + 1 + 1,0,none⟩ (.int .i64 0)):=(hb.setCell (p:=⟨w.heap.size + 1,0,none⟩) (by show _ ≤ _ + 1;omega) _).setCell (p:=⟨w.heap.size + 1 + 1,0,none⟩) (by show _ ≤ _ + 1 + 1;omega) _
 exact ⟨r2.kp K1 (fun e => by have:=hlv _ e;omega) (fun e => by have:=hlv _ e;omega) (fun e => by have:=hlv _ e;omega),hb2.trans (K1.below hb2.size (fun k hk e => by have:=hlv _ e;omega))⟩
theorem face_doc {w w2 : World} {s : Bs} {ts : List Tok} {q cp : Nat} (hfull : Full (ts ++ [eofT s.length])) (own : w2.ownsRow (w.heap.size + 3) 78 4 (.slice (some ⟨q,0,none⟩) (ts.length + 1) cp) (ts.length + 1) (cellsT ts ++ [.int .i64 0,.string ⟨#[]⟩,.int .i64 (s.length : Int),.int .i64 0])) :
  Calls Tryz.prog 35 #[.pointer (some ⟨w2.heap.size,0,none⟩)] (w2.alloc (.cells #[.slice (some ⟨q,0,none⟩) (ts.length + 1) cp,.int .i64 0,.bool false,.int .i64 0,.int .i64 0,.int .i64 0] 81)) fun e w' => (∃ p,docS (ts ++ [eofT s.length]) = .error p ∧ e = DiesY p ∧ Kp Non w2 w') ∨ (∃ cs m o1 n1 z1 o2 n2 z2,docS (ts ++ [eofT s.length]) = .ok (cs,m) ∧ e = .returned (.agg #[.slice o1 n1 z1,.slice o2 n2 z2]) ∧ Ats w' (Iv (w2.heap.size + 1) w'.heap.size) cs [.slice o1 n1 z1,.slice o2 n2 z2] ∧ Kp Non w2 w'):=by
 have e1 : (ts ++ [eofT s.length]).length = ts.length + 1:=by simp
 have OW : w2.ownsRow (w.heap.size + 3) 78 4 (.slice (some ⟨q,0,none⟩) (ts ++ [eofT s.length]).length cp) (ts ++ [eofT s.length]).length (cellsT (ts ++ [eofT s.length])):=by
  rw [e1,cellsT_snoc];exact own
 have DC:=doc_any (sx_start hfull OW) (by simp)
 rw [e1] at DC
 refine DC.mono ?_
 rintro e w3 (⟨p,hq,rfl,k3⟩ | ⟨cs,m,v,hq,rfl,⟨o1,n1,z1,o2,n2,z2,rfl,hv⟩,k3⟩)
 ·exact Or.inl ⟨p,hq,rfl,((Kp.refl Non w2).alloc _).trans2 k3 (fun k hk e => by have e' : k = w2.heap.size:=e;omega)⟩
 ·rw [World.size_alloc] at hv
  exact Or.inr ⟨cs,m,o1,n1,z1,o2,n2,z2,hq,rfl,hv,((Kp.refl Non w2).alloc _).trans2 k3 (fun k hk e => by have e' : k = w2.heap.size:=e;omega)⟩
theorem tokS_bad {l : Bs} {e : Int} (h : tokS l = .bad e) : e ≠ 0:=by
 unfold tokS at h
 split at h
 ·cases h
 split at h
 ·cases h
 split at h
 ·cases h
 split at h
 ·cases hn : numS l with
  | none => rw [hn] at h;cases h;simp
  | some p => rw [hn] at h;cases h
 split at h
 ·cases hn : textS l with
  | none => rw [hn] at h;cases h;simp
  | some p => rw [hn] at h;cases h
 ·cases h;simp
theorem lexF_bad (N : Nat) : ∀ (n c : Nat) (l : Bs) (p : Nat × Int),lexF N n c l = .inl p → p.2 ≠ 0
 | 0,c,l,p,h => by cases h
 | n + 1,c,l,p,h => by
  unfold lexF at h
  cases hs : skipS l with
  | inr k => rw [hs] at h;cases h;simp
  | inl q =>
   rw [hs] at h
   cases q with
   | nil => cases h
   | cons x l1 =>
    simp only at h
    by_cases h2 : c = 2048
    ·rw [if_pos h2] at h;cases h;simp
    ·rw [if_neg h2] at h
     cases ht : tokS (x :: l1) with
     | bad e => rw [ht] at h;cases h;exact tokS_bad ht
     | ok k t r =>
      rw [ht] at h
      simp only at h
      cases hr : lexF N n (c + 1) r with
      | inl p' => rw [hr] at h;cases h;exact lexF_bad N n (c + 1) r _ hr
      | inr us => rw [hr] at h;cases h
theorem lexS_bad {s : Bs} {p : Nat × Int} (h : lexS s = .inl p) : p.2 ≠ 0:=by
 unfold lexS at h
 split at h
 ·cases h;simp
 ·exact lexF_bad _ _ _ _ _ h
set_option maxRecDepth 100000 in
set_option maxHeartbeats 4000000 in
theorem parse_toks (s : Bs) (ts : List Tok) (hs : lexS s = .inr ts) (w : World) (gl : Gl w) : Calls Tryz.prog 15 #[.string ⟨s.toArray⟩] w (ParseP w (match docS (ts ++ [eofT s.length]) with | .error p => .error p | .ok p => .ok p.1)):=by
 have hmf : ∀ (fn : Fn) (first cap : Array Value) (w : World),(Instr.makeFunc fn first cap).run Tryz.prog w = .ok (.func fn first cap) w:=fun _ _ _ _ => rfl
 have TO:=tokens_any s (preY w) (gl.below (preY_below w) (Nat.le_refl _))
 rw [hs] at TO
 have hfull:=full_of hs
 obtain ⟨hn1,hn2,_⟩:=lexS_full hs
 have hsz:=size_of s
 have hne : ts ++ [eofT s.length] ≠ []:=by simp
 obtain ⟨ti,hti,hy0,hy1,hy2⟩:=info_parts Tryz.infoTok
 clear hs
 obtain ⟨r,hr⟩ : ∃ r,(match docS (ts ++ [eofT s.length]) with | .error p => .error p | .ok p => .ok p.1 : Except (Nat × Int) (List CT)) = r:=⟨_,rfl⟩
 rw [hr]
 go_enter_defers Tryz.func15,Tryz.ntmps15
 go_wp2_with (first
  | (at_builtin;refine wpList_append_lies _ rfl _ _ _ rfl (w.heap.size + 3) 78 ti _ 4 40 Tryz.underlying72 hti hy0 hy1 hy2 rfl (by decide) (.slice o ts.length lc) ts.length (cellsT ts) rfl HO.out ⟨w1.heap.size,0,none⟩ 1 1 [.int .i64 0,.string ⟨#[]⟩,.int .i64 (s.length : Int),.int .i64 0] rfl rfl (World.news_of_block bT.out) (by intro u hu;simp at hu;rcases hu with rfl | rfl | rfl | rfl <;> rfl) (by decide) (by unfold maxLen;omega) (by omega) (by simp;omega) (w1.heap.size + 1) (by simp) ?_;intro q cp w2 own2 hgr hor hlt2;have DC:=face_doc hfull own2;have FM:=face_mid r1 ((preY_below w).trans (hb.mono (by rw [preY_size];omega))) (fun k e => (own_block HO.out e).1) hgr;clear own2 hgr hor)
  | (go_at_call 35;refine DC.mono ?_;(rintro e w3 (⟨p,hq,rfl,k3⟩ | ⟨cs,m,o1,n1,z1,o2,n2,z2,hq,rfl,hv,k3⟩) <;> (have r3:=FM.1.kp k3 (fun e => e) (fun e => e) (fun e => e);have hb3:=FM.2.trans (k3.bel.mono FM.2.size);have hz2 : w.heap.size + 3 ≤ w2.heap.size:=lt_of_block FM.1.be;obtain ⟨x0,x1,xf⟩:=row2 r3.bd;obtain ⟨y0,yf⟩:=row1 r3.ba;obtain ⟨z0,zf⟩:=row1 r3.be)))
  | (go_at_call 34;refine TO.mono ?_;rintro e w1 ⟨⟨v,rfl,ht⟩,hb⟩;obtain ⟨o,lc,rfl,r1,hz1,HO,bT⟩:=toks_face ht hb s;obtain ⟨d0,d1,df⟩:=row2 r1.bd;obtain ⟨e0,ef⟩:=row1 r1.ba;obtain ⟨g0,gf⟩:=row1 r1.be))
 ·rw [hq] at hr
  subst hr
  refine leaves_cons (f:=32) (args:=#[.pointer (some ⟨w.heap.size,0,none⟩),.pointer (some ⟨w.heap.size + 1,0,none⟩),.pointer (some ⟨w.heap.size + 1 + 1,0,none⟩)]) (by simp) (by simp [go_sem]) ?_
  refine (ycatch_dies w.heap.size p none none 0 0 0 0 0 0 [] _ r3).mono ?_
  rintro e u' w'' ⟨rfl,rfl,r4,k4⟩
  obtain ⟨a0,a1,af⟩:=row2 r4.bd
  obtain ⟨b0,bf⟩:=row1 r4.ba
  obtain ⟨c0,cf⟩:=row1 r4.be
  simp [Leaves,settle,results,Tryz.results15,go_sem,a0,a1,b0,c0]
  exact ⟨rfl,hb3.trans (k4.below hb3.size (fun k hk e => by omega))⟩
 ·rw [hq] at hr
  subst hr
  have KF : Kp (fun k => k < w.heap.size + 3) w3 ((((w3.setCell ⟨w.heap.size,0,none⟩ (.slice o1 n1 z1)).setCell ⟨w.heap.size,1,none⟩ (.slice o2 n2 z2)).setCell ⟨w.heap.size + 1,0,none⟩ (.int .i64 0)).setCell ⟨w.heap.size + 1 + 1,0,none⟩ (.int .i64 0)):=((((Kp.refl (fun k => k < w.heap.size + 3) w3).lowset w.heap.size 0 (.slice o1 n1 z1) (by omega)).lowset w.heap.size 1 (.slice o2 n2 z2) (by omega)).lowset (w.heap.size + 1) 0 (.int .i64 0) (by omega)).lowset (w.heap.size + 1 + 1) 0 (.int .i64 0) (by omega)
  have hbF : Below w.heap.size w ((((w3.setCell ⟨w.heap.size,0,none⟩ (.slice o1 n1 z1)).setCell ⟨w.heap.size,1,none⟩ (.slice o2 n2 z2)).setCell ⟨w.heap.size + 1,0,none⟩ (.int .i64 0)).setCell ⟨w.heap.size + 1 + 1,0,none⟩ (.int .i64 0)):=(((hb3.setCell (p:=⟨w.heap.size,0,none⟩) (Nat.le_refl _) _).setCell (p:=⟨w.heap.size,1,none⟩) (Nat.le_refl _) _).setCell (p:=⟨w.heap.size + 1,0,none⟩) (by show _ ≤ _ + 1;omega) _).setCell (p:=⟨w.heap.size + 1 + 1,0,none⟩) (by show _ ≤ _ + 1 + 1;omega) _
  have a0 : ((((w3.setCell ⟨w.heap.size,0,none⟩ (.slice o1 n1 z1)).setCell ⟨w.heap.size,1,none⟩ (.slice o2 n2 z2)).setCell ⟨w.heap.size + 1,0,none⟩ (.int .i64 0)).setCell ⟨w.heap.size + 1 + 1,0,none⟩ (.int .i64 0)).cell? ⟨w.heap.size,0,none⟩ = some (.slice o1 n1 z1):=by simp [go_sem,x0]
  have a1 : ((((w3.setCell ⟨w.heap.size,0,none⟩ (.slice o1 n1 z1)).setCell ⟨w.heap.size,1,none⟩ (.slice o2 n2 z2)).setCell ⟨w.heap.size + 1,0,none⟩ (.int .i64 0)).setCell ⟨w.heap.size + 1 + 1,0,none⟩ (.int .i64 0)).cell? ⟨w.heap.size,1,none⟩ = some (.slice o2 n2 z2):=by simp [go_sem,x1]
  have b0 : ((((w3.setCell ⟨w.heap.size,0,none⟩ (.slice o1 n1 z1)).setCell ⟨w.heap.size,1,none⟩ (.slice o2 n2 z2)).setCell ⟨w.heap.size + 1,0,none⟩ (.int .i64 0)).setCell ⟨w.heap.size + 1 + 1,0,none⟩ (.int .i64 0)).cell? ⟨w.heap.size + 1,0,none⟩ = some (.int .i64 0):=by simp [go_sem,y0]
  have c0 : ((((w3.setCell ⟨w.heap.size,0,none⟩ (.slice o1 n1 z1)).setCell ⟨w.heap.size,1,none⟩ (.slice o2 n2 z2)).setCell ⟨w.heap.size + 1,0,none⟩ (.int .i64 0)).setCell ⟨w.heap.size + 1 + 1,0,none⟩ (.int .i64 0)).cell? ⟨w.heap.size + 1 + 1,0,none⟩ = some (.int .i64 0):=by
   have z0' : w3.cell? ⟨w.heap.size + 1 + 1,0,none⟩ = some (.int .i64 0):=z0
   simp [go_sem,z0']
  generalize (((w3.setCell ⟨w.heap.size,0,none⟩ (.slice o1 n1 z1)).setCell ⟨w.heap.size,1,none⟩ (.slice o2 n2 z2)).setCell ⟨w.heap.size + 1,0,none⟩ (.int .i64 0)).setCell ⟨w.heap.size + 1 + 1,0,none⟩ (.int .i64 0) = w4 at *
  refine leaves_cons (f:=32) (args:=#[.pointer (some ⟨w.heap.size,0,none⟩),.pointer (some ⟨w.heap.size + 1,0,none⟩),.pointer (some ⟨w.heap.size + 1 + 1,0,none⟩)]) (by simp) (by simp [go_sem]) ?_
  refine (ycatch_idle w.heap.size w4).mono ?_
  rintro e u' w'' ⟨rfl,rfl,rfl⟩
  simp [Leaves,settle,results,Tryz.results15,go_sem,a0,a1,b0,c0]
  exact ⟨⟨_,rfl,⟨_,_,_,_,_,_,rfl,hv.later KF (Nat.le_refl _) (fun k h1 h2 e => by omega) (by omega) KF.size⟩⟩,hbF⟩
/-- Parse at whatever bytes. -/
theorem parse_any (s : Bs) (w : World) (gl : Gl w) : Calls Tryz.prog 15 #[.string ⟨s.toArray⟩] w (ParseP w (parseS s)):=by
 unfold parseS
 cases hs : lexS s with
 | inl p => exact parse_lex s p hs (lexS_bad hs) w gl
 | inr ts => exact parse_toks s ts hs w gl
end Go.Proofs.YtgmlbjfgfmfliaaGreatDoor
namespace Go.Proofs.YtgmlbjfgfmfliaaGreatDoor
open Go Go.RowKit Go.Shelf
/-- The kind of the only token that a text is. -/
def oneK (s : Bs) : Int:=match lexS s with
 | .inr [t] => if (t.e : Int) - (t.b : Int) = (s.length : Int) then t.k else -1
 | _ => -1
def numK (s : Bs) : Int:=if oneK s = 2 ∨ oneK s = 3 then oneK s else -1
def nameK (s : Bs) : Bool:=oneK s == 1
theorem below_drewN {B : Nat} {w w1 : World} (h : Below B w w1) (n : Nat) : Below B w (w1.drewN n):=⟨h.os,h.tape,h.output,h.size,h.block⟩
theorem one_cells {W : World} {B : Nat} {v : Value} {t : Tok} (h : Toks W B v [t]) : ∃ q lc,v = .slice (some ⟨q,0,none⟩) 1 lc ∧ W.cell? ⟨q,0,none⟩ = some (.int .i64 t.k) ∧ W.cell? ⟨q,2,none⟩ = some (.int .i64 (t.b : Int)) ∧ W.cell? ⟨q,3,none⟩ = some (.int .i64 (t.e : Int)):=by
 obtain ⟨q,cp,rfl,_,_⟩:=World.ownsRow.form h (by simp)
 exact ⟨q,cp,rfl,by rw [World.ownsRow.cellAt h 0 (by simp)];rfl,by rw [World.ownsRow.cellAt h 2 (by simp)];rfl,by rw [World.ownsRow.cellAt h 3 (by simp)];rfl⟩
theorem lexF_ends (N : Nat) : ∀ (n c : Nat) (l : Bs) (ts : List Tok),lexF N n c l = .inr ts → ∀ t ∈ ts,t.b ≤ N ∧ t.e ≤ N
 | 0,c,l,ts,h => by cases h;simp
 | n + 1,c,l,ts,h => by
  unfold lexF at h
  cases hs : skipS l with
  | inr k => rw [hs] at h;cases h
  | inl q =>
   rw [hs] at h
   cases q with
   | nil => cases h;simp
   | cons x l1 =>
    simp only at h
    by_cases h2 : c = 2048
    ·rw [if_pos h2] at h;cases h
    ·rw [if_neg h2] at h
     cases ht : tokS (x :: l1) with
     | bad e => rw [ht] at h;cases h
     | ok k t r =>
      rw [ht] at h
      simp only at h
      cases hr : lexF N n (c + 1) r with
      | inl p => rw [hr] at h;cases h
      | inr us =>
       rw [hr] at h
       injection h with h
       subst h
       intro u hu
       rcases List.mem_cons.1 hu with rfl | hu
       ·exact ⟨Nat.sub_le _ _,Nat.sub_le _ _⟩
       ·exact lexF_ends N n (c + 1) r us hr u hu
theorem tok_small {s : Bs} {t : Tok} (h : lexS s = .inr [t]) : t.b ≤ 16384 ∧ t.e ≤ 16384:=by
 have hl:=(lexS_full h).2.1
 unfold lexS at h
 rw [if_neg (by omega)] at h
 have:=lexF_ends _ _ _ _ _ h t (by simp)
 omega
set_option maxRecDepth 100000 in
set_option maxHeartbeats 2000000 in
theorem only_any (s : Bs) (w : World) (gl : Gl w) : Calls Tryz.prog 39 #[.string ⟨s.toArray⟩] w fun e w' => e = .returned (.int .i64 (oneK s)) ∧ Below w.heap.size w w':=by
 have TO:=tokens_any s w gl
 have hsz:=size_of s
 unfold oneK
 cases hs : lexS s with
 | inl p =>
  rw [hs] at TO
  have hp0:=lexS_bad hs
  obtain ⟨a,x⟩:=p
  have hp : (x != 0) = true:=by simpa using hp0
  have hp2 : (x == 0) = false:=by simpa using hp0
  clear hs hp0
  go_enter Tryz.func39,Tryz.ntmps39
  go_wp2_with (go_at_call 34;refine TO.mono ?_;rintro e w1 ⟨rfl,hb⟩)
  go_quiet (fail)
  go_wp2
  go_ret
  exact ⟨rfl,below_drewN hb _⟩
 | inr ts =>
  rw [hs] at TO
  obtain ⟨hn1,hn2,_⟩:=lexS_full hs
  have hs0:=hs
  clear hs
  by_cases h1 : ts.length = 1
  ·obtain ⟨t,rfl⟩:=List.length_eq_one_iff.1 h1
   simp only
   by_cases h2 : (t.e : Int) - (t.b : Int) = (s.length : Int)
   ·rw [if_pos h2]
    have h3 : ((t.e : Int) - (t.b : Int) == (s.length : Int)) = true:=by simpa using h2
    have h4 : ((t.e : Int) - (t.b : Int) != (s.length : Int)) = false:=by simpa using h2
    have b1 : IntKind.i64.wrap ((t.e : Int) - (t.b : Int)) = (t.e : Int) - (t.b : Int):=by rw [IntKind.wrap_i64,h2];omega
    clear h1 h2
    go_enter Tryz.func39,Tryz.ntmps39
    go_wp2_with (go_at_call 34;refine TO.mono ?_;rintro e w1 ⟨⟨v,rfl,ht⟩,hb⟩;obtain ⟨q,lc,rfl,c0,c2,c3⟩:=one_cells ht)
    go_quiet (fail)
    go_wp2
    go_ret
    exact ⟨rfl,below_drewN hb _⟩
   ·rw [if_neg h2]
    have hl:=tok_small hs0
    have h3 : ((t.e : Int) - (t.b : Int) == (s.length : Int)) = false:=by simpa using h2
    have h4 : ((t.e : Int) - (t.b : Int) != (s.length : Int)) = true:=by simpa using h2
    have b1 : IntKind.i64.wrap ((t.e : Int) - (t.b : Int)) = (t.e : Int) - (t.b : Int):=by rw [IntKind.wrap_i64];omega
    clear h1 h2
    go_enter Tryz.func39,Tryz.ntmps39
    go_wp2_with (go_at_call 34;refine TO.mono ?_;rintro e w1 ⟨⟨v,rfl,ht⟩,hb⟩;obtain ⟨q,lc,rfl,c0,c2,c3⟩:=one_cells ht)
    go_quiet (fail)
    go_wp2
    go_ret
    exact ⟨rfl,below_drewN hb _⟩
  ·have HQ : Hid ((match (Sum.inr ts : (Nat × Int) ⊕ List Tok) with | .inr [t] => if (t.e : Int) - (t.b : Int) = (s.length : Int) then t.k else -1 | _ => -1) = (-1 : Int)):=by
    show _ = _
    match ts,h1 with
    | [],_ => rfl
    | [_],h => exact absurd rfl h
    | _ :: _ :: _,_ => rfl
   rw [HQ.out]
   have h2 : ((ts.length : Int) == 1) = false:=by rw [beq_eq_false_iff_ne];omega
   have h3 : ((ts.length : Int) != 1) = true:=by simp only [bne,h2];rfl
   clear h1
   go_enter Tryz.func39,Tryz.ntmps39
   go_wp2_with (go_at_call 34;refine TO.mono ?_;rintro e w1 ⟨⟨v,rfl,ht⟩,hb⟩;obtain ⟨o,lc,rfl⟩:=own_slice ht)
   go_quiet (fail)
   go_wp2
   go_ret
   exact ⟨rfl,below_drewN hb _⟩
set_option maxRecDepth 100000 in
theorem ynumber_any (s : Bs) (w : World) (gl : Gl w) : Calls Tryz.prog 95 #[.string ⟨s.toArray⟩] w fun e w' => e = .returned (.int .i64 (numK s)) ∧ Below w.heap.size w w':=by
 have O:=only_any s w gl
 unfold numK
 generalize oneK s = k at *
 by_cases h2 : k = 2
 ·subst h2
  go_enter Tryz.func95,Tryz.ntmps95
  go_wp2_with (go_at_call 39;refine O.mono ?_;rintro e w1 ⟨rfl,hb⟩)
  go_ret
  exact ⟨rfl,hb⟩
 ·by_cases h3 : k = 3
  ·subst h3
   go_enter Tryz.func95,Tryz.ntmps95
   go_wp2_with (go_at_call 39;refine O.mono ?_;rintro e w1 ⟨rfl,hb⟩)
   go_ret
   exact ⟨rfl,hb⟩
  ·rw [if_neg (by rintro (e | e);exact h2 e;exact h3 e)]
   have a1 : (k == 2) = false:=by simpa using h2
   have a2 : (k == 3) = false:=by simpa using h3
   have a3 : (k != 2) = true:=by simpa using h2
   have a4 : (k != 3) = true:=by simpa using h3
   go_enter Tryz.func95,Tryz.ntmps95
   go_wp2_with (go_at_call 39;refine O.mono ?_;rintro e w1 ⟨rfl,hb⟩)
   go_ret
   exact ⟨rfl,hb⟩
theorem yname_any (s : Bs) (w : World) (gl : Gl w) : Calls Tryz.prog 17 #[.string ⟨s.toArray⟩] w fun e w' => e = .returned (.bool (nameK s)) ∧ Below w.heap.size w w':=by
 have O:=only_any s w gl
 unfold nameK
 generalize oneK s = k at *
 go_enter Tryz.func17,Tryz.ntmps17
 go_wp2_with (go_at_call 39;refine O.mono ?_;rintro e w1 ⟨rfl,hb⟩)
 go_ret
 exact ⟨rfl,hb⟩
end Go.Proofs.YtgmlbjfgfmfliaaGreatDoor
namespace Go.Proofs.YtgmlbjfgfmfliaaGreatDoor
open Go Go.RowKit Go.Shelf
theorem At.leaf {w : World} {D : Nat → Prop} {v u : Value} (h : At w D (.lf v) u) : u = v:=by cases h;rfl
theorem At.rowInv {w : World} {D : Nat → Prop} {E sz n : Nat} {ys : List CT} {u : Value} (h : At w D (.rw E sz n ys) u) : ∃ o cp,u = .slice o n cp ∧ (0 < n → ∃ q cur,o = some ⟨q,0,none⟩ ∧ n ≤ cp ∧ w.heap[q]? = some (.cells cur E (0,0)) ∧ D q ∧ n * sz ≤ cur.size ∧ ys.length = n * sz ∧ ∀ (j : Nat) y,ys[j]? = some y → ∃ x,w.cell? ⟨q,j,none⟩ = some x ∧ At w D y x):=by
 cases h with
 | nil => exact ⟨_,_,rfl,fun h => absurd h (Nat.lt_irrefl _)⟩
 | row hb hD hn hl hc hy =>
  rename_i q cp cur
  refine ⟨_,_,rfl,fun _ => ⟨q,cur,rfl,hn,hb,hD,hc,hl,fun j y hj => ?_⟩⟩
  have hlt : j < cur.size:=by
   have:=(List.getElem?_eq_some_iff.1 hj).1
   omega
  refine ⟨cur[j],by simp [World.cell?,hb,hlt],hy j y _ hj (by simp [hlt])⟩
/-- A tree that is a value's. -/
inductive ValT : List CT → Prop
 | mk (k : Int) (t : Bs) (els : List (List CT)) (ns : List Bs) (hn : ns.length ≤ 1099511627776) (he : els.length ≤ 1099511627776) (h : ∀ e ∈ els,ValT e) : ValT (valC k t els (ns.map fun s => [sC s]))
theorem ValT.len {cs : List CT} (h : ValT cs) : cs.length = 4:=by cases h;rfl
theorem names_nil : ([] : List (List CT)) = (([] : List Bs).map fun s => [sC s]):=rfl
theorem valT_leaf (k : Int) (t : Bs) : ValT (valC k t [] []):=.mk k t [] [] (by simp) (by simp) (by simp)
theorem namedC_val (t : Bs) : ValT (namedC t):=by
 unfold namedC
 split
 ·exact valT_leaf _ _
 split
 ·exact valT_leaf _ _
 split
 ·exact valT_leaf _ _
 ·exact valT_leaf _ _
/-- What f reads off at most 2^40 tokens is so. -/
def Reads {α : Type} (p : α → Prop) (f : List Tok → Rs α) : Prop:=∀ l a m,l.length ≤ 1099511627776 → f l = .ok (a,m) → p a
theorem Reads.mono {α : Type} {p q : α → Prop} {f : List Tok → Rs α} (h : Reads p f) (hq : ∀ a,p a → q a) : Reads q f:=fun l a m hl e => hq a (h l a m hl e)
theorem reads_true {α : Type} (f : List Tok → Rs α) : Reads (fun _ => True) f:=fun _ _ _ _ _ => trivial
theorem reads_ok {α : Type} {p : α → Prop} {x : α} (h : p x) : Reads p (fun l => .ok (x,l)):=fun l a m _ e => by cases e;exact h
theorem Reads.go {α β : Type} {p : α → Prop} {q : β → Prop} {f : List Tok → Rs α} {g : α → List Tok → Rs β} (hf : Reads p f) (hk : Keeps f) (hg : ∀ a,p a → Reads q (g a)) : Reads q (fun l => (f l).go g):=by
 intro l a m hl e
 obtain ⟨b,l1,h1,h2⟩:=go_ok_inv e
 exact hg b (hf l b l1 hl h1) l1 a m (Nat.le_trans (hk l b l1 h1) hl) h2
theorem reads_if {α : Type} {p : α → Prop} {c : List Tok → Bool} {f g : List Tok → Rs α} (hf : Reads p f) (hg : Reads p g) : Reads p (fun l => if c l then f l else g l):=by
 intro l a m hl e
 simp only at e
 split at e
 ·exact hf l a m hl e
 ·exact hg l a m hl e
theorem reads_tail {α : Type} {p : α → Prop} {f : List Tok → Rs α} (hf : Reads p f) : Reads p (fun l => f l.tail):=fun l a m hl e => hf l.tail a m (by rw [List.length_tail];omega) e
/-- A row of things that are so. -/
def RowP {α : Type} (p : α → Prop) (b : List α) : Prop:=b.length ≤ 1099511627776 ∧ ∀ x ∈ b,p x
theorem anyF_reads {α : Type} {f : List Tok → Rs α} {last : Bs} {p : α → Prop} (hk : Eats f) (hf : Reads p f) : ∀ (k : Nat) (l : List Tok) (b : List α) (m : List Tok),l.length ≤ 1099511627776 → anyF f last k l = .ok (b,m) → b.length ≤ l.length ∧ ∀ x ∈ b,p x
 | 0,_,_,_,_,h => by cases h
 | k + 1,l,b,m,hl,h => by
  unfold anyF at h
  split at h
  ·cases h;simp
  ·obtain ⟨a,l1,h1,h2⟩:=go_ok_inv h
   obtain ⟨c,l2,h3,h4⟩:=go_ok_inv h2
   cases h4
   have hlt:=hk _ _ _ h1
   obtain ⟨i1,i2⟩:=anyF_reads hk hf k _ _ _ (by omega) h3
   refine ⟨by rw [List.length_cons];omega,fun x hx => ?_⟩
   rcases List.mem_cons.1 hx with rfl | hx
   ·exact hf _ _ _ hl h1
   ·exact i2 x hx
theorem anyS_reads {α : Type} {f : List Tok → Rs α} {last : Bs} {p : α → Prop} (hk : Eats f) (hf : Reads p f) : Reads (RowP p) (anyS f last):=fun l b m hl h => by
 obtain ⟨h1,h2⟩:=anyF_reads hk hf _ _ _ _ hl h
 exact ⟨by omega,h2⟩
theorem someS_reads {α : Type} {f : List Tok → Rs α} {last : Bs} {p : α → Prop} (hk : Eats f) (hf : Reads p f) : Reads (RowP p) (someS f last):=fun l b m hl h => by
 obtain ⟨a,l1,h1,h2⟩:=go_ok_inv h
 obtain ⟨c,l2,h3,h4⟩:=go_ok_inv h2
 cases h4
 have hlt:=hk _ _ _ h1
 obtain ⟨i1,i2⟩:=anyF_reads hk hf _ _ _ _ (by omega) h3
 refine ⟨by rw [List.length_cons];omega,fun x hx => ?_⟩
 rcases List.mem_cons.1 hx with rfl | hx
 ·exact hf _ _ _ hl h1
 ·exact i2 x hx
theorem ledF_reads {α : Type} {f : List Tok → Rs α} {first : Bs} {p : α → Prop} (hk : Keeps f) (hf : Reads p f) : ∀ (k : Nat) (l : List Tok) (b : List α) (m : List Tok),l.length ≤ 1099511627776 → ledF f first k l = .ok (b,m) → b.length ≤ l.length ∧ ∀ x ∈ b,p x
 | 0,_,_,_,_,h => by cases h
 | k + 1,l,b,m,hl,h => by
  unfold ledF at h
  split at h
  ·rename_i hp
   obtain ⟨a,l1,h1,h2⟩:=go_ok_inv h
   obtain ⟨c,l2,h3,h4⟩:=go_ok_inv h2
   cases h4
   have h0 : 0 < l.length:=by
    cases l with
    | nil => cases hp
    | cons => simp
   have hlt:=hk _ _ _ h1
   rw [List.length_tail] at hlt
   obtain ⟨i1,i2⟩:=ledF_reads hk hf k _ _ _ (by omega) h3
   refine ⟨by rw [List.length_cons];omega,fun x hx => ?_⟩
   rcases List.mem_cons.1 hx with rfl | hx
   ·exact hf _ _ _ (by rw [List.length_tail];omega) h1
   ·exact i2 x hx
  ·cases h;simp
theorem ledS_reads {α : Type} {f : List Tok → Rs α} {first : Bs} {p : α → Prop} (hk : Keeps f) (hf : Reads p f) : Reads (RowP p) (ledS f first):=fun l b m hl h => by
 obtain ⟨h1,h2⟩:=ledF_reads hk hf _ _ _ _ hl h
 exact ⟨by omega,h2⟩
theorem memS_reads {f : List Tok → Rs (List CT)} {p : List CT → Prop} (hf : Reads p f) : Reads (fun x => p x.2) (memS f) :=
 (reads_true nameS).go nameS_eats.keeps fun _ _ => (reads_true (mustS _)).go (mustS_eats _).keeps fun _ _ => fun l a m hl e => by
  obtain ⟨v,l1,h1,h2⟩:=go_ok_inv e
  cases h2
  exact hf _ _ _ hl h1
theorem valG_reads {fx : Bool} {inner : Option (List Tok → Rs (List CT))} (hk : ∀ f,inner = some f → Eats f) (hi : ∀ f,inner = some f → Reads ValT f) : Reads ValT (valG fx inner):=by
 intro l a m hl h
 unfold valG at h
 split at h
 ·cases h;exact namedC_val _
 split at h
 ·cases h;exact valT_leaf _ _
 split at h
 ·cases h;exact valT_leaf _ _
 split at h
 ·cases h;exact valT_leaf _ _
 have ht : l.tail.length ≤ 1099511627776:=by rw [List.length_tail];omega
 unfold signS at h
 split at h
 ·cases inner with
  | none => cases h
  | some f =>
   rw [listS_some] at h
   obtain ⟨b,l1,h1,h2⟩:=go_ok_inv h
   cases h2
   obtain ⟨i1,i2⟩:=anyS_reads (hk f rfl) (hi f rfl) _ _ _ ht h1
   exact .mk 8 [] b [] (by simp) i1 i2
 split at h
 ·cases inner with
  | none => cases h
  | some f =>
   rw [objS_some] at h
   obtain ⟨b,l1,h1,h2⟩:=go_ok_inv h
   cases h2
   obtain ⟨i1,i2⟩:=anyS_reads (memS_eats (hk f rfl).keeps) (memS_reads (hi f rfl)) _ _ _ ht h1
   have:=ValT.mk 9 [] (b.map (·.2)) (b.map (·.1)) (by simpa using i1) (by simpa using i1) (by
    intro e he
    obtain ⟨x,hx,rfl⟩:=List.mem_map.1 he
    exact i2 x hx)
   rw [List.map_map] at this
   exact this
 split at h
 ·cases h
 ·obtain ⟨t,l1,h1,h2⟩:=go_ok_inv h
  cases h2
  exact valT_leaf _ _
theorem valF_reads (fx : Bool) : ∀ n,Reads ValT (valF fx n)
 | 0 => valG_reads (fun f h => by cases h) (fun f h => by cases h)
 | n + 1 => valG_reads (fun f h => by cases h;exact valF_eats fx n) (fun f h => by cases h;exact valF_reads fx n)
/-- An element of a row of elements of the same size. -/
theorem flat_at {sz : Nat} : ∀ (els : List (List CT)),(∀ e ∈ els,e.length = sz) → ∀ (i j : Nat) (e : List CT) (y : CT),els[i]? = some e → e[j]? = some y → els.flatten[i * sz + j]? = some y
 | [],_,_,_,_,_,h,_ => by simp at h
 | a :: els,hl,0,j,e,y,h,hy => by
  simp at h
  subst h
  have hj : j < a.length:=(List.getElem?_eq_some_iff.1 hy).1
  rw [List.flatten_cons,Nat.zero_mul,Nat.zero_add,List.getElem?_append_left hj]
  exact hy
 | a :: els,hl,i + 1,j,e,y,h,hy => by
  have ih:=flat_at els (fun x hx => hl x (List.mem_cons_of_mem _ hx)) i j e y (by simpa using h) hy
  have ha : a.length = sz:=hl a (List.mem_cons_self ..)
  have e1 : (i + 1) * sz + j = sz + (i * sz + j):=by rw [Nat.add_mul];omega
  rw [List.flatten_cons,e1,List.getElem?_append_right (by omega),ha,Nat.add_sub_cancel_left]
  exact ih
/-- A row of values in memory: the i-th one's four cells. -/
theorem row_at {w : World} {D : Nat → Prop} {E sz : Nat} {els : List (List CT)} {u : Value} (h : At w D (rowC E sz els) u) (hl : ∀ e ∈ els,e.length = sz) : ∃ o cp,u = .slice o els.length cp ∧ (els ≠ [] → ∃ q,o = some ⟨q,0,none⟩ ∧ q < w.heap.size ∧ ∀ (i j : Nat) e y,els[i]? = some e → e[j]? = some y → ∃ x,w.cell? ⟨q,i * sz + j,none⟩ = some x ∧ At w D y x):=by
 obtain ⟨o,cp,rfl,hr⟩:=h.rowInv
 refine ⟨o,cp,rfl,fun hne => ?_⟩
 obtain ⟨q,cur,rfl,_,hb,_,_,_,hc⟩:=hr (List.length_pos_iff.2 hne)
 exact ⟨q,rfl,lt_of_block hb,fun i j e y he hy => hc _ y (flat_at els hl i j e y he hy)⟩
end Go.Proofs.YtgmlbjfgfmfliaaGreatDoor
