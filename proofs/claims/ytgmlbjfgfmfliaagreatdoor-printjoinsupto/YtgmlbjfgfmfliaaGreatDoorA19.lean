/- Documents written: their tokens. -/
import Derived.Test.YtgmlbjfgfmfliaaGreatDoorA17
import Derived.Test.YtgmlbjfgfmfliaaGreatDoorA18
import Derived.Test.YtgmlbjfgfmfliaaGreatDoorA15
namespace Go.Proofs.YtgmlbjfgfmfliaaGreatDoor
open Go Go.RowKit Go.Shelf
/-- The row V of tokens, what is written. -/
structure WrL (V : Nat) (w : World) (lv : Value) (ts : List Bs) : Prop where
 row : w.heap[V]? = some (.cells #[lv,.int .i64 (szW ts : Int)] 54 (0,0))
 own : RowO w (V + 1) 9 1 wrdC lv ts
 few : szW ts ≤ 16385
/-- Only the row, and blocks of strings behind it, have changed. -/
structure FrW (V : Nat) (w w' : World) : Prop where
 os : w'.os = w.os
 tape : w'.tape = w.tape
 output : w'.output = w.output
 size : w.heap.size ≤ w'.heap.size
 block : ∀ k o,w.heap[k]? = some o → k ≠ V → (k < V ∨ ∀ cur,o ≠ .cells cur 9 (0,0)) → w'.heap[k]? = some o
theorem FrW.refl (V : Nat) (w : World) : FrW V w w:=⟨rfl,rfl,rfl,Nat.le_refl _,fun _ _ h _ _ => h⟩
theorem FrW.trans {V : Nat} {w w' w'' : World} (h : FrW V w w') (g : FrW V w' w'') : FrW V w w'':=⟨g.os.trans h.os,g.tape.trans h.tape,g.output.trans h.output,Nat.le_trans h.size g.size,fun k o hk hn hq => g.block k o (h.block k o hk hn hq) hn hq⟩
theorem frw_of {V : Nat} {w w' : World} (h : Below w.heap.size w w') : FrW V w w':=⟨h.os,h.tape,h.output,h.size,fun k _ hk _ _ => (h.block k (lt_of_block hk)).trans hk⟩
theorem al1V {V : Nat} {w : World} (o : Obj) : FrW V w (w.alloc o):=frw_of (al1 w o)
theorem FrW.blk {V : Nat} {w w' : World} (h : FrW V w w') (hV : V ≤ w.heap.size) {k : Nat} (hk : k < V) : w'.heap[k]? = w.heap[k]?:=by
 have e : w.heap[k]? = some w.heap[k]:=Array.getElem?_eq_getElem (Nat.lt_of_lt_of_le hk hV)
 rw [e]
 exact h.block k _ e (by omega) (Or.inl hk)
theorem FrW.below {V : Nat} {w w' : World} (h : FrW V w w') (hV : V ≤ w.heap.size) : Below V w w':=⟨h.os,h.tape,h.output,h.size,fun _ hk => h.blk hV hk⟩
theorem FrW.old {V : Nat} {w w' : World} (h : FrW V w w') {k : Nat} {c : Array Value} {E : Nat} (hk : w.heap[k]? = some (.cells c E (0,0))) (hn : V < k) (hE : E ≠ 9) : w'.heap[k]? = some (.cells c E (0,0)):=h.block k _ hk (by omega) (Or.inr fun cur e => by cases e;exact hE rfl)
/-- The row and what else a step needs: the package variables that are read lie ahead of it. -/
structure Wk (V : Nat) (w : World) (ts : List Bs) : Prop where
 wr : ∃ lv,WrL V w lv ts
 gl : Gl w
 tz : Tz w
 hi : gM < V ∧ gE < V ∧ gT < V
theorem szW_len : ∀ us : List Bs,us.length ≤ szW us
 | [] => Nat.zero_le _
 | x :: us => by have:=szW_len us;simp [szW];omega
theorem szW_snoc (ts : List Bs) (x : Bs) : szW (ts ++ [x]) = szW ts + x.length + 1:=by rw [szW_app];simp [szW];omega
theorem WrL.len {V : Nat} {w : World} {lv : Value} {ts : List Bs} (h : WrL V w lv ts) : ts.length ≤ 16385:=Nat.le_trans (szW_len ts) h.few
theorem WrL.lt {V : Nat} {w : World} {lv : Value} {ts : List Bs} (h : WrL V w lv ts) : V < w.heap.size:=lt_of_block h.row
theorem WrL.blk {V : Nat} {w w' : World} {lv : Value} {ts : List Bs} (h : WrL V w lv ts) (hb : ∀ g o,V ≤ g → w.heap[g]? = some o → w'.heap[g]? = some o) : WrL V w' lv ts:=⟨hb V _ (Nat.le_refl _) h.row,h.own.blk fun g _ hg q => hb g _ (by omega) q,h.few⟩
theorem Gl.frw {w w' : World} (h : Gl w) {V : Nat} (hb : FrW V w w') (hV : V ≤ w.heap.size) (h1 : gM < V) (h2 : gE < V) : Gl w':=h.of (hb.blk hV h1) (hb.blk hV h2)
theorem Tz.frw {w w' : World} (h : Tz w) {V : Nat} (hb : FrW V w w') (hV : V ≤ w.heap.size) (h1 : gT < V) : Tz w':=by
 have e:=hb.blk hV h1
 unfold Tz World.cell? at h ⊢
 simp only [e]
 exact h
theorem Wk.lt {V : Nat} {w : World} {ts : List Bs} (h : Wk V w ts) : V < w.heap.size:=h.wr.elim fun _ q => q.lt
theorem Wk.few {V : Nat} {w : World} {ts : List Bs} (h : Wk V w ts) : szW ts ≤ 16385:=h.wr.elim fun _ q => q.few
theorem Wk.on {V : Nat} {w w' : World} {ts : List Bs} (h : Wk V w ts) (hb : Below w.heap.size w w') : Wk V w' ts:=by
 have f : FrW V w w':=frw_of hb
 have hV:=Nat.le_of_lt h.lt
 obtain ⟨lv,q⟩:=h.wr
 exact ⟨⟨lv,q.blk fun g _ _ hg => (hb.block g (lt_of_block hg)).trans hg⟩,h.gl.frw f hV h.hi.1 h.hi.2.1,h.tz.frw f hV h.hi.2.2,h.hi⟩
theorem Wk.al {V : Nat} {w : World} {ts : List Bs} (h : Wk V w ts) (o : Obj) : Wk V (w.alloc o) ts:=h.on (al1 w o)
/-- Trees ahead of the row stay. -/
theorem Bts.frw {V : Nat} {w w' : World} {ys : List CT} {us : List Value} (h : Bts w (fun k => k < V) ys us) (hb : FrW V w w') (hV : V ≤ w.heap.size) : Bts w' (fun k => k < V) ys us:=h.keep fun _ hk => hb.blk hV hk
theorem Bt.frw {V : Nat} {w w' : World} {y : CT} {u : Value} (h : Bt w (fun k => k < V) y u) (hb : FrW V w w') (hV : V ≤ w.heap.size) : Bt w' (fun k => k < V) y u:=h.keep fun _ hk => hb.blk hV hk
/-- What a step comes to: it gives up, or what it says is written. -/
def OutB (V : Nat) (w : World) (x : Option (List Bs)) (ts : List Bs) (e : Ending) (w' : World) : Prop :=
 ((∀ us,x = some us → 16385 < szW (ts ++ us)) ∧ e = .returned (.bool false) ∧ FrW V w w') ∨ (∃ us,Hid (x = some us) ∧ e = .returned (.bool true) ∧ Wk V w' (ts ++ us) ∧ FrW V w w')
theorem OutB.mono0 {V : Nat} {w0 w : World} {x : Option (List Bs)} {ts : List Bs} {e : Ending} {w' : World} (h : OutB V w x ts e w') (hb : FrW V w0 w) : OutB V w0 x ts e w':=by
 rcases h with ⟨h1,h2,h3⟩ | ⟨us,h1,h2,h3,h4⟩
 ·exact Or.inl ⟨h1,h2,hb.trans h3⟩
 ·exact Or.inr ⟨us,h1,h2,h3,hb.trans h4⟩
/-- One step behind another: the second. -/
theorem OutB.seq {V : Nat} {w w1 : World} {x y : Option (List Bs)} {ts us : List Bs} {e : Ending} {w' : World} (hx : Hid (x = some us)) (hb : FrW V w w1) (h : OutB V w1 y (ts ++ us) e w') : OutB V w (andW x y) ts e w':=by
 have hx' : x = some us:=hx.out
 subst hx'
 rcases h with ⟨h1,h2,h3⟩ | ⟨vs,hv,h2,h3,h4⟩
 ·refine Or.inl ⟨fun zs e => ?_,h2,hb.trans h3⟩
  obtain ⟨a,b,ea,eb,rfl⟩:=andW_some e
  cases ea
  rw [← List.append_assoc]
  exact h1 b eb
 ·have hv' : y = some vs:=hv.out
  subst hv'
  exact Or.inr ⟨us ++ vs,rfl,h2,by rw [← List.append_assoc];exact h3,hb.trans h4⟩
/-- The first gives up. -/
theorem outb_no {V : Nat} {w w' : World} {x : Option (List Bs)} {ts : List Bs} {y : Option (List Bs)} (hx : ∀ us,x = some us → 16385 < szW (ts ++ us)) (hb : FrW V w w') : OutB V w (andW x y) ts (.returned (.bool false)) w':=by
 refine Or.inl ⟨fun zs e => ?_,rfl,hb⟩
 obtain ⟨a,b,ea,eb,rfl⟩:=andW_some e
 have:=hx a ea
 rw [← List.append_assoc,szW_app]
 omega
theorem outb_last {V : Nat} {w w' : World} {x : Option (List Bs)} {ts : List Bs} (hx : ∀ us,x = some us → 16385 < szW (ts ++ us)) (hb : FrW V w w') : OutB V w x ts (.returned (.bool false)) w':=Or.inl ⟨hx,rfl,hb⟩
theorem outb_end {V : Nat} {w w' : World} {x : Option (List Bs)} {ts us : List Bs} (hx : Hid (x = some us)) (h : Wk V w' (ts ++ us)) (hb : FrW V w w') : OutB V w x ts (.returned (.bool true)) w':=Or.inr ⟨us,hx,rfl,h,hb⟩
theorem outb_none {V : Nat} {w w' : World} {x : Option (List Bs)} {ts : List Bs} (hx : x = none) (hb : FrW V w w') : OutB V w x ts (.returned (.bool false)) w':=Or.inl ⟨fun us e => (by rw [hx] at e;cases e),rfl,hb⟩
theorem outb_skip {V : Nat} {w w' : World} {ts : List Bs} (h : Wk V w' ts) (hb : FrW V w w') : OutB V w (some []) ts (.returned (.bool true)) w':=Or.inr ⟨[],rfl,rfl,by rw [List.append_nil];exact h,hb⟩
/-- The writer as a value: how a token is put, whether variables are barred. -/
abbrev putV (V : Nat) : Value:=.func (.func 18) #[.pointer (some ⟨V,0,none⟩)] #[]
abbrev wrV (V : Nat) (fx : Bool) : Value:=.agg #[putV V,.bool fx]
abbrev boxW (V : Nat) (fx : Bool) : Obj:=.cells #[putV V,.bool fx] 56
theorem kp_blkP {S : Nat → Prop} {w w' : World} {B : Nat} (k : Kp S w w') (hS : ∀ q,S q → q < B) : ∀ g o,B ≤ g → w.heap[g]? = some o → w'.heap[g]? = some o:=fun g _ hB hg => (k.block g (lt_of_block hg) (fun e => by have:=hS g e;omega)).trans hg
/-- One token more. -/
theorem WrL.push {V n : Nat} {w w8 : World} {lv v8 : Value} {ts : List Bs} {x : Bs} {X : Obj} (h : WrL V w lv ts) (gr : (w.alloc X).grownBy w8 lv.ownBlock) (hn : n = ts.length + 1) (own : w8.ownsRow (V + 1) 9 1 v8 n (ts.flatMap wrdC ++ [.string ⟨x.toArray⟩])) (z : Int) (hz : z = ((szW (ts ++ [x]) : Nat) : Int)) :
  ((w8.setCell ⟨V,0,none⟩ v8).setCell ⟨V,1,none⟩ (.int .i64 z)).heap[V]? = some (.cells #[v8,.int .i64 (szW (ts ++ [x]) : Int)] 54 (0,0)) ∧ RowO ((w8.setCell ⟨V,0,none⟩ v8).setCell ⟨V,1,none⟩ (.int .i64 z)) (V + 1) 9 1 wrdC v8 (ts ++ [x]) ∧ w8.heap[V]? = some (.cells #[lv,.int .i64 (szW ts : Int)] 54 (0,0)) ∧ FrW V w ((w8.setCell ⟨V,0,none⟩ v8).setCell ⟨V,1,none⟩ (.int .i64 z)):=by
 have hV:=h.lt
 have ga : Gt (V + 1) 9 w (w.alloc X):=gt_of (al1 w X)
 have gg : Gt (V + 1) 9 w w8:=ga.trans (gt_grown ((h.own.own rfl).alloc X) gr)
 have row8 : w8.heap[V]? = some (.cells #[lv,.int .i64 (szW ts : Int)] 54 (0,0)):=gg.block V _ h.row (Or.inl (by omega))
 have k2 : Kp (Own1 V) w8 ((w8.setCell ⟨V,0,none⟩ v8).setCell ⟨V,1,none⟩ (.int .i64 z)):=(Kp.own V 0 v8).set V 1 _ (Or.inr rfl)
 have bk:=kp_blkP (B:=V + 1) k2 (fun q e => by have e' : q = V:=e;omega)
 refine ⟨?_,?_,row8,?_⟩
 ·subst hz
  exact heap_setCell_same _ V 1 _ _ _ (heap_setCell_same _ V 0 _ _ _ row8)
 ·exact (RowO.pushL (m:=[x]) own hn (by simp)).blk fun _ _ q => bk _ _ q
 ·exact ⟨k2.os.trans gg.os,k2.tape.trans gg.tape,k2.output.trans gg.output,Nat.le_trans gg.size k2.size,fun k o hk hn hq => rowOld (gg.block k o hk (hq.elim (fun q => Or.inl (by omega)) Or.inr)) k2 hn⟩
theorem put_out {V : Nat} {w w' : World} {v8 : Value} {ts : List Bs} {x : Bs} (HG : Wk V w ts) (PW : w'.heap[V]? = some (.cells #[v8,.int .i64 (szW (ts ++ [x]) : Int)] 54 (0,0))) (PO : RowO w' (V + 1) 9 1 wrdC v8 (ts ++ [x])) (PF : FrW V w w') : OutB V w (some [x]) ts (.returned (.bool (decide (((szW ts : Nat) : Int) + ((x.length : Int) + 1) - 1 ≤ 16384)))) w':=by
 have hsn:=szW_snoc ts x
 have hV:=Nat.le_of_lt HG.lt
 by_cases hs : szW (ts ++ [x]) ≤ 16385
 ·have hd : decide (((szW ts : Nat) : Int) + ((x.length : Int) + 1) - 1 ≤ 16384) = true:=decide_eq_true (by omega)
  rw [hd]
  exact Or.inr ⟨[x],rfl,rfl,⟨⟨_,PW,PO,hs⟩,HG.gl.frw PF hV HG.hi.1 HG.hi.2.1,HG.tz.frw PF hV HG.hi.2.2,HG.hi⟩,PF⟩
 ·have hd : decide (((szW ts : Nat) : Int) + ((x.length : Int) + 1) - 1 ≤ 16384) = false:=decide_eq_false (by omega)
  rw [hd]
  exact Or.inl ⟨fun us e => (by cases e;omega),rfl,PF⟩
theorem wr1 (n : Nat) (h : n ≤ 140737488355328) : wrap64 ((n : Int) + 1) = (n : Int) + 1:=by unfold wrap64;omega
theorem wr2 (a n : Nat) (ha : a ≤ 16385) (h : n ≤ 140737488355328) : wrap64 ((a : Int) + ((n : Int) + 1)) = (a : Int) + ((n : Int) + 1):=by unfold wrap64;omega
theorem wr3 (a n : Nat) (ha : a ≤ 16385) (h : n ≤ 140737488355328) : wrap64 ((a : Int) + ((n : Int) + 1) - 1) = (a : Int) + ((n : Int) + 1) - 1:=by unfold wrap64;omega
set_option maxRecDepth 100000 in
set_option maxHeartbeats 4000000 in
theorem put_any {V : Nat} {w : World} {ts : List Bs} (x : Bs) (h : Wk V w ts) (hx : x.length ≤ txM) :
  Calls Tryz.prog 18 #[.pointer (some ⟨V,0,none⟩),.string ⟨x.toArray⟩] w (OutB V w (some [x]) ts):=by
 obtain ⟨ti,hti,hy0,hy1,hy2⟩:=info_parts Tryz.infoStr
 obtain ⟨lv,hW⟩:=h.wr
 have hlen:=hW.len
 have hfew:=hW.few
 have hlV:=hW.lt
 have hxs:=size_of x
 obtain ⟨c0,c1,cf⟩:=row2 hW.row
 have f0:=fun o => cell_on (al1 w o) c0
 have O6:=((hW.own.own rfl).alloc (.cells #[.string ⟨x.toArray⟩] 9))
 have HH : Hid (Wk V w ts):=h
 have z1:=wr1 x.length hx
 have z2:=wr2 (szW ts) x.length hfew hx
 have z3:=wr3 (szW ts) x.length hfew hx
 clear h
 go_enter Tryz.func18,Tryz.ntmps18
 go_wp2_with (first
  | (at_builtin;refine wpList_append_lies _ rfl (.tmp 9) (.tmp 11) 33 rfl (V + 1) 9 ti _ 1 16 Tryz.underlying33 hti hy0 hy1 hy2 rfl (by decide) lv ts.length (ts.flatMap wrdC) rfl O6 ⟨w.heap.size,0,none⟩ 1 1 (wrdC x) rfl rfl (World.news_of_block (heap_alloc_new w (.cells #[.string ⟨x.toArray⟩] 9))) (by intro u hu;simp at hu;rcases hu with rfl <;> rfl) (by decide) (by unfold maxLen;omega) (by omega) (Nat.le_trans (Nat.succ_le_of_lt hlV) (al1 w _).size) (w.heap.size + 1) (by simp) ?_;intro g8 c8 w8 own8 gr8 hor8 hlt8;obtain ⟨PW,PO,P8,PF⟩:=hW.push gr8 rfl own8 (((szW ts : Nat) : Int) + ((x.length : Int) + 1)) (by rw [szW_snoc];omega);obtain ⟨g0,g1,gf⟩:=row2 P8)
  | fail)
 simp only [z1,z2,z3]
 go_ret
 exact put_out HH.out PW PO PF
end Go.Proofs.YtgmlbjfgfmfliaaGreatDoor
namespace Go.Proofs.YtgmlbjfgfmfliaaGreatDoor
open Go Go.RowKit
/-! ### What is ignored -/
theorem skip_nil : skipS [] = .inl []:=by
 unfold skipS skipF;rfl
theorem skip_one {c : UInt8} (h : ignL.contains c = true) (l : Bs) : skipS (c :: l) = skipS l:=by
 have h1 : headIn ignL (c :: l) = true:=h
 rw [skipS_ign h1]
 have e : spanR ignL (c :: l) = spanR ignL l:=by
  conv => lhs;unfold spanR
  rw [if_pos h]
 rw [e]
 by_cases h2 : headIn ignL l = true
 ·exact (skipS_ign h2).symm
 ·rw [spanR_stop ignL l (Bool.eq_false_iff.2 h2)]
theorem skip_bom (l : Bs) : skipS (239 :: 187 :: 191 :: l) = skipS l :=
 skipS_mark (l:=239 :: 187 :: 191 :: l) rfl rfl
theorem skip_com {l r : Bs} (h : comS l = some (.inl r)) : skipS l = skipS r:=by
 unfold comS at h
 by_cases hp : List.isPrefixOf [35] l = true
 ·obtain ⟨m,rfl⟩ : ∃ m,l = 35 :: m:=by
   cases l with
   | nil => cases hp
   | cons c m =>
    have e : (35 == c) = true:=by simpa [List.isPrefixOf] using hp
    exact ⟨m,by rw [← (beq_iff_eq.1 e)]⟩
  have h' : comS (35 :: m) = some (.inl r):=h
  rw [skipS_com (l:=35 :: m) rfl rfl,h']
 ·rw [if_neg hp] at h;cases h
theorem skip_bad {l : Bs} {k : Nat} (h : comS l = some (.inr k)) : skipS l = .inr (l.length - k):=by
 unfold comS at h
 by_cases hp : List.isPrefixOf [35] l = true
 ·obtain ⟨m,rfl⟩ : ∃ m,l = 35 :: m:=by
   cases l with
   | nil => cases hp
   | cons c m =>
    have e : (35 == c) = true:=by simpa [List.isPrefixOf] using hp
    exact ⟨m,by rw [← (beq_iff_eq.1 e)]⟩
  have h' : comS (35 :: m) = some (.inr k):=h
  rw [skipS_com (l:=35 :: m) rfl rfl,h']
 ·rw [if_neg hp] at h;cases h
/-- Which way what is ignored goes on. -/
theorem skip_cases (l : Bs) : l = [] ∨ (∃ c r,l = c :: r ∧ ignL.contains c = true) ∨ (∃ r,l = 239 :: 187 :: 191 :: r) ∨ (∃ r,comS l = some (.inl r)) ∨ (∃ k,comS l = some (.inr k)) ∨ (l ≠ [] ∧ skipS l = .inl l):=by
 cases l with
 | nil => exact Or.inl rfl
 | cons c r =>
  right
  by_cases h1 : ignL.contains c = true
  ·exact Or.inl ⟨c,r,rfl,h1⟩
  ·right
   have h1' : headIn ignL (c :: r) = false:=Bool.eq_false_iff.2 h1
   by_cases h2 : List.isPrefixOf [239,187,191] (c :: r) = true
   ·left
    obtain ⟨t,ht⟩:=List.isPrefixOf_iff_prefix.1 h2
    exact ⟨t,ht.symm⟩
   ·right
    have h2' : List.isPrefixOf [239,187,191] (c :: r) = false:=Bool.eq_false_iff.2 h2
    cases hc : comS (c :: r) with
    | none =>
     right;right
     refine ⟨by simp,?_⟩
     rw [skipS_com h1' h2',hc]
    | some x =>
     cases x with
     | inl r' => exact Or.inl ⟨r',rfl⟩
     | inr k => exact Or.inr (Or.inl ⟨k,rfl⟩)
/-- Whatever stands behind, this is gone over. -/
def Gap (q : Bs) : Prop:=∀ m,skipS (q ++ m) = skipS m
theorem Gap.nil : Gap []:=fun _ => rfl
theorem Gap.one {c : UInt8} (h : ignL.contains c = true) : Gap [c]:=fun m => skip_one h m
theorem Gap.bom : Gap [239,187,191]:=fun m => skip_bom m
theorem Gap.app {a b : Bs} (ha : Gap a) (hb : Gap b) : Gap (a ++ b):=fun m => by
 rw [List.append_assoc,ha,hb]
theorem spanN_all (S : Bs) : ∀ l : Bs,∃ p,l = p ++ spanN S l ∧ (∀ c ∈ p,S.contains c = false) ∧ ∀ c m,spanN S l = c :: m → S.contains c = true
 | [] => ⟨[],rfl,fun _ h => (by cases h),fun _ _ h => (by cases h)⟩
 | c :: l => by
  by_cases h : S.contains c = true
  ·refine ⟨[],?_,fun _ h => (by cases h),?_⟩
   ·rw [spanN_stop S c l h];rfl
   ·rw [spanN_stop S c l h]
    intro d m e
    cases e
    exact h
  ·have h':=Bool.eq_false_iff.2 h
   obtain ⟨p,h1,h2,h3⟩:=spanN_all S l
   rw [spanN_head S c l h']
   refine ⟨c :: p,?_,?_,h3⟩
   ·rw [List.cons_append,← h1]
   ·intro d hd
    rcases List.mem_cons.1 hd with rfl | hd
    ·exact h'
    ·exact h2 d hd
theorem spanN_app (S : Bs) : ∀ (p m : Bs),(∀ c ∈ p,S.contains c = false) → spanN S (p ++ m) = spanN S m
 | [],_,_ => rfl
 | c :: p,m,h => by
  rw [List.cons_append,spanN_head S c _ (h c List.mem_cons_self)]
  exact spanN_app S p m fun d hd => h d (List.mem_cons_of_mem _ hd)
theorem ahead_app (p r : Bs) : ahead (p ++ r) r = p:=by
 unfold ahead
 simp
/-- A comment: its body, and what is behind it. -/
theorem com_parts {l : Bs} {x : Bs ⊕ Nat} (h : comS l = some x) : ∃ body r,l = 35 :: (body ++ r) ∧ (∀ c ∈ body,endL.contains c = false) ∧ (∀ c m,r = c :: m → endL.contains c = true) ∧ (match srcB (35 :: body) with | none => x = .inl r | some k => x = .inr k):=by
 unfold comS at h
 by_cases hp : List.isPrefixOf [35] l = true
 ·rw [if_pos hp] at h
  obtain ⟨m,rfl⟩ : ∃ m,l = 35 :: m:=by
   obtain ⟨t,ht⟩:=List.isPrefixOf_iff_prefix.1 hp
   exact ⟨t,ht.symm⟩
  obtain ⟨p,h1,h2,h3⟩:=spanN_all endL m
  refine ⟨p,spanN endL m,by rw [← h1],h2,h3,?_⟩
  have e : ahead (35 :: m) (spanN endL m) = 35 :: p:=by
   have : 35 :: m = (35 :: p) ++ spanN endL m:=by rw [List.cons_append,← h1]
   conv => lhs;arg 1;rw [this]
   exact ahead_app _ _
  have h':=Option.some.inj h
  simp only [List.drop_succ_cons,List.drop_zero] at h'
  rw [e] at h'
  cases hs : srcB (35 :: p) with
  | none => rw [hs] at h';exact h'.symm
  | some k => rw [hs] at h';exact h'.symm
 ·rw [if_neg hp] at h;cases h
theorem com_make {body r : Bs} (h1 : ∀ c ∈ body,endL.contains c = false) (h2 : ∀ c m,r = c :: m → endL.contains c = true) (hs : srcB (35 :: body) = none) : comS (35 :: (body ++ r)) = some (.inl r):=by
 have e : spanN endL (body ++ r) = r:=by
  rw [spanN_app endL body r h1]
  cases r with
  | nil => rfl
  | cons c m => exact spanN_stop endL c m (h2 c m rfl)
 unfold comS
 rw [if_pos (by rfl)]
 simp only [List.drop_succ_cons,List.drop_zero]
 rw [e,show ahead (35 :: (body ++ r)) r = 35 :: body from ahead_app (35 :: body) r,hs]
theorem end_ign {c : UInt8} (h : endL.contains c = true) : ignL.contains c = true:=by
 have : c = 10 ∨ c = 13:=by simpa [endL] using h
 rcases this with rfl | rfl <;> rfl
theorem Gap.com {body : Bs} {c : UInt8} (h1 : ∀ c ∈ body,endL.contains c = false) (hs : srcB (35 :: body) = none) (hc : endL.contains c = true) : Gap (35 :: (body ++ [c])):=fun m => by
 have e : 35 :: (body ++ [c]) ++ m = 35 :: (body ++ c :: m):=by simp
 rw [e,skip_com (com_make h1 (fun d k e => by cases e;exact hc) hs),skip_one (end_ign hc)]
/-- What is ignored, taken apart. -/
def SkipP (l : Bs) : Bs ⊕ Nat → Prop
 | .inl [] => ∀ m,skipS (l ++ 10 :: m) = skipS m
 | .inl (x :: l1) => ∃ q,l = q ++ x :: l1 ∧ Gap q
 | .inr k => ∃ q c j,l = q ++ c ∧ Gap q ∧ comS c = some (.inr j) ∧ k = c.length - j
theorem SkipP.ahead {q l : Bs} (hq : Gap q) {x : Bs ⊕ Nat} (h : SkipP l x) : SkipP (q ++ l) x:=by
 match x,h with
 | .inl [],h => exact fun m => by rw [List.append_assoc,hq];exact h m
 | .inl (x :: l1),⟨p,e,hg⟩ => exact ⟨q ++ p,by rw [e,List.append_assoc],hq.app hg⟩
 | .inr k,⟨p,c,j,e,hg,h1,h2⟩ => exact ⟨q ++ p,c,j,by rw [e,List.append_assoc],hq.app hg,h1,h2⟩
theorem skip_dec : ∀ (n : Nat) (l : Bs),l.length ≤ n → SkipP l (skipS l):=by
 intro n
 induction n with
 | zero =>
  intro l hl
  obtain rfl : l = []:=List.length_eq_zero_iff.1 (by omega)
  rw [skip_nil]
  exact fun m => skip_one (c:=10) rfl m
 | succ n ih =>
  intro l hl
  rcases skip_cases l with rfl | ⟨c,r,rfl,hc⟩ | ⟨r,rfl⟩ | ⟨r,hc⟩ | ⟨k,hc⟩ | ⟨hne,hs⟩
  ·rw [skip_nil]
   exact fun m => skip_one (c:=10) rfl m
  ·rw [skip_one hc]
   exact (ih r (by simp at hl;omega)).ahead (Gap.one hc)
  ·rw [skip_bom]
   exact (ih r (by simp at hl;omega)).ahead Gap.bom
  ·rw [skip_com hc]
   obtain ⟨body,r',rfl,h1,h2,h3⟩:=com_parts hc
   have hs : srcB (35 :: body) = none:=by
    cases hs : srcB (35 :: body) with
    | none => rfl
    | some k => rw [hs] at h3;cases h3
   rw [hs] at h3
   simp only [Sum.inl.injEq] at h3
   subst h3
   cases r with
   | nil =>
    rw [skip_nil]
    intro m
    have e : 35 :: (body ++ []) ++ 10 :: m = 35 :: (body ++ 10 :: m):=by simp
    rw [e,skip_com (com_make h1 (fun d k e => by cases e;rfl) hs),skip_one (c:=10) rfl]
   | cons c m =>
    have hc2:=h2 c m rfl
    rw [skip_one (end_ign hc2)]
    have e : 35 :: (body ++ c :: m) = 35 :: (body ++ [c]) ++ m:=by simp
    rw [e]
    exact (ih m (by simp at hl;omega)).ahead (Gap.com h1 hs hc2)
  ·rw [skip_bad hc]
   exact ⟨[],l,k,rfl,Gap.nil,hc,rfl⟩
  ·rw [hs]
   cases l with
   | nil => exact absurd rfl hne
   | cons x l1 => exact ⟨[],rfl,Gap.nil⟩
theorem skip_parts (l : Bs) : SkipP l (skipS l):=skip_dec l.length l (Nat.le_refl _)
theorem lexG_skip {N c : Nat} {l l' : Bs} (h : skipS l = skipS l') : lexG N c l = lexG N c l':=by
 cases hs : skipS l' with
 | inr k => rw [lexG_wrong (h.trans hs),lexG_wrong hs]
 | inl q =>
  cases q with
  | nil => rw [lexG_end (h.trans hs),lexG_end hs]
  | cons x l1 =>
   by_cases hc : c = 2048
   ·rw [lexG_many (h.trans hs) hc,lexG_many hs hc]
   ·cases ht : tokS (x :: l1) with
    | bad e => rw [lexG_bad (h.trans hs) hc ht,lexG_bad hs hc ht]
    | ok k t r => rw [lexG_ok (h.trans hs) hc ht,lexG_ok hs hc ht]
end Go.Proofs.YtgmlbjfgfmfliaaGreatDoor
namespace Go.Proofs.YtgmlbjfgfmfliaaGreatDoor
open Go Go.RowKit
/-! ### A token by itself, and with something behind it -/
theorem pre_app {p a r : Bs} (h : p.length ≤ a.length) : List.isPrefixOf p (a ++ r) = List.isPrefixOf p a:=by
 rw [Bool.eq_iff_iff,List.isPrefixOf_iff_prefix,List.isPrefixOf_iff_prefix]
 constructor
 ·intro h1
  exact List.prefix_of_prefix_length_le h1 (List.prefix_append a r) h
 ·intro h1
  exact h1.trans (List.prefix_append a r)
theorem pre_not {p a r : Bs} (h : List.isPrefixOf p (a ++ r) = false) : List.isPrefixOf p a = false:=by
 rw [Bool.eq_false_iff] at h ⊢
 intro h1
 exact h (List.isPrefixOf_iff_prefix.2 ((List.isPrefixOf_iff_prefix.1 h1).trans (List.prefix_append a r)))
theorem head_app {S a r : Bs} (h : a ≠ []) : headIn S (a ++ r) = headIn S a:=by
 cases a with
 | nil => exact absurd rfl h
 | cons c a => rfl
theorem head_app0 {S a r : Bs} (h : headIn S r = false) : headIn S (a ++ r) = headIn S a:=by
 cases a with
 | nil => exact h
 | cons c a => rfl
theorem head_sub {S T r : Bs} (hST : ∀ c,S.contains c = true → T.contains c = true) (h : headIn T r = false) : headIn S r = false:=by
 cases r with
 | nil => rfl
 | cons c r =>
  have h' : T.contains c = false:=h
  show S.contains c = false
  rw [Bool.eq_false_iff]
  intro e
  rw [hST c e] at h'
  cases h'
theorem spanR_app {S : Bs} : ∀ (a r : Bs),headIn S r = false → spanR S (a ++ r) = spanR S a ++ r
 | [],r,h => spanR_stop S r h
 | c :: a,r,h => by
  show spanR S (c :: (a ++ r)) = _
  unfold spanR
  split
  ·exact spanR_app a r h
  ·rfl
theorem drop_app1 {a r : Bs} (n : Nat) (h : n ≤ a.length) : (a ++ r).drop n = a.drop n ++ r:=by
 rw [List.drop_append_of_le_length h]
theorem pre_len1 {c : UInt8} {a : Bs} (h : List.isPrefixOf [c] a = true) : a ≠ []:=by
 intro e
 subst e
 cases h
theorem pre_head {c : UInt8} {a r : Bs} (h : headIn [c] r = false) : List.isPrefixOf [c] (a ++ r) = List.isPrefixOf [c] a:=by
 cases a with
 | cons d a => exact pre_app (by simp)
 | nil =>
  cases r with
  | nil => rfl
  | cons d r =>
   have h' : [c].contains d = false:=h
   simp only [List.nil_append,List.isPrefixOf,Bool.and_true]
   rw [beq_eq_false_iff_ne]
   rintro rfl
   simp at h'
/-! numbers -/
abbrev numX : Bs:=digL ++ 46 :: letL
theorem needD_app {a r : Bs} (h : headIn digL r = false) : needD (a ++ r) = (needD a).map (· ++ r):=by
 unfold needD
 rw [head_app0 h]
 split
 ·rw [spanR_app a r h];rfl
 ·rfl
theorem numX_dig {r : Bs} (h : headIn numX r = false) : headIn digL r = false:=head_sub (fun c hc => by
 rw [List.contains_iff_mem] at hc ⊢
 exact List.mem_append_left _ hc) h
theorem numX_let {r : Bs} (h : headIn numX r = false) : headIn letL r = false:=head_sub (fun c hc => by
 rw [List.contains_iff_mem] at hc ⊢
 exact List.mem_append_right _ (List.mem_cons_of_mem _ hc)) h
theorem numX_of {x : UInt8} (hx : numX.contains x = true) {r : Bs} (h : headIn numX r = false) : headIn [x] r = false:=head_sub (fun c hc => by
 have : c = x:=by simpa using hc
 rw [this];exact hx) h
theorem numA_app {a r : Bs} (h : headIn numX r = false) : numA (a ++ r) = (numA a).map (· ++ r):=by
 unfold numA
 rw [pre_head (numX_of (x:=48) rfl h)]
 split
 ·rename_i hp
  have:=prefix_le hp
  rw [drop_app1 1 (by simpa using this)]
  rfl
 ·exact needD_app (numX_dig h)
theorem numB_app {a r : Bs} (h : headIn numX r = false) : numB (a ++ r) = (numB a).map fun p => (p.1,p.2 ++ r):=by
 unfold numB
 rw [pre_head (numX_of (x:=46) rfl h)]
 split
 ·rename_i hp
  have:=prefix_le hp
  rw [drop_app1 1 (by simpa using this),needD_app (numX_dig h)]
  cases needD (a.drop 1) <;> rfl
 ·rfl
theorem eE_let {r : Bs} (h : headIn numX r = false) : headIn [101,69] r = false:=head_sub (fun c hc => by
 have : c = 101 ∨ c = 69:=by simpa using hc
 rcases this with rfl | rfl <;> rfl) h
theorem optO_app {S a r : Bs} (h : a ≠ []) : optO S (a ++ r) = optO S a ++ r:=by
 unfold optO
 rw [head_app h]
 split
 ·rw [drop_app1 1 (by cases a with
   | nil => exact absurd rfl h
   | cons c a => simp)]
 ·rfl
theorem needD_nil : needD [] = none:=rfl
theorem numC_ext {k : Int} {a b r : Bs} {k' : Int} (h : headIn numX r = false) (hn : numC k a = some (k',b)) : numC k (a ++ r) = some (k',b ++ r):=by
 unfold numC at hn ⊢
 rw [head_app0 (eE_let h)]
 split at hn
 ·rename_i hh
  rw [if_pos hh]
  have ha : a ≠ []:=by rintro rfl;cases hh
  have hl : 1 ≤ a.length:=by cases a with
   | nil => exact absurd rfl ha
   | cons c a => simp
  rw [drop_app1 1 hl]
  have hd : a.drop 1 ≠ []:=by
   intro e
   rw [e] at hn
   cases hn
  rw [optO_app hd,needD_app (numX_dig h)]
  cases hx : needD (optO [43,45] (a.drop 1)) with
  | none => rw [hx] at hn;cases hn
  | some y =>
   rw [hx] at hn
   simp only [Option.map_some,Option.some.injEq,Prod.mk.injEq] at hn ⊢
   exact ⟨hn.1,by rw [hn.2]⟩
 ·rename_i hh
  rw [if_neg hh]
  simp only [Option.some.injEq,Prod.mk.injEq] at hn ⊢
  exact ⟨hn.1,by rw [hn.2]⟩
theorem numC_cut {k : Int} {a b r : Bs} {k' : Int} (h : headIn numX r = false) (hn : numC k (a ++ r) = some (k',b ++ r)) : numC k a = some (k',b):=by
 unfold numC at hn ⊢
 rw [head_app0 (eE_let h)] at hn
 split at hn
 ·rename_i hh
  rw [if_pos hh]
  have ha : a ≠ []:=by rintro rfl;cases hh
  have hl : 1 ≤ a.length:=by cases a with
   | nil => exact absurd rfl ha
   | cons c a => simp
  rw [drop_app1 1 hl] at hn
  have hd : a.drop 1 ≠ []:=by
   intro e
   rw [e,List.nil_append] at hn
   cases hx : needD (optO [43,45] r) with
   | none => rw [hx] at hn;cases hn
   | some y =>
    rw [hx] at hn
    simp only [Option.map_some,Option.some.injEq,Prod.mk.injEq] at hn
    have h1:=(needD_facts hx).2
    have h2:=(optO_suf [43,45] r).length_le
    have h3:=congrArg List.length hn.2
    rw [List.length_append] at h3
    omega
  rw [optO_app hd,needD_app (numX_dig h)] at hn
  cases hx : needD (optO [43,45] (a.drop 1)) with
  | none => rw [hx] at hn;cases hn
  | some y =>
   rw [hx] at hn
   simp only [Option.map_some,Option.some.injEq,Prod.mk.injEq] at hn ⊢
   exact ⟨hn.1,List.append_cancel_right hn.2⟩
 ·rename_i hh
  rw [if_neg hh]
  simp only [Option.some.injEq,Prod.mk.injEq] at hn ⊢
  exact ⟨hn.1,List.append_cancel_right hn.2⟩
theorem optT_app {q a r : Bs} (h : q.length ≤ a.length) : optT q (a ++ r) = optT q a ++ r:=by
 unfold optT
 rw [pre_app h]
 split
 ·rw [drop_app1 _ h]
 ·rfl
theorem numS_cut {a r : Bs} {k : Int} (ha : a ≠ []) (hn : numS (a ++ r) = some (k,r)) : numS a = some (k,[]) ∧ headIn numX r = false:=by
 have hl : 1 ≤ a.length:=by cases a with
  | nil => exact absurd rfl ha
  | cons c a => simp
 unfold numS at hn ⊢
 rw [optT_app (by simpa using hl)] at hn
 -- what is behind a number
 have hr : headIn numX r = false:=by
  cases h1 : numA (optT [45] a ++ r) with
  | none => rw [h1] at hn;cases hn
  | some l1 =>
   rw [h1,Option.bind_some] at hn
   cases h2 : numB l1 with
   | none => rw [h2] at hn;cases hn
   | some q =>
    rw [h2,Option.bind_some] at hn
    cases h3 : numC q.1 q.2 with
    | none => rw [h3] at hn;cases hn
    | some u =>
     rw [h3,Option.bind_some] at hn
     unfold numD at hn
     split at hn
     ·cases hn
     ·rename_i hh
      simp only [Option.some.injEq,Prod.mk.injEq] at hn
      rw [hn.2] at hh
      exact Bool.eq_false_iff.2 hh
 refine ⟨?_,hr⟩
 rw [numA_app hr] at hn
 cases h1 : numA (optT [45] a) with
 | none => rw [h1] at hn;cases hn
 | some l1 =>
  rw [h1,Option.map_some,Option.bind_some,numB_app hr] at hn
  rw [Option.bind_some]
  cases h2 : numB l1 with
  | none => rw [h2] at hn;cases hn
  | some q =>
   rw [h2,Option.map_some,Option.bind_some] at hn
   rw [Option.bind_some]
   cases h3 : numC q.1 (q.2 ++ r) with
   | none => rw [h3] at hn;cases hn
   | some u =>
    rw [h3,Option.bind_some] at hn
    obtain ⟨u1,u2⟩:=u
    unfold numD at hn
    split at hn
    ·cases hn
    ·simp only [Option.some.injEq,Prod.mk.injEq] at hn
     obtain ⟨e1,e2⟩:=hn
     have h3' : numC q.1 (q.2 ++ r) = some (u1,[] ++ r):=by rw [h3,e2];rfl
     rw [numC_cut hr h3',Option.bind_some]
     show numD u1 [] = _
     rw [← e1]
     rfl
theorem numS_ext {a r : Bs} {k : Int} (hn : numS a = some (k,[])) (hr : headIn numX r = false) : numS (a ++ r) = some (k,r):=by
 have hl : 1 ≤ a.length:=by
  have:=(numS_facts hn).2
  simp at this
  omega
 unfold numS at hn ⊢
 rw [optT_app (by simpa using hl),numA_app hr]
 cases h1 : numA (optT [45] a) with
 | none => rw [h1] at hn;cases hn
 | some l1 =>
  rw [h1,Option.bind_some] at hn
  rw [Option.map_some,Option.bind_some,numB_app hr]
  cases h2 : numB l1 with
  | none => rw [h2] at hn;cases hn
  | some q =>
   rw [h2,Option.bind_some] at hn
   rw [Option.map_some,Option.bind_some]
   cases h3 : numC q.1 q.2 with
   | none => rw [h3] at hn;cases hn
   | some u =>
    rw [h3,Option.bind_some] at hn
    obtain ⟨u1,u2⟩:=u
    rw [numC_ext hr h3,Option.bind_some]
    unfold numD at hn
    split at hn
    ·cases hn
    ·simp only [Option.some.injEq,Prod.mk.injEq] at hn
     rw [hn.2,hn.1]
     unfold numD
     rw [if_neg (by rw [List.nil_append,hr];decide)]
     rfl
/-! strings -/
theorem rawF_lt : ∀ (n : Nat) (l t r : Bs),rawF n l = some (t,r) → r.length + 3 ≤ l.length:=by
 intro n
 induction n with
 | zero => intro l t r h;cases h
 | succ n ih =>
  intro l t r h
  unfold rawF at h
  split at h
  ·rename_i hp
   have:=prefix_le hp
   simp only [Option.some.injEq,Prod.mk.injEq] at h
   rw [← h.2,List.length_drop]
   simp at this
   omega
  ·split at h
   ·rename_i hp
    have:=prefix_le hp
    cases hx : rawF n (l.drop 4) with
    | none => rw [hx] at h;cases h
    | some q =>
     rw [hx] at h
     simp only [Option.map_some,Option.some.injEq,Prod.mk.injEq] at h
     have:=ih _ q.1 q.2 hx
     rw [List.length_drop] at this
     rw [← h.2]
     omega
   ·split at h
    ·cases h
    ·rename_i c m _ _
     cases hx : rawF n m with
     | none => rw [hx] at h;cases h
     | some q =>
      rw [hx] at h
      simp only [Option.map_some,Option.some.injEq,Prod.mk.injEq] at h
      have:=ih _ q.1 q.2 hx
      rw [← h.2]
      simp
      omega
theorem rawF_cut : ∀ (n : Nat) (a r t : Bs),rawF n (a ++ r) = some (t,r) → rawF n a = some (t,[]):=by
 intro n
 induction n with
 | zero => intro a r t h;cases h
 | succ n ih =>
  intro a r t h
  have hlen:=rawF_lt _ _ _ _ h
  rw [List.length_append] at hlen
  have h0:=h
  unfold rawF at h ⊢
  rw [pre_app (by simp;omega)] at h
  by_cases hp : List.isPrefixOf [34,34,34] a = true
  ·rw [if_pos hp] at h ⊢
   rw [drop_app1 3 (by omega)] at h
   simp only [Option.some.injEq,Prod.mk.injEq] at h ⊢
   refine ⟨h.1,?_⟩
   have:=h.2
   exact List.append_left_eq_self.1 this
  ·rw [if_neg hp] at h ⊢
   by_cases hp4 : List.isPrefixOf [92,34,34,34] (a ++ r) = true
   ·rw [if_pos hp4] at h
    cases hx : rawF n ((a ++ r).drop 4) with
    | none => rw [hx] at h;cases h
    | some q =>
     rw [hx] at h
     simp only [Option.map_some,Option.some.injEq,Prod.mk.injEq] at h
     have h4:=rawF_lt _ _ _ _ hx
     rw [h.2,List.length_drop,List.length_append] at h4
     rw [pre_app (by simp;omega)] at hp4
     rw [if_pos hp4]
     rw [drop_app1 4 (by omega)] at hx
     have hq : q = (q.1,r):=by rw [← h.2]
     rw [hq] at hx
     rw [ih _ _ _ hx]
     simp only [Option.map_some,Option.some.injEq,Prod.mk.injEq,and_true]
     exact h.1
   ·rw [if_neg hp4] at h
    have hp4':=pre_not (Bool.eq_false_iff.2 hp4)
    rw [if_neg (by rw [hp4'];decide)]
    cases a with
    | nil => exact absurd hlen (by simp only [List.length_nil];omega)
    | cons c a =>
     simp only [List.cons_append] at h ⊢
     cases hx : rawF n (a ++ r) with
     | none => rw [hx] at h;cases h
     | some q =>
      rw [hx] at h
      simp only [Option.map_some,Option.some.injEq,Prod.mk.injEq] at h
      have hq : q = (q.1,r):=by rw [← h.2]
      rw [hq] at hx
      rw [ih _ _ _ hx]
      simp only [Option.map_some,Option.some.injEq,Prod.mk.injEq,and_true]
      exact h.1
theorem rawF_ext : ∀ (n : Nat) (a r t : Bs),rawF n a = some (t,[]) → rawF n (a ++ r) = some (t,r):=by
 intro n
 induction n with
 | zero => intro a r t h;cases h
 | succ n ih =>
  intro a r t h
  have hlen:=rawF_lt _ _ _ _ h
  unfold rawF at h ⊢
  rw [pre_app (by simp at hlen ⊢;omega)]
  by_cases hp : List.isPrefixOf [34,34,34] a = true
  ·rw [if_pos hp] at h ⊢
   rw [drop_app1 3 (by simp at hlen;omega)]
   simp only [Option.some.injEq,Prod.mk.injEq] at h ⊢
   refine ⟨h.1,?_⟩
   rw [h.2];rfl
  ·rw [if_neg hp] at h ⊢
   by_cases hp4 : List.isPrefixOf [92,34,34,34] a = true
   ·rw [if_pos hp4] at h
    have h4:=prefix_le hp4
    rw [pre_app h4,if_pos hp4]
    rw [drop_app1 4 (by simpa using h4)]
    cases hx : rawF n (a.drop 4) with
    | none => rw [hx] at h;cases h
    | some q =>
     rw [hx] at h
     simp only [Option.map_some,Option.some.injEq,Prod.mk.injEq] at h
     have hq : q = (q.1,[]):=by rw [← h.2]
     rw [hq] at hx
     rw [ih _ r _ hx]
     simp only [Option.map_some,Option.some.injEq,Prod.mk.injEq,and_true]
     exact h.1
   ·rw [if_neg hp4] at h
    cases a with
    | nil => exact absurd hlen (by simp only [List.length_nil];omega)
    | cons c a =>
     simp only at h
     cases hx : rawF n a with
     | none => rw [hx] at h;cases h
     | some q =>
      have h5:=rawF_lt _ _ _ _ hx
      rw [pre_app (by simp;omega),if_neg hp4]
      simp only [List.cons_append]
      rw [hx] at h
      simp only [Option.map_some,Option.some.injEq,Prod.mk.injEq] at h
      have hq : q = (q.1,[]):=by rw [← h.2]
      rw [hq] at hx
      rw [ih _ r _ hx]
      simp only [Option.map_some,Option.some.injEq,Prod.mk.injEq,and_true]
      exact h.1
def hexQ (a b c d : UInt8) : Option Nat:=(hexV a).bind fun x => (hexV b).bind fun y => (hexV c).bind fun z => (hexV d).bind fun t => some (x * 4096 + y * 256 + z * 16 + t)
theorem nmbS_four (a b c d : UInt8) (m : Bs) : nmbS (a :: b :: c :: d :: m) = (hexQ a b c d).map fun V => (unitS V,m):=by
 show ((hexV a).bind fun x => (hexV b).bind fun y => (hexV c).bind fun z => (hexV d).bind fun t => some (unitS (x * 4096 + y * 256 + z * 16 + t),m)) = _
 unfold hexQ
 cases hexV a with
 | none => rfl
 | some x =>
  cases hexV b with
  | none => rfl
  | some y =>
   cases hexV c with
   | none => rfl
   | some z => cases hexV d <;> rfl
theorem nmbS_ext {a b x : Bs} (r : Bs) (h : nmbS a = some (x,b)) : nmbS (a ++ r) = some (x,b ++ r):=by
 match a,h with
 | c0 :: c1 :: c2 :: c3 :: m,h =>
  simp only [List.cons_append]
  rw [nmbS_four] at h ⊢
  cases hq : hexQ c0 c1 c2 c3 with
  | none => rw [hq] at h;cases h
  | some V =>
   rw [hq] at h
   simp only [Option.map_some,Option.some.injEq,Prod.mk.injEq] at h ⊢
   exact ⟨h.1,by rw [h.2]⟩
theorem nmbS_cut {a b x r : Bs} (h : nmbS (a ++ r) = some (x,b ++ r)) : nmbS a = some (x,b):=by
 have hlen : 4 ≤ a.length:=by
  match hl : a ++ r,h with
  | c0 :: c1 :: c2 :: c3 :: m,h =>
   rw [nmbS_four] at h
   cases hq : hexQ c0 c1 c2 c3 with
   | none => rw [hq] at h;cases h
   | some V =>
    rw [hq] at h
    simp only [Option.map_some,Option.some.injEq,Prod.mk.injEq] at h
    have e:=congrArg List.length hl
    rw [h.2] at e
    simp only [List.length_append,List.length_cons] at e
    omega
 match a,hlen,h with
 | c0 :: c1 :: c2 :: c3 :: m,_,h =>
  simp only [List.cons_append] at h
  rw [nmbS_four] at h ⊢
  cases hq : hexQ c0 c1 c2 c3 with
  | none => rw [hq] at h;cases h
  | some V =>
   rw [hq] at h
   simp only [Option.map_some,Option.some.injEq,Prod.mk.injEq] at h ⊢
   exact ⟨h.1,List.append_cancel_right h.2⟩
theorem escS_ext {a b x : Bs} (r : Bs) (h : escS a = some (x,b)) : escS (a ++ r) = some (x,b ++ r):=by
 cases a with
 | nil => cases h
 | cons c m =>
  unfold escS at h ⊢
  rw [pre_app (by simp)]
  split at h
  ·rename_i hp
   rw [if_pos hp]
   exact nmbS_ext r h
  ·rename_i hp
   rw [if_neg hp]
   simp only [List.cons_append] at h ⊢
   split at h
   ·rename_i hc
    rw [if_pos hc]
    simp only [Option.some.injEq,Prod.mk.injEq] at h ⊢
    exact ⟨h.1,by rw [h.2]⟩
   ·cases h
theorem escS_cut {a b x r : Bs} (h : escS (a ++ r) = some (x,b ++ r)) : escS a = some (x,b):=by
 have hlen:=(escS_facts h).2.1
 rw [List.length_append,List.length_append] at hlen
 cases a with
 | nil => exact absurd hlen (by simp only [List.length_nil];omega)
 | cons c m =>
  unfold escS at h ⊢
  rw [pre_app (by simp)] at h
  split at h
  ·rename_i hp
   rw [if_pos hp]
   exact nmbS_cut h
  ·rename_i hp
   rw [if_neg hp]
   simp only [List.cons_append] at h ⊢
   split at h
   ·rename_i hc
    rw [if_pos hc]
    simp only [Option.some.injEq,Prod.mk.injEq] at h ⊢
    exact ⟨h.1,List.append_cancel_right h.2⟩
   ·cases h
theorem lineF_lt : ∀ (n : Nat) (l t r : Bs),lineF n l = some (t,r) → r.length < l.length:=by
 intro n
 induction n with
 | zero => intro l t r h;cases h
 | succ n ih =>
  intro l t r h
  unfold lineF at h
  split at h
  ·rename_i hp
   have:=prefix_le hp
   simp only [Option.some.injEq,Prod.mk.injEq] at h
   rw [← h.2,List.length_drop]
   simp at this
   omega
  ·split at h
   ·rename_i hp
    have:=prefix_le hp
    cases hy : escS (l.drop 1) with
    | none => rw [hy] at h;cases h
    | some p =>
     rw [hy,Option.bind_some] at h
     cases hx : lineF n p.2 with
     | none => rw [hx] at h;cases h
     | some q =>
      rw [hx] at h
      simp only [Option.map_some,Option.some.injEq,Prod.mk.injEq] at h
      have h1:=ih _ q.1 q.2 hx
      have h2:=(escS_facts (t:=p.1) (r:=p.2) hy).2.1
      rw [List.length_drop] at h2
      rw [← h.2]
      omega
   ·split at h
    ·cases h
    ·rename_i c m _ _
     split at h
     ·cases h
     ·cases hx : lineF n m with
      | none => rw [hx] at h;cases h
      | some q =>
       rw [hx] at h
       simp only [Option.map_some,Option.some.injEq,Prod.mk.injEq] at h
       have:=ih _ q.1 q.2 hx
       rw [← h.2]
       simp
       omega
theorem lineF_cut : ∀ (n : Nat) (a r t : Bs),lineF n (a ++ r) = some (t,r) → lineF n a = some (t,[]):=by
 intro n
 induction n with
 | zero => intro a r t h;cases h
 | succ n ih =>
  intro a r t h
  have hlen:=lineF_lt _ _ _ _ h
  rw [List.length_append] at hlen
  unfold lineF at h ⊢
  rw [pre_app (by simp;omega),pre_app (by simp;omega)] at h
  by_cases hp : List.isPrefixOf [34] a = true
  ·rw [if_pos hp] at h ⊢
   rw [drop_app1 1 (by omega)] at h
   simp only [Option.some.injEq,Prod.mk.injEq] at h ⊢
   exact ⟨h.1,List.append_left_eq_self.1 h.2⟩
  ·rw [if_neg hp] at h ⊢
   by_cases hp4 : List.isPrefixOf [92] a = true
   ·rw [if_pos hp4] at h ⊢
    rw [drop_app1 1 (by omega)] at h
    cases hy : escS (a.drop 1 ++ r) with
    | none => rw [hy] at h;cases h
    | some p =>
     rw [hy,Option.bind_some] at h
     cases hx : lineF n p.2 with
     | none => rw [hx] at h;cases h
     | some q =>
      rw [hx] at h
      simp only [Option.map_some,Option.some.injEq,Prod.mk.injEq] at h
      have hq : q = (q.1,r):=by rw [← h.2]
      rw [hq] at hx
      obtain ⟨b,hb⟩:=lineF_suf _ _ _ _ hx
      have hy' : escS (a.drop 1 ++ r) = some (p.1,b ++ r):=by rw [hy,hb]
      rw [escS_cut hy',Option.bind_some]
      rw [← hb] at hx
      rw [ih _ _ _ hx]
      simp only [Option.map_some,Option.some.injEq,Prod.mk.injEq,and_true]
      exact h.1
   ·rw [if_neg hp4] at h ⊢
    cases a with
    | nil => exact absurd hlen (by simp only [List.length_nil];omega)
    | cons c a =>
     simp only [List.cons_append] at h ⊢
     split at h
     ·cases h
     ·rename_i hc
      rw [if_neg hc]
      cases hx : lineF n (a ++ r) with
      | none => rw [hx] at h;cases h
      | some q =>
       rw [hx] at h
       simp only [Option.map_some,Option.some.injEq,Prod.mk.injEq] at h
       have hq : q = (q.1,r):=by rw [← h.2]
       rw [hq] at hx
       rw [ih _ _ _ hx]
       simp only [Option.map_some,Option.some.injEq,Prod.mk.injEq,and_true]
       exact h.1
theorem lineF_ext : ∀ (n : Nat) (a r t : Bs),lineF n a = some (t,[]) → lineF n (a ++ r) = some (t,r):=by
 intro n
 induction n with
 | zero => intro a r t h;cases h
 | succ n ih =>
  intro a r t h
  have hlen:=lineF_lt _ _ _ _ h
  simp only [List.length_nil] at hlen
  unfold lineF at h ⊢
  rw [pre_app (by simp;omega),pre_app (by simp;omega)]
  by_cases hp : List.isPrefixOf [34] a = true
  ·rw [if_pos hp] at h ⊢
   rw [drop_app1 1 (by omega)]
   simp only [Option.some.injEq,Prod.mk.injEq] at h ⊢
   exact ⟨h.1,by rw [h.2];rfl⟩
  ·rw [if_neg hp] at h ⊢
   by_cases hp4 : List.isPrefixOf [92] a = true
   ·rw [if_pos hp4] at h ⊢
    rw [drop_app1 1 (by omega)]
    cases hy : escS (a.drop 1) with
    | none => rw [hy] at h;cases h
    | some p =>
     rw [hy,Option.bind_some] at h
     cases hx : lineF n p.2 with
     | none => rw [hx] at h;cases h
     | some q =>
      rw [hx] at h
      simp only [Option.map_some,Option.some.injEq,Prod.mk.injEq] at h
      have hq : q = (q.1,[]):=by rw [← h.2]
      rw [hq] at hx
      rw [escS_ext (x:=p.1) (b:=p.2) r hy,Option.bind_some,ih _ r _ hx]
      simp only [Option.map_some,Option.some.injEq,Prod.mk.injEq,and_true]
      exact h.1
   ·rw [if_neg hp4] at h ⊢
    cases a with
    | nil => exact absurd hlen (by simp only [List.length_nil];omega)
    | cons c a =>
     simp only [List.cons_append] at h ⊢
     split at h
     ·cases h
     ·rename_i hc
      rw [if_neg hc]
      cases hx : lineF n a with
      | none => rw [hx] at h;cases h
      | some q =>
       rw [hx] at h
       simp only [Option.map_some,Option.some.injEq,Prod.mk.injEq] at h
       have hq : q = (q.1,[]):=by rw [← h.2]
       rw [hq] at hx
       rw [ih _ r _ hx]
       simp only [Option.map_some,Option.some.injEq,Prod.mk.injEq,and_true]
       exact h.1
end Go.Proofs.YtgmlbjfgfmfliaaGreatDoor
namespace Go.Proofs.YtgmlbjfgfmfliaaGreatDoor
open Go Go.RowKit
/-! ### Tokens -/
/-- What may not stand behind a token. -/
def fitX (p : Bs) : Bs:=if headIn letL p then letL ++ digL else if headIn (45 :: digL) p then numX else if p = [34,34] then [34] else []
def Fits (p r : Bs) : Prop:=headIn (fitX p) r = false
def brkL : Bs:=34 :: numX
theorem fit_brk (p : Bs) (c : UInt8) (h : (fitX p).contains c = true) : brkL.contains c = true:=by
 unfold fitX at h
 unfold brkL
 rw [List.contains_iff_mem] at h ⊢
 split at h
 ·refine List.mem_cons_of_mem _ ?_
  rcases List.mem_append.1 h with h | h
  ·exact List.mem_append_right _ (List.mem_cons_of_mem _ h)
  ·exact List.mem_append_left _ h
 ·split at h
  ·exact List.mem_cons_of_mem _ h
  ·split at h
   ·have : c = 34:=by simpa using h
    rw [this];exact List.mem_cons_self
   ·cases h
/-- What begins this with a byte that may not stand behind a token began that, too. -/
def HeadC (r r' : Bs) : Prop:=∀ c m,r' = c :: m → brkL.contains c = true → ∃ m',r = c :: m'
theorem Fits.change {p r r' : Bs} (h : Fits p r) (hc : HeadC r r') : Fits p r':=by
 unfold Fits at h ⊢
 cases r' with
 | nil => rfl
 | cons c m =>
  show (fitX p).contains c = false
  rw [Bool.eq_false_iff]
  intro e
  obtain ⟨m',rfl⟩:=hc c m rfl (fit_brk p c e)
  have h' : (fitX p).contains c = false:=h
  rw [e] at h'
  cases h'
theorem HeadC.refl (r : Bs) : HeadC r r:=fun _ m e _ => ⟨m,e⟩
theorem HeadC.nil (r : Bs) : HeadC r []:=fun _ _ e => by cases e
theorem HeadC.not {c : UInt8} (r m : Bs) (h : brkL.contains c = false) : HeadC r (c :: m):=fun d k e hd => by
 cases e
 rw [h] at hd
 cases hd
theorem HeadC.app {a : Bs} (ha : a ≠ []) (r r' : Bs) : HeadC (a ++ r) (a ++ r'):=fun c m e _ => by
 cases a with
 | nil => exact absurd rfl ha
 | cons d a =>
  cases e
  exact ⟨a ++ r,rfl⟩
theorem HeadC.app0 {a r r' : Bs} (h : HeadC r r') : HeadC (a ++ r) (a ++ r'):=by
 cases a with
 | nil => exact h
 | cons d a => exact HeadC.app (by simp) r r'
theorem wrt_okX {k k' : Int} {l r t r' : Bs} (h : wrt k l r = .ok k' t r') : k = k' ∧ ahead l r = t ∧ r = r':=by
 unfold wrt at h
 cases h
 exact ⟨rfl,rfl,rfl⟩
theorem app_eq_right {a r : Bs} (h : a ++ r = r) : a = []:=List.append_left_eq_self.1 h
theorem ahead_nil (p : Bs) : ahead p [] = p:=by
 unfold ahead
 simp
theorem tok_cut {p r t : Bs} {k : Int} (h : tokS (p ++ r) = .ok k t r) : tokS p = .ok k t [] ∧ Fits p r:=by
 have hlt:=(tokS_facts h).2
 rw [List.length_append] at hlt
 have hp : p ≠ []:=by rintro rfl;simp at hlt
 have hl : 1 ≤ p.length:=by omega
 unfold tokS at h ⊢
 unfold Fits fitX
 simp only [head_app hp] at h
 by_cases h1 : headIn punL p = true
 ·rw [if_pos h1] at h ⊢
  obtain ⟨rfl,ht,hr⟩:=wrt_okX h
  rw [drop_app1 1 hl] at hr
  have hd:=app_eq_right hr
  have hx : ahead (p ++ r) ((p ++ r).drop 1) = p:=by
   rw [drop_app1 1 hl,hr,ahead_app]
  rw [hx] at ht
  refine ⟨?_,?_⟩
  ·unfold wrt;rw [hd,ahead_nil,ht]
  ·have hnl : headIn letL p = false:=by
    cases p with
    | nil => rfl
    | cons c p =>
     have : c ∈ punL:=List.contains_iff_mem.1 h1
     simp [punL] at this
     rcases this with rfl | rfl | rfl | rfl | rfl | rfl | rfl | rfl | rfl | rfl | rfl | rfl | rfl <;> rfl
   have hnd : headIn (45 :: digL) p = false:=by
    cases p with
    | nil => rfl
    | cons c p =>
     have : c ∈ punL:=List.contains_iff_mem.1 h1
     simp [punL] at this
     rcases this with rfl | rfl | rfl | rfl | rfl | rfl | rfl | rfl | rfl | rfl | rfl | rfl | rfl <;> rfl
   have hnq : p ≠ [34,34]:=by
    rintro rfl
    cases h1
   rw [hnl,hnd,if_neg (by decide),if_neg (by decide),if_neg hnq]
   cases r <;> rfl
 ·rw [if_neg h1] at h ⊢
  by_cases h2 : List.isPrefixOf [46,46,46] (p ++ r) = true
  ·rw [if_pos h2] at h
   obtain ⟨rfl,ht,hr⟩:=wrt_okX h
   have hp3 : 3 ≤ p.length:=by
    have:=congrArg List.length hr
    have h3:=prefix_le h2
    rw [List.length_drop,List.length_append] at this
    rw [List.length_append] at h3
    simp at h3
    omega
   rw [pre_app (by simpa using hp3)] at h2
   rw [if_pos h2]
   rw [drop_app1 3 hp3] at hr
   have hd:=app_eq_right hr
   have hx : ahead (p ++ r) ((p ++ r).drop 3) = p:=by
    rw [drop_app1 3 hp3,hr,ahead_app]
   rw [hx] at ht
   refine ⟨?_,?_⟩
   ·unfold wrt;rw [hd,ahead_nil,ht]
   ·obtain ⟨m,rfl⟩:=List.isPrefixOf_iff_prefix.1 h2
    have e1 : headIn letL ([46,46,46] ++ m) = false:=rfl
    have e2 : headIn (45 :: digL) ([46,46,46] ++ m) = false:=rfl
    rw [e1,e2,if_neg (by decide),if_neg (by decide),if_neg (by intro e;cases e)]
    cases r <;> rfl
  ·rw [if_neg h2] at h
   have h2':=pre_not (Bool.eq_false_iff.2 h2)
   rw [if_neg (by rw [h2'];decide)]
   by_cases h3 : headIn letL p = true
   ·rw [if_pos h3] at h
    simp only [h3,if_true]
    obtain ⟨rfl,ht,hr⟩:=wrt_okX h
    rw [drop_app1 1 hl] at hr
    have hx : ahead (p ++ r) (spanR (letL ++ digL) ((p ++ r).drop 1)) = p:=by
     rw [drop_app1 1 hl,hr,ahead_app]
    rw [hx] at ht
    have hf : headIn (letL ++ digL) r = false:=by
     cases hh : headIn (letL ++ digL) r with
     | false => rfl
     | true =>
      exfalso
      have g1:=spanR_lt _ r hh
      -- the row goes into r
      have g2 : ∀ a : Bs,(spanR (letL ++ digL) (a ++ r)) = r → False:=by
       intro a
       induction a with
       | nil => intro e;rw [List.nil_append] at e;rw [e] at g1;omega
       | cons c a ih =>
        intro e
        rw [List.cons_append] at e
        unfold spanR at e
        split at e
        ·exact ih e
        ·have:=congrArg List.length e
         simp at this
         omega
      exact g2 _ hr
    rw [spanR_app _ _ hf] at hr
    have hd:=app_eq_right hr
    refine ⟨?_,hf⟩
    unfold wrt
    rw [hd,ahead_nil,ht]
   ·rw [if_neg h3] at h
    rw [if_neg h3,if_neg h3]
    by_cases h4 : headIn (45 :: digL) p = true
    ·rw [if_pos h4] at h
     simp only [h4,if_true]
     cases hn : numS (p ++ r) with
     | none => rw [hn] at h;cases h
     | some q =>
      rw [hn] at h
      obtain ⟨e1,ht,hr⟩:=wrt_okX h
      have hq : q = (k,r):=by rw [← e1,← hr]
      rw [hq] at hn
      obtain ⟨g1,g2⟩:=numS_cut hp hn
      rw [hr,ahead_app] at ht
      refine ⟨?_,g2⟩
      rw [g1]
      show wrt k p [] = _
      unfold wrt
      rw [ahead_nil,ht]
    ·rw [if_neg h4] at h
     rw [if_neg h4,if_neg h4]
     by_cases h5 : headIn [34] p = true
     ·rw [if_pos h5] at h
      rw [if_pos h5]
      cases hn : textS (p ++ r) with
      | none => rw [hn] at h;cases h
      | some q =>
       rw [hn] at h
       obtain ⟨q1,q2⟩:=q
       simp only [TR.ok.injEq] at h
       obtain ⟨rfl,rfl,rfl⟩:=h
       unfold textS textR at hn ⊢
       by_cases hb : List.isPrefixOf [34,34,34] (p ++ q2) = true
       ·rw [if_pos hb] at hn
        cases hr : rawF ((p ++ q2).length + 1) ((p ++ q2).drop 3) with
        | none => rw [hr] at hn;cases hn
        | some u =>
         rw [hr,Option.map_some,Option.bind_some] at hn
         split at hn
         ·cases hn
         ·rename_i hs
          simp only [Option.some.injEq,Prod.mk.injEq] at hn
          obtain ⟨u1,u2⟩:=u
          simp only at hn hs
          obtain ⟨e1,rfl⟩:=hn
          have h3l:=rawF_lt _ _ _ _ hr
          rw [List.length_drop,List.length_append] at h3l
          have h3p : 3 ≤ p.length:=by omega
          rw [drop_app1 3 h3p] at hr
          have hr2:=rawF_cut _ _ _ _ hr
          rw [rawF_fuel _ (p.length + 1) (p.drop 3) (by rw [List.length_drop,List.length_append];omega) (by rw [List.length_drop];omega)] at hr2
          rw [pre_app (by simpa using h3p)] at hb
          rw [if_pos hb,hr2,Option.map_some,Option.bind_some]
          rw [ahead_app] at hs
          rw [ahead_nil,if_neg hs,e1]
          refine ⟨rfl,?_⟩
          have hne : p ≠ [34,34]:=by rintro rfl;simp at h3p
          rw [if_neg hne]
          cases u2 <;> rfl
       ·rw [if_neg hb] at hn
        cases hr : lineF ((p ++ q2).length + 1) ((p ++ q2).drop 1) with
        | none => rw [hr] at hn;cases hn
        | some u =>
         rw [hr,Option.bind_some] at hn
         split at hn
         ·cases hn
         ·rename_i hs
          simp only [Option.some.injEq] at hn
          subst hn
          simp only at hs
          rw [drop_app1 1 hl] at hr
          have hr2:=lineF_cut _ _ _ _ hr
          rw [lineF_fuel _ (p.length + 1) (p.drop 1) (by rw [List.length_drop,List.length_append];omega) (by rw [List.length_drop];omega)] at hr2
          have hb2:=pre_not (Bool.eq_false_iff.2 hb)
          rw [if_neg (by rw [hb2];decide),hr2,Option.bind_some]
          rw [ahead_app] at hs
          rw [ahead_nil,if_neg hs]
          refine ⟨rfl,?_⟩
          by_cases he : p = [34,34]
          ·rw [if_pos he]
           subst he
           cases q2 with
           | nil => rfl
           | cons c m =>
            show [34].contains c = false
            rw [Bool.eq_false_iff]
            intro hc
            have hc' : c = 34:=by simpa using hc
            subst hc'
            exact hb rfl
          ·rw [if_neg he]
           cases q2 <;> rfl
     ·rw [if_neg h5] at h;cases h
theorem tok_ext {p r t : Bs} {k : Int} (h : tokS p = .ok k t []) (hf : Fits p r) : tokS (p ++ r) = .ok k t r:=by
 have hlt:=(tokS_facts h).2
 simp only [List.length_nil] at hlt
 have hp : p ≠ []:=by rintro rfl;simp at hlt
 have hl : 1 ≤ p.length:=by omega
 unfold Fits fitX at hf
 unfold tokS at h ⊢
 simp only [head_app hp]
 by_cases h1 : headIn punL p = true
 ·rw [if_pos h1] at h ⊢
  obtain ⟨rfl,ht,hr⟩:=wrt_okX h
  rw [hr,ahead_nil] at ht
  unfold wrt
  rw [drop_app1 1 hl,hr,List.nil_append,ahead_app,ht]
 ·rw [if_neg h1] at h ⊢
  by_cases h2 : List.isPrefixOf [46,46,46] p = true
  ·rw [if_pos h2] at h
   have h3:=prefix_le h2
   rw [pre_app h3,if_pos h2]
   obtain ⟨rfl,ht,hr⟩:=wrt_okX h
   rw [hr,ahead_nil] at ht
   unfold wrt
   rw [drop_app1 3 (by simpa using h3),hr,List.nil_append,ahead_app,ht]
  ·rw [if_neg h2] at h
   have h2' : List.isPrefixOf [46,46,46] (p ++ r) = false:=by
    rw [Bool.eq_false_iff]
    intro hx
    -- a token does not begin with a single dot
    cases p with
    | nil => exact hp rfl
    | cons c p =>
     have hc : c = 46:=by
      obtain ⟨m,hm⟩:=List.isPrefixOf_iff_prefix.1 hx
      simp at hm
      exact hm.1.symm
     subst hc
     have e : ∀ q : Bs,headIn letL (46 :: q) = false ∧ headIn (45 :: digL) (46 :: q) = false ∧ headIn [34] (46 :: q) = false:=fun q => ⟨rfl,rfl,rfl⟩
     obtain ⟨e1,e2,e3⟩:=e p
     rw [e1,e2,e3,if_neg (by decide),if_neg (by decide),if_neg (by decide)] at h
     cases h
   rw [if_neg (by rw [h2'];decide)]
   by_cases h3 : headIn letL p = true
   ·rw [if_pos h3] at h
    rw [if_pos h3] at hf ⊢
    obtain ⟨rfl,ht,hr⟩:=wrt_okX h
    rw [hr,ahead_nil] at ht
    unfold wrt
    rw [drop_app1 1 hl,spanR_app _ _ hf,hr,List.nil_append,ahead_app,ht]
   ·rw [if_neg h3] at h
    rw [if_neg h3] at hf ⊢
    by_cases h4 : headIn (45 :: digL) p = true
    ·rw [if_pos h4] at h
     rw [if_pos h4] at hf ⊢
     cases hn : numS p with
     | none => rw [hn] at h;cases h
     | some q =>
      rw [hn] at h
      obtain ⟨e1,ht,hr⟩:=wrt_okX h
      have hq : q = (k,[]):=by rw [← e1,← hr]
      rw [hq] at hn
      rw [numS_ext hn hf]
      rw [hr,ahead_nil] at ht
      show wrt k (p ++ r) r = _
      unfold wrt
      rw [ahead_app,ht]
    ·rw [if_neg h4] at h
     rw [if_neg h4] at hf ⊢
     by_cases h5 : headIn [34] p = true
     ·rw [if_pos h5] at h ⊢
      cases hn : textS p with
      | none => rw [hn] at h;cases h
      | some q =>
       rw [hn] at h
       obtain ⟨q1,q2⟩:=q
       simp only [TR.ok.injEq] at h
       obtain ⟨rfl,rfl,rfl⟩:=h
       have hgoal : textS (p ++ r) = some (q1,r):=by
        unfold textS textR at hn ⊢
        by_cases hb : List.isPrefixOf [34,34,34] p = true
        ·rw [if_pos hb] at hn
         have h3p:=prefix_le hb
         rw [pre_app h3p,if_pos hb]
         simp only [List.length_cons,List.length_nil] at h3p
         cases hr : rawF (p.length + 1) (p.drop 3) with
         | none => rw [hr] at hn;cases hn
         | some u =>
          rw [hr,Option.map_some,Option.bind_some] at hn
          split at hn
          ·cases hn
          ·rename_i hs
           simp only [Option.some.injEq,Prod.mk.injEq] at hn
           obtain ⟨u1,u2⟩:=u
           simp only at hn hs
           obtain ⟨e1,rfl⟩:=hn
           rw [rawF_fuel _ ((p ++ r).length + 1) (p.drop 3) (by rw [List.length_drop];omega) (by rw [List.length_drop,List.length_append];omega)] at hr
           rw [drop_app1 3 (by omega),rawF_ext _ _ r _ hr,Option.map_some,Option.bind_some]
           rw [ahead_nil] at hs
           rw [ahead_app,if_neg hs,e1]
        ·rw [if_neg hb] at hn
         cases hr : lineF (p.length + 1) (p.drop 1) with
         | none => rw [hr] at hn;cases hn
         | some u =>
          rw [hr,Option.bind_some] at hn
          split at hn
          ·cases hn
          ·rename_i hs
           simp only [Option.some.injEq] at hn
           subst hn
           simp only at hs
           have hl2:=lineF_lt _ _ _ _ hr
           simp only [List.length_nil,List.length_drop] at hl2
           have hb2 : List.isPrefixOf [34,34,34] (p ++ r) = false:=by
            by_cases h3p : 3 ≤ p.length
            ·rw [pre_app (by simpa using h3p)];exact Bool.eq_false_iff.2 hb
            ·obtain ⟨c,d,rfl⟩ : ∃ c d,p = [c,d]:=by
              match p,hl2,h3p with
              | [c,d],_,_ => exact ⟨c,d,rfl⟩
              | [c],h,_ => simp at h
              | [],h,_ => simp at h
              | _ :: _ :: _ :: _,_,h => exact absurd (by simp) h
             rw [Bool.eq_false_iff]
             intro hx
             obtain ⟨m,hm⟩:=List.isPrefixOf_iff_prefix.1 hx
             simp at hm
             obtain ⟨rfl,rfl,hm⟩:=hm
             rw [if_pos rfl,← hm] at hf
             cases hf
           rw [if_neg (by rw [hb2];decide)]
           rw [lineF_fuel _ ((p ++ r).length + 1) (p.drop 1) (by rw [List.length_drop];omega) (by rw [List.length_drop,List.length_append];omega)] at hr
           rw [drop_app1 1 (by omega),lineF_ext _ _ r _ hr,Option.bind_some]
           rw [ahead_nil] at hs
           rw [ahead_app,if_neg hs]
       rw [hgoal]
     ·rw [if_neg h5] at h;cases h
/-- A token's first byte is none that is ignored. -/
theorem tok_head {c : UInt8} {l t r : Bs} {k : Int} (h : tokS (c :: l) = .ok k t r) : skipS (c :: l) = .inl (c :: l):=by
 have hx : ∀ d : UInt8,(ignL.contains d = true ∨ d = 239 ∨ d = 35) → ∀ m,tokS (d :: m) = .bad 50:=by
  intro d hd m
  have : d = 9 ∨ d = 32 ∨ d = 10 ∨ d = 13 ∨ d = 44 ∨ d = 239 ∨ d = 35:=by
   rcases hd with hd | hd | hd
   ·simp [ignL] at hd
    rcases hd with hd | hd | hd | hd | hd <;> simp [hd]
   ·simp [hd]
   ·simp [hd]
  rcases this with rfl | rfl | rfl | rfl | rfl | rfl | rfl <;> rfl
 have h1 : headIn ignL (c :: l) = false:=by
  rw [Bool.eq_false_iff]
  intro e
  rw [hx c (Or.inl e) l] at h
  cases h
 have h2 : List.isPrefixOf [239,187,191] (c :: l) = false:=by
  rw [Bool.eq_false_iff]
  intro e
  obtain ⟨m,hm⟩:=List.isPrefixOf_iff_prefix.1 e
  simp at hm
  rw [hx c (Or.inr (Or.inl hm.1.symm)) l] at h
  cases h
 have h3 : comS (c :: l) = none:=by
  unfold comS
  rw [if_neg]
  intro e
  obtain ⟨m,hm⟩:=List.isPrefixOf_iff_prefix.1 e
  simp at hm
  rw [hx c (Or.inr (Or.inr hm.1.symm)) l] at h
  cases h
 rw [skipS_com h1 h2,h3]
end Go.Proofs.YtgmlbjfgfmfliaaGreatDoor
namespace Go.Proofs.YtgmlbjfgfmfliaaGreatDoor
open Go Go.RowKit
/-! ### A document in pieces -/
/-- What is ignored ahead of a token, the token's bytes, its kind, its text. -/
structure Pc where
 g : Bs
 p : Bs
 k : Int
 t : Bs
def catP : List Pc → Bs → Bs
 | [],tl => tl
 | a :: az,tl => a.g ++ (a.p ++ catP az tl)
def AllOk : List Pc → Bs → Prop
 | [],_ => True
 | a :: az,tl => Gap a.g ∧ tokS a.p = .ok a.k a.t [] ∧ Fits a.p (catP az tl) ∧ AllOk az tl
def toksP (N : Nat) : List Pc → Bs → List Tok
 | [],_ => []
 | a :: az,tl => ⟨a.k,a.t,N - (a.p ++ catP az tl).length,N - (catP az tl).length⟩ :: toksP N az tl
/-- Kinds and texts. -/
def saysP (ps : List Pc) : List (Int × Bs):=ps.map fun a => (a.k,a.t)
def saysT (ts : List Tok) : List (Int × Bs):=ts.map fun x => (x.k,x.t)
theorem toksP_len (N : Nat) : ∀ (ps : List Pc) (tl : Bs),(toksP N ps tl).length = ps.length
 | [],_ => rfl
 | a :: az,tl => by simp [toksP,toksP_len N az tl]
theorem toksP_says (N : Nat) : ∀ (ps : List Pc) (tl : Bs),saysT (toksP N ps tl) = saysP ps
 | [],_ => rfl
 | a :: az,tl => by
  have:=toksP_says N az tl
  unfold saysT saysP at this
  simp [toksP,saysT,saysP,this]
theorem catP_app : ∀ (ps qs : List Pc) (tl : Bs),catP (ps ++ qs) tl = catP ps (catP qs tl)
 | [],_,_ => rfl
 | a :: az,qs,tl => by
  show a.g ++ (a.p ++ catP (az ++ qs) tl) = a.g ++ (a.p ++ catP az (catP qs tl))
  rw [catP_app az qs tl]
theorem catP_end : ∀ (ps : List Pc) (x y : Bs),catP ps x ++ y = catP ps (x ++ y)
 | [],_,_ => rfl
 | a :: az,x,y => by
  show a.g ++ (a.p ++ catP az x) ++ y = a.g ++ (a.p ++ catP az (x ++ y))
  rw [List.append_assoc,List.append_assoc,catP_end az x y]
theorem catP_head : ∀ (ps : List Pc) (tl : Bs),catP ps tl = catP ps [] ++ tl
 | ps,tl => by rw [catP_end,List.nil_append]
theorem tok_ne {p t r : Bs} {k : Int} (h : tokS p = .ok k t r) : p ≠ []:=by
 rintro rfl
 have:=(tokS_facts h).2
 simp at this
theorem headC_cat {tl tl' : Bs} (hc : HeadC tl tl') : ∀ (ps : List Pc),HeadC (catP ps tl) (catP ps tl')
 | [] => hc
 | _ :: az => (HeadC.app0 (HeadC.app0 (headC_cat hc az)))
theorem AllOk.change {tl tl' : Bs} (hc : HeadC tl tl') : ∀ (ps : List Pc),AllOk ps tl → AllOk ps tl'
 | [],_ => trivial
 | _ :: az,⟨h1,h2,h3,h4⟩ => ⟨h1,h2,h3.change (headC_cat hc az),AllOk.change hc az h4⟩
theorem AllOk.split : ∀ (ps qs : List Pc) (tl : Bs),AllOk (ps ++ qs) tl → AllOk ps (catP qs tl) ∧ AllOk qs tl
 | [],_,_,h => ⟨trivial,h⟩
 | a :: az,qs,tl,⟨h1,h2,h3,h4⟩ => by
  obtain ⟨g1,g2⟩:=AllOk.split az qs tl h4
  exact ⟨⟨h1,h2,by rw [← catP_app];exact h3,g1⟩,g2⟩
theorem AllOk.join : ∀ (ps qs : List Pc) (tl : Bs),AllOk ps (catP qs tl) → AllOk qs tl → AllOk (ps ++ qs) tl
 | [],_,_,_,h => h
 | a :: az,qs,tl,⟨h1,h2,h3,h4⟩,h => ⟨h1,h2,by show Fits a.p (catP (az ++ qs) tl);rw [catP_app];exact h3,AllOk.join az qs tl h4 h⟩
theorem skip_tok {g p t r : Bs} {k : Int} (hg : Gap g) (h : tokS p = .ok k t r) (m : Bs) : skipS (g ++ (p ++ m)) = .inl (p ++ m):=by
 rw [hg]
 cases p with
 | nil => exact absurd rfl (tok_ne h)
 | cons c p =>
  have hx:=tok_head h
  -- the first byte alone decides
  have e1 : headIn ignL (c :: p) = false:=by
   rw [Bool.eq_false_iff]
   intro e
   have:=skip_one e p
   rw [hx] at this
   have h2:=(skipS_suf this.symm).length_le
   simp at h2
   omega
  have e2 : c ≠ 239:=by
   rintro rfl
   have : tokS (239 :: p) = .bad 50:=rfl
   rw [this] at h
   cases h
  have e3 : c ≠ 35:=by
   rintro rfl
   have : tokS (35 :: p) = .bad 50:=rfl
   rw [this] at h
   cases h
  have f2 : List.isPrefixOf [239,187,191] (c :: (p ++ m)) = false:=by
   rw [Bool.eq_false_iff]
   intro e
   obtain ⟨q,hq⟩:=List.isPrefixOf_iff_prefix.1 e
   simp at hq
   exact e2 hq.1.symm
  have f3 : comS (c :: (p ++ m)) = none:=by
   unfold comS
   rw [if_neg]
   intro e
   obtain ⟨q,hq⟩:=List.isPrefixOf_iff_prefix.1 e
   simp at hq
   exact e3 hq.1.symm
  show skipS (c :: (p ++ m)) = .inl (c :: (p ++ m))
  rw [skipS_com (l:=c :: (p ++ m)) e1 f2,f3]
theorem lexG_piece {N c : Nat} {a : Pc} {m : Bs} (hg : Gap a.g) (ht : tokS a.p = .ok a.k a.t []) (hf : Fits a.p m) (hc : c < 2048) : lexG N c (a.g ++ (a.p ++ m)) = withL [⟨a.k,a.t,N - (a.p ++ m).length,N - m.length⟩] (lexG N (c + 1) m):=by
 have h1:=skip_tok hg ht m
 have h2:=tok_ext ht hf
 cases hp : a.p ++ m with
 | nil =>
  have:=tok_ne h2
  exact absurd hp this
 | cons x l1 =>
  rw [hp] at h1 h2
  exact lexG_ok h1 (by omega) h2
theorem lexG_cat {N : Nat} : ∀ (ps : List Pc) (tl : Bs) (c : Nat),AllOk ps tl → c + ps.length ≤ 2048 → lexG N c (catP ps tl) = withL (toksP N ps tl) (lexG N (c + ps.length) tl)
 | [],tl,c,_,_ => (withL_nil _).symm
 | a :: az,tl,c,⟨h1,h2,h3,h4⟩,hc => by
  simp only [List.length_cons] at hc
  show lexG N c (a.g ++ (a.p ++ catP az tl)) = _
  rw [lexG_piece h1 h2 h3 (by omega),lexG_cat az tl (c + 1) h4 (by omega),withL_withL]
  rw [List.length_cons,Nat.add_assoc,Nat.add_comm 1]
  rfl
/-- Where it ends. -/
def FinP (c : Nat) (tl : Bs) : Prop:=skipS tl = .inl [] ∨ (∃ k,skipS tl = .inr k) ∨ ∃ x l1,skipS tl = .inl (x :: l1) ∧ (c = 2048 ∨ ∃ e,tokS (x :: l1) = .bad e)
theorem lex_dec : ∀ (n c : Nat) (l : Bs),l.length ≤ n → c ≤ 2048 → ∃ ps tl,l = catP ps tl ∧ AllOk ps tl ∧ c + ps.length ≤ 2048 ∧ FinP (c + ps.length) tl:=by
 intro n
 induction n with
 | zero =>
  intro c l hl hc
  obtain rfl : l = []:=List.length_eq_zero_iff.1 (by omega)
  exact ⟨[],[],rfl,trivial,by simpa using hc,Or.inl skip_nil⟩
 | succ n ih =>
  intro c l hl hc
  have hp:=skip_parts l
  cases hs : skipS l with
  | inr k => exact ⟨[],l,rfl,trivial,by simpa using hc,Or.inr (Or.inl ⟨k,hs⟩)⟩
  | inl q =>
   cases q with
   | nil => exact ⟨[],l,rfl,trivial,by simpa using hc,Or.inl hs⟩
   | cons x l1 =>
    by_cases h8 : c = 2048
    ·exact ⟨[],l,rfl,trivial,by simpa using hc,Or.inr (Or.inr ⟨x,l1,hs,Or.inl (by simpa using h8)⟩)⟩
    ·cases ht : tokS (x :: l1) with
     | bad e => exact ⟨[],l,rfl,trivial,by simpa using hc,Or.inr (Or.inr ⟨x,l1,hs,Or.inr ⟨e,ht⟩⟩)⟩
     | ok k t r =>
      rw [hs] at hp
      obtain ⟨g,hg1,hg2⟩:=hp
      obtain ⟨⟨p,hp1⟩,hp2⟩:=tokS_facts ht
      have ht2:=ht
      rw [← hp1] at ht2
      obtain ⟨h1,h2⟩:=tok_cut ht2
      have hlen : r.length ≤ n:=by
       have:=congrArg List.length hg1
       rw [List.length_append] at this
       omega
      obtain ⟨ps,tl,e1,e2,e3,e4⟩:=ih (c + 1) r hlen (by omega)
      refine ⟨⟨g,p,k,t⟩ :: ps,tl,?_,⟨hg2,h1,by rw [← e1];exact h2,e2⟩,by simp only [List.length_cons];omega,?_⟩
      ·show l = g ++ (p ++ catP ps tl)
       rw [← e1,hp1,hg1]
      ·rw [List.length_cons,← Nat.add_assoc,Nat.add_right_comm]
       exact e4
/-- A document that is right. -/
structure Right (s : Bs) (ps : List Pc) (tl : Bs) : Prop where
 cat : s = catP ps tl
 ok : AllOk ps tl
 few : ps.length ≤ 2048
 fin : skipS tl = .inl []
 short : s.length ≤ 16384
theorem lexS_right {s : Bs} {ps : List Pc} {tl : Bs} (h : Right s ps tl) : lexS s = .inr (toksP s.length ps tl):=by
 unfold lexS
 rw [if_neg (by have:=h.short;omega)]
 show lexG s.length 0 s = _
 have e:=lexG_cat (N:=s.length) ps tl 0 h.ok (by have:=h.few;omega)
 rw [lexG_end h.fin,← h.cat] at e
 rw [e]
 simp [withL]
theorem right_of {s : Bs} {ts : List Tok} (h : lexS s = .inr ts) : ∃ ps tl,Right s ps tl ∧ ts = toksP s.length ps tl:=by
 unfold lexS at h
 by_cases hl : 16384 < s.length
 ·rw [if_pos hl] at h;cases h
 ·rw [if_neg hl] at h
  have h' : lexG s.length 0 s = .inr ts:=h
  obtain ⟨ps,tl,e1,e2,e3,e4⟩:=lex_dec s.length 0 s (Nat.le_refl _) (by omega)
  have e:=lexG_cat (N:=s.length) ps tl 0 e2 e3
  rw [← e1,h'] at e
  rcases e4 with hf | ⟨k,hf⟩ | ⟨x,l1,hf,h8 | ⟨b,hb⟩⟩
  ·rw [lexG_end hf] at e
   simp only [withL,List.append_nil,Sum.inr.injEq] at e
   exact ⟨ps,tl,⟨e1,e2,by omega,hf,by omega⟩,e⟩
  ·rw [lexG_wrong hf] at e;cases e
  ·rw [lexG_many hf h8] at e;cases e
  ·by_cases h8 : 0 + ps.length = 2048
   ·rw [lexG_many hf h8] at e;cases e
   ·rw [lexG_bad hf h8 hb] at e;cases e
theorem bad_codes {l : Bs} {e : Int} (h : tokS l = .bad e) : e = 50 ∨ e = 51 ∨ e = 52:=by
 unfold tokS wrt at h
 repeat' split at h
 all_goals first | (cases h;omega) | (cases h)
/-- A document that is wrong: all ahead of that place is right. -/
theorem wrong_of (cut : ∀ (x : Bs) (k : Nat),srcB (35 :: x) = some k → ∃ j,k = j + 1 ∧ j < x.length ∧ srcB (35 :: x.take j) = none) {s : Bs} {b : Nat} {e : Int} (h : lexS s = .inl (b,e)) : (e = 54 ∧ b = 0) ∨ (e ≠ 54 ∧ e ≠ 0 ∧ b ≤ s.length ∧ ∃ ts,lexS (s.take b) = .inr ts):=by
 unfold lexS at h
 by_cases hl : 16384 < s.length
 ·rw [if_pos hl] at h;cases h;exact Or.inl ⟨rfl,rfl⟩
 ·rw [if_neg hl] at h
  right
  have h' : lexG s.length 0 s = .inl (b,e):=h
  obtain ⟨ps,tl,e1,e2,e3,e4⟩:=lex_dec s.length 0 s (Nat.le_refl _) (by omega)
  have ee:=lexG_cat (N:=s.length) ps tl 0 e2 e3
  rw [← e1,h'] at ee
  have hN : s.length = (catP ps []).length + tl.length:=by
   conv => lhs;rw [e1,catP_head ps tl,List.length_append]
  have hcut : ∀ tl' : Bs,tl' <+: tl → skipS tl' = .inl [] → b = (catP ps []).length + tl'.length → ∃ ts,lexS (s.take b) = .inr ts:=by
   intro tl' hpre hsk hb
   obtain ⟨m,rfl⟩:=hpre
   have hs : s.take b = catP ps tl':=by
    rw [e1,← catP_end,List.take_left' (by rw [hb,← List.length_append,← catP_head])]
   have hc : HeadC (tl' ++ m) tl':=by
    cases tl' with
    | nil => exact HeadC.nil _
    | cons c q => exact fun d k e _ => by cases e;exact ⟨_,rfl⟩
   exact ⟨_,lexS_right ⟨hs,AllOk.change hc ps e2,by omega,hsk,by rw [List.length_take];omega⟩⟩
  have hp:=skip_parts tl
  rcases e4 with hf | ⟨k,hf⟩ | ⟨x,l1,hf,hx⟩
  ·rw [lexG_end hf] at ee;cases ee
  ·rw [lexG_wrong hf] at ee
   simp only [withL,Sum.inl.injEq,Prod.mk.injEq] at ee
   obtain ⟨rfl,rfl⟩:=ee
   refine ⟨by decide,by decide,by omega,?_⟩
   rw [hf] at hp
   obtain ⟨q,c,j,g1,g2,g3,g4⟩:=hp
   obtain ⟨body,r,rfl,b1,b2,b3⟩:=com_parts g3
   cases hs : srcB (35 :: body) with
   | none => rw [hs] at b3;cases b3
   | some k' =>
    rw [hs] at b3
    simp only [Sum.inr.injEq] at b3
    subst b3
    obtain ⟨j',rfl,hj,hj2⟩:=cut _ _ hs
    have hm : comS (35 :: (body.take j' ++ [])) = some (.inl []):=com_make (fun c hc => b1 c (List.mem_of_mem_take hc)) (fun c m e => by cases e) hj2
    rw [List.append_nil] at hm
    refine hcut (q ++ 35 :: body.take j') ?_ ?_ ?_
    ·refine ⟨body.drop j' ++ r,?_⟩
     rw [g1,List.append_assoc,List.cons_append,← List.append_assoc (body.take j'),List.take_append_drop]
    ·rw [g2,skip_com hm,skip_nil]
    ·have:=congrArg List.length g1
     simp only [List.length_append,List.length_cons] at this
     simp only [List.length_append,List.length_cons,List.length_take] at g4 ⊢
     omega
  ·rw [hf] at hp
   obtain ⟨q,g1,g2⟩:=hp
   have hb : b = s.length - (x :: l1).length ∧ e ≠ 54 ∧ e ≠ 0:=by
    by_cases h8 : 0 + ps.length = 2048
    ·rw [lexG_many hf h8] at ee
     simp only [withL,Sum.inl.injEq,Prod.mk.injEq] at ee
     exact ⟨ee.1,by omega,by omega⟩
    ·rcases hx with h8' | ⟨y,hy⟩
     ·exact absurd h8' h8
     ·rw [lexG_bad hf h8 hy] at ee
      simp only [withL,Sum.inl.injEq,Prod.mk.injEq] at ee
      have:=bad_codes hy
      exact ⟨ee.1,by omega,by omega⟩
   refine ⟨hb.2.1,hb.2.2,by omega,hcut q ⟨x :: l1,g1.symm⟩ ?_ ?_⟩
   ·have:=g2 []
    rw [List.append_nil] at this
    rw [this,skip_nil]
   ·have:=congrArg List.length g1
    rw [List.length_append] at this
    omega
end Go.Proofs.YtgmlbjfgfmfliaaGreatDoor
namespace Go.Proofs.YtgmlbjfgfmfliaaGreatDoor
open Go Go.RowKit
/-! ### What the laws say of a document in pieces -/
theorem toksP_app (N : Nat) : ∀ (ps qs : List Pc) (tl : Bs),toksP N (ps ++ qs) tl = toksP N ps (catP qs tl) ++ toksP N qs tl
 | [],_,_ => rfl
 | a :: az,qs,tl => by
  show ({ k:=a.k,t:=a.t,b:=N - (a.p ++ catP (az ++ qs) tl).length,e:=N - (catP (az ++ qs) tl).length } : Tok) :: toksP N (az ++ qs) tl = { k:=a.k,t:=a.t,b:=N - (a.p ++ catP az (catP qs tl)).length,e:=N - (catP az (catP qs tl)).length } :: (toksP N az (catP qs tl) ++ toksP N qs tl)
  rw [toksP_app N az qs tl,catP_app]
/-- How many bytes the first pieces have. -/
def preLx (ps : List Pc) : Nat:=(catP ps []).length
theorem preL_snoc (ps : List Pc) (a : Pc) : preLx (ps ++ [a]) = preLx ps + a.g.length + a.p.length:=by
 unfold preLx
 rw [catP_app,catP_head ps (catP [a] [])]
 simp [catP]
 omega
theorem right_len {s : Bs} {ps : List Pc} {tl : Bs} (h : Right s ps tl) : s.length = preLx ps + tl.length:=by
 unfold preLx
 conv => lhs;rw [h.cat,catP_head,List.length_append]
/-- The token of one piece: where it lies. -/
theorem piece_at {s : Bs} {az bs : List Pc} {a : Pc} {tl : Bs} (h : Right s (az ++ a :: bs) tl) :
  (toksP s.length (az ++ a :: bs) tl)[az.length]? = some ⟨a.k,a.t,preLx az + a.g.length,preLx az + a.g.length + a.p.length⟩ ∧ s.take (preLx az + a.g.length) = catP az a.g ∧ s.drop (preLx az + a.g.length) = a.p ++ catP bs tl ∧ preLx az + a.g.length + a.p.length ≤ s.length ∧ a.p ≠ [] ∧ tokS a.p = .ok a.k a.t []:=by
 have hs : s = (catP az [] ++ a.g) ++ (a.p ++ catP bs tl):=by
  conv => lhs;rw [h.cat,catP_app,catP_head]
  show _ ++ (a.g ++ (a.p ++ catP bs tl)) = _
  rw [List.append_assoc]
 have hlen : s.length = preLx az + a.g.length + (a.p.length + (catP bs tl).length):=by
  rw [hs]
  simp only [List.length_append,preLx]
 have hok:=(AllOk.split az (a :: bs) tl h.ok).2
 have hgl : preLx az + a.g.length = (catP az [] ++ a.g).length:=by
  rw [List.length_append];rfl
 refine ⟨?_,?_,?_,by omega,tok_ne hok.2.1,hok.2.1⟩
 ·rw [toksP_app,List.getElem?_append_right (by rw [toksP_len];exact Nat.le_refl _),toksP_len,Nat.sub_self]
  show some _ = some _
  rw [List.length_append]
  congr 2
  ·omega
  ·omega
 ·rw [hgl,hs,List.take_left' rfl,catP_head az a.g]
 ·rw [hgl,hs,List.drop_left' rfl]
theorem lexS_one {p t : Bs} {k : Int} (h : tokS p = .ok k t []) (hp : p.length ≤ 16384) : lexS p = .inr [⟨k,t,0,p.length⟩]:=by
 have hr : Right p [⟨[],p,k,t⟩] []:=⟨by simp [catP],⟨Gap.nil,h,rfl,trivial⟩,by simp,skip_nil,hp⟩
 rw [lexS_right hr]
 simp [toksP,catP]
/-- All tokens, with a blank behind each. -/
def blk : List Pc → Bs
 | [] => []
 | a :: az => a.p ++ 32 :: blk az
theorem blk_app : ∀ ps qs : List Pc,blk (ps ++ qs) = blk ps ++ blk qs
 | [],_ => rfl
 | a :: az,qs => by
  show a.p ++ 32 :: blk (az ++ qs) = (a.p ++ 32 :: blk az) ++ blk qs
  rw [blk_app az qs]
  simp
theorem fits_blank (p m : Bs) (c : UInt8) (h : brkL.contains c = false) : Fits p (c :: m):=by
 unfold Fits
 show (fitX p).contains c = false
 rw [Bool.eq_false_iff]
 intro e
 rw [fit_brk p c e] at h
 cases h
theorem lexG_blk {N : Nat} {tl : Bs} : ∀ (ps : List Pc) (c : Nat),AllOk ps tl → c + ps.length ≤ 2048 → ∃ ts,lexG N c (blk ps) = .inr ts ∧ saysT ts = saysP ps
 | [],c,_,_ => ⟨[],lexG_end skip_nil,rfl⟩
 | a :: az,c,⟨_,h2,_,h4⟩,hc => by
  simp only [List.length_cons] at hc
  obtain ⟨ts,e1,e2⟩:=lexG_blk (N:=N) az (c + 1) h4 (by omega)
  have e:=lexG_piece (N:=N) (c:=c) (a:=⟨[],a.p,a.k,a.t⟩) (m:=32 :: blk az) Gap.nil h2 (fits_blank _ _ _ rfl) (by omega)
  rw [lexG_skip (skip_one (c:=32) rfl (blk az)),e1] at e
  refine ⟨_,e,?_⟩
  simp [saysT,saysP] at e2 ⊢
  exact e2
theorem lexS_blk {s : Bs} {ps : List Pc} {tl : Bs} (h : Right s ps tl) (hb : (blk ps).length ≤ 16384) : ∃ ts,lexS (blk ps) = .inr ts ∧ saysT ts = saysP ps:=by
 unfold lexS
 rw [if_neg (by omega)]
 exact lexG_blk ps 0 h.ok (by have:=h.few;omega)
/-- Something ignored ahead of a token. -/
theorem ign_mid {s : Bs} {az bs : List Pc} {a : Pc} {tl G : Bs} {c : UInt8} (h : Right s (az ++ a :: bs) tl) (hG : Gap (c :: G)) (hc : brkL.contains c = false) (hl : s.length + (c :: G).length ≤ 16384) :
  ∃ ts,lexS (s.take (preLx az + a.g.length) ++ (c :: G) ++ s.drop (preLx az + a.g.length)) = .inr ts ∧ saysT ts = saysP (az ++ a :: bs):=by
 obtain ⟨_,h1,h2,_⟩:=piece_at h
 obtain ⟨o1,o2,o3,o4,o5⟩:=AllOk.split az (a :: bs) tl h.ok
 have ecat : s.take (preLx az + a.g.length) ++ (c :: G) ++ s.drop (preLx az + a.g.length) = catP (az ++ ⟨a.g ++ (c :: G),a.p,a.k,a.t⟩ :: bs) tl:=by
  rw [h1,h2,catP_app,catP_head az a.g]
  rw [catP_head az (catP _ tl)]
  simp [catP]
 have hr : Right (s.take (preLx az + a.g.length) ++ (c :: G) ++ s.drop (preLx az + a.g.length)) (az ++ ⟨a.g ++ (c :: G),a.p,a.k,a.t⟩ :: bs) tl:=by
  refine ⟨ecat,AllOk.join az _ tl (AllOk.change ?_ az o1) ⟨o2.app hG,o3,o4,o5⟩,?_,h.fin,?_⟩
  ·show HeadC (a.g ++ (a.p ++ catP bs tl)) (a.g ++ (c :: G) ++ (a.p ++ catP bs tl))
   rw [List.append_assoc]
   exact HeadC.app0 (HeadC.not _ _ hc)
  ·have:=h.few
   simpa using this
  ·simp only [List.length_append,List.length_take,List.length_drop]
   omega
 refine ⟨_,lexS_right hr,?_⟩
 rw [toksP_says]
 simp [saysP]
/-- Something ignored behind the last token. -/
theorem ign_end {s : Bs} {ps : List Pc} {tl G : Bs} {c : UInt8} (h : Right s ps tl) (hG : Gap (c :: G)) (hc : brkL.contains c = false) (hl : s.length + (c :: G).length ≤ 16384) :
  ∃ ts,lexS (s.take (preLx ps) ++ (c :: G) ++ s.drop (preLx ps)) = .inr ts ∧ saysT ts = saysP ps:=by
 have hs : s = catP ps [] ++ tl:=by
  conv => lhs;rw [h.cat,catP_head]
 have e1 : s.take (preLx ps) = catP ps []:=by rw [hs];exact List.take_left' rfl
 have e2 : s.drop (preLx ps) = tl:=by rw [hs];exact List.drop_left' rfl
 have ecat : s.take (preLx ps) ++ (c :: G) ++ s.drop (preLx ps) = catP ps ((c :: G) ++ tl):=by
  rw [e1,e2,List.append_assoc,← catP_head]
 have hr : Right (s.take (preLx ps) ++ (c :: G) ++ s.drop (preLx ps)) ps ((c :: G) ++ tl):=by
  refine ⟨ecat,AllOk.change (HeadC.not _ _ hc) ps h.ok,h.few,by rw [hG];exact h.fin,?_⟩
  simp only [List.length_append,List.length_take,List.length_drop]
  omega
 exact ⟨_,lexS_right hr,toksP_says _ _ _⟩
/-- One document behind another one. -/
theorem lexS_two {s t : Bs} {ps : List Pc} {tl : Bs} (h : Right s ps tl) (hl : s.length + t.length + 1 ≤ 16384) : lexS (s ++ 10 :: t) = withL (toksP (s ++ 10 :: t).length ps (tl ++ 10 :: t)) (lexG (s ++ 10 :: t).length ps.length t):=by
 unfold lexS
 rw [if_neg (by simp only [List.length_append,List.length_cons];omega)]
 show lexG (s ++ 10 :: t).length 0 (s ++ 10 :: t) = _
 generalize hN : (s ++ 10 :: t).length = N
 have e : s ++ 10 :: t = catP ps (tl ++ 10 :: t):=by
  conv => lhs;rw [h.cat,catP_end]
 have hc : HeadC tl (tl ++ 10 :: t):=by
  cases tl with
  | nil => exact HeadC.not _ _ rfl
  | cons c q => exact fun d k e _ => by cases e;exact ⟨_,rfl⟩
 rw [e,lexG_cat ps (tl ++ 10 :: t) 0 (AllOk.change hc ps h.ok) (by have:=h.few;omega),Nat.zero_add]
 have hsk : skipS (tl ++ 10 :: t) = skipS t:=by
  have:=skip_parts tl
  rw [h.fin] at this
  exact this t
 rw [lexG_skip hsk]
theorem two_more {s t : Bs} {ps : List Pc} {tl : Bs} {ts : List Tok} (h : Right s ps tl) (ha : lexS (s ++ 10 :: t) = .inr ts) : ps.length ≤ ts.length:=by
 by_cases hl : s.length + t.length + 1 ≤ 16384
 ·rw [lexS_two h hl] at ha
  cases hx : lexG (s ++ 10 :: t).length ps.length t with
  | inl p => rw [hx] at ha;cases ha
  | inr us =>
   rw [hx] at ha
   simp only [withL,Sum.inr.injEq] at ha
   rw [← ha,List.length_append,toksP_len]
   omega
 ·unfold lexS at ha
  rw [if_pos (by simp only [List.length_append,List.length_cons];omega)] at ha
  cases ha
theorem two_right {s t : Bs} {ps qs : List Pc} {tl tm : Bs} (h : Right s ps tl) (h' : Right t qs tm) (hl : s.length + t.length + 1 ≤ 16384) (hm : ps.length + qs.length ≤ 2048) : ∃ ts,lexS (s ++ 10 :: t) = .inr ts ∧ saysT ts = saysP ps ++ saysP qs:=by
 rw [lexS_two h hl]
 generalize (s ++ 10 :: t).length = N
 have e:=lexG_cat (N:=N) qs tm ps.length h'.ok hm
 rw [lexG_end h'.fin,← h'.cat] at e
 rw [e]
 refine ⟨_,rfl,?_⟩
 unfold saysT
 rw [List.append_nil,List.map_append]
 have e1:=toksP_says N ps (tl ++ 10 :: t)
 have e2:=toksP_says N qs tm
 unfold saysT at e1 e2
 rw [e1,e2]
end Go.Proofs.YtgmlbjfgfmfliaaGreatDoor
namespace Go.Proofs.YtgmlbjfgfmfliaaGreatDoor
open Go Go.RowKit
theorem tok_kind {u t r : Bs} {k : Int} (h : tokS u = .ok k t r) (h0 : k ≠ 4) : t = ahead u r:=by
 unfold tokS wrt at h
 split at h
 ·injection h with _ h2 h3;subst h3;exact h2.symm
 ·split at h
  ·injection h with _ h2 h3;subst h3;exact h2.symm
  ·split at h
   ·injection h with _ h2 h3;subst h3;exact h2.symm
   ·split at h
    ·split at h
     ·cases h
     ·injection h with _ h2 h3;subst h3;exact h2.symm
    ·split at h
     ·split at h
      ·cases h
      ·injection h with h1;exact absurd h1.symm h0
     ·cases h
/-- The only token of a text, from its beginning to its end. -/
theorem one_tok {u : Bs} {k : Int} (h : oneK u = k) (hk : k ≠ -1) (h4 : k ≠ 4) : tokS u = .ok k u [] ∧ u ≠ []:=by
 unfold oneK at h
 split at h
 ·rename_i t ht
  split at h
  ·rename_i he
   obtain ⟨ps,tl,hr,e⟩:=right_of ht
   match ps,e,hr with
   | [],e,_ => cases e
   | _ :: _ :: _,e,_ => simp [toksP] at e
   | [a],e,hr =>
    have hc:=hr.cat
    have ho:=hr.ok
    simp only [toksP,catP,List.cons.injEq,and_true] at e
    simp only [catP] at hc
    obtain ⟨_,hq,_,_⟩:=ho
    have hl : u.length = a.g.length + (a.p.length + tl.length):=by rw [hc];simp
    subst e
    simp only [List.length_append] at he
    have hg : a.g = []:=List.length_eq_zero_iff.1 (by omega)
    have htl : tl = []:=List.length_eq_zero_iff.1 (by omega)
    rw [hg,htl] at hc
    simp at hc
    simp only at h
    rw [h] at hq
    have e2:=tok_kind hq h4
    rw [ahead_nil] at e2
    rw [e2] at hq
    rw [hc]
    exact ⟨hq,tok_ne hq⟩
  ·exact absurd h.symm hk
 ·exact absurd h.symm hk
theorem name_tok {u : Bs} (h : nameK u = true) : tokS u = .ok 1 u [] ∧ u ≠ []:=one_tok (by simpa [nameK] using h) (by decide) (by decide)
theorem num_tok {u : Bs} {k : Int} (h : numK u = k) (hk : k = 2 ∨ k = 3) : tokS u = .ok k u [] ∧ u ≠ []:=by
 have h1 : oneK u = k:=by
  unfold numK at h
  split at h
  ·exact h
  ·rcases hk with rfl | rfl <;> cases h
 rcases hk with rfl | rfl
 ·exact one_tok h1 (by decide) (by decide)
 ·exact one_tok h1 (by decide) (by decide)
theorem sign_tok {c : UInt8} (h : punL.contains c = true) : tokS [c] = .ok 0 [c] []:=by
 unfold tokS
 rw [if_pos (by simpa [headIn] using h)]
 rfl
/-- A token's kind and text, by what is written. -/
def kt (u : Bs) : Int × Bs:=match tokS u with
 | .ok k t [] => (k,t)
 | _ => (0,[])
def OkU (u : Bs) : Prop:=tokS u = .ok (kt u).1 (kt u).2 []
theorem okU_of {u t : Bs} {k : Int} (h : tokS u = .ok k t []) : OkU u ∧ kt u = (k,t):=by
 have e : kt u = (k,t):=by unfold kt;rw [h]
 refine ⟨?_,e⟩
 unfold OkU
 rw [e];exact h
theorem okU_name {u : Bs} (h : nameK u = true) : OkU u ∧ kt u = (1,u):=okU_of (name_tok h).1
theorem okU_num {u : Bs} {k : Int} (h : numK u = k) (hk : k = 2 ∨ k = 3) : OkU u ∧ kt u = (k,u):=okU_of (num_tok h hk).1
theorem okU_sign {c : UInt8} (h : punL.contains c = true) : OkU [c] ∧ kt [c] = (0,[c]):=okU_of (sign_tok h)
theorem okU_dots : OkU dotsB ∧ kt dotsB = (0,dotsB):=okU_of (by rfl)
/-! ### The tokens of what is written -/
def pcs : List Bs → List Pc
 | [] => []
 | u :: us => ⟨[32],u,(kt u).1,(kt u).2⟩ :: pcs us
theorem pcs_len : ∀ us,(pcs us).length = us.length
 | [] => rfl
 | u :: us => by simp [pcs,pcs_len us]
theorem pcs_says : ∀ us,saysP (pcs us) = us.map kt
 | [] => rfl
 | u :: us => by
  have:=pcs_says us
  unfold saysP at this
  simp only [pcs,saysP,List.map_cons,this]
theorem pcs_ok : ∀ us : List Bs,(∀ u ∈ us,OkU u) → AllOk (pcs us) []
 | [],_ => trivial
 | u :: us,h => by
  refine ⟨Gap.one rfl,h u (by simp),?_,pcs_ok us (fun v hv => h v (by simp [hv]))⟩
  cases us with
  | nil => exact rfl
  | cons v vs => exact fits_blank _ _ _ rfl
theorem pcs_cat : ∀ us : List Bs,us ≠ [] → catP (pcs us) [] = 32 :: joinW us
 | [],h => absurd rfl h
 | [u],_ => by simp [pcs,catP,joinW]
 | u :: v :: l,_ => by
  have:=pcs_cat (v :: l) (by simp)
  show [32] ++ (u ++ catP (pcs (v :: l)) []) = _
  rw [this]
  rfl
def pcs0 : List Bs → List Pc
 | [] => []
 | u :: us => ⟨[],u,(kt u).1,(kt u).2⟩ :: pcs us
theorem pcs0_len : ∀ us,(pcs0 us).length = us.length
 | [] => rfl
 | u :: us => by simp [pcs0,pcs_len us]
theorem pcs0_says : ∀ us,saysP (pcs0 us) = us.map kt
 | [] => rfl
 | u :: us => by
  have:=pcs_says us
  unfold saysP at this
  simp only [pcs0,saysP,List.map_cons,this]
theorem pcs0_ok : ∀ us : List Bs,(∀ u ∈ us,OkU u) → AllOk (pcs0 us) []
 | [],_ => trivial
 | u :: us,h => by
  refine ⟨Gap.nil,h u (by simp),?_,pcs_ok us (fun v hv => h v (by simp [hv]))⟩
  cases us with
  | nil => exact rfl
  | cons v vs => exact fits_blank _ _ _ rfl
theorem pcs0_cat : ∀ us : List Bs,catP (pcs0 us) [] = joinW us
 | [] => rfl
 | [u] => by simp [pcs0,pcs,catP,joinW]
 | u :: v :: l => by
  have:=pcs_cat (v :: l) (by simp)
  show [] ++ (u ++ catP (pcs (v :: l)) []) = _
  rw [this]
  rfl
theorem lex_join {us : List Bs} (h : ∀ u ∈ us,OkU u) (h1 : us.length ≤ 2048) (h2 : (joinW us).length ≤ 16384) : ∃ ts,lexS (joinW us) = .inr ts ∧ saysT ts = us.map kt:=by
 have hr : Right (joinW us) (pcs0 us) []:=⟨(pcs0_cat us).symm,pcs0_ok us h,by rw [pcs0_len];exact h1,skip_nil,h2⟩
 exact ⟨_,lexS_right hr,by rw [toksP_says,pcs0_says]⟩
theorem lex_many {us : List Bs} (h : ∀ u ∈ us,OkU u) (h1 : 2048 < us.length) : ∃ p,lexS (joinW us) = .inl p:=by
 unfold lexS
 split
 ·exact ⟨_,rfl⟩
 ·show ∃ p,lexG (joinW us).length 0 (joinW us) = .inl p
  have ha:=pcs0_ok us h
  have hs : pcs0 us = (pcs0 us).take 2048 ++ (pcs0 us).drop 2048:=(List.take_append_drop _ _).symm
  rw [hs] at ha
  obtain ⟨a1,a2⟩:=AllOk.split _ _ _ ha
  have hl : ((pcs0 us).take 2048).length = 2048:=by rw [List.length_take,pcs0_len];omega
  have e:=lexG_cat (N:=(joinW us).length) _ _ 0 a1 (by omega)
  rw [← catP_app,← hs,pcs0_cat,hl] at e
  rw [e]
  have hd : 0 < ((pcs0 us).drop 2048).length:=by rw [List.length_drop,pcs0_len];omega
  cases hq : (pcs0 us).drop 2048 with
  | nil => rw [hq] at hd;cases hd
  | cons a az =>
   rw [hq] at a2
   obtain ⟨g1,g2,_,_⟩:=a2
   have sk:=skip_tok g1 g2 (catP az [])
   have ne:=tok_ne g2
   cases hp : a.p with
   | nil => exact absurd hp ne
   | cons x xs =>
    rw [hp] at sk
    have m:=lexG_many (N:=(joinW us).length) (c:=0 + 2048) (l:=catP (a :: az) []) (x:=x) (l1:=xs ++ catP az []) (by
     show skipS (a.g ++ (a.p ++ catP az [])) = _
     rw [hp];exact sk) rfl
    rw [m]
    exact ⟨_,rfl⟩
/-! ### What is written is read -/
/-- The tokens l begin with what says these words, m is behind. -/
def Sy (us : List Bs) (l m : List Tok) : Prop:=∃ p,l = p ++ m ∧ saysT p = us.map kt
theorem Sy.nil {l m : List Tok} (h : Sy [] l m) : l = m:=by
 obtain ⟨p,e,h⟩:=h
 cases p with
 | nil => exact e
 | cons a b => simp [saysT] at h
theorem Sy.one {u : Bs} {us : List Bs} {l m : List Tok} (h : Sy (u :: us) l m) : ∃ t r,l = t :: r ∧ t.k = (kt u).1 ∧ t.t = (kt u).2 ∧ Sy us r m:=by
 obtain ⟨p,e,h⟩:=h
 cases p with
 | nil => simp [saysT] at h
 | cons a b =>
  simp only [saysT,List.map_cons,List.cons.injEq] at h
  have e1 : a.k = (kt u).1:=congrArg Prod.fst h.1
  have e2 : a.t = (kt u).2:=congrArg Prod.snd h.1
  exact ⟨a,b ++ m,e,e1,e2,b,rfl,h.2⟩
theorem Sy.app {us vs : List Bs} {l m : List Tok} (h : Sy (us ++ vs) l m) : ∃ r,Sy us l r ∧ Sy vs r m:=by
 obtain ⟨p,e,h⟩:=h
 rw [List.map_append] at h
 unfold saysT at h
 obtain ⟨a,b,rfl,h1,h2⟩:=List.map_eq_append_iff.1 h
 exact ⟨b ++ m,⟨a,by rw [e];simp,h1⟩,⟨b,rfl,h2⟩⟩
/-- A sign comes. -/
theorem back_sign {u : Bs} (hu : kt u = (0,u)) {us : List Bs} {l m : List Tok} (hs : Sy (u :: us) l m) : ∃ r,mustS u l = .ok ((),r) ∧ l.tail = r ∧ Sy us r m ∧ (∀ s,isP s l = (u == s)) ∧ (∀ s,isW s l = false) ∧ (∀ k,isK k l = (0 == k)):=by
 obtain ⟨t,r,rfl,h1,h2,h3⟩:=hs.one
 rw [hu] at h1 h2
 have h1' : t.k = 0:=h1
 have h2' : t.t = u:=h2
 have e : ∀ s,isP s (t :: r) = (u == s):=fun s => by
  show (t.k == 0 && t.t == s) = _
  rw [h1',h2'];simp
 refine ⟨r,?_,rfl,h3,e,fun s => ?_,fun k => ?_⟩
 ·unfold mustS
  rw [if_pos (by rw [e];simp)];rfl
 ·show (t.k == 1 && t.t == s) = false
  rw [h1'];rfl
 ·show (t.k == k) = _
  rw [h1']
/-- A word comes. -/
theorem back_word {u : Bs} (hu : kt u = (1,u)) {us : List Bs} {l m : List Tok} (hs : Sy (u :: us) l m) : ∃ r,mustW u l = .ok ((),r) ∧ nameS l = .ok (u,r) ∧ l.tail = r ∧ Sy us r m ∧ (∀ s,isW s l = (u == s)) ∧ (∀ s,isP s l = false) ∧ (∀ k,isK k l = (1 == k)):=by
 obtain ⟨t,r,rfl,h1,h2,h3⟩:=hs.one
 rw [hu] at h1 h2
 have h1' : t.k = 1:=h1
 have h2' : t.t = u:=h2
 have e : ∀ s,isW s (t :: r) = (u == s):=fun s => by
  show (t.k == 1 && t.t == s) = _
  rw [h1',h2'];simp
 refine ⟨r,?_,?_,rfl,h3,e,fun s => ?_,fun k => ?_⟩
 ·unfold mustW
  rw [if_pos (by rw [e];simp)];rfl
 ·unfold nameS
  rw [if_pos (by show (t.k == 1) = true;rw [h1'];rfl)]
  show (Except.ok (t.t,r) : Rs Bs) = _
  rw [h2']
 ·show (t.k == 0 && t.t == s) = false
  rw [h1'];rfl
 ·show (t.k == k) = _
  rw [h1']
theorem back_name {n : Bs} {us : List Bs} {l m : List Tok} (h : nameW n = some us) (hs : Sy us l m) : nameS l = .ok (n,m) ∧ (∀ s,isP s l = false) ∧ (∀ s,isW s l = (n == s)) ∧ (∀ k,isK k l = (1 == k)):=by
 unfold nameW at h
 split at h
 ·rename_i hn
  cases h
  obtain ⟨r,_,h2,_,h4,h5,h6,h7⟩:=back_word (okU_name hn).2 hs
  have:=h4.nil
  subst this
  exact ⟨h2,h6,h5,h7⟩
 ·cases h
/-- Some other token comes. -/
theorem back_tok {u t : Bs} {k : Int} (hu : kt u = (k,t)) {us : List Bs} {l m : List Tok} (hs : Sy (u :: us) l m) : Sy us l.tail m ∧ txT l = t ∧ (∀ q,isK q l = (k == q)) ∧ (k ≠ 0 → ∀ s,isP s l = false):=by
 obtain ⟨x,r,rfl,h1,h2,h3⟩:=hs.one
 rw [hu] at h1 h2
 have h1' : x.k = k:=h1
 refine ⟨h3,h2,fun q => ?_,fun h0 s => ?_⟩
 ·show (x.k == q) = _
  rw [h1']
 ·show (x.k == 0 && x.t == s) = false
  rw [h1']
  simp [h0]
end Go.Proofs.YtgmlbjfgfmfliaaGreatDoor
