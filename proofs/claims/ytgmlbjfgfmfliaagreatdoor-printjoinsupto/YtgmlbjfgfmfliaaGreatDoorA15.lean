/- Tokens of whatever bytes. -/
import Derived.Test.YtgmlbjfgfmfliaaGreatDoorA14
import Derived.RangeFuncNested
import Derived.RangeFuncBound
import Derived.RangeFuncCalls
import Derived.RangeFuncLeaves
import Derived.RecoverIn
import Derived.Shelf.RegionOpen
import Derived.WalkKit
import Derived.OwnWalkIn
import Derived.TacticsInMore
import Derived.LoopNIn
import Derived.LoopIn
import Derived.Maps.AppendAt
namespace Go.Proofs.YtgmlbjfgfmfliaaGreatDoor
open Go Go.RowKit Go.Shelf
theorem comS_suf {l m : Bs} (h : comS l = some (.inl m)) : m <:+ l:=by
 unfold comS at h
 by_cases hp : List.isPrefixOf [35] l = true
 ·rw [if_pos hp] at h
  have e : m = spanN endL (l.drop 1):=by
   cases hs : srcB (ahead l (spanN endL (l.drop 1))) with
   | none => rw [hs] at h;injection h with h;injection h with h;exact h.symm
   | some k => rw [hs] at h;simp at h
  rw [e]
  exact (spanN_suf _ _).trans (drop_suf 1 l)
 ·rw [if_neg hp] at h;cases h
theorem skipF_suf : ∀ (n : Nat) (l m : Bs),skipF n l = .inl m → m <:+ l
 | 0,l,m,h => by cases h;exact List.suffix_refl _
 | n + 1,l,m,h => by
  unfold skipF at h
  by_cases h1 : headIn ignL l = true
  ·rw [if_pos h1] at h
   exact (skipF_suf n _ m h).trans (spanR_suf _ _)
  ·rw [if_neg h1] at h
   by_cases h2 : List.isPrefixOf [239,187,191] l = true
   ·rw [if_pos h2] at h
    exact (skipF_suf n _ m h).trans (drop_suf 3 l)
   ·rw [if_neg h2] at h
    cases hc : comS l with
    | none => rw [hc] at h;cases h;exact List.suffix_refl _
    | some x =>
     rw [hc] at h
     cases x with
     | inl r => exact (skipF_suf n r m h).trans (comS_suf hc)
     | inr k => cases h
theorem skipS_suf {l m : Bs} (h : skipS l = .inl m) : m <:+ l:=skipF_suf _ _ _ h
theorem lexF_fuel (N : Nat) : ∀ (n m c : Nat) (l : Bs),l.length < n → l.length < m → lexF N n c l = lexF N m c l
 | 0,_,_,_,h,_ => absurd h (Nat.not_lt_zero _)
 | _ + 1,0,_,_,_,h => absurd h (Nat.not_lt_zero _)
 | n + 1,m + 1,c,l,hn,hm => by
  unfold lexF
  cases hs : skipS l with
  | inr k => rfl
  | inl q =>
   cases q with
   | nil => rfl
   | cons x l1 =>
    have h1:=(skipS_suf hs).length_le
    simp only
    by_cases hc : c = 2048
    ·rw [if_pos hc,if_pos hc]
    ·rw [if_neg hc,if_neg hc]
     cases ht : tokS (x :: l1) with
     | bad e => rfl
     | ok k t r =>
      have h2:=(tokS_facts ht).2
      simp only
      rw [lexF_fuel N n m (c + 1) r (by omega) (by omega)]
/-- The tokens from here on. -/
def lexG (N c : Nat) (l : Bs) : (Nat × Int) ⊕ List Tok:=lexF N (l.length + 1) c l
/-- What was told already ahead of the rest. -/
def withL (pre : List Tok) : (Nat × Int) ⊕ List Tok → (Nat × Int) ⊕ List Tok
 | .inl p => .inl p
 | .inr ts => .inr (pre ++ ts)
theorem withL_nil (r : (Nat × Int) ⊕ List Tok) : withL [] r = r:=by cases r <;> rfl
theorem lexG_wrong {N c k : Nat} {l : Bs} (h : skipS l = .inr k) : lexG N c l = .inl (N - k,50):=by
 unfold lexG lexF;rw [h]
theorem lexG_end {N c : Nat} {l : Bs} (h : skipS l = .inl []) : lexG N c l = .inr []:=by
 unfold lexG lexF;rw [h]
theorem lexG_many {N c : Nat} {x : UInt8} {l l1 : Bs} (h : skipS l = .inl (x :: l1)) (hc : c = 2048) : lexG N c l = .inl (N - (x :: l1).length,53):=by
 unfold lexG lexF;rw [h];simp only;rw [if_pos hc]
theorem lexG_bad {N c : Nat} {x : UInt8} {l l1 : Bs} {e : Int} (h : skipS l = .inl (x :: l1)) (hc : c ≠ 2048) (ht : tokS (x :: l1) = .bad e) : lexG N c l = .inl (N - (x :: l1).length,e):=by
 unfold lexG lexF;rw [h];simp only;rw [if_neg hc,ht]
theorem lexG_ok {N c : Nat} {x : UInt8} {l l1 t r : Bs} {k : Int} (h : skipS l = .inl (x :: l1)) (hc : c ≠ 2048) (ht : tokS (x :: l1) = .ok k t r) : lexG N c l = withL [⟨k,t,N - (x :: l1).length,N - r.length⟩] (lexG N (c + 1) r):=by
 have h1:=(skipS_suf h).length_le
 have h2:=(tokS_facts ht).2
 unfold lexG
 conv => lhs;unfold lexF
 rw [h];simp only;rw [if_neg hc,ht]
 simp only
 rw [lexF_fuel N l.length (r.length + 1) (c + 1) r (by omega) (by omega)]
 cases lexF N (r.length + 1) (c + 1) r <;> rfl
theorem withL_withL (a b : List Tok) (r : (Nat × Int) ⊕ List Tok) : withL a (withL b r) = withL (a ++ b) r:=by
 cases r with
 | inl p => rfl
 | inr ts => simp [withL]
/-- A token as a value. -/
abbrev tkV (t : Tok) : Value:=tokV t.k t.t t.b t.e
/-- What the iterator comes to. -/
def IterP (J : List Tok → World → Prop) (r : (Nat × Int) ⊕ List Tok) (e : Ending) (W' : World) : Prop:=match r with
 | .inr ts => e = .returned (.tuple #[]) ∧ J ts W'
 | .inl p => e = Dies p.1 p.2 ∧ ∃ ts,J ts W'
end Go.Proofs.YtgmlbjfgfmfliaaGreatDoor
namespace Go.Proofs.YtgmlbjfgfmfliaaGreatDoor
open Go Go.RowKit Go.Shelf
set_option maxRecDepth 100000 in
set_option maxHeartbeats 4000000 in
theorem iter_in (n l Bn : Nat) (s : Bs) (hs : s.length ≤ 16384) (J : List Tok → World → Prop) (W : World) (gl : Gl W) (hBn : W.cell? ⟨Bn,0,none⟩ = some (.string ⟨s.toArray⟩))
  (hJ : ∀ pre W1 W2,J pre W1 → Kp (Own1 W.heap.size) W1 W2 → J pre W2)
  (hY : ∀ pre t W1,J pre W1 → Gl W1 → (∃ cs,W1.heap[W.heap.size]? = some (.cells cs 149 (0,0))) → pre.length < 2048 → YieldAt Fence.wide (n - 1) Tryz.prog l #[tkV t] W1 fun e W' => e = .returned (.bool true) ∧ J (pre ++ [t]) W' ∧ W'.heap[W.heap.size]? = W1.heap[W.heap.size]? ∧ Gl W')
  (h0 : J [] W) :
  CallsIn Fence.wide n Tryz.prog 98 #[.func (.yield l) #[] #[],.pointer (some ⟨Bn,0,none⟩)] W (IterP J (lexG s.length 0 s)):=by
 obtain ⟨R,hR⟩ : ∃ R,W.heap.size = R:=⟨_,rfl⟩
 have hr0 : Rd (W.alloc (.cells #[.string ⟨s.toArray⟩,.int .i64 0,.int .i64 0] 149)) R s 0 s:=by
  refine ⟨?_,List.suffix_refl _,hs,gl.alloc _,?_⟩
  ·rw [← hR,heap_alloc_new]
   simp
  ·rw [← hR];exact ⟨gl.ltM,gl.ltE⟩
 have hJ0 : J [] (W.alloc (.cells #[.string ⟨s.toArray⟩,.int .i64 0,.int .i64 0] 149)):=hJ _ _ _ h0 ((Kp.refl _ _).alloc _)
 rw [hR] at hJ
 simp only [hR] at hY
 have hn : Fence.wide.depth.isSome = true → 1 ≤ n:=fun h => by simp [Fence.wide] at h
 refine callsIn_of_wp Tryz.func98 rfl trivial ?_ rfl
 simp only [Tryz.ntmps98,List.size_toArray,List.length_cons,List.length_nil,Nat.reduceAdd,Nat.reduceSub,Array.replicate_succ,Array.replicate_zero,List.push_toArray,List.append_toArray,List.nil_append,List.cons_append]
 gi_wp2
 gi_loopw [4] (fun cnt wr => ∃ (pre : List Tok) (l' : Bs) (b : Nat),cnt = .int .i64 (pre.length : Int) ∧ Rd wr R s b l' ∧ pre.length ≤ 2048 ∧ J pre wr ∧ withL pre (lexG s.length pre.length l') = lexG s.length 0 s) (fun _ wr => s.length - (atOf wr R).toNat)
 case atStart => exact ⟨[],s,0,rfl,hr0,by simp,hJ0,withL_nil _⟩
 case round =>
  obtain ⟨pre,l',b,rfl,hr,hlen,hJp,hx⟩:=hrel
  clear hr0 hJ0 h0
  have N:=next_any l' wr hr
  have HA : Hid (atOf wr R = ((s.length - l'.length : Nat) : Int)):=atOf_eq hr
  have hle:=hr.le
  cases hsk : skipS l' with
  | inr k =>
   rw [hsk] at N
   have HX : Hid (.inl (s.length - k,50) = lexG s.length 0 s):=by
    show _ = _
    rw [← hx,lexG_wrong hsk];rfl
   clear hx hsk
   gi_wp2_with (refine ⟨trivial,hn,?_⟩;gi_at_call 99;refine (callsIn_wide.2 N).mono ?_;rintro e w1 ⟨rfl,hk1⟩)
   refine ⟨rfl,?_⟩
   rw [← HX.out]
   exact ⟨rfl,pre,hJ _ _ _ hJp hk1⟩
  | inl q =>
   rw [hsk] at N
   cases q with
   | nil =>
    have HX : Hid (.inr pre = lexG s.length 0 s):=by
     show _ = _
     rw [← hx,lexG_end hsk];simp [withL]
    clear hx hsk
    gi_wp2_with (refine ⟨trivial,hn,?_⟩;gi_at_call 99;refine (callsIn_wide.2 N).mono ?_;rintro e w1 ⟨⟨rfl,hr1⟩,hk1⟩)
    go_end0
    rw [← HX.out]
    exact ⟨rfl,hJ _ _ _ hJp hk1⟩
   | cons x m =>
    have hml:=(skipS_suf hsk).length_le
    by_cases hc : pre.length = 2048
    ·have HX : Hid (.inl (s.length - (x :: m).length,53) = lexG s.length 0 s):=by
      show _ = _
      rw [← hx,lexG_many hsk hc];rfl
     have F:=fun w (h : Rd w R s (s.length - (x :: m).length) (x :: m)) => fail_any (x :: m) 53 w h
     clear hx hsk hml
     have hcI : ((pre.length : Int) == 2048) = true:=by rw [hc];rfl
     clear hc
     gi_wp2_with (first
      | (refine ⟨trivial,hn,?_⟩;gi_at_call 100;refine (callsIn_wide.2 (F _ hr1)).mono ?_;rintro e w2 ⟨rfl,rfl⟩)
      | (refine ⟨trivial,hn,?_⟩;gi_at_call 99;refine (callsIn_wide.2 N).mono ?_;rintro e w1 ⟨⟨rfl,hr1⟩,hk1⟩)
      | fail)
     refine ⟨rfl,?_⟩
     rw [← HX.out]
     exact ⟨rfl,pre,hJ _ _ _ hJp hk1⟩
    ·have hcI : ((pre.length : Int) == 2048) = false:=by rw [beq_eq_false_iff_ne];omega
     have T:=fun w h => tok_any (R:=R) (s:=s) (x :: m) w h
     cases ht : tokS (x :: m) with
     | bad e =>
      rw [ht] at T
      have HX : Hid (.inl (s.length - (x :: m).length,e) = lexG s.length 0 s):=by
       show _ = _
       rw [← hx,lexG_bad hsk hc ht];rfl
      clear hx hsk hml ht hc
      gi_wp2_with (first
       | (refine ⟨trivial,hn,?_⟩;gi_at_call 101;refine (callsIn_wide.2 (T _ hr1)).mono ?_;rintro e w2 ⟨rfl,hk2⟩)
       | (refine ⟨trivial,hn,?_⟩;gi_at_call 99;refine (callsIn_wide.2 N).mono ?_;rintro e w1 ⟨⟨rfl,hr1⟩,hk1⟩)
       | fail)
      refine ⟨rfl,?_⟩
      rw [← HX.out]
      exact ⟨rfl,pre,hJ _ _ _ hJp (hk1.trans hk2)⟩
     | ok k t r =>
      rw [ht] at T
      have h2:=(tokS_facts ht).2
      have HX : Hid (withL (pre ++ [⟨k,t,s.length - (x :: m).length,s.length - r.length⟩]) (lexG s.length (pre ++ [(⟨k,t,s.length - (x :: m).length,s.length - r.length⟩ : Tok)]).length r) = lexG s.length 0 s):=by
       show _ = _
       rw [← hx,lexG_ok hsk hc ht,withL_withL]
       simp
      have HL : Hid ((pre ++ [(⟨k,t,s.length - (x :: m).length,s.length - r.length⟩ : Tok)]).length = pre.length + 1):=by show _ = _;simp
      have HM : Hid (r.length < l'.length):=by show _ < _;omega
      have HC : Hid (pre.length < 2048):=by show _ < _;omega
      clear hx hsk hml ht hc h2
      obtain ⟨tk,htk⟩ : ∃ tk : Tok,tk = ⟨k,t,s.length - (x :: m).length,s.length - r.length⟩:=⟨_,rfl⟩
      rw [← htk] at HX HL
      have T' : ∀ w,Rd w R s (s.length - (x :: m).length) (x :: m) → Calls Tryz.prog 101 #[.pointer (some ⟨R,0,none⟩)] w fun e w' => (e = .returned (tkV tk) ∧ Rd w' R s (s.length - (x :: m).length) r) ∧ Kp (Own1 R) w w':=by
       rw [htk]
       exact T
      clear htk T
      gi_wp2_with (first
       | (refine ⟨trivial,hn,?_⟩;gi_at_call 101;refine (callsIn_wide.2 (T' _ hr1)).mono ?_;rintro e w2 ⟨⟨rfl,hr2⟩,hk2⟩;obtain ⟨fn,tmps,assign,body,hy,hRd⟩:=hY pre tk w2 (hJ _ _ _ hJp (hk1.trans hk2)) hr2.gl ⟨_,hr2.row⟩ HC.out)
       | (refine ⟨trivial,hn,?_⟩;gi_at_call 99;refine (callsIn_wide.2 N).mono ?_;rintro e w1 ⟨⟨rfl,hr1⟩,hk1⟩)
       | fail)
      refine ⟨hn,?_⟩
      refine hRd.mono ?_
      rintro e W3 ⟨rfl,hJ3,hb3,hg3⟩
      have hr3 : Rd W3 R s (s.length - (x :: m).length) r:=⟨hb3.trans hr2.row,hr2.suf,hr2.small,hg3,hr2.hi⟩
      gi_wp2
      refine ⟨⟨pre ++ [tk],r,_,?_,hr3,by rw [HL.out];exact HC.out,hJ3,HX.out⟩,?_⟩
      ·rw [HL.out];rfl
      ·rw [atOf_eq hr3,HA.out]
       have:=HM.out
       simp only [Int.toNat_natCast]
       omega
end Go.Proofs.YtgmlbjfgfmfliaaGreatDoor
namespace Go.Proofs.YtgmlbjfgfmfliaaGreatDoor
open Go Go.RowKit Go.Shelf
set_option maxRecDepth 100000 in
theorem told_any (b : Nat) (x : Int) (w : World) : Calls Tryz.prog 62 #[.iface 114 (.agg #[.int .i64 (b : Int),.int .i64 x])] w fun e w' => e = .returned (.tuple #[.slice none 0 0,.int .i64 (b : Int),.int .i64 x]) ∧ Below w.heap.size w w':=by
 have hta : ∀ w : World,(Instr.typeAssert (.iface 114 (.agg #[.int .i64 (b : Int),.int .i64 x])) 20 114 false).run Tryz.prog w = .ok (.agg #[.int .i64 (b : Int),.int .i64 x]) w:=fun _ => by kernel_rfl
 go_enter Tryz.func62,Tryz.ntmps62
 go_wp2
 go_quiet (fail)
 go_wp2
 go_ret3
 exact ⟨rfl,⟨rfl,rfl,rfl,by simp,fun k hk => Below.heap_alloc w _ k hk⟩⟩
/-- The three results' variables. -/
structure Res3 (W : World) (B : Nat) (v : Value) (y z : Int) : Prop where
 bl : Boxed W B 72 v
 ba : Boxed W (B + 1) 3 (.int .i64 y)
 be : Boxed W (B + 2) 26 (.int .i64 z)
theorem Res3.below {W W' : World} {B C : Nat} {v : Value} {y z : Int} (h : Res3 W B v y z) (hb : Below C W W') (hC : B + 2 < C) : Res3 W' B v y z :=
 ⟨(hb.block B (by omega)).trans h.bl,(hb.block (B + 1) (by omega)).trans h.ba,(hb.block (B + 2) hC).trans h.be⟩
theorem boxed_other {W : World} {B C : Nat} {t : TypeId} {v : Value} (h : Boxed W B t v) (hne : B ≠ C) (i : Nat) (u : Value) : Boxed (W.setCell ⟨C,i,none⟩ u) B t v:=(Below.heap_setCell W ⟨C,i,none⟩ u B hne).trans h
set_option maxHeartbeats 1000000 in
theorem catch_dies (n B b : Nat) (x : Int) (v : Value) (y z : Int) (older : List PanicEntry) (W : World) (h : Res3 W B v y z) (hv : ∃ a m c,v = .slice a m c) :
  CallsDIn Fence.wide n Tryz.prog 61 #[.pointer (some ⟨B,0,none⟩),.pointer (some ⟨B + 1,0,none⟩),.pointer (some ⟨B + 2,0,none⟩)] (.panicking ({ v:=.iface 114 (.agg #[.int .i64 (b : Int),.int .i64 x]),recovered:=false } :: older)) W fun e u' w' =>
   e = .returned (.tuple #[]) ∧ u' = .panicking ({ v:=.iface 114 (.agg #[.int .i64 (b : Int),.int .i64 x]),recovered:=true } :: older) ∧ Res3 w' B (.slice none 0 0) b x ∧ Below B W w':=by
 obtain ⟨a,m,c,rfl⟩:=hv
 have hn : Fence.wide.depth.isSome = true → 1 ≤ n:=fun h => by simp [Fence.wide] at h
 have hlt:=h.be.lt
 refine callsDIn_of_wpSIn Tryz.func61 rfl trivial fun c₀ cs hu => ?_
 apply wpSIn_seq
 apply wpSIn_region
 simp [wpOpsSIn,go_sem,recoverD,hu,Tryz.ntmps61,Exit.thenS,Oper.about]
 refine wpSIn_of_wpIn rfl ?_
 gi_wp2_with (refine ⟨trivial,hn,?_⟩;gi_at_call 62;refine (callsIn_wide.2 (told_any b x _)).mono ?_;rintro e w1 ⟨rfl,hb1⟩;have r1:=h.below hb1 hlt;have d0:=r1.bl.cell;have d1:=r1.ba.cell;have d2:=r1.be.cell;have f0:=r1.bl.frozen;have f1:=r1.ba.frozen;have f2:=r1.be.frozen)
 refine ⟨rfl,_,rfl,.tuple #[],results_none rfl _ _ _,rfl,rfl,⟨?_,?_,?_⟩,?_⟩
 ·exact boxed_other (boxed_other (r1.bl.set _) (by omega) _ _) (by omega) _ _
 ·exact boxed_other ((boxed_other r1.ba (by omega) _ _).set _) (by omega) _ _
 ·exact (boxed_other (boxed_other r1.be (by omega) _ _) (by omega) _ _).set _
 ·have hbB : Below B W w1:=hb1.mono (by omega)
  exact ((hbB.setCell (p:=⟨B,0,none⟩) (Nat.le_refl _) _).setCell (p:=⟨B + 1,0,none⟩) (Nat.le_succ _) _).setCell (p:=⟨B + 2,0,none⟩) (by show B ≤ B + 2;omega) _
theorem catch_idle (n B : Nat) (W : World) :
  CallsDIn Fence.wide n Tryz.prog 61 #[.pointer (some ⟨B,0,none⟩),.pointer (some ⟨B + 1,0,none⟩),.pointer (some ⟨B + 2,0,none⟩)] .returning W fun e u' w' => e = .returned (.tuple #[]) ∧ u' = .returning ∧ w' = W:=by
 refine callsDIn_of_wpSIn Tryz.func61 rfl trivial fun c₀ cs hu => ?_
 apply wpSIn_seq
 apply wpSIn_region
 simp [wpOpsSIn,go_sem,recoverD,hu,Tryz.ntmps61,Exit.thenS,Oper.about]
 refine wpSIn_of_wpIn rfl ?_
 gi_wp2
 refine ⟨rfl,.returning,?_,.tuple #[],results_none rfl _ _ _,rfl,rfl,rfl⟩
 cases c₀
 simp_all
end Go.Proofs.YtgmlbjfgfmfliaaGreatDoor
namespace Go.Proofs.YtgmlbjfgfmfliaaGreatDoor
open Go Go.RowKit Go.Shelf
/-- The cells of tokens. -/
def cellsT (ts : List Tok) : List Value:=ts.flatMap fun t => [.int .i64 t.k,.string ⟨t.t.toArray⟩,.int .i64 (t.b : Int),.int .i64 (t.e : Int)]
theorem cellsT_snoc (ts : List Tok) (t : Tok) : cellsT (ts ++ [t]) = cellsT ts ++ [.int .i64 t.k,.string ⟨t.t.toArray⟩,.int .i64 (t.b : Int),.int .i64 (t.e : Int)]:=by simp [cellsT]
/-- A slice that holds these tokens, of the call's own. -/
abbrev Toks (W : World) (B : Nat) (v : Value) (ts : List Tok) : Prop:=W.ownsRow B 78 4 v ts.length (cellsT ts)
/-- What lies there between two rounds: the results' variables, the rows, the loop's record. -/
structure Mid (w : World) (L D : Obj) (pre : List Tok) (W : World) : Prop where
 row : ∃ v,Res3 W w.heap.size v 0 0 ∧ Toks W w.heap.size v pre ∧ v.ownBlock ≠ some (w.heap.size + 6)
 lp : W.heap[w.heap.size + 5]? = some L
 dfr : W.heap[w.heap.size + 4]? = some D
 bel : Below w.heap.size w W
 siz : w.heap.size + 6 ≤ W.heap.size
theorem toks_keep {W W' : World} {B : Nat} {v : Value} {ts : List Tok} (h : Toks W B v ts) (hk : ∀ g,v.ownBlock = some g → W'.heap[g]? = W.heap[g]?) : Toks W' B v ts:=by
 refine ⟨h.1,?_⟩
 rcases h.2 with h2 | ⟨g,cap,cur,hv,hg,hh,r⟩
 ·exact Or.inl h2
 ·refine Or.inr ⟨g,cap,cur,hv,hg,(hk g (by rw [hv];rfl)).trans hh,r⟩
theorem toks_block {W : World} {B : Nat} {v : Value} {ts : List Tok} (h : Toks W B v ts) {g : Nat} (hg : v.ownBlock = some g) : g < W.heap.size ∧ B ≤ g ∧ ∃ cur,W.heap[g]? = some (.cells cur 78 (0,0)):=by
 rcases h.2 with ⟨rfl,_⟩ | ⟨g',cap,cur,hv,hg',hh,_⟩
 ·cases hg
 ·rw [hv] at hg
  have e : g' = g:=by simpa [Value.ownBlock] using hg
  subst e
  exact ⟨lt_of_block hh,hg',cur,hh⟩
theorem Mid.kp {w W1 W2 : World} {L D : Obj} {pre : List Tok} (h : Mid w L D pre W1) (hk : Kp (Own1 (w.heap.size + 6)) W1 W2) : Mid w L D pre W2:=by
 obtain ⟨v,hr,ht,hne⟩:=h.row
 have hs:=h.siz
 have hb : ∀ k,k < W1.heap.size → k ≠ w.heap.size + 6 → W2.heap[k]? = W1.heap[k]?:=fun k hk1 hk2 => hk.block k hk1 (fun e => hk2 e)
 refine ⟨⟨v,⟨(hb _ (by omega) (by omega)).trans hr.bl,(hb _ (by omega) (by omega)).trans hr.ba,(hb _ (by omega) (by omega)).trans hr.be⟩,toks_keep ht (fun g hg => hb g (toks_block ht hg).1 (fun e => hne (by rw [hg,e]))),hne⟩,(hb _ (by omega) (by omega)).trans h.lp,(hb _ (by omega) (by omega)).trans h.dfr,?_,Nat.le_trans hs hk.size⟩
 exact h.bel.trans (hk.below (by omega) (fun k hk e => by have e' : k = w.heap.size + 6:=e;omega))
theorem Gl.belowG {w W : World} (h : Gl w) (hb : Below w.heap.size w W) : Gl W:=h.below hb (Nat.le_refl _)
theorem Tryz.infoTok : (Tryz.prog.info? 78).map (fun i => (i.zero,i.size,i.bytes)) = some (some (.agg #[.int .i64 0,.string ⟨#[]⟩,.int .i64 0,.int .i64 0]),4,40):=by kernel_rfl
theorem tokensOf_any (s : Bs) (w : World) : Calls Tryz.prog 63 #[.string ⟨s.toArray⟩] w fun e w' => e = .returned (.func (.func 98) #[] #[.pointer (some ⟨w.heap.size,0,none⟩)]) ∧ w' = w.alloc (.cells #[.string ⟨s.toArray⟩] 9):=by
 have hmf : ∀ (fn : Fn) (first cap : Array Value) (w : World),(Instr.makeFunc fn first cap).run Tryz.prog w = .ok (.func fn first cap) w:=fun _ _ _ _ => rfl
 go_enter Tryz.func63,Tryz.ntmps63
 go_wp2
 go_ret
 exact ⟨rfl,rfl⟩
end Go.Proofs.YtgmlbjfgfmfliaaGreatDoor
namespace Go.Proofs.YtgmlbjfgfmfliaaGreatDoor
open Go Go.RowKit Go.Shelf
/-- The loop's record. -/
def recL (fn : FuncId) (tmps : Array Value) (assign body : Code) (B : Nat) (st : LoopState) (pe : Option Code) : Loop:={ state:=st,pending:=pe,fn,tmps:=tmps,params:=#[14],assign:=assign,body:=body,defers:=B }
/-- The block for the rounds' deferred calls. -/
abbrev noDef : Obj:=.deferred (some [])
/-- What a round owes. -/
def RoundQ (w : World) (L : Obj) (pre : List Tok) (t : Tok) (W1 : World) (e : Ending) (W' : World) : Prop :=
 e = .returned (.bool true) ∧ Mid w L noDef (pre ++ [t]) W' ∧ W'.heap[w.heap.size + 6]? = W1.heap[w.heap.size + 6]? ∧ Gl W'
set_option maxHeartbeats 1000000 in
theorem range_tok {assign body : Code} {Q : Exit → Act → World → Prop} {tmps : Array Value} {ds : List Deferred} {W0 : World} (w : World) (gl : Gl w) (s : Bs) (hs : s.length ≤ 16384)
  (hz : W0.heap.size = w.heap.size + 4) (hb0 : Below w.heap.size w W0) (hr0 : Res3 W0 w.heap.size (.slice none 0 0) 0 0) (hs0 : Boxed W0 (w.heap.size + 3) 9 (.string ⟨s.toArray⟩))
  (htm : (Act.mk tmps ds).eval (.tmp 13) = .func (.func 98) #[] #[.pointer (some ⟨w.heap.size + 3,0,none⟩)])
  (hround : ∀ (fn : FuncId) (rc : Loop) (pre : List Tok) (t : Tok) (W1 : World),rc.state = .ready → rc.pending = none → Mid w (.loop rc) noDef pre W1 → Gl W1 → (∃ cs,W1.heap[w.heap.size + 6]? = some (.cells cs 149 (0,0))) → pre.length < 2048 →
   RoundIn Fence.wide 1 Tryz.prog (w.heap.size + 5) fn ((#[14].zip #[tkV t]).foldl (fun (ts : Array Value) (p : Tmp × Value) => ts.setIfInBounds p.1 p.2) tmps) assign body W1 (RoundQ w (.loop rc) pre t W1))
  (hdone : ∀ (ts : List Tok) (W : World) (L : Obj),lexG s.length 0 s = .inr ts → Mid w L noDef ts W → Q .normal { tmps:=tmps,defers:={ target:=.collected (w.heap.size + 4),args:=#[] } :: ds } W)
  (hpan : ∀ (p : Nat × Int) (ts : List Tok) (W : World) (L : Obj),lexG s.length 0 s = .inl p → Mid w L noDef ts W → Q (.panic [{ v:=.iface 114 (.agg #[.int .i64 (p.1 : Int),.int .i64 p.2]),recovered:=false }]) { tmps:=tmps,defers:={ target:=.collected (w.heap.size + 4),args:=#[] } :: ds } W) :
  (Code.rangeFunc (.tmp 13) #[14] assign body).wpIn Fence.wide 3 Tryz.prog Q { tmps:=tmps,defers:=ds } W0:=by
 refine wpIn_rangeFunc ?_
 intro fn hfn
 obtain ⟨L,hL⟩ : ∃ L : Obj,L = .loop (recL fn tmps assign body (w.heap.size + 4) .ready none):=⟨_,rfl⟩
 obtain ⟨W1,hW1⟩ : ∃ W1,(W0.alloc noDef).alloc L = W1:=⟨_,rfl⟩
 have hL1 : W1.heap[w.heap.size + 5]? = some L:=by
  rw [← hW1];have:=World.alloc_heap_new (W0.alloc noDef) L;rw [World.size_alloc,hz] at this;exact this
 have hK1 : W1.heap[w.heap.size + 4]? = some noDef:=by
  rw [← hW1,← hz];exact (Below.heap_alloc _ _ _ (by simp)).trans (World.alloc_heap_new W0 _)
 have hB01 : Below W0.heap.size W0 W1:=by
  rw [← hW1];exact ((Below.refl _ W0).alloc (Nat.le_refl _) _).alloc (by simp) _
 have hz1 : W1.heap.size = w.heap.size + 6:=by rw [← hW1];simp;omega
 have hM1 : Mid w L noDef [] W1:=⟨⟨.slice none 0 0,hr0.below hB01 (by omega),World.ownsRow_nil _ _ _ _,by simp [Value.ownBlock]⟩,hL1,hK1,hb0.trans (hB01.mono (by omega)),by omega⟩
 have hs1 : W1.cell? ⟨w.heap.size + 3,0,none⟩ = some (.string ⟨s.toArray⟩):=Boxed.cell ((hB01.block (w.heap.size + 3) (by omega)).trans hs0)
 have hdep : ∀ n m : Nat,Fence.wide.depth.isSome = true → m ≤ n:=fun n m h => by simp [Fence.wide] at h
 refine ⟨w.heap.size + 5,[{ target:=.collected (w.heap.size + 4),args:=#[] }],W1,{ target:=.fn (.func 98) #[.pointer (some ⟨w.heap.size + 3,0,none⟩)],args:=#[.func (.yield (w.heap.size + 5)) #[] #[]] },W1,98,
  #[.func (.yield (w.heap.size + 5)) #[] #[],.pointer (some ⟨w.heap.size + 3,0,none⟩)],W1,?_,?_,?_,?_,hdep _ _,?_⟩
 ·have:=run_enterLoop_outer (P:=Tryz.prog) (w:=W0) fn tmps #[14] assign body
  rw [hz] at this
  rw [← hW1,hL]
  exact this
 ·simp only [resolve,htm]
  simp [go_sem]
 ·intro f' hf';trivial
 ·simp [invoke,go_sem]
 ·have hgl1 : Gl W1:=gl.below (hb0.trans (hB01.mono (by omega))) (Nat.le_refl _)
  refine (iter_in 2 (w.heap.size + 5) (w.heap.size + 3) s hs (Mid w L noDef) W1 hgl1 hs1 (fun pre Wa Wb h hk => h.kp (by rw [hz1] at hk;exact hk)) ?_ hM1).mono ?_
  ·intro pre t Wa hM hg hlt hlen
   simp only [hz1] at hlt ⊢
   have hy:=run_yield (P:=Tryz.prog) (args:=#[tkV t]) (hM.lp.trans (by rw [hL])) (by rfl)
   exact ⟨fn,_,assign,body,hy,(hround fn (recL fn tmps assign body (w.heap.size + 4) .ready none) pre t Wa rfl rfl (by rw [← hL];exact hM) hg hlt hlen).mono fun e W' h => by
    rw [← hL] at h
    exact h⟩
  ·intro e W' h
   cases hx : lexG s.length 0 s with
   | inr ts =>
    rw [hx] at h
    obtain ⟨rfl,hM⟩:=h
    have hlp:=hM.lp
    rw [hL] at hlp
    refine ⟨none,_,run_endLoop (P:=Tryz.prog) hlp (by simp [recL]),?_⟩
    refine hdone ts _ (.loop { (recL fn tmps assign body (w.heap.size + 4) .ready none) with state:=.exhausted }) hx ?_
    have hs':=hM.siz
    have hput : ∀ k,k ≠ w.heap.size + 5 → (W'.putObj (w.heap.size + 5) (.loop { (recL fn tmps assign body (w.heap.size + 4) .ready none) with state:=.exhausted })).heap[k]? = W'.heap[k]?:=fun k hk => World.putObj_heap_other (by omega)
    obtain ⟨v,h1,h2,h3⟩:=hM.row
    refine ⟨⟨v,⟨(hput _ (by omega)).trans h1.bl,(hput _ (by omega)).trans h1.ba,(hput _ (by omega)).trans h1.be⟩,toks_keep h2 (fun g hg => hput g (fun e => ?_)),h3⟩,World.putObj_heap_same (Array.getElem?_eq_some_iff.1 hlp).1,(hput _ (by omega)).trans hM.dfr,?_,?_⟩
    ·obtain ⟨_,_,cur,hc⟩:=toks_block h2 hg
     rw [e,hlp] at hc
     cases hc
    ·exact hM.bel.trans (belowK_b (w:=w) (Nat.le_refl _) W' _ _ _ (by omega) hlp rfl rfl)
    ·rw [World.putObj_size];exact hs'
   | inl p =>
    rw [hx] at h
    obtain ⟨rfl,ts,hM⟩:=h
    exact hpan p ts W' L hx hM
end Go.Proofs.YtgmlbjfgfmfliaaGreatDoor
namespace Go.Proofs.YtgmlbjfgfmfliaaGreatDoor
open Go Go.RowKit Go.Shelf
/-- What Tokens comes to. -/
def TokensP (w : World) (r : (Nat × Int) ⊕ List Tok) (e : Ending) (w' : World) : Prop:=(match r with
 | .inl p => e = .returned (.tuple #[.slice none 0 0,.int .i64 (p.1 : Int),.int .i64 p.2])
 | .inr ts => ∃ v,e = .returned (.tuple #[v,.int .i64 0,.int .i64 0]) ∧ Toks w' w.heap.size v ts) ∧ Below w.heap.size w w'
/-- 'l = append(l, t)', behind the append law's words: all that the round owes. -/
theorem round_end {w W3 w1 : World} {v v' : Value} {pre : List Tok} {t : Tok} {tmp : Obj} (hr : Res3 W3 w.heap.size v 0 0) (ht : Toks W3 w.heap.size v pre) (hne : v.ownBlock ≠ some (w.heap.size + 6)) (hb : w.heap.size + 6 ≤ W3.heap.size) (hB : Below w.heap.size w W3)
  (hR : ∃ cs,W3.heap[w.heap.size + 6]? = some (.cells cs 149 (0,0))) (hown' : w1.ownsRow w.heap.size 78 4 v' (pre.length + 1) (cellsT pre ++ [.int .i64 t.k,.string ⟨t.t.toArray⟩,.int .i64 (t.b : Int),.int .i64 (t.e : Int)])) (hgrow : (W3.alloc tmp).grownBy w1 v.ownBlock) :
  Boxed w1 w.heap.size 72 v ∧ Res3 (w1.setCell ⟨w.heap.size,0,none⟩ v') w.heap.size v' 0 0 ∧ Toks (w1.setCell ⟨w.heap.size,0,none⟩ v') w.heap.size v' (pre ++ [t]) ∧ v'.ownBlock ≠ some (w.heap.size + 6) ∧ (∀ k,k < W3.heap.size → k ≠ w.heap.size → v.ownBlock ≠ some k → (w1.setCell ⟨w.heap.size,0,none⟩ v').heap[k]? = W3.heap[k]?) ∧ Below w.heap.size w (w1.setCell ⟨w.heap.size,0,none⟩ v') ∧ W3.heap.size ≤ (w1.setCell ⟨w.heap.size,0,none⟩ v').heap.size:=by
 obtain ⟨h1,h2,h3,h4,h5⟩:=hr.bl.appended (by decide) ht hB.size (Nat.le_refl _) hown' hgrow
 have hother : ∀ k,k < W3.heap.size → k ≠ w.heap.size → v.ownBlock ≠ some k → (w1.setCell ⟨w.heap.size,0,none⟩ v').heap[k]? = W3.heap[k]?:=fun k hk hk2 hk3 =>
  ((Below.heap_setCell w1 ⟨w.heap.size,0,none⟩ v' k hk2).trans (hgrow.block k (by simp;omega) (fun e => hk3 e.symm))).trans (Below.heap_alloc W3 tmp k hk)
 have na : v.ownBlock ≠ some (w.heap.size + 1):=fun e => by
  obtain ⟨_,_,cur,hc⟩:=toks_block ht e
  rw [show W3.heap[w.heap.size + 1]? = _ from hr.ba] at hc
  cases hc
 have nb : v.ownBlock ≠ some (w.heap.size + 2):=fun e => by
  obtain ⟨_,_,cur,hc⟩:=toks_block ht e
  rw [show W3.heap[w.heap.size + 2]? = _ from hr.be] at hc
  cases hc
 have ht' : Toks (w1.setCell ⟨w.heap.size,0,none⟩ v') w.heap.size v' (pre ++ [t]):=by
  show World.ownsRow _ _ _ _ _ (pre ++ [t]).length (cellsT (pre ++ [t]))
  rw [cellsT_snoc,List.length_append]
  exact h3
 refine ⟨h1,⟨h2,(hother _ (by omega) (by omega) na).trans hr.ba,(hother _ (by omega) (by omega) nb).trans hr.be⟩,ht',?_,hother,hB.trans h5,h4.size⟩
 intro e
 obtain ⟨_,_,cur,hc⟩:=toks_block ht' e
 obtain ⟨cs,hcs⟩:=hR
 rw [hother _ (lt_of_block hcs) (by omega) hne,hcs] at hc
 cases hc
theorem toks_slice {W : World} {B : Nat} {v : Value} {ts : List Tok} (h : Toks W B v ts) : ∃ a m c,v = .slice a m c:=by
 rcases h.2 with ⟨rfl,_⟩ | ⟨g,cap,cur,hv,_⟩
 ·exact ⟨_,_,_,rfl⟩
 ·exact ⟨_,_,_,hv⟩
theorem mid_put {w W5 : World} {v' : Value} {ts : List Tok} {l0 l1 : Loop} (h1 : Res3 W5 w.heap.size v' 0 0) (h2 : Toks W5 w.heap.size v' ts) (h3 : v'.ownBlock ≠ some (w.heap.size + 6)) (hlp : W5.heap[w.heap.size + 5]? = some (.loop l0)) (hd : W5.heap[w.heap.size + 4]? = some noDef) (hb : Below w.heap.size w W5) (hs : w.heap.size + 6 ≤ W5.heap.size) :
  Mid w (.loop l1) noDef ts (W5.putObj (w.heap.size + 5) (.loop l1)):=by
 have hput : ∀ k,k ≠ w.heap.size + 5 → (W5.putObj (w.heap.size + 5) (.loop l1)).heap[k]? = W5.heap[k]?:=fun k hk => World.putObj_heap_other (by omega)
 refine ⟨⟨v',⟨(hput _ (by omega)).trans h1.bl,(hput _ (by omega)).trans h1.ba,(hput _ (by omega)).trans h1.be⟩,toks_keep h2 (fun g hg => hput g (fun e => ?_)),h3⟩,World.putObj_heap_same (Array.getElem?_eq_some_iff.1 hlp).1,(hput _ (by omega)).trans hd,?_,?_⟩
 ·obtain ⟨_,_,cur,hc⟩:=toks_block h2 hg
  rw [e,hlp] at hc
  cases hc
 ·exact hb.trans (belowK_b (w:=w) (Nat.le_refl _) W5 _ _ _ (by omega) hlp rfl rfl)
 ·rw [World.putObj_size];exact hs
theorem res3_run {B : Nat} {W : World} {tmps : Array Value} {a : Option Addr} {m c : Nat} {y z : Int} (h : Res3 W B (.slice a m c) y z) (h2 : tmps[2]? = some (.pointer (some ⟨B,0,none⟩))) (h3 : tmps[3]? = some (.pointer (some ⟨B + 1,0,none⟩))) (h4 : tmps[4]? = some (.pointer (some ⟨B + 2,0,none⟩))) :
  (results Tryz.f34 tmps).run Tryz.prog W = .ok (.tuple #[.slice a m c,.int .i64 y,.int .i64 z]) W:=by
 have c0:=h.bl.cell
 have c1:=h.ba.cell
 have c2:=h.be.cell
 simp [results,Tryz.results34,go_sem,h2,h3,h4,c0,c1,c2]
theorem leave_all {B : Nat} {tmps : Array Value} {R : Ending → World → Prop} {u : FrameMode} {W : World} (hu : u ≠ .run) (hd : W.heap[B + 4]? = some noDef)
  (h : CallsDIn Fence.wide 2 Tryz.prog 61 #[.pointer (some ⟨B,0,none⟩),.pointer (some ⟨B + 1,0,none⟩),.pointer (some ⟨B + 2,0,none⟩)] u (W.putObj (B + 4) (.deferred none)) fun
     | .returned _,u',w' => LeavesInM Fence.wide 3 Tryz.prog Tryz.f34 tmps R [] (settle u') w'
     | .panicked chain,u',w' => LeavesInM Fence.wide 3 Tryz.prog Tryz.f34 tmps R [] (raised u' chain) w'
     | .outgrown,_,w' => R .outgrown w') :
  LeavesInM Fence.wide 3 Tryz.prog Tryz.f34 tmps R [{ target:=.collected (B + 4),args:=#[] },{ target:=.fn (.func 61) #[.pointer (some ⟨B,0,none⟩),.pointer (some ⟨B + 1,0,none⟩),.pointer (some ⟨B + 2,0,none⟩)],args:=#[] }] u W:=by
 refine ⟨hu,.inl ⟨_,_,rfl,run_takeDeferred hd,hu,.inr ⟨fun h => by simp [Fence.wide] at h,_,_,61,_,rfl,?_,fun _ _ => trivial,h⟩⟩⟩
 simp [invoke,go_sem]
theorem res3_put {W : World} {B : Nat} {v : Value} {y z : Int} {o : Obj} (h : Res3 W B v y z) : Res3 (W.putObj (B + 4) o) B v y z :=
 ⟨(World.putObj_heap_other (by omega)).trans h.bl,(World.putObj_heap_other (by omega)).trans h.ba,(World.putObj_heap_other (by omega)).trans h.be⟩
attribute [local go_sem] Oper.semAt_some
set_option maxRecDepth 100000 in
set_option maxHeartbeats 4000000 in
theorem tokens_short (s : Bs) (hs : s.length ≤ 16384) (w : World) (gl : Gl w) : Calls Tryz.prog 34 #[.string ⟨s.toArray⟩] w (TokensP w (lexG s.length 0 s)):=by
 have hmf : ∀ (fn : Fn) (first cap : Array Value) (w : World),(Instr.makeFunc fn first cap).run Tryz.prog w = .ok (.func fn first cap) w:=fun _ _ _ _ => rfl
 have hsz:=size_of s
 have hsI : ¬ (16384 : Int) < (s.length : Int):=by omega
 have TO:=fun w => tokensOf_any s w
 refine (callsIn_wide (n:=3)).1 ?_
 refine callsIn_of_wp_marks Tryz.func34 rfl trivial ?_ rfl
 simp only [Tryz.ntmps34,List.size_toArray,List.length_cons,List.length_nil,Nat.reduceAdd,Nat.reduceSub,Array.replicate_succ,Array.replicate_zero,List.push_toArray,List.append_toArray,List.nil_append,List.cons_append]
 gi_wp2_with (refine ⟨trivial,?_⟩;gi_at_call 63;refine (callsIn_wide.2 (TO _)).mono ?_;rintro e w1 ⟨rfl,rfl⟩)
 obtain ⟨W0,hW0⟩ : ∃ W0,(((w.alloc (.cells #[.slice none 0 0] 72)).alloc (.cells #[.int .i64 0] 3)).alloc (.cells #[.int .i64 0] 26)).alloc (.cells #[.string ⟨s.toArray⟩] 9) = W0:=⟨_,rfl⟩
 have hz0 : W0.heap.size = w.heap.size + 4:=by rw [← hW0];simp
 have hb0 : Below w.heap.size w W0:=by
  rw [← hW0]
  exact ((((Below.refl _ w).alloc (Nat.le_refl _) _).alloc (by simp) _).alloc (by simp;omega) _).alloc (by simp;omega) _
 have hr0 : Res3 W0 w.heap.size (.slice none 0 0) 0 0:=by
  rw [← hW0]
  refine ⟨(((Boxed.new w _ _).alloc _).alloc _).alloc _,?_,?_⟩
  ·have:=((Boxed.new (w.alloc (.cells #[.slice none 0 0] 72)) 3 (.int .i64 0)).alloc (.cells #[.int .i64 0] 26)).alloc (.cells #[.string ⟨s.toArray⟩] 9)
   rw [World.size_alloc] at this
   exact this
  ·have:=(Boxed.new ((w.alloc (.cells #[.slice none 0 0] 72)).alloc (.cells #[.int .i64 0] 3)) 26 (.int .i64 0)).alloc (.cells #[.string ⟨s.toArray⟩] 9)
   rw [World.size_alloc,World.size_alloc] at this
   exact this
 have hs0 : Boxed W0 (w.heap.size + 3) 9 (.string ⟨s.toArray⟩):=by
  rw [← hW0]
  have:=Boxed.new (((w.alloc (.cells #[.slice none 0 0] 72)).alloc (.cells #[.int .i64 0] 3)).alloc (.cells #[.int .i64 0] 26)) 9 (.string ⟨s.toArray⟩)
  rw [World.size_alloc,World.size_alloc,World.size_alloc] at this
  exact this
 rw [hW0]
 clear hW0
 refine range_tok w gl s hs hz0 hb0 hr0 hs0 rfl ?hround ?hdone ?hpan
 case hround =>
  intro fn rc pre t W1 hst hpe hM hg hR hlen
  clear hz0 hb0 hr0 hs0 TO
  obtain ⟨i1,hi1,hy0,hy1,hy2⟩:=info_parts Tryz.infoTok
  refine roundIn_of_wpIn trivial ?_
  obtain ⟨v,hr,ht,hne⟩:=hM.row
  have hsz:=hM.siz
  have hlp:=hM.lp
  have hlt5:=lt_of_block hlp
  have hdf:=hM.dfr
  have hbel:=hM.bel
  obtain ⟨W2,hW2⟩ : ∃ W2,W1.alloc (.cells #[.int .i64 t.k,.string ⟨t.t.toArray⟩,.int .i64 (t.b : Int),.int .i64 (t.e : Int)] 78) = W2:=⟨_,rfl⟩
  have hz2 : W2.heap.size = W1.heap.size + 1:=by rw [← hW2];simp
  have hB12 : ∀ k,k < W1.heap.size → W2.heap[k]? = W1.heap[k]?:=fun k hk => by rw [← hW2];exact Below.heap_alloc W1 _ k hk
  have hT2 : W2.heap[W1.heap.size]? = some (.cells #[.int .i64 t.k,.string ⟨t.t.toArray⟩,.int .i64 (t.b : Int),.int .i64 (t.e : Int)] 78 (0,0)):=by rw [← hW2];exact heap_alloc_new _ _
  have hl2 : W2.heap[w.heap.size + 5]? = some (.loop rc):=(hB12 _ hlt5).trans hlp
  obtain ⟨W3,hW3⟩ : ∃ W3,W2.putObj (w.heap.size + 5) (.loop { rc with state:=.busy }) = W3:=⟨_,rfl⟩
  have hput3 : ∀ k,k ≠ w.heap.size + 5 → W3.heap[k]? = W2.heap[k]?:=fun k hk => by rw [← hW3];exact World.putObj_heap_other (by omega)
  have hl3 : W3.heap[w.heap.size + 5]? = some (.loop { rc with state:=.busy }):=by rw [← hW3];exact World.putObj_heap_same (lt_of_block hl2)
  have hz3 : W3.heap.size = W1.heap.size + 1:=by rw [← hW3,World.putObj_size,hz2]
  have hB3 : ∀ k,k < W1.heap.size → k ≠ w.heap.size + 5 → W3.heap[k]? = W1.heap[k]?:=fun k h1 h2 => (hput3 k h2).trans (hB12 k h1)
  have hT3:=(hput3 W1.heap.size (by omega)).trans hT2
  have hr3 : Res3 W3 w.heap.size v 0 0:=⟨(hB3 _ (by omega) (by omega)).trans hr.bl,(hB3 _ (by omega) (by omega)).trans hr.ba,(hB3 _ (by omega) (by omega)).trans hr.be⟩
  have ht3 : Toks W3 w.heap.size v pre:=toks_keep ht (fun g hg => hB3 g (toks_block ht hg).1 (fun e => by
   obtain ⟨_,_,cur,hc⟩:=toks_block ht hg
   rw [e,hlp] at hc
   cases hc))
  have hR3 : ∃ cs,W3.heap[w.heap.size + 6]? = some (.cells cs 149 (0,0)):=by
   obtain ⟨cs,hcs⟩:=hR
   exact ⟨cs,(hB3 _ (lt_of_block hcs) (by omega)).trans hcs⟩
  have hbel3 : Below w.heap.size w W3:=by
   rw [← hW3,← hW2]
   exact (hbel.alloc (by omega) _).trans (belowK_b (w:=w) (Nat.le_refl _) _ _ _ _ (by omega) (by rw [hW2];exact hl2) rfl rfl)
  have RE:=fun (v' : Value) (w1 : World) (tmp : Obj) => round_end (w:=w) (W3:=W3) (w1:=w1) (v:=v) (v':=v') (pre:=pre) (t:=t) (tmp:=tmp) hr3 ht3 hne (by omega) hbel3 hR3
  have d0:=hr3.bl.cell
  have k0 : W3.cell? ⟨W1.heap.size,0,none⟩ = some (.int .i64 t.k):=by simp [World.cell?,hT3]
  have k1 : W3.cell? ⟨W1.heap.size,1,none⟩ = some (.string ⟨t.t.toArray⟩):=by simp [World.cell?,hT3]
  have k2 : W3.cell? ⟨W1.heap.size,2,none⟩ = some (.int .i64 (t.b : Int)):=by simp [World.cell?,hT3]
  have k3 : W3.cell? ⟨W1.heap.size,3,none⟩ = some (.int .i64 (t.e : Int)):=by simp [World.cell?,hT3]
  gi_wp2
  refine ⟨W3,by rw [← hW3];exact run_beginRound hl2 hst,?_⟩
  have HB3 : Hid (∀ k,k < W1.heap.size → k ≠ w.heap.size + 5 → W3.heap[k]? = W1.heap[k]?):=hB3
  have HL3 : Hid (W3.heap[w.heap.size + 5]? = some (.loop { rc with state:=.busy })):=hl3
  have HZ3 : Hid (W3.heap.size = W1.heap.size + 1):=hz3
  have HDF : Hid (W3.heap[w.heap.size + 4]? = some noDef):=(hB3 _ (by omega) (by omega)).trans hdf
  have HT3 : Hid (Toks W3 w.heap.size v pre):=ht3
  clear hput3 hl3 hz3 hB3 hT3 hr3 ht3 hB12 hT2 hl2 hz2 hlp hdf hr ht hW2 hW3
  have hbs:=hbel3.size
  gi_wp2_with (gi_at_builtin;refine wpListIn_append_own _ rfl _ _ 72 rfl w.heap.size 78 i1 _ 4 40 Tryz.underlying72 hi1 hy0 hy1 hy2 rfl (by decide) _ _ _ rfl (HT3.out.alloc _) ⟨W3.heap.size,0,none⟩ 1 1 [.int .i64 t.k,.string ⟨t.t.toArray⟩,.int .i64 (t.b : Int),.int .i64 (t.e : Int)] rfl rfl ?c1 ?c2 ?c3 ?c4 ?c5 ?_)
  case c1 =>
   intro j u hu
   rw [cell_new]
   simpa using hu
  case c2 => simp [Value.oneCell']
  case c3 =>
   have : (2049 : Nat) ≤ maxLen:=by decide
   omega
  case c4 => omega
  case c5 => simp;omega
  intro v' w1 hown' hgrow _
  obtain ⟨g',cap',rfl⟩:=ownsRow_succ hown'
  obtain ⟨b1,r5,t5,n5,o5,be5,s5⟩:=RE _ w1 _ hown' hgrow
  have e1:=b1.cell
  have f1:=b1.frozen
  have nl : v.ownBlock ≠ some (w.heap.size + 5):=fun e => by
   obtain ⟨_,_,cur,hc⟩:=toks_block HT3.out e
   rw [HL3.out] at hc
   cases hc
  have nd : v.ownBlock ≠ some (w.heap.size + 4):=fun e => by
   obtain ⟨_,_,cur,hc⟩:=toks_block HT3.out e
   rw [HDF.out] at hc
   cases hc
  have hz3:=HZ3.out
  have hl5:=(o5 (w.heap.size + 5) (by omega) (by omega) nl).trans HL3.out
  have hd5:=(o5 (w.heap.size + 4) (by omega) (by omega) nd).trans HDF.out
  have hR5:=o5 (w.heap.size + 6) (by obtain ⟨cs,hcs⟩:=hR3;exact lt_of_block hcs) (by omega) hne
  have hR1:=HB3.out (w.heap.size + 6) (by obtain ⟨cs,hcs⟩:=hR;exact lt_of_block hcs) (by omega)
  have HRC : Hid ({ { rc with state:=.busy } with state:=if (none : Option Code).isNone = true then LoopState.ready else LoopState.done,pending:=none } = rc):=by
   show _ = _
   cases rc
   simp_all
  have HE : Hid ((Instr.endRound (w.heap.size + 5) none).run Tryz.prog (w1.setCell ⟨w.heap.size,0,none⟩ (.slice (some ⟨g',0,none⟩) (pre.length + 1) cap')) = .ok (.bool true) ((w1.setCell ⟨w.heap.size,0,none⟩ (.slice (some ⟨g',0,none⟩) (pre.length + 1) cap')).putObj (w.heap.size + 5) (.loop rc))):=by
   have:=run_endRound (P:=Tryz.prog) none hl5
   rw [HRC.out] at this
   exact this
  have HM : Hid (Mid w (.loop rc) noDef (pre ++ [t]) ((w1.setCell ⟨w.heap.size,0,none⟩ (.slice (some ⟨g',0,none⟩) (pre.length + 1) cap')).putObj (w.heap.size + 5) (.loop rc))):=mid_put r5 t5 n5 hl5 hd5 be5 (by omega)
  have HR : Hid (((w1.setCell ⟨w.heap.size,0,none⟩ (.slice (some ⟨g',0,none⟩) (pre.length + 1) cap')).putObj (w.heap.size + 5) (.loop rc)).heap[w.heap.size + 6]? = W1.heap[w.heap.size + 6]?):=(World.putObj_heap_other (by omega)).trans (hR5.trans hR1)
  clear hl5 hd5 hR5 hR1 r5 t5 n5 o5 be5 s5 b1 nl nd RE hown' hgrow
  gi_wp2
  exact ⟨_,_,HE.out,rfl,HM.out,HR.out,gl.belowG HM.out.bel⟩
 case hdone =>
  intro ts W L hx hM
  have HX : Hid (lexG s.length 0 s = .inr ts):=hx
  clear hz0 hb0 hr0 hs0 TO hx
  obtain ⟨v,hr,ht,hne⟩:=hM.row
  obtain ⟨a,m,c,rfl⟩:=toks_slice ht
  have hbel:=hM.bel
  have hdf:=hM.dfr
  have hsiz:=hM.siz
  have d0:=hr.bl.cell
  have d1:=hr.ba.cell
  have d2:=hr.be.cell
  have f0:=hr.bl.frozen
  have f1:=hr.ba.frozen
  have f2:=hr.be.frozen
  have HB : Hid (w.heap.size + 1 + 1 = w.heap.size + 2):=rfl
  gi_wp2
  show LeavesInM _ _ _ _ _ _ _ _ _
  have nd : (Value.slice a m c).ownBlock ≠ some (w.heap.size + 4):=fun e => by
   obtain ⟨_,_,cur,hc⟩:=toks_block ht e
   rw [hdf] at hc
   cases hc
  have q1 : Res3 (((W.setCell ⟨w.heap.size,0,none⟩ (.slice a m c)).setCell ⟨w.heap.size + 1,0,none⟩ (.int .i64 0)).setCell ⟨w.heap.size + 2,0,none⟩ (.int .i64 0)) w.heap.size (.slice a m c) 0 0 :=
   ⟨boxed_other (boxed_other (hr.bl.set _) (by omega) _ _) (by omega) _ _,boxed_other ((boxed_other hr.ba (by omega) _ _).set _) (by omega) _ _,(boxed_other (boxed_other hr.be (by omega) _ _) (by omega) _ _).set _⟩
  have q2 : ∀ k,k ≠ w.heap.size → k ≠ w.heap.size + 1 → k ≠ w.heap.size + 2 → (((W.setCell ⟨w.heap.size,0,none⟩ (.slice a m c)).setCell ⟨w.heap.size + 1,0,none⟩ (.int .i64 0)).setCell ⟨w.heap.size + 2,0,none⟩ (.int .i64 0)).heap[k]? = W.heap[k]?:=fun k h1 h2 h3 =>
   ((Below.heap_setCell _ ⟨w.heap.size + 2,0,none⟩ _ k h3).trans (Below.heap_setCell _ ⟨w.heap.size + 1,0,none⟩ _ k h2)).trans (Below.heap_setCell _ ⟨w.heap.size,0,none⟩ _ k h1)
  have q3 : Toks (((W.setCell ⟨w.heap.size,0,none⟩ (.slice a m c)).setCell ⟨w.heap.size + 1,0,none⟩ (.int .i64 0)).setCell ⟨w.heap.size + 2,0,none⟩ (.int .i64 0)) w.heap.size (.slice a m c) ts:=toks_keep ht (fun g hg => q2 g (fun e => by
    obtain ⟨_,_,cur,hc⟩:=toks_block ht hg
    rw [e,show W.heap[w.heap.size]? = _ from hr.bl] at hc
    cases hc) (fun e => by
    obtain ⟨_,_,cur,hc⟩:=toks_block ht hg
    rw [e,show W.heap[w.heap.size + 1]? = _ from hr.ba] at hc
    cases hc) (fun e => by
    obtain ⟨_,_,cur,hc⟩:=toks_block ht hg
    rw [e,show W.heap[w.heap.size + 2]? = _ from hr.be] at hc
    cases hc))
  have q4:=(q2 (w.heap.size + 4) (by omega) (by omega) (by omega)).trans hdf
  have q5 : Below w.heap.size w (((W.setCell ⟨w.heap.size,0,none⟩ (.slice a m c)).setCell ⟨w.heap.size + 1,0,none⟩ (.int .i64 0)).setCell ⟨w.heap.size + 2,0,none⟩ (.int .i64 0)) :=
   ((hbel.setCell (p:=⟨w.heap.size,0,none⟩) (Nat.le_refl _) _).setCell (p:=⟨w.heap.size + 1,0,none⟩) (Nat.le_succ _) _).setCell (p:=⟨w.heap.size + 2,0,none⟩) (by show w.heap.size ≤ w.heap.size + 2;omega) _
  refine leave_all (B:=w.heap.size) (by simp) q4 ?_
  refine (catch_idle 2 w.heap.size _).mono ?_
  rintro e u' w' ⟨rfl,rfl,rfl⟩
  refine ⟨_,res3_run (res3_put q1) rfl rfl rfl,?_⟩
  rw [HX.out]
  exact ⟨⟨_,rfl,ownsRow_putObj q3 _ q4 rfl⟩,q5.trans (belowK_b (w:=w) (Nat.le_refl _) _ _ _ _ (by omega) q4 rfl rfl)⟩
 case hpan =>
  intro p ts W L hx hM
  have HX : Hid (lexG s.length 0 s = .inl p):=hx
  clear hz0 hb0 hr0 hs0 TO hx
  obtain ⟨v,hr,ht,hne⟩:=hM.row
  obtain ⟨a,m,c,rfl⟩:=toks_slice ht
  have hbel:=hM.bel
  have hdf:=hM.dfr
  have hsiz:=hM.siz
  gi_wp2
  show LeavesInM _ _ _ _ _ _ _ _ _
  refine leave_all (B:=w.heap.size) (by simp) hdf ?_
  have hb4 : Below w.heap.size w (W.putObj (w.heap.size + 4) (.deferred none)):=hbel.trans (belowK_b (w:=w) (Nat.le_refl _) _ _ _ _ (by omega) hdf rfl rfl)
  refine (catch_dies 2 w.heap.size p.1 p.2 _ 0 0 [] _ (res3_put hr) ⟨_,_,_,rfl⟩).mono ?_
  rintro e u' w' ⟨rfl,rfl,hr',hb'⟩
  refine ⟨_,res3_run hr' rfl rfl rfl,?_⟩
  rw [HX.out]
  exact ⟨rfl,hb4.trans hb'⟩
end Go.Proofs.YtgmlbjfgfmfliaaGreatDoor
namespace Go.Proofs.YtgmlbjfgfmfliaaGreatDoor
open Go Go.RowKit Go.Shelf
theorem leave_one {B : Nat} {tmps : Array Value} {R : Ending → World → Prop} {u : FrameMode} {W : World} (hu : u ≠ .run)
  (h : CallsDIn Fence.wide 2 Tryz.prog 61 #[.pointer (some ⟨B,0,none⟩),.pointer (some ⟨B + 1,0,none⟩),.pointer (some ⟨B + 2,0,none⟩)] u W fun
     | .returned _,u',w' => LeavesInM Fence.wide 3 Tryz.prog Tryz.f34 tmps R [] (settle u') w'
     | .panicked chain,u',w' => LeavesInM Fence.wide 3 Tryz.prog Tryz.f34 tmps R [] (raised u' chain) w'
     | .outgrown,_,w' => R .outgrown w') :
  LeavesInM Fence.wide 3 Tryz.prog Tryz.f34 tmps R [{ target:=.fn (.func 61) #[.pointer (some ⟨B,0,none⟩),.pointer (some ⟨B + 1,0,none⟩),.pointer (some ⟨B + 2,0,none⟩)],args:=#[] }] u W:=by
 refine ⟨hu,.inr ⟨fun h => by simp [Fence.wide] at h,_,_,61,_,rfl,?_,fun _ _ => trivial,h⟩⟩
 simp [invoke,go_sem]
set_option maxRecDepth 100000 in
set_option maxHeartbeats 4000000 in
theorem tokens_long (s : Bs) (hs : 16384 < s.length) (w : World) : Calls Tryz.prog 34 #[.string ⟨s.toArray⟩] w (TokensP w (.inl (0,54))):=by
 have hmf : ∀ (fn : Fn) (first cap : Array Value) (w : World),(Instr.makeFunc fn first cap).run Tryz.prog w = .ok (.func fn first cap) w:=fun _ _ _ _ => rfl
 have hsz:=size_of s
 have hsI : (16384 : Int) < (s.length : Int):=by omega
 refine (callsIn_wide (n:=3)).1 ?_
 refine callsIn_of_wp_marks Tryz.func34 rfl trivial ?_ rfl
 simp only [Tryz.ntmps34,List.size_toArray,List.length_cons,List.length_nil,Nat.reduceAdd,Nat.reduceSub,Array.replicate_succ,Array.replicate_zero,List.push_toArray,List.append_toArray,List.nil_append,List.cons_append]
 gi_wp2
 have hr0 : Res3 (((w.alloc (.cells #[.slice none 0 0] 72)).alloc (.cells #[.int .i64 0] 3)).alloc (.cells #[.int .i64 0] 26)) w.heap.size (.slice none 0 0) 0 0:=by
  refine ⟨((Boxed.new w _ _).alloc _).alloc _,?_,?_⟩
  ·have:=(Boxed.new (w.alloc (.cells #[.slice none 0 0] 72)) 3 (.int .i64 0)).alloc (.cells #[.int .i64 0] 26)
   rw [World.size_alloc] at this
   exact this
  ·have:=Boxed.new ((w.alloc (.cells #[.slice none 0 0] 72)).alloc (.cells #[.int .i64 0] 3)) 26 (.int .i64 0)
   rw [World.size_alloc,World.size_alloc] at this
   exact this
 have hb0 : Below w.heap.size w (((w.alloc (.cells #[.slice none 0 0] 72)).alloc (.cells #[.int .i64 0] 3)).alloc (.cells #[.int .i64 0] 26)) :=
  (((Below.refl _ w).alloc (Nat.le_refl _) _).alloc (by simp) _).alloc (by simp;omega) _
 show LeavesInM _ _ _ _ _ _ _ _ _
 refine leave_one (B:=w.heap.size) (by simp) ?_
 refine (catch_dies 2 w.heap.size 0 54 _ 0 0 [] _ hr0 ⟨_,_,_,rfl⟩).mono ?_
 rintro e u' w' ⟨rfl,rfl,hr',hb'⟩
 refine ⟨_,res3_run hr' rfl rfl rfl,?_⟩
 exact ⟨rfl,hb0.trans hb'⟩
theorem tokens_any (s : Bs) (w : World) (gl : Gl w) : Calls Tryz.prog 34 #[.string ⟨s.toArray⟩] w (TokensP w (lexS s)):=by
 unfold lexS
 by_cases h : 16384 < s.length
 ·rw [if_pos h];exact tokens_long s h w
 ·rw [if_neg h];exact tokens_short s (by omega) w gl
end Go.Proofs.YtgmlbjfgfmfliaaGreatDoor
