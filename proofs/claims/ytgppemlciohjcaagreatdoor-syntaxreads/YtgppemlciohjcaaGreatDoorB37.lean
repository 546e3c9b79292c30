/- The document's own one: the token that begins at a place. -/
import Derived.Test.YtgppemlciohjcaaGreatDoorB35
import Derived.Test.YtgppemlciohjcaaGreatDoorB36
import Derived.Test.YtgppemlciohjcaaGreatDoorB06
namespace Go.Proofs.YtgppemlciohjcaaGreatDoor
section
open Go Go.RowKit
attribute [local irreducible] srcB
def oneV (s : Bs) (p : Nat) : Value × Int:=match tokS (s.drop p) with
 | .ok k t r => (tokV k t p (s.length - r.length),0)
 | .bad e => (tokV 0 [] 0 0,e)
theorem pun_not {x : UInt8} (h : punL.contains x = true) : letL.contains x = false ∧ digL.contains x = false ∧ x ≠ 45 ∧ x ≠ 34 ∧ x ≠ 46:=by
 have : x ∈ punL:=List.contains_iff_mem.1 h
 simp [punL] at this
 rcases this with rfl | rfl | rfl | rfl | rfl | rfl | rfl | rfl | rfl | rfl | rfl | rfl | rfl <;> decide
theorem ix_of (s : Bs) : ∀ (q : Nat) (hh : q < (ByteArray.mk s.toArray).size),(((ByteArray.mk s.toArray)[q]'hh).toNat : Int) = bt s q:=fun q hh => by
 unfold bt
 have e : (ByteArray.mk s.toArray)[q]'hh = s.getD q 0:=by
  show s.toArray[q]'hh = _
  have : q < s.length:=hh
  simp [List.getD,this]
 rw [e]
set_option maxRecDepth 100000 in
set_option maxHeartbeats 1000000 in
theorem one_pun (s : Bs) (p : Nat) (x : UInt8) (r : Bs) (hl : s.drop p = x :: r) (hs : s.length ≤ 16384) (hx : punL.contains x = true) (w : World) :
  Calls Tryz.prog 39 #[.string ⟨s.toArray⟩,.int .i64 (p : Int)] w fun e w' => e = .returned (.tuple #[tokV 0 [x] p (p + 1),.int .i64 0]) ∧ Below w.heap.size w w':=by
 have hb:=bt_drop s p x r hl
 have hlen:=congrArg List.length hl
 rw [List.length_drop,List.length_cons] at hlen
 have hp : p < s.length:=by omega
 have hpI : (p : Int) < (s.length : Int):=by omega
 have f1 : (p : Int) + 1 ≤ (s.length : Int):=by omega
 obtain ⟨g1,g2,g3,g4,g5⟩:=pun_not hx
 have hD : (ByteArray.mk s.toArray).size = s.length:=rfl
 have ix:=ix_of s p
 have hext : (ByteArray.mk s.toArray).extract p (p + 1) = ⟨#[x]⟩:=by
  rw [ext_mk,hl]
  rfl
 have Lt:=fun w : World => xletter_any x w
 have Dg:=fun w : World => xdigit_any x w
 rw [g1] at Lt
 rw [g2] at Dg
 have BB : ∀ w : World,Calls Tryz.prog 63 #[.string ⟨s.toArray⟩,.int .i64 (p : Int),.string ⟨#[46,46,46]⟩] w fun e w' => e = .returned (.bool false) ∧ w = w':=fun w => by
  have:=begins_any s p (by omega) hs [46,46,46] (by decide) w
  have hz : List.isPrefixOf [46,46,46] (s.drop p) = false:=by
   rw [hl,Bool.eq_false_iff]
   intro e
   obtain ⟨m,hm⟩:=List.isPrefixOf_iff_prefix.1 e
   simp at hm
   exact g5 hm.1.symm
  rw [hz] at this
  exact this.mono fun _ _ h => ⟨h.1,h.2.symm⟩
 rw [hb] at ix
 have c45 : ((x.toNat : Int) == 45) = false:=by
  have : x.toNat ≠ 45:=fun e => g3 (UInt8.toNat_inj.1 e)
  simp;omega
 have c34 : ((x.toNat : Int) == 34) = false:=by
  have : x.toNat ≠ 34:=fun e => g4 (UInt8.toNat_inj.1 e)
  simp;omega
 have hpun : x = 33 ∨ x = 36 ∨ x = 38 ∨ x = 40 ∨ x = 41 ∨ x = 58 ∨ x = 61 ∨ x = 64 ∨ x = 91 ∨ x = 93 ∨ x = 123 ∨ x = 124 ∨ x = 125:=by
  have : x ∈ punL:=List.contains_iff_mem.1 hx
  simpa [punL] using this
 clear hb hlen hl g1 g2 g3 g4 g5 hx
 generalize (ByteArray.mk s.toArray) = D at *
 rcases hpun with rfl | rfl | rfl | rfl | rfl | rfl | rfl | rfl | rfl | rfl | rfl | rfl | rfl
 all_goals
  go_enter Tryz.func39,Tryz.ntmps39
  go_wp2_with (first
   | (go_at_call 63;(with_reducible refine (BB _).mono ?_);rintro e w0 ⟨rfl,rfl⟩)
   | (go_at_call 67;refine (Dg _).mono ?_;rintro e w0 ⟨rfl,hw⟩;subst hw)
   | (go_at_call 65;refine (Lt _).mono ?_;rintro e w0 ⟨rfl,hw⟩;subst hw)
   | fail)
  exact bodyPost_ret (by simp [results,Tryz.results39,go_sem]) rfl ⟨rfl,((Below.refl _ _).alloc (Nat.le_refl _) _).alloc (by simp) _⟩
set_option maxRecDepth 100000 in
set_option maxHeartbeats 1000000 in
theorem one_dots (s : Bs) (p : Nat) (hs : s.length ≤ 16384) (hd : List.isPrefixOf [46,46,46] (s.drop p) = true) (w : World) :
  Calls Tryz.prog 39 #[.string ⟨s.toArray⟩,.int .i64 (p : Int)] w fun e w' => e = .returned (.tuple #[tokV 0 [46,46,46] p (p + 3),.int .i64 0]) ∧ Below w.heap.size w w':=by
 obtain ⟨m,hm⟩:=List.isPrefixOf_iff_prefix.1 hd
 have hl : s.drop p = 46 :: 46 :: 46 :: m:=hm.symm
 have hb:=bt_drop s p 46 _ hl
 have h3:=(pre_pos hd).resolve_right (by simp)
 simp only [List.length_cons,List.length_nil] at h3
 have hpI : (p : Int) < (s.length : Int):=by omega
 have f1 : (p : Int) + 3 ≤ (s.length : Int):=by omega
 have hD : (ByteArray.mk s.toArray).size = s.length:=rfl
 have ix:=ix_of s p
 have hext : (ByteArray.mk s.toArray).extract p (p + 3) = ⟨#[46,46,46]⟩:=by
  rw [ext_mk,hl]
  rfl
 have Lt:=fun w : World => xletter_any 46 w
 have Dg:=fun w : World => xdigit_any 46 w
 have BB : ∀ w : World,Calls Tryz.prog 63 #[.string ⟨s.toArray⟩,.int .i64 (p : Int),.string ⟨#[46,46,46]⟩] w fun e w' => e = .returned (.bool true) ∧ w = w':=fun w => by
  have:=begins_any s p (by omega) hs [46,46,46] (by decide) w
  rw [hd] at this
  exact this.mono fun _ _ h => ⟨h.1,h.2.symm⟩
 rw [hb] at ix
 rw [show letL.contains 46 = false from rfl] at Lt
 rw [show digL.contains 46 = false from rfl] at Dg
 clear hb hl hm hd h3
 generalize (ByteArray.mk s.toArray) = D at *
 go_enter Tryz.func39,Tryz.ntmps39
 go_wp2_with (first
  | (go_at_call 63;(with_reducible refine (BB _).mono ?_);rintro e w0 ⟨rfl,rfl⟩)
  | (go_at_call 67;refine (Dg _).mono ?_;rintro e w0 ⟨rfl,hw⟩;subst hw)
  | (go_at_call 65;refine (Lt _).mono ?_;rintro e w0 ⟨rfl,hw⟩;subst hw)
  | fail)
 exact bodyPost_ret (by simp [results,Tryz.results39,go_sem]) rfl ⟨rfl,((Below.refl _ _).alloc (Nat.le_refl _) _).alloc (by simp) _⟩
set_option maxRecDepth 100000 in
set_option maxHeartbeats 1000000 in
theorem one_bad (s : Bs) (p : Nat) (x : UInt8) (r : Bs) (hl : s.drop p = x :: r) (hs : s.length ≤ 16384) (g0 : punL.contains x = false) (g1 : letL.contains x = false) (g2 : digL.contains x = false) (g3 : x ≠ 45) (g4 : x ≠ 34) (hd : List.isPrefixOf [46,46,46] (s.drop p) = false) (w : World) :
  Calls Tryz.prog 39 #[.string ⟨s.toArray⟩,.int .i64 (p : Int)] w fun e w' => e = .returned (.tuple #[tokV 0 [] 0 0,.int .i64 50]) ∧ Below w.heap.size w w':=by
 have hb:=bt_drop s p x r hl
 have hlen:=congrArg List.length hl
 rw [List.length_drop,List.length_cons] at hlen
 have hp : p < s.length:=by omega
 have hpI : (p : Int) < (s.length : Int):=by omega
 have hD : (ByteArray.mk s.toArray).size = s.length:=rfl
 have ix:=ix_of s p
 have Lt:=fun w : World => xletter_any x w
 have Dg:=fun w : World => xdigit_any x w
 rw [g1] at Lt
 rw [g2] at Dg
 have BB : ∀ w : World,Calls Tryz.prog 63 #[.string ⟨s.toArray⟩,.int .i64 (p : Int),.string ⟨#[46,46,46]⟩] w fun e w' => e = .returned (.bool false) ∧ w = w':=fun w => by
  have:=begins_any s p (by omega) hs [46,46,46] (by decide) w
  rw [hd] at this
  exact this.mono fun _ _ h => ⟨h.1,h.2.symm⟩
 rw [hb] at ix
 have hne : ∀ v : UInt8,x ≠ v → ((x.toNat : Int) == (v.toNat : Int)) = false:=fun v hv => by
  have : x.toNat ≠ v.toNat:=fun e => hv (UInt8.toNat_inj.1 e)
  simp;omega
 have hpn : ∀ v : UInt8,punL.contains v = true → x ≠ v:=fun v hv e => by rw [e,hv] at g0;cases g0
 have c45:=hne 45 g3
 have c34:=hne 34 g4
 have q1:=hne 33 (hpn 33 rfl)
 have q2:=hne 36 (hpn 36 rfl)
 have q3:=hne 38 (hpn 38 rfl)
 have q4:=hne 40 (hpn 40 rfl)
 have q5:=hne 41 (hpn 41 rfl)
 have q6:=hne 58 (hpn 58 rfl)
 have q7:=hne 61 (hpn 61 rfl)
 have q8:=hne 64 (hpn 64 rfl)
 have q9:=hne 91 (hpn 91 rfl)
 have q10:=hne 93 (hpn 93 rfl)
 have q11:=hne 123 (hpn 123 rfl)
 have q12:=hne 124 (hpn 124 rfl)
 have q13:=hne 125 (hpn 125 rfl)
 clear hb hlen hl g1 g2 g3 g4 hne hpn hd g0
 generalize (ByteArray.mk s.toArray) = D at *
 generalize (x.toNat : Int) = c at *
 simp only [show (((45 : UInt8).toNat : Nat) : Int) = 45 from rfl,show (((34 : UInt8).toNat : Nat) : Int) = 34 from rfl,show (((33 : UInt8).toNat : Nat) : Int) = 33 from rfl,show (((36 : UInt8).toNat : Nat) : Int) = 36 from rfl,show (((38 : UInt8).toNat : Nat) : Int) = 38 from rfl,show (((40 : UInt8).toNat : Nat) : Int) = 40 from rfl,show (((41 : UInt8).toNat : Nat) : Int) = 41 from rfl,show (((58 : UInt8).toNat : Nat) : Int) = 58 from rfl,show (((61 : UInt8).toNat : Nat) : Int) = 61 from rfl,show (((64 : UInt8).toNat : Nat) : Int) = 64 from rfl,show (((91 : UInt8).toNat : Nat) : Int) = 91 from rfl,show (((93 : UInt8).toNat : Nat) : Int) = 93 from rfl,show (((123 : UInt8).toNat : Nat) : Int) = 123 from rfl,show (((124 : UInt8).toNat : Nat) : Int) = 124 from rfl,show (((125 : UInt8).toNat : Nat) : Int) = 125 from rfl] at c45 c34 q1 q2 q3 q4 q5 q6 q7 q8 q9 q10 q11 q12 q13
 go_enter Tryz.func39,Tryz.ntmps39
 go_wp2_with (first
  | (go_at_call 63;(with_reducible refine (BB _).mono ?_);rintro e w0 ⟨rfl,rfl⟩)
  | (go_at_call 67;(with_reducible refine (Dg _).mono ?_);rintro e w0 ⟨rfl,hw⟩;subst hw)
  | (go_at_call 65;(with_reducible refine (Lt _).mono ?_);rintro e w0 ⟨rfl,hw⟩;subst hw)
  | fail)
 exact bodyPost_ret (by simp [results,Tryz.results39,go_sem]) rfl ⟨rfl,((Below.refl _ _).alloc (Nat.le_refl _) _).alloc (by simp) _⟩
set_option maxRecDepth 100000 in
set_option maxHeartbeats 1000000 in
theorem one_num (s : Bs) (p : Nat) (x : UInt8) (r : Bs) (hl : s.drop p = x :: r) (hs : s.length ≤ 16384) (hx : x = 45 ∨ digL.contains x = true) (w : World) :
  Calls Tryz.prog 39 #[.string ⟨s.toArray⟩,.int .i64 (p : Int)] w fun e w' => e = .returned (.tuple #[(match numS (s.drop p) with | some q => (tokV q.1 (ahead (s.drop p) q.2) p (s.length - q.2.length),Value.int .i64 0) | none => (tokV 0 [] 0 0,Value.int .i64 51)).1,(match numS (s.drop p) with | some q => (tokV q.1 (ahead (s.drop p) q.2) p (s.length - q.2.length),Value.int .i64 0) | none => (tokV 0 [] 0 0,Value.int .i64 51)).2]) ∧ Below w.heap.size w w':=by
 have hb:=bt_drop s p x r hl
 have hlen:=congrArg List.length hl
 rw [List.length_drop,List.length_cons] at hlen
 have hp : p < s.length:=by omega
 have hpI : (p : Int) < (s.length : Int):=by omega
 have hD : (ByteArray.mk s.toArray).size = s.length:=rfl
 have ix:=ix_of s p
 have g1 : letL.contains x = false:=by
  rcases hx with rfl | hx
  ·rfl
  ·rw [let_is]
   rw [dig_is] at hx
   simp at hx ⊢
   omega
 have Lt:=fun w : World => xletter_any x w
 have Dg:=fun w : World => xdigit_any x w
 rw [g1] at Lt
 have N:=fun w => xnumber_any s p hp hs w
 rw [hb] at ix
 have hx2 : ((x.toNat : Int) == 45) = true ∨ (((x.toNat : Int) == 45) = false ∧ digL.contains x = true):=by
  rcases hx with rfl | hx
  ·left;rfl
  ·right
   refine ⟨?_,hx⟩
   rw [dig_is] at hx
   simp at hx ⊢
   omega
 cases hn : numS (s.drop p) with
 | none =>
  rw [hn] at N
  clear hb hl hx hn g1
  generalize (ByteArray.mk s.toArray) = D at *
  generalize digL.contains x = dB at *
  generalize (x.toNat : Int) = c at *
  rcases hx2 with h45 | ⟨h45,hd⟩
  all_goals
   try subst hd
   go_enter Tryz.func39,Tryz.ntmps39
   go_wp2_with (first
    | (go_at_call 68;(with_reducible refine (N _).mono ?_);rintro e w0 ⟨⟨a,b,rfl⟩,hw⟩;subst hw)
    | (go_at_call 67;(with_reducible refine (Dg _).mono ?_);rintro e w0 ⟨rfl,hw⟩;subst hw)
    | (go_at_call 65;(with_reducible refine (Lt _).mono ?_);rintro e w0 ⟨rfl,hw⟩;subst hw)
    | fail)
   exact bodyPost_ret (by simp [results,Tryz.results39,go_sem]) rfl ⟨rfl,((Below.refl _ _).alloc (Nat.le_refl _) _).alloc (by simp) _⟩
 | some q =>
  rw [hn] at N
  obtain ⟨k,m⟩:=q
  obtain ⟨hsuf,hlt⟩:=numS_facts hn
  have hsuf2 : m <:+ s:=hsuf.trans (List.drop_suffix _ _)
  have hml : m.length < s.length - p:=by have:=hlt;rw [List.length_drop] at this;exact this
  have hE1 : (p : Int) ≤ ((s.length - m.length : Nat) : Int):=by omega
  have hE2 : ((s.length - m.length : Nat) : Int) ≤ (s.length : Int):=by omega
  have hext : (ByteArray.mk s.toArray).extract p (s.length - m.length) = ⟨(ahead (s.drop p) m).toArray⟩:=by
   have:=cut_ahead (List.drop_suffix p s) hsuf
   rw [List.length_drop,show s.length - (s.length - p) = p by omega] at this
   exact this
  clear hb hl hx hn g1 hsuf hsuf2 hlt
  simp only
  generalize ahead (s.drop p) m = TX at *
  simp only at N
  generalize s.length - m.length = E at *
  generalize (ByteArray.mk s.toArray) = D at *
  generalize digL.contains x = dB at *
  generalize (x.toNat : Int) = c at *
  rcases hx2 with h45 | ⟨h45,hd⟩
  all_goals
   try subst hd
   go_enter Tryz.func39,Tryz.ntmps39
   go_wp2_with (first
    | (go_at_call 68;(with_reducible refine (N _).mono ?_);rintro e w0 ⟨rfl,hw⟩;subst hw)
    | (go_at_call 67;(with_reducible refine (Dg _).mono ?_);rintro e w0 ⟨rfl,hw⟩;subst hw)
    | (go_at_call 65;(with_reducible refine (Lt _).mono ?_);rintro e w0 ⟨rfl,hw⟩;subst hw)
    | fail)
   exact bodyPost_ret (by simp [results,Tryz.results39,go_sem]) rfl ⟨rfl,((Below.refl _ _).alloc (Nat.le_refl _) _).alloc (by simp) _⟩
end
section
open Go Go.RowKit
attribute [local irreducible] srcB
def nmL : Bs:=letL ++ digL
def nmN (l : Bs) : Nat:=(l.takeWhile fun c => nmL.contains c).length
theorem span_nm (l : Bs) : spanR nmL l = l.drop (nmN l):=by
 induction l with
 | nil => rfl
 | cons c l ih =>
  unfold spanR nmN
  by_cases h : nmL.contains c = true
  ·rw [if_pos h,ih,List.takeWhile_cons_of_pos (by exact h)]
   rfl
  ·rw [if_neg h,List.takeWhile_cons_of_neg (by exact h)]
   rfl
theorem nm_at (l : Bs) : ∀ k,k ≤ nmN l → nmL.contains (l.getD k 0) = decide (k < nmN l):=by
 induction l with
 | nil =>
  intro k hk
  have : k = 0:=by simpa [nmN] using hk
  subst this
  rfl
 | cons c l ih =>
  intro k hk
  by_cases h : nmL.contains c = true
  ·have e : nmN (c :: l) = nmN l + 1:=by
    unfold nmN
    rw [List.takeWhile_cons_of_pos (by exact h)]
    rfl
   rw [e] at hk ⊢
   cases k with
   | zero =>
    show nmL.contains c = _
    rw [h]
    simp
   | succ k =>
    show nmL.contains (l.getD k 0) = _
    rw [ih k (by omega)]
    simp
  ·have e : nmN (c :: l) = 0:=by
    unfold nmN
    rw [List.takeWhile_cons_of_neg (by exact h)]
    rfl
   rw [e] at hk ⊢
   obtain rfl : k = 0:=by omega
   show nmL.contains c = _
   simpa using h
theorem nm_le (l : Bs) : nmN l ≤ l.length:=(List.takeWhile_sublist _).length_le
theorem nm_or (x : UInt8) : nmL.contains x = (letL.contains x || digL.contains x):=by
 rw [Bool.eq_iff_iff,Bool.or_eq_true,List.contains_iff_mem,List.contains_iff_mem,List.contains_iff_mem]
 exact List.mem_append
def eOf (B : Nat) (w : World) : Int:=match w.cell? ⟨B,3,none⟩ with
 | some (.int _ z) => z
 | _ => 0
theorem eOf_new (w : World) (A : Obj) (k p e : Int) (t : ByteArray) : eOf (w.heap.size + 1) ((w.alloc A).alloc (.cells #[.int .i64 k,.string t,.int .i64 p,.int .i64 e] 40)) = e:=by
 have h:=cell_new (w.alloc A) #[.int .i64 k,.string t,.int .i64 p,.int .i64 e] 40 3
 rw [Addr.add_lit,Nat.zero_add,World.size_alloc] at h
 unfold eOf
 rw [h]
 rfl
abbrev tkO (k : Int) (t : ByteArray) (p e : Int) : Obj:=.cells #[.int .i64 k,.string t,.int .i64 p,.int .i64 e] 40
set_option maxRecDepth 100000 in
set_option maxHeartbeats 2000000 in
theorem one_name (s : Bs) (p : Nat) (x : UInt8) (r : Bs) (hl : s.drop p = x :: r) (hs : s.length ≤ 16384) (hx : letL.contains x = true) (w : World) :
  Calls Tryz.prog 39 #[.string ⟨s.toArray⟩,.int .i64 (p : Int)] w fun e w' => e = .returned (.tuple #[tokV 1 ((s.drop p).take (1 + nmN r)) p (p + 1 + nmN r),.int .i64 0]) ∧ Below w.heap.size w w':=by
 have hb:=bt_drop s p x r hl
 have hlen:=congrArg List.length hl
 rw [List.length_drop,List.length_cons] at hlen
 have hr : s.drop (p + 1) = r:=by
  have:=congrArg (List.drop 1) hl
  rw [List.drop_drop] at this
  exact this
 have hp : p < s.length:=by omega
 have hpI : (p : Int) < (s.length : Int):=by omega
 have hD : (ByteArray.mk s.toArray).size = s.length:=rfl
 have ix:=ix_of s p
 rw [hb] at ix
 have Lt:=fun w : World => xletter_any x w
 rw [hx] at Lt
 have hnat:=nm_at r
 have hnle:=nm_le r
 have hext:=ext_mk s p (1 + nmN r)
 rw [show p + (1 + nmN r) = p + 1 + nmN r by omega] at hext
 have hk : ∀ k,k ≤ nmN r → (letL.contains (s.getD (p + 1 + k) 0) || digL.contains (s.getD (p + 1 + k) 0)) = decide (k < nmN r):=fun k hk => by
  rw [← nm_or,← hnat k hk,← hr,drop_get]
 have A:=fun k w => xat_any s (by omega) k w
 have hE1 : (p : Int) ≤ ((p + 1 + nmN r : Nat) : Int):=by omega
 have hE2 : ((p + 1 + nmN r : Nat) : Int) ≤ (s.length : Int):=by omega
 clear hb hl hr hnat hx
 generalize nmN r = M at *
 generalize (s.drop p).take (1 + M) = TX at *
 generalize (ByteArray.mk s.toArray) = D at *
 generalize (x.toNat : Int) = c at *
 go_enter Tryz.func39,Tryz.ntmps39
 go_wp2_with (first
  | (go_at_call 65;(with_reducible refine (Lt _).mono ?_);rintro e w0 ⟨rfl,hw⟩;subst hw)
  | fail)
 go_loopw [] (fun wr => ∃ k : Nat,k ≤ M ∧ wr = (w.alloc (tkO 0 ⟨#[]⟩ 0 0)).alloc (tkO 1 ⟨#[]⟩ (p : Int) ((p + 1 + k : Nat) : Int))) (fun wr => (p + 2 + M) - (eOf (w.heap.size + 1) wr).toNat)
 case atStart => exact ⟨0,Nat.zero_le _,rfl⟩
 case round =>
  obtain ⟨k,hkM,rfl⟩:=hrel
  have A1:=A (p + 1 + k)
  have hor:=hk k hkM
  have L1:=fun w : World => xletter_any (s.getD (p + 1 + k) 0) w
  have D1:=fun w : World => xdigit_any (s.getD (p + 1 + k) 0) w
  have hkS : p + 1 + k ≤ s.length:=by omega
  clear A hk
  generalize ((s.getD (p + 1 + k) 0).toNat : Int) = d at *
  generalize letL.contains (s.getD (p + 1 + k) 0) = lB at *
  generalize digL.contains (s.getD (p + 1 + k) 0) = dB at *
  by_cases hlt : k < M
  ·rw [decide_eq_true hlt] at hor
   have hnx : Hid (((p + 1 + k : Nat) : Int) + 1 = ((p + 1 + (k + 1) : Nat) : Int)):=by show _ = _;omega
   have hpk : ((p + 1 + k : Nat) : Int) ≤ 20000:=by omega
   generalize hJ : p + 1 + k = J at *
   have HJ : Hid (p + 1 + k = J):=hJ
   clear hJ
   cases lB
   ·cases dB
    ·cases hor
    ·go_wp2_with (first
      | (go_at_call 67;(with_reducible refine (D1 _).mono ?_);rintro e w0 ⟨rfl,hw⟩;subst hw)
      | (go_at_call 65;(with_reducible refine (L1 _).mono ?_);rintro e w0 ⟨rfl,hw⟩;subst hw)
      | (go_at_call 66;(with_reducible refine (A1 _).mono ?_);rintro e w1 ⟨rfl,rfl⟩)
      | fail)
     refine ⟨⟨k + 1,by omega,by rw [hnx.out]⟩,?_⟩
     have hj:=HJ.out
     rw [eOf_new,eOf_new]
     omega
   ·go_wp2_with (first
     | (go_at_call 65;(with_reducible refine (L1 _).mono ?_);rintro e w0 ⟨rfl,hw⟩;subst hw)
     | (go_at_call 66;(with_reducible refine (A1 _).mono ?_);rintro e w1 ⟨rfl,rfl⟩)
     | fail)
    refine ⟨⟨k + 1,by omega,by rw [hnx.out]⟩,?_⟩
    have hj:=HJ.out
    rw [eOf_new,eOf_new]
    omega
  ·rw [decide_eq_false hlt] at hor
   obtain rfl : k = M:=by omega
   cases lB
   ·cases dB
    ·generalize hJ : p + 1 + k = J at *
     have HJ : Hid (p + 1 + k = J):=hJ
     clear hJ
     go_wp2_with (first
      | (go_at_call 67;(with_reducible refine (D1 _).mono ?_);rintro e w0 ⟨rfl,hw⟩;subst hw)
      | (go_at_call 65;(with_reducible refine (L1 _).mono ?_);rintro e w0 ⟨rfl,hw⟩;subst hw)
      | (go_at_call 66;(with_reducible refine (A1 _).mono ?_);rintro e w1 ⟨rfl,rfl⟩)
      | fail)
     exact bodyPost_ret (by simp [results,Tryz.results39,go_sem];have:=HJ.out;omega) rfl ⟨rfl,((Below.refl _ _).alloc (Nat.le_refl _) _).alloc (by simp) _⟩
    ·cases hor
   ·cases hor
end
section
open Go Go.RowKit
attribute [local irreducible] srcB
structure Two (w w3 : World) (k p e : Int) : Prop where
 bel : Below w.heap.size w w3
 r0 : w3.heap[w.heap.size]? = some (.cells #[.int .i64 0,.string ⟨#[]⟩,.int .i64 0,.int .i64 0] 40 (0,0))
 r1 : w3.heap[w.heap.size + 1]? = some (.cells #[.int .i64 k,.string ⟨#[]⟩,.int .i64 p,.int .i64 e] 40 (0,0))
theorem two_of {w w3 : World} {k p e : Int} (h : Below ((w.alloc (tkO 0 ⟨#[]⟩ 0 0)).alloc (tkO k ⟨#[]⟩ p e)).heap.size ((w.alloc (tkO 0 ⟨#[]⟩ 0 0)).alloc (tkO k ⟨#[]⟩ p e)) w3) : Two w w3 k p e:=by
 have hb : Below w.heap.size w ((w.alloc (tkO 0 ⟨#[]⟩ 0 0)).alloc (tkO k ⟨#[]⟩ p e)):=((Below.refl _ _).alloc (Nat.le_refl _) _).alloc (by simp) _
 refine ⟨hb.trans (h.mono (by simp;omega)),?_,?_⟩
 ·rw [h.block _ (by simp;omega),Below.heap_alloc _ _ _ (by simp)]
  exact heap_alloc_new w _
 ·rw [h.block _ (by simp)]
  have:=heap_alloc_new (w.alloc (tkO 0 ⟨#[]⟩ 0 0)) (tkO k ⟨#[]⟩ p e)
  rw [World.size_alloc] at this
  exact this
theorem Two.c0 {w w3 : World} {k p e : Int} (h : Two w w3 k p e) (i : Nat) : w3.cell? ⟨w.heap.size,i,none⟩ = (#[Value.int .i64 0,.string ⟨#[]⟩,.int .i64 0,.int .i64 0] : Array Value)[i]?:=by simp [World.cell?,h.r0]
theorem Two.c1 {w w3 : World} {k p e : Int} (h : Two w w3 k p e) (i : Nat) : w3.cell? ⟨w.heap.size + 1,i,none⟩ = (#[Value.int .i64 k,.string ⟨#[]⟩,.int .i64 p,.int .i64 e] : Array Value)[i]?:=by simp [World.cell?,h.r1]
theorem Two.f0 {w w3 : World} {k p e : Int} (h : Two w w3 k p e) (i : Nat) : w3.frozen? ⟨w.heap.size,i,none⟩ = false:=frozen_of_row w3 _ i _ _ h.r0
theorem Two.f1 {w w3 : World} {k p e : Int} (h : Two w w3 k p e) (i : Nat) : w3.frozen? ⟨w.heap.size + 1,i,none⟩ = false:=frozen_of_row w3 _ i _ _ h.r1
theorem Two.next {w w3 w4 : World} {k p e : Int} (h : Two w w3 k p e) (h4 : Below w3.heap.size w3 w4) : Two w w4 k p e:=by
 have s0 : w.heap.size < w3.heap.size:=(Array.getElem?_eq_some_iff.1 h.r0).1
 have s1 : w.heap.size + 1 < w3.heap.size:=(Array.getElem?_eq_some_iff.1 h.r1).1
 exact ⟨h.bel.trans (h4.mono (by omega)),(h4.block _ s0).trans h.r0,(h4.block _ s1).trans h.r1⟩
structure OutX (w w5 : World) (c0 c1 c2 c3 : Value) : Prop where
 bel : Below w.heap.size w w5
 row : w5.heap[w.heap.size]? = some (.cells #[c0,c1,c2,c3] 40 (0,0))
theorem OutX.c {w w5 : World} {c0 c1 c2 c3 : Value} (h : OutX w w5 c0 c1 c2 c3) (i : Nat) : w5.cell? ⟨w.heap.size,i,none⟩ = (#[c0,c1,c2,c3] : Array Value)[i]?:=by simp [World.cell?,h.row]
theorem Two.out {w w3 : World} {k p e : Int} (h : Two w w3 k p e) (a b c0 c1 c2 c3 : Value) : OutX w ((((((w3.setCell ⟨w.heap.size + 1,1,none⟩ a).setCell ⟨w.heap.size + 1,3,none⟩ b).setCell ⟨w.heap.size,0,none⟩ c0).setCell ⟨w.heap.size,1,none⟩ c1).setCell ⟨w.heap.size,2,none⟩ c2).setCell ⟨w.heap.size,3,none⟩ c3) c0 c1 c2 c3:=by
 refine ⟨((((((h.bel.setCell (by simp) _).setCell (by simp) _).setCell (by simp) _).setCell (by simp) _).setCell (by simp) _).setCell (by simp) _),?_⟩
 simp [World.setCell,Array.getElem?_modify,h.r0]
theorem out_gen {P : Program} {F : _} {Q : Ending → World → Prop} {x : Exit} {A : Act} {w w5 : World} {c0 c1 c2 c3 : Value} (z : OutX w w5 c0 c1 c2 c3) (h : ∀ w6,OutX w w6 c0 c1 c2 c3 → bodyPost P F Q x A w6) : bodyPost P F Q x A w5:=h _ z
set_option maxRecDepth 100000 in
set_option maxHeartbeats 2000000 in
theorem one_text (s : Bs) (p : Nat) (r : Bs) (hl : s.drop p = 34 :: r) (hs : s.length ≤ 16384) (hq : List.isPrefixOf [34,34,34] (s.drop p) = false) (t : Bs) (e : Nat) (hxl : xl s (p + 1) = some (t,e)) (w : World) :
  Calls Tryz.prog 39 #[.string ⟨s.toArray⟩,.int .i64 (p : Int)] w fun e' w' => e' = .returned (.tuple #[tokV 4 t p e,.int .i64 0]) ∧ Below w.heap.size w w':=by
 have hb:=bt_drop s p 34 r hl
 have hlen:=congrArg List.length hl
 rw [List.length_drop,List.length_cons] at hlen
 have hp : p < s.length:=by omega
 have hpI : (p : Int) < (s.length : Int):=by omega
 have hD : (ByteArray.mk s.toArray).size = s.length:=rfl
 have ix:=ix_of s p
 rw [hb] at ix
 have Lt:=fun w : World => xletter_any 34 w
 have Dg:=fun w : World => xdigit_any 34 w
 rw [show letL.contains 34 = false from rfl] at Lt
 rw [show digL.contains 34 = false from rfl] at Dg
 have BB : ∀ w : World,Calls Tryz.prog 63 #[.string ⟨s.toArray⟩,.int .i64 (p : Int),.string ⟨#[34,34,34]⟩] w fun e w' => e = .returned (.bool false) ∧ w = w':=fun w => by
  have:=begins_any s p (by omega) hs [34,34,34] (by decide) w
  rw [hq] at this
  exact this.mono fun _ _ h => ⟨h.1,h.2.symm⟩
 have X : ∀ w,Calls Tryz.prog 71 #[.string ⟨s.toArray⟩,.int .i64 (p : Int)] w fun e' w' => e' = .returned (.tuple #[.string ⟨t.toArray⟩,.int .i64 (e : Int),.bool true]) ∧ Below w.heap.size w w':=fun w =>
  xtext_any (fun e' => e' = .returned (.tuple #[.string ⟨t.toArray⟩,.int .i64 (e : Int),.bool true])) s p hp hs (fun t' e' h => by rw [hxl] at h;cases h;rfl) (fun h => by rw [hxl] at h;cases h) w
 clear hb hl hlen hq hxl
 generalize (ByteArray.mk s.toArray) = D at *
 generalize hTB : (ByteArray.mk t.toArray) = TB at *
 go_enter Tryz.func39,Tryz.ntmps39
 go_wp2_with (first
  | (go_at_call 71;(with_reducible refine (X _).mono ?_);rintro e' w3 ⟨rfl,hb3⟩;have h2:=two_of hb3;have k0:=h2.c1 0;have k1:=h2.c1 1;have k2:=h2.c1 2;have k3:=h2.c1 3;have g0:=h2.f1 0;have g1:=h2.f1 1;have g2:=h2.f1 2;have g3:=h2.f1 3;have j0:=h2.f0 0;have j1:=h2.f0 1;have j2:=h2.f0 2;have j3:=h2.f0 3;have m0:=h2.c0 0;have m1:=h2.c0 1;have m2:=h2.c0 2;have m3:=h2.c0 3)
  | (go_at_call 63;(with_reducible refine (BB _).mono ?_);rintro e w0 ⟨rfl,rfl⟩)
  | (go_at_call 67;refine (Dg _).mono ?_;rintro e w0 ⟨rfl,hw⟩;subst hw)
  | (go_at_call 65;refine (Lt _).mono ?_;rintro e w0 ⟨rfl,hw⟩;subst hw)
  | fail)
 refine out_gen (h2.out _ _ _ _ _ _) ?_
 intro w6 z
 have z0:=z.c 0
 have z1:=z.c 1
 have z2:=z.c 2
 have z3:=z.c 3
 exact bodyPost_ret (by simp [results,Tryz.results39,go_sem,z0,z1,z2,z3,hTB]) rfl ⟨rfl,z.bel⟩
set_option maxRecDepth 100000 in
set_option maxHeartbeats 2000000 in
theorem one_text_no (s : Bs) (p : Nat) (r : Bs) (hl : s.drop p = 34 :: r) (hs : s.length ≤ 16384) (hq : List.isPrefixOf [34,34,34] (s.drop p) = false) (hxl : xl s (p + 1) = none) (w : World) :
  Calls Tryz.prog 39 #[.string ⟨s.toArray⟩,.int .i64 (p : Int)] w fun e' w' => e' = .returned (.tuple #[tokV 0 [] 0 0,.int .i64 52]) ∧ Below w.heap.size w w':=by
 have hb:=bt_drop s p 34 r hl
 have hlen:=congrArg List.length hl
 rw [List.length_drop,List.length_cons] at hlen
 have hp : p < s.length:=by omega
 have hpI : (p : Int) < (s.length : Int):=by omega
 have hD : (ByteArray.mk s.toArray).size = s.length:=rfl
 have ix:=ix_of s p
 rw [hb] at ix
 have Lt:=fun w : World => xletter_any 34 w
 have Dg:=fun w : World => xdigit_any 34 w
 rw [show letL.contains 34 = false from rfl] at Lt
 rw [show digL.contains 34 = false from rfl] at Dg
 have BB : ∀ w : World,Calls Tryz.prog 63 #[.string ⟨s.toArray⟩,.int .i64 (p : Int),.string ⟨#[34,34,34]⟩] w fun e w' => e = .returned (.bool false) ∧ w = w':=fun w => by
  have:=begins_any s p (by omega) hs [34,34,34] (by decide) w
  rw [hq] at this
  exact this.mono fun _ _ h => ⟨h.1,h.2.symm⟩
 have X : ∀ w,Calls Tryz.prog 71 #[.string ⟨s.toArray⟩,.int .i64 (p : Int)] w fun e' w' => (∃ a b,e' = .returned (.tuple #[.string a,.int .i64 b,.bool false])) ∧ Below w.heap.size w w':=fun w =>
  xtext_any (fun e' => ∃ a b,e' = .returned (.tuple #[.string a,.int .i64 b,.bool false])) s p hp hs (fun t' e' h => by rw [hxl] at h;cases h) (fun _ a b => ⟨a,b,rfl⟩) w
 clear hb hl hlen hq hxl
 generalize (ByteArray.mk s.toArray) = D at *
 go_enter Tryz.func39,Tryz.ntmps39
 go_wp2_with (first
  | (go_at_call 71;(with_reducible refine (X _).mono ?_);rintro e' w3 ⟨⟨ta,tb,rfl⟩,hb3⟩;have h2:=two_of hb3;have k0:=h2.c1 0;have k1:=h2.c1 1;have k2:=h2.c1 2;have k3:=h2.c1 3;have g0:=h2.f1 0;have g1:=h2.f1 1;have g2:=h2.f1 2;have g3:=h2.f1 3;have j0:=h2.f0 0;have j1:=h2.f0 1;have j2:=h2.f0 2;have j3:=h2.f0 3;have m0:=h2.c0 0;have m1:=h2.c0 1;have m2:=h2.c0 2;have m3:=h2.c0 3)
  | (go_at_call 63;(with_reducible refine (BB _).mono ?_);rintro e w0 ⟨rfl,rfl⟩)
  | (go_at_call 67;refine (Dg _).mono ?_;rintro e w0 ⟨rfl,hw⟩;subst hw)
  | (go_at_call 65;refine (Lt _).mono ?_;rintro e w0 ⟨rfl,hw⟩;subst hw)
  | fail)
 refine out_gen (h2.out _ _ _ _ _ _) ?_
 intro w6 z
 have z0:=z.c 0
 have z1:=z.c 1
 have z2:=z.c 2
 have z3:=z.c 3
 exact bodyPost_ret (by simp [results,Tryz.results39,go_sem,z0,z1,z2,z3]) rfl ⟨rfl,z.bel⟩
set_option maxRecDepth 100000 in
set_option maxHeartbeats 2000000 in
theorem one_block (s : Bs) (p : Nat) (r : Bs) (hl : s.drop p = 34 :: r) (hs : s.length ≤ 16384) (hq : List.isPrefixOf [34,34,34] (s.drop p) = true) (t : Bs) (e : Nat) (hxl : xr s (p + 3) = some (t,e)) (ht : t.length ≤ 16384) (w : World) :
  Calls Tryz.prog 39 #[.string ⟨s.toArray⟩,.int .i64 (p : Int)] w fun e' w' => e' = .returned (.tuple #[tokV 4 (blockS t) p e,.int .i64 0]) ∧ Below w.heap.size w w':=by
 have hb:=bt_drop s p 34 r hl
 have hlen:=congrArg List.length hl
 rw [List.length_drop,List.length_cons] at hlen
 have hp : p < s.length:=by omega
 have hpI : (p : Int) < (s.length : Int):=by omega
 have hD : (ByteArray.mk s.toArray).size = s.length:=rfl
 have ix:=ix_of s p
 rw [hb] at ix
 have Lt:=fun w : World => xletter_any 34 w
 have Dg:=fun w : World => xdigit_any 34 w
 rw [show letL.contains 34 = false from rfl] at Lt
 rw [show digL.contains 34 = false from rfl] at Dg
 have BB : ∀ w : World,Calls Tryz.prog 63 #[.string ⟨s.toArray⟩,.int .i64 (p : Int),.string ⟨#[34,34,34]⟩] w fun e w' => e = .returned (.bool true) ∧ w = w':=fun w => by
  have:=begins_any s p (by omega) hs [34,34,34] (by decide) w
  rw [hq] at this
  exact this.mono fun _ _ h => ⟨h.1,h.2.symm⟩
 have hp3 : p + 3 ≤ s.length:=by have:=(List.isPrefixOf_iff_prefix.1 hq).length_le;simp only [List.length_cons,List.length_nil,List.length_drop] at this;omega
 have X : ∀ w,Calls Tryz.prog 69 #[.string ⟨s.toArray⟩,.int .i64 (p : Int)] w fun e' w' => e' = .returned (.tuple #[.string ⟨t.toArray⟩,.int .i64 (e : Int),.bool true]) ∧ Below w.heap.size w w':=fun w =>
  xraw_any (fun e' => e' = .returned (.tuple #[.string ⟨t.toArray⟩,.int .i64 (e : Int),.bool true])) s p hp3 hs (fun t' e' h => by rw [hxl] at h;cases h;rfl) (fun h => by rw [hxl] at h;cases h) w
 have Y:=fun w : World => xblock_any t (by omega) w
 clear hb hl hlen hq hxl
 generalize (ByteArray.mk s.toArray) = D at *
 generalize (ByteArray.mk t.toArray) = TB at *
 go_enter Tryz.func39,Tryz.ntmps39
 go_wp2_with (first
  | (go_at_call 69;(with_reducible refine (X _).mono ?_);rintro e' w3 ⟨rfl,hb3⟩;have h1:=two_of hb3)
  | (go_at_call 70;(with_reducible refine (Y _).mono ?_);rintro e' w4 ⟨rfl,hb4⟩;have h2:=h1.next hb4;have k0:=h2.c1 0;have k1:=h2.c1 1;have k2:=h2.c1 2;have k3:=h2.c1 3;have g0:=h2.f1 0;have g1:=h2.f1 1;have g2:=h2.f1 2;have g3:=h2.f1 3;have j0:=h2.f0 0;have j1:=h2.f0 1;have j2:=h2.f0 2;have j3:=h2.f0 3;have m0:=h2.c0 0;have m1:=h2.c0 1;have m2:=h2.c0 2;have m3:=h2.c0 3)
  | (go_at_call 63;(with_reducible refine (BB _).mono ?_);rintro e w0 ⟨rfl,rfl⟩)
  | (go_at_call 67;refine (Dg _).mono ?_;rintro e w0 ⟨rfl,hw⟩;subst hw)
  | (go_at_call 65;refine (Lt _).mono ?_;rintro e w0 ⟨rfl,hw⟩;subst hw)
  | fail)
 refine out_gen (h2.out _ _ _ _ _ _) ?_
 intro w6 z
 have z0:=z.c 0
 have z1:=z.c 1
 have z2:=z.c 2
 have z3:=z.c 3
 exact bodyPost_ret (by simp [results,Tryz.results39,go_sem,z0,z1,z2,z3]) rfl ⟨rfl,z.bel⟩
set_option maxRecDepth 100000 in
set_option maxHeartbeats 2000000 in
theorem one_block_no (s : Bs) (p : Nat) (r : Bs) (hl : s.drop p = 34 :: r) (hs : s.length ≤ 16384) (hq : List.isPrefixOf [34,34,34] (s.drop p) = true) (hxl : xr s (p + 3) = none) (w : World) :
  Calls Tryz.prog 39 #[.string ⟨s.toArray⟩,.int .i64 (p : Int)] w fun e' w' => e' = .returned (.tuple #[tokV 0 [] 0 0,.int .i64 52]) ∧ Below w.heap.size w w':=by
 have hb:=bt_drop s p 34 r hl
 have hlen:=congrArg List.length hl
 rw [List.length_drop,List.length_cons] at hlen
 have hp : p < s.length:=by omega
 have hpI : (p : Int) < (s.length : Int):=by omega
 have hD : (ByteArray.mk s.toArray).size = s.length:=rfl
 have ix:=ix_of s p
 rw [hb] at ix
 have Lt:=fun w : World => xletter_any 34 w
 have Dg:=fun w : World => xdigit_any 34 w
 rw [show letL.contains 34 = false from rfl] at Lt
 rw [show digL.contains 34 = false from rfl] at Dg
 have BB : ∀ w : World,Calls Tryz.prog 63 #[.string ⟨s.toArray⟩,.int .i64 (p : Int),.string ⟨#[34,34,34]⟩] w fun e w' => e = .returned (.bool true) ∧ w = w':=fun w => by
  have:=begins_any s p (by omega) hs [34,34,34] (by decide) w
  rw [hq] at this
  exact this.mono fun _ _ h => ⟨h.1,h.2.symm⟩
 have hp3 : p + 3 ≤ s.length:=by have:=(List.isPrefixOf_iff_prefix.1 hq).length_le;simp only [List.length_cons,List.length_nil,List.length_drop] at this;omega
 have X : ∀ w,Calls Tryz.prog 69 #[.string ⟨s.toArray⟩,.int .i64 (p : Int)] w fun e' w' => (∃ b,e' = .returned (.tuple #[.string ⟨#[]⟩,.int .i64 b,.bool false])) ∧ Below w.heap.size w w':=fun w =>
  xraw_any (fun e' => ∃ b,e' = .returned (.tuple #[.string ⟨#[]⟩,.int .i64 b,.bool false])) s p hp3 hs (fun t' e' h => by rw [hxl] at h;cases h) (fun _ b => ⟨b,rfl⟩) w
 have Y:=fun w : World => xblock_any [] (by simp) w
 clear hb hl hlen hq hxl
 generalize (ByteArray.mk s.toArray) = D at *
 go_enter Tryz.func39,Tryz.ntmps39
 go_wp2_with (first
  | (go_at_call 69;(with_reducible refine (X _).mono ?_);rintro e' w3 ⟨⟨tb,rfl⟩,hb3⟩;have h1:=two_of hb3)
  | (go_at_call 70;(with_reducible refine (Y _).mono ?_);rintro e' w4 ⟨rfl,hb4⟩;have h2:=h1.next hb4;have k0:=h2.c1 0;have k1:=h2.c1 1;have k2:=h2.c1 2;have k3:=h2.c1 3;have g0:=h2.f1 0;have g1:=h2.f1 1;have g2:=h2.f1 2;have g3:=h2.f1 3;have j0:=h2.f0 0;have j1:=h2.f0 1;have j2:=h2.f0 2;have j3:=h2.f0 3;have m0:=h2.c0 0;have m1:=h2.c0 1;have m2:=h2.c0 2;have m3:=h2.c0 3)
  | (go_at_call 63;(with_reducible refine (BB _).mono ?_);rintro e w0 ⟨rfl,rfl⟩)
  | (go_at_call 67;refine (Dg _).mono ?_;rintro e w0 ⟨rfl,hw⟩;subst hw)
  | (go_at_call 65;refine (Lt _).mono ?_;rintro e w0 ⟨rfl,hw⟩;subst hw)
  | fail)
 refine out_gen (h2.out _ _ _ _ _ _) ?_
 intro w6 z
 have z0:=z.c 0
 have z1:=z.c 1
 have z2:=z.c 2
 have z3:=z.c 3
 exact bodyPost_ret (by simp [results,Tryz.results39,go_sem,z0,z1,z2,z3]) rfl ⟨rfl,z.bel⟩
end
section
open Go Go.RowKit
attribute [local irreducible] srcB unitS
theorem xlF_le (s : Bs) : ∀ (n i : Nat) (t : Bs) (e : Nat),xlF s n i = some (t,e) → e ≤ s.length:=by
 intro n
 induction n with
 | zero => intro i t e h;cases h
 | succ n ih =>
  intro i t e h
  unfold xlF at h
  cases hs : srcC s i with
  | none => rw [hs] at h;cases h
  | some k =>
   rw [hs] at h
   have hH:=hs
   rw [srcC_H] at hH
   obtain ⟨k1,k2,_,_⟩:=srcH_facts hH
   rw [List.length_drop] at k2
   simp only at h
   split at h
   ·cases h
   ·split at h
    ·cases h;omega
    ·split at h
     ·split at h
      ·cases h
      ·obtain ⟨q,hq,he⟩:=Option.map_eq_some_iff.1 h
       cases he
       exact ih _ q.1 q.2 hq
     ·obtain ⟨q,hq,he⟩:=Option.map_eq_some_iff.1 h
      cases he
      exact ih _ q.1 q.2 hq
theorem xrF_le (s : Bs) : ∀ (n i : Nat) (t : Bs) (e : Nat),xrF s n i = some (t,e) → e ≤ s.length:=by
 intro n
 induction n with
 | zero => intro i t e h;cases h
 | succ n ih =>
  intro i t e h
  unfold xrF at h
  by_cases h4 : List.isPrefixOf [92,34,34,34] (s.drop i) = true
  ·rw [if_pos h4] at h
   obtain ⟨q,hq,he⟩:=Option.map_eq_some_iff.1 h
   cases he
   exact ih _ q.1 q.2 hq
  ·rw [if_neg h4] at h
   by_cases h3 : List.isPrefixOf [34,34,34] (s.drop i) = true
   ·rw [if_pos h3] at h
    have:=(pre_pos h3).resolve_right (by simp)
    cases h
    simpa using this
   ·rw [if_neg h3] at h
    cases hs : srcC s i with
    | none => rw [hs] at h;cases h
    | some k =>
     rw [hs] at h
     simp only at h
     obtain ⟨q,hq,he⟩:=Option.map_eq_some_iff.1 h
     cases he
     exact ih _ q.1 q.2 hq
theorem textR_line {r : Bs} (hq : List.isPrefixOf [34,34,34] (34 :: r) = false) : textR (34 :: r) = lineS r:=by
 unfold textR
 rw [if_neg (by rw [hq];simp),List.drop_one,List.tail_cons]
 unfold lineS
 exact lineF_fuel _ _ r (by rw [List.length_cons];omega) (by omega)
theorem ahead_line {r t m : Bs} (h : lineS r = some (t,m)) : ahead (34 :: r) m = 34 :: ahead r m:=by
 have ha:=(line_ahead h).1
 conv => lhs;rw [ha]
 rw [← List.cons_append,ahead_app]
theorem cut_same {α : Type} (a b : Option Nat) (h : a = none ↔ b = none) (x : α) : (if a.isSome then none else some x) = if b.isSome then none else some x:=by
 cases a with
 | none => rw [h.1 rfl]
 | some i => cases b with
  | none => cases h.2 rfl
  | some j => rfl
theorem textS_lineC {r : Bs} (hq : List.isPrefixOf [34,34,34] (34 :: r) = false) : textS (34 :: r) = lineC r:=by
 unfold textS lineC
 rw [textR_line hq]
 cases h : lineS r with
 | none => rw [Option.bind_none,Option.bind_none]
 | some q =>
  obtain ⟨t,m⟩:=q
  rw [Option.bind_some,Option.bind_some]
  simp only
  rw [ahead_line h]
  exact cut_same _ _ (plain_iff 34 (by decide) (ahead r m)) _
theorem textS_line (s : Bs) (p : Nat) (r : Bs) (hl : s.drop p = 34 :: r) (hq : List.isPrefixOf [34,34,34] (s.drop p) = false) :
  textS (s.drop p) = (xl s (p + 1)).map fun q => (q.1,s.drop q.2):=by
 have hr : s.drop (p + 1) = r:=by rw [← List.drop_drop,hl,List.drop_one,List.tail_cons]
 rw [hl] at hq ⊢
 rw [textS_lineC hq,← hr]
 exact (xl_line s (s.length - (p + 1) + 1) (p + 1) (by omega)).symm
theorem textS_raw (s : Bs) (p : Nat) (hq : List.isPrefixOf [34,34,34] (s.drop p) = true) :
  textS (s.drop p) = (xr s (p + 3)).map fun q => (blockS q.1,s.drop q.2):=by
 obtain ⟨r,hm⟩:=List.isPrefixOf_iff_prefix.1 hq
 have hl : s.drop p = 34 :: 34 :: 34 :: r:=hm.symm
 have hr : s.drop (p + 3) = r:=by rw [← List.drop_drop,hl];rfl
 have hx:=xr_raw s (s.length - (p + 3) + 1) (p + 3) (by omega)
 rw [hr] at hx
 have hT : textR (s.drop p) = (rawS r).map fun q => (blockS q.1,q.2):=by
  unfold textR
  rw [if_pos hq,hl]
  rw [rawF_fuel _ (r.length + 1) _ (by simp;omega) (by simp)]
  rfl
 have hy : ((xr s (p + 3)).map fun q => (blockS q.1,s.drop q.2)) = (rawC r).map fun q => (blockS q.1,q.2):=by
  rw [← hx,Option.map_map]
  rfl
 rw [hy]
 unfold textS rawC
 rw [hT,hl]
 cases h : rawS r with
 | none => rfl
 | some q =>
  obtain ⟨t,m⟩:=q
  have ha:=raw_ahead h
  have hh : ahead (34 :: 34 :: 34 :: r) m = 34 :: 34 :: 34 :: ahead r m:=by
   conv => lhs;rw [ha.1]
   rw [← List.cons_append,← List.cons_append,← List.cons_append,ahead_app]
  rw [Option.map_some,Option.bind_some,Option.bind_some]
  simp only
  rw [hh]
  have:=((plain_iff 34 (by decide) (34 :: 34 :: ahead r m)).trans (plain_iff 34 (by decide) (34 :: ahead r m))).trans (plain_iff 34 (by decide) (ahead r m))
  by_cases h0 : srcB (ahead r m) = none
  ·rw [if_neg (by rw [this.2 h0];simp),if_neg (by rw [h0];simp)]
   rfl
  ·rw [if_pos (by rw [isSome_iff];exact fun h1 => h0 (this.1 h1)),if_pos (by rw [isSome_iff];exact h0)]
   rfl
theorem xr_short {s t : Bs} {i e : Nat} (h : xr s i = some (t,e)) : t.length ≤ s.length:=by
 have hx:=xr_raw s (s.length - i + 1) i (by omega)
 rw [show xrF s (s.length - i + 1) i = some (t,e) from h,Option.map_some] at hx
 unfold rawC at hx
 obtain ⟨q,hq,hb⟩:=Option.bind_eq_some_iff.1 hx.symm
 split at hb
 ·cases hb
 ·cases hb
  have:=(rawF_facts _ _ _ _ hq).2
  rw [List.length_drop] at this
  simp only at this
  omega
theorem tokS_textX (l r : Bs) (hl : l = 34 :: r) : tokS l = match textS l with | none => .bad 52 | some p => .ok 4 p.1 p.2:=by
 subst hl
 rfl
def One (s : Bs) (p : Nat) (w : World) (e : Ending) (w' : World) : Prop:=e = .returned (.tuple #[(oneV s p).1,.int .i64 (oneV s p).2]) ∧ Below w.heap.size w w'
theorem oneV_ok {s t r : Bs} {p : Nat} {k : Int} (h : tokS (s.drop p) = .ok k t r) : oneV s p = (tokV k t p (s.length - r.length),0):=by unfold oneV;rw [h]
theorem oneV_bad {s : Bs} {p : Nat} {e : Int} (h : tokS (s.drop p) = .bad e) : oneV s p = (tokV 0 [] 0 0,e):=by unfold oneV;rw [h]
theorem one_ok {s t r : Bs} {p b : Nat} {k : Int} {w : World} (h : tokS (s.drop p) = .ok k t r) (hb : b = s.length - r.length)
  (C : Calls Tryz.prog 39 #[.string ⟨s.toArray⟩,.int .i64 (p : Int)] w fun e w' => e = .returned (.tuple #[tokV k t p b,.int .i64 0]) ∧ Below w.heap.size w w') : Calls Tryz.prog 39 #[.string ⟨s.toArray⟩,.int .i64 (p : Int)] w (One s p w):=by
 refine C.mono fun e w' h' => ?_
 unfold One
 rw [oneV_ok h,← hb]
 exact h'
theorem one_err {s : Bs} {p : Nat} {x : Int} {w : World} (h : tokS (s.drop p) = .bad x)
  (C : Calls Tryz.prog 39 #[.string ⟨s.toArray⟩,.int .i64 (p : Int)] w fun e w' => e = .returned (.tuple #[tokV 0 [] 0 0,.int .i64 x]) ∧ Below w.heap.size w w') : Calls Tryz.prog 39 #[.string ⟨s.toArray⟩,.int .i64 (p : Int)] w (One s p w):=by
 refine C.mono fun e w' h' => ?_
 unfold One
 rw [oneV_bad h]
 exact h'
theorem oneS_any (s : Bs) (p : Nat) (hp : p < s.length) (hs : s.length ≤ 16384) (w : World) : Calls Tryz.prog 39 #[.string ⟨s.toArray⟩,.int .i64 (p : Int)] w (One s p w):=by
 cases hl : s.drop p with
 | nil => have:=congrArg List.length hl;rw [List.length_drop] at this;simp at this;omega
 | cons x r =>
  have hlen:=congrArg List.length hl
  rw [List.length_drop,List.length_cons] at hlen
  by_cases g0 : punL.contains x = true
  ·have ht : tokS (s.drop p) = .ok 0 [x] r:=by
    rw [hl]
    unfold tokS wrt
    rw [if_pos (show headIn punL (x :: r) = true from g0)]
    rw [show List.drop 1 (x :: r) = r from rfl,show x :: r = [x] ++ r from rfl,ahead_app]
   exact one_ok ht (by omega) (one_pun s p x r hl hs g0 w)
  ·have g0' : punL.contains x = false:=by simpa using g0
   by_cases gd : List.isPrefixOf [46,46,46] (s.drop p) = true
   ·have ht : tokS (s.drop p) = .ok 0 [46,46,46] ((s.drop p).drop 3):=by
     obtain ⟨m,hm⟩:=List.isPrefixOf_iff_prefix.1 gd
     unfold tokS wrt
     rw [if_neg (by rw [hl];exact g0),if_pos gd,← hm]
     rw [show List.drop 3 ([46,46,46] ++ m) = m from rfl,ahead_app]
    have:=(pre_pos gd).resolve_right (by simp)
    simp only [List.length_cons,List.length_nil] at this
    exact one_ok ht (by rw [List.length_drop,List.length_drop];omega) (one_dots s p hs gd w)
   ·have gd' : List.isPrefixOf [46,46,46] (s.drop p) = false:=Bool.eq_false_iff.2 gd
    by_cases g1 : letL.contains x = true
    ·have hn : nmN r ≤ r.length:=(List.takeWhile_prefix _).length_le
     have ht : tokS (s.drop p) = .ok 1 ((s.drop p).take (1 + nmN r)) (r.drop (nmN r)):=by
      unfold tokS wrt
      rw [if_neg (by rw [hl];exact g0),if_neg gd,if_pos (by rw [hl];exact g1),hl]
      rw [show List.drop 1 (x :: r) = r from rfl,show (letL ++ digL) = nmL from rfl,span_nm]
      unfold ahead
      rw [List.length_drop,List.length_cons,show r.length + 1 - (r.length - nmN r) = 1 + nmN r by omega]
     exact one_ok ht (by rw [List.length_drop];omega) (one_name s p x r hl hs g1 w)
    ·have g1' : letL.contains x = false:=by simpa using g1
     by_cases g2 : x = 45 ∨ digL.contains x = true
     ·have C:=one_num s p x r hl hs g2 w
      have ht : tokS (s.drop p) = (match numS (s.drop p) with | none => .bad 51 | some q => wrt q.1 (s.drop p) q.2):=by
       have : headIn (45 :: digL) (s.drop p) = true:=by
        rw [hl]
        show (45 :: digL).contains x = true
        rcases g2 with g | g
        ·rw [g];rfl
        ·exact List.contains_iff_mem.2 (List.mem_cons_of_mem _ (List.contains_iff_mem.1 g))
       unfold tokS
       rw [if_neg (by rw [hl];exact g0),if_neg gd,if_neg (by rw [hl];exact g1),if_pos this]
       cases numS (s.drop p) <;> rfl
      cases hn : numS (s.drop p) with
      | none => rw [hn] at C ht;exact one_err ht C
      | some q => rw [hn] at C ht;exact one_ok ht rfl C
     ·have g2' : digL.contains x = false:=by cases h : digL.contains x with | false => rfl | true => exact absurd (Or.inr h) g2
      have g3 : x ≠ 45:=fun h => g2 (Or.inl h)
      by_cases g4 : x = 34
      ·subst g4
       have ht:=tokS_textX _ r hl
       by_cases hq : List.isPrefixOf [34,34,34] (s.drop p) = true
       ·rw [textS_raw s p hq] at ht
        cases hx : xr s (p + 3) with
        | none => rw [hx] at ht;exact one_err ht (one_block_no s p r hl hs hq hx w)
        | some q =>
         obtain ⟨t,e⟩:=q
         rw [hx] at ht
         have:=xrF_le s _ _ _ _ hx
         exact one_ok ht (by rw [List.length_drop];omega) (one_block s p r hl hs hq t e hx (by have:=xr_short hx;omega) w)
       ·have hq' : List.isPrefixOf [34,34,34] (s.drop p) = false:=Bool.eq_false_iff.2 hq
        rw [textS_line s p r hl hq'] at ht
        cases hx : xl s (p + 1) with
        | none => rw [hx] at ht;exact one_err ht (one_text_no s p r hl hs hq' hx w)
        | some q =>
         obtain ⟨t,e⟩:=q
         rw [hx] at ht
         have:=xlF_le s _ _ _ _ hx
         exact one_ok ht (by rw [List.length_drop];omega) (one_text s p r hl hs hq' t e hx w)
      ·have ht : tokS (s.drop p) = .bad 50:=by
        unfold tokS
        rw [if_neg (by rw [hl];exact g0),if_neg gd,if_neg (by rw [hl];exact g1)]
        rw [if_neg (by rw [hl];show ¬ (45 :: digL).contains x = true;rw [List.contains_iff_mem];intro h;rcases List.mem_cons.1 h with h | h;exact g3 h;exact g2 (Or.inr (List.contains_iff_mem.2 h)))]
        rw [if_neg (by rw [hl];show ¬ [34].contains x = true;rw [List.contains_iff_mem];intro h;exact g4 (List.mem_singleton.1 h))]
       exact one_err ht (one_bad s p x r hl hs g0' g1' g2' g3 g4 gd' w)
end
section
open Go Go.RowKit
attribute [local irreducible] srcB unitS
theorem tokS_ne {l : Bs} {e : Int} (h : tokS l = .bad e) : e ≠ 0:=by
 unfold tokS wrt at h
 split at h
 ·cases h
 ·split at h
  ·cases h
  ·split at h
   ·cases h
   ·split at h
    ·split at h
     ·cases h;decide
     ·cases h
    ·split at h
     ·split at h
      ·cases h;decide
      ·cases h
     ·cases h;decide
theorem suf_cut {s m : Bs} {j : Nat} (h : m <:+ s.drop j) : s.drop (s.length - m.length) = m:=by
 obtain ⟨x,hx⟩:=h.trans (List.drop_suffix j s)
 rw [← hx,List.length_append,Nat.add_sub_cancel]
 simp
structure TK (s : Bs) (w wr : World) (j : Nat) (v : Value) (pre : List Tok) : Prop where
 row : Toks wr w.heap.size v pre
 few : pre.length ≤ 2048
 jle : j ≤ s.length
 nn : v ≠ .slice none 0 0
 bel : Below w.heap.size w wr
 res : lexG s.length 0 s = withL pre (lexG s.length pre.length (s.drop j))
theorem own_tok (w : World) : Toks (w.alloc (.cells #[] 40)) w.heap.size (.slice (some ⟨w.heap.size,0,none⟩) 0 0) [] :=
 ⟨rfl,Or.inr ⟨w.heap.size,0,#[],rfl,Nat.le_refl _,heap_alloc_new _ _,Nat.le_refl _,Nat.zero_le _,rfl,rfl⟩⟩
theorem not_noneT {w : World} {B e z n : Nat} {v : Value} {xs : List Value} (h : w.ownsRow B e z v n xs) (hn : v ≠ .slice none 0 0) : ∃ g cap,v = .slice (some ⟨g,0,none⟩) n cap:=by
 rcases h.2 with ⟨h1,_⟩ | ⟨g,cap,cur,h1,_⟩
 ·exact absurd h1 hn
 ·exact ⟨g,cap,h1⟩
set_option maxRecDepth 100000 in
set_option maxHeartbeats 2000000 in
theorem xtokens_short (s : Bs) (hs : s.length ≤ 16384) (w : World) : Calls Tryz.prog 21 #[.string ⟨s.toArray⟩] w (TokensP w (lexG s.length 0 s)):=by
 obtain ⟨i1,hi1,hy0,hy1,hy2⟩:=info_parts Tryz.infoTok
 have hD : (ByteArray.mk s.toArray).size = s.length:=rfl
 have hsI : ¬ (16384 : Int) < (s.length : Int):=by omega
 generalize hDD : (ByteArray.mk s.toArray) = D at *
 have HD : Hid ((ByteArray.mk s.toArray) = D):=hDD
 clear hDD
 go_enter Tryz.func21,Tryz.ntmps21
 go_wp2
 go_loopw [5,6] (fun l i wr => ∃ (j : Nat) (v : Value) (pre : List Tok),l = v ∧ i = .int .i64 (j : Int) ∧ TK s w wr j v pre) (fun _ i _ => s.length - (RowKit.intOf i).toNat)
 case atStart => exact ⟨0,_,[],rfl,rfl,own_tok w,by simp,by omega,by simp,(Below.refl _ _).alloc (Nat.le_refl _) _,(withL_nil _).symm⟩
 case round =>
  obtain ⟨j,v,pre,rfl,rfl,hT⟩:=hrel
  obtain ⟨hob,hfew,hj,hnn,hbr,hres⟩:=hT
  have HR : Hid (lexG s.length 0 s = withL pre (lexG s.length pre.length (s.drop j))):=hres
  clear hres
  obtain ⟨g9,cap9,rfl⟩:=not_noneT hob hnn
  cases hk : skipS (s.drop j) with
  | inr k =>
   have S : ∀ w,Calls Tryz.prog 38 #[.string D,.int .i64 (j : Int)] w fun e w' => e = .returned (.tuple #[.int .i64 ((s.length - k : Nat) : Int),.bool false]) ∧ Below w.heap.size w w':=fun w => by
    have:=xskip_any (fun e => e = .returned (.tuple #[.int .i64 ((s.length - k : Nat) : Int),.bool false])) s j hj hs (fun m h => by rw [hk] at h;cases h) (fun k' h => by rw [hk] at h;cases h;rfl) w
    rw [HD.out] at this
    exact this
   have HX : Hid (lexG s.length 0 s = .inl (s.length - k,50)):=by rw [Hid,HR.out,lexG_wrong hk];rfl
   clear hk
   generalize s.length - k = q at *
   go_wp2_with (first
    | (go_at_call 38;(with_reducible refine (S _).mono ?_);rintro e w1 ⟨rfl,hb1⟩;have hbr1:=hbr.trans (hb1.mono hbr.size))
    | fail)
   go_ret3
   rw [HX.out]
   exact ⟨rfl,hbr1⟩
  | inl m =>
   have hm:=skipS_suf hk
   have hml:=hm.length_le
   rw [List.length_drop] at hml
   have hmd:=suf_cut hm
   have S : ∀ w,Calls Tryz.prog 38 #[.string D,.int .i64 (j : Int)] w fun e w' => e = .returned (.tuple #[.int .i64 ((s.length - m.length : Nat) : Int),.bool true]) ∧ Below w.heap.size w w':=fun w => by
    have:=xskip_any (fun e => e = .returned (.tuple #[.int .i64 ((s.length - m.length : Nat) : Int),.bool true])) s j hj hs (fun m' h => by rw [hk] at h;cases h;rfl) (fun k' h => by rw [hk] at h;cases h) w
    rw [HD.out] at this
    exact this
   cases m with
   | nil =>
    have HX : Hid (lexG s.length 0 s = .inr pre):=by rw [Hid,HR.out,lexG_end hk];simp [withL]
    rw [List.length_nil,Nat.sub_zero] at S
    clear hk hm hml hmd
    go_wp2_with (first
     | (go_at_call 38;(with_reducible refine (S _).mono ?_);rintro e w1 ⟨rfl,hb1⟩;have hbr1:=hbr.trans (hb1.mono hbr.size);have hob1:=owns_belowX hob hb1)
     | fail)
    go_ret3
    rw [HX.out]
    exact ⟨⟨_,rfl,hob1⟩,hbr1⟩
   | cons x l1 =>
    rw [List.length_cons] at hml
    by_cases hc : pre.length = 2048
    ·have HX : Hid (lexG s.length 0 s = .inl (s.length - (x :: l1).length,53)):=by rw [Hid,HR.out,lexG_many hk hc];rfl
     have hq : s.length - (x :: l1).length < s.length:=by rw [List.length_cons];omega
     clear hk hm hml hmd
     generalize s.length - (x :: l1).length = q at *
     have hqI : (q : Int) < (s.length : Int):=by omega
     go_wp2_with (first
      | (go_at_call 38;(with_reducible refine (S _).mono ?_);rintro e w1 ⟨rfl,hb1⟩;have hbr1:=hbr.trans (hb1.mono hbr.size))
      | fail)
     go_ret3
     rw [HX.out]
     exact ⟨rfl,hbr1⟩
    ·have hq : s.length - (x :: l1).length < s.length:=by rw [List.length_cons];omega
     have hqj : j ≤ s.length - (x :: l1).length:=by rw [List.length_cons];omega
     have hc2 : pre.length < 2048:=by omega
     cases ht : tokS (x :: l1) with
     | bad e =>
      have HX : Hid (lexG s.length 0 s = .inl (s.length - (x :: l1).length,e)):=by rw [Hid,HR.out,lexG_bad hk hc ht];rfl
      have he:=tokS_ne ht
      have O : ∀ w,Calls Tryz.prog 39 #[.string D,.int .i64 ((s.length - (x :: l1).length : Nat) : Int)] w fun e' w' => e' = .returned (.tuple #[tokV 0 [] 0 0,.int .i64 e]) ∧ Below w.heap.size w w':=fun w => by
       have:=oneS_any s (s.length - (x :: l1).length) hq hs w
       rw [HD.out] at this
       refine this.mono fun _ _ h => ?_
       unfold One at h
       rw [oneV_bad (by rw [hmd];exact ht)] at h
       exact h
      clear hk hm hml hmd ht hqj
      generalize s.length - (x :: l1).length = q at *
      have hqI : (q : Int) < (s.length : Int):=by omega
      go_wp2_with (first
       | (go_at_call 38;(with_reducible refine (S _).mono ?_);rintro e1 w1 ⟨rfl,hb1⟩;have hbr1:=hbr.trans (hb1.mono hbr.size))
       | (go_at_call 39;(with_reducible refine (O _).mono ?_);rintro e2 w2 ⟨rfl,hb2⟩;have hbr2:=hbr1.trans (hb2.mono hbr1.size))
       | fail)
      go_ret3
      rw [HX.out]
      exact ⟨rfl,hbr2.alloc hbr2.size _⟩
     | ok k t r =>
      have hf:=tokS_facts ht
      have hr : s.drop (s.length - r.length) = r:=suf_cut (hf.1.trans hm)
      have hrl:=hf.2
      rw [List.length_cons] at hrl
      have HX : Hid (lexG s.length 0 s = withL (pre ++ [⟨k,t,s.length - (x :: l1).length,s.length - r.length⟩]) (lexG s.length (pre.length + 1) (s.drop (s.length - r.length)))):=by
       rw [Hid,HR.out,lexG_ok hk hc ht,withL_withL,hr]
      have O : ∀ w,Calls Tryz.prog 39 #[.string D,.int .i64 ((s.length - (x :: l1).length : Nat) : Int)] w fun e' w' => e' = .returned (.tuple #[tokV k t (s.length - (x :: l1).length) (s.length - r.length),.int .i64 0]) ∧ Below w.heap.size w w':=fun w => by
       have:=oneS_any s (s.length - (x :: l1).length) hq hs w
       rw [HD.out] at this
       refine this.mono fun _ _ h => ?_
       unfold One at h
       rw [oneV_ok (by rw [hmd];exact ht)] at h
       exact h
      have hqb : s.length - (x :: l1).length < s.length - r.length:=by rw [List.length_cons];omega
      have hbl : s.length - r.length ≤ s.length:=by omega
      clear hk hm hml hmd ht hf hr hrl
      generalize s.length - (x :: l1).length = q at *
      generalize s.length - r.length = b at *
      have hqI : (q : Int) < (s.length : Int):=by omega
      go_wp2_with (first
       | (go_at_call 38;(with_reducible refine (S _).mono ?_);rintro e1 w1 ⟨rfl,hb1⟩;have hbr1:=hbr.trans (hb1.mono hbr.size);have hob1:=owns_belowX hob hb1)
       | (go_at_call 39;(with_reducible refine (O _).mono ?_);rintro e2 w2 ⟨rfl,hb2⟩;have hbr2:=hbr1.trans (hb2.mono hbr1.size);have hob2:=owns_belowX hob1 hb2)
       | (at_builtin;refine wpList_append_own _ rfl _ _ 33 rfl w.heap.size 40 i1 _ 4 40 Tryz.underlying33 hi1 hy0 hy1 hy2 rfl (by decide) _ _ _ rfl ((hob2.alloc _).alloc _) ⟨w2.heap.size + 1,0,none⟩ 1 1 [.int .i64 k,.string ⟨t.toArray⟩,.int .i64 (q : Int),.int .i64 (b : Int)] rfl rfl ?c1 ?c2 ?c3 ?c4 ?c5 ?_)
       | fail)
      case c1 =>
       intro i u hu
       rw [show w2.heap.size + 1 = (w2.alloc (.cells #[.int .i64 k,.string ⟨t.toArray⟩,.int .i64 (q : Int),.int .i64 (b : Int)] 40)).heap.size by simp,cell_new]
       simpa using hu
      case c2 => simp [Value.oneCell']
      case c3 =>
       have : (2049 : Nat) ≤ maxLen:=by decide
       omega
      case c4 => omega
      case c5 => have:=hbr2.size;simp;omega
      intro v' w4 hown' hgrow hnil
      have hbr3 : Below w.heap.size w ((w2.alloc (.cells #[.int .i64 k,.string ⟨t.toArray⟩,.int .i64 (q : Int),.int .i64 (b : Int)] 40)).alloc (.cells #[.int .i64 k,.string ⟨t.toArray⟩,.int .i64 (q : Int),.int .i64 (b : Int)] 40)):=(hbr2.alloc hbr2.size _).alloc (by have:=hbr2.size;simp;omega) _
      have hbr4 : Below w.heap.size w w4:=hbr3.grown hgrow hbr3.size (own_ge hob2)
      have hlt:=(toks_block hob2 (g:=g9) rfl).1
      have hT4 : w4.heap[w2.heap.size]? = some (.cells #[.int .i64 k,.string ⟨t.toArray⟩,.int .i64 (q : Int),.int .i64 (b : Int)] 40 (0,0)):=by
       rw [hgrow.block _ (by simp;omega) (by simp [Value.ownBlock];omega),Below.heap_alloc _ _ _ (by simp)]
       exact heap_alloc_new _ _
      have k3 : w4.cell? ⟨w2.heap.size,3,none⟩ = some (.int .i64 (b : Int)):=by simp [World.cell?,hT4]
      have HG : Hid (Toks w4 w.heap.size v' (pre ++ [⟨k,t,q,b⟩])):=by
       show World.ownsRow _ _ _ _ _ (pre ++ [_]).length (cellsT (pre ++ [_]))
       rw [cellsT_snoc,List.length_append]
       exact hown'
      clear hown' hgrow hT4 hbr3
      go_wp2
      refine ⟨⟨b,v',pre ++ [⟨k,t,q,b⟩],rfl,rfl,HG.out,by rw [List.length_append];simp;omega,hbl,hnil,hbr4,?_⟩,?_⟩
      ·rw [HX.out,List.length_append]
       rfl
      ·simp [RowKit.intOf]
       omega
set_option maxRecDepth 100000 in
set_option maxHeartbeats 2000000 in
theorem xtokens_long (s : Bs) (hs : 16384 < s.length) (w : World) : Calls Tryz.prog 21 #[.string ⟨s.toArray⟩] w (TokensP w (.inl (0,54))):=by
 have hD : (ByteArray.mk s.toArray).size = s.length:=rfl
 have hsI : (16384 : Int) < (s.length : Int):=by omega
 generalize (ByteArray.mk s.toArray) = D at *
 go_enter Tryz.func21,Tryz.ntmps21
 go_wp2
 go_ret3
 exact ⟨rfl,Below.refl _ _⟩
theorem xtokens_any (s : Bs) (w : World) : Calls Tryz.prog 21 #[.string ⟨s.toArray⟩] w (TokensP w (lexS s)):=by
 unfold lexS
 by_cases h : 16384 < s.length
 ·rw [if_pos h];exact xtokens_long s h w
 ·rw [if_neg h];exact xtokens_short s (by omega) w
end
end Go.Proofs.YtgppemlciohjcaaGreatDoor
