/- The document's own Letter, Digit, begins, Source, run. -/
import Derived.Test.YtgppemlciohjcaaGreatDoorB31
import Derived.Test.YtgppemlciohjcaaGreatDoorB32
import Derived.Deep.DeepCutAuto
namespace Go.Proofs.YtgppemlciohjcaaGreatDoor
section
open Go Go.RowKit
theorem dig_is (x : UInt8) : digL.contains x = decide (48 ≤ x.toNat ∧ x.toNat ≤ 57):=by
 have h : ∀ n : _root_.Fin 256,digL.contains (UInt8.ofNat n.1) = decide (48 ≤ n.1 ∧ n.1 ≤ 57):=by decide +kernel
 have:=h ⟨x.toNat,x.toNat_lt⟩
 simpa using this
theorem let_is (x : UInt8) : letL.contains x = decide ((97 ≤ x.toNat ∧ x.toNat ≤ 122) ∨ (65 ≤ x.toNat ∧ x.toNat ≤ 90) ∨ x.toNat = 95):=by
 have h : ∀ n : _root_.Fin 256,letL.contains (UInt8.ofNat n.1) = decide ((97 ≤ n.1 ∧ n.1 ≤ 122) ∨ (65 ≤ n.1 ∧ n.1 ≤ 90) ∨ n.1 = 95):=by decide +kernel
 have:=h ⟨x.toNat,x.toNat_lt⟩
 simpa using this
set_option maxHeartbeats 1000000 in
theorem xdigit_any (x : UInt8) (w : World) : Calls Tryz.prog 67 #[.int .u8 (x.toNat : Int)] w fun e w' => e = .returned (.bool (digL.contains x)) ∧ w' = w:=by
 rw [dig_is]
 have h0 : (0 : Int) ≤ (x.toNat : Int):=by omega
 obtain ⟨c,hc⟩ : ∃ c : Int,c = (x.toNat : Int):=⟨_,rfl⟩
 have e : decide (48 ≤ x.toNat ∧ x.toNat ≤ 57) = decide (48 ≤ c ∧ c ≤ 57):=by rw [hc];congr 1;apply propext;omega
 rw [e,← hc]
 rw [← hc] at h0
 clear hc e
 go_enter Tryz.func67,Tryz.ntmps67
 go_wp2
 all_goals (go_ret;refine ⟨ret_bool ?_,rfl⟩;go_light;first | (symm;simp;done) | (symm;simp;omega) | (rw [Bool.eq_iff_iff];simp;omega))
set_option maxHeartbeats 1000000 in
theorem xletter_any (x : UInt8) (w : World) : Calls Tryz.prog 65 #[.int .u8 (x.toNat : Int)] w fun e w' => e = .returned (.bool (letL.contains x)) ∧ w' = w:=by
 rw [let_is]
 have h0 : (0 : Int) ≤ (x.toNat : Int):=by omega
 obtain ⟨c,hc⟩ : ∃ c : Int,c = (x.toNat : Int):=⟨_,rfl⟩
 have e : decide ((97 ≤ x.toNat ∧ x.toNat ≤ 122) ∨ (65 ≤ x.toNat ∧ x.toNat ≤ 90) ∨ x.toNat = 95) = decide ((97 ≤ c ∧ c ≤ 122) ∨ (65 ≤ c ∧ c ≤ 90) ∨ c = 95):=by rw [hc];congr 1;apply propext;omega
 rw [e,← hc]
 rw [← hc] at h0
 clear hc e
 go_enter Tryz.func65,Tryz.ntmps65
 go_wp2
 all_goals (go_ret;refine ⟨ret_bool ?_,rfl⟩;go_light;first | (symm;simp;done) | (symm;simp;omega) | (rw [Bool.eq_iff_iff];simp;omega))
theorem drop_get (s : Bs) (p k : Nat) : (s.drop p).getD k 0 = s.getD (p + k) 0:=by
 simp [List.getD,List.getElem?_drop]
theorem pre_take (t l : Bs) : t.isPrefixOf l = decide (t = l.take t.length):=by
 rw [Bool.eq_iff_iff,List.isPrefixOf_iff_prefix,decide_eq_true_eq]
 exact List.prefix_iff_eq_take
theorem ext_mk (s : Bs) (p n : Nat) : (ByteArray.mk s.toArray).extract p (p + n) = ⟨((s.drop p).take n).toArray⟩:=by
 apply ByteArray.ext;apply Array.toList_inj.1
 simp
theorem list_mk (l : Bs) : (ByteArray.mk l.toArray).toList = l:=by
 rw [ByteArray.toList_eq]
set_option maxHeartbeats 1000000 in
theorem begins_any (s : Bs) (p : Nat) (hp : p ≤ s.length) (hs : s.length ≤ 16384) (t : Bs) (ht : t.length ≤ 4) (w : World) :
  Calls Tryz.prog 63 #[.string ⟨s.toArray⟩,.int .i64 (p : Int),.string ⟨t.toArray⟩] w fun e w' => e = .returned (.bool (t.isPrefixOf (s.drop p))) ∧ w' = w:=by
 have hD : (ByteArray.mk s.toArray).size = s.length:=rfl
 have hT : (ByteArray.mk t.toArray).size = t.length:=rfl
 have hx:=ext_mk s p t.length
 by_cases hl : t.length ≤ s.length - p
 ·have b1 : (t.length : Int) ≤ (s.length : Int) - (p : Int):=by omega
  have b2 : (p : Int) + (t.length : Int) ≤ (s.length : Int):=by omega
  have b3 : p + t.length ≤ s.length:=by omega
  have hB : ((ByteArray.mk ((s.drop p).take t.length).toArray).toList == (ByteArray.mk t.toArray).toList) = t.isPrefixOf (s.drop p):=by
   rw [pre_take,list_mk,list_mk,Bool.eq_iff_iff,beq_iff_eq,decide_eq_true_eq]
   exact eq_comm
  generalize t.isPrefixOf (s.drop p) = B at *
  generalize (ByteArray.mk ((s.drop p).take t.length).toArray) = X at *
  generalize (ByteArray.mk s.toArray) = D at *
  generalize (ByteArray.mk t.toArray) = T at *
  go_enter Tryz.func63,Tryz.ntmps63
  go_wp2
  go_ret
  exact ⟨rfl,rfl⟩
 ·have b1 : ¬ (t.length : Int) ≤ (s.length : Int) - (p : Int):=by omega
  have hB : t.isPrefixOf (s.drop p) = false:=by
   rw [Bool.eq_false_iff]
   intro h
   have:=prefix_le h
   rw [List.length_drop] at this
   omega
  rw [hB]
  clear hx hB
  generalize (ByteArray.mk s.toArray) = D at *
  generalize (ByteArray.mk t.toArray) = T at *
  go_enter Tryz.func63,Tryz.ntmps63
  go_wp2
  go_ret
  exact ⟨rfl,rfl⟩
def srcC (s : Bs) (p : Nat) : Option Nat:=if p < s.length ∧ sourceB (stC ⟨s.toArray⟩ p) = true then some (stW ⟨s.toArray⟩ p) else none
theorem src_ge {c : Int} (h : sourceB c = true) : (c = 9 ∨ c = 10 ∨ c = 13) ∨ (32 ≤ c ∧ c ≤ 65535):=by
 unfold sourceB at h
 simp at h
 omega
set_option maxHeartbeats 1000000 in
theorem source_no (s : Bs) (p : Nat) (hs : s.length ≤ 16384) (h : srcC s p = none) (w : World) :
  Calls Tryz.prog 64 #[.string ⟨s.toArray⟩,.int .i64 (p : Int)] w fun e w' => e = .returned (.tuple #[.int .i64 0,.int .i64 0]) ∧ Below w.heap.size w w':=by
 have hD : (ByteArray.mk s.toArray).size = s.length:=rfl
 have hz : ∀ c n : Int,(c < 32 ∧ c ≠ 9 ∧ c ≠ 10 ∧ c ≠ 13) ∨ 65535 < c → (∀ w,Calls Tryz.prog 99 #[.string ⟨s.toArray⟩,.int .i64 (p : Int)] w fun e w' => e = .returned (.tuple #[.int .i64 c,.int .i64 n]) ∧ Below w.heap.size w w') → Calls Tryz.prog 64 #[.string ⟨s.toArray⟩,.int .i64 (p : Int)] w fun e w' => e = .returned (.tuple #[.int .i64 0,.int .i64 0]) ∧ Below w.heap.size w w':=by
  intro c n hc R
  generalize (ByteArray.mk s.toArray) = D at *
  rcases hc with ⟨h1,h2,h3,h4⟩ | h1
  ·have x1 : ¬ 65535 < c:=by omega
   have x2 : (c != 9) = true:=by simpa using h2
   have x3 : (c != 10) = true:=by simpa using h3
   have x4 : (c != 13) = true:=by simpa using h4
   go_enter Tryz.func64,Tryz.ntmps64
   go_wp2_with (go_at_call 99;refine (R _).mono ?_;rintro e w1 ⟨rfl,hb⟩)
   go_ret2
   exact ⟨rfl,hb⟩
  ·go_enter Tryz.func64,Tryz.ntmps64
   go_wp2_with (go_at_call 99;refine (R _).mono ?_;rintro e w1 ⟨rfl,hb⟩)
   go_ret2
   exact ⟨rfl,hb⟩
 by_cases hp : p < s.length
 ·have hR:=fun w => rrune_in ⟨s.toArray⟩ p w (by rw [hD];omega) (by rw [hD];exact hp)
  have hns : ¬ sourceB (stC ⟨s.toArray⟩ p) = true:=by
   intro e
   unfold srcC at h
   rw [if_pos ⟨hp,e⟩] at h
   cases h
  refine hz (runeS ⟨s.toArray⟩ p).1 (runeS ⟨s.toArray⟩ p).2 ?_ hR
  unfold runeS
  split
  ·left;simp
  ·rename_i hne
   have hge : 0 ≤ stC ⟨s.toArray⟩ p:=by
    unfold stC at hne ⊢
    split
    ·rename_i e;rw [if_pos e] at hne;exact absurd rfl hne
    ·omega
   generalize stC ⟨s.toArray⟩ p = c at *
   unfold sourceB at hns
   simp at hns
   show (c < 32 ∧ c ≠ 9 ∧ c ≠ 10 ∧ c ≠ 13) ∨ 65535 < c
   omega
 ·refine hz 0 0 (by decide) fun w => ?_
  exact (rrune_out ⟨s.toArray⟩ (p : Int) w (by rw [hD];omega)).mono fun e w' ⟨h1,h2⟩ => ⟨h1,by rw [h2];exact Below.refl _ _⟩
set_option maxHeartbeats 1000000 in
theorem source_yes (s : Bs) (p k : Nat) (hs : s.length ≤ 16384) (h : srcC s p = some k) (w : World) :
  Calls Tryz.prog 64 #[.string ⟨s.toArray⟩,.int .i64 (p : Int)] w fun e w' => e = .returned (.tuple #[.int .i64 (stC ⟨s.toArray⟩ p),.int .i64 (k : Int)]) ∧ Below w.heap.size w w':=by
 have hD : (ByteArray.mk s.toArray).size = s.length:=rfl
 unfold srcC at h
 split at h
 ·rename_i hc
  obtain ⟨hp,hc⟩:=hc
  have hk : stW ⟨s.toArray⟩ p = k:=by simpa using h
  have hR:=fun w => rrune_in ⟨s.toArray⟩ p w (by rw [hD];omega) (by rw [hD];exact hp)
  have hg:=src_ge hc
  have e : runeS ⟨s.toArray⟩ p = (stC ⟨s.toArray⟩ p,(k : Int)):=by
   unfold runeS
   rw [if_neg (by omega),hk]
  rw [e] at hR
  clear e h hk hc
  generalize stC ⟨s.toArray⟩ p = c at *
  generalize (ByteArray.mk s.toArray) = D at *
  rcases hg with (rfl | rfl | rfl) | ⟨h1,h2⟩
  ·go_enter Tryz.func64,Tryz.ntmps64
   go_wp2_with (go_at_call 99;refine (hR _).mono ?_;rintro e w1 ⟨rfl,hb⟩)
   go_ret2
   exact ⟨rfl,hb⟩
  ·go_enter Tryz.func64,Tryz.ntmps64
   go_wp2_with (go_at_call 99;refine (hR _).mono ?_;rintro e w1 ⟨rfl,hb⟩)
   go_ret2
   exact ⟨rfl,hb⟩
  ·go_enter Tryz.func64,Tryz.ntmps64
   go_wp2_with (go_at_call 99;refine (hR _).mono ?_;rintro e w1 ⟨rfl,hb⟩)
   go_ret2
   exact ⟨rfl,hb⟩
  ·have x1 : ¬ 65535 < c:=by omega
   have x2 : ¬ c < 32:=by omega
   go_enter Tryz.func64,Tryz.ntmps64
   go_wp2_with (go_at_call 99;refine (hR _).mono ?_;rintro e w1 ⟨rfl,hb⟩)
   go_ret2
   exact ⟨rfl,hb⟩
 ·cases h
def runN (l : Bs) : Nat:=(l.takeWhile fun c => digL.contains c).length
theorem span_run (l : Bs) : spanR digL l = l.drop (runN l):=by
 induction l with
 | nil => rfl
 | cons c l ih =>
  unfold spanR runN
  by_cases h : digL.contains c = true
  ·rw [if_pos h,ih,List.takeWhile_cons_of_pos (by exact h)]
   rfl
  ·rw [if_neg h,List.takeWhile_cons_of_neg (by exact h)]
   rfl
theorem run_at (l : Bs) : ∀ k,k ≤ runN l → digL.contains (l.getD k 0) = decide (k < runN l):=by
 induction l with
 | nil =>
  intro k hk
  have : k = 0:=by simpa [runN] using hk
  subst this
  rfl
 | cons c l ih =>
  intro k hk
  by_cases h : digL.contains c = true
  ·have e : runN (c :: l) = runN l + 1:=by
    unfold runN
    rw [List.takeWhile_cons_of_pos (by exact h)]
    rfl
   rw [e] at hk ⊢
   cases k with
   | zero =>
    show digL.contains c = _
    rw [h]
    simp
   | succ k =>
    show digL.contains (l.getD k 0) = _
    rw [ih k (by omega)]
    simp
  ·have e : runN (c :: l) = 0:=by
    unfold runN
    rw [List.takeWhile_cons_of_neg (by exact h)]
    rfl
   rw [e] at hk ⊢
   obtain rfl : k = 0:=by omega
   show digL.contains c = _
   simpa using h
theorem run_le (l : Bs) : runN l ≤ l.length:=(List.takeWhile_sublist _).length_le
set_option maxHeartbeats 1000000 in
theorem run_any (s : Bs) (p : Nat) (hs : s.length ≤ 16384) (hp : p ≤ 65536) (w : World) :
  Calls Tryz.prog 100 #[.string ⟨s.toArray⟩,.int .i64 (p : Int)] w fun e w' => e = .returned (.int .i64 (runN (s.drop p) : Int)) ∧ w' = w:=by
 have hr:=run_at (s.drop p)
 have hle:=run_le (s.drop p)
 rw [List.length_drop] at hle
 have A:=fun k => xat_any s (by omega) k
 have hat : ∀ k,k ≤ runN (s.drop p) → digL.contains (s.getD (p + k) 0) = decide (k < runN (s.drop p)):=fun k hk => by rw [← hr k hk,drop_get]
 clear hr
 generalize runN (s.drop p) = M at *
 generalize (ByteArray.mk s.toArray) = D at *
 go_enter Tryz.func100,Tryz.ntmps100
 go_wp2
 go_loopw [5] (fun n wr => ∃ k : Nat,k ≤ M ∧ n = .int .i64 (k : Int) ∧ wr = w) (fun n _ => M - (RowKit.intOf n).toNat)
 case atStart => exact ⟨0,Nat.zero_le _,rfl,rfl⟩
 case round =>
  obtain ⟨k,hk,rfl,rfl⟩:=hrel
  have A1:=A (p + k)
  have hd:=hat k hk
  have Dg:=fun w => xdigit_any (s.getD (p + k) 0) w
  rw [hd] at Dg
  have ec : ((p + k : Nat) : Int) = (p : Int) + (k : Int):=by omega
  rw [ec] at A1
  generalize ((s.getD (p + k) 0).toNat : Int) = c at A1 Dg
  clear A hat hd ec
  by_cases hlt : k < M
  ·rw [decide_eq_true hlt] at Dg
   go_wp2_with (first
    | (go_at_call 67;refine (Dg _).mono ?_;rintro e w2 ⟨rfl,rfl⟩)
    | (go_at_call 66;refine (A1 _).mono ?_;rintro e w1 ⟨rfl,rfl⟩)
    | fail)
   go_roundw
   case rel => exact ⟨k + 1,by omega,by go_num,trivial⟩
   case measure => simp [RowKit.intOf];omega
  ·rw [decide_eq_false hlt] at Dg
   obtain rfl : k = M:=by omega
   go_wp2_with (first
    | (go_at_call 67;refine (Dg _).mono ?_;rintro e w2 ⟨rfl,rfl⟩)
    | (go_at_call 66;refine (A1 _).mono ?_;rintro e w1 ⟨rfl,rfl⟩)
    | fail)
   go_ret
   exact ⟨rfl,rfl⟩
end
section
open Go Go.RowKit
def bt (s : Bs) (p : Nat) : Int:=((s.getD p 0).toNat : Int)
structure NumW (s : Bs) (p p0 N0 N1 p1 M2 p2 p3 M3 p4 : Nat) (k2 k4 : Int) (okA ok2 ok4 : Bool) : Prop where
 h0 : p0 = if bt s p = 45 then p + 1 else p
 hN0 : N0 = runN (s.drop p0)
 hN1 : N1 = if 0 < N0 ∧ bt s p0 = 48 then 1 else N0
 h1 : p1 = p0 + N1
 hA : okA = decide (0 < N1)
 hM2 : M2 = runN (s.drop (p1 + 1))
 h2 : p2 = if bt s p1 = 46 then p1 + (1 + M2) else p1
 hk2 : k2 = if bt s p1 = 46 then 3 else 2
 ho2 : ok2 = if bt s p1 = 46 then okA && decide (0 < M2) else okA
 h3 : p3 = if bt s (p2 + 1) = 43 ∨ bt s (p2 + 1) = 45 then p2 + 2 else p2 + 1
 hM3 : M3 = runN (s.drop p3)
 h4 : p4 = if bt s p2 = 101 ∨ bt s p2 = 69 then p3 + M3 else p2
 hk4 : k4 = if bt s p2 = 101 ∨ bt s p2 = 69 then 3 else k2
 ho4 : ok4 = if bt s p2 = 101 ∨ bt s p2 = 69 then ok2 && decide (0 < M3) else ok2
theorem numW_of (s : Bs) (p : Nat) : ∃ p0 N0 N1 p1 M2 p2 p3 M3 p4 k2 k4 okA ok2 ok4,NumW s p p0 N0 N1 p1 M2 p2 p3 M3 p4 k2 k4 okA ok2 ok4 :=
 ⟨_,_,_,_,_,_,_,_,_,_,_,_,_,_,rfl,rfl,rfl,rfl,rfl,rfl,rfl,rfl,rfl,rfl,rfl,rfl,rfl,rfl⟩
theorem bt_bd (s : Bs) (p : Nat) : 0 ≤ bt s p ∧ bt s p ≤ 255:=by
 unfold bt
 have:=(s.getD p 0).toNat_lt
 omega
theorem bt_drop (s : Bs) (p : Nat) (c : UInt8) (l : Bs) (h : s.drop p = c :: l) : bt s p = (c.toNat : Int):=by
 unfold bt
 have : s.getD p 0 = c:=by
  have e:=drop_get s p 0
  rw [h,Nat.add_zero] at e
  rw [← e]
  rfl
 rw [this]
theorem bt_nil (s : Bs) (p : Nat) (h : s.drop p = []) : bt s p = 0:=by
 unfold bt
 have e:=drop_get s p 0
 rw [h,Nat.add_zero] at e
 rw [← e]
 rfl
theorem bt_head (s : Bs) (p : Nat) (S : Bs) (h0 : S.contains 0 = false) : headIn S (s.drop p) = S.contains (s.getD p 0):=by
 have e:=drop_get s p 0
 rw [Nat.add_zero] at e
 rw [← e]
 cases s.drop p with
 | nil => exact h0.symm
 | cons c l => rfl
theorem bt_pre (s : Bs) (p : Nat) (c : UInt8) (hc : c ≠ 0) : List.isPrefixOf [c] (s.drop p) = decide (bt s p = (c.toNat : Int)):=by
 cases hl : s.drop p with
 | nil =>
  rw [bt_nil s p hl]
  show false = _
  symm
  rw [decide_eq_false_iff_not]
  intro e
  apply hc
  apply UInt8.toNat_inj.1
  show c.toNat = 0
  omega
 | cons d l =>
  rw [bt_drop s p d l hl,Bool.eq_iff_iff]
  simp [List.isPrefixOf]
  constructor
  ·rintro rfl;rfl
  ·intro e
   apply UInt8.toNat_inj.1
   omega
theorem drop_lt {s : Bs} {p : Nat} (h : bt s p ≠ 0) : p < s.length:=by
 rcases Nat.lt_or_ge p s.length with h' | h'
 ·exact h'
 ·exact absurd (bt_nil s p (List.drop_eq_nil_of_le h')) h
theorem need_run (s : Bs) (p : Nat) : needD (s.drop p) = if 0 < runN (s.drop p) then some (s.drop (p + runN (s.drop p))) else none:=by
 unfold needD
 have h:=run_at (s.drop p) 0 (Nat.zero_le _)
 have e : headIn digL (s.drop p) = decide (0 < runN (s.drop p)):=by
  rw [← h]
  cases s.drop p with
  | nil => rfl
  | cons c l => rfl
 rw [e,span_run,List.drop_drop]
 by_cases hh : 0 < runN (s.drop p) <;> simp [hh]
theorem numX_is (x : UInt8) : (digL ++ 46 :: letL).contains x = !(!digL.contains x && !letL.contains x && ((x.toNat : Int) != 46)):=by
 have h : ∀ n : _root_.Fin 256,(digL ++ 46 :: letL).contains (UInt8.ofNat n.1) = !(!digL.contains (UInt8.ofNat n.1) && !letL.contains (UInt8.ofNat n.1) && (((UInt8.ofNat n.1).toNat : Int) != 46)):=by decide +kernel
 have:=h ⟨x.toNat,x.toNat_lt⟩
 simpa using this
theorem numS_way {s : Bs} {p p0 N0 N1 p1 M2 p2 p3 M3 p4 : Nat} {k2 k4 : Int} {okA ok2 ok4 : Bool} (h : NumW s p p0 N0 N1 p1 M2 p2 p3 M3 p4 k2 k4 okA ok2 ok4) :
  numS (s.drop p) = if (ok4 && !digL.contains (s.getD p4 0) && !letL.contains (s.getD p4 0) && (bt s p4 != 46)) = true then some (k4,s.drop p4) else none:=by
 obtain ⟨h0,hN0,hN1,h1,hA,hM2,h2,hk2,ho2,h3,hM3,h4,hk4,ho4⟩:=h
 have e0 : optT [45] (s.drop p) = s.drop p0:=by
  unfold optT
  rw [bt_pre s p 45 (by decide),h0]
  by_cases hc : bt s p = 45
  ·rw [if_pos (by simpa using hc),if_pos hc,List.drop_drop];rfl
  ·rw [if_neg (by simpa using hc),if_neg hc]
 have eA : numA (s.drop p0) = if okA = true then some (s.drop p1) else none:=by
  unfold numA
  rw [bt_pre s p0 48 (by decide),need_run]
  by_cases hc : bt s p0 = 48
  ·have hN : 0 < N0:=by
    rw [hN0]
    have hd:=run_at (s.drop p0) 0 (Nat.zero_le _)
    rw [drop_get,Nat.add_zero] at hd
    have : digL.contains (s.getD p0 0) = true:=by
     rw [dig_is,decide_eq_true_eq]
     unfold bt at hc
     omega
    rw [this] at hd
    simpa using hd.symm
   have e1 : N1 = 1:=by rw [hN1,if_pos ⟨hN,hc⟩]
   rw [if_pos (by simpa using hc),hA,h1,e1,List.drop_drop]
   simp
  ·rw [if_neg (by simpa using hc),hA,h1]
   have : N1 = N0:=by rw [hN1,if_neg (fun h => hc h.2)]
   rw [this,hN0]
   by_cases hh : 0 < runN (s.drop p0) <;> simp [hh]
 have eB : ∀ (b : Bool),((if b = true then some (s.drop p1) else none : Option Bs).bind fun l1 => numB l1) = if ((if bt s p1 = 46 then b && decide (0 < M2) else b) = true) then some (k2,s.drop p2) else none:=by
  intro b
  cases b with
  | false => by_cases hc : bt s p1 = 46 <;> simp [hc]
  | true =>
   simp only [if_true,Option.bind_some]
   unfold numB
   rw [bt_pre s p1 46 (by decide)]
   by_cases hc : bt s p1 = 46
   ·rw [if_pos (by simpa using hc),if_pos hc,hk2,if_pos hc,h2,if_pos hc,List.drop_drop,need_run,← hM2]
    by_cases hh : 0 < M2 <;> simp [hh,Nat.add_assoc]
   ·rw [if_neg (by simpa using hc),if_neg hc,hk2,if_neg hc,h2,if_neg hc]
    simp
 have eC : ∀ (b : Bool),((if b = true then some (k2,s.drop p2) else none : Option (Int × Bs)).bind fun q => numC q.1 q.2) = if ((if bt s p2 = 101 ∨ bt s p2 = 69 then b && decide (0 < M3) else b) = true) then some (k4,s.drop p4) else none:=by
  intro b
  have hE : headIn [101,69] (s.drop p2) = decide (bt s p2 = 101 ∨ bt s p2 = 69):=by
   rw [bt_head s p2 [101,69] (by decide),Bool.eq_iff_iff]
   unfold bt
   simp
   constructor
   ·rintro (e | e)
    ·left;rw [e];rfl
    ·right;rw [e];rfl
   ·rintro (e | e)
    ·left;apply UInt8.toNat_inj.1;show _ = 101;omega
    ·right;apply UInt8.toNat_inj.1;show _ = 69;omega
  have hO : optO [43,45] (s.drop (p2 + 1)) = s.drop p3:=by
   unfold optO
   have : headIn [43,45] (s.drop (p2 + 1)) = decide (bt s (p2 + 1) = 43 ∨ bt s (p2 + 1) = 45):=by
    rw [bt_head s (p2 + 1) [43,45] (by decide),Bool.eq_iff_iff]
    unfold bt
    simp
    constructor
    ·rintro (e | e)
     ·left;rw [e];rfl
     ·right;rw [e];rfl
    ·rintro (e | e)
     ·left;apply UInt8.toNat_inj.1;show _ = 43;omega
     ·right;apply UInt8.toNat_inj.1;show _ = 45;omega
   rw [this,h3]
   by_cases hc : bt s (p2 + 1) = 43 ∨ bt s (p2 + 1) = 45
   ·rw [if_pos (by simpa using hc),if_pos hc,List.drop_drop]
   ·rw [if_neg (by simpa using hc),if_neg hc]
  cases b with
  | false => by_cases hc : bt s p2 = 101 ∨ bt s p2 = 69 <;> simp [hc]
  | true =>
   simp only [if_true,Option.bind_some]
   unfold numC
   rw [hE]
   by_cases hc : bt s p2 = 101 ∨ bt s p2 = 69
   ·rw [if_pos (by simpa using hc),if_pos hc,hk4,if_pos hc,h4,if_pos hc,List.drop_drop,hO,need_run,← hM3]
    by_cases hh : 0 < M3 <;> simp [hh]
   ·rw [if_neg (by simpa using hc),if_neg hc,hk4,if_neg hc,h4,if_neg hc]
    simp
 unfold numS
 rw [e0,eA]
 have assoc : ∀ (o : Option Bs),(o.bind fun l1 => (numB l1).bind fun q => (numC q.1 q.2).bind fun u => numD u.1 u.2) = ((o.bind fun l1 => numB l1).bind fun q => numC q.1 q.2).bind fun u => numD u.1 u.2:=by
  intro o
  cases o with
  | none => rfl
  | some l1 => simp only [Option.bind_some];cases numB l1 <;> rfl
 rw [assoc,eB okA,← ho2,eC ok2,← ho4]
 cases ok4 with
 | false => simp
 | true =>
  simp only [if_true,Option.bind_some,Bool.true_and]
  unfold numD
  have hX : headIn (digL ++ 46 :: letL) (s.drop p4) = !(!digL.contains (s.getD p4 0) && !letL.contains (s.getD p4 0) && (bt s p4 != 46)):=by
   rw [bt_head s p4 _ (by decide)]
   exact numX_is _
  rw [hX]
  cases (!digL.contains (s.getD p4 0) && !letL.contains (s.getD p4 0) && (bt s p4 != 46)) <;> rfl
set_option maxRecDepth 100000 in
set_option maxHeartbeats 400000 in
theorem xnumber_any (s : Bs) (p : Nat) (hp : p < s.length) (hs : s.length ≤ 16384) (w : World) :
  Calls Tryz.prog 68 #[.string ⟨s.toArray⟩,.int .i64 (p : Int)] w fun e w' => (match numS (s.drop p) with
   | some q => e = .returned (.tuple #[.int .i64 ((s.length - q.2.length : Nat) : Int),.int .i64 q.1,.bool true])
   | none => ∃ a b,e = .returned (.tuple #[.int .i64 a,.int .i64 b,.bool false])) ∧ w' = w:=by
 obtain ⟨p0,N0,N1,p1,M2,p2,p3,M3,p4,k2,k4,okA,ok2,ok4,hW⟩:=numW_of s p
 have hnum:=numS_way hW
 have HW : Hid (NumW s p p0 N0 N1 p1 M2 p2 p3 M3 p4 k2 k4 okA ok2 ok4):=hW
 obtain ⟨h0,hN0,hN1,h1,hA,hM2,h2,hk2,ho2,h3,hM3,h4,hk4,ho4⟩:=hW
 have b0 : p0 ≤ s.length:=by rw [h0];split <;> omega
 have b1 : N0 ≤ s.length - p0:=by rw [hN0];have:=run_le (s.drop p0);rw [List.length_drop] at this;omega
 have b2 : N1 ≤ N0:=by rw [hN1];split <;> omega
 have b3 : M2 ≤ s.length - (p1 + 1):=by rw [hM2];have:=run_le (s.drop (p1 + 1));rw [List.length_drop] at this;omega
 have c1 : p1 ≤ s.length:=by omega
 have c2 : p2 ≤ s.length:=by
  rw [h2]
  split
  ·rename_i hc
   have:=drop_lt (s:=s) (p:=p1) (by rw [hc];decide)
   omega
  ·omega
 have c3 : p3 ≤ s.length + 2:=by rw [h3];split <;> omega
 have b4 : M3 ≤ s.length - p3:=by rw [hM3];have:=run_le (s.drop p3);rw [List.length_drop] at this;omega
 have c4 : p4 ≤ s.length:=by
  rw [h4]
  split
  ·rename_i hc
   have h5:=drop_lt (s:=s) (p:=p2) (by rcases hc with e | e <;> rw [e] <;> decide)
   have : p3 ≤ s.length:=by
    rw [h3]
    split
    ·rename_i hd
     have:=drop_lt (s:=s) (p:=p2 + 1) (by rcases hd with e | e <;> rw [e] <;> decide)
     omega
    ·omega
   omega
  ·exact c2
 have A : ∀ (k : Nat) (w : World),Calls Tryz.prog 66 #[.string ⟨s.toArray⟩,.int .i64 (k : Int)] w fun e w' => e = .returned (.int .u8 (bt s k)) ∧ w = w':=fun k w => xat_any s (by omega) k w
 have R0 : ∀ w,Calls Tryz.prog 100 #[.string ⟨s.toArray⟩,.int .i64 (p0 : Int)] w fun e w' => e = .returned (.int .i64 (N0 : Int)) ∧ w = w':=fun w => (run_any s p0 hs (by omega) w).mono fun _ _ h => ⟨by rw [hN0];exact h.1,h.2.symm⟩
 have R2 : ∀ w,Calls Tryz.prog 100 #[.string ⟨s.toArray⟩,.int .i64 ((p1 : Int) + 1)] w fun e w' => e = .returned (.int .i64 (M2 : Int)) ∧ w = w':=fun w => (run_any s (p1 + 1) hs (by omega) w).mono fun _ _ h => ⟨by rw [hM2];exact h.1,h.2.symm⟩
 have R3 : ∀ w,Calls Tryz.prog 100 #[.string ⟨s.toArray⟩,.int .i64 (p3 : Int)] w fun e w' => e = .returned (.int .i64 (M3 : Int)) ∧ w = w':=fun w => (run_any s p3 hs (by omega) w).mono fun _ _ h => ⟨by rw [hM3];exact h.1,h.2.symm⟩
 have A3 : ∀ w,Calls Tryz.prog 66 #[.string ⟨s.toArray⟩,.int .i64 ((p2 : Int) + 1)] w fun e w' => e = .returned (.int .u8 (bt s (p2 + 1))) ∧ w = w':=fun w => A (p2 + 1) w
 have D4 : ∀ w,Calls Tryz.prog 67 #[.int .u8 ((s.getD p4 0).toNat : Int)] w fun e w' => e = .returned (.bool (digL.contains (s.getD p4 0))) ∧ w = w':=fun w => (xdigit_any (s.getD p4 0) w).mono fun _ _ h => ⟨h.1,h.2.symm⟩
 have L4 : ∀ w,Calls Tryz.prog 65 #[.int .u8 ((s.getD p4 0).toNat : Int)] w fun e w' => e = .returned (.bool (letL.contains (s.getD p4 0))) ∧ w = w':=fun w => (xletter_any (s.getD p4 0) w).mono fun _ _ h => ⟨h.1,h.2.symm⟩
 have hx4 : ((s.getD p4 0).toNat : Int) = bt s p4:=rfl
 rw [hx4] at D4 L4
 have i0 : ∀ hh,(((ByteArray.mk s.toArray)[p0]'hh).toNat : Int) = bt s p0:=fun hh => by
  unfold bt
  have e : (ByteArray.mk s.toArray)[p0]'hh = s.getD p0 0:=by
   show s.toArray[p0]'hh = _
   have : p0 < s.length:=hh
   simp [List.getD,this]
  rw [e]
 have hlast : s.length - (s.drop p4).length = p4:=by rw [List.length_drop];omega
 rw [hnum]
 obtain ⟨Z,hZ⟩ : ∃ Z : Bool,Z = (ok4 && !digL.contains (s.getD p4 0) && !letL.contains (s.getD p4 0) && (bt s p4 != 46)):=⟨_,rfl⟩
 rw [← hZ]
 suffices hmain : Calls Tryz.prog 68 #[.string ⟨s.toArray⟩,.int .i64 (p : Int)] w fun e w' => e = .returned (.tuple #[.int .i64 (p4 : Int),.int .i64 k4,.bool Z]) ∧ w = w' by
  refine hmain.mono ?_
  rintro e w' ⟨rfl,rfl⟩
  refine ⟨?_,rfl⟩
  cases Z
  ·exact ⟨_,_,rfl⟩
  ·show Ending.returned _ = Ending.returned (.tuple #[.int .i64 ((s.length - (s.drop p4).length : Nat) : Int),.int .i64 k4,.bool true])
   rw [hlast]
 have HZ : Hid (Z = (ok4 && !digL.contains (s.getD p4 0) && !letL.contains (s.getD p4 0) && (bt s p4 != 46))):=hZ
 clear hZ
 have hD : (ByteArray.mk s.toArray).size = s.length:=rfl
 have hbd:=bt_bd s
 clear hnum hlast hx4 h0 hN0 hN1 h1 hA hM2 h2 hk2 ho2 h3 hM3 h4 hk4 ho4 b3 b4
 generalize (ByteArray.mk s.toArray) = D at *
 generalize digL.contains (s.getD p4 0) = dB at *
 generalize letL.contains (s.getD p4 0) = lB at *
 go_enter Tryz.func68,Tryz.ntmps68
 go_upto_if 14 with (go_at_call 66;refine (A p _).mono ?_;rintro e w1 ⟨rfl,rfl⟩)
 go_cut [1] (fun i wc => i = .int .i64 (p0 : Int) ∧ w = wc)
 case first =>
  by_cases hc : bt s p = 45
  ·have x1 : (bt s p == 45) = true:=by simpa using hc
   have e : p0 = p + 1:=by rw [HW.out.h0,if_pos hc]
   subst e
   go_wp2_with fail
   go_meet
   exact ⟨by simp,rfl⟩
  ·have x1 : (bt s p == 45) = false:=by simpa using hc
   have e : p0 = p:=by rw [HW.out.h0,if_neg hc]
   subst e
   go_wp2_with fail
   go_meet
   exact ⟨rfl,rfl⟩
 case rest =>
 obtain ⟨rfl,rfl⟩:=hcut
 go_upto_region 5 with (go_at_call 100;refine (R0 _).mono ?_;rintro e w1 ⟨rfl,rfl⟩)
 go_cut [27] (fun b wc => b = .bool (decide (0 < N0 ∧ bt s p0 = 48)) ∧ w = wc)
 case first =>
  by_cases hc : 0 < N0
  ·have hc2 : (0 : Int) < (N0 : Int):=by omega
   have hlt : p0 < s.length:=by omega
   have hlt2 : (p0 : Int) < (s.length : Int):=by omega
   go_wp2_with fail
   go_meet
   exact ⟨by simp [hc];try rfl,rfl⟩
  ·have hc2 : ¬ (0 : Int) < (N0 : Int):=by omega
   go_wp2_with fail
   go_meet
   exact ⟨by simp [hc],rfl⟩
 case rest =>
 obtain ⟨rfl,rfl⟩:=hcut
 go_upto_if 27 with fail
 go_cut [8] (fun n wc => n = .int .i64 (N1 : Int) ∧ w = wc)
 case first =>
  by_cases hc : 0 < N0 ∧ bt s p0 = 48
  ·have x1:=decide_eq_true hc
   have e : N1 = 1:=by rw [HW.out.hN1,if_pos hc]
   subst e
   go_wp2_with fail
   go_meet
   exact ⟨rfl,rfl⟩
  ·have x1:=decide_eq_false hc
   have e : N1 = N0:=by rw [HW.out.hN1,if_neg hc]
   subst e
   go_wp2_with fail
   go_meet
   exact ⟨rfl,rfl⟩
 case rest =>
 obtain ⟨rfl,rfl⟩:=hcut
 have q1 : (p0 : Int) + (N1 : Int) = (p1 : Int):=by have:=HW.out.h1;omega
 go_upto_if 36 with (go_at_call 66;(with_reducible refine (A p1 _).mono ?_);rintro e w1 ⟨rfl,rfl⟩)
 go_cut [1,7,8,9] (fun i k _ o wc => i = .int .i64 (p2 : Int) ∧ k = .int .i64 k2 ∧ o = .bool ok2 ∧ w = wc)
 case first =>
  have eA:=HW.out.hA
  have e2:=HW.out.h2
  have ek:=HW.out.hk2
  have eo:=HW.out.ho2
  by_cases hc : bt s p1 = 46
  ·have x1 : (bt s p1 == 46) = true:=by simpa using hc
   rw [if_pos hc] at e2 ek eo
   have q2 : (p1 : Int) + (1 + (M2 : Int)) = (p2 : Int):=by omega
   subst ek
   have HO : Hid (ok2 = (decide (0 < N1) && decide (0 < M2))):=by rw [← eA];exact eo
   clear eA eo e2
   by_cases hn : 0 < N1
   ·have hn2 : (0 : Int) < (N1 : Int):=by omega
    go_wp2_with (go_at_call 100;(with_reducible refine (R2 _).mono ?_);rintro e w1 ⟨rfl,rfl⟩)
    go_meet
    exact ⟨rfl,rfl,by simp [HO.out,hn],rfl⟩
   ·have hn2 : ¬ (0 : Int) < (N1 : Int):=by omega
    go_wp2_with (go_at_call 100;(with_reducible refine (R2 _).mono ?_);rintro e w1 ⟨rfl,rfl⟩)
    go_meet
    exact ⟨rfl,rfl,by simp [HO.out,hn],rfl⟩
  ·have x1 : (bt s p1 == 46) = false:=by simpa using hc
   rw [if_neg hc] at e2 ek eo
   subst e2 ek
   have HO : Hid (ok2 = decide (0 < N1)):=eo.trans eA
   clear eA eo
   go_wp2_with fail
   go_meet
   exact ⟨rfl,rfl,by simp [HO.out],rfl⟩
 case rest =>
 obtain ⟨rfl,rfl,rfl,rfl⟩:=hcut
 go_upto_region 14 with fail
 go_cut [59] (fun b wc => b = .bool (decide (bt s p2 = 101 ∨ bt s p2 = 69)) ∧ w = wc)
 case first =>
  by_cases hc : bt s p2 = 101
  ·have x1 : (bt s p2 == 101) = true:=by simpa using hc
   go_wp2_with (go_at_call 66;(with_reducible refine (A p2 _).mono ?_);rintro e w1 ⟨rfl,rfl⟩)
   go_meet
   exact ⟨by simp [hc],rfl⟩
  ·have x1 : (bt s p2 == 101) = false:=by simpa using hc
   go_wp2_with (go_at_call 66;(with_reducible refine (A p2 _).mono ?_);rintro e w1 ⟨rfl,rfl⟩)
   go_meet
   exact ⟨by simp [hc];try rfl,rfl⟩
 case rest =>
 obtain ⟨rfl,rfl⟩:=hcut
 go_upto_if 59 with fail
 go_cut [1,7,8,9] (fun i k _ o wc => i = .int .i64 (p4 : Int) ∧ k = .int .i64 k4 ∧ o = .bool ok4 ∧ w = wc)
 case first =>
  have e4:=HW.out.h4
  have ek:=HW.out.hk4
  have eo:=HW.out.ho4
  by_cases hc : bt s p2 = 101 ∨ bt s p2 = 69
  ·have x1:=decide_eq_true hc
   rw [if_pos hc] at e4 ek eo
   subst ek
   have q4 : (p3 : Int) + (M3 : Int) = (p4 : Int):=by omega
   have HO : Hid (ok4 = (ok2 && decide (0 < M3))):=eo
   clear eo e4
   go_upto_region 17 with fail
   go_cut [71] (fun b wc => b = .bool (decide (bt s (p2 + 1) = 43 ∨ bt s (p2 + 1) = 45)) ∧ w = wc)
   case first =>
    by_cases hd : bt s (p2 + 1) = 43
    ·have x2 : (bt s (p2 + 1) == 43) = true:=by simpa using hd
     go_wp2_with (go_at_call 66;(with_reducible refine (A3 _).mono ?_);rintro e w1 ⟨rfl,rfl⟩)
     go_meet
     exact ⟨by simp [hd],rfl⟩
    ·have x2 : (bt s (p2 + 1) == 43) = false:=by simpa using hd
     go_wp2_with (go_at_call 66;(with_reducible refine (A3 _).mono ?_);rintro e w1 ⟨rfl,rfl⟩)
     go_meet
     exact ⟨by simp [hd];try rfl,rfl⟩
   case rest =>
   obtain ⟨rfl,rfl⟩:=hcut
   go_upto_if 71 with fail
   go_cut [1] (fun i wc => i = .int .i64 (p3 : Int) ∧ w = wc)
   case first =>
    have e3:=HW.out.h3
    by_cases hd : bt s (p2 + 1) = 43 ∨ bt s (p2 + 1) = 45
    ·have x2:=decide_eq_true hd
     rw [if_pos hd] at e3
     have HE : Hid (p3 = p2 + 2):=e3
     clear e3
     go_wp2_with fail
     go_meet
     exact ⟨congrArg (Value.int .i64) (by have:=HE.out;omega),rfl⟩
    ·have x2:=decide_eq_false hd
     rw [if_neg hd] at e3
     have HE : Hid (p3 = p2 + 1):=e3
     clear e3
     go_wp2_with fail
     go_meet
     exact ⟨congrArg (Value.int .i64) (by have:=HE.out;omega),rfl⟩
   case rest =>
   obtain ⟨rfl,rfl⟩:=hcut
   cases ok2
   ·go_wp2_with (go_at_call 100;(with_reducible refine (R3 _).mono ?_);rintro e w1 ⟨rfl,rfl⟩)
    go_meet
    exact ⟨rfl,rfl,by simp [HO.out],rfl⟩
   ·go_wp2_with (go_at_call 100;(with_reducible refine (R3 _).mono ?_);rintro e w1 ⟨rfl,rfl⟩)
    go_meet
    exact ⟨rfl,rfl,by simp [HO.out],rfl⟩
  ·have x1:=decide_eq_false hc
   rw [if_neg hc] at e4 ek eo
   subst e4 ek eo
   go_wp2_with fail
   go_meet
   exact ⟨rfl,rfl,rfl,rfl⟩
 case rest =>
 obtain ⟨rfl,rfl,rfl,rfl⟩:=hcut
 cases ok4
 ·go_wp2_with (go_at_call 66;(with_reducible refine (A p4 _).mono ?_);rintro e w1 ⟨rfl,rfl⟩)
  go_ret3
  exact ⟨by rw [HZ.out];rfl,rfl⟩
 ·cases dB
  ·cases lB
   ·by_cases hc : bt s p4 = 46
    ·have x1 : (bt s p4 != 46) = false:=by simpa using hc
     clear hc
     go_wp2_with (first
      | (go_at_call 65;(with_reducible refine (L4 _).mono ?_);rintro e w1 ⟨rfl,rfl⟩)
      | (go_at_call 67;(with_reducible refine (D4 _).mono ?_);rintro e w1 ⟨rfl,rfl⟩)
      | (go_at_call 66;(with_reducible refine (A p4 _).mono ?_);rintro e w1 ⟨rfl,rfl⟩)
      | fail)
     go_ret3
     exact ⟨by rw [HZ.out,x1];rfl,rfl⟩
    ·have x1 : (bt s p4 != 46) = true:=by simpa using hc
     clear hc
     go_wp2_with (first
      | (go_at_call 65;(with_reducible refine (L4 _).mono ?_);rintro e w1 ⟨rfl,rfl⟩)
      | (go_at_call 67;(with_reducible refine (D4 _).mono ?_);rintro e w1 ⟨rfl,rfl⟩)
      | (go_at_call 66;(with_reducible refine (A p4 _).mono ?_);rintro e w1 ⟨rfl,rfl⟩)
      | fail)
     go_ret3
     exact ⟨by rw [HZ.out,x1];rfl,rfl⟩
   ·go_wp2_with (first
     | (go_at_call 65;(with_reducible refine (L4 _).mono ?_);rintro e w1 ⟨rfl,rfl⟩)
     | (go_at_call 67;(with_reducible refine (D4 _).mono ?_);rintro e w1 ⟨rfl,rfl⟩)
     | (go_at_call 66;(with_reducible refine (A p4 _).mono ?_);rintro e w1 ⟨rfl,rfl⟩)
     | fail)
    go_ret3
    exact ⟨by rw [HZ.out];rfl,rfl⟩
  ·go_wp2_with (first
    | (go_at_call 67;(with_reducible refine (D4 _).mono ?_);rintro e w1 ⟨rfl,rfl⟩)
    | (go_at_call 66;(with_reducible refine (A p4 _).mono ?_);rintro e w1 ⟨rfl,rfl⟩)
    | fail)
   go_ret3
   exact ⟨by rw [HZ.out];rfl,rfl⟩
end
end Go.Proofs.YtgppemlciohjcaaGreatDoor
