/- The document's own Tokens against lexS. -/
import Derived.Test.YtlabcadpkdgjnaaGreatDoorD01
import Derived.Test.YtlabcadpkdgjnaaGreatDoorE4
import Derived.Test.YtlabcadpkdgjnaaGreatDoorD02
import Derived.Deep.DeepCutAuto
import Derived.Test.YtlabcadpkdgjnaaGreatDoorLxG5
namespace Go.Proofs.YtlabcadpkdgjnaaGreatDoor
section
open Go Go.RowKit
theorem line_raw {c : UInt8} (h1 : c ≠ 34) (h2 : c ≠ 92) (h3 : endL.contains c = false) (m : Bs) : lineS (c :: m) = (lineS m).map fun p => ([c] ++ p.1,p.2):=by
 refine lineS_chr ?_ ?_ h3
 ·simp [List.isPrefixOf]
  exact fun e => h1 e.symm
 ·simp [List.isPrefixOf]
  exact fun e => h2 e.symm
theorem hi_ne {c : UInt8} (hc : 128 ≤ c.toNat) : c ≠ 34 ∧ c ≠ 92 ∧ c ≠ 127 ∧ endL.contains c = false:=by
 have hx : ∀ d : UInt8,d.toNat < 128 → c ≠ d:=fun d hd e => by rw [e] at hc;omega
 refine ⟨hx _ (by decide),hx _ (by decide),hx _ (by decide),?_⟩
 rw [Bool.eq_false_iff]
 intro e
 have : c = 10 ∨ c = 13:=by simpa [endL] using e
 rcases this with e | e
 ·exact hx 10 (by decide) e
 ·exact hx 13 (by decide) e
theorem line_hi {c : UInt8} (m : Bs) (hc : 128 ≤ c.toNat) : lineS (c :: m) = (lineS m).map fun p => ([c] ++ p.1,p.2):=by
 obtain ⟨h1,h2,_,h4⟩:=hi_ne hc
 exact line_raw h1 h2 h4 m
end
section
open Go Go.RowKit
theorem dig_is (x : UInt8) : digL.contains x = decide (48 ≤ x.toNat ∧ x.toNat ≤ 57):=by
 have h : ∀ n : _root_.Fin 256,digL.contains (UInt8.ofNat n.1) = decide (48 ≤ n.1 ∧ n.1 ≤ 57):=by decide +kernel
 have:=h ⟨x.toNat,x.toNat_lt⟩
 simpa using this
theorem let_is (x : UInt8) : letL.contains x = decide ((97 ≤ x.toNat ∧ x.toNat ≤ 122) ∨ (65 ≤ x.toNat ∧ x.toNat ≤ 90) ∨ x.toNat = 95):=by
 have h : ∀ n : _root_.Fin 256,letL.contains (UInt8.ofNat n.1) = decide ((97 ≤ n.1 ∧ n.1 ≤ 122) ∨ (65 ≤ n.1 ∧ n.1 ≤ 90) ∨ n.1 = 95):=by decide +kernel
 have:=h ⟨x.toNat,x.toNat_lt⟩
 simpa using this
set_option maxHeartbeats 1000000 in
theorem xdigit_any (x : UInt8) (w : World) : Calls Tryz.prog 63 #[.int .u8 (x.toNat : Int)] w fun e w' => e = .returned (.bool (digL.contains x)) ∧ w' = w:=by
 rw [dig_is]
 have h0 : (0 : Int) ≤ (x.toNat : Int):=by omega
 obtain ⟨c,hc⟩ : ∃ c : Int,c = (x.toNat : Int):=⟨_,rfl⟩
 have e : decide (48 ≤ x.toNat ∧ x.toNat ≤ 57) = decide (48 ≤ c ∧ c ≤ 57):=by rw [hc];congr 1;apply propext;omega
 rw [e,← hc]
 rw [← hc] at h0
 clear hc e
 go_enter Tryz.func63,Tryz.ntmps63
 go_wp2
 all_goals (go_ret;refine ⟨ret_bool ?_,rfl⟩;go_light;first | (symm;simp;done) | (symm;simp;omega) | (rw [Bool.eq_iff_iff];simp;omega))
set_option maxHeartbeats 1000000 in
theorem xletter_any (x : UInt8) (w : World) : Calls Tryz.prog 61 #[.int .u8 (x.toNat : Int)] w fun e w' => e = .returned (.bool (letL.contains x)) ∧ w' = w:=by
 rw [let_is]
 have h0 : (0 : Int) ≤ (x.toNat : Int):=by omega
 obtain ⟨c,hc⟩ : ∃ c : Int,c = (x.toNat : Int):=⟨_,rfl⟩
 have e : decide ((97 ≤ x.toNat ∧ x.toNat ≤ 122) ∨ (65 ≤ x.toNat ∧ x.toNat ≤ 90) ∨ x.toNat = 95) = decide ((97 ≤ c ∧ c ≤ 122) ∨ (65 ≤ c ∧ c ≤ 90) ∨ c = 95):=by rw [hc];congr 1;apply propext;omega
 rw [e,← hc]
 rw [← hc] at h0
 clear hc e
 go_enter Tryz.func61,Tryz.ntmps61
 go_wp2
 all_goals (go_ret;refine ⟨ret_bool ?_,rfl⟩;go_light;first | (symm;simp;done) | (symm;simp;omega) | (rw [Bool.eq_iff_iff];simp;omega))
theorem drop_get (s : Bs) (p k : Nat) : (s.drop p).getD k 0 = s.getD (p + k) 0:=by
 simp [List.getD,List.getElem?_drop]
theorem pre_take (t l : Bs) : t.isPrefixOf l = decide (t = l.take t.length):=by
 rw [Bool.eq_iff_iff,List.isPrefixOf_iff_prefix,decide_eq_true_eq]
 exact List.prefix_iff_eq_take
theorem ext_mk (s : Bs) (p n : Nat) : (ByteArray.mk s.toArray).extract p (p + n) = ⟨((s.drop p).take n).toArray⟩:=by
 apply ByteArray.ext;apply Array.toList_inj.1
 simp
theorem list_mk (l : Bs) : (ByteArray.mk l.toArray).toList = l:=by
 rw [ByteArray.toList_eq]
set_option maxHeartbeats 1000000 in
theorem begins_any (s : Bs) (p : Nat) (hp : p ≤ s.length) (hs : s.length ≤ 16384) (t : Bs) (ht : t.length ≤ 4) (w : World) :
  Calls Tryz.prog 59 #[.string ⟨s.toArray⟩,.int .i64 (p : Int),.string ⟨t.toArray⟩] w fun e w' => e = .returned (.bool (t.isPrefixOf (s.drop p))) ∧ w' = w:=by
 have hD : (ByteArray.mk s.toArray).size = s.length:=rfl
 have hT : (ByteArray.mk t.toArray).size = t.length:=rfl
 have hx:=ext_mk s p t.length
 by_cases hl : t.length ≤ s.length - p
 ·have b1 : (t.length : Int) ≤ (s.length : Int) - (p : Int):=by omega
  have b2 : (p : Int) + (t.length : Int) ≤ (s.length : Int):=by omega
  have b3 : p + t.length ≤ s.length:=by omega
  have hB : ((ByteArray.mk ((s.drop p).take t.length).toArray).toList == (ByteArray.mk t.toArray).toList) = t.isPrefixOf (s.drop p):=by
   rw [pre_take,list_mk,list_mk,Bool.eq_iff_iff,beq_iff_eq,decide_eq_true_eq]
   exact eq_comm
  generalize t.isPrefixOf (s.drop p) = B at *
  generalize (ByteArray.mk ((s.drop p).take t.length).toArray) = X at *
  generalize (ByteArray.mk s.toArray) = D at *
  generalize (ByteArray.mk t.toArray) = T at *
  go_enter Tryz.func59,Tryz.ntmps59
  go_wp2
  go_ret
  exact ⟨rfl,rfl⟩
 ·have b1 : ¬ (t.length : Int) ≤ (s.length : Int) - (p : Int):=by omega
  have hB : t.isPrefixOf (s.drop p) = false:=by
   rw [Bool.eq_false_iff]
   intro h
   have:=prefix_le h
   rw [List.length_drop] at this
   omega
  rw [hB]
  clear hx hB
  generalize (ByteArray.mk s.toArray) = D at *
  generalize (ByteArray.mk t.toArray) = T at *
  go_enter Tryz.func59,Tryz.ntmps59
  go_wp2
  go_ret
  exact ⟨rfl,rfl⟩
def srcC (s : Bs) (p : Nat) : Option Nat:=if p < s.length ∧ sourceB (stC ⟨s.toArray⟩ p) = true then some (stW ⟨s.toArray⟩ p) else none
theorem src_ge {c : Int} (h : sourceB c = true) : (c = 9 ∨ c = 10 ∨ c = 13) ∨ (32 ≤ c ∧ c ≤ 65535):=by
 unfold sourceB at h
 simp at h
 omega
set_option maxHeartbeats 1000000 in
theorem source_no (s : Bs) (p : Nat) (hs : s.length ≤ 16384) (h : srcC s p = none) (w : World) :
  Calls Tryz.prog 60 #[.string ⟨s.toArray⟩,.int .i64 (p : Int)] w fun e w' => e = .returned (.tuple #[.int .i64 0,.int .i64 0]) ∧ Below w.heap.size w w':=by
 have hD : (ByteArray.mk s.toArray).size = s.length:=rfl
 have hz : ∀ c n : Int,(c < 32 ∧ c ≠ 9 ∧ c ≠ 10 ∧ c ≠ 13) ∨ 65535 < c → (∀ w,Calls Tryz.prog 89 #[.string ⟨s.toArray⟩,.int .i64 (p : Int)] w fun e w' => e = .returned (.tuple #[.int .i64 c,.int .i64 n]) ∧ Below w.heap.size w w') → Calls Tryz.prog 60 #[.string ⟨s.toArray⟩,.int .i64 (p : Int)] w fun e w' => e = .returned (.tuple #[.int .i64 0,.int .i64 0]) ∧ Below w.heap.size w w':=by
  intro c n hc R
  generalize (ByteArray.mk s.toArray) = D at *
  rcases hc with ⟨h1,h2,h3,h4⟩ | h1
  ·have x1 : ¬ 65535 < c:=by omega
   have x2 : (c != 9) = true:=by simpa using h2
   have x3 : (c != 10) = true:=by simpa using h3
   have x4 : (c != 13) = true:=by simpa using h4
   go_enter Tryz.func60,Tryz.ntmps60
   go_wp2_with (go_at_call 89;refine (R _).mono ?_;rintro e w1 ⟨rfl,hb⟩)
   go_ret2
   exact ⟨rfl,hb⟩
  ·go_enter Tryz.func60,Tryz.ntmps60
   go_wp2_with (go_at_call 89;refine (R _).mono ?_;rintro e w1 ⟨rfl,hb⟩)
   go_ret2
   exact ⟨rfl,hb⟩
 by_cases hp : p < s.length
 ·have hR:=fun w => rrune_in ⟨s.toArray⟩ p w (by rw [hD];omega) (by rw [hD];exact hp)
  have hns : ¬ sourceB (stC ⟨s.toArray⟩ p) = true:=by
   intro e
   unfold srcC at h
   rw [if_pos ⟨hp,e⟩] at h
   cases h
  refine hz (runeS ⟨s.toArray⟩ p).1 (runeS ⟨s.toArray⟩ p).2 ?_ hR
  unfold runeS
  split
  ·left;simp
  ·rename_i hne
   have hge : 0 ≤ stC ⟨s.toArray⟩ p:=by
    unfold stC at hne ⊢
    split
    ·rename_i e;rw [if_pos e] at hne;exact absurd rfl hne
    ·omega
   generalize stC ⟨s.toArray⟩ p = c at *
   unfold sourceB at hns
   simp at hns
   show (c < 32 ∧ c ≠ 9 ∧ c ≠ 10 ∧ c ≠ 13) ∨ 65535 < c
   omega
 ·refine hz 0 0 (by decide) fun w => ?_
  exact (rrune_out ⟨s.toArray⟩ (p : Int) w (by rw [hD];omega)).mono fun e w' ⟨h1,h2⟩ => ⟨h1,by rw [h2];exact Below.refl _ _⟩
set_option maxHeartbeats 1000000 in
theorem source_yes (s : Bs) (p k : Nat) (hs : s.length ≤ 16384) (h : srcC s p = some k) (w : World) :
  Calls Tryz.prog 60 #[.string ⟨s.toArray⟩,.int .i64 (p : Int)] w fun e w' => e = .returned (.tuple #[.int .i64 (stC ⟨s.toArray⟩ p),.int .i64 (k : Int)]) ∧ Below w.heap.size w w':=by
 have hD : (ByteArray.mk s.toArray).size = s.length:=rfl
 unfold srcC at h
 split at h
 ·rename_i hc
  obtain ⟨hp,hc⟩:=hc
  have hk : stW ⟨s.toArray⟩ p = k:=by simpa using h
  have hR:=fun w => rrune_in ⟨s.toArray⟩ p w (by rw [hD];omega) (by rw [hD];exact hp)
  have hg:=src_ge hc
  have e : runeS ⟨s.toArray⟩ p = (stC ⟨s.toArray⟩ p,(k : Int)):=by
   unfold runeS
   rw [if_neg (by omega),hk]
  rw [e] at hR
  clear e h hk hc
  generalize stC ⟨s.toArray⟩ p = c at *
  generalize (ByteArray.mk s.toArray) = D at *
  rcases hg with (rfl | rfl | rfl) | ⟨h1,h2⟩
  ·go_enter Tryz.func60,Tryz.ntmps60
   go_wp2_with (go_at_call 89;refine (hR _).mono ?_;rintro e w1 ⟨rfl,hb⟩)
   go_ret2
   exact ⟨rfl,hb⟩
  ·go_enter Tryz.func60,Tryz.ntmps60
   go_wp2_with (go_at_call 89;refine (hR _).mono ?_;rintro e w1 ⟨rfl,hb⟩)
   go_ret2
   exact ⟨rfl,hb⟩
  ·go_enter Tryz.func60,Tryz.ntmps60
   go_wp2_with (go_at_call 89;refine (hR _).mono ?_;rintro e w1 ⟨rfl,hb⟩)
   go_ret2
   exact ⟨rfl,hb⟩
  ·have x1 : ¬ 65535 < c:=by omega
   have x2 : ¬ c < 32:=by omega
   go_enter Tryz.func60,Tryz.ntmps60
   go_wp2_with (go_at_call 89;refine (hR _).mono ?_;rintro e w1 ⟨rfl,hb⟩)
   go_ret2
   exact ⟨rfl,hb⟩
 ·cases h
def runN (l : Bs) : Nat:=(l.takeWhile fun c => digL.contains c).length
theorem span_run (l : Bs) : spanR digL l = l.drop (runN l):=by
 induction l with
 | nil => rfl
 | cons c l ih =>
  unfold spanR runN
  by_cases h : digL.contains c = true
  ·rw [if_pos h,ih,List.takeWhile_cons_of_pos (by exact h)]
   rfl
  ·rw [if_neg h,List.takeWhile_cons_of_neg (by exact h)]
   rfl
theorem run_at (l : Bs) : ∀ k,k ≤ runN l → digL.contains (l.getD k 0) = decide (k < runN l):=by
 induction l with
 | nil =>
  intro k hk
  have : k = 0:=by simpa [runN] using hk
  subst this
  rfl
 | cons c l ih =>
  intro k hk
  by_cases h : digL.contains c = true
  ·have e : runN (c :: l) = runN l + 1:=by
    unfold runN
    rw [List.takeWhile_cons_of_pos (by exact h)]
    rfl
   rw [e] at hk ⊢
   cases k with
   | zero =>
    show digL.contains c = _
    rw [h]
    simp
   | succ k =>
    show digL.contains (l.getD k 0) = _
    rw [ih k (by omega)]
    simp
  ·have e : runN (c :: l) = 0:=by
    unfold runN
    rw [List.takeWhile_cons_of_neg (by exact h)]
    rfl
   rw [e] at hk ⊢
   obtain rfl : k = 0:=by omega
   show digL.contains c = _
   simpa using h
theorem run_le (l : Bs) : runN l ≤ l.length:=(List.takeWhile_sublist _).length_le
set_option maxHeartbeats 1000000 in
theorem run_any (s : Bs) (p : Nat) (hs : s.length ≤ 16384) (hp : p ≤ 65536) (w : World) :
  Calls Tryz.prog 90 #[.string ⟨s.toArray⟩,.int .i64 (p : Int)] w fun e w' => e = .returned (.int .i64 (runN (s.drop p) : Int)) ∧ w' = w:=by
 have hr:=run_at (s.drop p)
 have hle:=run_le (s.drop p)
 rw [List.length_drop] at hle
 have A:=fun k => xat_any s (by omega) k
 have hat : ∀ k,k ≤ runN (s.drop p) → digL.contains (s.getD (p + k) 0) = decide (k < runN (s.drop p)):=fun k hk => by rw [← hr k hk,drop_get]
 clear hr
 generalize runN (s.drop p) = M at *
 generalize (ByteArray.mk s.toArray) = D at *
 go_enter Tryz.func90,Tryz.ntmps90
 go_wp2
 go_loopw [5] (fun n wr => ∃ k : Nat,k ≤ M ∧ n = .int .i64 (k : Int) ∧ wr = w) (fun n _ => M - (RowKit.intOf n).toNat)
 case atStart => exact ⟨0,Nat.zero_le _,rfl,rfl⟩
 case round =>
  obtain ⟨k,hk,rfl,rfl⟩:=hrel
  have A1:=A (p + k)
  have hd:=hat k hk
  have Dg:=fun w => xdigit_any (s.getD (p + k) 0) w
  rw [hd] at Dg
  have ec : ((p + k : Nat) : Int) = (p : Int) + (k : Int):=by omega
  rw [ec] at A1
  generalize ((s.getD (p + k) 0).toNat : Int) = c at A1 Dg
  clear A hat hd ec
  by_cases hlt : k < M
  ·rw [decide_eq_true hlt] at Dg
   go_wp2_with (first
    | (go_at_call 63;refine (Dg _).mono ?_;rintro e w2 ⟨rfl,rfl⟩)
    | (go_at_call 62;refine (A1 _).mono ?_;rintro e w1 ⟨rfl,rfl⟩)
    | fail)
   go_roundw
   case rel => exact ⟨k + 1,by omega,by go_num,trivial⟩
   case measure => simp [RowKit.intOf];omega
  ·rw [decide_eq_false hlt] at Dg
   obtain rfl : k = M:=by omega
   go_wp2_with (first
    | (go_at_call 63;refine (Dg _).mono ?_;rintro e w2 ⟨rfl,rfl⟩)
    | (go_at_call 62;refine (A1 _).mono ?_;rintro e w1 ⟨rfl,rfl⟩)
    | fail)
   go_ret
   exact ⟨rfl,rfl⟩
end
section
open Go Go.RowKit
def bt (s : Bs) (p : Nat) : Int:=((s.getD p 0).toNat : Int)
structure NumW (s : Bs) (p p0 N0 N1 p1 M2 p2 p3 M3 p4 : Nat) (k2 k4 : Int) (okA ok2 ok4 : Bool) : Prop where
 h0 : p0 = if bt s p = 45 then p + 1 else p
 hN0 : N0 = runN (s.drop p0)
 hN1 : N1 = if 0 < N0 ∧ bt s p0 = 48 then 1 else N0
 h1 : p1 = p0 + N1
 hA : okA = decide (0 < N1)
 hM2 : M2 = runN (s.drop (p1 + 1))
 h2 : p2 = if bt s p1 = 46 then p1 + (1 + M2) else p1
 hk2 : k2 = if bt s p1 = 46 then 3 else 2
 ho2 : ok2 = if bt s p1 = 46 then okA && decide (0 < M2) else okA
 h3 : p3 = if bt s (p2 + 1) = 43 ∨ bt s (p2 + 1) = 45 then p2 + 2 else p2 + 1
 hM3 : M3 = runN (s.drop p3)
 h4 : p4 = if bt s p2 = 101 ∨ bt s p2 = 69 then p3 + M3 else p2
 hk4 : k4 = if bt s p2 = 101 ∨ bt s p2 = 69 then 3 else k2
 ho4 : ok4 = if bt s p2 = 101 ∨ bt s p2 = 69 then ok2 && decide (0 < M3) else ok2
theorem numW_of (s : Bs) (p : Nat) : ∃ p0 N0 N1 p1 M2 p2 p3 M3 p4 k2 k4 okA ok2 ok4,NumW s p p0 N0 N1 p1 M2 p2 p3 M3 p4 k2 k4 okA ok2 ok4 :=
 ⟨_,_,_,_,_,_,_,_,_,_,_,_,_,_,rfl,rfl,rfl,rfl,rfl,rfl,rfl,rfl,rfl,rfl,rfl,rfl,rfl,rfl⟩
theorem bt_bd (s : Bs) (p : Nat) : 0 ≤ bt s p ∧ bt s p ≤ 255:=by
 unfold bt
 have:=(s.getD p 0).toNat_lt
 omega
theorem bt_drop (s : Bs) (p : Nat) (c : UInt8) (l : Bs) (h : s.drop p = c :: l) : bt s p = (c.toNat : Int):=by
 unfold bt
 have : s.getD p 0 = c:=by
  have e:=drop_get s p 0
  rw [h,Nat.add_zero] at e
  rw [← e]
  rfl
 rw [this]
theorem bt_nil (s : Bs) (p : Nat) (h : s.drop p = []) : bt s p = 0:=by
 unfold bt
 have e:=drop_get s p 0
 rw [h,Nat.add_zero] at e
 rw [← e]
 rfl
theorem bt_head (s : Bs) (p : Nat) (S : Bs) (h0 : S.contains 0 = false) : headIn S (s.drop p) = S.contains (s.getD p 0):=by
 have e:=drop_get s p 0
 rw [Nat.add_zero] at e
 rw [← e]
 cases s.drop p with
 | nil => exact h0.symm
 | cons c l => rfl
theorem bt_pre (s : Bs) (p : Nat) (c : UInt8) (hc : c ≠ 0) : List.isPrefixOf [c] (s.drop p) = decide (bt s p = (c.toNat : Int)):=by
 cases hl : s.drop p with
 | nil =>
  rw [bt_nil s p hl]
  show false = _
  symm
  rw [decide_eq_false_iff_not]
  intro e
  apply hc
  apply UInt8.toNat_inj.1
  show c.toNat = 0
  omega
 | cons d l =>
  rw [bt_drop s p d l hl,Bool.eq_iff_iff]
  simp [List.isPrefixOf]
  constructor
  ·rintro rfl;rfl
  ·intro e
   apply UInt8.toNat_inj.1
   omega
theorem drop_lt {s : Bs} {p : Nat} (h : bt s p ≠ 0) : p < s.length:=by
 rcases Nat.lt_or_ge p s.length with h' | h'
 ·exact h'
 ·exact absurd (bt_nil s p (List.drop_eq_nil_of_le h')) h
theorem need_run (s : Bs) (p : Nat) : needD (s.drop p) = if 0 < runN (s.drop p) then some (s.drop (p + runN (s.drop p))) else none:=by
 unfold needD
 have h:=run_at (s.drop p) 0 (Nat.zero_le _)
 have e : headIn digL (s.drop p) = decide (0 < runN (s.drop p)):=by
  rw [← h]
  cases s.drop p with
  | nil => rfl
  | cons c l => rfl
 rw [e,span_run,List.drop_drop]
 by_cases hh : 0 < runN (s.drop p) <;> simp [hh]
theorem numX_is (x : UInt8) : (digL ++ 46 :: letL).contains x = !(!digL.contains x && !letL.contains x && ((x.toNat : Int) != 46)):=by
 have h : ∀ n : _root_.Fin 256,(digL ++ 46 :: letL).contains (UInt8.ofNat n.1) = !(!digL.contains (UInt8.ofNat n.1) && !letL.contains (UInt8.ofNat n.1) && (((UInt8.ofNat n.1).toNat : Int) != 46)):=by decide +kernel
 have:=h ⟨x.toNat,x.toNat_lt⟩
 simpa using this
theorem numS_way {s : Bs} {p p0 N0 N1 p1 M2 p2 p3 M3 p4 : Nat} {k2 k4 : Int} {okA ok2 ok4 : Bool} (h : NumW s p p0 N0 N1 p1 M2 p2 p3 M3 p4 k2 k4 okA ok2 ok4) :
  numS (s.drop p) = if (ok4 && !digL.contains (s.getD p4 0) && !letL.contains (s.getD p4 0) && (bt s p4 != 46)) = true then some (k4,s.drop p4) else none:=by
 obtain ⟨h0,hN0,hN1,h1,hA,hM2,h2,hk2,ho2,h3,hM3,h4,hk4,ho4⟩:=h
 have e0 : optT [45] (s.drop p) = s.drop p0:=by
  unfold optT
  rw [bt_pre s p 45 (by decide),h0]
  by_cases hc : bt s p = 45
  ·rw [if_pos (by simpa using hc),if_pos hc,List.drop_drop];rfl
  ·rw [if_neg (by simpa using hc),if_neg hc]
 have eA : numA (s.drop p0) = if okA = true then some (s.drop p1) else none:=by
  unfold numA
  rw [bt_pre s p0 48 (by decide),need_run]
  by_cases hc : bt s p0 = 48
  ·have hN : 0 < N0:=by
    rw [hN0]
    have hd:=run_at (s.drop p0) 0 (Nat.zero_le _)
    rw [drop_get,Nat.add_zero] at hd
    have : digL.contains (s.getD p0 0) = true:=by
     rw [dig_is,decide_eq_true_eq]
     unfold bt at hc
     omega
    rw [this] at hd
    simpa using hd.symm
   have e1 : N1 = 1:=by rw [hN1,if_pos ⟨hN,hc⟩]
   rw [if_pos (by simpa using hc),hA,h1,e1,List.drop_drop]
   simp
  ·rw [if_neg (by simpa using hc),hA,h1]
   have : N1 = N0:=by rw [hN1,if_neg (fun h => hc h.2)]
   rw [this,hN0]
   by_cases hh : 0 < runN (s.drop p0) <;> simp [hh]
 have eB : ∀ (b : Bool),((if b = true then some (s.drop p1) else none : Option Bs).bind fun l1 => numB l1) = if ((if bt s p1 = 46 then b && decide (0 < M2) else b) = true) then some (k2,s.drop p2) else none:=by
  intro b
  cases b with
  | false => by_cases hc : bt s p1 = 46 <;> simp [hc]
  | true =>
   simp only [if_true,Option.bind_some]
   unfold numB
   rw [bt_pre s p1 46 (by decide)]
   by_cases hc : bt s p1 = 46
   ·rw [if_pos (by simpa using hc),if_pos hc,hk2,if_pos hc,h2,if_pos hc,List.drop_drop,need_run,← hM2]
    by_cases hh : 0 < M2 <;> simp [hh,Nat.add_assoc]
   ·rw [if_neg (by simpa using hc),if_neg hc,hk2,if_neg hc,h2,if_neg hc]
    simp
 have eC : ∀ (b : Bool),((if b = true then some (k2,s.drop p2) else none : Option (Int × Bs)).bind fun q => numC q.1 q.2) = if ((if bt s p2 = 101 ∨ bt s p2 = 69 then b && decide (0 < M3) else b) = true) then some (k4,s.drop p4) else none:=by
  intro b
  have hE : headIn [101,69] (s.drop p2) = decide (bt s p2 = 101 ∨ bt s p2 = 69):=by
   rw [bt_head s p2 [101,69] (by decide),Bool.eq_iff_iff]
   unfold bt
   simp
   constructor
   ·rintro (e | e)
    ·left;rw [e];rfl
    ·right;rw [e];rfl
   ·rintro (e | e)
    ·left;apply UInt8.toNat_inj.1;show _ = 101;omega
    ·right;apply UInt8.toNat_inj.1;show _ = 69;omega
  have hO : optO [43,45] (s.drop (p2 + 1)) = s.drop p3:=by
   unfold optO
   have : headIn [43,45] (s.drop (p2 + 1)) = decide (bt s (p2 + 1) = 43 ∨ bt s (p2 + 1) = 45):=by
    rw [bt_head s (p2 + 1) [43,45] (by decide),Bool.eq_iff_iff]
    unfold bt
    simp
    constructor
    ·rintro (e | e)
     ·left;rw [e];rfl
     ·right;rw [e];rfl
    ·rintro (e | e)
     ·left;apply UInt8.toNat_inj.1;show _ = 43;omega
     ·right;apply UInt8.toNat_inj.1;show _ = 45;omega
   rw [this,h3]
   by_cases hc : bt s (p2 + 1) = 43 ∨ bt s (p2 + 1) = 45
   ·rw [if_pos (by simpa using hc),if_pos hc,List.drop_drop]
   ·rw [if_neg (by simpa using hc),if_neg hc]
  cases b with
  | false => by_cases hc : bt s p2 = 101 ∨ bt s p2 = 69 <;> simp [hc]
  | true =>
   simp only [if_true,Option.bind_some]
   unfold numC
   rw [hE]
   by_cases hc : bt s p2 = 101 ∨ bt s p2 = 69
   ·rw [if_pos (by simpa using hc),if_pos hc,hk4,if_pos hc,h4,if_pos hc,List.drop_drop,hO,need_run,← hM3]
    by_cases hh : 0 < M3 <;> simp [hh]
   ·rw [if_neg (by simpa using hc),if_neg hc,hk4,if_neg hc,h4,if_neg hc]
    simp
 unfold numS
 rw [e0,eA]
 have assoc : ∀ (o : Option Bs),(o.bind fun l1 => (numB l1).bind fun q => (numC q.1 q.2).bind fun u => numD u.1 u.2) = ((o.bind fun l1 => numB l1).bind fun q => numC q.1 q.2).bind fun u => numD u.1 u.2:=by
  intro o
  cases o with
  | none => rfl
  | some l1 => simp only [Option.bind_some];cases numB l1 <;> rfl
 rw [assoc,eB okA,← ho2,eC ok2,← ho4]
 cases ok4 with
 | false => simp
 | true =>
  simp only [if_true,Option.bind_some,Bool.true_and]
  unfold numD
  have hX : headIn (digL ++ 46 :: letL) (s.drop p4) = !(!digL.contains (s.getD p4 0) && !letL.contains (s.getD p4 0) && (bt s p4 != 46)):=by
   rw [bt_head s p4 _ (by decide)]
   exact numX_is _
  rw [hX]
  cases (!digL.contains (s.getD p4 0) && !letL.contains (s.getD p4 0) && (bt s p4 != 46)) <;> rfl
set_option maxRecDepth 100000 in
set_option maxHeartbeats 400000 in
theorem xnumber_any (s : Bs) (p : Nat) (hp : p < s.length) (hs : s.length ≤ 16384) (w : World) :
  Calls Tryz.prog 64 #[.string ⟨s.toArray⟩,.int .i64 (p : Int)] w fun e w' => (match numS (s.drop p) with
   | some q => e = .returned (.tuple #[.int .i64 ((s.length - q.2.length : Nat) : Int),.int .i64 q.1,.bool true])
   | none => ∃ a b,e = .returned (.tuple #[.int .i64 a,.int .i64 b,.bool false])) ∧ w' = w:=by
 obtain ⟨p0,N0,N1,p1,M2,p2,p3,M3,p4,k2,k4,okA,ok2,ok4,hW⟩:=numW_of s p
 have hnum:=numS_way hW
 have HW : Hid (NumW s p p0 N0 N1 p1 M2 p2 p3 M3 p4 k2 k4 okA ok2 ok4):=hW
 obtain ⟨h0,hN0,hN1,h1,hA,hM2,h2,hk2,ho2,h3,hM3,h4,hk4,ho4⟩:=hW
 have b0 : p0 ≤ s.length:=by rw [h0];split <;> omega
 have b1 : N0 ≤ s.length - p0:=by rw [hN0];have:=run_le (s.drop p0);rw [List.length_drop] at this;omega
 have b2 : N1 ≤ N0:=by rw [hN1];split <;> omega
 have b3 : M2 ≤ s.length - (p1 + 1):=by rw [hM2];have:=run_le (s.drop (p1 + 1));rw [List.length_drop] at this;omega
 have c1 : p1 ≤ s.length:=by omega
 have c2 : p2 ≤ s.length:=by
  rw [h2]
  split
  ·rename_i hc
   have:=drop_lt (s:=s) (p:=p1) (by rw [hc];decide)
   omega
  ·omega
 have c3 : p3 ≤ s.length + 2:=by rw [h3];split <;> omega
 have b4 : M3 ≤ s.length - p3:=by rw [hM3];have:=run_le (s.drop p3);rw [List.length_drop] at this;omega
 have c4 : p4 ≤ s.length:=by
  rw [h4]
  split
  ·rename_i hc
   have h5:=drop_lt (s:=s) (p:=p2) (by rcases hc with e | e <;> rw [e] <;> decide)
   have : p3 ≤ s.length:=by
    rw [h3]
    split
    ·rename_i hd
     have:=drop_lt (s:=s) (p:=p2 + 1) (by rcases hd with e | e <;> rw [e] <;> decide)
     omega
    ·omega
   omega
  ·exact c2
 have A : ∀ (k : Nat) (w : World),Calls Tryz.prog 62 #[.string ⟨s.toArray⟩,.int .i64 (k : Int)] w fun e w' => e = .returned (.int .u8 (bt s k)) ∧ w = w':=fun k w => xat_any s (by omega) k w
 have R0 : ∀ w,Calls Tryz.prog 90 #[.string ⟨s.toArray⟩,.int .i64 (p0 : Int)] w fun e w' => e = .returned (.int .i64 (N0 : Int)) ∧ w = w':=fun w => (run_any s p0 hs (by omega) w).mono fun _ _ h => ⟨by rw [hN0];exact h.1,h.2.symm⟩
 have R2 : ∀ w,Calls Tryz.prog 90 #[.string ⟨s.toArray⟩,.int .i64 ((p1 : Int) + 1)] w fun e w' => e = .returned (.int .i64 (M2 : Int)) ∧ w = w':=fun w => (run_any s (p1 + 1) hs (by omega) w).mono fun _ _ h => ⟨by rw [hM2];exact h.1,h.2.symm⟩
 have R3 : ∀ w,Calls Tryz.prog 90 #[.string ⟨s.toArray⟩,.int .i64 (p3 : Int)] w fun e w' => e = .returned (.int .i64 (M3 : Int)) ∧ w = w':=fun w => (run_any s p3 hs (by omega) w).mono fun _ _ h => ⟨by rw [hM3];exact h.1,h.2.symm⟩
 have A3 : ∀ w,Calls Tryz.prog 62 #[.string ⟨s.toArray⟩,.int .i64 ((p2 : Int) + 1)] w fun e w' => e = .returned (.int .u8 (bt s (p2 + 1))) ∧ w = w':=fun w => A (p2 + 1) w
 have D4 : ∀ w,Calls Tryz.prog 63 #[.int .u8 ((s.getD p4 0).toNat : Int)] w fun e w' => e = .returned (.bool (digL.contains (s.getD p4 0))) ∧ w = w':=fun w => (xdigit_any (s.getD p4 0) w).mono fun _ _ h => ⟨h.1,h.2.symm⟩
 have L4 : ∀ w,Calls Tryz.prog 61 #[.int .u8 ((s.getD p4 0).toNat : Int)] w fun e w' => e = .returned (.bool (letL.contains (s.getD p4 0))) ∧ w = w':=fun w => (xletter_any (s.getD p4 0) w).mono fun _ _ h => ⟨h.1,h.2.symm⟩
 have hx4 : ((s.getD p4 0).toNat : Int) = bt s p4:=rfl
 rw [hx4] at D4 L4
 have i0 : ∀ hh,(((ByteArray.mk s.toArray)[p0]'hh).toNat : Int) = bt s p0:=fun hh => by
  unfold bt
  have e : (ByteArray.mk s.toArray)[p0]'hh = s.getD p0 0:=by
   show s.toArray[p0]'hh = _
   have : p0 < s.length:=hh
   simp [List.getD,this]
  rw [e]
 have hlast : s.length - (s.drop p4).length = p4:=by rw [List.length_drop];omega
 rw [hnum]
 obtain ⟨Z,hZ⟩ : ∃ Z : Bool,Z = (ok4 && !digL.contains (s.getD p4 0) && !letL.contains (s.getD p4 0) && (bt s p4 != 46)):=⟨_,rfl⟩
 rw [← hZ]
 suffices hmain : Calls Tryz.prog 64 #[.string ⟨s.toArray⟩,.int .i64 (p : Int)] w fun e w' => e = .returned (.tuple #[.int .i64 (p4 : Int),.int .i64 k4,.bool Z]) ∧ w = w' by
  refine hmain.mono ?_
  rintro e w' ⟨rfl,rfl⟩
  refine ⟨?_,rfl⟩
  cases Z
  ·exact ⟨_,_,rfl⟩
  ·show Ending.returned _ = Ending.returned (.tuple #[.int .i64 ((s.length - (s.drop p4).length : Nat) : Int),.int .i64 k4,.bool true])
   rw [hlast]
 have HZ : Hid (Z = (ok4 && !digL.contains (s.getD p4 0) && !letL.contains (s.getD p4 0) && (bt s p4 != 46))):=hZ
 clear hZ
 have hD : (ByteArray.mk s.toArray).size = s.length:=rfl
 have hbd:=bt_bd s
 clear hnum hlast hx4 h0 hN0 hN1 h1 hA hM2 h2 hk2 ho2 h3 hM3 h4 hk4 ho4 b3 b4
 generalize (ByteArray.mk s.toArray) = D at *
 generalize digL.contains (s.getD p4 0) = dB at *
 generalize letL.contains (s.getD p4 0) = lB at *
 go_enter Tryz.func64,Tryz.ntmps64
 go_upto_if 14 with (go_at_call 62;refine (A p _).mono ?_;rintro e w1 ⟨rfl,rfl⟩)
 go_cut [1] (fun i wc => i = .int .i64 (p0 : Int) ∧ w = wc)
 case first =>
  by_cases hc : bt s p = 45
  ·have x1 : (bt s p == 45) = true:=by simpa using hc
   have e : p0 = p + 1:=by rw [HW.out.h0,if_pos hc]
   subst e
   go_wp2_with fail
   go_meet
   exact ⟨by simp,rfl⟩
  ·have x1 : (bt s p == 45) = false:=by simpa using hc
   have e : p0 = p:=by rw [HW.out.h0,if_neg hc]
   subst e
   go_wp2_with fail
   go_meet
   exact ⟨rfl,rfl⟩
 case rest =>
 obtain ⟨rfl,rfl⟩:=hcut
 go_upto_region 5 with (go_at_call 90;refine (R0 _).mono ?_;rintro e w1 ⟨rfl,rfl⟩)
 go_cut [27] (fun b wc => b = .bool (decide (0 < N0 ∧ bt s p0 = 48)) ∧ w = wc)
 case first =>
  by_cases hc : 0 < N0
  ·have hc2 : (0 : Int) < (N0 : Int):=by omega
   have hlt : p0 < s.length:=by omega
   have hlt2 : (p0 : Int) < (s.length : Int):=by omega
   go_wp2_with fail
   go_meet
   exact ⟨by simp [hc];try rfl,rfl⟩
  ·have hc2 : ¬ (0 : Int) < (N0 : Int):=by omega
   go_wp2_with fail
   go_meet
   exact ⟨by simp [hc],rfl⟩
 case rest =>
 obtain ⟨rfl,rfl⟩:=hcut
 go_upto_if 27 with fail
 go_cut [8] (fun n wc => n = .int .i64 (N1 : Int) ∧ w = wc)
 case first =>
  by_cases hc : 0 < N0 ∧ bt s p0 = 48
  ·have x1:=decide_eq_true hc
   have e : N1 = 1:=by rw [HW.out.hN1,if_pos hc]
   subst e
   go_wp2_with fail
   go_meet
   exact ⟨rfl,rfl⟩
  ·have x1:=decide_eq_false hc
   have e : N1 = N0:=by rw [HW.out.hN1,if_neg hc]
   subst e
   go_wp2_with fail
   go_meet
   exact ⟨rfl,rfl⟩
 case rest =>
 obtain ⟨rfl,rfl⟩:=hcut
 have q1 : (p0 : Int) + (N1 : Int) = (p1 : Int):=by have:=HW.out.h1;omega
 go_upto_if 36 with (go_at_call 62;(with_reducible refine (A p1 _).mono ?_);rintro e w1 ⟨rfl,rfl⟩)
 go_cut [1,7,8,9] (fun i k _ o wc => i = .int .i64 (p2 : Int) ∧ k = .int .i64 k2 ∧ o = .bool ok2 ∧ w = wc)
 case first =>
  have eA:=HW.out.hA
  have e2:=HW.out.h2
  have ek:=HW.out.hk2
  have eo:=HW.out.ho2
  by_cases hc : bt s p1 = 46
  ·have x1 : (bt s p1 == 46) = true:=by simpa using hc
   rw [if_pos hc] at e2 ek eo
   have q2 : (p1 : Int) + (1 + (M2 : Int)) = (p2 : Int):=by omega
   subst ek
   have HO : Hid (ok2 = (decide (0 < N1) && decide (0 < M2))):=by rw [← eA];exact eo
   clear eA eo e2
   by_cases hn : 0 < N1
   ·have hn2 : (0 : Int) < (N1 : Int):=by omega
    go_wp2_with (go_at_call 90;(with_reducible refine (R2 _).mono ?_);rintro e w1 ⟨rfl,rfl⟩)
    go_meet
    exact ⟨rfl,rfl,by simp [HO.out,hn],rfl⟩
   ·have hn2 : ¬ (0 : Int) < (N1 : Int):=by omega
    go_wp2_with (go_at_call 90;(with_reducible refine (R2 _).mono ?_);rintro e w1 ⟨rfl,rfl⟩)
    go_meet
    exact ⟨rfl,rfl,by simp [HO.out,hn],rfl⟩
  ·have x1 : (bt s p1 == 46) = false:=by simpa using hc
   rw [if_neg hc] at e2 ek eo
   subst e2 ek
   have HO : Hid (ok2 = decide (0 < N1)):=eo.trans eA
   clear eA eo
   go_wp2_with fail
   go_meet
   exact ⟨rfl,rfl,by simp [HO.out],rfl⟩
 case rest =>
 obtain ⟨rfl,rfl,rfl,rfl⟩:=hcut
 go_upto_region 14 with fail
 go_cut [59] (fun b wc => b = .bool (decide (bt s p2 = 101 ∨ bt s p2 = 69)) ∧ w = wc)
 case first =>
  by_cases hc : bt s p2 = 101
  ·have x1 : (bt s p2 == 101) = true:=by simpa using hc
   go_wp2_with (go_at_call 62;(with_reducible refine (A p2 _).mono ?_);rintro e w1 ⟨rfl,rfl⟩)
   go_meet
   exact ⟨by simp [hc],rfl⟩
  ·have x1 : (bt s p2 == 101) = false:=by simpa using hc
   go_wp2_with (go_at_call 62;(with_reducible refine (A p2 _).mono ?_);rintro e w1 ⟨rfl,rfl⟩)
   go_meet
   exact ⟨by simp [hc];try rfl,rfl⟩
 case rest =>
 obtain ⟨rfl,rfl⟩:=hcut
 go_upto_if 59 with fail
 go_cut [1,7,8,9] (fun i k _ o wc => i = .int .i64 (p4 : Int) ∧ k = .int .i64 k4 ∧ o = .bool ok4 ∧ w = wc)
 case first =>
  have e4:=HW.out.h4
  have ek:=HW.out.hk4
  have eo:=HW.out.ho4
  by_cases hc : bt s p2 = 101 ∨ bt s p2 = 69
  ·have x1:=decide_eq_true hc
   rw [if_pos hc] at e4 ek eo
   subst ek
   have q4 : (p3 : Int) + (M3 : Int) = (p4 : Int):=by omega
   have HO : Hid (ok4 = (ok2 && decide (0 < M3))):=eo
   clear eo e4
   go_upto_region 17 with fail
   go_cut [71] (fun b wc => b = .bool (decide (bt s (p2 + 1) = 43 ∨ bt s (p2 + 1) = 45)) ∧ w = wc)
   case first =>
    by_cases hd : bt s (p2 + 1) = 43
    ·have x2 : (bt s (p2 + 1) == 43) = true:=by simpa using hd
     go_wp2_with (go_at_call 62;(with_reducible refine (A3 _).mono ?_);rintro e w1 ⟨rfl,rfl⟩)
     go_meet
     exact ⟨by simp [hd],rfl⟩
    ·have x2 : (bt s (p2 + 1) == 43) = false:=by simpa using hd
     go_wp2_with (go_at_call 62;(with_reducible refine (A3 _).mono ?_);rintro e w1 ⟨rfl,rfl⟩)
     go_meet
     exact ⟨by simp [hd];try rfl,rfl⟩
   case rest =>
   obtain ⟨rfl,rfl⟩:=hcut
   go_upto_if 71 with fail
   go_cut [1] (fun i wc => i = .int .i64 (p3 : Int) ∧ w = wc)
   case first =>
    have e3:=HW.out.h3
    by_cases hd : bt s (p2 + 1) = 43 ∨ bt s (p2 + 1) = 45
    ·have x2:=decide_eq_true hd
     rw [if_pos hd] at e3
     have HE : Hid (p3 = p2 + 2):=e3
     clear e3
     go_wp2_with fail
     go_meet
     exact ⟨congrArg (Value.int .i64) (by have:=HE.out;omega),rfl⟩
    ·have x2:=decide_eq_false hd
     rw [if_neg hd] at e3
     have HE : Hid (p3 = p2 + 1):=e3
     clear e3
     go_wp2_with fail
     go_meet
     exact ⟨congrArg (Value.int .i64) (by have:=HE.out;omega),rfl⟩
   case rest =>
   obtain ⟨rfl,rfl⟩:=hcut
   cases ok2
   ·go_wp2_with (go_at_call 90;(with_reducible refine (R3 _).mono ?_);rintro e w1 ⟨rfl,rfl⟩)
    go_meet
    exact ⟨rfl,rfl,by simp [HO.out],rfl⟩
   ·go_wp2_with (go_at_call 90;(with_reducible refine (R3 _).mono ?_);rintro e w1 ⟨rfl,rfl⟩)
    go_meet
    exact ⟨rfl,rfl,by simp [HO.out],rfl⟩
  ·have x1:=decide_eq_false hc
   rw [if_neg hc] at e4 ek eo
   subst e4 ek eo
   go_wp2_with fail
   go_meet
   exact ⟨rfl,rfl,rfl,rfl⟩
 case rest =>
 obtain ⟨rfl,rfl,rfl,rfl⟩:=hcut
 cases ok4
 ·go_wp2_with (go_at_call 62;(with_reducible refine (A p4 _).mono ?_);rintro e w1 ⟨rfl,rfl⟩)
  go_ret3
  exact ⟨by rw [HZ.out];rfl,rfl⟩
 ·cases dB
  ·cases lB
   ·by_cases hc : bt s p4 = 46
    ·have x1 : (bt s p4 != 46) = false:=by simpa using hc
     clear hc
     go_wp2_with (first
      | (go_at_call 61;(with_reducible refine (L4 _).mono ?_);rintro e w1 ⟨rfl,rfl⟩)
      | (go_at_call 63;(with_reducible refine (D4 _).mono ?_);rintro e w1 ⟨rfl,rfl⟩)
      | (go_at_call 62;(with_reducible refine (A p4 _).mono ?_);rintro e w1 ⟨rfl,rfl⟩)
      | fail)
     go_ret3
     exact ⟨by rw [HZ.out,x1];rfl,rfl⟩
    ·have x1 : (bt s p4 != 46) = true:=by simpa using hc
     clear hc
     go_wp2_with (first
      | (go_at_call 61;(with_reducible refine (L4 _).mono ?_);rintro e w1 ⟨rfl,rfl⟩)
      | (go_at_call 63;(with_reducible refine (D4 _).mono ?_);rintro e w1 ⟨rfl,rfl⟩)
      | (go_at_call 62;(with_reducible refine (A p4 _).mono ?_);rintro e w1 ⟨rfl,rfl⟩)
      | fail)
     go_ret3
     exact ⟨by rw [HZ.out,x1];rfl,rfl⟩
   ·go_wp2_with (first
     | (go_at_call 61;(with_reducible refine (L4 _).mono ?_);rintro e w1 ⟨rfl,rfl⟩)
     | (go_at_call 63;(with_reducible refine (D4 _).mono ?_);rintro e w1 ⟨rfl,rfl⟩)
     | (go_at_call 62;(with_reducible refine (A p4 _).mono ?_);rintro e w1 ⟨rfl,rfl⟩)
     | fail)
    go_ret3
    exact ⟨by rw [HZ.out];rfl,rfl⟩
  ·go_wp2_with (first
    | (go_at_call 63;(with_reducible refine (D4 _).mono ?_);rintro e w1 ⟨rfl,rfl⟩)
    | (go_at_call 62;(with_reducible refine (A p4 _).mono ?_);rintro e w1 ⟨rfl,rfl⟩)
    | fail)
   go_ret3
   exact ⟨by rw [HZ.out];rfl,rfl⟩
end
section
open Go Go.RowKit
def hexI (x : UInt8) : Int:=match hexV x with
 | some d => (d : Int)
 | none => -1
set_option maxHeartbeats 1000000 in
theorem xhex_any (x : UInt8) (w : World) : Calls Tryz.prog 111 #[.int .u8 (x.toNat : Int)] w fun e w' => e = .returned (.int .i64 (hexI x)) ∧ w = w':=by
 have Dg:=fun w => xdigit_any x w
 rw [dig_is] at Dg
 have hlt:=x.toNat_lt
 have hI : hexI x = if 48 ≤ x.toNat ∧ x.toNat ≤ 57 then (x.toNat : Int) - 48 else if 97 ≤ x.toNat ∧ x.toNat ≤ 102 then (x.toNat : Int) - 87 else if 65 ≤ x.toNat ∧ x.toNat ≤ 70 then (x.toNat : Int) - 55 else -1:=by
  unfold hexI hexV
  by_cases h1 : 48 ≤ x.toNat ∧ x.toNat ≤ 57
  ·rw [if_pos h1,if_pos h1];show ((x.toNat - 48 : Nat) : Int) = _;omega
  ·rw [if_neg h1,if_neg h1]
   by_cases h2 : 97 ≤ x.toNat ∧ x.toNat ≤ 102
   ·rw [if_pos h2,if_pos h2];show ((x.toNat - 87 : Nat) : Int) = _;omega
   ·rw [if_neg h2,if_neg h2]
    by_cases h3 : 65 ≤ x.toNat ∧ x.toNat ≤ 70
    ·rw [if_pos h3,if_pos h3];show ((x.toNat - 55 : Nat) : Int) = _;omega
    ·rw [if_neg h3,if_neg h3]
 rw [hI]
 clear hI
 by_cases h1 : 48 ≤ x.toNat ∧ x.toNat ≤ 57
 ·rw [if_pos h1]
  rw [decide_eq_true h1] at Dg
  have g1 : (48 : Int) ≤ (x.toNat : Int):=by omega
  have g2 : (x.toNat : Int) ≤ 57:=by omega
  clear h1 hlt
  generalize (x.toNat : Int) = c at *
  go_enter Tryz.func111,Tryz.ntmps111
  go_wp2_with (go_at_call 63;(with_reducible refine (Dg _).mono ?_);rintro e w1 ⟨rfl,hw⟩;subst hw)
  go_ret
  exact ⟨by first | rfl | (congr 1),rfl⟩
 ·rw [if_neg h1]
  rw [decide_eq_false h1] at Dg
  by_cases h2 : 97 ≤ x.toNat ∧ x.toNat ≤ 102
  ·rw [if_pos h2]
   have g1 : (97 : Int) ≤ (x.toNat : Int):=by omega
   have g2 : (x.toNat : Int) ≤ 102:=by omega
   clear h1 h2 hlt
   generalize (x.toNat : Int) = c at *
   go_enter Tryz.func111,Tryz.ntmps111
   go_wp2_with (go_at_call 63;(with_reducible refine (Dg _).mono ?_);rintro e w1 ⟨rfl,hw⟩;subst hw)
   go_ret
   refine ⟨congrArg Ending.returned (congrArg (Value.int .i64) ?_),rfl⟩
   omega
  ·rw [if_neg h2]
   by_cases h3 : 65 ≤ x.toNat ∧ x.toNat ≤ 70
   ·rw [if_pos h3]
    have g1 : (65 : Int) ≤ (x.toNat : Int):=by omega
    have g2 : (x.toNat : Int) ≤ 70:=by omega
    have g3 : ¬ (97 : Int) ≤ (x.toNat : Int):=by omega
    clear h1 h2 h3 hlt
    generalize (x.toNat : Int) = c at *
    go_enter Tryz.func111,Tryz.ntmps111
    go_wp2_with (go_at_call 63;(with_reducible refine (Dg _).mono ?_);rintro e w1 ⟨rfl,hw⟩;subst hw)
    go_ret
    refine ⟨congrArg Ending.returned (congrArg (Value.int .i64) ?_),rfl⟩
    omega
   ·rw [if_neg h3]
    have g0 : (0 : Int) ≤ (x.toNat : Int):=by omega
    have g : ((x.toNat : Int) < 65 ∨ (70 < (x.toNat : Int) ∧ (x.toNat : Int) < 97)) ∨ 102 < (x.toNat : Int):=by omega
    clear h1 h2 h3 hlt
    generalize (x.toNat : Int) = c at *
    rcases g with (g | ⟨g,g'⟩) | g
    ·have k1 : ¬ 97 ≤ c:=by omega
     have k2 : ¬ 65 ≤ c:=by omega
     go_enter Tryz.func111,Tryz.ntmps111
     go_wp2_with (go_at_call 63;(with_reducible refine (Dg _).mono ?_);rintro e w1 ⟨rfl,hw⟩;subst hw)
     go_ret
     exact ⟨rfl,rfl⟩
    ·have k1 : ¬ 97 ≤ c:=by omega
     have k2 : 65 ≤ c:=by omega
     have k3 : ¬ c ≤ 70:=by omega
     go_enter Tryz.func111,Tryz.ntmps111
     go_wp2_with (go_at_call 63;(with_reducible refine (Dg _).mono ?_);rintro e w1 ⟨rfl,hw⟩;subst hw)
     go_ret
     exact ⟨rfl,rfl⟩
    ·have k1 : 97 ≤ c:=by omega
     have k2 : ¬ c ≤ 102:=by omega
     have k3 : 65 ≤ c:=by omega
     have k4 : ¬ c ≤ 70:=by omega
     go_enter Tryz.func111,Tryz.ntmps111
     go_wp2_with (go_at_call 63;(with_reducible refine (Dg _).mono ?_);rintro e w1 ⟨rfl,hw⟩;subst hw)
     go_ret
     exact ⟨rfl,rfl⟩
def hxs (s : Bs) (q : Nat) : Nat → Option Nat
 | 0 => some 0
 | k + 1 => (hxs s q k).bind fun n => (hexV (s.getD (q + (k + 1)) 0)).map fun d => 16 * n + d
theorem hxs_lt (s : Bs) (q : Nat) : ∀ (k n : Nat),hxs s q k = some n → n < 16 ^ k
 | 0,n,h => by cases h;decide
 | k + 1,n,h => by
  unfold hxs at h
  cases hk : hxs s q k with
  | none => rw [hk] at h;cases h
  | some m =>
   rw [hk,Option.bind_some] at h
   cases hd : hexV (s.getD (q + (k + 1)) 0) with
   | none => rw [hd] at h;cases h
   | some d =>
    rw [hd] at h
    simp at h
    have h1:=hxs_lt s q k m hk
    have h2:=hexV_lt hd
    rw [Nat.pow_succ]
    omega
theorem hexV_zero : hexV 0 = none:=rfl
theorem nmb_hxs (s : Bs) (q : Nat) : nmbS (s.drop (q + 1)) = (hxs s q 4).map fun n => (unitS n,s.drop (q + 5)):=by
 have hg : ∀ k,s.getD (q + (k + 1)) 0 = (s.drop (q + 1)).getD k 0:=fun k => by rw [drop_get];congr 1;omega
 have hr : s.drop (q + 5) = (s.drop (q + 1)).drop 4:=by rw [List.drop_drop]
 have e4 : hxs s q 4 = (((((some 0 : Option Nat).bind fun n => (hexV ((s.drop (q + 1)).getD 0 0)).map fun d => 16 * n + d).bind fun n => (hexV ((s.drop (q + 1)).getD 1 0)).map fun d => 16 * n + d).bind fun n => (hexV ((s.drop (q + 1)).getD 2 0)).map fun d => 16 * n + d).bind fun n => (hexV ((s.drop (q + 1)).getD 3 0)).map fun d => 16 * n + d):=by
  simp only [hxs]
  rw [hg 0,hg 1,hg 2,hg 3]
 rw [e4,hr]
 generalize s.drop (q + 1) = l
 match l with
 | a :: b :: c :: d :: r =>
  rw [nmbS_four]
  show _ = Option.map _ (((((some 0 : Option Nat).bind fun n => (hexV a).map fun d => 16 * n + d).bind fun n => (hexV b).map fun d => 16 * n + d).bind fun n => (hexV c).map fun d => 16 * n + d).bind fun n => (hexV d).map fun d => 16 * n + d)
  unfold hexQ
  cases hexV a with
  | none => rfl
  | some x =>
   cases hexV b with
   | none => rfl
   | some y =>
    cases hexV c with
    | none => rfl
    | some z =>
     cases hexV d with
     | none => rfl
     | some t =>
      simp only [Option.bind_some,Option.map_some]
      show some (unitS _,r) = some (unitS _,r)
      congr 3
      omega
 | [] => rfl
 | [a] =>
  show none = Option.map _ (((((some 0 : Option Nat).bind fun n => (hexV a).map fun d => 16 * n + d).bind fun n => (hexV 0).map fun d => 16 * n + d).bind fun n => (hexV 0).map fun d => 16 * n + d).bind fun n => (hexV 0).map fun d => 16 * n + d)
  rw [hexV_zero]
  cases hexV a <;> rfl
 | [a,b] =>
  show none = Option.map _ (((((some 0 : Option Nat).bind fun n => (hexV a).map fun d => 16 * n + d).bind fun n => (hexV b).map fun d => 16 * n + d).bind fun n => (hexV 0).map fun d => 16 * n + d).bind fun n => (hexV 0).map fun d => 16 * n + d)
  rw [hexV_zero]
  cases hexV a with
  | none => rfl
  | some x => cases hexV b <;> rfl
 | [a,b,c] =>
  show none = Option.map _ (((((some 0 : Option Nat).bind fun n => (hexV a).map fun d => 16 * n + d).bind fun n => (hexV b).map fun d => 16 * n + d).bind fun n => (hexV c).map fun d => 16 * n + d).bind fun n => (hexV 0).map fun d => 16 * n + d)
  rw [hexV_zero]
  cases hexV a with
  | none => rfl
  | some x =>
   cases hexV b with
   | none => rfl
   | some y => cases hexV c <;> rfl
def EscX (s : Bs) (w : World) (r : Option (Bs × Bs)) (e : Ending) (w' : World) : Prop:=(match r with
 | some p => e = .returned (.tuple #[.string ⟨p.1.toArray⟩,.int .i64 ((s.length - p.2.length : Nat) : Int),.bool true])
 | none => ∃ a b,e = .returned (.tuple #[.string a,.int .i64 b,.bool false])) ∧ Below w.heap.size w w'
end
section
open Go Go.RowKit
attribute [local irreducible] unitS
section
variable {s : Bs} {q : Nat} {w : World}
set_option maxHeartbeats 1000000 in
theorem esc_98 (hq : q < s.length) (hs : s.length ≤ 16384) (hc : bt s q = 98) : Calls Tryz.prog 93 #[.string ⟨s.toArray⟩,.int .i64 (q : Int)] w fun e w' => e = .returned (.tuple #[.string ⟨#[8]⟩,.int .i64 ((q + 1 : Nat) : Int),.bool true]) ∧ w = w':=by
 have A : ∀ w : World,Calls Tryz.prog 62 #[.string ⟨s.toArray⟩,.int .i64 (q : Int)] w fun e w' => e = .returned (.int .u8 98) ∧ w = w':=fun w => by
  have:=xat_any s (by omega) q w
  rw [show ((s.getD q 0).toNat : Int) = 98 from hc] at this
  exact this
 clear hc
 generalize (ByteArray.mk s.toArray) = D at *
 go_enter Tryz.func93,Tryz.ntmps93
 go_wp2_with (go_at_call 62;(with_reducible refine (A _).mono ?_);rintro e w1 ⟨rfl,rfl⟩)
 go_ret3
 exact ⟨rfl,rfl⟩
set_option maxHeartbeats 1000000 in
theorem esc_102 (hq : q < s.length) (hs : s.length ≤ 16384) (hc : bt s q = 102) : Calls Tryz.prog 93 #[.string ⟨s.toArray⟩,.int .i64 (q : Int)] w fun e w' => e = .returned (.tuple #[.string ⟨#[12]⟩,.int .i64 ((q + 1 : Nat) : Int),.bool true]) ∧ w = w':=by
 have A : ∀ w : World,Calls Tryz.prog 62 #[.string ⟨s.toArray⟩,.int .i64 (q : Int)] w fun e w' => e = .returned (.int .u8 102) ∧ w = w':=fun w => by
  have:=xat_any s (by omega) q w
  rw [show ((s.getD q 0).toNat : Int) = 102 from hc] at this
  exact this
 clear hc
 generalize (ByteArray.mk s.toArray) = D at *
 go_enter Tryz.func93,Tryz.ntmps93
 go_wp2_with (go_at_call 62;(with_reducible refine (A _).mono ?_);rintro e w1 ⟨rfl,rfl⟩)
 go_ret3
 exact ⟨rfl,rfl⟩
set_option maxHeartbeats 1000000 in
theorem esc_110 (hq : q < s.length) (hs : s.length ≤ 16384) (hc : bt s q = 110) : Calls Tryz.prog 93 #[.string ⟨s.toArray⟩,.int .i64 (q : Int)] w fun e w' => e = .returned (.tuple #[.string ⟨#[10]⟩,.int .i64 ((q + 1 : Nat) : Int),.bool true]) ∧ w = w':=by
 have A : ∀ w : World,Calls Tryz.prog 62 #[.string ⟨s.toArray⟩,.int .i64 (q : Int)] w fun e w' => e = .returned (.int .u8 110) ∧ w = w':=fun w => by
  have:=xat_any s (by omega) q w
  rw [show ((s.getD q 0).toNat : Int) = 110 from hc] at this
  exact this
 clear hc
 generalize (ByteArray.mk s.toArray) = D at *
 go_enter Tryz.func93,Tryz.ntmps93
 go_wp2_with (go_at_call 62;(with_reducible refine (A _).mono ?_);rintro e w1 ⟨rfl,rfl⟩)
 go_ret3
 exact ⟨rfl,rfl⟩
set_option maxHeartbeats 1000000 in
theorem esc_114 (hq : q < s.length) (hs : s.length ≤ 16384) (hc : bt s q = 114) : Calls Tryz.prog 93 #[.string ⟨s.toArray⟩,.int .i64 (q : Int)] w fun e w' => e = .returned (.tuple #[.string ⟨#[13]⟩,.int .i64 ((q + 1 : Nat) : Int),.bool true]) ∧ w = w':=by
 have A : ∀ w : World,Calls Tryz.prog 62 #[.string ⟨s.toArray⟩,.int .i64 (q : Int)] w fun e w' => e = .returned (.int .u8 114) ∧ w = w':=fun w => by
  have:=xat_any s (by omega) q w
  rw [show ((s.getD q 0).toNat : Int) = 114 from hc] at this
  exact this
 clear hc
 generalize (ByteArray.mk s.toArray) = D at *
 go_enter Tryz.func93,Tryz.ntmps93
 go_wp2_with (go_at_call 62;(with_reducible refine (A _).mono ?_);rintro e w1 ⟨rfl,rfl⟩)
 go_ret3
 exact ⟨rfl,rfl⟩
set_option maxHeartbeats 1000000 in
theorem esc_116 (hq : q < s.length) (hs : s.length ≤ 16384) (hc : bt s q = 116) : Calls Tryz.prog 93 #[.string ⟨s.toArray⟩,.int .i64 (q : Int)] w fun e w' => e = .returned (.tuple #[.string ⟨#[9]⟩,.int .i64 ((q + 1 : Nat) : Int),.bool true]) ∧ w = w':=by
 have A : ∀ w : World,Calls Tryz.prog 62 #[.string ⟨s.toArray⟩,.int .i64 (q : Int)] w fun e w' => e = .returned (.int .u8 116) ∧ w = w':=fun w => by
  have:=xat_any s (by omega) q w
  rw [show ((s.getD q 0).toNat : Int) = 116 from hc] at this
  exact this
 clear hc
 generalize (ByteArray.mk s.toArray) = D at *
 go_enter Tryz.func93,Tryz.ntmps93
 go_wp2_with (go_at_call 62;(with_reducible refine (A _).mono ?_);rintro e w1 ⟨rfl,rfl⟩)
 go_ret3
 exact ⟨rfl,rfl⟩
set_option maxHeartbeats 1000000 in
theorem esc_34 (hq : q < s.length) (hs : s.length ≤ 16384) (hc : bt s q = 34) (hx : (ByteArray.mk s.toArray).extract q (q + 1) = ⟨#[34]⟩) : Calls Tryz.prog 93 #[.string ⟨s.toArray⟩,.int .i64 (q : Int)] w fun e w' => e = .returned (.tuple #[.string ⟨#[34]⟩,.int .i64 ((q + 1 : Nat) : Int),.bool true]) ∧ w = w':=by
 have A : ∀ w : World,Calls Tryz.prog 62 #[.string ⟨s.toArray⟩,.int .i64 (q : Int)] w fun e w' => e = .returned (.int .u8 34) ∧ w = w':=fun w => by
  have:=xat_any s (by omega) q w
  rw [show ((s.getD q 0).toNat : Int) = 34 from hc] at this
  exact this
 have hD : (ByteArray.mk s.toArray).size = s.length:=rfl
 have f1 : (q : Int) + 1 ≤ (s.length : Int):=by omega
 clear hc
 generalize (ByteArray.mk s.toArray) = D at *
 go_enter Tryz.func93,Tryz.ntmps93
 go_wp2_with (go_at_call 62;(with_reducible refine (A _).mono ?_);rintro e w1 ⟨rfl,rfl⟩)
 go_ret3
 exact ⟨rfl,rfl⟩
set_option maxHeartbeats 1000000 in
theorem esc_92 (hq : q < s.length) (hs : s.length ≤ 16384) (hc : bt s q = 92) (hx : (ByteArray.mk s.toArray).extract q (q + 1) = ⟨#[92]⟩) : Calls Tryz.prog 93 #[.string ⟨s.toArray⟩,.int .i64 (q : Int)] w fun e w' => e = .returned (.tuple #[.string ⟨#[92]⟩,.int .i64 ((q + 1 : Nat) : Int),.bool true]) ∧ w = w':=by
 have A : ∀ w : World,Calls Tryz.prog 62 #[.string ⟨s.toArray⟩,.int .i64 (q : Int)] w fun e w' => e = .returned (.int .u8 92) ∧ w = w':=fun w => by
  have:=xat_any s (by omega) q w
  rw [show ((s.getD q 0).toNat : Int) = 92 from hc] at this
  exact this
 have hD : (ByteArray.mk s.toArray).size = s.length:=rfl
 have f1 : (q : Int) + 1 ≤ (s.length : Int):=by omega
 clear hc
 generalize (ByteArray.mk s.toArray) = D at *
 go_enter Tryz.func93,Tryz.ntmps93
 go_wp2_with (go_at_call 62;(with_reducible refine (A _).mono ?_);rintro e w1 ⟨rfl,rfl⟩)
 go_ret3
 exact ⟨rfl,rfl⟩
set_option maxHeartbeats 1000000 in
theorem esc_47 (hq : q < s.length) (hs : s.length ≤ 16384) (hc : bt s q = 47) (hx : (ByteArray.mk s.toArray).extract q (q + 1) = ⟨#[47]⟩) : Calls Tryz.prog 93 #[.string ⟨s.toArray⟩,.int .i64 (q : Int)] w fun e w' => e = .returned (.tuple #[.string ⟨#[47]⟩,.int .i64 ((q + 1 : Nat) : Int),.bool true]) ∧ w = w':=by
 have A : ∀ w : World,Calls Tryz.prog 62 #[.string ⟨s.toArray⟩,.int .i64 (q : Int)] w fun e w' => e = .returned (.int .u8 47) ∧ w = w':=fun w => by
  have:=xat_any s (by omega) q w
  rw [show ((s.getD q 0).toNat : Int) = 47 from hc] at this
  exact this
 have hD : (ByteArray.mk s.toArray).size = s.length:=rfl
 have f1 : (q : Int) + 1 ≤ (s.length : Int):=by omega
 clear hc
 generalize (ByteArray.mk s.toArray) = D at *
 go_enter Tryz.func93,Tryz.ntmps93
 go_wp2_with (go_at_call 62;(with_reducible refine (A _).mono ?_);rintro e w1 ⟨rfl,rfl⟩)
 go_ret3
 exact ⟨rfl,rfl⟩
set_option maxHeartbeats 1000000 in
theorem esc_none (hs : s.length ≤ 16384) (hc : ∀ c ∈ ([34,92,47,98,102,110,114,116,117] : List Int),bt s q ≠ c) : Calls Tryz.prog 93 #[.string ⟨s.toArray⟩,.int .i64 (q : Int)] w fun e w' => e = .returned (.tuple #[.string ⟨#[]⟩,.int .i64 (q : Int),.bool false]) ∧ w = w':=by
 have A : ∀ w : World,Calls Tryz.prog 62 #[.string ⟨s.toArray⟩,.int .i64 (q : Int)] w fun e w' => e = .returned (.int .u8 (bt s q)) ∧ w = w':=fun w => xat_any s (by omega) q w
 have x1 : (bt s q == 34) = false:=by simpa using hc 34 (by simp)
 have x2 : (bt s q == 92) = false:=by simpa using hc 92 (by simp)
 have x3 : (bt s q == 47) = false:=by simpa using hc 47 (by simp)
 have x4 : (bt s q == 98) = false:=by simpa using hc 98 (by simp)
 have x5 : (bt s q == 102) = false:=by simpa using hc 102 (by simp)
 have x6 : (bt s q == 110) = false:=by simpa using hc 110 (by simp)
 have x7 : (bt s q == 114) = false:=by simpa using hc 114 (by simp)
 have x8 : (bt s q == 116) = false:=by simpa using hc 116 (by simp)
 have x9 : (bt s q == 117) = false:=by simpa using hc 117 (by simp)
 clear hc
 generalize bt s q = c at *
 generalize (ByteArray.mk s.toArray) = D at *
 go_enter Tryz.func93,Tryz.ntmps93
 go_wp2_with (go_at_call 62;(with_reducible refine (A _).mono ?_);rintro e w1 ⟨rfl,rfl⟩)
 go_ret3
 exact ⟨rfl,rfl⟩
set_option maxRecDepth 100000 in
set_option maxHeartbeats 2000000 in
theorem esc_117 (Q : Ending → Prop) (hyes : ∀ n,hxs s q 4 = some n → Q (.returned (.tuple #[.string ⟨(unitS n).toArray⟩,.int .i64 ((q + 5 : Nat) : Int),.bool true]))) (hno : hxs s q 4 = none → Q (.returned (.tuple #[.string ⟨#[]⟩,.int .i64 (q : Int),.bool false]))) (hq : q < s.length) (hs : s.length ≤ 16384) (hc : bt s q = 117) : Calls Tryz.prog 93 #[.string ⟨s.toArray⟩,.int .i64 (q : Int)] w fun e w' => Q e ∧ Below w.heap.size w w':=by
 have A0 : ∀ w : World,Calls Tryz.prog 62 #[.string ⟨s.toArray⟩,.int .i64 (q : Int)] w fun e w' => e = .returned (.int .u8 117) ∧ w = w':=fun w => by
  have:=xat_any s (by omega) q w
  rw [show ((s.getD q 0).toNat : Int) = 117 from hc] at this
  exact this
 have A : ∀ (k : Nat) (w : World),Calls Tryz.prog 62 #[.string ⟨s.toArray⟩,.int .i64 ((q : Int) + ((k : Int) + 1))] w fun e w' => e = .returned (.int .u8 ((s.getD (q + (k + 1)) 0).toNat : Int)) ∧ w = w':=fun k w => xat_any s (by omega) (q + (k + 1)) w
 have HY : Hid (∀ n,hxs s q 4 = some n → Q (.returned (.tuple #[.string ⟨(unitS n).toArray⟩,.int .i64 ((q + 5 : Nat) : Int),.bool true]))):=hyes
 have HNo : Hid (hxs s q 4 = none → Q (.returned (.tuple #[.string ⟨#[]⟩,.int .i64 (q : Int),.bool false]))):=hno
 clear hc hyes hno
 generalize hDD : (ByteArray.mk s.toArray) = D at *
 clear hDD
 go_enter Tryz.func93,Tryz.ntmps93
 go_wp2_with (go_at_call 62;(with_reducible refine (A0 _).mono ?_);rintro e w1 ⟨rfl,rfl⟩)
 go_loopw [7,8] (fun n k wr => ∃ (j m : Nat),j ≤ 4 ∧ n = .int .i64 (m : Int) ∧ k = .int .i64 ((j : Int) + 1) ∧ hxs s q j = some m ∧ w = wr) (fun _ k _ => 6 - (RowKit.intOf k).toNat)
 case atStart => exact ⟨0,0,by omega,rfl,rfl,rfl,rfl⟩
 case round =>
  obtain ⟨j,m,hj,rfl,rfl,hx,rfl⟩:=hrel
  have hm:=hxs_lt s q j m hx
  by_cases hlt : j < 4
  ·have g1 : (j : Int) + 1 ≤ 4:=by omega
   have H:=fun w => xhex_any (s.getD (q + (j + 1)) 0) w
   have A1:=A j
   have hbd : m < 65536:=Nat.lt_of_lt_of_le hm (by
    have : 16 ^ j ≤ 16 ^ 4:=Nat.pow_le_pow_right (by decide) (by omega)
    simpa using this)
   have hnext : hxs s q (j + 1) = (hexV (s.getD (q + (j + 1)) 0)).map fun d => 16 * m + d:=by
    show (hxs s q j).bind _ = _
    rw [hx,Option.bind_some]
   have hstay : hxs s q (j + 1) = none → hxs s q 4 = none:=by
    intro h0
    rcases (by omega : j = 0 ∨ j = 1 ∨ j = 2 ∨ j = 3) with rfl | rfl | rfl | rfl
    ·show (((hxs s q 1).bind _).bind _).bind _ = none
     rw [h0];rfl
    ·show ((hxs s q 2).bind _).bind _ = none
     rw [h0];rfl
    ·show (hxs s q 3).bind _ = none
     rw [h0];rfl
    ·exact h0
   have HN : Hid (hxs s q (j + 1) = (hexV (s.getD (q + (j + 1)) 0)).map fun d => 16 * m + d):=hnext
   have HS : Hid (hxs s q (j + 1) = none → hxs s q 4 = none):=hstay
   clear hnext hstay hx hm A A0
   generalize hb : s.getD (q + (j + 1)) 0 = b at *
   clear hb
   cases hv : hexV b with
   | none =>
    have hI : hexI b = -1:=by unfold hexI;rw [hv]
    rw [hI] at H
    have h0 : hxs s q 4 = none:=HS.out (by rw [HN.out,hv];rfl)
    have H0 : Hid (hxs s q 4 = none):=h0
    clear hI hv h0
    generalize ((b.toNat : Nat) : Int) = c at *
    go_wp2_with (first
     | (go_at_call 111;(with_reducible refine (H _).mono ?_);rintro e w2 ⟨rfl,rfl⟩)
     | (go_at_call 62;(with_reducible refine (A1 _).mono ?_);rintro e w1 ⟨rfl,rfl⟩)
     | fail)
    go_ret3
    exact ⟨HNo.out H0.out,Below.refl _ _⟩
   | some d =>
    have hI : hexI b = (d : Int):=by unfold hexI;rw [hv]
    have hd:=hexV_lt hv
    rw [hI] at H
    have h0 : hxs s q (j + 1) = some (16 * m + d):=by rw [HN.out,hv];rfl
    have H0 : Hid (hxs s q (j + 1) = some (16 * m + d)):=h0
    clear hI hv h0
    generalize ((b.toNat : Nat) : Int) = c at *
    have k1 : ¬ (d : Int) < 0:=by omega
    go_wp2_with (first
     | (go_at_call 111;(with_reducible refine (H _).mono ?_);rintro e w2 ⟨rfl,rfl⟩)
     | (go_at_call 62;(with_reducible refine (A1 _).mono ?_);rintro e w1 ⟨rfl,rfl⟩)
     | fail)
    refine ⟨⟨j + 1,16 * m + d,by omega,congrArg (Value.int .i64) (by omega),congrArg (Value.int .i64) (by omega),H0.out,by first | rfl | trivial⟩,?_⟩
    simp [RowKit.intOf]
    omega
  ·obtain rfl : j = 4:=by omega
   have U:=fun w => unit_any m (by simpa using hm) w
   have H0 : Hid (hxs s q 4 = some m):=hx
   clear hx hm A A0
   generalize hU : (ByteArray.mk (unitS m).toArray) = UB at *
   have HU : Hid ((ByteArray.mk (unitS m).toArray) = UB):=hU
   clear hU
   go_wp2_with (go_at_call 112;(with_reducible refine (U _).mono ?_);rintro e w2 ⟨rfl,hb2⟩)
   go_ret3
   have hy:=HY.out m H0.out
   rw [HU.out] at hy
   exact ⟨hy,hb2⟩
end
theorem escape_any (s : Bs) (q : Nat) (hs : s.length ≤ 16384) (w : World) : Calls Tryz.prog 93 #[.string ⟨s.toArray⟩,.int .i64 (q : Int)] w (EscX s w (escS (s.drop q))):=by
 cases hl : s.drop q with
 | nil =>
  have h0:=bt_nil s q hl
  refine (esc_none (w:=w) hs (by rw [h0];decide)).mono ?_
  rintro e w' ⟨rfl,rfl⟩
  exact ⟨⟨_,_,rfl⟩,Below.refl _ _⟩
 | cons x r =>
  have hb:=bt_drop s q x r hl
  have hlen:=congrArg List.length hl
  rw [List.length_drop,List.length_cons] at hlen
  have hq : q < s.length:=by omega
  have hp1 : s.length - r.length = q + 1:=by omega
  have hx : (ByteArray.mk s.toArray).extract q (q + 1) = ⟨#[x]⟩:=by
   rw [ext_mk,hl]
   rfl
  have key : ∀ v : UInt8,escS (x :: r) = some ([v],r) → (∀ w,Calls Tryz.prog 93 #[.string ⟨s.toArray⟩,.int .i64 (q : Int)] w fun e w' => e = .returned (.tuple #[.string ⟨#[v]⟩,.int .i64 ((q + 1 : Nat) : Int),.bool true]) ∧ w = w') → Calls Tryz.prog 93 #[.string ⟨s.toArray⟩,.int .i64 (q : Int)] w (EscX s w (escS (x :: r))):=by
   intro v hv hw
   rw [hv]
   refine (hw w).mono ?_
   rintro e w' ⟨rfl,rfl⟩
   refine ⟨?_,Below.refl _ _⟩
   show Ending.returned _ = Ending.returned (.tuple #[.string ⟨[v].toArray⟩,.int .i64 ((s.length - r.length : Nat) : Int),.bool true])
   rw [hp1]
  by_cases h1 : x = 34
  ·subst h1;exact key 34 rfl fun w => esc_34 hq hs hb hx
  by_cases h2 : x = 92
  ·subst h2;exact key 92 rfl fun w => esc_92 hq hs hb hx
  by_cases h3 : x = 47
  ·subst h3;exact key 47 rfl fun w => esc_47 hq hs hb hx
  by_cases h4 : x = 98
  ·subst h4;exact key 8 rfl fun w => esc_98 hq hs hb
  by_cases h5 : x = 102
  ·subst h5;exact key 12 rfl fun w => esc_102 hq hs hb
  by_cases h6 : x = 110
  ·subst h6;exact key 10 rfl fun w => esc_110 hq hs hb
  by_cases h7 : x = 114
  ·subst h7;exact key 13 rfl fun w => esc_114 hq hs hb
  by_cases h8 : x = 116
  ·subst h8;exact key 9 rfl fun w => esc_116 hq hs hb
  by_cases h9 : x = 117
  ·subst h9
   have e1 : escS (117 :: r) = (hxs s q 4).map fun n => (unitS n,s.drop (q + 5)):=by
    rw [← nmb_hxs]
    have : s.drop (q + 1) = r:=by
     have:=congrArg (List.drop 1) hl
     rw [List.drop_drop] at this
     exact this
    rw [this]
    rfl
   rw [e1]
   have hshort : ∀ l : Bs,l.length < 4 → nmbS l = none:=by
    intro l hl4
    match l,hl4 with
    | [],_ => rfl
    | [_],_ => rfl
    | [_,_],_ => rfl
    | [_,_,_],_ => rfl
    | _ :: _ :: _ :: _ :: _,h => exact absurd h (by simp only [List.length_cons];omega)
   refine (esc_117 (w:=w) (fun e => match (hxs s q 4).map fun n => (unitS n,s.drop (q + 5)) with
    | some p => e = .returned (.tuple #[.string ⟨p.1.toArray⟩,.int .i64 ((s.length - p.2.length : Nat) : Int),.bool true])
    | none => ∃ a b,e = .returned (.tuple #[.string a,.int .i64 b,.bool false])) ?_ ?_ hq hs hb).mono fun e w' h => h
   ·intro n hn
    rw [hn]
    show Ending.returned _ = Ending.returned (.tuple #[.string ⟨(unitS n).toArray⟩,.int .i64 ((s.length - (s.drop (q + 5)).length : Nat) : Int),.bool true])
    have hq5 : q + 5 ≤ s.length:=by
     rcases Nat.lt_or_ge s.length (q + 5) with hlt | hge
     ·exfalso
      have hf:=nmb_hxs s q
      rw [hn,Option.map_some,hshort _ (by rw [List.length_drop];omega)] at hf
      cases hf
     ·exact hge
    rw [List.length_drop,show s.length - (s.length - (q + 5)) = q + 5 by omega]
   ·intro hn
    rw [hn]
    exact ⟨_,_,rfl⟩
  have e1 : escS (x :: r) = none:=by
   unfold escS
   rw [if_neg (by simp [List.isPrefixOf];exact fun e => h9 e.symm)]
   simp only
   rw [if_neg (by simp [escL,h1,h2,h3,h4,h5,h6,h7,h8])]
  rw [e1]
  have hne : ∀ v : UInt8,x ≠ v → bt s q ≠ (v.toNat : Int):=fun v hv e => by
   rw [hb] at e
   apply hv
   apply UInt8.toNat_inj.1
   omega
  refine (esc_none (w:=w) hs ?_).mono ?_
  ·intro c hc
   simp at hc
   rcases hc with rfl | rfl | rfl | rfl | rfl | rfl | rfl | rfl | rfl
   ·exact hne 34 h1
   ·exact hne 92 h2
   ·exact hne 47 h3
   ·exact hne 98 h4
   ·exact hne 102 h5
   ·exact hne 110 h6
   ·exact hne 114 h7
   ·exact hne 116 h8
   ·exact hne 117 h9
  ·rintro e w' ⟨rfl,rfl⟩
   exact ⟨⟨_,_,rfl⟩,Below.refl _ _⟩
end
section
open Go Go.RowKit
attribute [local irreducible] srcB unitS
theorem sF_tail_iff (s t : ByteArray) : ∀ (n q : Nat),t.size - q ≤ n → (sF (s ++ t) (s.size + q) = (0,0) ↔ sF t q = (0,0)):=by
 intro n
 induction n with
 | zero =>
  intro q hq
  rw [sF_end _ _ (by rw [ByteArray.size_append];omega),sF_end t q (by omega)]
 | succ n ih =>
  intro q hq
  by_cases hlt : q < t.size
  ·have hw:=dec_w t q hlt
   obtain ⟨e1,e2⟩:=stC_eq (dec_app2 s t q)
   rw [sF_step t q hlt,sF_step _ _ (by rw [ByteArray.size_append];omega),e1,e2]
   by_cases hc : sourceB (stC t q) = true
   ·rw [if_pos hc,if_pos hc,Nat.add_assoc]
    exact ih _ (by omega)
   ·rw [if_neg hc,if_neg hc]
    constructor
    ·intro h;exact absurd (congrArg Prod.snd h) (by simp)
    ·intro h;exact absurd (congrArg Prod.snd h) (by simp)
  ·rw [sF_end _ _ (by rw [ByteArray.size_append];omega),sF_end t q hlt]
theorem src_iff (x : Bs) : srcB x = none ↔ sF ⟨x.toArray⟩ 0 = (0,0):=⟨sF_none,src_of⟩
theorem mk_app (x y : Bs) : (ByteArray.mk (x ++ y).toArray) = ByteArray.mk x.toArray ++ ByteArray.mk y.toArray:=by
 apply ByteArray.ext;simp
theorem mk_size (x : Bs) : (ByteArray.mk x.toArray).size = x.length:=by
 show x.toArray.size = _
 simp
def srcH (l : Bs) : Option Nat:=if l ≠ [] ∧ sourceB (stC ⟨l.toArray⟩ 0) = true then some (stW ⟨l.toArray⟩ 0) else none
theorem srcH_facts {l : Bs} {k : Nat} (h : srcH l = some k) : 1 ≤ k ∧ k ≤ l.length ∧ sourceB (stC ⟨l.toArray⟩ 0) = true ∧ stW ⟨l.toArray⟩ 0 = k:=by
 unfold srcH at h
 split at h
 ·rename_i hc
  have hk : stW ⟨l.toArray⟩ 0 = k:=by simpa using h
  have:=dec_w ⟨l.toArray⟩ 0 (by rw [mk_size];exact List.length_pos_iff.2 hc.1)
  rw [mk_size,hk] at this
  exact ⟨this.1,by omega,hc.2,hk⟩
 ·cases h
theorem srcC_H (s : Bs) (p : Nat) : srcC s p = srcH (s.drop p):=by
 unfold srcC srcH
 by_cases hp : p < s.length
 ·have hd:=dec_drop ⟨s.toArray⟩ p 0 (by rw [mk_size];omega)
  have e : (ByteArray.mk s.toArray).extract p (ByteArray.mk s.toArray).size = ⟨(s.drop p).toArray⟩:=by
   rw [mk_size]
   apply ByteArray.ext;apply Array.toList_inj.1
   simp
   exact List.take_of_length_le (by simp)
  rw [e,Nat.add_zero] at hd
  obtain ⟨e1,e2⟩:=stC_eq hd
  rw [e1,e2]
  have hne : s.drop p ≠ []:=by
   intro h
   have:=congrArg List.length h
   rw [List.length_drop] at this
   simp at this
   omega
  simp [hp,hne]
 ·have : s.drop p = []:=List.drop_eq_nil_of_le (by omega)
  simp [hp,this]
theorem src_head {l : Bs} {k : Nat} (h : srcH l = some k) : srcB l = none ↔ srcB (l.drop k) = none:=by
 obtain ⟨h1,h2,h3,h4⟩:=srcH_facts h
 rw [src_iff,src_iff,sF_step _ _ (by rw [mk_size];omega),if_pos h3,h4,Nat.zero_add]
 have e:=mk_app (l.take k) (l.drop k)
 rw [List.take_append_drop] at e
 rw [e]
 have hs : (ByteArray.mk (l.take k).toArray).size = k:=by rw [mk_size,List.length_take];omega
 have ht:=sF_tail_iff ⟨(l.take k).toArray⟩ ⟨(l.drop k).toArray⟩ _ 0 (Nat.le_refl _)
 rw [hs,Nat.add_zero] at ht
 exact ht
theorem srcH_pre {x r : Bs} {k : Nat} (h : srcH (x ++ r) = some k) (hk : k ≤ x.length) : srcH x = some k:=by
 obtain ⟨h1,h2,h3,h4⟩:=srcH_facts h
 have hne : Utf8.decode ⟨(x ++ r).toArray⟩ 0 ≠ (65533,1):=source_dec h3
 have ht:=dec_take ⟨(x ++ r).toArray⟩ x.length 0 (by rw [mk_size,List.length_append];omega) (by omega) (by have h5 : (Utf8.decode ⟨(x ++ r).toArray⟩ 0).2 = k:=h4;rw [h5];omega) hne
 rw [take_mk,List.take_left' rfl] at ht
 obtain ⟨e1,e2⟩:=stC_eq ht
 unfold srcH
 rw [if_pos ⟨fun e => by have:=congrArg List.length e;simp only [List.length_nil] at this;omega,by rw [e1];exact h3⟩,e2,h4]
theorem srcH_ext {x : Bs} {k : Nat} (r : Bs) (h : srcH x = some k) : srcH (x ++ r) = some k:=by
 obtain ⟨h1,h2,h3,h4⟩:=srcH_facts h
 have hne : Utf8.decode ⟨x.toArray⟩ 0 ≠ (65533,1):=source_dec h3
 have ht:=dec_app ⟨x.toArray⟩ ⟨r.toArray⟩ 0 (by rw [mk_size];omega) hne
 rw [← mk_app] at ht
 obtain ⟨e1,e2⟩:=stC_eq ht
 unfold srcH
 rw [if_pos ⟨fun e => by have:=congrArg List.length e;simp only [List.length_append,List.length_nil] at this;omega,by rw [e1];exact h3⟩,e2,h4]
theorem src_first {x : Bs} (hx : x ≠ []) (h : srcB x = none) : ∃ k,srcH x = some k:=by
 rw [src_iff,sF_step _ _ (by rw [mk_size];exact List.length_pos_iff.2 hx)] at h
 by_cases hc : sourceB (stC ⟨x.toArray⟩ 0) = true
 ·exact ⟨_,if_pos ⟨hx,hc⟩⟩
 ·rw [if_neg hc] at h;cases h
theorem srcH_bytes {l : Bs} {k : Nat} (h : srcH l = some k) : (∃ c r,l = c :: r ∧ c.toNat < 128 ∧ k = 1 ∧ stC ⟨l.toArray⟩ 0 = (c.toNat : Int)) ∨ (128 ≤ stC ⟨l.toArray⟩ 0 ∧ ∀ c ∈ l.take k,128 ≤ c.toNat):=by
 obtain ⟨h1,h2,h3,h4⟩:=srcH_facts h
 cases l with
 | nil => simp at h2;omega
 | cons c r =>
  have hg : (ByteArray.mk (c :: r).toArray).get! 0 = c:=get_mk (c :: r) 0 (by simp)
  by_cases hc : c.toNat < 128
  ·left
   have hd:=dec_ascii ⟨(c :: r).toArray⟩ 0 (by rw [hg];exact hc)
   have hs:=stC_ascii ⟨(c :: r).toArray⟩ 0 (by rw [hg];exact hc)
   refine ⟨c,r,rfl,hc,?_,by rw [hs,hg]⟩
   unfold stW at h4
   rw [hd] at h4
   exact h4.symm
  ·right
   have hne : Utf8.decode ⟨(c :: r).toArray⟩ 0 ≠ (65533,1):=source_dec h3
   obtain ⟨g1,g2,g3⟩:=enc_of_dec ⟨(c :: r).toArray⟩ 0 (by rw [mk_size];simp) hne
   have hst : stC ⟨(c :: r).toArray⟩ 0 = ((Utf8.decode ⟨(c :: r).toArray⟩ 0).1 : Int):=by unfold stC;rw [if_neg hne]
   have hk : (Utf8.decode ⟨(c :: r).toArray⟩ 0).2 = k:=h4
   rw [hk,Nat.zero_add,take_mk] at g3
   generalize (Utf8.decode ⟨(c :: r).toArray⟩ 0).1 = n at *
   have hl:=encode_list n g1
   rw [hl] at g3
   have g4 : (c :: r).take k = (encL n).map UInt8.ofNat:=by
    have:=congrArg (fun b : ByteArray => b.data.toList) g3
    simpa using this
   have hbig:=encL_lt n (valid_char n g1).2.1
   have hn : 128 ≤ n:=by
    rcases Nat.lt_or_ge n 128 with hlt | hge
    ·exfalso
     unfold encL at g4
     rw [if_pos hlt] at g4
     have : (c :: r).take k = c :: r.take (k - 1):=by
      obtain ⟨j,rfl⟩ : ∃ j,k = j + 1:=⟨k - 1,by omega⟩
      rfl
     rw [this] at g4
     have hc2 : c = UInt8.ofNat n:=by
      have:=congrArg List.head? g4
      simpa using this
     rw [hc2] at hc
     simp at hc
     omega
    ·exact hge
   refine ⟨by rw [hst];omega,?_⟩
   intro d hd
   rw [g4] at hd
   obtain ⟨y,hy,rfl⟩:=List.mem_map.1 hd
   have hy2:=hbig y hy
   have hy3 : 128 ≤ y:=by
    unfold encL at hy
    rw [if_neg (by omega)] at hy
    split at hy
    ·simp at hy;omega
    ·split at hy
     ·simp at hy;omega
     ·simp at hy;omega
   simp
   omega
def xlF (s : Bs) : Nat → Nat → Option (Bs × Nat)
 | 0,_ => none
 | n + 1,i => match srcC s i with
  | none => none
  | some k => if bt s i = 10 ∨ bt s i = 13 then none else if bt s i = 34 then some ([],i + 1) else if bt s i = 92 then (match escS (s.drop (i + 1)) with
   | none => none
   | some p => (xlF s n (s.length - p.2.length)).map fun q => (p.1 ++ q.1,q.2)) else (xlF s n (i + k)).map fun q => ((s.drop i).take k ++ q.1,q.2)
def lineC (l : Bs) : Option (Bs × Bs):=(lineS l).bind fun p => if (srcB (ahead l p.2)).isSome then none else some p
theorem isSome_iff (o : Option Nat) : o.isSome = true ↔ ¬ o = none:=by cases o <;> simp
theorem lineC_of {l t r : Bs} (h : lineS l = some (t,r)) (hs : srcB (ahead l r) = none) : lineC l = some (t,r):=by
 unfold lineC
 rw [h,Option.bind_some,if_neg (by rw [isSome_iff];simp [hs])]
theorem lineC_bad {l t r : Bs} (h : lineS l = some (t,r)) (hs : ¬ srcB (ahead l r) = none) : lineC l = none:=by
 unfold lineC
 rw [h,Option.bind_some,if_pos (by rw [isSome_iff];exact hs)]
theorem lineC_none {l : Bs} (h : lineS l = none) : lineC l = none:=by unfold lineC;rw [h];rfl
theorem line_ahead {l t r : Bs} (h : lineS l = some (t,r)) : l = ahead l r ++ r ∧ ahead l r ≠ []:=by
 obtain ⟨x,rfl⟩:=lineF_suf _ _ _ _ h
 have hlt:=lineF_lt _ _ _ _ h
 rw [ahead_app]
 refine ⟨rfl,?_⟩
 rintro rfl
 simp at hlt
theorem lineC_no {l : Bs} (h : srcH l = none) : lineC l = none:=by
 cases hl : lineS l with
 | none => exact lineC_none hl
 | some p =>
  obtain ⟨t,r⟩:=p
  obtain ⟨e,hne⟩:=line_ahead hl
  refine lineC_bad hl fun hs => ?_
  obtain ⟨k,hk⟩:=src_first hne hs
  have:=srcH_ext r hk
  rw [← e,h] at this
  cases this
theorem lineC_step {x l : Bs} {y : Bs} (hline : ∀ m,lineS (x ++ m) = (lineS m).map fun q => (y ++ q.1,q.2)) (hsrc : ∀ m,srcB (x ++ m) = none ↔ srcB m = none) : lineC (x ++ l) = (lineC l).map fun q => (y ++ q.1,q.2):=by
 cases hl : lineS l with
 | none =>
  rw [lineC_none hl,lineC_none (by rw [hline,hl];rfl)]
  rfl
 | some p =>
  obtain ⟨t,r⟩:=p
  have h2 : lineS (x ++ l) = some (y ++ t,r):=by rw [hline,hl];rfl
  obtain ⟨e,_⟩:=line_ahead hl
  have ea : ahead (x ++ l) r = x ++ ahead l r:=by
   conv => lhs;rw [e,← List.append_assoc]
   exact ahead_app _ _
  by_cases hs : srcB (ahead l r) = none
  ·rw [lineC_of hl hs,lineC_of h2 (by rw [ea,hsrc];exact hs)]
   rfl
  ·rw [lineC_bad hl hs,lineC_bad h2 (by rw [ea,hsrc];exact hs)]
   rfl
theorem hsrc_of {x : Bs} {k : Nat} (h : srcH x = some k) (hk : k = x.length) : ∀ m,srcB (x ++ m) = none ↔ srcB m = none:=fun m => by
 have:=src_head (srcH_ext m h)
 rw [hk,List.drop_left' rfl] at this
 exact this
theorem plain_iff (c : UInt8) (hc : 32 ≤ c.toNat ∧ c.toNat < 128) (m : Bs) : srcB (c :: m) = none ↔ srcB m = none:=by
 have h : srcH [c] = some 1:=by
  have hg : (ByteArray.mk [c].toArray).get! 0 = c:=get_mk [c] 0 (by simp)
  have hd:=dec_ascii ⟨[c].toArray⟩ 0 (by rw [hg];exact hc.2)
  have hs:=stC_ascii ⟨[c].toArray⟩ 0 (by rw [hg];exact hc.2)
  unfold srcH
  rw [if_pos ⟨by simp,by rw [hs,hg];unfold sourceB;simp;omega⟩]
  unfold stW
  rw [hd]
 exact hsrc_of h rfl m
theorem esc_plain {l t r : Bs} (h : escS l = some (t,r)) : ∃ x,l = x ++ r ∧ ∀ c ∈ x,32 ≤ c.toNat ∧ c.toNat < 128:=by
 cases l with
 | nil => cases h
 | cons c m =>
  unfold escS at h
  split at h
  ·rename_i hp
   have hc : c = 117:=by
    have : (117 == c) = true:=by simpa [List.isPrefixOf] using hp
    exact (beq_iff_eq.1 this).symm
   subst hc
   have hm : nmbS m = some (t,r):=h
   match m,hm with
   | a :: b :: d :: e :: m',hm =>
    rw [nmbS_four] at hm
    unfold hexQ at hm
    cases ha : hexV a with
    | none => rw [ha] at hm;cases hm
    | some x1 =>
     cases hb : hexV b with
     | none => rw [ha,hb] at hm;cases hm
     | some x2 =>
      cases hd : hexV d with
      | none => rw [ha,hb,hd] at hm;cases hm
      | some x3 =>
       cases he : hexV e with
       | none => rw [ha,hb,hd,he] at hm;cases hm
       | some x4 =>
        rw [ha,hb,hd,he] at hm
        simp only [Option.bind_some,Option.map_some,Option.some.injEq,Prod.mk.injEq] at hm
        refine ⟨[117,a,b,d,e],by rw [← hm.2];rfl,?_⟩
        intro z hz
        simp at hz
        rcases hz with rfl | rfl | rfl | rfl | rfl
        ·decide
        ·exact hexV_bd ha
        ·exact hexV_bd hb
        ·exact hexV_bd hd
        ·exact hexV_bd he
  ·simp only at h
   split at h
   ·rename_i hc
    simp only [Option.some.injEq,Prod.mk.injEq] at h
    refine ⟨[c],by rw [h.2];rfl,?_⟩
    intro z hz
    obtain rfl : z = c:=by simpa using hz
    have : z ∈ escL:=List.contains_iff_mem.1 hc
    simp [escL] at this
    rcases this with rfl | rfl | rfl | rfl | rfl | rfl | rfl | rfl <;> decide
   ·cases h
theorem plains_iff : ∀ (x m : Bs),(∀ c ∈ x,32 ≤ c.toNat ∧ c.toNat < 128) → (srcB (x ++ m) = none ↔ srcB m = none)
 | [],_,_ => Iff.rfl
 | c :: x,m,h => (plain_iff c (h c List.mem_cons_self) (x ++ m)).trans (plains_iff x m fun d hd => h d (List.mem_cons_of_mem _ hd))
theorem line_his : ∀ (x m : Bs),(∀ c ∈ x,128 ≤ c.toNat) → lineS (x ++ m) = (lineS m).map fun q => (x ++ q.1,q.2)
 | [],m,_ => by
  show lineS m = _
  cases lineS m <;> rfl
 | c :: x,m,h => by
  show lineS (c :: (x ++ m)) = _
  rw [line_hi _ (h c List.mem_cons_self),line_his x m fun d hd => h d (List.mem_cons_of_mem _ hd)]
  cases lineS m <;> rfl
theorem xl_line (s : Bs) : ∀ (n i : Nat),s.length - i < n → (xlF s n i).map (fun q => (q.1,s.drop q.2)) = lineC (s.drop i):=by
 intro n
 induction n with
 | zero => intro i h;omega
 | succ n ih =>
  intro i hi
  unfold xlF
  cases hs : srcC s i with
  | none =>
   rw [srcC_H] at hs
   rw [lineC_no hs]
   rfl
  | some k =>
   have hH:=hs
   rw [srcC_H] at hH
   obtain ⟨k1,k2,_,_⟩:=srcH_facts hH
   rw [List.length_drop] at k2
   simp only
   rcases srcH_bytes hH with ⟨c,r,hl,hc,rfl,_⟩ | ⟨_,hbig⟩
   ·have hb:=bt_drop s i c r hl
    have hr : s.drop (i + 1) = r:=by
     have:=congrArg (List.drop 1) hl
     rw [List.drop_drop] at this
     exact this
    have hcI : ∀ v : UInt8,bt s i = (v.toNat : Int) ↔ c = v:=fun v => by
     rw [hb]
     constructor
     ·intro e;apply UInt8.toNat_inj.1;omega
     ·rintro rfl;rfl
    have e10:=hcI 10
    have e13:=hcI 13
    have e34:=hcI 34
    have e92:=hcI 92
    simp only [show ((10 : UInt8).toNat : Int) = 10 from rfl,show ((13 : UInt8).toNat : Int) = 13 from rfl,show ((34 : UInt8).toNat : Int) = 34 from rfl,show ((92 : UInt8).toNat : Int) = 92 from rfl] at e10 e13 e34 e92
    rw [hl]
    by_cases h1 : c = 10 ∨ c = 13
    ·rw [if_pos (by rw [e10,e13];exact h1)]
     rw [lineC_none]
     ·rfl
     ·exact lineS_end (by rcases h1 with rfl | rfl <;> rfl) (by rcases h1 with rfl | rfl <;> rfl) (by rcases h1 with rfl | rfl <;> rfl)
    ·rw [if_neg (by rw [e10,e13];exact h1)]
     by_cases h2 : c = 34
     ·rw [if_pos (e34.2 h2)]
      subst h2
      have ha : ahead (34 :: r) r = [34]:=ahead_app [34] r
      rw [lineC_of (lineS_stop (l:=34 :: r) rfl) (by show srcB (ahead (34 :: r) r) = none;rw [ha];exact src_plain _ (by decide))]
      simp [hr]
     ·rw [if_neg (fun e => h2 (e34.1 e))]
      by_cases h3 : c = 92
      ·rw [if_pos (e92.2 h3)]
       subst h3
       rw [hr]
       have hle:=lineS_esc (l:=92 :: r) rfl rfl
       simp only [List.drop_succ_cons,List.drop_zero] at hle
       cases he : escS r with
       | none =>
        rw [he] at hle
        rw [lineC_none hle]
        rfl
       | some p =>
        obtain ⟨t,r'⟩:=p
        obtain ⟨x,hx,hpl⟩:=esc_plain he
        have hsuf : r' = s.drop (s.length - r'.length):=by
         have h8 : s.drop (i + (1 + x.length)) = r':=by
          rw [← List.drop_drop,hl,hx,show 92 :: (x ++ r') = (92 :: x) ++ r' from rfl]
          exact List.drop_left' (by simp;omega)
         have h9:=congrArg List.length h8
         rw [List.length_drop] at h9
         have h10:=congrArg List.length hl
         rw [List.length_drop,List.length_cons,hx,List.length_append] at h10
         rw [show s.length - r'.length = i + (1 + x.length) by omega]
         exact h8.symm
        have hlt : r'.length < s.length - i:=by
         have h4:=(escS_facts he).2.1
         have h5:=congrArg List.length hl
         rw [List.length_drop,List.length_cons] at h5
         omega
        have ihr:=ih (s.length - r'.length) (by omega)
        rw [← hsuf] at ihr
        have hstep : lineC (92 :: r) = (lineC r').map fun q => (t ++ q.1,q.2):=by
         have:=lineC_step (x:=92 :: x) (l:=r') (y:=t) ?_ ?_
         ·rw [hx];exact this
         ·intro m
          have hh:=lineS_esc (l:=92 :: (x ++ m)) rfl rfl
          simp only [List.drop_succ_cons,List.drop_zero] at hh
          have he2 : escS (x ++ m) = some (t,m):=by
           have h7 : escS (x ++ r') = some (t,[] ++ r'):=by rw [← hx];exact he
           exact escS_ext m (escS_cut h7)
          show lineS (92 :: (x ++ m)) = _
          rw [hh,he2]
          rfl
         ·intro m
          exact plains_iff (92 :: x) m (by
           intro d hd
           rcases List.mem_cons.1 hd with rfl | hd
           ·decide
           ·exact hpl d hd)
        rw [hstep,← ihr]
        simp only
        cases xlF s n (s.length - r'.length) <;> rfl
      ·rw [if_neg (fun e => h3 (e92.1 e))]
       have hH1 : srcH [c] = some 1:=srcH_pre (x:=[c]) (r:=r) (by rw [hl] at hH;exact hH) (by simp)
       have hstep:=lineC_step (x:=[c]) (l:=r) (y:=[c]) (fun m => line_raw h2 h3 (by
        rw [Bool.eq_false_iff]
        intro e
        exact h1 (by simpa [endL] using e)) m) (hsrc_of hH1 rfl)
       have ihr:=ih (i + 1) (by omega)
       rw [hr] at ihr
       show Option.map _ (Option.map _ (xlF s n (i + 1))) = lineC ([c] ++ r)
       rw [hstep,← ihr]
       cases xlF s n (i + 1) <;> rfl
   ·have hb128 : 128 ≤ bt s i:=by
     cases hl : s.drop i with
     | nil => rw [hl] at hH;cases hH
     | cons c r =>
      rw [bt_drop s i c r hl]
      have:=hbig c (by
       rw [hl]
       obtain ⟨j,rfl⟩ : ∃ j,k = j + 1:=⟨k - 1,by omega⟩
       exact List.mem_cons_self)
      omega
    rw [if_neg (by omega),if_neg (by omega),if_neg (by omega)]
    have e:=List.take_append_drop k (s.drop i)
    have hH1 : srcH ((s.drop i).take k) = some k:=srcH_pre (x:=(s.drop i).take k) (r:=(s.drop i).drop k) (by rw [e];exact hH) (by rw [List.length_take,List.length_drop];omega)
    have hstep:=lineC_step (x:=(s.drop i).take k) (l:=(s.drop i).drop k) (y:=(s.drop i).take k) (fun m => line_his _ m hbig) (hsrc_of hH1 (by rw [List.length_take,List.length_drop];omega))
    rw [e,List.drop_drop] at hstep
    have ihr:=ih (i + k) (by omega)
    rw [hstep,← ihr]
    cases xlF s n (i + k) <;> rfl
end
section
open Go Go.RowKit
attribute [local irreducible] srcB unitS
theorem xlF_fuel (s : Bs) : ∀ (n m i : Nat),s.length - i < n → s.length - i < m → xlF s n i = xlF s m i:=by
 intro n
 induction n with
 | zero => intro m i h;omega
 | succ n ih =>
  intro m i hn hm
  cases m with
  | zero => omega
  | succ m =>
   unfold xlF
   cases hs : srcC s i with
   | none => rfl
   | some k =>
    have hH:=hs
    rw [srcC_H] at hH
    obtain ⟨k1,k2,_,_⟩:=srcH_facts hH
    rw [List.length_drop] at k2
    simp only
    rw [ih m (i + k) (by omega) (by omega)]
    cases he : escS (s.drop (i + 1)) with
    | none => rfl
    | some p =>
     have h4:=(escS_facts (t:=p.1) (r:=p.2) he).2.1
     rw [List.length_drop] at h4
     simp only
     rw [ih m (s.length - p.2.length) (by omega) (by omega)]
def xl (s : Bs) (i : Nat) : Option (Bs × Nat):=xlF s (s.length - i + 1) i
theorem xl_none {s : Bs} {i : Nat} (h : srcC s i = none) : xl s i = none:=by
 unfold xl xlF
 rw [h]
theorem xl_end {s : Bs} {i k : Nat} (h : srcC s i = some k) (hc : bt s i = 10 ∨ bt s i = 13) : xl s i = none:=by
 unfold xl xlF
 rw [h]
 simp only
 rw [if_pos hc]
theorem xl_stop {s : Bs} {i k : Nat} (h : srcC s i = some k) (hc : bt s i = 34) : xl s i = some ([],i + 1):=by
 unfold xl xlF
 rw [h]
 simp only
 rw [if_neg (by omega),if_pos hc]
theorem xl_bad {s : Bs} {i k : Nat} (h : srcC s i = some k) (hc : bt s i = 92) (he : escS (s.drop (i + 1)) = none) : xl s i = none:=by
 unfold xl xlF
 rw [h]
 simp only
 rw [if_neg (by omega),if_neg (by omega),if_pos hc,he]
theorem xl_esc {s : Bs} {i k : Nat} {t r : Bs} (h : srcC s i = some k) (hc : bt s i = 92) (he : escS (s.drop (i + 1)) = some (t,r)) : xl s i = (xl s (s.length - r.length)).map fun q => (t ++ q.1,q.2):=by
 have h4:=(escS_facts he).2.1
 rw [List.length_drop] at h4
 conv => lhs;unfold xl xlF
 rw [h]
 simp only
 rw [if_neg (by omega),if_neg (by omega),if_pos hc,he]
 simp only
 unfold xl
 rw [xlF_fuel s _ (s.length - (s.length - r.length) + 1) (s.length - r.length) (by omega) (by omega)]
theorem xl_raw {s : Bs} {i k : Nat} (h : srcC s i = some k) (h1 : bt s i ≠ 10) (h2 : bt s i ≠ 13) (h3 : bt s i ≠ 34) (h4 : bt s i ≠ 92) : xl s i = (xl s (i + k)).map fun q => ((s.drop i).take k ++ q.1,q.2):=by
 have hH:=h
 rw [srcC_H] at hH
 obtain ⟨k1,k2,_,_⟩:=srcH_facts hH
 rw [List.length_drop] at k2
 conv => lhs;unfold xl xlF
 rw [h]
 simp only
 rw [if_neg (by omega),if_neg h3,if_neg h4]
 unfold xl
 rw [xlF_fuel s _ (s.length - (i + k) + 1) (i + k) (by omega) (by omega)]
theorem stc_bt {s : Bs} {i k : Nat} (h : srcC s i = some k) (v : Int) (hv : v < 128) : stC ⟨s.toArray⟩ i = v ↔ bt s i = v:=by
 have hH:=h
 rw [srcC_H] at hH
 have hp : i < s.length:=by
  unfold srcC at h
  split at h
  ·rename_i hc;exact hc.1
  ·cases h
 have hd:=dec_drop ⟨s.toArray⟩ i 0 (by rw [mk_size];omega)
 have e : (ByteArray.mk s.toArray).extract i (ByteArray.mk s.toArray).size = ⟨(s.drop i).toArray⟩:=by
  rw [mk_size]
  apply ByteArray.ext;apply Array.toList_inj.1
  simp
  exact List.take_of_length_le (by simp)
 rw [e,Nat.add_zero] at hd
 obtain ⟨e1,_⟩:=stC_eq hd
 rw [← e1]
 obtain ⟨k1,k2,_,_⟩:=srcH_facts hH
 rcases srcH_bytes hH with ⟨c,r,hl,hc,_,hst⟩ | ⟨hbig,hall⟩
 ·rw [hst,bt_drop s i c r hl]
 ·have : 128 ≤ bt s i:=by
   cases hl : s.drop i with
   | nil => rw [hl] at k2;simp at k2;omega
   | cons c r =>
    rw [bt_drop s i c r hl]
    have:=hall c (by
     rw [hl]
     obtain ⟨j,rfl⟩ : ∃ j,k = j + 1:=⟨k - 1,by omega⟩
     exact List.mem_cons_self)
    omega
  omega
theorem owns_belowX {W W' : World} {B e sz n : Nat} {v : Value} {xs : List Value} (h : W.ownsRow B e sz v n xs) (hb : Below W.heap.size W W') : W'.ownsRow B e sz v n xs:=by
 refine ⟨h.1,?_⟩
 rcases h.2 with h2 | ⟨g,cap,cur,hv,hg,hh,r⟩
 ·exact Or.inl h2
 ·exact Or.inr ⟨g,cap,cur,hv,hg,(hb.block g (lt_of_block hh)).trans hh,r⟩
theorem own_nobX (w : World) : Bytes (w.alloc (.cells #[] 5)) w.heap.size (.slice (some ⟨w.heap.size,0,none⟩) 0 0) [] :=
 ⟨rfl,Or.inr ⟨w.heap.size,0,#[],rfl,Nat.le_refl _,heap_alloc_new _ _,Nat.le_refl _,Nat.zero_le _,rfl,rfl⟩⟩
theorem not_noneX {w : World} {B e n : Nat} {v : Value} {xs : List Value} (h : w.ownsRow B e 1 v n xs) (hn : v ≠ .slice none 0 0) : ∃ g cap,v = .slice (some ⟨g,0,none⟩) n cap:=by
 rcases h.2 with ⟨h1,_⟩ | ⟨g,cap,cur,h1,_⟩
 ·exact absurd h1 hn
 ·exact ⟨g,cap,h1⟩
structure TL (f : Nat → Option (Bs × Nat)) (s : Bs) (p0 : Nat) (w wr : World) (j : Nat) (b : Value) (acc : Bs) : Prop where
 row : Bytes wr w.heap.size b acc
 le : acc.length ≤ 4 * j
 jle : j ≤ s.length
 nn : b ≠ .slice none 0 0
 bel : Below w.heap.size w wr
 res : f p0 = (f j).map fun q => (acc ++ q.1,q.2)
theorem map_nil (o : Option (Bs × Nat)) : o = o.map fun q => ([] ++ q.1,q.2):=by cases o <;> simp
theorem map_map (o : Option (Bs × Nat)) (a b : Bs) : ((o.map fun q => (b ++ q.1,q.2)).map fun q => (a ++ q.1,q.2)) = o.map fun q => ((a ++ b) ++ q.1,q.2):=by cases o <;> simp
theorem grow_bytes {w2 : World} {B : Nat} {acc t : Bs} {vb : Value} {TB : ByteArray} (ht : ByteArray.mk t.toArray = TB) (h : w2.ownsRow B 5 1 vb (acc.length + TB.size) (Lib.byteCells acc ++ Lib.strCells TB)) : Bytes w2 B vb (acc ++ t):=by
 subst ht
 unfold Bytes
 rw [cells_app,List.length_append,← strCells_eq t]
 rw [mk_size] at h
 exact h
set_option maxRecDepth 100000 in
set_option maxHeartbeats 2000000 in
theorem xtext_any (Q : Ending → Prop) (s : Bs) (p : Nat) (hp : p < s.length) (hs : s.length ≤ 16384) (hyes : ∀ t e,xl s (p + 1) = some (t,e) → Q (.returned (.tuple #[.string ⟨t.toArray⟩,.int .i64 (e : Int),.bool true]))) (hno : xl s (p + 1) = none → ∀ a b,Q (.returned (.tuple #[.string a,.int .i64 b,.bool false]))) (w : World) :
  Calls Tryz.prog 67 #[.string ⟨s.toArray⟩,.int .i64 (p : Int)] w fun e w' => Q e ∧ Below w.heap.size w w':=by
 obtain ⟨i1,hi1,hy0,hy1,hy2⟩:=info_parts Tryz.infoByte
 have HY : Hid (∀ t e,xl s (p + 1) = some (t,e) → Q (.returned (.tuple #[.string ⟨t.toArray⟩,.int .i64 (e : Int),.bool true]))):=hyes
 have HN : Hid (xl s (p + 1) = none → ∀ a b,Q (.returned (.tuple #[.string a,.int .i64 b,.bool false]))):=hno
 have hD : (ByteArray.mk s.toArray).size = s.length:=rfl
 clear hyes hno
 generalize hDD : (ByteArray.mk s.toArray) = D at *
 have HD : Hid ((ByteArray.mk s.toArray) = D):=hDD
 clear hDD
 go_enter Tryz.func67,Tryz.ntmps67
 go_wp2
 go_loopw [1,7] (fun i b wr => ∃ (j : Nat) (vb : Value) (acc : Bs),i = .int .i64 (j : Int) ∧ b = vb ∧ TL (xl s) s (p + 1) w wr j vb acc) (fun i _ _ => s.length - (RowKit.intOf i).toNat)
 case atStart => exact ⟨p + 1,_,[],rfl,rfl,own_nobX w,by simp,by omega,by simp,(Below.refl _ _).alloc (Nat.le_refl _) _,map_nil _⟩
 case round =>
  obtain ⟨j,vb,acc,rfl,rfl,hT⟩:=hrel
  obtain ⟨hob,hle,hj,hnn,hbr,hres⟩:=hT
  have HR : Hid (xl s (p + 1) = (xl s j).map fun q => (acc ++ q.1,q.2)):=hres
  clear hres
  cases hsc : srcC s j with
  | none =>
   have S : ∀ w,Calls Tryz.prog 60 #[.string D,.int .i64 (j : Int)] w fun e w' => e = .returned (.tuple #[.int .i64 0,.int .i64 0]) ∧ Below w.heap.size w w':=fun w => by
    have:=source_no s j hs hsc w
    rw [HD.out] at this
    exact this
   have HX : Hid (xl s j = none):=xl_none hsc
   clear hsc
   go_wp2_with (first
    | (go_at_call 60;(with_reducible refine (S _).mono ?_);rintro e w1 ⟨rfl,hb1⟩;have hbr1:=hbr.trans (hb1.mono hbr.size);have hob1:=owns_belowX hob hb1)
    | fail)
   go_ret3
   exact ⟨HN.out (by rw [HR.out,HX.out];rfl) _ _,hbr1⟩
  | some k =>
   have S : ∀ w,Calls Tryz.prog 60 #[.string D,.int .i64 (j : Int)] w fun e w' => e = .returned (.tuple #[.int .i64 (stC ⟨s.toArray⟩ j),.int .i64 (k : Int)]) ∧ Below w.heap.size w w':=fun w => by
    have:=source_yes s j k hs hsc w
    rw [HD.out] at this ⊢
    exact this
   have hH:=hsc
   rw [srcC_H] at hH
   obtain ⟨k1,k2,_,_⟩:=srcH_facts hH
   rw [List.length_drop] at k2
   have x0 : ((k : Int) == 0) = false:=by simp;omega
   have x00 : (k == 0) = false:=by simp;omega
   obtain ⟨g9,cap9,rfl⟩:=not_noneX hob hnn
   by_cases c1 : bt s j = 10
   ·rw [(stc_bt hsc 10 (by decide)).2 c1] at S
    have HX : Hid (xl s j = none):=xl_end hsc (Or.inl c1)
    clear hsc hH c1
    go_wp2_with (first
     | (go_at_call 60;(with_reducible refine (S _).mono ?_);rintro e w1 ⟨rfl,hb1⟩;have hbr1:=hbr.trans (hb1.mono hbr.size);have hob1:=owns_belowX hob hb1)
     | fail)
    go_ret3
    exact ⟨HN.out (by rw [HR.out,HX.out];rfl) _ _,hbr1⟩
   by_cases c2 : bt s j = 13
   ·rw [(stc_bt hsc 13 (by decide)).2 c2] at S
    have HX : Hid (xl s j = none):=xl_end hsc (Or.inr c2)
    clear hsc hH c2
    go_wp2_with (first
     | (go_at_call 60;(with_reducible refine (S _).mono ?_);rintro e w1 ⟨rfl,hb1⟩;have hbr1:=hbr.trans (hb1.mono hbr.size);have hob1:=owns_belowX hob hb1)
     | fail)
    go_ret3
    exact ⟨HN.out (by rw [HR.out,HX.out];rfl) _ _,hbr1⟩
   by_cases c3 : bt s j = 34
   ·rw [(stc_bt hsc 34 (by decide)).2 c3] at S
    have HX : Hid (xl s j = some ([],j + 1)):=xl_stop hsc c3
    have hcv : ∀ W',Below wr.heap.size wr W' → (convert 40 9 (.slice (some ⟨g9,0,none⟩) acc.length cap9)).run Tryz.prog W' = .ok (.string ⟨acc.toArray⟩) W':=fun W' hb => conv_row (owns_belowX hob hb)
    clear hsc hH c3
    generalize hAB : (ByteArray.mk acc.toArray) = AB at *
    have HAB : Hid ((ByteArray.mk acc.toArray) = AB):=hAB
    clear hAB
    go_wp2_with (first
     | (go_at_call 60;(with_reducible refine (S _).mono ?_);rintro e w1 ⟨rfl,hb1⟩;have hbr1:=hbr.trans (hb1.mono hbr.size);have hcv1:=hcv _ hb1)
     | fail)
    go_ret3
    have hy:=HY.out acc (j + 1) (by rw [HR.out,HX.out];simp)
    rw [HAB.out] at hy
    exact ⟨hy,hbr1⟩
   by_cases c4 : bt s j = 92
   ·rw [(stc_bt hsc 92 (by decide)).2 c4] at S
    cases he : escS (s.drop (j + 1)) with
    | none =>
     have E : ∀ w,Calls Tryz.prog 93 #[.string D,.int .i64 ((j : Int) + 1)] w fun e w' => (∃ a b,e = .returned (.tuple #[.string a,.int .i64 b,.bool false])) ∧ Below w.heap.size w w':=fun w => by
      have:=escape_any s (j + 1) hs w
      rw [HD.out,he] at this
      exact this
     have HX : Hid (xl s j = none):=xl_bad hsc c4 he
     clear hsc hH c4 he
     go_wp2_with (first
      | (go_at_call 93;(with_reducible refine (E _).mono ?_);rintro e w2 ⟨⟨a2,b2,rfl⟩,hb2⟩;have hbr2:=hbr1.trans (hb2.mono hbr1.size))
      | (go_at_call 60;(with_reducible refine (S _).mono ?_);rintro e w1 ⟨rfl,hb1⟩;have hbr1:=hbr.trans (hb1.mono hbr.size))
      | fail)
     go_ret3
     exact ⟨HN.out (by rw [HR.out,HX.out];rfl) _ _,hbr2⟩
    | some pr =>
     obtain ⟨t,r⟩:=pr
     have E : ∀ w,Calls Tryz.prog 93 #[.string D,.int .i64 ((j : Int) + 1)] w fun e w' => e = .returned (.tuple #[.string ⟨t.toArray⟩,.int .i64 ((s.length - r.length : Nat) : Int),.bool true]) ∧ Below w.heap.size w w':=fun w => by
      have:=escape_any s (j + 1) hs w
      rw [HD.out,he] at this
      exact this
     have h5:=escS_facts he
     rw [List.length_drop] at h5
     have HX : Hid (xl s j = (xl s (s.length - r.length)).map fun q => (t ++ q.1,q.2)):=xl_esc hsc c4 he
     have htl : (ByteArray.mk t.toArray).size ≤ 4:=by rw [mk_size];exact h5.1
     have hJ1 : j + 2 ≤ s.length - r.length:=by omega
     have hJ2 : s.length - r.length ≤ s.length:=by omega
     have HTl : Hid (t.length ≤ 4):=h5.1
     clear hsc hH c4 he h5
     generalize hTB : (ByteArray.mk t.toArray) = TB at *
     have HTB : Hid ((ByteArray.mk t.toArray) = TB):=hTB
     clear hTB
     generalize s.length - r.length = J at *
     have ht4:=HTl.out
     go_wp2_with (first
      | (at_builtin;refine Lib.wpList_append_own_string _ rfl _ _ 40 9 rfl w.heap.size 5 i1 Tryz.underlying40 Tryz.underlying9 hi1 hy0 hy1 hy2 _ _ _ rfl hobA TB rfl ?d1 ?d2 ?d3 ?_)
      | (go_at_call 93;(with_reducible refine (E _).mono ?_);rintro e w2 ⟨rfl,hb2⟩;have hbrA:=hbr1.trans (hb2.mono hbr1.size);have hobA:=owns_belowX hob1 hb2)
      | (go_at_call 60;(with_reducible refine (S _).mono ?_);rintro e w1 ⟨rfl,hb1⟩;have hbr1:=hbr.trans (hb1.mono hbr.size);have hob1:=owns_belowX hob hb1)
      | fail)
     case d1 => unfold maxLen;omega
     case d2 => omega
     case d3 => exact hbrA.size
     intro vb2 w4 hob4 hg4 hnil4
     have hbr4 : Below w.heap.size w w4:=hbrA.grown hg4 hbrA.size (own_ge hobA)
     have hnn4 : vb2 ≠ .slice none 0 0:=by first | exact fun e => hnn (hnil4.1 e).1 | exact hnil4
     have HG : Hid (Bytes w4 w.heap.size vb2 (acc ++ t)):=grow_bytes HTB.out hob4
     clear hob4 hg4 hnil4 hobA
     go_wp2
     refine ⟨⟨J,vb2,acc ++ t,rfl,rfl,HG.out,by rw [List.length_append];omega,by omega,hnn4,hbr4,?_⟩,?_⟩
     ·rw [HR.out,HX.out,map_map]
     ·simp [RowKit.intOf]
      omega
   ·have S2:=S
    have y1 : (stC ⟨s.toArray⟩ j == 10) = false:=by simpa using fun e => c1 ((stc_bt hsc 10 (by decide)).1 e)
    have y2 : (stC ⟨s.toArray⟩ j == 13) = false:=by simpa using fun e => c2 ((stc_bt hsc 13 (by decide)).1 e)
    have y3 : (stC ⟨s.toArray⟩ j == 34) = false:=by simpa using fun e => c3 ((stc_bt hsc 34 (by decide)).1 e)
    have y4 : (stC ⟨s.toArray⟩ j == 92) = false:=by simpa using fun e => c4 ((stc_bt hsc 92 (by decide)).1 e)
    have HX : Hid (xl s j = (xl s (j + k)).map fun q => ((s.drop j).take k ++ q.1,q.2)):=xl_raw hsc c1 c2 c3 c4
    have hx:=ext_mk s j k
    rw [HD.out] at hx
    have hxl : (ByteArray.mk ((s.drop j).take k).toArray).size = k:=by rw [mk_size,List.length_take,List.length_drop];omega
    have hxl2 : ((s.drop j).take k).length = k:=by rw [List.length_take,List.length_drop];omega
    have f1 : (j : Int) + (k : Int) ≤ (s.length : Int):=by omega
    have f2 : (j : Int) ≤ (j : Int) + (k : Int):=by omega
    have f3 : j + k ≤ s.length:=by omega
    have f4 : (0 : Int) ≤ (j : Int) + (k : Int):=by omega
    clear hsc hH c1 c2 c3 c4 S
    generalize stC ⟨s.toArray⟩ j = c at *
    have S:=S2
    clear S2
    generalize (s.drop j).take k = x at *
    have HTB : Hid ((ByteArray.mk x.toArray) = D.extract j (j + k)):=hx.symm
    have hxs : (D.extract j (j + k)).size = k:=by rw [hx];exact hxl
    clear hx hxl
    go_wp2_with (first
     | (at_builtin;refine Lib.wpList_append_own_string _ rfl _ _ 40 9 rfl w.heap.size 5 i1 Tryz.underlying40 Tryz.underlying9 hi1 hy0 hy1 hy2 _ _ _ rfl hobA (D.extract j (j + k)) rfl ?d1 ?d2 ?d3 ?_)
     | (go_at_call 60;(with_reducible refine (S _).mono ?_);rintro e w1 ⟨rfl,hb1⟩;have hbrA:=hbr.trans (hb1.mono hbr.size);have hobA:=owns_belowX hob hb1)
     | fail)
    case d1 => unfold maxLen;omega
    case d2 => omega
    case d3 => exact hbrA.size
    intro vb2 w4 hob4 hg4 hnil4
    have hbr4 : Below w.heap.size w w4:=hbrA.grown hg4 hbrA.size (own_ge hobA)
    have hnn4 : vb2 ≠ .slice none 0 0:=by first | exact fun e => hnn (hnil4.1 e).1 | exact hnil4
    have HG : Hid (Bytes w4 w.heap.size vb2 (acc ++ x)):=grow_bytes HTB.out (by rw [hxs];exact hob4)
    clear hob4 hg4 hnil4 hobA
    go_wp2
    refine ⟨⟨j + k,vb2,acc ++ x,congrArg (Value.int .i64) (by omega),rfl,HG.out,by rw [List.length_append];omega,by omega,hnn4,hbr4,?_⟩,?_⟩
    ·rw [HR.out,HX.out,map_map]
    ·simp [RowKit.intOf]
     omega
end
section
open Go Go.RowKit
attribute [local irreducible] srcB
def xrF (s : Bs) : Nat → Nat → Option (Bs × Nat)
 | 0,_ => none
 | n + 1,i => if List.isPrefixOf [92,34,34,34] (s.drop i) then (xrF s n (i + 4)).map fun q => ([34,34,34] ++ q.1,q.2) else if List.isPrefixOf [34,34,34] (s.drop i) then some ([],i + 3) else match srcC s i with
  | none => none
  | some k => (xrF s n (i + k)).map fun q => ((s.drop i).take k ++ q.1,q.2)
theorem pre_pos {s t : Bs} {i : Nat} (h : t.isPrefixOf (s.drop i) = true) : i + t.length ≤ s.length ∨ t = []:=by
 have:=prefix_le h
 rw [List.length_drop] at this
 cases t with
 | nil => exact Or.inr rfl
 | cons c t => left;simp at this ⊢;omega
theorem xrF_fuel (s : Bs) : ∀ (n m i : Nat),s.length - i < n → s.length - i < m → xrF s n i = xrF s m i:=by
 intro n
 induction n with
 | zero => intro m i h;omega
 | succ n ih =>
  intro m i hn hm
  cases m with
  | zero => omega
  | succ m =>
   unfold xrF
   by_cases h4 : List.isPrefixOf [92,34,34,34] (s.drop i) = true
   ·have:=(pre_pos h4).resolve_right (by simp)
    simp only [List.length_cons,List.length_nil] at this
    rw [if_pos h4,if_pos h4,ih m (i + 4) (by omega) (by omega)]
   ·rw [if_neg h4,if_neg h4]
    cases hs : srcC s i with
    | none => rfl
    | some k =>
     have hH:=hs
     rw [srcC_H] at hH
     obtain ⟨k1,k2,_,_⟩:=srcH_facts hH
     rw [List.length_drop] at k2
     simp only
     rw [ih m (i + k) (by omega) (by omega)]
def xr (s : Bs) (i : Nat) : Option (Bs × Nat):=xrF s (s.length - i + 1) i
theorem xr_esc {s : Bs} {i : Nat} (h : List.isPrefixOf [92,34,34,34] (s.drop i) = true) : xr s i = (xr s (i + 4)).map fun q => ([34,34,34] ++ q.1,q.2):=by
 have:=(pre_pos h).resolve_right (by simp)
 simp only [List.length_cons,List.length_nil] at this
 conv => lhs;unfold xr xrF
 rw [if_pos h]
 unfold xr
 rw [xrF_fuel s _ (s.length - (i + 4) + 1) (i + 4) (by omega) (by omega)]
theorem xr_stop {s : Bs} {i : Nat} (h : List.isPrefixOf [92,34,34,34] (s.drop i) = false) (h3 : List.isPrefixOf [34,34,34] (s.drop i) = true) : xr s i = some ([],i + 3):=by
 unfold xr xrF
 rw [if_neg (by rw [h];decide),if_pos h3]
theorem xr_none {s : Bs} {i : Nat} (h : List.isPrefixOf [92,34,34,34] (s.drop i) = false) (h3 : List.isPrefixOf [34,34,34] (s.drop i) = false) (hs : srcC s i = none) : xr s i = none:=by
 unfold xr xrF
 rw [if_neg (by rw [h];decide),if_neg (by rw [h3];decide),hs]
theorem xr_chr {s : Bs} {i k : Nat} (h : List.isPrefixOf [92,34,34,34] (s.drop i) = false) (h3 : List.isPrefixOf [34,34,34] (s.drop i) = false) (hs : srcC s i = some k) : xr s i = (xr s (i + k)).map fun q => ((s.drop i).take k ++ q.1,q.2):=by
 have hH:=hs
 rw [srcC_H] at hH
 obtain ⟨k1,k2,_,_⟩:=srcH_facts hH
 rw [List.length_drop] at k2
 conv => lhs;unfold xr xrF
 rw [if_neg (by rw [h];decide),if_neg (by rw [h3];decide),hs]
 simp only
 unfold xr
 rw [xrF_fuel s _ (s.length - (i + k) + 1) (i + k) (by omega) (by omega)]
def rawC (l : Bs) : Option (Bs × Bs):=(rawS l).bind fun p => if (srcB (ahead l p.2)).isSome then none else some p
theorem rawC_of {l t r : Bs} (h : rawS l = some (t,r)) (hs : srcB (ahead l r) = none) : rawC l = some (t,r):=by
 unfold rawC
 rw [h,Option.bind_some,if_neg (by rw [isSome_iff];simp [hs])]
theorem rawC_bad {l t r : Bs} (h : rawS l = some (t,r)) (hs : ¬ srcB (ahead l r) = none) : rawC l = none:=by
 unfold rawC
 rw [h,Option.bind_some,if_pos (by rw [isSome_iff];exact hs)]
theorem rawC_none {l : Bs} (h : rawS l = none) : rawC l = none:=by unfold rawC;rw [h];rfl
theorem raw_ahead {l t r : Bs} (h : rawS l = some (t,r)) : l = ahead l r ++ r ∧ ahead l r ≠ []:=by
 obtain ⟨x,rfl⟩:=(rawF_facts _ _ _ _ h).1
 have hlt:=rawF_lt _ _ _ _ h
 rw [ahead_app]
 refine ⟨rfl,?_⟩
 rintro rfl
 simp only [List.nil_append] at hlt
 omega
theorem rawC_no {l : Bs} (h : srcH l = none) : rawC l = none:=by
 cases hl : rawS l with
 | none => exact rawC_none hl
 | some p =>
  obtain ⟨t,r⟩:=p
  obtain ⟨e,hne⟩:=raw_ahead hl
  refine rawC_bad hl fun hs => ?_
  obtain ⟨k,hk⟩:=src_first hne hs
  have:=srcH_ext r hk
  rw [← e,h] at this
  cases this
theorem rawC_step {x l y : Bs} (hraw : rawS (x ++ l) = (rawS l).map fun q => (y ++ q.1,q.2)) (hsrc : ∀ m,srcB (x ++ m) = none ↔ srcB m = none) : rawC (x ++ l) = (rawC l).map fun q => (y ++ q.1,q.2):=by
 cases hl : rawS l with
 | none =>
  rw [rawC_none hl,rawC_none (by rw [hraw,hl];rfl)]
  rfl
 | some p =>
  obtain ⟨t,r⟩:=p
  have h2 : rawS (x ++ l) = some (y ++ t,r):=by rw [hraw,hl];rfl
  obtain ⟨e,_⟩:=raw_ahead hl
  have ea : ahead (x ++ l) r = x ++ ahead l r:=by
   conv => lhs;rw [e,← List.append_assoc]
   exact ahead_app _ _
  by_cases hs : srcB (ahead l r) = none
  ·rw [rawC_of hl hs,rawC_of h2 (by rw [ea,hsrc];exact hs)]
   rfl
  ·rw [rawC_bad hl hs,rawC_bad h2 (by rw [ea,hsrc];exact hs)]
   rfl
theorem raw_his : ∀ (x m : Bs),(∀ c ∈ x,128 ≤ c.toNat) → rawS (x ++ m) = (rawS m).map fun q => (x ++ q.1,q.2)
 | [],m,_ => by
  show rawS m = _
  cases rawS m <;> rfl
 | c :: x,m,h => by
  obtain ⟨h1,h2,_,_⟩:=hi_ne (h c List.mem_cons_self)
  show rawS (c :: (x ++ m)) = _
  rw [rawS_chr (by simp [List.isPrefixOf];exact fun e => absurd e.symm h1) (by simp [List.isPrefixOf];exact fun e => absurd e.symm h2),raw_his x m fun d hd => h d (List.mem_cons_of_mem _ hd)]
  cases rawS m <;> rfl
theorem xr_raw (s : Bs) : ∀ (n i : Nat),s.length - i < n → (xrF s n i).map (fun q => (q.1,s.drop q.2)) = rawC (s.drop i):=by
 intro n
 induction n with
 | zero => intro i h;omega
 | succ n ih =>
  intro i hi
  unfold xrF
  by_cases h4 : List.isPrefixOf [92,34,34,34] (s.drop i) = true
  ·have h4l:=(pre_pos h4).resolve_right (by simp)
   simp only [List.length_cons,List.length_nil] at h4l
   rw [if_pos h4]
   obtain ⟨m,hm⟩:=List.isPrefixOf_iff_prefix.1 h4
   have hd : s.drop (i + 4) = m:=by
    rw [← List.drop_drop,← hm]
    rfl
   have ihr:=ih (i + 4) (by omega)
   rw [hd] at ihr
   rw [← hm]
   have hstep:=rawC_step (x:=[92,34,34,34]) (l:=m) (y:=[34,34,34]) (rawS_esc (l:=[92,34,34,34] ++ m) rfl rfl) (fun m => plains_iff _ m (by decide))
   rw [hstep,← ihr]
   cases xrF s n (i + 4) <;> rfl
  ·rw [if_neg h4]
   have h4':=Bool.eq_false_iff.2 h4
   by_cases h3 : List.isPrefixOf [34,34,34] (s.drop i) = true
   ·rw [if_pos h3]
    obtain ⟨m,hm⟩:=List.isPrefixOf_iff_prefix.1 h3
    have hd : s.drop (i + 3) = m:=by
     rw [← List.drop_drop,← hm]
     rfl
    rw [← hm]
    have ha : ahead ([34,34,34] ++ m) m = [34,34,34]:=ahead_app _ _
    rw [rawC_of (rawS_stop (l:=[34,34,34] ++ m) rfl) (by show srcB (ahead ([34,34,34] ++ m) m) = none;rw [ha];exact src_plain _ (by decide))]
    simp [hd]
   ·rw [if_neg h3]
    have h3':=Bool.eq_false_iff.2 h3
    cases hs : srcC s i with
    | none =>
     rw [srcC_H] at hs
     rw [rawC_no hs]
     rfl
    | some k =>
     have hH:=hs
     rw [srcC_H] at hH
     obtain ⟨k1,k2,_,_⟩:=srcH_facts hH
     rw [List.length_drop] at k2
     simp only
     have e:=List.take_append_drop k (s.drop i)
     have hH1 : srcH ((s.drop i).take k) = some k:=srcH_pre (x:=(s.drop i).take k) (r:=(s.drop i).drop k) (by rw [e];exact hH) (by rw [List.length_take,List.length_drop];omega)
     have hraw : rawS ((s.drop i).take k ++ (s.drop i).drop k) = (rawS ((s.drop i).drop k)).map fun q => ((s.drop i).take k ++ q.1,q.2):=by
      rcases srcH_bytes hH with ⟨c,r,hl,hc,rfl,_⟩ | ⟨_,hbig⟩
      ·rw [hl] at h4' h3' ⊢
       exact rawS_chr h3' h4'
      ·exact raw_his _ _ hbig
     have hstep:=rawC_step hraw (hsrc_of hH1 (by rw [List.length_take,List.length_drop];omega))
     rw [e,List.drop_drop] at hstep
     have ihr:=ih (i + k) (by omega)
     rw [hstep,← ihr]
     cases xrF s n (i + k) <;> rfl
set_option maxRecDepth 100000 in
set_option maxHeartbeats 2000000 in
theorem xraw_any (Q : Ending → Prop) (s : Bs) (p : Nat) (hp : p + 3 ≤ s.length) (hs : s.length ≤ 16384) (hyes : ∀ t e,xr s (p + 3) = some (t,e) → Q (.returned (.tuple #[.string ⟨t.toArray⟩,.int .i64 (e : Int),.bool true]))) (hno : xr s (p + 3) = none → ∀ b,Q (.returned (.tuple #[.string ⟨#[]⟩,.int .i64 b,.bool false]))) (w : World) :
  Calls Tryz.prog 65 #[.string ⟨s.toArray⟩,.int .i64 (p : Int)] w fun e w' => Q e ∧ Below w.heap.size w w':=by
 obtain ⟨i1,hi1,hy0,hy1,hy2⟩:=info_parts Tryz.infoByte
 have HY : Hid (∀ t e,xr s (p + 3) = some (t,e) → Q (.returned (.tuple #[.string ⟨t.toArray⟩,.int .i64 (e : Int),.bool true]))):=hyes
 have HN : Hid (xr s (p + 3) = none → ∀ b,Q (.returned (.tuple #[.string ⟨#[]⟩,.int .i64 b,.bool false]))):=hno
 have hD : (ByteArray.mk s.toArray).size = s.length:=rfl
 have s3 : (ByteArray.mk #[34,34,34]).size = 3:=rfl
 clear hyes hno
 generalize hDD : (ByteArray.mk s.toArray) = D at *
 have HD : Hid ((ByteArray.mk s.toArray) = D):=hDD
 clear hDD
 go_enter Tryz.func65,Tryz.ntmps65
 go_wp2
 go_loopw [1,7] (fun i b wr => ∃ (j : Nat) (vb : Value) (acc : Bs),i = .int .i64 (j : Int) ∧ b = vb ∧ TL (xr s) s (p + 3) w wr j vb acc) (fun i _ _ => s.length - (RowKit.intOf i).toNat)
 case atStart => exact ⟨p + 3,_,[],rfl,rfl,own_nobX w,by simp,by omega,by simp,(Below.refl _ _).alloc (Nat.le_refl _) _,map_nil _⟩
 case round =>
  obtain ⟨j,vb,acc,rfl,rfl,hT⟩:=hrel
  obtain ⟨hob,hle,hj,hnn,hbr,hres⟩:=hT
  have HR : Hid (xr s (p + 3) = (xr s j).map fun q => (acc ++ q.1,q.2)):=hres
  clear hres
  obtain ⟨g9,cap9,rfl⟩:=not_noneX hob hnn
  have B4 : ∀ w : World,Calls Tryz.prog 59 #[.string D,.int .i64 (j : Int),.string ⟨#[92,34,34,34]⟩] w fun e w' => e = .returned (.bool (List.isPrefixOf [92,34,34,34] (s.drop j))) ∧ w = w':=fun w => by
   have:=begins_any s j hj hs [92,34,34,34] (by decide) w
   rw [HD.out] at this
   exact this.mono fun _ _ h => ⟨h.1,h.2.symm⟩
  have B3 : ∀ w : World,Calls Tryz.prog 59 #[.string D,.int .i64 (j : Int),.string ⟨#[34,34,34]⟩] w fun e w' => e = .returned (.bool (List.isPrefixOf [34,34,34] (s.drop j))) ∧ w = w':=fun w => by
   have:=begins_any s j hj hs [34,34,34] (by decide) w
   rw [HD.out] at this
   exact this.mono fun _ _ h => ⟨h.1,h.2.symm⟩
  cases h4 : List.isPrefixOf [92,34,34,34] (s.drop j) with
  | true =>
   rw [h4] at B4
   have h5:=(pre_pos h4).resolve_right (by simp)
   simp only [List.length_cons,List.length_nil] at h5
   have HX : Hid (xr s j = (xr s (j + 4)).map fun q => ([34,34,34] ++ q.1,q.2)):=xr_esc h4
   have hbrA:=hbr
   have hobA:=hob
   clear h4 B3
   go_wp2_with (first
    | (at_builtin;refine Lib.wpList_append_own_string _ rfl _ _ 40 9 rfl w.heap.size 5 i1 Tryz.underlying40 Tryz.underlying9 hi1 hy0 hy1 hy2 _ _ _ rfl hobA ⟨#[34,34,34]⟩ rfl ?d1 ?d2 ?d3 ?_)
    | (go_at_call 59;(with_reducible refine (B4 _).mono ?_);rintro e w0 ⟨rfl,rfl⟩)
    | fail)
   case d1 => unfold maxLen;omega
   case d2 => omega
   case d3 => exact hbrA.size
   intro vb2 w4 hob4 hg4 hnil4
   have hbr4 : Below w.heap.size w w4:=hbrA.grown hg4 hbrA.size (own_ge hobA)
   have hnn4 : vb2 ≠ .slice none 0 0:=by first | exact fun e => hnn (hnil4.1 e).1 | exact hnil4
   have HG : Hid (Bytes w4 w.heap.size vb2 (acc ++ [34,34,34])):=grow_bytes (t:=[34,34,34]) rfl (by first | exact hob4 | (rw [s3];exact hob4))
   clear hob4 hg4 hnil4 hobA
   go_wp2
   refine ⟨⟨j + 4,vb2,acc ++ [34,34,34],congrArg (Value.int .i64) (by omega),rfl,HG.out,by rw [List.length_append];simp;omega,by omega,hnn4,hbr4,?_⟩,?_⟩
   ·rw [HR.out,HX.out,map_map]
   ·simp [RowKit.intOf]
    omega
  | false =>
   rw [h4] at B4
   cases h3 : List.isPrefixOf [34,34,34] (s.drop j) with
   | true =>
    rw [h3] at B3
    have HX : Hid (xr s j = some ([],j + 3)):=xr_stop h4 h3
    have hcv:=conv_row hob
    have h5:=(pre_pos h3).resolve_right (by simp)
    simp only [List.length_cons,List.length_nil] at h5
    clear h4 h3
    generalize hAB : (ByteArray.mk acc.toArray) = AB at *
    have HAB : Hid ((ByteArray.mk acc.toArray) = AB):=hAB
    clear hAB
    go_wp2_with (first
     | (go_at_call 59;(with_reducible refine (B3 _).mono ?_);rintro e w0 ⟨rfl,rfl⟩)
     | (go_at_call 59;(with_reducible refine (B4 _).mono ?_);rintro e w0 ⟨rfl,rfl⟩)
     | fail)
    go_ret3
    have hy:=HY.out acc (j + 3) (by rw [HR.out,HX.out];simp)
    rw [HAB.out] at hy
    exact ⟨hy,hbr⟩
   | false =>
    rw [h3] at B3
    cases hsc : srcC s j with
    | none =>
     have S : ∀ w,Calls Tryz.prog 60 #[.string D,.int .i64 (j : Int)] w fun e w' => e = .returned (.tuple #[.int .i64 0,.int .i64 0]) ∧ Below w.heap.size w w':=fun w => by
      have:=source_no s j hs hsc w
      rw [HD.out] at this
      exact this
     have HX : Hid (xr s j = none):=xr_none h4 h3 hsc
     clear hsc h4 h3
     go_wp2_with (first
      | (go_at_call 60;(with_reducible refine (S _).mono ?_);rintro e w1 ⟨rfl,hb1⟩;have hbr1:=hbr.trans (hb1.mono hbr.size);have hob1:=owns_belowX hob hb1)
      | (go_at_call 59;(with_reducible refine (B3 _).mono ?_);rintro e w0 ⟨rfl,rfl⟩)
      | (go_at_call 59;(with_reducible refine (B4 _).mono ?_);rintro e w0 ⟨rfl,rfl⟩)
      | fail)
     go_ret3
     exact ⟨HN.out (by rw [HR.out,HX.out];rfl) _,hbr1⟩
    | some k =>
     have S : ∀ w,Calls Tryz.prog 60 #[.string D,.int .i64 (j : Int)] w fun e w' => e = .returned (.tuple #[.int .i64 (stC ⟨s.toArray⟩ j),.int .i64 (k : Int)]) ∧ Below w.heap.size w w':=fun w => by
      have:=source_yes s j k hs hsc w
      rw [HD.out] at this ⊢
      exact this
     have hH:=hsc
     rw [srcC_H] at hH
     obtain ⟨k1,k2,_,_⟩:=srcH_facts hH
     rw [List.length_drop] at k2
     have x0 : ((k : Int) == 0) = false:=by simp;omega
     have x00 : (k == 0) = false:=by simp;omega
     have HX : Hid (xr s j = (xr s (j + k)).map fun q => ((s.drop j).take k ++ q.1,q.2)):=xr_chr h4 h3 hsc
     have hx:=ext_mk s j k
     rw [HD.out] at hx
     have hxl : (ByteArray.mk ((s.drop j).take k).toArray).size = k:=by rw [mk_size,List.length_take,List.length_drop];omega
     have hxl2 : ((s.drop j).take k).length = k:=by rw [List.length_take,List.length_drop];omega
     have f1 : (j : Int) + (k : Int) ≤ (s.length : Int):=by omega
     have f2 : (j : Int) ≤ (j : Int) + (k : Int):=by omega
     have f3 : j + k ≤ s.length:=by omega
     have f4 : (0 : Int) ≤ (j : Int) + (k : Int):=by omega
     clear hsc hH h4 h3
     generalize stC ⟨s.toArray⟩ j = c at *
     generalize (s.drop j).take k = x at *
     have HTB : Hid ((ByteArray.mk x.toArray) = D.extract j (j + k)):=hx.symm
     have hxs : (D.extract j (j + k)).size = k:=by rw [hx];exact hxl
     clear hx hxl
     go_wp2_with (first
      | (at_builtin;refine Lib.wpList_append_own_string _ rfl _ _ 40 9 rfl w.heap.size 5 i1 Tryz.underlying40 Tryz.underlying9 hi1 hy0 hy1 hy2 _ _ _ rfl hobA (D.extract j (j + k)) rfl ?d1 ?d2 ?d3 ?_)
      | (go_at_call 60;(with_reducible refine (S _).mono ?_);rintro e w1 ⟨rfl,hb1⟩;have hbrA:=hbr.trans (hb1.mono hbr.size);have hobA:=owns_belowX hob hb1)
      | (go_at_call 59;(with_reducible refine (B3 _).mono ?_);rintro e w0 ⟨rfl,rfl⟩)
      | (go_at_call 59;(with_reducible refine (B4 _).mono ?_);rintro e w0 ⟨rfl,rfl⟩)
      | fail)
     case d1 => unfold maxLen;omega
     case d2 => omega
     case d3 => exact hbrA.size
     intro vb2 w4 hob4 hg4 hnil4
     have hbr4 : Below w.heap.size w w4:=hbrA.grown hg4 hbrA.size (own_ge hobA)
     have hnn4 : vb2 ≠ .slice none 0 0:=by first | exact fun e => hnn (hnil4.1 e).1 | exact hnil4
     have HG : Hid (Bytes w4 w.heap.size vb2 (acc ++ x)):=grow_bytes HTB.out (by rw [hxs];exact hob4)
     clear hob4 hg4 hnil4 hobA
     go_wp2
     refine ⟨⟨j + k,vb2,acc ++ x,congrArg (Value.int .i64) (by omega),rfl,HG.out,by rw [List.length_append];omega,by omega,hnn4,hbr4,?_⟩,?_⟩
     ·rw [HR.out,HX.out,map_map]
     ·simp [RowKit.intOf]
      omega
end
section
open Go Go.RowKit
attribute [local irreducible] srcB
structure LineAt (s : Bs) (j : Nat) (L rest : Bs) : Prop where
 cut : s.drop j = L ++ rest
 head : ∃ body,L = 35 :: body
 none : ∀ c ∈ L,endL.contains c = false
 stop : ∀ c m,rest = c :: m → endL.contains c = true
theorem line_of {s : Bs} {j : Nat} {m : Bs} (h : s.drop j = 35 :: m) : ∃ L rest,LineAt s j L rest:=by
 obtain ⟨p,h1,h2,h3⟩:=spanN_all endL m
 refine ⟨35 :: p,spanN endL m,?_,⟨p,rfl⟩,?_,h3⟩
 ·rw [h,List.cons_append,← h1]
 ·intro c hc
  rcases List.mem_cons.1 hc with rfl | hc
  ·rfl
  ·exact h2 c hc
theorem line_same {s : Bs} {j : Nat} {L rest : Bs} (h : LineAt s j L rest) (o : Nat) (ho : o < L.length) : srcC s (j + o) = srcC L o:=by
 have e : s.drop (j + o) = L.drop o ++ rest:=by
  rw [← List.drop_drop,h.cut,drop_app1 o (by omega)]
 rw [srcC_H,srcC_H,e]
 cases hs : srcH (L.drop o) with
 | some k => exact srcH_ext rest hs
 | none =>
  cases hs2 : srcH (L.drop o ++ rest) with
  | none => rfl
  | some k =>
   exfalso
   have hk : k ≤ (L.drop o).length:=by
    obtain ⟨k1,k2,_,_⟩:=srcH_facts hs2
    rcases srcH_bytes hs2 with ⟨c,r,_,_,rfl,_⟩ | ⟨_,hbig⟩
    ·rw [List.length_drop];omega
    ·rcases Nat.lt_or_ge (L.drop o).length k with hlt | hge
     ·exfalso
      cases hr : rest with
      | nil =>
       rw [hr,List.append_nil] at k2
       omega
      | cons c m =>
       have hc:=h.stop c m hr
       have hm : c ∈ (L.drop o ++ rest).take k:=by
        rw [hr,List.take_append]
        refine List.mem_append_right _ ?_
        obtain ⟨q,hq⟩ : ∃ q,k - (L.drop o).length = q + 1:=⟨k - (L.drop o).length - 1,by omega⟩
        rw [hq]
        exact List.mem_cons_self
       have:=hbig c hm
       have hc2 : c = 10 ∨ c = 13:=by simpa [endL] using hc
       rcases hc2 with rfl | rfl
       ·exact absurd this (by decide)
       ·exact absurd this (by decide)
     ·exact hge
   rw [srcH_pre hs2 hk] at hs
   cases hs
theorem sF_some {L : Bs} {o k : Nat} (h : srcC L o = some k) : sF ⟨L.toArray⟩ o = sF ⟨L.toArray⟩ (o + k):=by
 unfold srcC at h
 split at h
 ·rename_i hc
  have hk : stW ⟨L.toArray⟩ o = k:=by simpa using h
  rw [sF_step _ _ (by rw [mk_size];exact hc.1),if_pos hc.2,hk]
 ·cases h
theorem sF_bad {L : Bs} {o : Nat} (ho : o < L.length) (h : srcC L o = none) : sF ⟨L.toArray⟩ o = ((o : Int),10):=by
 unfold srcC at h
 split at h
 ·cases h
 ·rename_i hc
  rw [sF_step _ _ (by rw [mk_size];exact ho),if_neg (fun e => hc ⟨ho,e⟩)]
theorem com_end {s : Bs} {j : Nat} {L rest : Bs} (h : LineAt s j L rest) (hs : sF ⟨L.toArray⟩ 0 = sF ⟨L.toArray⟩ L.length) : skipS (s.drop j) = skipS rest:=by
 obtain ⟨body,hb⟩:=h.head
 have hn : srcB L = none:=by
  rw [src_iff,hs]
  exact sF_end _ _ (by rw [mk_size];omega)
 rw [h.cut]
 have hb1 : ∀ c ∈ body,endL.contains c = false:=fun c hc => h.none c (by rw [hb];exact List.mem_cons_of_mem _ hc)
 have:=com_make hb1 h.stop (by rw [← hb];exact hn)
 rw [hb]
 exact skip_com this
theorem com_bad {s : Bs} {j o : Nat} {L rest : Bs} (h : LineAt s j L rest) (hs : sF ⟨L.toArray⟩ 0 = ((o : Int),10)) : skipS (s.drop j) = .inr ((s.drop j).length - o):=by
 obtain ⟨body,hb⟩:=h.head
 have hn : srcB L = some o:=by
  have h' : sourceS ⟨L.toArray⟩ = ((o : Int),10):=hs
  unfold srcB
  rw [h']
  rfl
 have hc : comS (s.drop j) = some (.inr o):=by
  rw [h.cut,hb]
  have hb1 : ∀ c ∈ body,endL.contains c = false:=fun c hc => h.none c (by rw [hb];exact List.mem_cons_of_mem _ hc)
  have e : spanN endL (body ++ rest) = rest:=by
   rw [spanN_app endL body rest hb1]
   cases hr : rest with
   | nil => rfl
   | cons c m => exact spanN_stop endL c m (h.stop c m hr)
  unfold comS
  rw [if_pos (by rfl)]
  simp only [List.cons_append,List.drop_succ_cons,List.drop_zero]
  rw [e,show ahead (35 :: (body ++ rest)) rest = 35 :: body from ahead_app (35 :: body) rest,← hb,hn]
 exact skip_bad hc
set_option maxRecDepth 100000 in
set_option maxHeartbeats 2000000 in
theorem xskip_any (Q : Ending → Prop) (s : Bs) (p : Nat) (hp : p ≤ s.length) (hs : s.length ≤ 16384) (hyes : ∀ m,skipS (s.drop p) = .inl m → Q (.returned (.tuple #[.int .i64 ((s.length - m.length : Nat) : Int),.bool true]))) (hno : ∀ k,skipS (s.drop p) = .inr k → Q (.returned (.tuple #[.int .i64 ((s.length - k : Nat) : Int),.bool false]))) (w : World) :
  Calls Tryz.prog 35 #[.string ⟨s.toArray⟩,.int .i64 (p : Int)] w fun e w' => Q e ∧ Below w.heap.size w w':=by
 have HY : Hid (∀ m,skipS (s.drop p) = .inl m → Q (.returned (.tuple #[.int .i64 ((s.length - m.length : Nat) : Int),.bool true]))):=hyes
 have HN : Hid (∀ k,skipS (s.drop p) = .inr k → Q (.returned (.tuple #[.int .i64 ((s.length - k : Nat) : Int),.bool false]))):=hno
 have hD : (ByteArray.mk s.toArray).size = s.length:=rfl
 have ix : ∀ (q : Nat) (hh : q < (ByteArray.mk s.toArray).size),(((ByteArray.mk s.toArray)[q]'hh).toNat : Int) = bt s q:=fun q hh => by
  unfold bt
  have e : (ByteArray.mk s.toArray)[q]'hh = s.getD q 0:=by
   show s.toArray[q]'hh = _
   have : q < s.length:=hh
   simp [List.getD,this]
  rw [e]
 clear hyes hno
 generalize hDD : (ByteArray.mk s.toArray) = D at *
 have HD : Hid ((ByteArray.mk s.toArray) = D):=hDD
 clear hDD
 go_enter Tryz.func35,Tryz.ntmps35
 go_wp2
 go_loopw [1] (fun i wr => ∃ (j : Nat),i = .int .i64 (j : Int) ∧ j ≤ s.length ∧ skipS (s.drop j) = skipS (s.drop p) ∧ Below w.heap.size w wr) (fun i _ => s.length - (RowKit.intOf i).toNat)
 case atStart => exact ⟨p,rfl,hp,rfl,Below.refl _ _⟩
 case round =>
  obtain ⟨j,rfl,hj,hsk,hbr⟩:=hrel
  by_cases hlt : j < s.length
  ·have hltI : (j : Int) < (s.length : Int):=by omega
   have i0:=ix j
   cases hl : s.drop j with
   | nil =>
    exfalso
    have:=congrArg List.length hl
    rw [List.length_drop] at this
    simp at this
    omega
   | cons x r =>
    have hb:=bt_drop s j x r hl
    have hr : s.drop (j + 1) = r:=by
     have:=congrArg (List.drop 1) hl
     rw [List.drop_drop] at this
     exact this
    rw [hl] at hsk
    by_cases hig : ignL.contains x = true
    ·have HSk : Hid (skipS (s.drop (j + 1)) = skipS (s.drop p)):=by
      show _ = _
      rw [hr,← hsk,skip_one hig]
     have hx : x = 9 ∨ x = 32 ∨ x = 10 ∨ x = 13 ∨ x = 44:=by simpa [ignL] using hig
     clear hsk hig hr
     have hdec:=hb
     rcases hx with rfl | rfl | rfl | rfl | rfl
     ·rw [show (((9 : UInt8).toNat : Nat) : Int) = 9 from rfl] at hb
      clear hl hdec i0
      go_wp2_with fail
      refine ⟨⟨j + 1,congrArg (Value.int .i64) (by omega),by omega,HSk.out,hbr⟩,?_⟩
      simp [RowKit.intOf]
      omega
     ·rw [show (((32 : UInt8).toNat : Nat) : Int) = 32 from rfl] at hb
      clear hl hdec i0
      go_wp2_with fail
      refine ⟨⟨j + 1,congrArg (Value.int .i64) (by omega),by omega,HSk.out,hbr⟩,?_⟩
      simp [RowKit.intOf]
      omega
     ·rw [show (((10 : UInt8).toNat : Nat) : Int) = 10 from rfl] at hb
      clear hl hdec i0
      go_wp2_with fail
      refine ⟨⟨j + 1,congrArg (Value.int .i64) (by omega),by omega,HSk.out,hbr⟩,?_⟩
      simp [RowKit.intOf]
      omega
     ·rw [show (((13 : UInt8).toNat : Nat) : Int) = 13 from rfl] at hb
      clear hl hdec i0
      go_wp2_with fail
      refine ⟨⟨j + 1,congrArg (Value.int .i64) (by omega),by omega,HSk.out,hbr⟩,?_⟩
      simp [RowKit.intOf]
      omega
     ·rw [show (((44 : UInt8).toNat : Nat) : Int) = 44 from rfl] at hb
      clear hl hdec i0
      go_wp2_with fail
      refine ⟨⟨j + 1,congrArg (Value.int .i64) (by omega),by omega,HSk.out,hbr⟩,?_⟩
      simp [RowKit.intOf]
      omega
    ·have hne : ∀ v : UInt8,ignL.contains v = true → bt s j ≠ (v.toNat : Int):=fun v hv e => by
      rw [hb] at e
      have : x = v:=by apply UInt8.toNat_inj.1;omega
      rw [this] at hig
      exact hig hv
     have n9 : (bt s j == 9) = false:=by simpa using hne 9 rfl
     have n32 : (bt s j == 32) = false:=by simpa using hne 32 rfl
     have n10 : (bt s j == 10) = false:=by simpa using hne 10 rfl
     have n13 : (bt s j == 13) = false:=by simpa using hne 13 rfl
     have n44 : (bt s j == 44) = false:=by simpa using hne 44 rfl
     have BB : ∀ w : World,Calls Tryz.prog 59 #[.string D,.int .i64 (j : Int),.string ⟨#[239,187,191]⟩] w fun e w' => e = .returned (.bool (List.isPrefixOf [239,187,191] (x :: r))) ∧ w = w':=fun w => by
      have:=begins_any s j hj hs [239,187,191] (by decide) w
      rw [HD.out,hl] at this
      exact this.mono fun _ _ h => ⟨h.1,h.2.symm⟩
     cases hbom : List.isPrefixOf [239,187,191] (x :: r) with
     | true =>
      rw [hbom] at BB
      obtain ⟨m,hm⟩:=List.isPrefixOf_iff_prefix.1 hbom
      have hm2 : x :: r = 239 :: 187 :: 191 :: m:=hm.symm
      have h3 : s.drop (j + 3) = m:=by
       rw [← List.drop_drop,hl,hm2]
       rfl
      have h3l : j + 3 ≤ s.length:=by
       have:=congrArg List.length (hl.trans hm2)
       rw [List.length_drop] at this
       simp at this
       omega
      have HSk : Hid (skipS (s.drop (j + 3)) = skipS (s.drop p)):=by
       show _ = _
       rw [h3,← hsk,hm2,skip_bom]
      clear hsk hig hr hb hl hne hbom hm hm2 h3
      go_wp2_with (first
       | (go_at_call 59;(with_reducible refine (BB _).mono ?_);rintro e w0 ⟨rfl,rfl⟩)
       | fail)
      refine ⟨⟨j + 3,congrArg (Value.int .i64) (by omega),by omega,HSk.out,hbr⟩,?_⟩
      simp [RowKit.intOf]
      omega
     | false =>
      rw [hbom] at BB
      by_cases h35 : x = 35
      ·subst h35
       have hb35 : bt s j = 35:=hb
       obtain ⟨L,rest,hLA⟩:=line_of hl
       have hLl : j + L.length + rest.length = s.length:=by
        have:=congrArg List.length hLA.cut
        rw [List.length_drop,List.length_append] at this
        omega
       have hL1 : 1 ≤ L.length:=by
        obtain ⟨body,hbd⟩:=hLA.head
        rw [hbd]
        simp
       have HL : Hid (LineAt s j L rest):=hLA
       have HSk : Hid (skipS (s.drop j) = skipS (s.drop p)):=by
        show _ = _
        rw [hl]
        exact hsk
       have hjb : ∀ o,o < L.length → bt s (j + o) ≠ 10 ∧ bt s (j + o) ≠ 13:=by
        intro o ho
        have e : s.getD (j + o) 0 = L.getD o 0:=by
         rw [← drop_get s j o,hLA.cut]
         simp [List.getD,List.getElem?_append_left ho]
        have hm : L.getD o 0 ∈ L:=by
         simp [List.getD,ho]
        have hn:=hLA.none _ hm
        have e2 : bt s (j + o) = ((L.getD o 0).toNat : Int):=by unfold bt;rw [e]
        rw [e2]
        constructor
        ·intro h
         have : L.getD o 0 = 10:=by apply UInt8.toNat_inj.1;show _ = 10;omega
         rw [this] at hn
         cases hn
        ·intro h
         have : L.getD o 0 = 13:=by apply UInt8.toNat_inj.1;show _ = 13;omega
         rw [this] at hn
         cases hn
       have hje : j + L.length < s.length → bt s (j + L.length) = 10 ∨ bt s (j + L.length) = 13:=by
        intro h
        cases hr2 : rest with
        | nil => rw [hr2] at hLl;simp at hLl;omega
        | cons c m =>
         have hst:=hLA.stop c m hr2
         have e : s.drop (j + L.length) = c :: m:=by
          rw [← List.drop_drop,hLA.cut,List.drop_left' rfl,hr2]
         rw [bt_drop s _ c m e]
         have : c = 10 ∨ c = 13:=by simpa [endL] using hst
         rcases this with rfl | rfl
         ·left;rfl
         ·right;rfl
       clear hsk hig hr hb hl hne hbom n9 n32 n10 n13 n44 hLA i0
       go_wp2_with (first
        | (go_at_call 59;(with_reducible refine (BB _).mono ?_);rintro e w0 ⟨rfl,rfl⟩)
        | fail)
       generalize wr = wB at *
       go_loopw [1] (fun i wr => ∃ (o : Nat),i = .int .i64 ((j + o : Nat) : Int) ∧ o ≤ L.length ∧ sF ⟨L.toArray⟩ 0 = sF ⟨L.toArray⟩ o ∧ Below w.heap.size w wr) (fun i _ => s.length - (RowKit.intOf i).toNat)
       case atStart => exact ⟨0,rfl,by omega,rfl,hbr⟩
       case round =>
        obtain ⟨o,rfl,ho,hsf,hbr2⟩:=hrel
        have hcast : ((j + o : Nat) : Int) = (j : Int) + (o : Int):=by omega
        by_cases hol : o < L.length
        ·have hlt2 : j + o < s.length:=by omega
         have hlt3 : ((j + o : Nat) : Int) < (s.length : Int):=by omega
         obtain ⟨g1,g2⟩:=hjb o hol
         have n1 : (bt s (j + o) != 10) = true:=by simpa using g1
         have n2 : (bt s (j + o) != 13) = true:=by simpa using g2
         have i1:=ix (j + o)
         have hsame:=line_same HL.out o hol
         cases hsc : srcC s (j + o) with
         | none =>
          have S : ∀ w,Calls Tryz.prog 60 #[.string D,.int .i64 ((j + o : Nat) : Int)] w fun e w' => e = .returned (.tuple #[.int .i64 0,.int .i64 0]) ∧ Below w.heap.size w w':=fun w => by
           have:=source_no s (j + o) hs hsc w
           rw [HD.out] at this
           exact this
          have HX : Hid (skipS (s.drop p) = .inr ((s.drop j).length - o)):=by
           show _ = _
           rw [← HSk.out]
           exact com_bad HL.out (hsf.trans (sF_bad hol (hsame.symm.trans hsc)))
          clear hsc hsame hjb hje hsf g1 g2 hcast
          generalize hJ : j + o = J at *
          have HJ : Hid (j + o = J):=hJ
          clear hJ
          go_wp2_with (first
           | (go_at_call 60;(with_reducible refine (S _).mono ?_);rintro e w3 ⟨rfl,hb3⟩;have hbr3:=hbr2.trans (hb3.mono hbr2.size))
           | fail)
          go_ret2
          have hn:=HN.out _ HX.out
          rw [List.length_drop,show s.length - (s.length - j - o) = J by have:=HJ.out;omega] at hn
          exact ⟨hn,hbr3⟩
         | some k =>
          have S : ∀ w,Calls Tryz.prog 60 #[.string D,.int .i64 ((j + o : Nat) : Int)] w fun e w' => e = .returned (.tuple #[.int .i64 (stC ⟨s.toArray⟩ (j + o)),.int .i64 (k : Int)]) ∧ Below w.heap.size w w':=fun w => by
           have:=source_yes s (j + o) k hs hsc w
           rw [HD.out] at this ⊢
           exact this
          have hk:=hsame.symm.trans hsc
          have hH:=hk
          rw [srcC_H] at hH
          obtain ⟨k1,k2,_,_⟩:=srcH_facts hH
          rw [List.length_drop] at k2
          have x0 : ((k : Int) == 0) = false:=by simp;omega
          have x00 : (k == 0) = false:=by simp;omega
          have HX : Hid (sF ⟨L.toArray⟩ 0 = sF ⟨L.toArray⟩ (o + k)):=hsf.trans (sF_some hk)
          clear hsc hsame hjb hje hsf g1 g2 hcast hk hH
          generalize stC ⟨s.toArray⟩ (j + o) = c2 at *
          generalize hJ : j + o = J at *
          have HJ : Hid (j + o = J):=hJ
          clear hJ
          go_wp2_with (first
           | (go_at_call 60;(with_reducible refine (S _).mono ?_);rintro e w3 ⟨rfl,hb3⟩;have hbr3:=hbr2.trans (hb3.mono hbr2.size))
           | fail)
          have hJ2:=HJ.out
          refine ⟨⟨o + k,congrArg (Value.int .i64) (by omega),by omega,HX.out,hbr3⟩,?_⟩
          simp [RowKit.intOf]
          omega
        ·obtain rfl : o = L.length:=by omega
         have HX : Hid (skipS (s.drop (j + L.length)) = skipS (s.drop p)):=by
          show _ = _
          have e : s.drop (j + L.length) = rest:=by rw [← List.drop_drop,HL.out.cut,List.drop_left' rfl]
          rw [e,← com_end HL.out hsf]
          exact HSk.out
         have hJs : j + L.length ≤ s.length:=by omega
         have hJ1 : j + 1 ≤ j + L.length:=by omega
         by_cases hlt2 : j + L.length < s.length
         ·have hlt3 : ((j + L.length : Nat) : Int) < (s.length : Int):=by omega
          have i1:=ix (j + L.length)
          have he:=hje hlt2
          clear hjb hje hsf hcast
          generalize j + L.length = J at *
          rcases he with he | he
          ·go_wp2_with fail
           refine ⟨⟨J,rfl,hJs,HX.out,hbr2⟩,?_⟩
           simp [RowKit.intOf]
           omega
          ·go_wp2_with fail
           refine ⟨⟨J,rfl,hJs,HX.out,hbr2⟩,?_⟩
           simp [RowKit.intOf]
           omega
         ·have hlt3 : ¬ ((j + L.length : Nat) : Int) < (s.length : Int):=by omega
          clear hjb hje hsf hcast
          generalize j + L.length = J at *
          go_wp2_with fail
          refine ⟨⟨J,rfl,hJs,HX.out,hbr2⟩,?_⟩
          simp [RowKit.intOf]
          omega
      ·have n35 : (bt s j == 35) = false:=by
        have : bt s j ≠ 35:=fun e => h35 (by rw [hb] at e;apply UInt8.toNat_inj.1;show _ = 35;omega)
        simpa using this
       have HX : Hid (skipS (s.drop p) = .inl (x :: r)):=by
        show _ = _
        rw [← hsk]
        have hc : comS (x :: r) = none:=by
         unfold comS
         rw [if_neg (by simp [List.isPrefixOf];exact fun e => h35 e.symm)]
        rw [skipS_com (l:=x :: r) (Bool.eq_false_iff.2 hig) hbom,hc]
       have hlen : s.length - (x :: r).length = j:=by
        have:=congrArg List.length hl
        rw [List.length_drop] at this
        omega
       have HLn : Hid (s.length - (x :: r).length = j):=hlen
       clear hsk hig hr hb hl hne hbom hlen
       go_wp2_with (first
        | (go_at_call 59;(with_reducible refine (BB _).mono ?_);rintro e w0 ⟨rfl,rfl⟩)
        | fail)
       go_ret2
       have hy:=HY.out _ HX.out
       rw [HLn.out] at hy
       exact ⟨hy,hbr⟩
  ·have hltI : ¬ (j : Int) < (s.length : Int):=by omega
   have HX : Hid (skipS (s.drop p) = .inl []):=by
    show _ = _
    rw [← hsk,List.drop_eq_nil_of_le (by omega),skip_nil]
   have hlen : s.length - ([] : Bs).length = j:=by simp;omega
   have HLn : Hid (s.length - ([] : Bs).length = j):=hlen
   clear hsk hlen
   go_wp2_with fail
   go_ret2
   have hy:=HY.out _ HX.out
   rw [HLn.out] at hy
   exact ⟨hy,hbr⟩
end
section
open Go Go.RowKit
attribute [local irreducible] srcB
def oneV (s : Bs) (p : Nat) : Value × Int:=match tokS (s.drop p) with
 | .ok k t r => (tokV k t p (s.length - r.length),0)
 | .bad e => (tokV 0 [] 0 0,e)
theorem pun_not {x : UInt8} (h : punL.contains x = true) : letL.contains x = false ∧ digL.contains x = false ∧ x ≠ 45 ∧ x ≠ 34 ∧ x ≠ 46:=by
 have : x ∈ punL:=List.contains_iff_mem.1 h
 simp [punL] at this
 rcases this with rfl | rfl | rfl | rfl | rfl | rfl | rfl | rfl | rfl | rfl | rfl | rfl | rfl <;> decide
theorem ix_of (s : Bs) : ∀ (q : Nat) (hh : q < (ByteArray.mk s.toArray).size),(((ByteArray.mk s.toArray)[q]'hh).toNat : Int) = bt s q:=fun q hh => by
 unfold bt
 have e : (ByteArray.mk s.toArray)[q]'hh = s.getD q 0:=by
  show s.toArray[q]'hh = _
  have : q < s.length:=hh
  simp [List.getD,this]
 rw [e]
set_option maxRecDepth 100000 in
set_option maxHeartbeats 1000000 in
theorem one_pun (s : Bs) (p : Nat) (x : UInt8) (r : Bs) (hl : s.drop p = x :: r) (hs : s.length ≤ 16384) (hx : punL.contains x = true) (w : World) :
  Calls Tryz.prog 36 #[.string ⟨s.toArray⟩,.int .i64 (p : Int)] w fun e w' => e = .returned (.tuple #[tokV 0 [x] p (p + 1),.int .i64 0]) ∧ Below w.heap.size w w':=by
 have hb:=bt_drop s p x r hl
 have hlen:=congrArg List.length hl
 rw [List.length_drop,List.length_cons] at hlen
 have hp : p < s.length:=by omega
 have hpI : (p : Int) < (s.length : Int):=by omega
 have f1 : (p : Int) + 1 ≤ (s.length : Int):=by omega
 obtain ⟨g1,g2,g3,g4,g5⟩:=pun_not hx
 have hD : (ByteArray.mk s.toArray).size = s.length:=rfl
 have ix:=ix_of s p
 have hext : (ByteArray.mk s.toArray).extract p (p + 1) = ⟨#[x]⟩:=by
  rw [ext_mk,hl]
  rfl
 have Lt:=fun w : World => xletter_any x w
 have Dg:=fun w : World => xdigit_any x w
 rw [g1] at Lt
 rw [g2] at Dg
 have BB : ∀ w : World,Calls Tryz.prog 59 #[.string ⟨s.toArray⟩,.int .i64 (p : Int),.string ⟨#[46,46,46]⟩] w fun e w' => e = .returned (.bool false) ∧ w = w':=fun w => by
  have:=begins_any s p (by omega) hs [46,46,46] (by decide) w
  have hz : List.isPrefixOf [46,46,46] (s.drop p) = false:=by
   rw [hl,Bool.eq_false_iff]
   intro e
   obtain ⟨m,hm⟩:=List.isPrefixOf_iff_prefix.1 e
   simp at hm
   exact g5 hm.1.symm
  rw [hz] at this
  exact this.mono fun _ _ h => ⟨h.1,h.2.symm⟩
 rw [hb] at ix
 have c45 : ((x.toNat : Int) == 45) = false:=by
  have : x.toNat ≠ 45:=fun e => g3 (UInt8.toNat_inj.1 e)
  simp;omega
 have c34 : ((x.toNat : Int) == 34) = false:=by
  have : x.toNat ≠ 34:=fun e => g4 (UInt8.toNat_inj.1 e)
  simp;omega
 have hpun : x = 33 ∨ x = 36 ∨ x = 38 ∨ x = 40 ∨ x = 41 ∨ x = 58 ∨ x = 61 ∨ x = 64 ∨ x = 91 ∨ x = 93 ∨ x = 123 ∨ x = 124 ∨ x = 125:=by
  have : x ∈ punL:=List.contains_iff_mem.1 hx
  simpa [punL] using this
 clear hb hlen hl g1 g2 g3 g4 g5 hx
 generalize (ByteArray.mk s.toArray) = D at *
 rcases hpun with rfl | rfl | rfl | rfl | rfl | rfl | rfl | rfl | rfl | rfl | rfl | rfl | rfl
 all_goals
  go_enter Tryz.func36,Tryz.ntmps36
  go_wp2_with (first
   | (go_at_call 59;(with_reducible refine (BB _).mono ?_);rintro e w0 ⟨rfl,rfl⟩)
   | (go_at_call 63;refine (Dg _).mono ?_;rintro e w0 ⟨rfl,hw⟩;subst hw)
   | (go_at_call 61;refine (Lt _).mono ?_;rintro e w0 ⟨rfl,hw⟩;subst hw)
   | fail)
  exact bodyPost_ret (by simp [results,Tryz.results36,go_sem]) rfl ⟨rfl,((Below.refl _ _).alloc (Nat.le_refl _) _).alloc (by simp) _⟩
set_option maxRecDepth 100000 in
set_option maxHeartbeats 1000000 in
theorem one_dots (s : Bs) (p : Nat) (hs : s.length ≤ 16384) (hd : List.isPrefixOf [46,46,46] (s.drop p) = true) (w : World) :
  Calls Tryz.prog 36 #[.string ⟨s.toArray⟩,.int .i64 (p : Int)] w fun e w' => e = .returned (.tuple #[tokV 0 [46,46,46] p (p + 3),.int .i64 0]) ∧ Below w.heap.size w w':=by
 obtain ⟨m,hm⟩:=List.isPrefixOf_iff_prefix.1 hd
 have hl : s.drop p = 46 :: 46 :: 46 :: m:=hm.symm
 have hb:=bt_drop s p 46 _ hl
 have h3:=(pre_pos hd).resolve_right (by simp)
 simp only [List.length_cons,List.length_nil] at h3
 have hpI : (p : Int) < (s.length : Int):=by omega
 have f1 : (p : Int) + 3 ≤ (s.length : Int):=by omega
 have hD : (ByteArray.mk s.toArray).size = s.length:=rfl
 have ix:=ix_of s p
 have hext : (ByteArray.mk s.toArray).extract p (p + 3) = ⟨#[46,46,46]⟩:=by
  rw [ext_mk,hl]
  rfl
 have Lt:=fun w : World => xletter_any 46 w
 have Dg:=fun w : World => xdigit_any 46 w
 have BB : ∀ w : World,Calls Tryz.prog 59 #[.string ⟨s.toArray⟩,.int .i64 (p : Int),.string ⟨#[46,46,46]⟩] w fun e w' => e = .returned (.bool true) ∧ w = w':=fun w => by
  have:=begins_any s p (by omega) hs [46,46,46] (by decide) w
  rw [hd] at this
  exact this.mono fun _ _ h => ⟨h.1,h.2.symm⟩
 rw [hb] at ix
 rw [show letL.contains 46 = false from rfl] at Lt
 rw [show digL.contains 46 = false from rfl] at Dg
 clear hb hl hm hd h3
 generalize (ByteArray.mk s.toArray) = D at *
 go_enter Tryz.func36,Tryz.ntmps36
 go_wp2_with (first
  | (go_at_call 59;(with_reducible refine (BB _).mono ?_);rintro e w0 ⟨rfl,rfl⟩)
  | (go_at_call 63;refine (Dg _).mono ?_;rintro e w0 ⟨rfl,hw⟩;subst hw)
  | (go_at_call 61;refine (Lt _).mono ?_;rintro e w0 ⟨rfl,hw⟩;subst hw)
  | fail)
 exact bodyPost_ret (by simp [results,Tryz.results36,go_sem]) rfl ⟨rfl,((Below.refl _ _).alloc (Nat.le_refl _) _).alloc (by simp) _⟩
set_option maxRecDepth 100000 in
set_option maxHeartbeats 1000000 in
theorem one_bad (s : Bs) (p : Nat) (x : UInt8) (r : Bs) (hl : s.drop p = x :: r) (hs : s.length ≤ 16384) (g0 : punL.contains x = false) (g1 : letL.contains x = false) (g2 : digL.contains x = false) (g3 : x ≠ 45) (g4 : x ≠ 34) (hd : List.isPrefixOf [46,46,46] (s.drop p) = false) (w : World) :
  Calls Tryz.prog 36 #[.string ⟨s.toArray⟩,.int .i64 (p : Int)] w fun e w' => e = .returned (.tuple #[tokV 0 [] 0 0,.int .i64 50]) ∧ Below w.heap.size w w':=by
 have hb:=bt_drop s p x r hl
 have hlen:=congrArg List.length hl
 rw [List.length_drop,List.length_cons] at hlen
 have hp : p < s.length:=by omega
 have hpI : (p : Int) < (s.length : Int):=by omega
 have hD : (ByteArray.mk s.toArray).size = s.length:=rfl
 have ix:=ix_of s p
 have Lt:=fun w : World => xletter_any x w
 have Dg:=fun w : World => xdigit_any x w
 rw [g1] at Lt
 rw [g2] at Dg
 have BB : ∀ w : World,Calls Tryz.prog 59 #[.string ⟨s.toArray⟩,.int .i64 (p : Int),.string ⟨#[46,46,46]⟩] w fun e w' => e = .returned (.bool false) ∧ w = w':=fun w => by
  have:=begins_any s p (by omega) hs [46,46,46] (by decide) w
  rw [hd] at this
  exact this.mono fun _ _ h => ⟨h.1,h.2.symm⟩
 rw [hb] at ix
 have hne : ∀ v : UInt8,x ≠ v → ((x.toNat : Int) == (v.toNat : Int)) = false:=fun v hv => by
  have : x.toNat ≠ v.toNat:=fun e => hv (UInt8.toNat_inj.1 e)
  simp;omega
 have hpn : ∀ v : UInt8,punL.contains v = true → x ≠ v:=fun v hv e => by rw [e,hv] at g0;cases g0
 have c45:=hne 45 g3
 have c34:=hne 34 g4
 have q1:=hne 33 (hpn 33 rfl)
 have q2:=hne 36 (hpn 36 rfl)
 have q3:=hne 38 (hpn 38 rfl)
 have q4:=hne 40 (hpn 40 rfl)
 have q5:=hne 41 (hpn 41 rfl)
 have q6:=hne 58 (hpn 58 rfl)
 have q7:=hne 61 (hpn 61 rfl)
 have q8:=hne 64 (hpn 64 rfl)
 have q9:=hne 91 (hpn 91 rfl)
 have q10:=hne 93 (hpn 93 rfl)
 have q11:=hne 123 (hpn 123 rfl)
 have q12:=hne 124 (hpn 124 rfl)
 have q13:=hne 125 (hpn 125 rfl)
 clear hb hlen hl g1 g2 g3 g4 hne hpn hd g0
 generalize (ByteArray.mk s.toArray) = D at *
 generalize (x.toNat : Int) = c at *
 simp only [show (((45 : UInt8).toNat : Nat) : Int) = 45 from rfl,show (((34 : UInt8).toNat : Nat) : Int) = 34 from rfl,show (((33 : UInt8).toNat : Nat) : Int) = 33 from rfl,show (((36 : UInt8).toNat : Nat) : Int) = 36 from rfl,show (((38 : UInt8).toNat : Nat) : Int) = 38 from rfl,show (((40 : UInt8).toNat : Nat) : Int) = 40 from rfl,show (((41 : UInt8).toNat : Nat) : Int) = 41 from rfl,show (((58 : UInt8).toNat : Nat) : Int) = 58 from rfl,show (((61 : UInt8).toNat : Nat) : Int) = 61 from rfl,show (((64 : UInt8).toNat : Nat) : Int) = 64 from rfl,show (((91 : UInt8).toNat : Nat) : Int) = 91 from rfl,show (((93 : UInt8).toNat : Nat) : Int) = 93 from rfl,show (((123 : UInt8).toNat : Nat) : Int) = 123 from rfl,show (((124 : UInt8).toNat : Nat) : Int) = 124 from rfl,show (((125 : UInt8).toNat : Nat) : Int) = 125 from rfl] at c45 c34 q1 q2 q3 q4 q5 q6 q7 q8 q9 q10 q11 q12 q13
 go_enter Tryz.func36,Tryz.ntmps36
 go_wp2_with (first
  | (go_at_call 59;(with_reducible refine (BB _).mono ?_);rintro e w0 ⟨rfl,rfl⟩)
  | (go_at_call 63;(with_reducible refine (Dg _).mono ?_);rintro e w0 ⟨rfl,hw⟩;subst hw)
  | (go_at_call 61;(with_reducible refine (Lt _).mono ?_);rintro e w0 ⟨rfl,hw⟩;subst hw)
  | fail)
 exact bodyPost_ret (by simp [results,Tryz.results36,go_sem]) rfl ⟨rfl,((Below.refl _ _).alloc (Nat.le_refl _) _).alloc (by simp) _⟩
set_option maxRecDepth 100000 in
set_option maxHeartbeats 1000000 in
theorem one_num (s : Bs) (p : Nat) (x : UInt8) (r : Bs) (hl : s.drop p = x :: r) (hs : s.length ≤ 16384) (hx : x = 45 ∨ digL.contains x = true) (w : World) :
  Calls Tryz.prog 36 #[.string ⟨s.toArray⟩,.int .i64 (p : Int)] w fun e w' => e = .returned (.tuple #[(match numS (s.drop p) with | some q => (tokV q.1 (ahead (s.drop p) q.2) p (s.length - q.2.length),Value.int .i64 0) | none => (tokV 0 [] 0 0,Value.int .i64 51)).1,(match numS (s.drop p) with | some q => (tokV q.1 (ahead (s.drop p) q.2) p (s.length - q.2.length),Value.int .i64 0) | none => (tokV 0 [] 0 0,Value.int .i64 51)).2]) ∧ Below w.heap.size w w':=by
 have hb:=bt_drop s p x r hl
 have hlen:=congrArg List.length hl
 rw [List.length_drop,List.length_cons] at hlen
 have hp : p < s.length:=by omega
 have hpI : (p : Int) < (s.length : Int):=by omega
 have hD : (ByteArray.mk s.toArray).size = s.length:=rfl
 have ix:=ix_of s p
 have g1 : letL.contains x = false:=by
  rcases hx with rfl | hx
  ·rfl
  ·rw [let_is]
   rw [dig_is] at hx
   simp at hx ⊢
   omega
 have Lt:=fun w : World => xletter_any x w
 have Dg:=fun w : World => xdigit_any x w
 rw [g1] at Lt
 have N:=fun w => xnumber_any s p hp hs w
 rw [hb] at ix
 have hx2 : ((x.toNat : Int) == 45) = true ∨ (((x.toNat : Int) == 45) = false ∧ digL.contains x = true):=by
  rcases hx with rfl | hx
  ·left;rfl
  ·right
   refine ⟨?_,hx⟩
   rw [dig_is] at hx
   simp at hx ⊢
   omega
 cases hn : numS (s.drop p) with
 | none =>
  rw [hn] at N
  clear hb hl hx hn g1
  generalize (ByteArray.mk s.toArray) = D at *
  generalize digL.contains x = dB at *
  generalize (x.toNat : Int) = c at *
  rcases hx2 with h45 | ⟨h45,hd⟩
  all_goals
   try subst hd
   go_enter Tryz.func36,Tryz.ntmps36
   go_wp2_with (first
    | (go_at_call 64;(with_reducible refine (N _).mono ?_);rintro e w0 ⟨⟨a,b,rfl⟩,hw⟩;subst hw)
    | (go_at_call 63;(with_reducible refine (Dg _).mono ?_);rintro e w0 ⟨rfl,hw⟩;subst hw)
    | (go_at_call 61;(with_reducible refine (Lt _).mono ?_);rintro e w0 ⟨rfl,hw⟩;subst hw)
    | fail)
   exact bodyPost_ret (by simp [results,Tryz.results36,go_sem]) rfl ⟨rfl,((Below.refl _ _).alloc (Nat.le_refl _) _).alloc (by simp) _⟩
 | some q =>
  rw [hn] at N
  obtain ⟨k,m⟩:=q
  obtain ⟨hsuf,hlt⟩:=numS_facts hn
  have hsuf2 : m <:+ s:=hsuf.trans (List.drop_suffix _ _)
  have hml : m.length < s.length - p:=by have:=hlt;rw [List.length_drop] at this;exact this
  have hE1 : (p : Int) ≤ ((s.length - m.length : Nat) : Int):=by omega
  have hE2 : ((s.length - m.length : Nat) : Int) ≤ (s.length : Int):=by omega
  have hext : (ByteArray.mk s.toArray).extract p (s.length - m.length) = ⟨(ahead (s.drop p) m).toArray⟩:=by
   have:=cut_ahead (List.drop_suffix p s) hsuf
   rw [List.length_drop,show s.length - (s.length - p) = p by omega] at this
   exact this
  clear hb hl hx hn g1 hsuf hsuf2 hlt
  simp only
  generalize ahead (s.drop p) m = TX at *
  simp only at N
  generalize s.length - m.length = E at *
  generalize (ByteArray.mk s.toArray) = D at *
  generalize digL.contains x = dB at *
  generalize (x.toNat : Int) = c at *
  rcases hx2 with h45 | ⟨h45,hd⟩
  all_goals
   try subst hd
   go_enter Tryz.func36,Tryz.ntmps36
   go_wp2_with (first
    | (go_at_call 64;(with_reducible refine (N _).mono ?_);rintro e w0 ⟨rfl,hw⟩;subst hw)
    | (go_at_call 63;(with_reducible refine (Dg _).mono ?_);rintro e w0 ⟨rfl,hw⟩;subst hw)
    | (go_at_call 61;(with_reducible refine (Lt _).mono ?_);rintro e w0 ⟨rfl,hw⟩;subst hw)
    | fail)
   exact bodyPost_ret (by simp [results,Tryz.results36,go_sem]) rfl ⟨rfl,((Below.refl _ _).alloc (Nat.le_refl _) _).alloc (by simp) _⟩
end
section
open Go Go.RowKit
attribute [local irreducible] srcB
def nmL : Bs:=letL ++ digL
def nmN (l : Bs) : Nat:=(l.takeWhile fun c => nmL.contains c).length
theorem span_nm (l : Bs) : spanR nmL l = l.drop (nmN l):=by
 induction l with
 | nil => rfl
 | cons c l ih =>
  unfold spanR nmN
  by_cases h : nmL.contains c = true
  ·rw [if_pos h,ih,List.takeWhile_cons_of_pos (by exact h)]
   rfl
  ·rw [if_neg h,List.takeWhile_cons_of_neg (by exact h)]
   rfl
theorem nm_at (l : Bs) : ∀ k,k ≤ nmN l → nmL.contains (l.getD k 0) = decide (k < nmN l):=by
 induction l with
 | nil =>
  intro k hk
  have : k = 0:=by simpa [nmN] using hk
  subst this
  rfl
 | cons c l ih =>
  intro k hk
  by_cases h : nmL.contains c = true
  ·have e : nmN (c :: l) = nmN l + 1:=by
    unfold nmN
    rw [List.takeWhile_cons_of_pos (by exact h)]
    rfl
   rw [e] at hk ⊢
   cases k with
   | zero =>
    show nmL.contains c = _
    rw [h]
    simp
   | succ k =>
    show nmL.contains (l.getD k 0) = _
    rw [ih k (by omega)]
    simp
  ·have e : nmN (c :: l) = 0:=by
    unfold nmN
    rw [List.takeWhile_cons_of_neg (by exact h)]
    rfl
   rw [e] at hk ⊢
   obtain rfl : k = 0:=by omega
   show nmL.contains c = _
   simpa using h
theorem nm_le (l : Bs) : nmN l ≤ l.length:=(List.takeWhile_sublist _).length_le
theorem nm_or (x : UInt8) : nmL.contains x = (letL.contains x || digL.contains x):=by
 rw [Bool.eq_iff_iff,Bool.or_eq_true,List.contains_iff_mem,List.contains_iff_mem,List.contains_iff_mem]
 exact List.mem_append
def eOf (B : Nat) (w : World) : Int:=match w.cell? ⟨B,3,none⟩ with
 | some (.int _ z) => z
 | _ => 0
theorem eOf_new (w : World) (A : Obj) (k p e : Int) (t : ByteArray) : eOf (w.heap.size + 1) ((w.alloc A).alloc (.cells #[.int .i64 k,.string t,.int .i64 p,.int .i64 e] 43)) = e:=by
 have h:=cell_new (w.alloc A) #[.int .i64 k,.string t,.int .i64 p,.int .i64 e] 43 3
 rw [Addr.add_lit,Nat.zero_add,World.size_alloc] at h
 unfold eOf
 rw [h]
 rfl
abbrev tkO (k : Int) (t : ByteArray) (p e : Int) : Obj:=.cells #[.int .i64 k,.string t,.int .i64 p,.int .i64 e] 43
set_option maxRecDepth 100000 in
set_option maxHeartbeats 2000000 in
theorem one_name (s : Bs) (p : Nat) (x : UInt8) (r : Bs) (hl : s.drop p = x :: r) (hs : s.length ≤ 16384) (hx : letL.contains x = true) (w : World) :
  Calls Tryz.prog 36 #[.string ⟨s.toArray⟩,.int .i64 (p : Int)] w fun e w' => e = .returned (.tuple #[tokV 1 ((s.drop p).take (1 + nmN r)) p (p + 1 + nmN r),.int .i64 0]) ∧ Below w.heap.size w w':=by
 have hb:=bt_drop s p x r hl
 have hlen:=congrArg List.length hl
 rw [List.length_drop,List.length_cons] at hlen
 have hr : s.drop (p + 1) = r:=by
  have:=congrArg (List.drop 1) hl
  rw [List.drop_drop] at this
  exact this
 have hp : p < s.length:=by omega
 have hpI : (p : Int) < (s.length : Int):=by omega
 have hD : (ByteArray.mk s.toArray).size = s.length:=rfl
 have ix:=ix_of s p
 rw [hb] at ix
 have Lt:=fun w : World => xletter_any x w
 rw [hx] at Lt
 have hnat:=nm_at r
 have hnle:=nm_le r
 have hext:=ext_mk s p (1 + nmN r)
 rw [show p + (1 + nmN r) = p + 1 + nmN r by omega] at hext
 have hk : ∀ k,k ≤ nmN r → (letL.contains (s.getD (p + 1 + k) 0) || digL.contains (s.getD (p + 1 + k) 0)) = decide (k < nmN r):=fun k hk => by
  rw [← nm_or,← hnat k hk,← hr,drop_get]
 have A:=fun k w => xat_any s (by omega) k w
 have hE1 : (p : Int) ≤ ((p + 1 + nmN r : Nat) : Int):=by omega
 have hE2 : ((p + 1 + nmN r : Nat) : Int) ≤ (s.length : Int):=by omega
 clear hb hl hr hnat hx
 generalize nmN r = M at *
 generalize (s.drop p).take (1 + M) = TX at *
 generalize (ByteArray.mk s.toArray) = D at *
 generalize (x.toNat : Int) = c at *
 go_enter Tryz.func36,Tryz.ntmps36
 go_wp2_with (first
  | (go_at_call 61;(with_reducible refine (Lt _).mono ?_);rintro e w0 ⟨rfl,hw⟩;subst hw)
  | fail)
 go_loopw [] (fun wr => ∃ k : Nat,k ≤ M ∧ wr = (w.alloc (tkO 0 ⟨#[]⟩ 0 0)).alloc (tkO 1 ⟨#[]⟩ (p : Int) ((p + 1 + k : Nat) : Int))) (fun wr => (p + 2 + M) - (eOf (w.heap.size + 1) wr).toNat)
 case atStart => exact ⟨0,Nat.zero_le _,rfl⟩
 case round =>
  obtain ⟨k,hkM,rfl⟩:=hrel
  have A1:=A (p + 1 + k)
  have hor:=hk k hkM
  have L1:=fun w : World => xletter_any (s.getD (p + 1 + k) 0) w
  have D1:=fun w : World => xdigit_any (s.getD (p + 1 + k) 0) w
  have hkS : p + 1 + k ≤ s.length:=by omega
  clear A hk
  generalize ((s.getD (p + 1 + k) 0).toNat : Int) = d at *
  generalize letL.contains (s.getD (p + 1 + k) 0) = lB at *
  generalize digL.contains (s.getD (p + 1 + k) 0) = dB at *
  by_cases hlt : k < M
  ·rw [decide_eq_true hlt] at hor
   have hnx : Hid (((p + 1 + k : Nat) : Int) + 1 = ((p + 1 + (k + 1) : Nat) : Int)):=by show _ = _;omega
   have hpk : ((p + 1 + k : Nat) : Int) ≤ 20000:=by omega
   generalize hJ : p + 1 + k = J at *
   have HJ : Hid (p + 1 + k = J):=hJ
   clear hJ
   cases lB
   ·cases dB
    ·cases hor
    ·go_wp2_with (first
      | (go_at_call 63;(with_reducible refine (D1 _).mono ?_);rintro e w0 ⟨rfl,hw⟩;subst hw)
      | (go_at_call 61;(with_reducible refine (L1 _).mono ?_);rintro e w0 ⟨rfl,hw⟩;subst hw)
      | (go_at_call 62;(with_reducible refine (A1 _).mono ?_);rintro e w1 ⟨rfl,rfl⟩)
      | fail)
     refine ⟨⟨k + 1,by omega,by rw [hnx.out]⟩,?_⟩
     have hj:=HJ.out
     rw [eOf_new,eOf_new]
     omega
   ·go_wp2_with (first
     | (go_at_call 61;(with_reducible refine (L1 _).mono ?_);rintro e w0 ⟨rfl,hw⟩;subst hw)
     | (go_at_call 62;(with_reducible refine (A1 _).mono ?_);rintro e w1 ⟨rfl,rfl⟩)
     | fail)
    refine ⟨⟨k + 1,by omega,by rw [hnx.out]⟩,?_⟩
    have hj:=HJ.out
    rw [eOf_new,eOf_new]
    omega
  ·rw [decide_eq_false hlt] at hor
   obtain rfl : k = M:=by omega
   cases lB
   ·cases dB
    ·generalize hJ : p + 1 + k = J at *
     have HJ : Hid (p + 1 + k = J):=hJ
     clear hJ
     go_wp2_with (first
      | (go_at_call 63;(with_reducible refine (D1 _).mono ?_);rintro e w0 ⟨rfl,hw⟩;subst hw)
      | (go_at_call 61;(with_reducible refine (L1 _).mono ?_);rintro e w0 ⟨rfl,hw⟩;subst hw)
      | (go_at_call 62;(with_reducible refine (A1 _).mono ?_);rintro e w1 ⟨rfl,rfl⟩)
      | fail)
     exact bodyPost_ret (by simp [results,Tryz.results36,go_sem];have:=HJ.out;omega) rfl ⟨rfl,((Below.refl _ _).alloc (Nat.le_refl _) _).alloc (by simp) _⟩
    ·cases hor
   ·cases hor
end
section
open Go Go.RowKit
attribute [local irreducible] srcB
structure Two (w w3 : World) (k p e : Int) : Prop where
 bel : Below w.heap.size w w3
 r0 : w3.heap[w.heap.size]? = some (.cells #[.int .i64 0,.string ⟨#[]⟩,.int .i64 0,.int .i64 0] 43 (0,0))
 r1 : w3.heap[w.heap.size + 1]? = some (.cells #[.int .i64 k,.string ⟨#[]⟩,.int .i64 p,.int .i64 e] 43 (0,0))
theorem two_of {w w3 : World} {k p e : Int} (h : Below ((w.alloc (tkO 0 ⟨#[]⟩ 0 0)).alloc (tkO k ⟨#[]⟩ p e)).heap.size ((w.alloc (tkO 0 ⟨#[]⟩ 0 0)).alloc (tkO k ⟨#[]⟩ p e)) w3) : Two w w3 k p e:=by
 have hb : Below w.heap.size w ((w.alloc (tkO 0 ⟨#[]⟩ 0 0)).alloc (tkO k ⟨#[]⟩ p e)):=((Below.refl _ _).alloc (Nat.le_refl _) _).alloc (by simp) _
 refine ⟨hb.trans (h.mono (by simp;omega)),?_,?_⟩
 ·rw [h.block _ (by simp;omega),Below.heap_alloc _ _ _ (by simp)]
  exact heap_alloc_new w _
 ·rw [h.block _ (by simp)]
  have:=heap_alloc_new (w.alloc (tkO 0 ⟨#[]⟩ 0 0)) (tkO k ⟨#[]⟩ p e)
  rw [World.size_alloc] at this
  exact this
theorem Two.c0 {w w3 : World} {k p e : Int} (h : Two w w3 k p e) (i : Nat) : w3.cell? ⟨w.heap.size,i,none⟩ = (#[Value.int .i64 0,.string ⟨#[]⟩,.int .i64 0,.int .i64 0] : Array Value)[i]?:=by simp [World.cell?,h.r0]
theorem Two.c1 {w w3 : World} {k p e : Int} (h : Two w w3 k p e) (i : Nat) : w3.cell? ⟨w.heap.size + 1,i,none⟩ = (#[Value.int .i64 k,.string ⟨#[]⟩,.int .i64 p,.int .i64 e] : Array Value)[i]?:=by simp [World.cell?,h.r1]
theorem Two.f0 {w w3 : World} {k p e : Int} (h : Two w w3 k p e) (i : Nat) : w3.frozen? ⟨w.heap.size,i,none⟩ = false:=frozen_of_row w3 _ i _ _ h.r0
theorem Two.f1 {w w3 : World} {k p e : Int} (h : Two w w3 k p e) (i : Nat) : w3.frozen? ⟨w.heap.size + 1,i,none⟩ = false:=frozen_of_row w3 _ i _ _ h.r1
theorem Two.next {w w3 w4 : World} {k p e : Int} (h : Two w w3 k p e) (h4 : Below w3.heap.size w3 w4) : Two w w4 k p e:=by
 have s0 : w.heap.size < w3.heap.size:=(Array.getElem?_eq_some_iff.1 h.r0).1
 have s1 : w.heap.size + 1 < w3.heap.size:=(Array.getElem?_eq_some_iff.1 h.r1).1
 exact ⟨h.bel.trans (h4.mono (by omega)),(h4.block _ s0).trans h.r0,(h4.block _ s1).trans h.r1⟩
structure OutX (w w5 : World) (c0 c1 c2 c3 : Value) : Prop where
 bel : Below w.heap.size w w5
 row : w5.heap[w.heap.size]? = some (.cells #[c0,c1,c2,c3] 43 (0,0))
theorem OutX.c {w w5 : World} {c0 c1 c2 c3 : Value} (h : OutX w w5 c0 c1 c2 c3) (i : Nat) : w5.cell? ⟨w.heap.size,i,none⟩ = (#[c0,c1,c2,c3] : Array Value)[i]?:=by simp [World.cell?,h.row]
theorem Two.out {w w3 : World} {k p e : Int} (h : Two w w3 k p e) (a b c0 c1 c2 c3 : Value) : OutX w ((((((w3.setCell ⟨w.heap.size + 1,1,none⟩ a).setCell ⟨w.heap.size + 1,3,none⟩ b).setCell ⟨w.heap.size,0,none⟩ c0).setCell ⟨w.heap.size,1,none⟩ c1).setCell ⟨w.heap.size,2,none⟩ c2).setCell ⟨w.heap.size,3,none⟩ c3) c0 c1 c2 c3:=by
 refine ⟨((((((h.bel.setCell (by simp) _).setCell (by simp) _).setCell (by simp) _).setCell (by simp) _).setCell (by simp) _).setCell (by simp) _),?_⟩
 simp [World.setCell,Array.getElem?_modify,h.r0]
theorem out_gen {P : Program} {F : _} {Q : Ending → World → Prop} {x : Exit} {A : Act} {w w5 : World} {c0 c1 c2 c3 : Value} (z : OutX w w5 c0 c1 c2 c3) (h : ∀ w6,OutX w w6 c0 c1 c2 c3 → bodyPost P F Q x A w6) : bodyPost P F Q x A w5:=h _ z
set_option maxRecDepth 100000 in
set_option maxHeartbeats 2000000 in
theorem one_text (s : Bs) (p : Nat) (r : Bs) (hl : s.drop p = 34 :: r) (hs : s.length ≤ 16384) (hq : List.isPrefixOf [34,34,34] (s.drop p) = false) (t : Bs) (e : Nat) (hxl : xl s (p + 1) = some (t,e)) (w : World) :
  Calls Tryz.prog 36 #[.string ⟨s.toArray⟩,.int .i64 (p : Int)] w fun e' w' => e' = .returned (.tuple #[tokV 4 t p e,.int .i64 0]) ∧ Below w.heap.size w w':=by
 have hb:=bt_drop s p 34 r hl
 have hlen:=congrArg List.length hl
 rw [List.length_drop,List.length_cons] at hlen
 have hp : p < s.length:=by omega
 have hpI : (p : Int) < (s.length : Int):=by omega
 have hD : (ByteArray.mk s.toArray).size = s.length:=rfl
 have ix:=ix_of s p
 rw [hb] at ix
 have Lt:=fun w : World => xletter_any 34 w
 have Dg:=fun w : World => xdigit_any 34 w
 rw [show letL.contains 34 = false from rfl] at Lt
 rw [show digL.contains 34 = false from rfl] at Dg
 have BB : ∀ w : World,Calls Tryz.prog 59 #[.string ⟨s.toArray⟩,.int .i64 (p : Int),.string ⟨#[34,34,34]⟩] w fun e w' => e = .returned (.bool false) ∧ w = w':=fun w => by
  have:=begins_any s p (by omega) hs [34,34,34] (by decide) w
  rw [hq] at this
  exact this.mono fun _ _ h => ⟨h.1,h.2.symm⟩
 have X : ∀ w,Calls Tryz.prog 67 #[.string ⟨s.toArray⟩,.int .i64 (p : Int)] w fun e' w' => e' = .returned (.tuple #[.string ⟨t.toArray⟩,.int .i64 (e : Int),.bool true]) ∧ Below w.heap.size w w':=fun w =>
  xtext_any (fun e' => e' = .returned (.tuple #[.string ⟨t.toArray⟩,.int .i64 (e : Int),.bool true])) s p hp hs (fun t' e' h => by rw [hxl] at h;cases h;rfl) (fun h => by rw [hxl] at h;cases h) w
 clear hb hl hlen hq hxl
 generalize (ByteArray.mk s.toArray) = D at *
 generalize hTB : (ByteArray.mk t.toArray) = TB at *
 go_enter Tryz.func36,Tryz.ntmps36
 go_wp2_with (first
  | (go_at_call 67;(with_reducible refine (X _).mono ?_);rintro e' w3 ⟨rfl,hb3⟩;have h2:=two_of hb3;have k0:=h2.c1 0;have k1:=h2.c1 1;have k2:=h2.c1 2;have k3:=h2.c1 3;have g0:=h2.f1 0;have g1:=h2.f1 1;have g2:=h2.f1 2;have g3:=h2.f1 3;have j0:=h2.f0 0;have j1:=h2.f0 1;have j2:=h2.f0 2;have j3:=h2.f0 3;have m0:=h2.c0 0;have m1:=h2.c0 1;have m2:=h2.c0 2;have m3:=h2.c0 3)
  | (go_at_call 59;(with_reducible refine (BB _).mono ?_);rintro e w0 ⟨rfl,rfl⟩)
  | (go_at_call 63;refine (Dg _).mono ?_;rintro e w0 ⟨rfl,hw⟩;subst hw)
  | (go_at_call 61;refine (Lt _).mono ?_;rintro e w0 ⟨rfl,hw⟩;subst hw)
  | fail)
 refine out_gen (h2.out _ _ _ _ _ _) ?_
 intro w6 z
 have z0:=z.c 0
 have z1:=z.c 1
 have z2:=z.c 2
 have z3:=z.c 3
 exact bodyPost_ret (by simp [results,Tryz.results36,go_sem,z0,z1,z2,z3,hTB]) rfl ⟨rfl,z.bel⟩
set_option maxRecDepth 100000 in
set_option maxHeartbeats 2000000 in
theorem one_text_no (s : Bs) (p : Nat) (r : Bs) (hl : s.drop p = 34 :: r) (hs : s.length ≤ 16384) (hq : List.isPrefixOf [34,34,34] (s.drop p) = false) (hxl : xl s (p + 1) = none) (w : World) :
  Calls Tryz.prog 36 #[.string ⟨s.toArray⟩,.int .i64 (p : Int)] w fun e' w' => e' = .returned (.tuple #[tokV 0 [] 0 0,.int .i64 52]) ∧ Below w.heap.size w w':=by
 have hb:=bt_drop s p 34 r hl
 have hlen:=congrArg List.length hl
 rw [List.length_drop,List.length_cons] at hlen
 have hp : p < s.length:=by omega
 have hpI : (p : Int) < (s.length : Int):=by omega
 have hD : (ByteArray.mk s.toArray).size = s.length:=rfl
 have ix:=ix_of s p
 rw [hb] at ix
 have Lt:=fun w : World => xletter_any 34 w
 have Dg:=fun w : World => xdigit_any 34 w
 rw [show letL.contains 34 = false from rfl] at Lt
 rw [show digL.contains 34 = false from rfl] at Dg
 have BB : ∀ w : World,Calls Tryz.prog 59 #[.string ⟨s.toArray⟩,.int .i64 (p : Int),.string ⟨#[34,34,34]⟩] w fun e w' => e = .returned (.bool false) ∧ w = w':=fun w => by
  have:=begins_any s p (by omega) hs [34,34,34] (by decide) w
  rw [hq] at this
  exact this.mono fun _ _ h => ⟨h.1,h.2.symm⟩
 have X : ∀ w,Calls Tryz.prog 67 #[.string ⟨s.toArray⟩,.int .i64 (p : Int)] w fun e' w' => (∃ a b,e' = .returned (.tuple #[.string a,.int .i64 b,.bool false])) ∧ Below w.heap.size w w':=fun w =>
  xtext_any (fun e' => ∃ a b,e' = .returned (.tuple #[.string a,.int .i64 b,.bool false])) s p hp hs (fun t' e' h => by rw [hxl] at h;cases h) (fun _ a b => ⟨a,b,rfl⟩) w
 clear hb hl hlen hq hxl
 generalize (ByteArray.mk s.toArray) = D at *
 go_enter Tryz.func36,Tryz.ntmps36
 go_wp2_with (first
  | (go_at_call 67;(with_reducible refine (X _).mono ?_);rintro e' w3 ⟨⟨ta,tb,rfl⟩,hb3⟩;have h2:=two_of hb3;have k0:=h2.c1 0;have k1:=h2.c1 1;have k2:=h2.c1 2;have k3:=h2.c1 3;have g0:=h2.f1 0;have g1:=h2.f1 1;have g2:=h2.f1 2;have g3:=h2.f1 3;have j0:=h2.f0 0;have j1:=h2.f0 1;have j2:=h2.f0 2;have j3:=h2.f0 3;have m0:=h2.c0 0;have m1:=h2.c0 1;have m2:=h2.c0 2;have m3:=h2.c0 3)
  | (go_at_call 59;(with_reducible refine (BB _).mono ?_);rintro e w0 ⟨rfl,rfl⟩)
  | (go_at_call 63;refine (Dg _).mono ?_;rintro e w0 ⟨rfl,hw⟩;subst hw)
  | (go_at_call 61;refine (Lt _).mono ?_;rintro e w0 ⟨rfl,hw⟩;subst hw)
  | fail)
 refine out_gen (h2.out _ _ _ _ _ _) ?_
 intro w6 z
 have z0:=z.c 0
 have z1:=z.c 1
 have z2:=z.c 2
 have z3:=z.c 3
 exact bodyPost_ret (by simp [results,Tryz.results36,go_sem,z0,z1,z2,z3]) rfl ⟨rfl,z.bel⟩
set_option maxRecDepth 100000 in
set_option maxHeartbeats 2000000 in
theorem one_block (s : Bs) (p : Nat) (r : Bs) (hl : s.drop p = 34 :: r) (hs : s.length ≤ 16384) (hq : List.isPrefixOf [34,34,34] (s.drop p) = true) (t : Bs) (e : Nat) (hxl : xr s (p + 3) = some (t,e)) (ht : t.length ≤ 16384) (w : World) :
  Calls Tryz.prog 36 #[.string ⟨s.toArray⟩,.int .i64 (p : Int)] w fun e' w' => e' = .returned (.tuple #[tokV 4 (blockS t) p e,.int .i64 0]) ∧ Below w.heap.size w w':=by
 have hb:=bt_drop s p 34 r hl
 have hlen:=congrArg List.length hl
 rw [List.length_drop,List.length_cons] at hlen
 have hp : p < s.length:=by omega
 have hpI : (p : Int) < (s.length : Int):=by omega
 have hD : (ByteArray.mk s.toArray).size = s.length:=rfl
 have ix:=ix_of s p
 rw [hb] at ix
 have Lt:=fun w : World => xletter_any 34 w
 have Dg:=fun w : World => xdigit_any 34 w
 rw [show letL.contains 34 = false from rfl] at Lt
 rw [show digL.contains 34 = false from rfl] at Dg
 have BB : ∀ w : World,Calls Tryz.prog 59 #[.string ⟨s.toArray⟩,.int .i64 (p : Int),.string ⟨#[34,34,34]⟩] w fun e w' => e = .returned (.bool true) ∧ w = w':=fun w => by
  have:=begins_any s p (by omega) hs [34,34,34] (by decide) w
  rw [hq] at this
  exact this.mono fun _ _ h => ⟨h.1,h.2.symm⟩
 have hp3 : p + 3 ≤ s.length:=by have:=(List.isPrefixOf_iff_prefix.1 hq).length_le;simp only [List.length_cons,List.length_nil,List.length_drop] at this;omega
 have X : ∀ w,Calls Tryz.prog 65 #[.string ⟨s.toArray⟩,.int .i64 (p : Int)] w fun e' w' => e' = .returned (.tuple #[.string ⟨t.toArray⟩,.int .i64 (e : Int),.bool true]) ∧ Below w.heap.size w w':=fun w =>
  xraw_any (fun e' => e' = .returned (.tuple #[.string ⟨t.toArray⟩,.int .i64 (e : Int),.bool true])) s p hp3 hs (fun t' e' h => by rw [hxl] at h;cases h;rfl) (fun h => by rw [hxl] at h;cases h) w
 have Y:=fun w : World => xblock_any t (by omega) w
 clear hb hl hlen hq hxl
 generalize (ByteArray.mk s.toArray) = D at *
 generalize (ByteArray.mk t.toArray) = TB at *
 go_enter Tryz.func36,Tryz.ntmps36
 go_wp2_with (first
  | (go_at_call 65;(with_reducible refine (X _).mono ?_);rintro e' w3 ⟨rfl,hb3⟩;have h1:=two_of hb3)
  | (go_at_call 66;(with_reducible refine (Y _).mono ?_);rintro e' w4 ⟨rfl,hb4⟩;have h2:=h1.next hb4;have k0:=h2.c1 0;have k1:=h2.c1 1;have k2:=h2.c1 2;have k3:=h2.c1 3;have g0:=h2.f1 0;have g1:=h2.f1 1;have g2:=h2.f1 2;have g3:=h2.f1 3;have j0:=h2.f0 0;have j1:=h2.f0 1;have j2:=h2.f0 2;have j3:=h2.f0 3;have m0:=h2.c0 0;have m1:=h2.c0 1;have m2:=h2.c0 2;have m3:=h2.c0 3)
  | (go_at_call 59;(with_reducible refine (BB _).mono ?_);rintro e w0 ⟨rfl,rfl⟩)
  | (go_at_call 63;refine (Dg _).mono ?_;rintro e w0 ⟨rfl,hw⟩;subst hw)
  | (go_at_call 61;refine (Lt _).mono ?_;rintro e w0 ⟨rfl,hw⟩;subst hw)
  | fail)
 refine out_gen (h2.out _ _ _ _ _ _) ?_
 intro w6 z
 have z0:=z.c 0
 have z1:=z.c 1
 have z2:=z.c 2
 have z3:=z.c 3
 exact bodyPost_ret (by simp [results,Tryz.results36,go_sem,z0,z1,z2,z3]) rfl ⟨rfl,z.bel⟩
set_option maxRecDepth 100000 in
set_option maxHeartbeats 2000000 in
theorem one_block_no (s : Bs) (p : Nat) (r : Bs) (hl : s.drop p = 34 :: r) (hs : s.length ≤ 16384) (hq : List.isPrefixOf [34,34,34] (s.drop p) = true) (hxl : xr s (p + 3) = none) (w : World) :
  Calls Tryz.prog 36 #[.string ⟨s.toArray⟩,.int .i64 (p : Int)] w fun e' w' => e' = .returned (.tuple #[tokV 0 [] 0 0,.int .i64 52]) ∧ Below w.heap.size w w':=by
 have hb:=bt_drop s p 34 r hl
 have hlen:=congrArg List.length hl
 rw [List.length_drop,List.length_cons] at hlen
 have hp : p < s.length:=by omega
 have hpI : (p : Int) < (s.length : Int):=by omega
 have hD : (ByteArray.mk s.toArray).size = s.length:=rfl
 have ix:=ix_of s p
 rw [hb] at ix
 have Lt:=fun w : World => xletter_any 34 w
 have Dg:=fun w : World => xdigit_any 34 w
 rw [show letL.contains 34 = false from rfl] at Lt
 rw [show digL.contains 34 = false from rfl] at Dg
 have BB : ∀ w : World,Calls Tryz.prog 59 #[.string ⟨s.toArray⟩,.int .i64 (p : Int),.string ⟨#[34,34,34]⟩] w fun e w' => e = .returned (.bool true) ∧ w = w':=fun w => by
  have:=begins_any s p (by omega) hs [34,34,34] (by decide) w
  rw [hq] at this
  exact this.mono fun _ _ h => ⟨h.1,h.2.symm⟩
 have hp3 : p + 3 ≤ s.length:=by have:=(List.isPrefixOf_iff_prefix.1 hq).length_le;simp only [List.length_cons,List.length_nil,List.length_drop] at this;omega
 have X : ∀ w,Calls Tryz.prog 65 #[.string ⟨s.toArray⟩,.int .i64 (p : Int)] w fun e' w' => (∃ b,e' = .returned (.tuple #[.string ⟨#[]⟩,.int .i64 b,.bool false])) ∧ Below w.heap.size w w':=fun w =>
  xraw_any (fun e' => ∃ b,e' = .returned (.tuple #[.string ⟨#[]⟩,.int .i64 b,.bool false])) s p hp3 hs (fun t' e' h => by rw [hxl] at h;cases h) (fun _ b => ⟨b,rfl⟩) w
 have Y:=fun w : World => xblock_any [] (by simp) w
 clear hb hl hlen hq hxl
 generalize (ByteArray.mk s.toArray) = D at *
 go_enter Tryz.func36,Tryz.ntmps36
 go_wp2_with (first
  | (go_at_call 65;(with_reducible refine (X _).mono ?_);rintro e' w3 ⟨⟨tb,rfl⟩,hb3⟩;have h1:=two_of hb3)
  | (go_at_call 66;(with_reducible refine (Y _).mono ?_);rintro e' w4 ⟨rfl,hb4⟩;have h2:=h1.next hb4;have k0:=h2.c1 0;have k1:=h2.c1 1;have k2:=h2.c1 2;have k3:=h2.c1 3;have g0:=h2.f1 0;have g1:=h2.f1 1;have g2:=h2.f1 2;have g3:=h2.f1 3;have j0:=h2.f0 0;have j1:=h2.f0 1;have j2:=h2.f0 2;have j3:=h2.f0 3;have m0:=h2.c0 0;have m1:=h2.c0 1;have m2:=h2.c0 2;have m3:=h2.c0 3)
  | (go_at_call 59;(with_reducible refine (BB _).mono ?_);rintro e w0 ⟨rfl,rfl⟩)
  | (go_at_call 63;refine (Dg _).mono ?_;rintro e w0 ⟨rfl,hw⟩;subst hw)
  | (go_at_call 61;refine (Lt _).mono ?_;rintro e w0 ⟨rfl,hw⟩;subst hw)
  | fail)
 refine out_gen (h2.out _ _ _ _ _ _) ?_
 intro w6 z
 have z0:=z.c 0
 have z1:=z.c 1
 have z2:=z.c 2
 have z3:=z.c 3
 exact bodyPost_ret (by simp [results,Tryz.results36,go_sem,z0,z1,z2,z3]) rfl ⟨rfl,z.bel⟩
end
section
open Go Go.RowKit
attribute [local irreducible] srcB unitS
theorem xlF_le (s : Bs) : ∀ (n i : Nat) (t : Bs) (e : Nat),xlF s n i = some (t,e) → e ≤ s.length:=by
 intro n
 induction n with
 | zero => intro i t e h;cases h
 | succ n ih =>
  intro i t e h
  unfold xlF at h
  cases hs : srcC s i with
  | none => rw [hs] at h;cases h
  | some k =>
   rw [hs] at h
   have hH:=hs
   rw [srcC_H] at hH
   obtain ⟨k1,k2,_,_⟩:=srcH_facts hH
   rw [List.length_drop] at k2
   simp only at h
   split at h
   ·cases h
   ·split at h
    ·cases h;omega
    ·split at h
     ·split at h
      ·cases h
      ·obtain ⟨q,hq,he⟩:=Option.map_eq_some_iff.1 h
       cases he
       exact ih _ q.1 q.2 hq
     ·obtain ⟨q,hq,he⟩:=Option.map_eq_some_iff.1 h
      cases he
      exact ih _ q.1 q.2 hq
theorem xrF_le (s : Bs) : ∀ (n i : Nat) (t : Bs) (e : Nat),xrF s n i = some (t,e) → e ≤ s.length:=by
 intro n
 induction n with
 | zero => intro i t e h;cases h
 | succ n ih =>
  intro i t e h
  unfold xrF at h
  by_cases h4 : List.isPrefixOf [92,34,34,34] (s.drop i) = true
  ·rw [if_pos h4] at h
   obtain ⟨q,hq,he⟩:=Option.map_eq_some_iff.1 h
   cases he
   exact ih _ q.1 q.2 hq
  ·rw [if_neg h4] at h
   by_cases h3 : List.isPrefixOf [34,34,34] (s.drop i) = true
   ·rw [if_pos h3] at h
    have:=(pre_pos h3).resolve_right (by simp)
    cases h
    simpa using this
   ·rw [if_neg h3] at h
    cases hs : srcC s i with
    | none => rw [hs] at h;cases h
    | some k =>
     rw [hs] at h
     simp only at h
     obtain ⟨q,hq,he⟩:=Option.map_eq_some_iff.1 h
     cases he
     exact ih _ q.1 q.2 hq
theorem textR_line {r : Bs} (hq : List.isPrefixOf [34,34,34] (34 :: r) = false) : textR (34 :: r) = lineS r:=by
 unfold textR
 rw [if_neg (by rw [hq];simp),List.drop_one,List.tail_cons]
 unfold lineS
 exact lineF_fuel _ _ r (by rw [List.length_cons];omega) (by omega)
theorem ahead_line {r t m : Bs} (h : lineS r = some (t,m)) : ahead (34 :: r) m = 34 :: ahead r m:=by
 have ha:=(line_ahead h).1
 conv => lhs;rw [ha]
 rw [← List.cons_append,ahead_app]
theorem cut_same {α : Type} (a b : Option Nat) (h : a = none ↔ b = none) (x : α) : (if a.isSome then none else some x) = if b.isSome then none else some x:=by
 cases a with
 | none => rw [h.1 rfl]
 | some i => cases b with
  | none => cases h.2 rfl
  | some j => rfl
theorem textS_lineC {r : Bs} (hq : List.isPrefixOf [34,34,34] (34 :: r) = false) : textS (34 :: r) = lineC r:=by
 unfold textS lineC
 rw [textR_line hq]
 cases h : lineS r with
 | none => rw [Option.bind_none,Option.bind_none]
 | some q =>
  obtain ⟨t,m⟩:=q
  rw [Option.bind_some,Option.bind_some]
  simp only
  rw [ahead_line h]
  exact cut_same _ _ (plain_iff 34 (by decide) (ahead r m)) _
theorem textS_line (s : Bs) (p : Nat) (r : Bs) (hl : s.drop p = 34 :: r) (hq : List.isPrefixOf [34,34,34] (s.drop p) = false) :
  textS (s.drop p) = (xl s (p + 1)).map fun q => (q.1,s.drop q.2):=by
 have hr : s.drop (p + 1) = r:=by rw [← List.drop_drop,hl,List.drop_one,List.tail_cons]
 rw [hl] at hq ⊢
 rw [textS_lineC hq,← hr]
 exact (xl_line s (s.length - (p + 1) + 1) (p + 1) (by omega)).symm
theorem textS_raw (s : Bs) (p : Nat) (hq : List.isPrefixOf [34,34,34] (s.drop p) = true) :
  textS (s.drop p) = (xr s (p + 3)).map fun q => (blockS q.1,s.drop q.2):=by
 obtain ⟨r,hm⟩:=List.isPrefixOf_iff_prefix.1 hq
 have hl : s.drop p = 34 :: 34 :: 34 :: r:=hm.symm
 have hr : s.drop (p + 3) = r:=by rw [← List.drop_drop,hl];rfl
 have hx:=xr_raw s (s.length - (p + 3) + 1) (p + 3) (by omega)
 rw [hr] at hx
 have hT : textR (s.drop p) = (rawS r).map fun q => (blockS q.1,q.2):=by
  unfold textR
  rw [if_pos hq,hl]
  rw [rawF_fuel _ (r.length + 1) _ (by simp;omega) (by simp)]
  rfl
 have hy : ((xr s (p + 3)).map fun q => (blockS q.1,s.drop q.2)) = (rawC r).map fun q => (blockS q.1,q.2):=by
  rw [← hx,Option.map_map]
  rfl
 rw [hy]
 unfold textS rawC
 rw [hT,hl]
 cases h : rawS r with
 | none => rfl
 | some q =>
  obtain ⟨t,m⟩:=q
  have ha:=raw_ahead h
  have hh : ahead (34 :: 34 :: 34 :: r) m = 34 :: 34 :: 34 :: ahead r m:=by
   conv => lhs;rw [ha.1]
   rw [← List.cons_append,← List.cons_append,← List.cons_append,ahead_app]
  rw [Option.map_some,Option.bind_some,Option.bind_some]
  simp only
  rw [hh]
  have:=((plain_iff 34 (by decide) (34 :: 34 :: ahead r m)).trans (plain_iff 34 (by decide) (34 :: ahead r m))).trans (plain_iff 34 (by decide) (ahead r m))
  by_cases h0 : srcB (ahead r m) = none
  ·rw [if_neg (by rw [this.2 h0];simp),if_neg (by rw [h0];simp)]
   rfl
  ·rw [if_pos (by rw [isSome_iff];exact fun h1 => h0 (this.1 h1)),if_pos (by rw [isSome_iff];exact h0)]
   rfl
theorem xr_short {s t : Bs} {i e : Nat} (h : xr s i = some (t,e)) : t.length ≤ s.length:=by
 have hx:=xr_raw s (s.length - i + 1) i (by omega)
 rw [show xrF s (s.length - i + 1) i = some (t,e) from h,Option.map_some] at hx
 unfold rawC at hx
 obtain ⟨q,hq,hb⟩:=Option.bind_eq_some_iff.1 hx.symm
 split at hb
 ·cases hb
 ·cases hb
  have:=(rawF_facts _ _ _ _ hq).2
  rw [List.length_drop] at this
  simp only at this
  omega
theorem tokS_textX (l r : Bs) (hl : l = 34 :: r) : tokS l = match textS l with | none => .bad 52 | some p => .ok 4 p.1 p.2:=by
 subst hl
 rfl
def One (s : Bs) (p : Nat) (w : World) (e : Ending) (w' : World) : Prop:=e = .returned (.tuple #[(oneV s p).1,.int .i64 (oneV s p).2]) ∧ Below w.heap.size w w'
theorem oneV_ok {s t r : Bs} {p : Nat} {k : Int} (h : tokS (s.drop p) = .ok k t r) : oneV s p = (tokV k t p (s.length - r.length),0):=by unfold oneV;rw [h]
theorem oneV_bad {s : Bs} {p : Nat} {e : Int} (h : tokS (s.drop p) = .bad e) : oneV s p = (tokV 0 [] 0 0,e):=by unfold oneV;rw [h]
theorem one_ok {s t r : Bs} {p b : Nat} {k : Int} {w : World} (h : tokS (s.drop p) = .ok k t r) (hb : b = s.length - r.length)
  (C : Calls Tryz.prog 36 #[.string ⟨s.toArray⟩,.int .i64 (p : Int)] w fun e w' => e = .returned (.tuple #[tokV k t p b,.int .i64 0]) ∧ Below w.heap.size w w') : Calls Tryz.prog 36 #[.string ⟨s.toArray⟩,.int .i64 (p : Int)] w (One s p w):=by
 refine C.mono fun e w' h' => ?_
 unfold One
 rw [oneV_ok h,← hb]
 exact h'
theorem one_err {s : Bs} {p : Nat} {x : Int} {w : World} (h : tokS (s.drop p) = .bad x)
  (C : Calls Tryz.prog 36 #[.string ⟨s.toArray⟩,.int .i64 (p : Int)] w fun e w' => e = .returned (.tuple #[tokV 0 [] 0 0,.int .i64 x]) ∧ Below w.heap.size w w') : Calls Tryz.prog 36 #[.string ⟨s.toArray⟩,.int .i64 (p : Int)] w (One s p w):=by
 refine C.mono fun e w' h' => ?_
 unfold One
 rw [oneV_bad h]
 exact h'
theorem oneS_any (s : Bs) (p : Nat) (hp : p < s.length) (hs : s.length ≤ 16384) (w : World) : Calls Tryz.prog 36 #[.string ⟨s.toArray⟩,.int .i64 (p : Int)] w (One s p w):=by
 cases hl : s.drop p with
 | nil => have:=congrArg List.length hl;rw [List.length_drop] at this;simp at this;omega
 | cons x r =>
  have hlen:=congrArg List.length hl
  rw [List.length_drop,List.length_cons] at hlen
  by_cases g0 : punL.contains x = true
  ·have ht : tokS (s.drop p) = .ok 0 [x] r:=by
    rw [hl]
    unfold tokS wrt
    rw [if_pos (show headIn punL (x :: r) = true from g0)]
    rw [show List.drop 1 (x :: r) = r from rfl,show x :: r = [x] ++ r from rfl,ahead_app]
   exact one_ok ht (by omega) (one_pun s p x r hl hs g0 w)
  ·have g0' : punL.contains x = false:=by simpa using g0
   by_cases gd : List.isPrefixOf [46,46,46] (s.drop p) = true
   ·have ht : tokS (s.drop p) = .ok 0 [46,46,46] ((s.drop p).drop 3):=by
     obtain ⟨m,hm⟩:=List.isPrefixOf_iff_prefix.1 gd
     unfold tokS wrt
     rw [if_neg (by rw [hl];exact g0),if_pos gd,← hm]
     rw [show List.drop 3 ([46,46,46] ++ m) = m from rfl,ahead_app]
    have:=(pre_pos gd).resolve_right (by simp)
    simp only [List.length_cons,List.length_nil] at this
    exact one_ok ht (by rw [List.length_drop,List.length_drop];omega) (one_dots s p hs gd w)
   ·have gd' : List.isPrefixOf [46,46,46] (s.drop p) = false:=Bool.eq_false_iff.2 gd
    by_cases g1 : letL.contains x = true
    ·have hn : nmN r ≤ r.length:=(List.takeWhile_prefix _).length_le
     have ht : tokS (s.drop p) = .ok 1 ((s.drop p).take (1 + nmN r)) (r.drop (nmN r)):=by
      unfold tokS wrt
      rw [if_neg (by rw [hl];exact g0),if_neg gd,if_pos (by rw [hl];exact g1),hl]
      rw [show List.drop 1 (x :: r) = r from rfl,show (letL ++ digL) = nmL from rfl,span_nm]
      unfold ahead
      rw [List.length_drop,List.length_cons,show r.length + 1 - (r.length - nmN r) = 1 + nmN r by omega]
     exact one_ok ht (by rw [List.length_drop];omega) (one_name s p x r hl hs g1 w)
    ·have g1' : letL.contains x = false:=by simpa using g1
     by_cases g2 : x = 45 ∨ digL.contains x = true
     ·have C:=one_num s p x r hl hs g2 w
      have ht : tokS (s.drop p) = (match numS (s.drop p) with | none => .bad 51 | some q => wrt q.1 (s.drop p) q.2):=by
       have : headIn (45 :: digL) (s.drop p) = true:=by
        rw [hl]
        show (45 :: digL).contains x = true
        rcases g2 with g | g
        ·rw [g];rfl
        ·exact List.contains_iff_mem.2 (List.mem_cons_of_mem _ (List.contains_iff_mem.1 g))
       unfold tokS
       rw [if_neg (by rw [hl];exact g0),if_neg gd,if_neg (by rw [hl];exact g1),if_pos this]
       cases numS (s.drop p) <;> rfl
      cases hn : numS (s.drop p) with
      | none => rw [hn] at C ht;exact one_err ht C
      | some q => rw [hn] at C ht;exact one_ok ht rfl C
     ·have g2' : digL.contains x = false:=by cases h : digL.contains x with | false => rfl | true => exact absurd (Or.inr h) g2
      have g3 : x ≠ 45:=fun h => g2 (Or.inl h)
      by_cases g4 : x = 34
      ·subst g4
       have ht:=tokS_textX _ r hl
       by_cases hq : List.isPrefixOf [34,34,34] (s.drop p) = true
       ·rw [textS_raw s p hq] at ht
        cases hx : xr s (p + 3) with
        | none => rw [hx] at ht;exact one_err ht (one_block_no s p r hl hs hq hx w)
        | some q =>
         obtain ⟨t,e⟩:=q
         rw [hx] at ht
         have:=xrF_le s _ _ _ _ hx
         exact one_ok ht (by rw [List.length_drop];omega) (one_block s p r hl hs hq t e hx (by have:=xr_short hx;omega) w)
       ·have hq' : List.isPrefixOf [34,34,34] (s.drop p) = false:=Bool.eq_false_iff.2 hq
        rw [textS_line s p r hl hq'] at ht
        cases hx : xl s (p + 1) with
        | none => rw [hx] at ht;exact one_err ht (one_text_no s p r hl hs hq' hx w)
        | some q =>
         obtain ⟨t,e⟩:=q
         rw [hx] at ht
         have:=xlF_le s _ _ _ _ hx
         exact one_ok ht (by rw [List.length_drop];omega) (one_text s p r hl hs hq' t e hx w)
      ·have ht : tokS (s.drop p) = .bad 50:=by
        unfold tokS
        rw [if_neg (by rw [hl];exact g0),if_neg gd,if_neg (by rw [hl];exact g1)]
        rw [if_neg (by rw [hl];show ¬ (45 :: digL).contains x = true;rw [List.contains_iff_mem];intro h;rcases List.mem_cons.1 h with h | h;exact g3 h;exact g2 (Or.inr (List.contains_iff_mem.2 h)))]
        rw [if_neg (by rw [hl];show ¬ [34].contains x = true;rw [List.contains_iff_mem];intro h;exact g4 (List.mem_singleton.1 h))]
       exact one_err ht (one_bad s p x r hl hs g0' g1' g2' g3 g4 gd' w)
end
section
open Go Go.RowKit
attribute [local irreducible] srcB unitS
theorem tokS_ne {l : Bs} {e : Int} (h : tokS l = .bad e) : e ≠ 0:=by
 unfold tokS wrt at h
 split at h
 ·cases h
 ·split at h
  ·cases h
  ·split at h
   ·cases h
   ·split at h
    ·split at h
     ·cases h;decide
     ·cases h
    ·split at h
     ·split at h
      ·cases h;decide
      ·cases h
     ·cases h;decide
theorem suf_cut {s m : Bs} {j : Nat} (h : m <:+ s.drop j) : s.drop (s.length - m.length) = m:=by
 obtain ⟨x,hx⟩:=h.trans (List.drop_suffix j s)
 rw [← hx,List.length_append,Nat.add_sub_cancel]
 simp
structure TK (s : Bs) (w wr : World) (j : Nat) (v : Value) (pre : List Tok) : Prop where
 row : Toks wr w.heap.size v pre
 few : pre.length ≤ 2048
 jle : j ≤ s.length
 nn : v ≠ .slice none 0 0
 bel : Below w.heap.size w wr
 res : lexG s.length 0 s = withL pre (lexG s.length pre.length (s.drop j))
theorem own_tok (w : World) : Toks (w.alloc (.cells #[] 43)) w.heap.size (.slice (some ⟨w.heap.size,0,none⟩) 0 0) [] :=
 ⟨rfl,Or.inr ⟨w.heap.size,0,#[],rfl,Nat.le_refl _,heap_alloc_new _ _,Nat.le_refl _,Nat.zero_le _,rfl,rfl⟩⟩
theorem not_noneT {w : World} {B e z n : Nat} {v : Value} {xs : List Value} (h : w.ownsRow B e z v n xs) (hn : v ≠ .slice none 0 0) : ∃ g cap,v = .slice (some ⟨g,0,none⟩) n cap:=by
 rcases h.2 with ⟨h1,_⟩ | ⟨g,cap,cur,h1,_⟩
 ·exact absurd h1 hn
 ·exact ⟨g,cap,h1⟩
set_option maxRecDepth 100000 in
set_option maxHeartbeats 2000000 in
theorem xtokens_short (s : Bs) (hs : s.length ≤ 16384) (w : World) : Calls Tryz.prog 18 #[.string ⟨s.toArray⟩] w (TokensP w (lexG s.length 0 s)):=by
 obtain ⟨i1,hi1,hy0,hy1,hy2⟩:=info_parts Tryz.infoTok
 have hD : (ByteArray.mk s.toArray).size = s.length:=rfl
 have hsI : ¬ (16384 : Int) < (s.length : Int):=by omega
 generalize hDD : (ByteArray.mk s.toArray) = D at *
 have HD : Hid ((ByteArray.mk s.toArray) = D):=hDD
 clear hDD
 go_enter Tryz.func18,Tryz.ntmps18
 go_wp2
 go_loopw [5,6] (fun l i wr => ∃ (j : Nat) (v : Value) (pre : List Tok),l = v ∧ i = .int .i64 (j : Int) ∧ TK s w wr j v pre) (fun _ i _ => s.length - (RowKit.intOf i).toNat)
 case atStart => exact ⟨0,_,[],rfl,rfl,own_tok w,by simp,by omega,by simp,(Below.refl _ _).alloc (Nat.le_refl _) _,(withL_nil _).symm⟩
 case round =>
  obtain ⟨j,v,pre,rfl,rfl,hT⟩:=hrel
  obtain ⟨hob,hfew,hj,hnn,hbr,hres⟩:=hT
  have HR : Hid (lexG s.length 0 s = withL pre (lexG s.length pre.length (s.drop j))):=hres
  clear hres
  obtain ⟨g9,cap9,rfl⟩:=not_noneT hob hnn
  cases hk : skipS (s.drop j) with
  | inr k =>
   have S : ∀ w,Calls Tryz.prog 35 #[.string D,.int .i64 (j : Int)] w fun e w' => e = .returned (.tuple #[.int .i64 ((s.length - k : Nat) : Int),.bool false]) ∧ Below w.heap.size w w':=fun w => by
    have:=xskip_any (fun e => e = .returned (.tuple #[.int .i64 ((s.length - k : Nat) : Int),.bool false])) s j hj hs (fun m h => by rw [hk] at h;cases h) (fun k' h => by rw [hk] at h;cases h;rfl) w
    rw [HD.out] at this
    exact this
   have HX : Hid (lexG s.length 0 s = .inl (s.length - k,50)):=by rw [Hid,HR.out,lexG_wrong hk];rfl
   clear hk
   generalize s.length - k = q at *
   go_wp2_with (first
    | (go_at_call 35;(with_reducible refine (S _).mono ?_);rintro e w1 ⟨rfl,hb1⟩;have hbr1:=hbr.trans (hb1.mono hbr.size))
    | fail)
   go_ret3
   rw [HX.out]
   exact ⟨rfl,hbr1⟩
  | inl m =>
   have hm:=skipS_suf hk
   have hml:=hm.length_le
   rw [List.length_drop] at hml
   have hmd:=suf_cut hm
   have S : ∀ w,Calls Tryz.prog 35 #[.string D,.int .i64 (j : Int)] w fun e w' => e = .returned (.tuple #[.int .i64 ((s.length - m.length : Nat) : Int),.bool true]) ∧ Below w.heap.size w w':=fun w => by
    have:=xskip_any (fun e => e = .returned (.tuple #[.int .i64 ((s.length - m.length : Nat) : Int),.bool true])) s j hj hs (fun m' h => by rw [hk] at h;cases h;rfl) (fun k' h => by rw [hk] at h;cases h) w
    rw [HD.out] at this
    exact this
   cases m with
   | nil =>
    have HX : Hid (lexG s.length 0 s = .inr pre):=by rw [Hid,HR.out,lexG_end hk];simp [withL]
    rw [List.length_nil,Nat.sub_zero] at S
    clear hk hm hml hmd
    go_wp2_with (first
     | (go_at_call 35;(with_reducible refine (S _).mono ?_);rintro e w1 ⟨rfl,hb1⟩;have hbr1:=hbr.trans (hb1.mono hbr.size);have hob1:=owns_belowX hob hb1)
     | fail)
    go_ret3
    rw [HX.out]
    exact ⟨⟨_,rfl,hob1⟩,hbr1⟩
   | cons x l1 =>
    rw [List.length_cons] at hml
    by_cases hc : pre.length = 2048
    ·have HX : Hid (lexG s.length 0 s = .inl (s.length - (x :: l1).length,53)):=by rw [Hid,HR.out,lexG_many hk hc];rfl
     have hq : s.length - (x :: l1).length < s.length:=by rw [List.length_cons];omega
     clear hk hm hml hmd
     generalize s.length - (x :: l1).length = q at *
     have hqI : (q : Int) < (s.length : Int):=by omega
     go_wp2_with (first
      | (go_at_call 35;(with_reducible refine (S _).mono ?_);rintro e w1 ⟨rfl,hb1⟩;have hbr1:=hbr.trans (hb1.mono hbr.size))
      | fail)
     go_ret3
     rw [HX.out]
     exact ⟨rfl,hbr1⟩
    ·have hq : s.length - (x :: l1).length < s.length:=by rw [List.length_cons];omega
     have hqj : j ≤ s.length - (x :: l1).length:=by rw [List.length_cons];omega
     have hc2 : pre.length < 2048:=by omega
     cases ht : tokS (x :: l1) with
     | bad e =>
      have HX : Hid (lexG s.length 0 s = .inl (s.length - (x :: l1).length,e)):=by rw [Hid,HR.out,lexG_bad hk hc ht];rfl
      have he:=tokS_ne ht
      have O : ∀ w,Calls Tryz.prog 36 #[.string D,.int .i64 ((s.length - (x :: l1).length : Nat) : Int)] w fun e' w' => e' = .returned (.tuple #[tokV 0 [] 0 0,.int .i64 e]) ∧ Below w.heap.size w w':=fun w => by
       have:=oneS_any s (s.length - (x :: l1).length) hq hs w
       rw [HD.out] at this
       refine this.mono fun _ _ h => ?_
       unfold One at h
       rw [oneV_bad (by rw [hmd];exact ht)] at h
       exact h
      clear hk hm hml hmd ht hqj
      generalize s.length - (x :: l1).length = q at *
      have hqI : (q : Int) < (s.length : Int):=by omega
      go_wp2_with (first
       | (go_at_call 35;(with_reducible refine (S _).mono ?_);rintro e1 w1 ⟨rfl,hb1⟩;have hbr1:=hbr.trans (hb1.mono hbr.size))
       | (go_at_call 36;(with_reducible refine (O _).mono ?_);rintro e2 w2 ⟨rfl,hb2⟩;have hbr2:=hbr1.trans (hb2.mono hbr1.size))
       | fail)
      go_ret3
      rw [HX.out]
      exact ⟨rfl,hbr2.alloc hbr2.size _⟩
     | ok k t r =>
      have hf:=tokS_facts ht
      have hr : s.drop (s.length - r.length) = r:=suf_cut (hf.1.trans hm)
      have hrl:=hf.2
      rw [List.length_cons] at hrl
      have HX : Hid (lexG s.length 0 s = withL (pre ++ [⟨k,t,s.length - (x :: l1).length,s.length - r.length⟩]) (lexG s.length (pre.length + 1) (s.drop (s.length - r.length)))):=by
       rw [Hid,HR.out,lexG_ok hk hc ht,withL_withL,hr]
      have O : ∀ w,Calls Tryz.prog 36 #[.string D,.int .i64 ((s.length - (x :: l1).length : Nat) : Int)] w fun e' w' => e' = .returned (.tuple #[tokV k t (s.length - (x :: l1).length) (s.length - r.length),.int .i64 0]) ∧ Below w.heap.size w w':=fun w => by
       have:=oneS_any s (s.length - (x :: l1).length) hq hs w
       rw [HD.out] at this
       refine this.mono fun _ _ h => ?_
       unfold One at h
       rw [oneV_ok (by rw [hmd];exact ht)] at h
       exact h
      have hqb : s.length - (x :: l1).length < s.length - r.length:=by rw [List.length_cons];omega
      have hbl : s.length - r.length ≤ s.length:=by omega
      clear hk hm hml hmd ht hf hr hrl
      generalize s.length - (x :: l1).length = q at *
      generalize s.length - r.length = b at *
      have hqI : (q : Int) < (s.length : Int):=by omega
      go_wp2_with (first
       | (go_at_call 35;(with_reducible refine (S _).mono ?_);rintro e1 w1 ⟨rfl,hb1⟩;have hbr1:=hbr.trans (hb1.mono hbr.size);have hob1:=owns_belowX hob hb1)
       | (go_at_call 36;(with_reducible refine (O _).mono ?_);rintro e2 w2 ⟨rfl,hb2⟩;have hbr2:=hbr1.trans (hb2.mono hbr1.size);have hob2:=owns_belowX hob1 hb2)
       | (at_builtin;refine wpList_append_own _ rfl _ _ 37 rfl w.heap.size 43 i1 _ 4 40 Tryz.underlying37 hi1 hy0 hy1 hy2 rfl (by decide) _ _ _ rfl ((hob2.alloc _).alloc _) ⟨w2.heap.size + 1,0,none⟩ 1 1 [.int .i64 k,.string ⟨t.toArray⟩,.int .i64 (q : Int),.int .i64 (b : Int)] rfl rfl ?c1 ?c2 ?c3 ?c4 ?c5 ?_)
       | fail)
      case c1 =>
       intro i u hu
       rw [show w2.heap.size + 1 = (w2.alloc (.cells #[.int .i64 k,.string ⟨t.toArray⟩,.int .i64 (q : Int),.int .i64 (b : Int)] 43)).heap.size by simp,cell_new]
       simpa using hu
      case c2 => simp [Value.oneCell']
      case c3 =>
       have : (2049 : Nat) ≤ maxLen:=by decide
       omega
      case c4 => omega
      case c5 => have:=hbr2.size;simp;omega
      intro v' w4 hown' hgrow hnil
      have hbr3 : Below w.heap.size w ((w2.alloc (.cells #[.int .i64 k,.string ⟨t.toArray⟩,.int .i64 (q : Int),.int .i64 (b : Int)] 43)).alloc (.cells #[.int .i64 k,.string ⟨t.toArray⟩,.int .i64 (q : Int),.int .i64 (b : Int)] 43)):=(hbr2.alloc hbr2.size _).alloc (by have:=hbr2.size;simp;omega) _
      have hbr4 : Below w.heap.size w w4:=hbr3.grown hgrow hbr3.size (own_ge hob2)
      have hlt:=(toks_block hob2 (g:=g9) rfl).1
      have hT4 : w4.heap[w2.heap.size]? = some (.cells #[.int .i64 k,.string ⟨t.toArray⟩,.int .i64 (q : Int),.int .i64 (b : Int)] 43 (0,0)):=by
       rw [hgrow.block _ (by simp;omega) (by simp [Value.ownBlock];omega),Below.heap_alloc _ _ _ (by simp)]
       exact heap_alloc_new _ _
      have k3 : w4.cell? ⟨w2.heap.size,3,none⟩ = some (.int .i64 (b : Int)):=by simp [World.cell?,hT4]
      have HG : Hid (Toks w4 w.heap.size v' (pre ++ [⟨k,t,q,b⟩])):=by
       show World.ownsRow _ _ _ _ _ (pre ++ [_]).length (cellsT (pre ++ [_]))
       rw [cellsT_snoc,List.length_append]
       exact hown'
      clear hown' hgrow hT4 hbr3
      go_wp2
      refine ⟨⟨b,v',pre ++ [⟨k,t,q,b⟩],rfl,rfl,HG.out,by rw [List.length_append];simp;omega,hbl,hnil,hbr4,?_⟩,?_⟩
      ·rw [HX.out,List.length_append]
       rfl
      ·simp [RowKit.intOf]
       omega
set_option maxRecDepth 100000 in
set_option maxHeartbeats 2000000 in
theorem xtokens_long (s : Bs) (hs : 16384 < s.length) (w : World) : Calls Tryz.prog 18 #[.string ⟨s.toArray⟩] w (TokensP w (.inl (0,54))):=by
 have hD : (ByteArray.mk s.toArray).size = s.length:=rfl
 have hsI : (16384 : Int) < (s.length : Int):=by omega
 generalize (ByteArray.mk s.toArray) = D at *
 go_enter Tryz.func18,Tryz.ntmps18
 go_wp2
 go_ret3
 exact ⟨rfl,Below.refl _ _⟩
theorem xtokens_any (s : Bs) (w : World) : Calls Tryz.prog 18 #[.string ⟨s.toArray⟩] w (TokensP w (lexS s)):=by
 unfold lexS
 by_cases h : 16384 < s.length
 ·rw [if_pos h];exact xtokens_long s h w
 ·rw [if_neg h];exact xtokens_short s (by omega) w
end
end Go.Proofs.YtlabcadpkdgjnaaGreatDoor
