/- An escape with four digits, by the reader; an escape. -/
import Derived.Test.YtgmlbjfgfmfliaaGreatDoorA11
namespace Go.Proofs.YtgmlbjfgfmfliaaGreatDoor
open Go Go.RowKit
section
variable {R : Nat} {s : Bs} {b : Nat}
theorem hexV_lt {c : UInt8} {d : Nat} (h : hexV c = some d) : d < 16:=by
 unfold hexV at h
 by_cases h1 : 48 ≤ c.toNat ∧ c.toNat ≤ 57
 ·rw [if_pos h1] at h;cases h;omega
 ·rw [if_neg h1] at h
  by_cases h2 : 97 ≤ c.toNat ∧ c.toNat ≤ 102
  ·rw [if_pos h2] at h;cases h;omega
  ·rw [if_neg h2] at h
   by_cases h3 : 65 ≤ c.toNat ∧ c.toNat ≤ 70
   ·rw [if_pos h3] at h;cases h;omega
   ·rw [if_neg h3] at h;cases h
theorem nmbS_eq (a b c d : UInt8) (r : Bs) : nmbS (a :: b :: c :: d :: r) = (hexF [a,b,c,d] 0).map fun V => (unitS V,r):=by
 have e : nmbS (a :: b :: c :: d :: r) = (hexV a).bind fun x => (hexV b).bind fun y => (hexV c).bind fun z => (hexV d).bind fun t => some (unitS (x * 4096 + y * 256 + z * 16 + t),r):=rfl
 rw [e]
 simp only [hexF]
 cases hexV a with
 | none => rfl
 | some x =>
  cases hexV b with
  | none => rfl
  | some y =>
   cases hexV c with
   | none => rfl
   | some z =>
    cases hexV d with
    | none => rfl
    | some t =>
     simp only [Option.bind_some,Option.map_some]
     have e : x * 4096 + y * 256 + z * 16 + t = (((0 * 16 + x) * 16 + y) * 16 + z) * 16 + t:=by omega
     rw [e]
theorem hexF_lt : ∀ (l : Bs) (a n : Nat) (V : Nat),a < 16 ^ n → hexF l a = some V → V < 16 ^ (n + l.length)
 | [],a,n,V,ha,h => by
  have e : a = V:=by simpa [hexF] using h
  subst e
  exact ha
 | c :: l,a,n,V,ha,h => by
  unfold hexF at h
  cases hc : hexV c with
  | none => rw [hc] at h;cases h
  | some d =>
   rw [hc] at h
   have:=hexF_lt l (a * 16 + d) (n + 1) V (by have:=hexV_lt hc;rw [Nat.pow_succ];omega) h
   rw [List.length_cons,show n + (l.length + 1) = n + 1 + l.length by omega]
   exact this
/-- What an escape's step comes to. -/
def StrP (R : Nat) (s : Bs) (b : Nat) (w : World) (r : Option (Bs × Bs)) (e : Ending) (w' : World) : Prop:=(match r with
  | some p => e = .returned (.string ⟨p.1.toArray⟩) ∧ Rd w' R s b p.2
  | none => e = Dies b 52) ∧ Kp (Own1 R) w w'
theorem cut_take {s l : Bs} (h : l <:+ s) (n : Nat) : (ByteArray.mk s.toArray).extract (s.length - l.length) (s.length - l.length + n) = ⟨(l.take n).toArray⟩:=by
 obtain ⟨p,rfl⟩:=h
 have e : (p ++ l).length - l.length = p.length:=by simp
 rw [e]
 apply ByteArray.ext;apply Array.toList_inj.1;simp
set_option maxHeartbeats 2000000 in
theorem nmb_short (l : Bs) (hl : l.length < 4) (w : World) (h : Rd w R s b l) : Calls Tryz.prog 221 #[.pointer (some ⟨R,0,none⟩)] w fun e w' => e = Dies b 52 ∧ Kp (Own1 R) w w':=by
 have c0:=h.c0
 have c2:=h.c2
 have hle:=h.le
 have hsm:=h.small
 obtain ⟨h1,h2,h3⟩:=suf_facts h.suf
 have U : ∀ (w : World),Gl w → Calls Tryz.prog 228 #[.string ⟨l.toArray⟩,.int .i64 16,.int .i64 64] w fun e w' => (∃ x ev,e = .returned (.tuple #[.int .u64 x,ev])) ∧ Below w.heap.size w w':=by
  intro w g
  cases l with
  | nil =>
   refine (suint_no [] (by simp) (Or.inl rfl) w g).mono ?_
   rintro e w' ⟨⟨N,rfl⟩,hb⟩
   exact ⟨⟨_,_,rfl⟩,hb⟩
  | cons c l =>
   cases hx : hexF (c :: l) 0 with
   | none =>
    refine (suint_no (c :: l) (by omega) (Or.inr hx) w g).mono ?_
    rintro e w' ⟨⟨N,rfl⟩,hb⟩
    exact ⟨⟨_,_,rfl⟩,hb⟩
   | some v =>
    refine (suint_yes c l (by simp at hl;omega) v hx w).mono ?_
    rintro e w' ⟨rfl,hb⟩
    exact ⟨⟨_,_,rfl⟩,hb⟩
 have hz:=size_of l
 have g1 : (l.length : Int) < 4:=by omega
 have g2 : (0 : Int) ≤ ((s.length - l.length : Nat) : Int):=by omega
 have g3 : ((s.length - l.length : Nat) : Int) ≤ (s.length : Int):=by omega
 have g4 : ¬ (((s.length - l.length : Nat) : Int) + 4 < (s.length : Int)):=by omega
 have g5 : (s.length : Int) < ((s.length - l.length : Nat) : Int) + 4:=by omega
 have g6 : ((s.length - l.length : Nat) : Int) ≤ 16384:=by omega
 have g7 : min (((s.length - l.length : Nat) : Int) + 4) (s.length : Int) = (s.length : Int):=by omega
 have HH : Hid (Rd w R s b l):=h
 have gD : Gl w.drew:=(h.drewN 1).gl
 have rD : Rd w.drew R s b l:=h.drewN 1
 have HD : Hid (Rd w.drew R s b l):=rD
 clear h hle hsm h3 rD
 generalize s.length - l.length = A at *
 generalize (ByteArray.mk s.toArray) = D at *
 generalize (ByteArray.mk l.toArray) = X at *
 go_enter Tryz.func221,Tryz.ntmps221
 go_wp2
 go_region
 all_goals
  go_wp2_with (first
   | (go_at_call 100;refine (fail_any _ _ _ hr1).mono ?_;rintro e w2 ⟨rfl,rfl⟩)
   | (go_at_call 228;refine (U _ gD).mono ?_;rintro e w1 ⟨⟨x,ev,rfl⟩,hb1⟩;have hr1:=HD.out.below hb1 HH.out.lt)
   | fail)
  exact ⟨rfl,rfl,(Kp.refl _ w).drew.then_below hb1⟩
set_option maxHeartbeats 2000000 in
theorem nmb_bad (x0 x1 x2 x3 : UInt8) (r : Bs) (hx : hexF [x0,x1,x2,x3] 0 = none) (w : World) (h : Rd w R s b (x0 :: x1 :: x2 :: x3 :: r)) : Calls Tryz.prog 221 #[.pointer (some ⟨R,0,none⟩)] w fun e w' => e = Dies b 52 ∧ Kp (Own1 R) w w':=by
 have c0:=h.c0
 have c2:=h.c2
 have hle:=h.le
 have hsm:=h.small
 have h1:=size_of s
 have h2:=cut_take h.suf 4
 have U:=fun w g => suint_no [x0,x1,x2,x3] (by simp) (Or.inr hx) w g
 rw [show List.take 4 (x0 :: x1 :: x2 :: x3 :: r) = [x0,x1,x2,x3] from rfl] at h2
 have hz : (ByteArray.mk [x0,x1,x2,x3].toArray).size = 4:=rfl
 simp only [List.length_cons] at hle
 have g2 : (0 : Int) ≤ ((s.length - (x0 :: x1 :: x2 :: x3 :: r).length : Nat) : Int):=by omega
 have g3 : ((s.length - (x0 :: x1 :: x2 :: x3 :: r).length : Nat) : Int) + 4 ≤ (s.length : Int):=by simp only [List.length_cons];omega
 have g6 : ((s.length - (x0 :: x1 :: x2 :: x3 :: r).length : Nat) : Int) ≤ 16384:=by omega
 have g7 : min (((s.length - (x0 :: x1 :: x2 :: x3 :: r).length : Nat) : Int) + 4) (s.length : Int) = ((s.length - (x0 :: x1 :: x2 :: x3 :: r).length : Nat) : Int) + 4:=by omega
 have g8 : (((s.length - (x0 :: x1 :: x2 :: x3 :: r).length : Nat) : Int) + 4).toNat = s.length - (x0 :: x1 :: x2 :: x3 :: r).length + 4:=by omega
 have gD : Gl w.drew:=(h.drewN 1).gl
 have HD : Hid (Rd w.drew R s b (x0 :: x1 :: x2 :: x3 :: r)):=h.drewN 1
 have HL : Hid (R < w.heap.size):=h.lt
 clear h hle hsm hx
 generalize s.length - (x0 :: x1 :: x2 :: x3 :: r).length = A at *
 generalize (ByteArray.mk s.toArray) = D at *
 generalize (ByteArray.mk [x0,x1,x2,x3].toArray) = X at *
 go_enter Tryz.func221,Tryz.ntmps221
 go_wp2
 go_region
 all_goals
  go_wp2_with (first
   | (go_at_call 100;refine (fail_any _ _ _ hr1).mono ?_;rintro e w2 ⟨rfl,rfl⟩)
   | (go_at_call 228;refine (U _ gD).mono ?_;rintro e w1 ⟨⟨N,rfl⟩,hb1⟩;have hr1:=HD.out.below hb1 HL.out)
   | fail)
  exact ⟨rfl,rfl,(Kp.refl _ w).drew.then_below hb1⟩
set_option maxHeartbeats 2000000 in
theorem nmb_walkA (x0 x1 x2 x3 : UInt8) (r : Bs) (VV : Int) (T : ByteArray) (gV : VV < 65536) (gV0 : 0 ≤ VV) (U : ∀ w,Calls Tryz.prog 228 #[.string ⟨[x0,x1,x2,x3].toArray⟩,.int .i64 16,.int .i64 64] w fun e w' => e = .returned (.tuple #[.int .u64 VV,.nilIface]) ∧ Below w.heap.size w w')
  (H : ∀ w,Calls Tryz.prog 213 #[.int .i64 VV] w fun e w' => e = .returned (.bool true) ∧ w' = w) (B : ∀ w,Calls Tryz.prog 214 #[.int .i64 VV] w fun e w' => e = .returned (.string T) ∧ Below w.heap.size w w') (w : World) (h : Rd w R s b (x0 :: x1 :: x2 :: x3 :: r)) :
  Calls Tryz.prog 221 #[.pointer (some ⟨R,0,none⟩)] w fun e w' => e = .returned (.string T) ∧ Rd w' R s b r ∧ Kp (Own1 R) w w':=by
 have c0:=h.c0
 have c2:=h.c2
 have hle:=h.le
 have hsm:=h.small
 have h1:=size_of s
 have h2:=cut_take h.suf 4
 rw [show List.take 4 (x0 :: x1 :: x2 :: x3 :: r) = [x0,x1,x2,x3] from rfl] at h2
 have hz : (ByteArray.mk [x0,x1,x2,x3].toArray).size = 4:=rfl
 simp only [List.length_cons] at hle
 have g2 : (0 : Int) ≤ ((s.length - (x0 :: x1 :: x2 :: x3 :: r).length : Nat) : Int):=by omega
 have g3 : ((s.length - (x0 :: x1 :: x2 :: x3 :: r).length : Nat) : Int) + 4 ≤ (s.length : Int):=by simp only [List.length_cons];omega
 have g6 : ((s.length - (x0 :: x1 :: x2 :: x3 :: r).length : Nat) : Int) ≤ 16384:=by omega
 have g7 : min (((s.length - (x0 :: x1 :: x2 :: x3 :: r).length : Nat) : Int) + 4) (s.length : Int) = ((s.length - (x0 :: x1 :: x2 :: x3 :: r).length : Nat) : Int) + 4:=by omega
 have g8 : (((s.length - (x0 :: x1 :: x2 :: x3 :: r).length : Nat) : Int) + 4).toNat = s.length - (x0 :: x1 :: x2 :: x3 :: r).length + 4:=by omega
 have HG : Hid (((s.length - (x0 :: x1 :: x2 :: x3 :: r).length : Nat) : Int) + 4 = ((s.length - r.length : Nat) : Int)):=by
  show _ = _
  simp only [List.length_cons];omega
 have HD : Hid (Rd w.drew R s b (x0 :: x1 :: x2 :: x3 :: r)):=h.drewN 1
 have HL : Hid (R < w.heap.size):=h.lt
 have HS : Hid (r <:+ x0 :: x1 :: x2 :: x3 :: r):=⟨[x0,x1,x2,x3],rfl⟩
 have fin : ∀ w3,Rd w3 R s b (x0 :: x1 :: x2 :: x3 :: r) → w3.cell? ⟨R,2,none⟩ = some (.int .i64 ((s.length - (x0 :: x1 :: x2 :: x3 :: r).length : Nat) : Int)) ∧ w3.frozen? ⟨R,2,none⟩ = false:=fun w3 h3 => ⟨h3.c2,h3.free 2⟩
 have mv : Hid (∀ w3,Rd w3 R s b (x0 :: x1 :: x2 :: x3 :: r) → Rd (w3.setCell ⟨R,2,none⟩ (.int .i64 (((s.length - (x0 :: x1 :: x2 :: x3 :: r).length : Nat) : Int) + 4))) R s b r):=fun w3 h3 => h3.move HS.out _ HG.out
 clear h hle hsm
 generalize hA : s.length - (x0 :: x1 :: x2 :: x3 :: r).length = A at *
 generalize (ByteArray.mk s.toArray) = D at *
 generalize (ByteArray.mk [x0,x1,x2,x3].toArray) = X at *
 clear hA
 go_enter Tryz.func221,Tryz.ntmps221
 go_wp2
 go_region
 all_goals
  go_wp2_with (first
   | (go_at_call 214;refine (B _).mono ?_;rintro e w3 ⟨rfl,hb3⟩)
   | (go_at_call 213;refine (H _).mono ?_;rintro e w2 ⟨rfl,rfl⟩)
   | (go_at_call 228;refine (U _).mono ?_;rintro e w1 ⟨rfl,hb1⟩;have hr1:=HD.out.below hb1 HL.out;obtain ⟨d2,f2⟩:=fin _ hr1)
   | fail)
  go_ret
  exact ⟨rfl,(mv.out _ hr1).below hb3 (mv.out _ hr1).lt,(((Kp.refl _ w).drew.then_below hb1).trans (Kp.own R 2 _)).trans (Kp.of_below hb3)⟩
set_option maxHeartbeats 2000000 in
theorem nmb_walkB (x0 x1 x2 x3 : UInt8) (r : Bs) (VV : Int) (T : ByteArray) (gV : VV < 65536) (gV0 : 0 ≤ VV) (U : ∀ w,Calls Tryz.prog 228 #[.string ⟨[x0,x1,x2,x3].toArray⟩,.int .i64 16,.int .i64 64] w fun e w' => e = .returned (.tuple #[.int .u64 VV,.nilIface]) ∧ Below w.heap.size w w')
  (H : ∀ w,Calls Tryz.prog 213 #[.int .i64 VV] w fun e w' => e = .returned (.bool false) ∧ w' = w) (B : ∀ w,Calls Tryz.prog 229 #[.int .i64 VV] w fun e w' => e = .returned (.tuple #[.string T,.int .i64 0]) ∧ w' = w) (w : World) (h : Rd w R s b (x0 :: x1 :: x2 :: x3 :: r)) :
  Calls Tryz.prog 221 #[.pointer (some ⟨R,0,none⟩)] w fun e w' => e = .returned (.string T) ∧ Rd w' R s b r ∧ Kp (Own1 R) w w':=by
 have c0:=h.c0
 have c2:=h.c2
 have hle:=h.le
 have hsm:=h.small
 have h1:=size_of s
 have h2:=cut_take h.suf 4
 rw [show List.take 4 (x0 :: x1 :: x2 :: x3 :: r) = [x0,x1,x2,x3] from rfl] at h2
 have hz : (ByteArray.mk [x0,x1,x2,x3].toArray).size = 4:=rfl
 simp only [List.length_cons] at hle
 have g2 : (0 : Int) ≤ ((s.length - (x0 :: x1 :: x2 :: x3 :: r).length : Nat) : Int):=by omega
 have g3 : ((s.length - (x0 :: x1 :: x2 :: x3 :: r).length : Nat) : Int) + 4 ≤ (s.length : Int):=by simp only [List.length_cons];omega
 have g6 : ((s.length - (x0 :: x1 :: x2 :: x3 :: r).length : Nat) : Int) ≤ 16384:=by omega
 have g7 : min (((s.length - (x0 :: x1 :: x2 :: x3 :: r).length : Nat) : Int) + 4) (s.length : Int) = ((s.length - (x0 :: x1 :: x2 :: x3 :: r).length : Nat) : Int) + 4:=by omega
 have g8 : (((s.length - (x0 :: x1 :: x2 :: x3 :: r).length : Nat) : Int) + 4).toNat = s.length - (x0 :: x1 :: x2 :: x3 :: r).length + 4:=by omega
 have HG : Hid (((s.length - (x0 :: x1 :: x2 :: x3 :: r).length : Nat) : Int) + 4 = ((s.length - r.length : Nat) : Int)):=by
  show _ = _
  simp only [List.length_cons];omega
 have HD : Hid (Rd w.drew R s b (x0 :: x1 :: x2 :: x3 :: r)):=h.drewN 1
 have HL : Hid (R < w.heap.size):=h.lt
 have HS : Hid (r <:+ x0 :: x1 :: x2 :: x3 :: r):=⟨[x0,x1,x2,x3],rfl⟩
 have fin : ∀ w3,Rd w3 R s b (x0 :: x1 :: x2 :: x3 :: r) → w3.cell? ⟨R,2,none⟩ = some (.int .i64 ((s.length - (x0 :: x1 :: x2 :: x3 :: r).length : Nat) : Int)) ∧ w3.frozen? ⟨R,2,none⟩ = false:=fun w3 h3 => ⟨h3.c2,h3.free 2⟩
 have mv : Hid (∀ w3,Rd w3 R s b (x0 :: x1 :: x2 :: x3 :: r) → Rd (w3.setCell ⟨R,2,none⟩ (.int .i64 (((s.length - (x0 :: x1 :: x2 :: x3 :: r).length : Nat) : Int) + 4))) R s b r):=fun w3 h3 => h3.move HS.out _ HG.out
 clear h hle hsm
 generalize hA : s.length - (x0 :: x1 :: x2 :: x3 :: r).length = A at *
 generalize (ByteArray.mk s.toArray) = D at *
 generalize (ByteArray.mk [x0,x1,x2,x3].toArray) = X at *
 clear hA
 go_enter Tryz.func221,Tryz.ntmps221
 go_wp2
 go_region
 all_goals
  go_wp2_with (first
   | (go_at_call 229;refine (B _).mono ?_;rintro e w3 ⟨rfl,rfl⟩)
   | (go_at_call 213;refine (H _).mono ?_;rintro e w2 ⟨rfl,rfl⟩)
   | (go_at_call 228;refine (U _).mono ?_;rintro e w1 ⟨rfl,hb1⟩;have hr1:=HD.out.below hb1 HL.out;obtain ⟨d2,f2⟩:=fin _ hr1)
   | fail)
  go_ret
  exact ⟨rfl,mv.out _ hr1,((Kp.refl _ w).drew.then_below hb1).trans (Kp.own R 2 _)⟩
theorem mk_toList (B : ByteArray) : ByteArray.mk B.data.toList.toArray = B:=by
 apply ByteArray.ext;apply Array.toList_inj.1;simp
theorem unitS_else (V : Nat) (hh : ¬ (55296 ≤ V ∧ V ≤ 57343)) : unitS V = (Utf8.encode (V : Int)).data.toList:=by
 unfold unitS
 generalize (Utf8.encode (V : Int)).data.toList = E
 rw [if_neg hh]
theorem charB_small (c : Int) (h0 : 0 ≤ c) (h1 : c < 65536) (h2 : ¬ (55296 ≤ c ∧ c ≤ 57343)) : charB c = true:=by
 unfold charB validB
 simp
 omega
theorem nmb_good (x0 x1 x2 x3 : UInt8) (r : Bs) (V : Nat) (hx : hexF [x0,x1,x2,x3] 0 = some V) (w : World) (h : Rd w R s b (x0 :: x1 :: x2 :: x3 :: r)) : Calls Tryz.prog 221 #[.pointer (some ⟨R,0,none⟩)] w fun e w' => e = .returned (.string ⟨(unitS V).toArray⟩) ∧ Rd w' R s b r ∧ Kp (Own1 R) w w':=by
 have hV : V < 65536:=by
  have:=hexF_lt [x0,x1,x2,x3] 0 0 V (by decide) hx
  simpa using this
 have U:=fun w => suint_yes x0 [x1,x2,x3] (by simp) V hx w
 by_cases hh : 55296 ≤ V ∧ V ≤ 57343
 ·rw [show unitS V = halfS V from if_pos hh]
  refine nmb_walkA x0 x1 x2 x3 r (V : Int) _ (by omega) (by omega) U (fun w => ?_) (fun w => half_any V w (by omega) hV) w h
  have H:=isHalf_any (V : Int) w
  rw [decide_eq_true (by omega)] at H
  exact H
 ·rw [unitS_else V hh,mk_toList]
  refine nmb_walkB x0 x1 x2 x3 r (V : Int) _ (by omega) (by omega) U (fun w => ?_) (fun w => put_yes (V : Int) w (charB_small _ (by omega) (by omega) (by omega))) w h
  have H:=isHalf_any (V : Int) w
  rw [decide_eq_false (by omega)] at H
  exact H
theorem nmb_any (l : Bs) (w : World) (h : Rd w R s b l) : Calls Tryz.prog 221 #[.pointer (some ⟨R,0,none⟩)] w (StrP R s b w (nmbS l)):=by
 match l,h with
 | [],h => exact nmb_short [] (by simp) w h
 | [_],h => exact nmb_short [_] (by simp) w h
 | [_,_],h => exact nmb_short [_,_] (by simp) w h
 | [_,_,_],h => exact nmb_short [_,_,_] (by simp) w h
 | x0 :: x1 :: x2 :: x3 :: r,h =>
  rw [nmbS_eq]
  cases hx : hexF [x0,x1,x2,x3] 0 with
  | none => exact nmb_bad x0 x1 x2 x3 r hx w h
  | some V => exact (nmb_good x0 x1 x2 x3 r V hx w h).mono fun e w' ⟨h1,h2,h3⟩ => ⟨⟨h1,h2⟩,h3⟩
end
end Go.Proofs.YtgmlbjfgfmfliaaGreatDoor
