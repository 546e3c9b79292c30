/- A token as it is written; comments; what is ignored. -/
import Derived.Test.YtgmlbjfgfmfliaaGreatDoorA02
import Derived.BigRegion
import Derived.Deep.RegionWith
namespace Go.Proofs.YtgmlbjfgfmfliaaGreatDoor
open Go Go.RowKit
section
variable {R : Nat} {s : Bs} {b : Nat}
theorem ends_yes (w : World) (h : Rd w R s b []) : Calls Tryz.prog 140 #[.pointer (some ⟨R,0,none⟩)] w fun e w' => e = .returned (.bool true) ∧ ∃ m,w' = w.drewN m:=by
 have c0:=h.c0
 have c2:=h.c2
 obtain ⟨h1,_,_⟩:=suf_facts h.suf
 rw [show s.length - ([] : Bs).length = s.length from rfl] at c2
 generalize (ByteArray.mk s.toArray) = S at *
 go_enter Tryz.func140,Tryz.ntmps140
 go_wp2
 go_quiet (fail)
 go_wp2
 go_ret
 exact ⟨rfl,_,rfl⟩
theorem ends_no (c : UInt8) (l : Bs) (w : World) (h : Rd w R s b (c :: l)) : Calls Tryz.prog 140 #[.pointer (some ⟨R,0,none⟩)] w fun e w' => e = .returned (.bool false) ∧ ∃ m,w' = w.drewN m:=by
 have c0:=h.c0
 have c2:=h.c2
 have hle:=h.le
 obtain ⟨h1,_,h3⟩:=suf_facts h.suf
 have hne : (((s.length - (c :: l).length : Nat) : Int) == (s.length : Int)) = false:=by
  rw [beq_eq_false_iff_ne];simp only [List.length_cons] at h3 hle ⊢;omega
 generalize s.length - (c :: l).length = A at *
 generalize (ByteArray.mk s.toArray) = S at *
 go_enter Tryz.func140,Tryz.ntmps140
 go_wp2
 go_quiet (fail)
 go_wp2
 go_ret
 exact ⟨rfl,_,rfl⟩
set_option maxHeartbeats 1000000 in
theorem sees_any (S l : Bs) (w : World) (h : Rd w R s b l) : Calls Tryz.prog 143 #[.pointer (some ⟨R,0,none⟩),.string ⟨S.toArray⟩] w fun e w' => e = .returned (.bool (headIn S l)) ∧ ∃ m,w' = w.drewN m:=by
 cases l with
 | nil =>
  have E:=fun n => ends_yes (w.drewN n) (h.drewN n)
  go_enter Tryz.func143,Tryz.ntmps143
  go_wp2
  go_quiet ((go_at_call 140;exact Calls.quiet_of (E _)))
  go_wp2
  go_ret
  exact ⟨rfl,_,rfl⟩
 | cons c l =>
  have E:=fun n => ends_no c l (w.drewN n) (h.drewN n)
  have c0:=h.c0
  have c2:=h.c2
  have hle:=h.le
  obtain ⟨h1,_,h3⟩:=suf_facts h.suf
  have hg:=suf_get h.suf
  have hlt : ((s.length - (c :: l).length : Nat) : Int) < s.length:=by simp only [List.length_cons] at h3 hle ⊢;omega
  have I:=fun w => Tryz.strings_IndexByte ⟨S.toArray⟩ (c.toNat : Int) w
  have e8 : ((c.toNat : Int)).toNat.toUInt8 = c:=by simp
  rw [e8] at I
  have hx : decide (0 ≤ Lib.indexByte S c) = headIn S (c :: l):=index_ge0 S c
  generalize headIn S (c :: l) = T at *
  have I' : ∀ w,Calls Tryz.prog 180 #[.string ⟨S.toArray⟩,.int .u8 (c.toNat : Int)] w fun e w' => e = .returned (.int .i64 (Lib.indexByte S c)) ∧ w' = w:=I
  clear I
  generalize Lib.indexByte S c = x at *
  generalize s.length - (c :: l).length = A at *
  generalize (ByteArray.mk s.toArray) = D at *
  have hA : ((A : Nat) : Int).toNat = A:=by omega
  go_enter Tryz.func143,Tryz.ntmps143
  go_wp2
  go_quiet (first
   | (go_at_call 140;exact Calls.quiet_of (E _))
   | (go_at_call 180;exact Calls.quiet_of_same (I' _)))
  go_wp2
  go_ret
  exact ⟨by rw [← hx];rfl,_,rfl⟩
set_option maxHeartbeats 1000000 in
theorem take_any (p l : Bs) (w : World) (h : Rd w R s b l) : Calls Tryz.prog 138 #[.pointer (some ⟨R,0,none⟩),.string ⟨p.toArray⟩] w fun e w' => e = .returned (.bool (p.isPrefixOf l)) ∧ Rd w' R s b (optT p l) ∧ Kp (Own1 R) w w':=by
 have c0:=h.c0
 have c2:=h.c2
 have hf:=h.free 2
 have hle:=h.le
 have hsm:=h.small
 obtain ⟨h1,h2,h3⟩:=suf_facts h.suf
 have H:=fun w => Tryz.strings_HasPrefix ⟨l.toArray⟩ ⟨p.toArray⟩ w
 have H' : ∀ w,Calls Tryz.prog 177 #[.string ⟨l.toArray⟩,.string ⟨p.toArray⟩] w fun e w' => e = .returned (.bool (p.isPrefixOf l)) ∧ w' = w:=H
 clear H
 have hA0 : (0 : Int) ≤ ((s.length - l.length : Nat) : Int):=by omega
 have hA1 : ((s.length - l.length : Nat) : Int) ≤ (s.length : Int):=by omega
 by_cases hp : p.isPrefixOf l = true
 ·have hpl : p.length ≤ l.length:=(List.isPrefixOf_iff_prefix.1 hp).length_le
  have hmv:=h.move (drop_suf p.length l) (((s.length - l.length : Nat) : Int) + (p.length : Int)) (by rw [List.length_drop];omega)
  have ho : optT p l = l.drop p.length:=if_pos hp
  rw [ho,hp]
  rw [hp] at H'
  have hp1:=size_of p
  have HM : Hid (Rd (w.setCell ⟨R,2,none⟩ (.int .i64 (((s.length - l.length : Nat) : Int) + (p.length : Int)))) R s b (l.drop p.length)):=hmv
  have hpI : (p.length : Int) ≤ 16384:=by omega
  have hAI : ((s.length - l.length : Nat) : Int) ≤ 16384:=by omega
  have hpI0 : (0 : Int) ≤ (p.length : Int):=by omega
  clear hmv h hp ho
  generalize s.length - l.length = A at *
  generalize (ByteArray.mk s.toArray) = D at *
  generalize (ByteArray.mk l.toArray) = L at *
  generalize (ByteArray.mk p.toArray) = P at *
  go_enter Tryz.func138,Tryz.ntmps138
  go_wp2
  go_quiet ((go_at_call 177;exact Calls.quiet_of_same (H' _)))
  go_wp2
  go_ret
  exact ⟨rfl,HM.out.drewN _,by first | exact (Kp.own R 2 _).drewN _ | exact (Kp.n w _).trans (Kp.own R 2 _)⟩
 ·have hp' : p.isPrefixOf l = false:=Bool.eq_false_iff.2 hp
  have ho : optT p l = l:=if_neg hp
  rw [ho,hp']
  rw [hp'] at H'
  have HM : Hid (Rd w R s b l):=h
  clear h hp ho hp'
  generalize s.length - l.length = A at *
  generalize (ByteArray.mk s.toArray) = D at *
  generalize (ByteArray.mk l.toArray) = L at *
  generalize (ByteArray.mk p.toArray) = P at *
  go_enter Tryz.func138,Tryz.ntmps138
  go_wp2
  go_quiet ((go_at_call 177;exact Calls.quiet_of_same (H' _)))
  go_wp2
  go_ret
  exact ⟨rfl,HM.out.drewN _,(Kp.refl _ _).drewN _⟩
set_option maxHeartbeats 1000000 in
theorem one_any (S l : Bs) (w : World) (h : Rd w R s b l) : Calls Tryz.prog 141 #[.pointer (some ⟨R,0,none⟩),.string ⟨S.toArray⟩] w fun e w' => e = .returned (.bool (headIn S l)) ∧ Rd w' R s b (optO S l) ∧ Kp (Own1 R) w w':=by
 have E:=sees_any S l w h
 have c2:=h.c2
 have hf:=h.free 2
 have hle:=h.le
 have hsm:=h.small
 by_cases hp : headIn S l = true
 ·cases l with
  | nil => cases hp
  | cons c l =>
   have ho : optO S (c :: l) = l:=by unfold optO;rw [if_pos hp];rfl
   have hmv:=h.move (tail_suf c l) (((s.length - (c :: l).length : Nat) : Int) + 1) (by simp only [List.length_cons] at hle ⊢;omega)
   rw [ho,hp]
   rw [hp] at E
   have HM : Hid (Rd (w.setCell ⟨R,2,none⟩ (.int .i64 (((s.length - (c :: l).length : Nat) : Int) + 1))) R s b l):=hmv
   have hAI : ((s.length - (c :: l).length : Nat) : Int) ≤ 16384:=by omega
   have hA0 : (0 : Int) ≤ ((s.length - (c :: l).length : Nat) : Int):=by omega
   clear hmv h hp ho
   generalize s.length - (c :: l).length = A at *
   go_enter Tryz.func141,Tryz.ntmps141
   go_wp2_with (go_at_call 143;refine E.mono ?_;rintro e w1 ⟨rfl,m,rfl⟩)
   go_ret
   exact ⟨rfl,HM.out.drewN _,by first | exact (Kp.own R 2 _).drewN _ | exact (Kp.n w _).trans (Kp.own R 2 _)⟩
 ·have hp' : headIn S l = false:=by simpa using hp
  have ho : optO S l = l:=if_neg hp
  rw [ho,hp']
  rw [hp'] at E
  have HM : Hid (Rd w R s b l):=h
  clear h hp ho hp'
  go_enter Tryz.func141,Tryz.ntmps141
  go_wp2_with (go_at_call 143;refine E.mono ?_;rintro e w1 ⟨rfl,m,rfl⟩)
  go_ret
  exact ⟨rfl,HM.out.drewN _,(Kp.refl _ _).drewN _⟩
theorem byte_any (c : UInt8) (l : Bs) (w : World) (h : Rd w R s b (c :: l)) : Calls Tryz.prog 178 #[.pointer (some ⟨R,0,none⟩)] w fun e w' => e = .returned (.int .u8 (c.toNat : Int)) ∧ Rd w' R s b l ∧ Kp (Own1 R) w w':=by
 have c0:=h.c0
 have c2:=h.c2
 have hf:=h.free 2
 have hle:=h.le
 have hsm:=h.small
 obtain ⟨h1,_,h3⟩:=suf_facts h.suf
 have hg:=suf_get h.suf
 have hmv:=h.move (tail_suf c l) (((s.length - (c :: l).length : Nat) : Int) + 1) (by simp only [List.length_cons] at hle ⊢;omega)
 have HM : Hid (Rd (w.setCell ⟨R,2,none⟩ (.int .i64 (((s.length - (c :: l).length : Nat) : Int) + 1))) R s b l):=hmv
 have hAI : ((s.length - (c :: l).length : Nat) : Int) ≤ 16384:=by omega
 have hlt : ((s.length - (c :: l).length : Nat) : Int) < s.length:=by simp only [List.length_cons] at h3 hle ⊢;omega
 have hA0 : (0 : Int) ≤ ((s.length - (c :: l).length : Nat) : Int):=by omega
 clear hmv h
 generalize s.length - (c :: l).length = A at *
 generalize (ByteArray.mk s.toArray) = D at *
 have e1 : (A : Int) + 1 - 1 = A:=by omega
 have hA : ((A : Nat) : Int).toNat = A:=by omega
 go_enter Tryz.func178,Tryz.ntmps178
 go_wp2
 go_quiet (fail)
 go_wp2
 go_ret
 exact ⟨rfl,HM.out.drewN _,by first | exact (Kp.own R 2 _).drewN _ | exact (Kp.n w _).trans (Kp.own R 2 _)⟩
theorem fail_any (l : Bs) (x : Int) (w : World) (h : Rd w R s b l) : Calls Tryz.prog 100 #[.pointer (some ⟨R,0,none⟩),.int .i64 x] w fun e w' => e = Dies b x ∧ w' = w:=by
 have c1:=h.c1
 go_enter Tryz.func100,Tryz.ntmps100
 go_wp2
 exact ⟨rfl,rfl,rfl⟩
end
end Go.Proofs.YtgmlbjfgfmfliaaGreatDoor
namespace Go.Proofs.YtgmlbjfgfmfliaaGreatDoor
open Go Go.RowKit
section
variable {R : Nat} {s : Bs} {b : Nat}
/-- How much is left, read off the reader. -/
def atOf (w : World) (R : Nat) : Int:=match w.cell? ⟨R,2,none⟩ with | some (.int _ n) => n | _ => 0
theorem atOf_eq {w : World} {l : Bs} (h : Rd w R s b l) : atOf w R = ((s.length - l.length : Nat) : Int):=by
 unfold atOf;rw [h.c2]
theorem spanR_head (S : Bs) : ∀ l : Bs,headIn S l = true → spanR S (l.drop 1) = spanR S l
 | [],h => by cases h
 | c :: l,h => by
  have h' : S.contains c = true:=h
  show spanR S l = spanR S (c :: l)
  conv => rhs;unfold spanR
  rw [if_pos h']
theorem spanR_stop (S : Bs) : ∀ l : Bs,headIn S l = false → spanR S l = l
 | [],_ => rfl
 | c :: l,h => by
  have h' : ¬ S.contains c = true:=by rw [show S.contains c = false from h];simp
  unfold spanR
  rw [if_neg h']
set_option maxHeartbeats 1000000 in
theorem row_any (S l : Bs) (w : World) (h : Rd w R s b l) : Calls Tryz.prog 137 #[.pointer (some ⟨R,0,none⟩),.string ⟨S.toArray⟩] w fun e w' => e = .returned (.bool (headIn S l)) ∧ Rd w' R s b (spanR S l) ∧ Kp (Own1 R) w w':=by
 have c2:=h.c2
 have hle:=h.le
 have hB : Hid (headIn S l = decide (s.length - l.length < s.length - (spanR S l).length)):=by
  show _ = _
  have hs:=(spanR_suf S l).length_le
  by_cases hh : headIn S l = true
  ·rw [hh]
   symm
   rw [decide_eq_true_eq]
   rw [← spanR_head S l hh]
   have:=(spanR_suf S (l.drop 1)).length_le
   have hl : 0 < l.length:=by
    cases l with
    | nil => cases hh
    | cons c l => simp
   rw [List.length_drop] at this
   omega
  ·have hh' : headIn S l = false:=Bool.eq_false_iff.2 hh
   rw [hh',spanR_stop S l hh']
   simp
 have hA0 : (0 : Int) ≤ ((s.length - l.length : Nat) : Int):=by omega
 have HH : Hid (Rd w R s b l):=h
 clear h
 go_enter Tryz.func137,Tryz.ntmps137
 go_wp2
 go_loopw [12] (fun _ wr => ∃ l',Rd wr R s b l' ∧ spanR S l' = spanR S l ∧ Kp (Own1 R) w wr) (fun _ wr => s.length - (atOf wr R).toNat)
 case atStart => exact ⟨l,HH.out,rfl,Kp.refl _ _⟩
 case round =>
  obtain ⟨l',hr,hsp,hk⟩:=hrel
  have O:=one_any S l' wr hr
  have ha:=atOf_eq hr
  have HSP : Hid (spanR S l' = spanR S l):=hsp
  clear hsp
  have hle':=hr.le
  by_cases hh : headIn S l' = true
  ·rw [hh] at O
   have ho : optO S l' = l'.drop 1:=if_pos hh
   rw [ho] at O
   have hl : 0 < l'.length:=by
    cases l' with
    | nil => cases hh
    | cons c l => simp
   have HH' : Hid (headIn S l' = true):=hh
   clear hh ho
   go_wp2_with (go_at_call 141;refine O.mono ?_;rintro e w1 ⟨rfl,hr1,hk1⟩)
   refine ⟨⟨_,hr1,(spanR_head S l' HH'.out).trans HSP.out,hk.trans hk1⟩,?_⟩
   rw [atOf_eq hr1,ha,List.length_drop]
   simp only [Int.toNat_natCast]
   omega
  ·have hh' : headIn S l' = false:=Bool.eq_false_iff.2 hh
   rw [hh'] at O
   have ho : optO S l' = l':=if_neg hh
   rw [ho] at O
   have HE : Hid (l' = spanR S l):=(spanR_stop S l' hh').symm.trans HSP.out
   clear hh ho hh'
   go_wp2_with (go_at_call 141;refine O.mono ?_;rintro e w1 ⟨rfl,hr1,hk1⟩;have d2:=hr1.c2)
   go_ret
   have e:=HE.out
   subst e
   exact ⟨by rw [hB.out];rfl,hr1,hk.trans hk1⟩
theorem need_yes (l : Bs) (w : World) (h : Rd w R s b l) (hh : headIn digL l = true) : Calls Tryz.prog 181 #[.pointer (some ⟨R,0,none⟩)] w fun e w' => e = .returned (.tuple #[]) ∧ Rd w' R s b (spanR digL l) ∧ Kp (Own1 R) w w':=by
 have O:=row_any digL l w h
 rw [hh] at O
 clear hh
 go_enter Tryz.func181,Tryz.ntmps181
 go_wp2_with (go_at_call 137;refine O.mono ?_;rintro e w1 ⟨rfl,hr1,hk1⟩)
 go_end0
 exact ⟨rfl,hr1,hk1⟩
theorem need_no (l : Bs) (w : World) (h : Rd w R s b l) (hh : headIn digL l = false) : Calls Tryz.prog 181 #[.pointer (some ⟨R,0,none⟩)] w fun e w' => e = Dies b 51 ∧ Kp (Own1 R) w w':=by
 have O:=row_any digL l w h
 rw [hh] at O
 clear hh
 go_enter Tryz.func181,Tryz.ntmps181
 go_wp2_with (first
  | (go_at_call 137;refine O.mono ?_;rintro e w1 ⟨rfl,hr1,hk1⟩)
  | (go_at_call 100;refine (fail_any _ _ _ hr1).mono ?_;rintro e w2 ⟨rfl,rfl⟩))
 exact ⟨rfl,rfl,hk1⟩
/-- A step of the reader that tells this. -/
def Goes (f : FuncId) (R : Nat) (s : Bs) (b : Nat) (l : Bs) (v : Value) (m : Bs) : Prop:=∀ w,Rd w R s b l → Calls Tryz.prog f #[.pointer (some ⟨R,0,none⟩)] w fun e w' => e = .returned v ∧ Rd w' R s b m ∧ Kp (Own1 R) w w'
/-- A step of the reader that gives up. -/
def Gives (f : FuncId) (R : Nat) (s : Bs) (b : Nat) (l : Bs) (x : Int) : Prop:=∀ w,Rd w R s b l → Calls Tryz.prog f #[.pointer (some ⟨R,0,none⟩)] w fun e w' => e = Dies b x ∧ Kp (Own1 R) w w'
theorem needD_yes (l r : Bs) (h : needD l = some r) : Goes 181 R s b l (.tuple #[]) r:=by
 intro w hr
 unfold needD at h
 by_cases hh : headIn digL l = true
 ·rw [if_pos hh] at h;cases h;exact need_yes l w hr hh
 ·rw [if_neg hh] at h;cases h
theorem needD_no (l : Bs) (h : needD l = none) : Gives 181 R s b l 51:=by
 intro w hr
 unfold needD at h
 by_cases hh : headIn digL l = true
 ·rw [if_pos hh] at h;cases h
 ·exact need_no l w hr (Bool.eq_false_iff.2 hh)
/-- What follows a number may not be one of these. -/
def numL : Bs:=digL ++ 46 :: letL
end
end Go.Proofs.YtgmlbjfgfmfliaaGreatDoor
namespace Go.Proofs.YtgmlbjfgfmfliaaGreatDoor
open Go Go.RowKit
section
variable {R : Nat} {s : Bs} {b : Nat}
/-- The number's post. -/
def NumP (R : Nat) (s : Bs) (b : Nat) (w : World) (r : Option (Int × Bs)) (e : Ending) (w' : World) : Prop:=(match r with
  | some p => e = .returned (.int .i64 p.1) ∧ Rd w' R s b p.2
  | none => e = Dies b 51) ∧ Kp (Own1 R) w w'
set_option maxHeartbeats 1000000 in
theorem num_1 (l l0 l1 : Bs) (B0 : Bool) (T0 : ∀ w,Rd w R s b l → Calls Tryz.prog 138 #[.pointer (some ⟨R,0,none⟩),.string ⟨#[45]⟩] w fun e w' => e = .returned (.bool B0) ∧ Rd w' R s b l0 ∧ Kp (Own1 R) w w') (T1 : ∀ w,Rd w R s b l0 → Calls Tryz.prog 138 #[.pointer (some ⟨R,0,none⟩),.string ⟨#[48]⟩] w fun e w' => e = .returned (.bool true) ∧ Rd w' R s b l1 ∧ Kp (Own1 R) w w') (T2 : ∀ w,Rd w R s b l1 → Calls Tryz.prog 138 #[.pointer (some ⟨R,0,none⟩),.string ⟨#[46]⟩] w fun e w' => e = .returned (.bool false) ∧ Rd w' R s b l1 ∧ Kp (Own1 R) w w') (O3 : ∀ w,Rd w R s b l1 → Calls Tryz.prog 141 #[.pointer (some ⟨R,0,none⟩),.string ⟨#[101,69]⟩] w fun e w' => e = .returned (.bool false) ∧ Rd w' R s b l1 ∧ Kp (Own1 R) w w') (S5 : ∀ w,Rd w R s b l1 → Calls Tryz.prog 143 #[.pointer (some ⟨R,0,none⟩),.string ⟨numL.toArray⟩] w fun e w' => e = .returned (.bool false) ∧ Rd w' R s b l1 ∧ Kp (Own1 R) w w') (w : World) (h : Rd w R s b l) : Calls Tryz.prog 144 #[.pointer (some ⟨R,0,none⟩)] w (NumP R s b w (some (2,l1))):=by
 go_enter Tryz.func144,Tryz.ntmps144
 go_wp2_with (first
  | (go_at_call 143;refine (S5 _ hr4).mono ?_;rintro e w5 ⟨rfl,hr5,hk5⟩)
  | (go_at_call 141;refine (O3 _ hr3).mono ?_;rintro e w4 ⟨rfl,hr4,hk4⟩)
  | (go_at_call 138;refine (T2 _ hr2).mono ?_;rintro e w3 ⟨rfl,hr3,hk3⟩)
  | (go_at_call 138;refine (T1 _ hr1).mono ?_;rintro e w2 ⟨rfl,hr2,hk2⟩)
  | (go_at_call 138;refine (T0 _ h).mono ?_;rintro e w1 ⟨rfl,hr1,hk1⟩)
  | fail)
 go_ret
 exact ⟨⟨rfl,hr5⟩,(((hk1.trans hk2).trans hk3).trans hk4).trans hk5⟩
set_option maxHeartbeats 1000000 in
theorem num_2 (l l0 l1 : Bs) (B0 : Bool) (T0 : ∀ w,Rd w R s b l → Calls Tryz.prog 138 #[.pointer (some ⟨R,0,none⟩),.string ⟨#[45]⟩] w fun e w' => e = .returned (.bool B0) ∧ Rd w' R s b l0 ∧ Kp (Own1 R) w w') (T1 : ∀ w,Rd w R s b l0 → Calls Tryz.prog 138 #[.pointer (some ⟨R,0,none⟩),.string ⟨#[48]⟩] w fun e w' => e = .returned (.bool true) ∧ Rd w' R s b l1 ∧ Kp (Own1 R) w w') (T2 : ∀ w,Rd w R s b l1 → Calls Tryz.prog 138 #[.pointer (some ⟨R,0,none⟩),.string ⟨#[46]⟩] w fun e w' => e = .returned (.bool false) ∧ Rd w' R s b l1 ∧ Kp (Own1 R) w w') (O3 : ∀ w,Rd w R s b l1 → Calls Tryz.prog 141 #[.pointer (some ⟨R,0,none⟩),.string ⟨#[101,69]⟩] w fun e w' => e = .returned (.bool false) ∧ Rd w' R s b l1 ∧ Kp (Own1 R) w w') (S5 : ∀ w,Rd w R s b l1 → Calls Tryz.prog 143 #[.pointer (some ⟨R,0,none⟩),.string ⟨numL.toArray⟩] w fun e w' => e = .returned (.bool true) ∧ Rd w' R s b l1 ∧ Kp (Own1 R) w w') (w : World) (h : Rd w R s b l) : Calls Tryz.prog 144 #[.pointer (some ⟨R,0,none⟩)] w (NumP R s b w none):=by
 go_enter Tryz.func144,Tryz.ntmps144
 go_wp2_with (first
  | (go_at_call 100;refine (fail_any _ _ _ hr5).mono ?_;rintro e w6 ⟨rfl,rfl⟩)
  | (go_at_call 143;refine (S5 _ hr4).mono ?_;rintro e w5 ⟨rfl,hr5,hk5⟩)
  | (go_at_call 141;refine (O3 _ hr3).mono ?_;rintro e w4 ⟨rfl,hr4,hk4⟩)
  | (go_at_call 138;refine (T2 _ hr2).mono ?_;rintro e w3 ⟨rfl,hr3,hk3⟩)
  | (go_at_call 138;refine (T1 _ hr1).mono ?_;rintro e w2 ⟨rfl,hr2,hk2⟩)
  | (go_at_call 138;refine (T0 _ h).mono ?_;rintro e w1 ⟨rfl,hr1,hk1⟩)
  | fail)
 exact ⟨rfl,rfl,(((hk1.trans hk2).trans hk3).trans hk4).trans hk5⟩
set_option maxHeartbeats 1000000 in
theorem num_3 (l l0 l1 l3 m2 m3 : Bs) (B0 B4 : Bool) (T0 : ∀ w,Rd w R s b l → Calls Tryz.prog 138 #[.pointer (some ⟨R,0,none⟩),.string ⟨#[45]⟩] w fun e w' => e = .returned (.bool B0) ∧ Rd w' R s b l0 ∧ Kp (Own1 R) w w') (T1 : ∀ w,Rd w R s b l0 → Calls Tryz.prog 138 #[.pointer (some ⟨R,0,none⟩),.string ⟨#[48]⟩] w fun e w' => e = .returned (.bool true) ∧ Rd w' R s b l1 ∧ Kp (Own1 R) w w') (T2 : ∀ w,Rd w R s b l1 → Calls Tryz.prog 138 #[.pointer (some ⟨R,0,none⟩),.string ⟨#[46]⟩] w fun e w' => e = .returned (.bool false) ∧ Rd w' R s b l1 ∧ Kp (Own1 R) w w') (O3 : ∀ w,Rd w R s b l1 → Calls Tryz.prog 141 #[.pointer (some ⟨R,0,none⟩),.string ⟨#[101,69]⟩] w fun e w' => e = .returned (.bool true) ∧ Rd w' R s b m2 ∧ Kp (Own1 R) w w') (O4 : ∀ w,Rd w R s b m2 → Calls Tryz.prog 141 #[.pointer (some ⟨R,0,none⟩),.string ⟨#[43,45]⟩] w fun e w' => e = .returned (.bool B4) ∧ Rd w' R s b m3 ∧ Kp (Own1 R) w w') (N3 : Goes 181 R s b m3 (.tuple #[]) l3) (S5 : ∀ w,Rd w R s b l3 → Calls Tryz.prog 143 #[.pointer (some ⟨R,0,none⟩),.string ⟨numL.toArray⟩] w fun e w' => e = .returned (.bool false) ∧ Rd w' R s b l3 ∧ Kp (Own1 R) w w') (w : World) (h : Rd w R s b l) : Calls Tryz.prog 144 #[.pointer (some ⟨R,0,none⟩)] w (NumP R s b w (some (3,l3))):=by
 go_enter Tryz.func144,Tryz.ntmps144
 go_wp2_with (first
  | (go_at_call 143;refine (S5 _ hr6).mono ?_;rintro e w7 ⟨rfl,hr7,hk7⟩)
  | (go_at_call 181;refine (N3 _ hr5).mono ?_;rintro e w6 ⟨rfl,hr6,hk6⟩)
  | (go_at_call 141;refine (O4 _ hr4).mono ?_;rintro e w5 ⟨rfl,hr5,hk5⟩)
  | (go_at_call 141;refine (O3 _ hr3).mono ?_;rintro e w4 ⟨rfl,hr4,hk4⟩)
  | (go_at_call 138;refine (T2 _ hr2).mono ?_;rintro e w3 ⟨rfl,hr3,hk3⟩)
  | (go_at_call 138;refine (T1 _ hr1).mono ?_;rintro e w2 ⟨rfl,hr2,hk2⟩)
  | (go_at_call 138;refine (T0 _ h).mono ?_;rintro e w1 ⟨rfl,hr1,hk1⟩)
  | fail)
 go_ret
 exact ⟨⟨rfl,hr7⟩,(((((hk1.trans hk2).trans hk3).trans hk4).trans hk5).trans hk6).trans hk7⟩
set_option maxHeartbeats 1000000 in
theorem num_4 (l l0 l1 l3 m2 m3 : Bs) (B0 B4 : Bool) (T0 : ∀ w,Rd w R s b l → Calls Tryz.prog 138 #[.pointer (some ⟨R,0,none⟩),.string ⟨#[45]⟩] w fun e w' => e = .returned (.bool B0) ∧ Rd w' R s b l0 ∧ Kp (Own1 R) w w') (T1 : ∀ w,Rd w R s b l0 → Calls Tryz.prog 138 #[.pointer (some ⟨R,0,none⟩),.string ⟨#[48]⟩] w fun e w' => e = .returned (.bool true) ∧ Rd w' R s b l1 ∧ Kp (Own1 R) w w') (T2 : ∀ w,Rd w R s b l1 → Calls Tryz.prog 138 #[.pointer (some ⟨R,0,none⟩),.string ⟨#[46]⟩] w fun e w' => e = .returned (.bool false) ∧ Rd w' R s b l1 ∧ Kp (Own1 R) w w') (O3 : ∀ w,Rd w R s b l1 → Calls Tryz.prog 141 #[.pointer (some ⟨R,0,none⟩),.string ⟨#[101,69]⟩] w fun e w' => e = .returned (.bool true) ∧ Rd w' R s b m2 ∧ Kp (Own1 R) w w') (O4 : ∀ w,Rd w R s b m2 → Calls Tryz.prog 141 #[.pointer (some ⟨R,0,none⟩),.string ⟨#[43,45]⟩] w fun e w' => e = .returned (.bool B4) ∧ Rd w' R s b m3 ∧ Kp (Own1 R) w w') (N3 : Goes 181 R s b m3 (.tuple #[]) l3) (S5 : ∀ w,Rd w R s b l3 → Calls Tryz.prog 143 #[.pointer (some ⟨R,0,none⟩),.string ⟨numL.toArray⟩] w fun e w' => e = .returned (.bool true) ∧ Rd w' R s b l3 ∧ Kp (Own1 R) w w') (w : World) (h : Rd w R s b l) : Calls Tryz.prog 144 #[.pointer (some ⟨R,0,none⟩)] w (NumP R s b w none):=by
 go_enter Tryz.func144,Tryz.ntmps144
 go_wp2_with (first
  | (go_at_call 100;refine (fail_any _ _ _ hr7).mono ?_;rintro e w8 ⟨rfl,rfl⟩)
  | (go_at_call 143;refine (S5 _ hr6).mono ?_;rintro e w7 ⟨rfl,hr7,hk7⟩)
  | (go_at_call 181;refine (N3 _ hr5).mono ?_;rintro e w6 ⟨rfl,hr6,hk6⟩)
  | (go_at_call 141;refine (O4 _ hr4).mono ?_;rintro e w5 ⟨rfl,hr5,hk5⟩)
  | (go_at_call 141;refine (O3 _ hr3).mono ?_;rintro e w4 ⟨rfl,hr4,hk4⟩)
  | (go_at_call 138;refine (T2 _ hr2).mono ?_;rintro e w3 ⟨rfl,hr3,hk3⟩)
  | (go_at_call 138;refine (T1 _ hr1).mono ?_;rintro e w2 ⟨rfl,hr2,hk2⟩)
  | (go_at_call 138;refine (T0 _ h).mono ?_;rintro e w1 ⟨rfl,hr1,hk1⟩)
  | fail)
 exact ⟨rfl,rfl,(((((hk1.trans hk2).trans hk3).trans hk4).trans hk5).trans hk6).trans hk7⟩
set_option maxHeartbeats 1000000 in
theorem num_5 (l l0 l1 m2 m3 : Bs) (B0 B4 : Bool) (T0 : ∀ w,Rd w R s b l → Calls Tryz.prog 138 #[.pointer (some ⟨R,0,none⟩),.string ⟨#[45]⟩] w fun e w' => e = .returned (.bool B0) ∧ Rd w' R s b l0 ∧ Kp (Own1 R) w w') (T1 : ∀ w,Rd w R s b l0 → Calls Tryz.prog 138 #[.pointer (some ⟨R,0,none⟩),.string ⟨#[48]⟩] w fun e w' => e = .returned (.bool true) ∧ Rd w' R s b l1 ∧ Kp (Own1 R) w w') (T2 : ∀ w,Rd w R s b l1 → Calls Tryz.prog 138 #[.pointer (some ⟨R,0,none⟩),.string ⟨#[46]⟩] w fun e w' => e = .returned (.bool false) ∧ Rd w' R s b l1 ∧ Kp (Own1 R) w w') (O3 : ∀ w,Rd w R s b l1 → Calls Tryz.prog 141 #[.pointer (some ⟨R,0,none⟩),.string ⟨#[101,69]⟩] w fun e w' => e = .returned (.bool true) ∧ Rd w' R s b m2 ∧ Kp (Own1 R) w w') (O4 : ∀ w,Rd w R s b m2 → Calls Tryz.prog 141 #[.pointer (some ⟨R,0,none⟩),.string ⟨#[43,45]⟩] w fun e w' => e = .returned (.bool B4) ∧ Rd w' R s b m3 ∧ Kp (Own1 R) w w') (N3 : Gives 181 R s b m3 51) (w : World) (h : Rd w R s b l) : Calls Tryz.prog 144 #[.pointer (some ⟨R,0,none⟩)] w (NumP R s b w none):=by
 go_enter Tryz.func144,Tryz.ntmps144
 go_wp2_with (first
  | (go_at_call 181;refine (N3 _ hr5).mono ?_;rintro e w6 ⟨rfl,hk6⟩)
  | (go_at_call 141;refine (O4 _ hr4).mono ?_;rintro e w5 ⟨rfl,hr5,hk5⟩)
  | (go_at_call 141;refine (O3 _ hr3).mono ?_;rintro e w4 ⟨rfl,hr4,hk4⟩)
  | (go_at_call 138;refine (T2 _ hr2).mono ?_;rintro e w3 ⟨rfl,hr3,hk3⟩)
  | (go_at_call 138;refine (T1 _ hr1).mono ?_;rintro e w2 ⟨rfl,hr2,hk2⟩)
  | (go_at_call 138;refine (T0 _ h).mono ?_;rintro e w1 ⟨rfl,hr1,hk1⟩)
  | fail)
 exact ⟨rfl,rfl,((((hk1.trans hk2).trans hk3).trans hk4).trans hk5).trans hk6⟩
set_option maxHeartbeats 1000000 in
theorem num_6 (l l0 l1 l2 m1 : Bs) (B0 : Bool) (T0 : ∀ w,Rd w R s b l → Calls Tryz.prog 138 #[.pointer (some ⟨R,0,none⟩),.string ⟨#[45]⟩] w fun e w' => e = .returned (.bool B0) ∧ Rd w' R s b l0 ∧ Kp (Own1 R) w w') (T1 : ∀ w,Rd w R s b l0 → Calls Tryz.prog 138 #[.pointer (some ⟨R,0,none⟩),.string ⟨#[48]⟩] w fun e w' => e = .returned (.bool true) ∧ Rd w' R s b l1 ∧ Kp (Own1 R) w w') (T2 : ∀ w,Rd w R s b l1 → Calls Tryz.prog 138 #[.pointer (some ⟨R,0,none⟩),.string ⟨#[46]⟩] w fun e w' => e = .returned (.bool true) ∧ Rd w' R s b m1 ∧ Kp (Own1 R) w w') (N2 : Goes 181 R s b m1 (.tuple #[]) l2) (O3 : ∀ w,Rd w R s b l2 → Calls Tryz.prog 141 #[.pointer (some ⟨R,0,none⟩),.string ⟨#[101,69]⟩] w fun e w' => e = .returned (.bool false) ∧ Rd w' R s b l2 ∧ Kp (Own1 R) w w') (S5 : ∀ w,Rd w R s b l2 → Calls Tryz.prog 143 #[.pointer (some ⟨R,0,none⟩),.string ⟨numL.toArray⟩] w fun e w' => e = .returned (.bool false) ∧ Rd w' R s b l2 ∧ Kp (Own1 R) w w') (w : World) (h : Rd w R s b l) : Calls Tryz.prog 144 #[.pointer (some ⟨R,0,none⟩)] w (NumP R s b w (some (3,l2))):=by
 go_enter Tryz.func144,Tryz.ntmps144
 go_wp2_with (first
  | (go_at_call 143;refine (S5 _ hr5).mono ?_;rintro e w6 ⟨rfl,hr6,hk6⟩)
  | (go_at_call 141;refine (O3 _ hr4).mono ?_;rintro e w5 ⟨rfl,hr5,hk5⟩)
  | (go_at_call 181;refine (N2 _ hr3).mono ?_;rintro e w4 ⟨rfl,hr4,hk4⟩)
  | (go_at_call 138;refine (T2 _ hr2).mono ?_;rintro e w3 ⟨rfl,hr3,hk3⟩)
  | (go_at_call 138;refine (T1 _ hr1).mono ?_;rintro e w2 ⟨rfl,hr2,hk2⟩)
  | (go_at_call 138;refine (T0 _ h).mono ?_;rintro e w1 ⟨rfl,hr1,hk1⟩)
  | fail)
 go_ret
 exact ⟨⟨rfl,hr6⟩,((((hk1.trans hk2).trans hk3).trans hk4).trans hk5).trans hk6⟩
set_option maxHeartbeats 1000000 in
theorem num_7 (l l0 l1 l2 m1 : Bs) (B0 : Bool) (T0 : ∀ w,Rd w R s b l → Calls Tryz.prog 138 #[.pointer (some ⟨R,0,none⟩),.string ⟨#[45]⟩] w fun e w' => e = .returned (.bool B0) ∧ Rd w' R s b l0 ∧ Kp (Own1 R) w w') (T1 : ∀ w,Rd w R s b l0 → Calls Tryz.prog 138 #[.pointer (some ⟨R,0,none⟩),.string ⟨#[48]⟩] w fun e w' => e = .returned (.bool true) ∧ Rd w' R s b l1 ∧ Kp (Own1 R) w w') (T2 : ∀ w,Rd w R s b l1 → Calls Tryz.prog 138 #[.pointer (some ⟨R,0,none⟩),.string ⟨#[46]⟩] w fun e w' => e = .returned (.bool true) ∧ Rd w' R s b m1 ∧ Kp (Own1 R) w w') (N2 : Goes 181 R s b m1 (.tuple #[]) l2) (O3 : ∀ w,Rd w R s b l2 → Calls Tryz.prog 141 #[.pointer (some ⟨R,0,none⟩),.string ⟨#[101,69]⟩] w fun e w' => e = .returned (.bool false) ∧ Rd w' R s b l2 ∧ Kp (Own1 R) w w') (S5 : ∀ w,Rd w R s b l2 → Calls Tryz.prog 143 #[.pointer (some ⟨R,0,none⟩),.string ⟨numL.toArray⟩] w fun e w' => e = .returned (.bool true) ∧ Rd w' R s b l2 ∧ Kp (Own1 R) w w') (w : World) (h : Rd w R s b l) : Calls Tryz.prog 144 #[.pointer (some ⟨R,0,none⟩)] w (NumP R s b w none):=by
 go_enter Tryz.func144,Tryz.ntmps144
 go_wp2_with (first
  | (go_at_call 100;refine (fail_any _ _ _ hr6).mono ?_;rintro e w7 ⟨rfl,rfl⟩)
  | (go_at_call 143;refine (S5 _ hr5).mono ?_;rintro e w6 ⟨rfl,hr6,hk6⟩)
  | (go_at_call 141;refine (O3 _ hr4).mono ?_;rintro e w5 ⟨rfl,hr5,hk5⟩)
  | (go_at_call 181;refine (N2 _ hr3).mono ?_;rintro e w4 ⟨rfl,hr4,hk4⟩)
  | (go_at_call 138;refine (T2 _ hr2).mono ?_;rintro e w3 ⟨rfl,hr3,hk3⟩)
  | (go_at_call 138;refine (T1 _ hr1).mono ?_;rintro e w2 ⟨rfl,hr2,hk2⟩)
  | (go_at_call 138;refine (T0 _ h).mono ?_;rintro e w1 ⟨rfl,hr1,hk1⟩)
  | fail)
 exact ⟨rfl,rfl,((((hk1.trans hk2).trans hk3).trans hk4).trans hk5).trans hk6⟩
set_option maxHeartbeats 1000000 in
theorem num_8 (l l0 l1 l2 l3 m1 m2 m3 : Bs) (B0 B4 : Bool) (T0 : ∀ w,Rd w R s b l → Calls Tryz.prog 138 #[.pointer (some ⟨R,0,none⟩),.string ⟨#[45]⟩] w fun e w' => e = .returned (.bool B0) ∧ Rd w' R s b l0 ∧ Kp (Own1 R) w w') (T1 : ∀ w,Rd w R s b l0 → Calls Tryz.prog 138 #[.pointer (some ⟨R,0,none⟩),.string ⟨#[48]⟩] w fun e w' => e = .returned (.bool true) ∧ Rd w' R s b l1 ∧ Kp (Own1 R) w w') (T2 : ∀ w,Rd w R s b l1 → Calls Tryz.prog 138 #[.pointer (some ⟨R,0,none⟩),.string ⟨#[46]⟩] w fun e w' => e = .returned (.bool true) ∧ Rd w' R s b m1 ∧ Kp (Own1 R) w w') (N2 : Goes 181 R s b m1 (.tuple #[]) l2) (O3 : ∀ w,Rd w R s b l2 → Calls Tryz.prog 141 #[.pointer (some ⟨R,0,none⟩),.string ⟨#[101,69]⟩] w fun e w' => e = .returned (.bool true) ∧ Rd w' R s b m2 ∧ Kp (Own1 R) w w') (O4 : ∀ w,Rd w R s b m2 → Calls Tryz.prog 141 #[.pointer (some ⟨R,0,none⟩),.string ⟨#[43,45]⟩] w fun e w' => e = .returned (.bool B4) ∧ Rd w' R s b m3 ∧ Kp (Own1 R) w w') (N3 : Goes 181 R s b m3 (.tuple #[]) l3) (S5 : ∀ w,Rd w R s b l3 → Calls Tryz.prog 143 #[.pointer (some ⟨R,0,none⟩),.string ⟨numL.toArray⟩] w fun e w' => e = .returned (.bool false) ∧ Rd w' R s b l3 ∧ Kp (Own1 R) w w') (w : World) (h : Rd w R s b l) : Calls Tryz.prog 144 #[.pointer (some ⟨R,0,none⟩)] w (NumP R s b w (some (3,l3))):=by
 go_enter Tryz.func144,Tryz.ntmps144
 go_wp2_with (first
  | (go_at_call 143;refine (S5 _ hr7).mono ?_;rintro e w8 ⟨rfl,hr8,hk8⟩)
  | (go_at_call 181;refine (N3 _ hr6).mono ?_;rintro e w7 ⟨rfl,hr7,hk7⟩)
  | (go_at_call 141;refine (O4 _ hr5).mono ?_;rintro e w6 ⟨rfl,hr6,hk6⟩)
  | (go_at_call 141;refine (O3 _ hr4).mono ?_;rintro e w5 ⟨rfl,hr5,hk5⟩)
  | (go_at_call 181;refine (N2 _ hr3).mono ?_;rintro e w4 ⟨rfl,hr4,hk4⟩)
  | (go_at_call 138;refine (T2 _ hr2).mono ?_;rintro e w3 ⟨rfl,hr3,hk3⟩)
  | (go_at_call 138;refine (T1 _ hr1).mono ?_;rintro e w2 ⟨rfl,hr2,hk2⟩)
  | (go_at_call 138;refine (T0 _ h).mono ?_;rintro e w1 ⟨rfl,hr1,hk1⟩)
  | fail)
 go_ret
 exact ⟨⟨rfl,hr8⟩,((((((hk1.trans hk2).trans hk3).trans hk4).trans hk5).trans hk6).trans hk7).trans hk8⟩
set_option maxHeartbeats 1000000 in
theorem num_9 (l l0 l1 l2 l3 m1 m2 m3 : Bs) (B0 B4 : Bool) (T0 : ∀ w,Rd w R s b l → Calls Tryz.prog 138 #[.pointer (some ⟨R,0,none⟩),.string ⟨#[45]⟩] w fun e w' => e = .returned (.bool B0) ∧ Rd w' R s b l0 ∧ Kp (Own1 R) w w') (T1 : ∀ w,Rd w R s b l0 → Calls Tryz.prog 138 #[.pointer (some ⟨R,0,none⟩),.string ⟨#[48]⟩] w fun e w' => e = .returned (.bool true) ∧ Rd w' R s b l1 ∧ Kp (Own1 R) w w') (T2 : ∀ w,Rd w R s b l1 → Calls Tryz.prog 138 #[.pointer (some ⟨R,0,none⟩),.string ⟨#[46]⟩] w fun e w' => e = .returned (.bool true) ∧ Rd w' R s b m1 ∧ Kp (Own1 R) w w') (N2 : Goes 181 R s b m1 (.tuple #[]) l2) (O3 : ∀ w,Rd w R s b l2 → Calls Tryz.prog 141 #[.pointer (some ⟨R,0,none⟩),.string ⟨#[101,69]⟩] w fun e w' => e = .returned (.bool true) ∧ Rd w' R s b m2 ∧ Kp (Own1 R) w w') (O4 : ∀ w,Rd w R s b m2 → Calls Tryz.prog 141 #[.pointer (some ⟨R,0,none⟩),.string ⟨#[43,45]⟩] w fun e w' => e = .returned (.bool B4) ∧ Rd w' R s b m3 ∧ Kp (Own1 R) w w') (N3 : Goes 181 R s b m3 (.tuple #[]) l3) (S5 : ∀ w,Rd w R s b l3 → Calls Tryz.prog 143 #[.pointer (some ⟨R,0,none⟩),.string ⟨numL.toArray⟩] w fun e w' => e = .returned (.bool true) ∧ Rd w' R s b l3 ∧ Kp (Own1 R) w w') (w : World) (h : Rd w R s b l) : Calls Tryz.prog 144 #[.pointer (some ⟨R,0,none⟩)] w (NumP R s b w none):=by
 go_enter Tryz.func144,Tryz.ntmps144
 go_wp2_with (first
  | (go_at_call 100;refine (fail_any _ _ _ hr8).mono ?_;rintro e w9 ⟨rfl,rfl⟩)
  | (go_at_call 143;refine (S5 _ hr7).mono ?_;rintro e w8 ⟨rfl,hr8,hk8⟩)
  | (go_at_call 181;refine (N3 _ hr6).mono ?_;rintro e w7 ⟨rfl,hr7,hk7⟩)
  | (go_at_call 141;refine (O4 _ hr5).mono ?_;rintro e w6 ⟨rfl,hr6,hk6⟩)
  | (go_at_call 141;refine (O3 _ hr4).mono ?_;rintro e w5 ⟨rfl,hr5,hk5⟩)
  | (go_at_call 181;refine (N2 _ hr3).mono ?_;rintro e w4 ⟨rfl,hr4,hk4⟩)
  | (go_at_call 138;refine (T2 _ hr2).mono ?_;rintro e w3 ⟨rfl,hr3,hk3⟩)
  | (go_at_call 138;refine (T1 _ hr1).mono ?_;rintro e w2 ⟨rfl,hr2,hk2⟩)
  | (go_at_call 138;refine (T0 _ h).mono ?_;rintro e w1 ⟨rfl,hr1,hk1⟩)
  | fail)
 exact ⟨rfl,rfl,((((((hk1.trans hk2).trans hk3).trans hk4).trans hk5).trans hk6).trans hk7).trans hk8⟩
set_option maxHeartbeats 1000000 in
theorem num_10 (l l0 l1 l2 m1 m2 m3 : Bs) (B0 B4 : Bool) (T0 : ∀ w,Rd w R s b l → Calls Tryz.prog 138 #[.pointer (some ⟨R,0,none⟩),.string ⟨#[45]⟩] w fun e w' => e = .returned (.bool B0) ∧ Rd w' R s b l0 ∧ Kp (Own1 R) w w') (T1 : ∀ w,Rd w R s b l0 → Calls Tryz.prog 138 #[.pointer (some ⟨R,0,none⟩),.string ⟨#[48]⟩] w fun e w' => e = .returned (.bool true) ∧ Rd w' R s b l1 ∧ Kp (Own1 R) w w') (T2 : ∀ w,Rd w R s b l1 → Calls Tryz.prog 138 #[.pointer (some ⟨R,0,none⟩),.string ⟨#[46]⟩] w fun e w' => e = .returned (.bool true) ∧ Rd w' R s b m1 ∧ Kp (Own1 R) w w') (N2 : Goes 181 R s b m1 (.tuple #[]) l2) (O3 : ∀ w,Rd w R s b l2 → Calls Tryz.prog 141 #[.pointer (some ⟨R,0,none⟩),.string ⟨#[101,69]⟩] w fun e w' => e = .returned (.bool true) ∧ Rd w' R s b m2 ∧ Kp (Own1 R) w w') (O4 : ∀ w,Rd w R s b m2 → Calls Tryz.prog 141 #[.pointer (some ⟨R,0,none⟩),.string ⟨#[43,45]⟩] w fun e w' => e = .returned (.bool B4) ∧ Rd w' R s b m3 ∧ Kp (Own1 R) w w') (N3 : Gives 181 R s b m3 51) (w : World) (h : Rd w R s b l) : Calls Tryz.prog 144 #[.pointer (some ⟨R,0,none⟩)] w (NumP R s b w none):=by
 go_enter Tryz.func144,Tryz.ntmps144
 go_wp2_with (first
  | (go_at_call 181;refine (N3 _ hr6).mono ?_;rintro e w7 ⟨rfl,hk7⟩)
  | (go_at_call 141;refine (O4 _ hr5).mono ?_;rintro e w6 ⟨rfl,hr6,hk6⟩)
  | (go_at_call 141;refine (O3 _ hr4).mono ?_;rintro e w5 ⟨rfl,hr5,hk5⟩)
  | (go_at_call 181;refine (N2 _ hr3).mono ?_;rintro e w4 ⟨rfl,hr4,hk4⟩)
  | (go_at_call 138;refine (T2 _ hr2).mono ?_;rintro e w3 ⟨rfl,hr3,hk3⟩)
  | (go_at_call 138;refine (T1 _ hr1).mono ?_;rintro e w2 ⟨rfl,hr2,hk2⟩)
  | (go_at_call 138;refine (T0 _ h).mono ?_;rintro e w1 ⟨rfl,hr1,hk1⟩)
  | fail)
 exact ⟨rfl,rfl,(((((hk1.trans hk2).trans hk3).trans hk4).trans hk5).trans hk6).trans hk7⟩
set_option maxHeartbeats 1000000 in
theorem num_11 (l l0 l1 m1 : Bs) (B0 : Bool) (T0 : ∀ w,Rd w R s b l → Calls Tryz.prog 138 #[.pointer (some ⟨R,0,none⟩),.string ⟨#[45]⟩] w fun e w' => e = .returned (.bool B0) ∧ Rd w' R s b l0 ∧ Kp (Own1 R) w w') (T1 : ∀ w,Rd w R s b l0 → Calls Tryz.prog 138 #[.pointer (some ⟨R,0,none⟩),.string ⟨#[48]⟩] w fun e w' => e = .returned (.bool true) ∧ Rd w' R s b l1 ∧ Kp (Own1 R) w w') (T2 : ∀ w,Rd w R s b l1 → Calls Tryz.prog 138 #[.pointer (some ⟨R,0,none⟩),.string ⟨#[46]⟩] w fun e w' => e = .returned (.bool true) ∧ Rd w' R s b m1 ∧ Kp (Own1 R) w w') (N2 : Gives 181 R s b m1 51) (w : World) (h : Rd w R s b l) : Calls Tryz.prog 144 #[.pointer (some ⟨R,0,none⟩)] w (NumP R s b w none):=by
 go_enter Tryz.func144,Tryz.ntmps144
 go_wp2_with (first
  | (go_at_call 181;refine (N2 _ hr3).mono ?_;rintro e w4 ⟨rfl,hk4⟩)
  | (go_at_call 138;refine (T2 _ hr2).mono ?_;rintro e w3 ⟨rfl,hr3,hk3⟩)
  | (go_at_call 138;refine (T1 _ hr1).mono ?_;rintro e w2 ⟨rfl,hr2,hk2⟩)
  | (go_at_call 138;refine (T0 _ h).mono ?_;rintro e w1 ⟨rfl,hr1,hk1⟩)
  | fail)
 exact ⟨rfl,rfl,((hk1.trans hk2).trans hk3).trans hk4⟩
set_option maxHeartbeats 1000000 in
theorem num_12 (l l0 l1 : Bs) (B0 : Bool) (T0 : ∀ w,Rd w R s b l → Calls Tryz.prog 138 #[.pointer (some ⟨R,0,none⟩),.string ⟨#[45]⟩] w fun e w' => e = .returned (.bool B0) ∧ Rd w' R s b l0 ∧ Kp (Own1 R) w w') (T1 : ∀ w,Rd w R s b l0 → Calls Tryz.prog 138 #[.pointer (some ⟨R,0,none⟩),.string ⟨#[48]⟩] w fun e w' => e = .returned (.bool false) ∧ Rd w' R s b l0 ∧ Kp (Own1 R) w w') (N1 : Goes 181 R s b l0 (.tuple #[]) l1) (T2 : ∀ w,Rd w R s b l1 → Calls Tryz.prog 138 #[.pointer (some ⟨R,0,none⟩),.string ⟨#[46]⟩] w fun e w' => e = .returned (.bool false) ∧ Rd w' R s b l1 ∧ Kp (Own1 R) w w') (O3 : ∀ w,Rd w R s b l1 → Calls Tryz.prog 141 #[.pointer (some ⟨R,0,none⟩),.string ⟨#[101,69]⟩] w fun e w' => e = .returned (.bool false) ∧ Rd w' R s b l1 ∧ Kp (Own1 R) w w') (S5 : ∀ w,Rd w R s b l1 → Calls Tryz.prog 143 #[.pointer (some ⟨R,0,none⟩),.string ⟨numL.toArray⟩] w fun e w' => e = .returned (.bool false) ∧ Rd w' R s b l1 ∧ Kp (Own1 R) w w') (w : World) (h : Rd w R s b l) : Calls Tryz.prog 144 #[.pointer (some ⟨R,0,none⟩)] w (NumP R s b w (some (2,l1))):=by
 go_enter Tryz.func144,Tryz.ntmps144
 go_wp2_with (first
  | (go_at_call 143;refine (S5 _ hr5).mono ?_;rintro e w6 ⟨rfl,hr6,hk6⟩)
  | (go_at_call 141;refine (O3 _ hr4).mono ?_;rintro e w5 ⟨rfl,hr5,hk5⟩)
  | (go_at_call 138;refine (T2 _ hr3).mono ?_;rintro e w4 ⟨rfl,hr4,hk4⟩)
  | (go_at_call 181;refine (N1 _ hr2).mono ?_;rintro e w3 ⟨rfl,hr3,hk3⟩)
  | (go_at_call 138;refine (T1 _ hr1).mono ?_;rintro e w2 ⟨rfl,hr2,hk2⟩)
  | (go_at_call 138;refine (T0 _ h).mono ?_;rintro e w1 ⟨rfl,hr1,hk1⟩)
  | fail)
 go_ret
 exact ⟨⟨rfl,hr6⟩,((((hk1.trans hk2).trans hk3).trans hk4).trans hk5).trans hk6⟩
set_option maxHeartbeats 1000000 in
theorem num_13 (l l0 l1 : Bs) (B0 : Bool) (T0 : ∀ w,Rd w R s b l → Calls Tryz.prog 138 #[.pointer (some ⟨R,0,none⟩),.string ⟨#[45]⟩] w fun e w' => e = .returned (.bool B0) ∧ Rd w' R s b l0 ∧ Kp (Own1 R) w w') (T1 : ∀ w,Rd w R s b l0 → Calls Tryz.prog 138 #[.pointer (some ⟨R,0,none⟩),.string ⟨#[48]⟩] w fun e w' => e = .returned (.bool false) ∧ Rd w' R s b l0 ∧ Kp (Own1 R) w w') (N1 : Goes 181 R s b l0 (.tuple #[]) l1) (T2 : ∀ w,Rd w R s b l1 → Calls Tryz.prog 138 #[.pointer (some ⟨R,0,none⟩),.string ⟨#[46]⟩] w fun e w' => e = .returned (.bool false) ∧ Rd w' R s b l1 ∧ Kp (Own1 R) w w') (O3 : ∀ w,Rd w R s b l1 → Calls Tryz.prog 141 #[.pointer (some ⟨R,0,none⟩),.string ⟨#[101,69]⟩] w fun e w' => e = .returned (.bool false) ∧ Rd w' R s b l1 ∧ Kp (Own1 R) w w') (S5 : ∀ w,Rd w R s b l1 → Calls Tryz.prog 143 #[.pointer (some ⟨R,0,none⟩),.string ⟨numL.toArray⟩] w fun e w' => e = .returned (.bool true) ∧ Rd w' R s b l1 ∧ Kp (Own1 R) w w') (w : World) (h : Rd w R s b l) : Calls Tryz.prog 144 #[.pointer (some ⟨R,0,none⟩)] w (NumP R s b w none):=by
 go_enter Tryz.func144,Tryz.ntmps144
 go_wp2_with (first
  | (go_at_call 100;refine (fail_any _ _ _ hr6).mono ?_;rintro e w7 ⟨rfl,rfl⟩)
  | (go_at_call 143;refine (S5 _ hr5).mono ?_;rintro e w6 ⟨rfl,hr6,hk6⟩)
  | (go_at_call 141;refine (O3 _ hr4).mono ?_;rintro e w5 ⟨rfl,hr5,hk5⟩)
  | (go_at_call 138;refine (T2 _ hr3).mono ?_;rintro e w4 ⟨rfl,hr4,hk4⟩)
  | (go_at_call 181;refine (N1 _ hr2).mono ?_;rintro e w3 ⟨rfl,hr3,hk3⟩)
  | (go_at_call 138;refine (T1 _ hr1).mono ?_;rintro e w2 ⟨rfl,hr2,hk2⟩)
  | (go_at_call 138;refine (T0 _ h).mono ?_;rintro e w1 ⟨rfl,hr1,hk1⟩)
  | fail)
 exact ⟨rfl,rfl,((((hk1.trans hk2).trans hk3).trans hk4).trans hk5).trans hk6⟩
set_option maxHeartbeats 1000000 in
theorem num_14 (l l0 l1 l3 m2 m3 : Bs) (B0 B4 : Bool) (T0 : ∀ w,Rd w R s b l → Calls Tryz.prog 138 #[.pointer (some ⟨R,0,none⟩),.string ⟨#[45]⟩] w fun e w' => e = .returned (.bool B0) ∧ Rd w' R s b l0 ∧ Kp (Own1 R) w w') (T1 : ∀ w,Rd w R s b l0 → Calls Tryz.prog 138 #[.pointer (some ⟨R,0,none⟩),.string ⟨#[48]⟩] w fun e w' => e = .returned (.bool false) ∧ Rd w' R s b l0 ∧ Kp (Own1 R) w w') (N1 : Goes 181 R s b l0 (.tuple #[]) l1) (T2 : ∀ w,Rd w R s b l1 → Calls Tryz.prog 138 #[.pointer (some ⟨R,0,none⟩),.string ⟨#[46]⟩] w fun e w' => e = .returned (.bool false) ∧ Rd w' R s b l1 ∧ Kp (Own1 R) w w') (O3 : ∀ w,Rd w R s b l1 → Calls Tryz.prog 141 #[.pointer (some ⟨R,0,none⟩),.string ⟨#[101,69]⟩] w fun e w' => e = .returned (.bool true) ∧ Rd w' R s b m2 ∧ Kp (Own1 R) w w') (O4 : ∀ w,Rd w R s b m2 → Calls Tryz.prog 141 #[.pointer (some ⟨R,0,none⟩),.string ⟨#[43,45]⟩] w fun e w' => e = .returned (.bool B4) ∧ Rd w' R s b m3 ∧ Kp (Own1 R) w w') (N3 : Goes 181 R s b m3 (.tuple #[]) l3) (S5 : ∀ w,Rd w R s b l3 → Calls Tryz.prog 143 #[.pointer (some ⟨R,0,none⟩),.string ⟨numL.toArray⟩] w fun e w' => e = .returned (.bool false) ∧ Rd w' R s b l3 ∧ Kp (Own1 R) w w') (w : World) (h : Rd w R s b l) : Calls Tryz.prog 144 #[.pointer (some ⟨R,0,none⟩)] w (NumP R s b w (some (3,l3))):=by
 go_enter Tryz.func144,Tryz.ntmps144
 go_wp2_with (first
  | (go_at_call 143;refine (S5 _ hr7).mono ?_;rintro e w8 ⟨rfl,hr8,hk8⟩)
  | (go_at_call 181;refine (N3 _ hr6).mono ?_;rintro e w7 ⟨rfl,hr7,hk7⟩)
  | (go_at_call 141;refine (O4 _ hr5).mono ?_;rintro e w6 ⟨rfl,hr6,hk6⟩)
  | (go_at_call 141;refine (O3 _ hr4).mono ?_;rintro e w5 ⟨rfl,hr5,hk5⟩)
  | (go_at_call 138;refine (T2 _ hr3).mono ?_;rintro e w4 ⟨rfl,hr4,hk4⟩)
  | (go_at_call 181;refine (N1 _ hr2).mono ?_;rintro e w3 ⟨rfl,hr3,hk3⟩)
  | (go_at_call 138;refine (T1 _ hr1).mono ?_;rintro e w2 ⟨rfl,hr2,hk2⟩)
  | (go_at_call 138;refine (T0 _ h).mono ?_;rintro e w1 ⟨rfl,hr1,hk1⟩)
  | fail)
 go_ret
 exact ⟨⟨rfl,hr8⟩,((((((hk1.trans hk2).trans hk3).trans hk4).trans hk5).trans hk6).trans hk7).trans hk8⟩
set_option maxHeartbeats 1000000 in
theorem num_15 (l l0 l1 l3 m2 m3 : Bs) (B0 B4 : Bool) (T0 : ∀ w,Rd w R s b l → Calls Tryz.prog 138 #[.pointer (some ⟨R,0,none⟩),.string ⟨#[45]⟩] w fun e w' => e = .returned (.bool B0) ∧ Rd w' R s b l0 ∧ Kp (Own1 R) w w') (T1 : ∀ w,Rd w R s b l0 → Calls Tryz.prog 138 #[.pointer (some ⟨R,0,none⟩),.string ⟨#[48]⟩] w fun e w' => e = .returned (.bool false) ∧ Rd w' R s b l0 ∧ Kp (Own1 R) w w') (N1 : Goes 181 R s b l0 (.tuple #[]) l1) (T2 : ∀ w,Rd w R s b l1 → Calls Tryz.prog 138 #[.pointer (some ⟨R,0,none⟩),.string ⟨#[46]⟩] w fun e w' => e = .returned (.bool false) ∧ Rd w' R s b l1 ∧ Kp (Own1 R) w w') (O3 : ∀ w,Rd w R s b l1 → Calls Tryz.prog 141 #[.pointer (some ⟨R,0,none⟩),.string ⟨#[101,69]⟩] w fun e w' => e = .returned (.bool true) ∧ Rd w' R s b m2 ∧ Kp (Own1 R) w w') (O4 : ∀ w,Rd w R s b m2 → Calls Tryz.prog 141 #[.pointer (some ⟨R,0,none⟩),.string ⟨#[43,45]⟩] w fun e w' => e = .returned (.bool B4) ∧ Rd w' R s b m3 ∧ Kp (Own1 R) w w') (N3 : Goes 181 R s b m3 (.tuple #[]) l3) (S5 : ∀ w,Rd w R s b l3 → Calls Tryz.prog 143 #[.pointer (some ⟨R,0,none⟩),.string ⟨numL.toArray⟩] w fun e w' => e = .returned (.bool true) ∧ Rd w' R s b l3 ∧ Kp (Own1 R) w w') (w : World) (h : Rd w R s b l) : Calls Tryz.prog 144 #[.pointer (some ⟨R,0,none⟩)] w (NumP R s b w none):=by
 go_enter Tryz.func144,Tryz.ntmps144
 go_wp2_with (first
  | (go_at_call 100;refine (fail_any _ _ _ hr8).mono ?_;rintro e w9 ⟨rfl,rfl⟩)
  | (go_at_call 143;refine (S5 _ hr7).mono ?_;rintro e w8 ⟨rfl,hr8,hk8⟩)
  | (go_at_call 181;refine (N3 _ hr6).mono ?_;rintro e w7 ⟨rfl,hr7,hk7⟩)
  | (go_at_call 141;refine (O4 _ hr5).mono ?_;rintro e w6 ⟨rfl,hr6,hk6⟩)
  | (go_at_call 141;refine (O3 _ hr4).mono ?_;rintro e w5 ⟨rfl,hr5,hk5⟩)
  | (go_at_call 138;refine (T2 _ hr3).mono ?_;rintro e w4 ⟨rfl,hr4,hk4⟩)
  | (go_at_call 181;refine (N1 _ hr2).mono ?_;rintro e w3 ⟨rfl,hr3,hk3⟩)
  | (go_at_call 138;refine (T1 _ hr1).mono ?_;rintro e w2 ⟨rfl,hr2,hk2⟩)
  | (go_at_call 138;refine (T0 _ h).mono ?_;rintro e w1 ⟨rfl,hr1,hk1⟩)
  | fail)
 exact ⟨rfl,rfl,((((((hk1.trans hk2).trans hk3).trans hk4).trans hk5).trans hk6).trans hk7).trans hk8⟩
set_option maxHeartbeats 1000000 in
theorem num_16 (l l0 l1 m2 m3 : Bs) (B0 B4 : Bool) (T0 : ∀ w,Rd w R s b l → Calls Tryz.prog 138 #[.pointer (some ⟨R,0,none⟩),.string ⟨#[45]⟩] w fun e w' => e = .returned (.bool B0) ∧ Rd w' R s b l0 ∧ Kp (Own1 R) w w') (T1 : ∀ w,Rd w R s b l0 → Calls Tryz.prog 138 #[.pointer (some ⟨R,0,none⟩),.string ⟨#[48]⟩] w fun e w' => e = .returned (.bool false) ∧ Rd w' R s b l0 ∧ Kp (Own1 R) w w') (N1 : Goes 181 R s b l0 (.tuple #[]) l1) (T2 : ∀ w,Rd w R s b l1 → Calls Tryz.prog 138 #[.pointer (some ⟨R,0,none⟩),.string ⟨#[46]⟩] w fun e w' => e = .returned (.bool false) ∧ Rd w' R s b l1 ∧ Kp (Own1 R) w w') (O3 : ∀ w,Rd w R s b l1 → Calls Tryz.prog 141 #[.pointer (some ⟨R,0,none⟩),.string ⟨#[101,69]⟩] w fun e w' => e = .returned (.bool true) ∧ Rd w' R s b m2 ∧ Kp (Own1 R) w w') (O4 : ∀ w,Rd w R s b m2 → Calls Tryz.prog 141 #[.pointer (some ⟨R,0,none⟩),.string ⟨#[43,45]⟩] w fun e w' => e = .returned (.bool B4) ∧ Rd w' R s b m3 ∧ Kp (Own1 R) w w') (N3 : Gives 181 R s b m3 51) (w : World) (h : Rd w R s b l) : Calls Tryz.prog 144 #[.pointer (some ⟨R,0,none⟩)] w (NumP R s b w none):=by
 go_enter Tryz.func144,Tryz.ntmps144
 go_wp2_with (first
  | (go_at_call 181;refine (N3 _ hr6).mono ?_;rintro e w7 ⟨rfl,hk7⟩)
  | (go_at_call 141;refine (O4 _ hr5).mono ?_;rintro e w6 ⟨rfl,hr6,hk6⟩)
  | (go_at_call 141;refine (O3 _ hr4).mono ?_;rintro e w5 ⟨rfl,hr5,hk5⟩)
  | (go_at_call 138;refine (T2 _ hr3).mono ?_;rintro e w4 ⟨rfl,hr4,hk4⟩)
  | (go_at_call 181;refine (N1 _ hr2).mono ?_;rintro e w3 ⟨rfl,hr3,hk3⟩)
  | (go_at_call 138;refine (T1 _ hr1).mono ?_;rintro e w2 ⟨rfl,hr2,hk2⟩)
  | (go_at_call 138;refine (T0 _ h).mono ?_;rintro e w1 ⟨rfl,hr1,hk1⟩)
  | fail)
 exact ⟨rfl,rfl,(((((hk1.trans hk2).trans hk3).trans hk4).trans hk5).trans hk6).trans hk7⟩
set_option maxHeartbeats 1000000 in
theorem num_17 (l l0 l1 l2 m1 : Bs) (B0 : Bool) (T0 : ∀ w,Rd w R s b l → Calls Tryz.prog 138 #[.pointer (some ⟨R,0,none⟩),.string ⟨#[45]⟩] w fun e w' => e = .returned (.bool B0) ∧ Rd w' R s b l0 ∧ Kp (Own1 R) w w') (T1 : ∀ w,Rd w R s b l0 → Calls Tryz.prog 138 #[.pointer (some ⟨R,0,none⟩),.string ⟨#[48]⟩] w fun e w' => e = .returned (.bool false) ∧ Rd w' R s b l0 ∧ Kp (Own1 R) w w') (N1 : Goes 181 R s b l0 (.tuple #[]) l1) (T2 : ∀ w,Rd w R s b l1 → Calls Tryz.prog 138 #[.pointer (some ⟨R,0,none⟩),.string ⟨#[46]⟩] w fun e w' => e = .returned (.bool true) ∧ Rd w' R s b m1 ∧ Kp (Own1 R) w w') (N2 : Goes 181 R s b m1 (.tuple #[]) l2) (O3 : ∀ w,Rd w R s b l2 → Calls Tryz.prog 141 #[.pointer (some ⟨R,0,none⟩),.string ⟨#[101,69]⟩] w fun e w' => e = .returned (.bool false) ∧ Rd w' R s b l2 ∧ Kp (Own1 R) w w') (S5 : ∀ w,Rd w R s b l2 → Calls Tryz.prog 143 #[.pointer (some ⟨R,0,none⟩),.string ⟨numL.toArray⟩] w fun e w' => e = .returned (.bool false) ∧ Rd w' R s b l2 ∧ Kp (Own1 R) w w') (w : World) (h : Rd w R s b l) : Calls Tryz.prog 144 #[.pointer (some ⟨R,0,none⟩)] w (NumP R s b w (some (3,l2))):=by
 go_enter Tryz.func144,Tryz.ntmps144
 go_wp2_with (first
  | (go_at_call 143;refine (S5 _ hr6).mono ?_;rintro e w7 ⟨rfl,hr7,hk7⟩)
  | (go_at_call 141;refine (O3 _ hr5).mono ?_;rintro e w6 ⟨rfl,hr6,hk6⟩)
  | (go_at_call 181;refine (N2 _ hr4).mono ?_;rintro e w5 ⟨rfl,hr5,hk5⟩)
  | (go_at_call 138;refine (T2 _ hr3).mono ?_;rintro e w4 ⟨rfl,hr4,hk4⟩)
  | (go_at_call 181;refine (N1 _ hr2).mono ?_;rintro e w3 ⟨rfl,hr3,hk3⟩)
  | (go_at_call 138;refine (T1 _ hr1).mono ?_;rintro e w2 ⟨rfl,hr2,hk2⟩)
  | (go_at_call 138;refine (T0 _ h).mono ?_;rintro e w1 ⟨rfl,hr1,hk1⟩)
  | fail)
 go_ret
 exact ⟨⟨rfl,hr7⟩,(((((hk1.trans hk2).trans hk3).trans hk4).trans hk5).trans hk6).trans hk7⟩
set_option maxHeartbeats 1000000 in
theorem num_18 (l l0 l1 l2 m1 : Bs) (B0 : Bool) (T0 : ∀ w,Rd w R s b l → Calls Tryz.prog 138 #[.pointer (some ⟨R,0,none⟩),.string ⟨#[45]⟩] w fun e w' => e = .returned (.bool B0) ∧ Rd w' R s b l0 ∧ Kp (Own1 R) w w') (T1 : ∀ w,Rd w R s b l0 → Calls Tryz.prog 138 #[.pointer (some ⟨R,0,none⟩),.string ⟨#[48]⟩] w fun e w' => e = .returned (.bool false) ∧ Rd w' R s b l0 ∧ Kp (Own1 R) w w') (N1 : Goes 181 R s b l0 (.tuple #[]) l1) (T2 : ∀ w,Rd w R s b l1 → Calls Tryz.prog 138 #[.pointer (some ⟨R,0,none⟩),.string ⟨#[46]⟩] w fun e w' => e = .returned (.bool true) ∧ Rd w' R s b m1 ∧ Kp (Own1 R) w w') (N2 : Goes 181 R s b m1 (.tuple #[]) l2) (O3 : ∀ w,Rd w R s b l2 → Calls Tryz.prog 141 #[.pointer (some ⟨R,0,none⟩),.string ⟨#[101,69]⟩] w fun e w' => e = .returned (.bool false) ∧ Rd w' R s b l2 ∧ Kp (Own1 R) w w') (S5 : ∀ w,Rd w R s b l2 → Calls Tryz.prog 143 #[.pointer (some ⟨R,0,none⟩),.string ⟨numL.toArray⟩] w fun e w' => e = .returned (.bool true) ∧ Rd w' R s b l2 ∧ Kp (Own1 R) w w') (w : World) (h : Rd w R s b l) : Calls Tryz.prog 144 #[.pointer (some ⟨R,0,none⟩)] w (NumP R s b w none):=by
 go_enter Tryz.func144,Tryz.ntmps144
 go_wp2_with (first
  | (go_at_call 100;refine (fail_any _ _ _ hr7).mono ?_;rintro e w8 ⟨rfl,rfl⟩)
  | (go_at_call 143;refine (S5 _ hr6).mono ?_;rintro e w7 ⟨rfl,hr7,hk7⟩)
  | (go_at_call 141;refine (O3 _ hr5).mono ?_;rintro e w6 ⟨rfl,hr6,hk6⟩)
  | (go_at_call 181;refine (N2 _ hr4).mono ?_;rintro e w5 ⟨rfl,hr5,hk5⟩)
  | (go_at_call 138;refine (T2 _ hr3).mono ?_;rintro e w4 ⟨rfl,hr4,hk4⟩)
  | (go_at_call 181;refine (N1 _ hr2).mono ?_;rintro e w3 ⟨rfl,hr3,hk3⟩)
  | (go_at_call 138;refine (T1 _ hr1).mono ?_;rintro e w2 ⟨rfl,hr2,hk2⟩)
  | (go_at_call 138;refine (T0 _ h).mono ?_;rintro e w1 ⟨rfl,hr1,hk1⟩)
  | fail)
 exact ⟨rfl,rfl,(((((hk1.trans hk2).trans hk3).trans hk4).trans hk5).trans hk6).trans hk7⟩
set_option maxHeartbeats 1000000 in
theorem num_19 (l l0 l1 l2 l3 m1 m2 m3 : Bs) (B0 B4 : Bool) (T0 : ∀ w,Rd w R s b l → Calls Tryz.prog 138 #[.pointer (some ⟨R,0,none⟩),.string ⟨#[45]⟩] w fun e w' => e = .returned (.bool B0) ∧ Rd w' R s b l0 ∧ Kp (Own1 R) w w') (T1 : ∀ w,Rd w R s b l0 → Calls Tryz.prog 138 #[.pointer (some ⟨R,0,none⟩),.string ⟨#[48]⟩] w fun e w' => e = .returned (.bool false) ∧ Rd w' R s b l0 ∧ Kp (Own1 R) w w') (N1 : Goes 181 R s b l0 (.tuple #[]) l1) (T2 : ∀ w,Rd w R s b l1 → Calls Tryz.prog 138 #[.pointer (some ⟨R,0,none⟩),.string ⟨#[46]⟩] w fun e w' => e = .returned (.bool true) ∧ Rd w' R s b m1 ∧ Kp (Own1 R) w w') (N2 : Goes 181 R s b m1 (.tuple #[]) l2) (O3 : ∀ w,Rd w R s b l2 → Calls Tryz.prog 141 #[.pointer (some ⟨R,0,none⟩),.string ⟨#[101,69]⟩] w fun e w' => e = .returned (.bool true) ∧ Rd w' R s b m2 ∧ Kp (Own1 R) w w') (O4 : ∀ w,Rd w R s b m2 → Calls Tryz.prog 141 #[.pointer (some ⟨R,0,none⟩),.string ⟨#[43,45]⟩] w fun e w' => e = .returned (.bool B4) ∧ Rd w' R s b m3 ∧ Kp (Own1 R) w w') (N3 : Goes 181 R s b m3 (.tuple #[]) l3) (S5 : ∀ w,Rd w R s b l3 → Calls Tryz.prog 143 #[.pointer (some ⟨R,0,none⟩),.string ⟨numL.toArray⟩] w fun e w' => e = .returned (.bool false) ∧ Rd w' R s b l3 ∧ Kp (Own1 R) w w') (w : World) (h : Rd w R s b l) : Calls Tryz.prog 144 #[.pointer (some ⟨R,0,none⟩)] w (NumP R s b w (some (3,l3))):=by
 go_enter Tryz.func144,Tryz.ntmps144
 go_wp2_with (first
  | (go_at_call 143;refine (S5 _ hr8).mono ?_;rintro e w9 ⟨rfl,hr9,hk9⟩)
  | (go_at_call 181;refine (N3 _ hr7).mono ?_;rintro e w8 ⟨rfl,hr8,hk8⟩)
  | (go_at_call 141;refine (O4 _ hr6).mono ?_;rintro e w7 ⟨rfl,hr7,hk7⟩)
  | (go_at_call 141;refine (O3 _ hr5).mono ?_;rintro e w6 ⟨rfl,hr6,hk6⟩)
  | (go_at_call 181;refine (N2 _ hr4).mono ?_;rintro e w5 ⟨rfl,hr5,hk5⟩)
  | (go_at_call 138;refine (T2 _ hr3).mono ?_;rintro e w4 ⟨rfl,hr4,hk4⟩)
  | (go_at_call 181;refine (N1 _ hr2).mono ?_;rintro e w3 ⟨rfl,hr3,hk3⟩)
  | (go_at_call 138;refine (T1 _ hr1).mono ?_;rintro e w2 ⟨rfl,hr2,hk2⟩)
  | (go_at_call 138;refine (T0 _ h).mono ?_;rintro e w1 ⟨rfl,hr1,hk1⟩)
  | fail)
 go_ret
 exact ⟨⟨rfl,hr9⟩,(((((((hk1.trans hk2).trans hk3).trans hk4).trans hk5).trans hk6).trans hk7).trans hk8).trans hk9⟩
set_option maxHeartbeats 1000000 in
theorem num_20 (l l0 l1 l2 l3 m1 m2 m3 : Bs) (B0 B4 : Bool) (T0 : ∀ w,Rd w R s b l → Calls Tryz.prog 138 #[.pointer (some ⟨R,0,none⟩),.string ⟨#[45]⟩] w fun e w' => e = .returned (.bool B0) ∧ Rd w' R s b l0 ∧ Kp (Own1 R) w w') (T1 : ∀ w,Rd w R s b l0 → Calls Tryz.prog 138 #[.pointer (some ⟨R,0,none⟩),.string ⟨#[48]⟩] w fun e w' => e = .returned (.bool false) ∧ Rd w' R s b l0 ∧ Kp (Own1 R) w w') (N1 : Goes 181 R s b l0 (.tuple #[]) l1) (T2 : ∀ w,Rd w R s b l1 → Calls Tryz.prog 138 #[.pointer (some ⟨R,0,none⟩),.string ⟨#[46]⟩] w fun e w' => e = .returned (.bool true) ∧ Rd w' R s b m1 ∧ Kp (Own1 R) w w') (N2 : Goes 181 R s b m1 (.tuple #[]) l2) (O3 : ∀ w,Rd w R s b l2 → Calls Tryz.prog 141 #[.pointer (some ⟨R,0,none⟩),.string ⟨#[101,69]⟩] w fun e w' => e = .returned (.bool true) ∧ Rd w' R s b m2 ∧ Kp (Own1 R) w w') (O4 : ∀ w,Rd w R s b m2 → Calls Tryz.prog 141 #[.pointer (some ⟨R,0,none⟩),.string ⟨#[43,45]⟩] w fun e w' => e = .returned (.bool B4) ∧ Rd w' R s b m3 ∧ Kp (Own1 R) w w') (N3 : Goes 181 R s b m3 (.tuple #[]) l3) (S5 : ∀ w,Rd w R s b l3 → Calls Tryz.prog 143 #[.pointer (some ⟨R,0,none⟩),.string ⟨numL.toArray⟩] w fun e w' => e = .returned (.bool true) ∧ Rd w' R s b l3 ∧ Kp (Own1 R) w w') (w : World) (h : Rd w R s b l) : Calls Tryz.prog 144 #[.pointer (some ⟨R,0,none⟩)] w (NumP R s b w none):=by
 go_enter Tryz.func144,Tryz.ntmps144
 go_wp2_with (first
  | (go_at_call 100;refine (fail_any _ _ _ hr9).mono ?_;rintro e w10 ⟨rfl,rfl⟩)
  | (go_at_call 143;refine (S5 _ hr8).mono ?_;rintro e w9 ⟨rfl,hr9,hk9⟩)
  | (go_at_call 181;refine (N3 _ hr7).mono ?_;rintro e w8 ⟨rfl,hr8,hk8⟩)
  | (go_at_call 141;refine (O4 _ hr6).mono ?_;rintro e w7 ⟨rfl,hr7,hk7⟩)
  | (go_at_call 141;refine (O3 _ hr5).mono ?_;rintro e w6 ⟨rfl,hr6,hk6⟩)
  | (go_at_call 181;refine (N2 _ hr4).mono ?_;rintro e w5 ⟨rfl,hr5,hk5⟩)
  | (go_at_call 138;refine (T2 _ hr3).mono ?_;rintro e w4 ⟨rfl,hr4,hk4⟩)
  | (go_at_call 181;refine (N1 _ hr2).mono ?_;rintro e w3 ⟨rfl,hr3,hk3⟩)
  | (go_at_call 138;refine (T1 _ hr1).mono ?_;rintro e w2 ⟨rfl,hr2,hk2⟩)
  | (go_at_call 138;refine (T0 _ h).mono ?_;rintro e w1 ⟨rfl,hr1,hk1⟩)
  | fail)
 exact ⟨rfl,rfl,(((((((hk1.trans hk2).trans hk3).trans hk4).trans hk5).trans hk6).trans hk7).trans hk8).trans hk9⟩
set_option maxHeartbeats 1000000 in
theorem num_21 (l l0 l1 l2 m1 m2 m3 : Bs) (B0 B4 : Bool) (T0 : ∀ w,Rd w R s b l → Calls Tryz.prog 138 #[.pointer (some ⟨R,0,none⟩),.string ⟨#[45]⟩] w fun e w' => e = .returned (.bool B0) ∧ Rd w' R s b l0 ∧ Kp (Own1 R) w w') (T1 : ∀ w,Rd w R s b l0 → Calls Tryz.prog 138 #[.pointer (some ⟨R,0,none⟩),.string ⟨#[48]⟩] w fun e w' => e = .returned (.bool false) ∧ Rd w' R s b l0 ∧ Kp (Own1 R) w w') (N1 : Goes 181 R s b l0 (.tuple #[]) l1) (T2 : ∀ w,Rd w R s b l1 → Calls Tryz.prog 138 #[.pointer (some ⟨R,0,none⟩),.string ⟨#[46]⟩] w fun e w' => e = .returned (.bool true) ∧ Rd w' R s b m1 ∧ Kp (Own1 R) w w') (N2 : Goes 181 R s b m1 (.tuple #[]) l2) (O3 : ∀ w,Rd w R s b l2 → Calls Tryz.prog 141 #[.pointer (some ⟨R,0,none⟩),.string ⟨#[101,69]⟩] w fun e w' => e = .returned (.bool true) ∧ Rd w' R s b m2 ∧ Kp (Own1 R) w w') (O4 : ∀ w,Rd w R s b m2 → Calls Tryz.prog 141 #[.pointer (some ⟨R,0,none⟩),.string ⟨#[43,45]⟩] w fun e w' => e = .returned (.bool B4) ∧ Rd w' R s b m3 ∧ Kp (Own1 R) w w') (N3 : Gives 181 R s b m3 51) (w : World) (h : Rd w R s b l) : Calls Tryz.prog 144 #[.pointer (some ⟨R,0,none⟩)] w (NumP R s b w none):=by
 go_enter Tryz.func144,Tryz.ntmps144
 go_wp2_with (first
  | (go_at_call 181;refine (N3 _ hr7).mono ?_;rintro e w8 ⟨rfl,hk8⟩)
  | (go_at_call 141;refine (O4 _ hr6).mono ?_;rintro e w7 ⟨rfl,hr7,hk7⟩)
  | (go_at_call 141;refine (O3 _ hr5).mono ?_;rintro e w6 ⟨rfl,hr6,hk6⟩)
  | (go_at_call 181;refine (N2 _ hr4).mono ?_;rintro e w5 ⟨rfl,hr5,hk5⟩)
  | (go_at_call 138;refine (T2 _ hr3).mono ?_;rintro e w4 ⟨rfl,hr4,hk4⟩)
  | (go_at_call 181;refine (N1 _ hr2).mono ?_;rintro e w3 ⟨rfl,hr3,hk3⟩)
  | (go_at_call 138;refine (T1 _ hr1).mono ?_;rintro e w2 ⟨rfl,hr2,hk2⟩)
  | (go_at_call 138;refine (T0 _ h).mono ?_;rintro e w1 ⟨rfl,hr1,hk1⟩)
  | fail)
 exact ⟨rfl,rfl,((((((hk1.trans hk2).trans hk3).trans hk4).trans hk5).trans hk6).trans hk7).trans hk8⟩
set_option maxHeartbeats 1000000 in
theorem num_22 (l l0 l1 m1 : Bs) (B0 : Bool) (T0 : ∀ w,Rd w R s b l → Calls Tryz.prog 138 #[.pointer (some ⟨R,0,none⟩),.string ⟨#[45]⟩] w fun e w' => e = .returned (.bool B0) ∧ Rd w' R s b l0 ∧ Kp (Own1 R) w w') (T1 : ∀ w,Rd w R s b l0 → Calls Tryz.prog 138 #[.pointer (some ⟨R,0,none⟩),.string ⟨#[48]⟩] w fun e w' => e = .returned (.bool false) ∧ Rd w' R s b l0 ∧ Kp (Own1 R) w w') (N1 : Goes 181 R s b l0 (.tuple #[]) l1) (T2 : ∀ w,Rd w R s b l1 → Calls Tryz.prog 138 #[.pointer (some ⟨R,0,none⟩),.string ⟨#[46]⟩] w fun e w' => e = .returned (.bool true) ∧ Rd w' R s b m1 ∧ Kp (Own1 R) w w') (N2 : Gives 181 R s b m1 51) (w : World) (h : Rd w R s b l) : Calls Tryz.prog 144 #[.pointer (some ⟨R,0,none⟩)] w (NumP R s b w none):=by
 go_enter Tryz.func144,Tryz.ntmps144
 go_wp2_with (first
  | (go_at_call 181;refine (N2 _ hr4).mono ?_;rintro e w5 ⟨rfl,hk5⟩)
  | (go_at_call 138;refine (T2 _ hr3).mono ?_;rintro e w4 ⟨rfl,hr4,hk4⟩)
  | (go_at_call 181;refine (N1 _ hr2).mono ?_;rintro e w3 ⟨rfl,hr3,hk3⟩)
  | (go_at_call 138;refine (T1 _ hr1).mono ?_;rintro e w2 ⟨rfl,hr2,hk2⟩)
  | (go_at_call 138;refine (T0 _ h).mono ?_;rintro e w1 ⟨rfl,hr1,hk1⟩)
  | fail)
 exact ⟨rfl,rfl,(((hk1.trans hk2).trans hk3).trans hk4).trans hk5⟩
set_option maxHeartbeats 1000000 in
theorem num_23 (l l0 : Bs) (B0 : Bool) (T0 : ∀ w,Rd w R s b l → Calls Tryz.prog 138 #[.pointer (some ⟨R,0,none⟩),.string ⟨#[45]⟩] w fun e w' => e = .returned (.bool B0) ∧ Rd w' R s b l0 ∧ Kp (Own1 R) w w') (T1 : ∀ w,Rd w R s b l0 → Calls Tryz.prog 138 #[.pointer (some ⟨R,0,none⟩),.string ⟨#[48]⟩] w fun e w' => e = .returned (.bool false) ∧ Rd w' R s b l0 ∧ Kp (Own1 R) w w') (N1 : Gives 181 R s b l0 51) (w : World) (h : Rd w R s b l) : Calls Tryz.prog 144 #[.pointer (some ⟨R,0,none⟩)] w (NumP R s b w none):=by
 go_enter Tryz.func144,Tryz.ntmps144
 go_wp2_with (first
  | (go_at_call 181;refine (N1 _ hr2).mono ?_;rintro e w3 ⟨rfl,hk3⟩)
  | (go_at_call 138;refine (T1 _ hr1).mono ?_;rintro e w2 ⟨rfl,hr2,hk2⟩)
  | (go_at_call 138;refine (T0 _ h).mono ?_;rintro e w1 ⟨rfl,hr1,hk1⟩)
  | fail)
 exact ⟨rfl,rfl,(hk1.trans hk2).trans hk3⟩
theorem take_yes (p l : Bs) (hp : p.isPrefixOf l = true) : ∀ w,Rd w R s b l → Calls Tryz.prog 138 #[.pointer (some ⟨R,0,none⟩),.string ⟨p.toArray⟩] w fun e w' => e = .returned (.bool true) ∧ Rd w' R s b (l.drop p.length) ∧ Kp (Own1 R) w w':=by
 intro w h
 have:=take_any p l w h
 rw [hp,show optT p l = l.drop p.length from if_pos hp] at this
 exact this
theorem take_no (p l : Bs) (hp : p.isPrefixOf l = false) : ∀ w,Rd w R s b l → Calls Tryz.prog 138 #[.pointer (some ⟨R,0,none⟩),.string ⟨p.toArray⟩] w fun e w' => e = .returned (.bool false) ∧ Rd w' R s b l ∧ Kp (Own1 R) w w':=by
 intro w h
 have:=take_any p l w h
 rw [hp,show optT p l = l from if_neg (by rw [hp];simp)] at this
 exact this
theorem one_yes (p l : Bs) (hp : headIn p l = true) : ∀ w,Rd w R s b l → Calls Tryz.prog 141 #[.pointer (some ⟨R,0,none⟩),.string ⟨p.toArray⟩] w fun e w' => e = .returned (.bool true) ∧ Rd w' R s b (l.drop 1) ∧ Kp (Own1 R) w w':=by
 intro w h
 have:=one_any p l w h
 rw [hp,show optO p l = l.drop 1 from if_pos hp] at this
 exact this
theorem one_no (p l : Bs) (hp : headIn p l = false) : ∀ w,Rd w R s b l → Calls Tryz.prog 141 #[.pointer (some ⟨R,0,none⟩),.string ⟨p.toArray⟩] w fun e w' => e = .returned (.bool false) ∧ Rd w' R s b l ∧ Kp (Own1 R) w w':=by
 intro w h
 have:=one_any p l w h
 rw [hp,show optO p l = l from if_neg (by rw [hp];simp)] at this
 exact this
theorem sees_is (p l : Bs) (B : Bool) (hp : headIn p l = B) : ∀ w,Rd w R s b l → Calls Tryz.prog 143 #[.pointer (some ⟨R,0,none⟩),.string ⟨p.toArray⟩] w fun e w' => e = .returned (.bool B) ∧ Rd w' R s b l ∧ Kp (Own1 R) w w':=by
 intro w h
 refine (sees_any p l w h).mono ?_
 rintro e w' ⟨rfl,m,rfl⟩
 exact ⟨by rw [hp],h.drewN m,Kp.n w m⟩
theorem number_any (l : Bs) (w : World) (h : Rd w R s b l) : Calls Tryz.prog 144 #[.pointer (some ⟨R,0,none⟩)] w (NumP R s b w (numS l)):=by
 have T0 : ∀ w,Rd w R s b l → Calls Tryz.prog 138 #[.pointer (some ⟨R,0,none⟩),.string ⟨#[45]⟩] w fun e w' => e = .returned (.bool (List.isPrefixOf [45] l)) ∧ Rd w' R s b (optT [45] l) ∧ Kp (Own1 R) w w':=fun w h => take_any [45] l w h
 unfold numS
 generalize optT [45] l = l0 at *
 generalize List.isPrefixOf [45] l = B0 at *
 by_cases h1 : List.isPrefixOf [48] l0 = true
 ·rw [show numA l0 = _ from if_pos h1]
  generalize h10 : l0.drop 1 = l1
  have T1 : ∀ w,Rd w R s b l0 → Calls Tryz.prog 138 #[.pointer (some ⟨R,0,none⟩),.string ⟨#[48]⟩] w fun e w' => e = .returned (.bool true) ∧ Rd w' R s b l1 ∧ Kp (Own1 R) w w':=by rw [← h10];exact take_yes [48] l0 h1
  rw [Option.bind_some]
  by_cases h2 : List.isPrefixOf [46] l1 = true
  ·rw [show numB l1 = _ from if_pos h2]
   obtain hd | ⟨l2,hd2⟩:=(Option.eq_none_or_eq_some (needD (l1.drop 1)))
   ·rw [hd];refine num_11 _ _ _ _ _ T0 T1 (take_yes _ _ h2) (needD_no _ hd) w h
   ·rw [hd2,Option.map_some]
    rw [Option.bind_some]
    by_cases h3 : headIn [101,69] l2 = true
    ·rw [show numC _ _ = _ from if_pos h3]
     obtain hd | ⟨l3,hd⟩:=(Option.eq_none_or_eq_some (needD (optO [43,45] (l2.drop 1))))
     ·rw [hd];refine num_10 _ _ _ _ _ _ _ _ _ T0 T1 (take_yes _ _ h2) (needD_yes _ _ hd2) (one_yes _ _ h3) (one_any _ _) (needD_no _ hd) w h
     ·rw [hd,Option.map_some,Option.bind_some]
      by_cases h5 : headIn numL l3 = true
      ·rw [show numD _ _ = _ from if_pos h5];refine num_9 _ _ _ _ _ _ _ _ _ _ T0 T1 (take_yes _ _ h2) (needD_yes _ _ hd2) (one_yes _ _ h3) (one_any _ _) (needD_yes _ _ hd) (sees_is numL l3 true h5) w h
      ·rw [show numD _ _ = _ from if_neg h5];refine num_8 _ _ _ _ _ _ _ _ _ _ T0 T1 (take_yes _ _ h2) (needD_yes _ _ hd2) (one_yes _ _ h3) (one_any _ _) (needD_yes _ _ hd) (sees_is numL l3 false (Bool.eq_false_iff.2 h5)) w h
    ·rw [show numC _ _ = _ from if_neg h3,Option.bind_some]
     by_cases h5 : headIn numL l2 = true
     ·rw [show numD _ _ = _ from if_pos h5];refine num_7 _ _ _ _ _ _ T0 T1 (take_yes _ _ h2) (needD_yes _ _ hd2) (one_no _ _ (Bool.eq_false_iff.2 h3)) (sees_is numL l2 true h5) w h
     ·rw [show numD _ _ = _ from if_neg h5];refine num_6 _ _ _ _ _ _ T0 T1 (take_yes _ _ h2) (needD_yes _ _ hd2) (one_no _ _ (Bool.eq_false_iff.2 h3)) (sees_is numL l2 false (Bool.eq_false_iff.2 h5)) w h
  ·rw [show numB l1 = _ from if_neg h2]
   rw [Option.bind_some]
   by_cases h3 : headIn [101,69] l1 = true
   ·rw [show numC _ _ = _ from if_pos h3]
    obtain hd | ⟨l3,hd⟩:=(Option.eq_none_or_eq_some (needD (optO [43,45] (l1.drop 1))))
    ·rw [hd];refine num_5 _ _ _ _ _ _ _ T0 T1 (take_no _ _ (Bool.eq_false_iff.2 h2)) (one_yes _ _ h3) (one_any _ _) (needD_no _ hd) w h
    ·rw [hd,Option.map_some,Option.bind_some]
     by_cases h5 : headIn numL l3 = true
     ·rw [show numD _ _ = _ from if_pos h5];refine num_4 _ _ _ _ _ _ _ _ T0 T1 (take_no _ _ (Bool.eq_false_iff.2 h2)) (one_yes _ _ h3) (one_any _ _) (needD_yes _ _ hd) (sees_is numL l3 true h5) w h
     ·rw [show numD _ _ = _ from if_neg h5];refine num_3 _ _ _ _ _ _ _ _ T0 T1 (take_no _ _ (Bool.eq_false_iff.2 h2)) (one_yes _ _ h3) (one_any _ _) (needD_yes _ _ hd) (sees_is numL l3 false (Bool.eq_false_iff.2 h5)) w h
   ·rw [show numC _ _ = _ from if_neg h3,Option.bind_some]
    by_cases h5 : headIn numL l1 = true
    ·rw [show numD _ _ = _ from if_pos h5];refine num_2 _ _ _ _ T0 T1 (take_no _ _ (Bool.eq_false_iff.2 h2)) (one_no _ _ (Bool.eq_false_iff.2 h3)) (sees_is numL l1 true h5) w h
    ·rw [show numD _ _ = _ from if_neg h5];refine num_1 _ _ _ _ T0 T1 (take_no _ _ (Bool.eq_false_iff.2 h2)) (one_no _ _ (Bool.eq_false_iff.2 h3)) (sees_is numL l1 false (Bool.eq_false_iff.2 h5)) w h
 ·rw [show numA l0 = _ from if_neg h1]
  obtain hd | ⟨l1,hd1⟩:=(Option.eq_none_or_eq_some (needD l0))
  ·rw [hd];refine num_23 _ _ _ T0 (take_no _ _ (Bool.eq_false_iff.2 h1)) (needD_no _ hd) w h
  ·rw [hd1]
   rw [Option.bind_some]
   by_cases h2 : List.isPrefixOf [46] l1 = true
   ·rw [show numB l1 = _ from if_pos h2]
    obtain hd | ⟨l2,hd2⟩:=(Option.eq_none_or_eq_some (needD (l1.drop 1)))
    ·rw [hd];refine num_22 _ _ _ _ _ T0 (take_no _ _ (Bool.eq_false_iff.2 h1)) (needD_yes _ _ hd1) (take_yes _ _ h2) (needD_no _ hd) w h
    ·rw [hd2,Option.map_some]
     rw [Option.bind_some]
     by_cases h3 : headIn [101,69] l2 = true
     ·rw [show numC _ _ = _ from if_pos h3]
      obtain hd | ⟨l3,hd⟩:=(Option.eq_none_or_eq_some (needD (optO [43,45] (l2.drop 1))))
      ·rw [hd];refine num_21 _ _ _ _ _ _ _ _ _ T0 (take_no _ _ (Bool.eq_false_iff.2 h1)) (needD_yes _ _ hd1) (take_yes _ _ h2) (needD_yes _ _ hd2) (one_yes _ _ h3) (one_any _ _) (needD_no _ hd) w h
      ·rw [hd,Option.map_some,Option.bind_some]
       by_cases h5 : headIn numL l3 = true
       ·rw [show numD _ _ = _ from if_pos h5];refine num_20 _ _ _ _ _ _ _ _ _ _ T0 (take_no _ _ (Bool.eq_false_iff.2 h1)) (needD_yes _ _ hd1) (take_yes _ _ h2) (needD_yes _ _ hd2) (one_yes _ _ h3) (one_any _ _) (needD_yes _ _ hd) (sees_is numL l3 true h5) w h
       ·rw [show numD _ _ = _ from if_neg h5];refine num_19 _ _ _ _ _ _ _ _ _ _ T0 (take_no _ _ (Bool.eq_false_iff.2 h1)) (needD_yes _ _ hd1) (take_yes _ _ h2) (needD_yes _ _ hd2) (one_yes _ _ h3) (one_any _ _) (needD_yes _ _ hd) (sees_is numL l3 false (Bool.eq_false_iff.2 h5)) w h
     ·rw [show numC _ _ = _ from if_neg h3,Option.bind_some]
      by_cases h5 : headIn numL l2 = true
      ·rw [show numD _ _ = _ from if_pos h5];refine num_18 _ _ _ _ _ _ T0 (take_no _ _ (Bool.eq_false_iff.2 h1)) (needD_yes _ _ hd1) (take_yes _ _ h2) (needD_yes _ _ hd2) (one_no _ _ (Bool.eq_false_iff.2 h3)) (sees_is numL l2 true h5) w h
      ·rw [show numD _ _ = _ from if_neg h5];refine num_17 _ _ _ _ _ _ T0 (take_no _ _ (Bool.eq_false_iff.2 h1)) (needD_yes _ _ hd1) (take_yes _ _ h2) (needD_yes _ _ hd2) (one_no _ _ (Bool.eq_false_iff.2 h3)) (sees_is numL l2 false (Bool.eq_false_iff.2 h5)) w h
   ·rw [show numB l1 = _ from if_neg h2]
    rw [Option.bind_some]
    by_cases h3 : headIn [101,69] l1 = true
    ·rw [show numC _ _ = _ from if_pos h3]
     obtain hd | ⟨l3,hd⟩:=(Option.eq_none_or_eq_some (needD (optO [43,45] (l1.drop 1))))
     ·rw [hd];refine num_16 _ _ _ _ _ _ _ T0 (take_no _ _ (Bool.eq_false_iff.2 h1)) (needD_yes _ _ hd1) (take_no _ _ (Bool.eq_false_iff.2 h2)) (one_yes _ _ h3) (one_any _ _) (needD_no _ hd) w h
     ·rw [hd,Option.map_some,Option.bind_some]
      by_cases h5 : headIn numL l3 = true
      ·rw [show numD _ _ = _ from if_pos h5];refine num_15 _ _ _ _ _ _ _ _ T0 (take_no _ _ (Bool.eq_false_iff.2 h1)) (needD_yes _ _ hd1) (take_no _ _ (Bool.eq_false_iff.2 h2)) (one_yes _ _ h3) (one_any _ _) (needD_yes _ _ hd) (sees_is numL l3 true h5) w h
      ·rw [show numD _ _ = _ from if_neg h5];refine num_14 _ _ _ _ _ _ _ _ T0 (take_no _ _ (Bool.eq_false_iff.2 h1)) (needD_yes _ _ hd1) (take_no _ _ (Bool.eq_false_iff.2 h2)) (one_yes _ _ h3) (one_any _ _) (needD_yes _ _ hd) (sees_is numL l3 false (Bool.eq_false_iff.2 h5)) w h
    ·rw [show numC _ _ = _ from if_neg h3,Option.bind_some]
     by_cases h5 : headIn numL l1 = true
     ·rw [show numD _ _ = _ from if_pos h5];refine num_13 _ _ _ _ T0 (take_no _ _ (Bool.eq_false_iff.2 h1)) (needD_yes _ _ hd1) (take_no _ _ (Bool.eq_false_iff.2 h2)) (one_no _ _ (Bool.eq_false_iff.2 h3)) (sees_is numL l1 true h5) w h
     ·rw [show numD _ _ = _ from if_neg h5];refine num_12 _ _ _ _ T0 (take_no _ _ (Bool.eq_false_iff.2 h1)) (needD_yes _ _ hd1) (take_no _ _ (Bool.eq_false_iff.2 h2)) (one_no _ _ (Bool.eq_false_iff.2 h3)) (sees_is numL l1 false (Bool.eq_false_iff.2 h5)) w h
end
end Go.Proofs.YtgmlbjfgfmfliaaGreatDoor
namespace Go.Proofs.YtgmlbjfgfmfliaaGreatDoor
open Go Go.RowKit
section
variable {R : Nat} {s : Bs} {b : Nat}
/-- A token as a value. -/
abbrev tokV (k : Int) (t : Bs) (b e : Nat) : Value:=.agg #[.int .i64 k,.string ⟨t.toArray⟩,.int .i64 (b : Int),.int .i64 (e : Int)]
theorem cut_ahead {s lb l : Bs} (hlb : lb <:+ s) (hl : l <:+ lb) : (ByteArray.mk s.toArray).extract (s.length - lb.length) (s.length - l.length) = ⟨(ahead lb l).toArray⟩:=by
 obtain ⟨p,rfl⟩:=hlb
 obtain ⟨q,rfl⟩:=hl
 unfold ahead
 apply ByteArray.ext;apply Array.toList_inj.1
 simp
 have e : p.length + (q.length + l.length) - l.length - p.length = q.length:=by omega
 rw [e]
 simp
set_option maxHeartbeats 2000000 in
theorem written_any (k : Int) (lb l : Bs) (w : World) (h : Rd w R s (s.length - lb.length) l) (hlb : lb <:+ s) (hl : l <:+ lb) :
  Calls Tryz.prog 142 #[.pointer (some ⟨R,0,none⟩),.int .i64 k] w fun e w' => e = .returned (tokV k (ahead lb l) (s.length - lb.length) (s.length - l.length)) ∧ Rd w' R s (s.length - lb.length) l ∧ Kp (Own1 R) w w':=by
 have c0:=fun o => (h.alloc o).c0
 have c1:=fun o => (h.alloc o).c1
 have c2:=fun o => (h.alloc o).c2
 have hle:=hl.length_le
 have hle2:=hlb.length_le
 have hx:=cut_ahead hlb hl
 obtain ⟨h1,_,_⟩:=suf_facts h.suf
 have HH : Hid (Rd w R s (s.length - lb.length) l):=h
 have HK : Hid (R < w.heap.size):=h.lt
 have g1 : ((s.length - lb.length : Nat) : Int) ≤ ((s.length - l.length : Nat) : Int):=by omega
 have g2 : ((s.length - l.length : Nat) : Int) ≤ (s.length : Int):=by omega
 have g3 : (0 : Int) ≤ ((s.length - lb.length : Nat) : Int):=by omega
 clear h
 generalize ahead lb l = T at *
 generalize (ByteArray.mk s.toArray) = D at *
 generalize hA : s.length - l.length = A at *
 generalize hB : s.length - lb.length = B at *
 clear hle hle2 hlb hl
 go_enter Tryz.func142,Tryz.ntmps142
 go_wp2
 go_region
 all_goals
  go_wp2
  exact bodyPost_ret (v:=tokV k T B A) (by simp [results,Tryz.results142,go_sem]) rfl ⟨rfl,((HH.out.alloc _).drewN 1),((Kp.refl _ _).alloc _).drew⟩
theorem walkF_source (S : ByteArray) : ∀ (n p : Nat),walkF S (sourceStep S) n p (0,0) = (0,0) ∨ ∃ q : Nat,q < S.size ∧ walkF S (sourceStep S) n p (0,0) = ((q : Int),10)
 | 0,_ => Or.inl rfl
 | n + 1,p => by
  unfold walkF
  by_cases hp : p < S.size
  ·rw [if_pos hp]
   by_cases hc : sourceB (stC S p) = true
   ·have e : sourceStep S (0,0) p = ((0,0),true):=if_pos hc
    rw [e]
    exact walkF_source S n _
   ·have e : sourceStep S (0,0) p = (((p : Int),10),false):=if_neg hc
    rw [e]
    exact Or.inr ⟨p,hp,rfl⟩
  ·rw [if_neg hp];exact Or.inl rfl
theorem sourceS_cases (x : Bs) : (srcB x = none ∧ (sourceS ⟨x.toArray⟩).2 = 0) ∨ ∃ k : Nat,k < x.length ∧ srcB x = some k ∧ sourceS ⟨x.toArray⟩ = ((k : Int),10):=by
 unfold srcB
 rcases walkF_source ⟨x.toArray⟩ ((ByteArray.mk x.toArray).size - 0) 0 with h | ⟨q,hq,h⟩
 ·left
  have h' : sourceS ⟨x.toArray⟩ = (0,0):=h
  rw [h']
  exact ⟨rfl,rfl⟩
 ·right
  have h' : sourceS ⟨x.toArray⟩ = ((q : Int),10):=h
  rw [h']
  exact ⟨q,hq,rfl,rfl⟩
theorem spanN_head (S : Bs) (c : UInt8) (l : Bs) (h : S.contains c = false) : spanN S (c :: l) = spanN S l:=by
 conv => lhs;unfold spanN
 rw [h]
 rfl
theorem spanN_stop (S : Bs) (c : UInt8) (l : Bs) (h : S.contains c = true) : spanN S (c :: l) = c :: l:=by
 unfold spanN
 rw [if_pos h]
/-- What a comment comes to. -/
def ComP (R : Nat) (s : Bs) (b : Nat) (w : World) (l : Bs) (r : Option (Bs ⊕ Nat)) (e : Ending) (w' : World) : Prop:=(match r with
  | none => e = .returned (.bool false) ∧ Rd w' R s b l
  | some (.inl m) => e = .returned (.bool true) ∧ Rd w' R s b m
  | some (.inr k) => e = Dies (s.length - l.length + k) 50) ∧ Kp (Own1 R) w w'
end
end Go.Proofs.YtgmlbjfgfmfliaaGreatDoor
