/- The reader's small steps. -/
import Derived.Test.YtgppemlciohjcaaGreatDoorB01
import Derived.BigRegion
import Derived.Deep.RegionWith
import Derived.Test.YtgppemlciohjcaaGreatDoorShelf2
import Derived.Shelf.Strings.Builder1
import Derived.Shelf.Strings.Builder2
import Derived.Lib.Builder
namespace Go.Proofs.YtgppemlciohjcaaGreatDoor
open Go Go.RowKit
section
variable {R : Nat} {s : Bs} {b : Nat}
theorem ends_yes (w : World) (h : Rd w R s b []) : Calls Tryz.prog 81 #[.pointer (some ⟨R,0,none⟩)] w fun e w' => e = .returned (.bool true) ∧ ∃ m,w' = w.drewN m:=by
 have c0:=h.c0
 have c2:=h.c2
 obtain ⟨h1,_,_⟩:=suf_facts h.suf
 rw [show s.length - ([] : Bs).length = s.length from rfl] at c2
 generalize (ByteArray.mk s.toArray) = S at *
 go_enter Tryz.func81,Tryz.ntmps81
 go_wp2
 go_quiet (fail)
 go_wp2
 go_ret
 exact ⟨rfl,_,rfl⟩
theorem ends_no (c : UInt8) (l : Bs) (w : World) (h : Rd w R s b (c :: l)) : Calls Tryz.prog 81 #[.pointer (some ⟨R,0,none⟩)] w fun e w' => e = .returned (.bool false) ∧ ∃ m,w' = w.drewN m:=by
 have c0:=h.c0
 have c2:=h.c2
 have hle:=h.le
 obtain ⟨h1,_,h3⟩:=suf_facts h.suf
 have hne : (((s.length - (c :: l).length : Nat) : Int) == (s.length : Int)) = false:=by
  rw [beq_eq_false_iff_ne];simp only [List.length_cons] at h3 hle ⊢;omega
 generalize s.length - (c :: l).length = A at *
 generalize (ByteArray.mk s.toArray) = S at *
 go_enter Tryz.func81,Tryz.ntmps81
 go_wp2
 go_quiet (fail)
 go_wp2
 go_ret
 exact ⟨rfl,_,rfl⟩
set_option maxHeartbeats 1000000 in
theorem sees_any (S l : Bs) (w : World) (h : Rd w R s b l) : Calls Tryz.prog 84 #[.pointer (some ⟨R,0,none⟩),.string ⟨S.toArray⟩] w fun e w' => e = .returned (.bool (headIn S l)) ∧ ∃ m,w' = w.drewN m:=by
 cases l with
 | nil =>
  have E:=fun n => ends_yes (w.drewN n) (h.drewN n)
  go_enter Tryz.func84,Tryz.ntmps84
  go_wp2
  go_quiet ((go_at_call 81;exact Calls.quiet_of (E _)))
  go_wp2
  go_ret
  exact ⟨rfl,_,rfl⟩
 | cons c l =>
  have E:=fun n => ends_no c l (w.drewN n) (h.drewN n)
  have c0:=h.c0
  have c2:=h.c2
  have hle:=h.le
  obtain ⟨h1,_,h3⟩:=suf_facts h.suf
  have hg:=suf_get h.suf
  have hlt : ((s.length - (c :: l).length : Nat) : Int) < s.length:=by simp only [List.length_cons] at h3 hle ⊢;omega
  have I:=fun w => Tryz.strings_IndexByte ⟨S.toArray⟩ (c.toNat : Int) w
  have e8 : ((c.toNat : Int)).toNat.toUInt8 = c:=by simp
  rw [e8] at I
  have hx : decide (0 ≤ Lib.indexByte S c) = headIn S (c :: l):=index_ge0 S c
  generalize headIn S (c :: l) = T at *
  have I' : ∀ w,Calls Tryz.prog 108 #[.string ⟨S.toArray⟩,.int .u8 (c.toNat : Int)] w fun e w' => e = .returned (.int .i64 (Lib.indexByte S c)) ∧ w' = w:=I
  clear I
  generalize Lib.indexByte S c = x at *
  generalize s.length - (c :: l).length = A at *
  generalize (ByteArray.mk s.toArray) = D at *
  have hA : ((A : Nat) : Int).toNat = A:=by omega
  go_enter Tryz.func84,Tryz.ntmps84
  go_wp2
  go_quiet (first
   | (go_at_call 81;exact Calls.quiet_of (E _))
   | (go_at_call 108;exact Calls.quiet_of_same (I' _)))
  go_wp2
  go_ret
  exact ⟨by rw [← hx];rfl,_,rfl⟩
set_option maxHeartbeats 1000000 in
theorem take_any (p l : Bs) (w : World) (h : Rd w R s b l) : Calls Tryz.prog 79 #[.pointer (some ⟨R,0,none⟩),.string ⟨p.toArray⟩] w fun e w' => e = .returned (.bool (p.isPrefixOf l)) ∧ Rd w' R s b (optT p l) ∧ Kp (Own1 R) w w':=by
 have c0:=h.c0
 have c2:=h.c2
 have hf:=h.free 2
 have hle:=h.le
 have hsm:=h.small
 obtain ⟨h1,h2,h3⟩:=suf_facts h.suf
 have H:=fun w => Tryz.strings_HasPrefix ⟨l.toArray⟩ ⟨p.toArray⟩ w
 have H' : ∀ w,Calls Tryz.prog 105 #[.string ⟨l.toArray⟩,.string ⟨p.toArray⟩] w fun e w' => e = .returned (.bool (p.isPrefixOf l)) ∧ w' = w:=H
 clear H
 have hA0 : (0 : Int) ≤ ((s.length - l.length : Nat) : Int):=by omega
 have hA1 : ((s.length - l.length : Nat) : Int) ≤ (s.length : Int):=by omega
 by_cases hp : p.isPrefixOf l = true
 ·have hpl : p.length ≤ l.length:=(List.isPrefixOf_iff_prefix.1 hp).length_le
  have hmv:=h.move (drop_suf p.length l) (((s.length - l.length : Nat) : Int) + (p.length : Int)) (by rw [List.length_drop];omega)
  have ho : optT p l = l.drop p.length:=if_pos hp
  rw [ho,hp]
  rw [hp] at H'
  have hp1:=size_of p
  have HM : Hid (Rd (w.setCell ⟨R,2,none⟩ (.int .i64 (((s.length - l.length : Nat) : Int) + (p.length : Int)))) R s b (l.drop p.length)):=hmv
  have hpI : (p.length : Int) ≤ 16384:=by omega
  have hAI : ((s.length - l.length : Nat) : Int) ≤ 16384:=by omega
  have hpI0 : (0 : Int) ≤ (p.length : Int):=by omega
  clear hmv h hp ho
  generalize s.length - l.length = A at *
  generalize (ByteArray.mk s.toArray) = D at *
  generalize (ByteArray.mk l.toArray) = L at *
  generalize (ByteArray.mk p.toArray) = P at *
  go_enter Tryz.func79,Tryz.ntmps79
  go_wp2
  go_quiet ((go_at_call 105;exact Calls.quiet_of_same (H' _)))
  go_wp2
  go_ret
  exact ⟨rfl,HM.out.drewN _,by first | exact (Kp.own R 2 _).drewN _ | exact (Kp.n w _).trans (Kp.own R 2 _)⟩
 ·have hp' : p.isPrefixOf l = false:=Bool.eq_false_iff.2 hp
  have ho : optT p l = l:=if_neg hp
  rw [ho,hp']
  rw [hp'] at H'
  have HM : Hid (Rd w R s b l):=h
  clear h hp ho hp'
  generalize s.length - l.length = A at *
  generalize (ByteArray.mk s.toArray) = D at *
  generalize (ByteArray.mk l.toArray) = L at *
  generalize (ByteArray.mk p.toArray) = P at *
  go_enter Tryz.func79,Tryz.ntmps79
  go_wp2
  go_quiet ((go_at_call 105;exact Calls.quiet_of_same (H' _)))
  go_wp2
  go_ret
  exact ⟨rfl,HM.out.drewN _,(Kp.refl _ _).drewN _⟩
set_option maxHeartbeats 1000000 in
theorem one_any (S l : Bs) (w : World) (h : Rd w R s b l) : Calls Tryz.prog 82 #[.pointer (some ⟨R,0,none⟩),.string ⟨S.toArray⟩] w fun e w' => e = .returned (.bool (headIn S l)) ∧ Rd w' R s b (optO S l) ∧ Kp (Own1 R) w w':=by
 have E:=sees_any S l w h
 have c2:=h.c2
 have hf:=h.free 2
 have hle:=h.le
 have hsm:=h.small
 by_cases hp : headIn S l = true
 ·cases l with
  | nil => cases hp
  | cons c l =>
   have ho : optO S (c :: l) = l:=by unfold optO;rw [if_pos hp];rfl
   have hmv:=h.move (tail_suf c l) (((s.length - (c :: l).length : Nat) : Int) + 1) (by simp only [List.length_cons] at hle ⊢;omega)
   rw [ho,hp]
   rw [hp] at E
   have HM : Hid (Rd (w.setCell ⟨R,2,none⟩ (.int .i64 (((s.length - (c :: l).length : Nat) : Int) + 1))) R s b l):=hmv
   have hAI : ((s.length - (c :: l).length : Nat) : Int) ≤ 16384:=by omega
   have hA0 : (0 : Int) ≤ ((s.length - (c :: l).length : Nat) : Int):=by omega
   clear hmv h hp ho
   generalize s.length - (c :: l).length = A at *
   go_enter Tryz.func82,Tryz.ntmps82
   go_wp2_with (go_at_call 84;refine E.mono ?_;rintro e w1 ⟨rfl,m,rfl⟩)
   go_ret
   exact ⟨rfl,HM.out.drewN _,by first | exact (Kp.own R 2 _).drewN _ | exact (Kp.n w _).trans (Kp.own R 2 _)⟩
 ·have hp' : headIn S l = false:=by simpa using hp
  have ho : optO S l = l:=if_neg hp
  rw [ho,hp']
  rw [hp'] at E
  have HM : Hid (Rd w R s b l):=h
  clear h hp ho hp'
  go_enter Tryz.func82,Tryz.ntmps82
  go_wp2_with (go_at_call 84;refine E.mono ?_;rintro e w1 ⟨rfl,m,rfl⟩)
  go_ret
  exact ⟨rfl,HM.out.drewN _,(Kp.refl _ _).drewN _⟩
theorem byte_any (c : UInt8) (l : Bs) (w : World) (h : Rd w R s b (c :: l)) : Calls Tryz.prog 106 #[.pointer (some ⟨R,0,none⟩)] w fun e w' => e = .returned (.int .u8 (c.toNat : Int)) ∧ Rd w' R s b l ∧ Kp (Own1 R) w w':=by
 have c0:=h.c0
 have c2:=h.c2
 have hf:=h.free 2
 have hle:=h.le
 have hsm:=h.small
 obtain ⟨h1,_,h3⟩:=suf_facts h.suf
 have hg:=suf_get h.suf
 have hmv:=h.move (tail_suf c l) (((s.length - (c :: l).length : Nat) : Int) + 1) (by simp only [List.length_cons] at hle ⊢;omega)
 have HM : Hid (Rd (w.setCell ⟨R,2,none⟩ (.int .i64 (((s.length - (c :: l).length : Nat) : Int) + 1))) R s b l):=hmv
 have hAI : ((s.length - (c :: l).length : Nat) : Int) ≤ 16384:=by omega
 have hlt : ((s.length - (c :: l).length : Nat) : Int) < s.length:=by simp only [List.length_cons] at h3 hle ⊢;omega
 have hA0 : (0 : Int) ≤ ((s.length - (c :: l).length : Nat) : Int):=by omega
 clear hmv h
 generalize s.length - (c :: l).length = A at *
 generalize (ByteArray.mk s.toArray) = D at *
 have e1 : (A : Int) + 1 - 1 = A:=by omega
 have hA : ((A : Nat) : Int).toNat = A:=by omega
 go_enter Tryz.func106,Tryz.ntmps106
 go_wp2
 go_quiet (fail)
 go_wp2
 go_ret
 exact ⟨rfl,HM.out.drewN _,by first | exact (Kp.own R 2 _).drewN _ | exact (Kp.n w _).trans (Kp.own R 2 _)⟩
theorem fail_any (l : Bs) (x : Int) (w : World) (h : Rd w R s b l) : Calls Tryz.prog 51 #[.pointer (some ⟨R,0,none⟩),.int .i64 x] w fun e w' => e = Dies b x ∧ w' = w:=by
 have c1:=h.c1
 go_enter Tryz.func51,Tryz.ntmps51
 go_wp2
 exact ⟨rfl,rfl,rfl⟩
end
end Go.Proofs.YtgppemlciohjcaaGreatDoor
namespace Go.Proofs.YtgppemlciohjcaaGreatDoor
open Go Go.RowKit
section
variable {R : Nat} {s : Bs} {b : Nat}
def atOf (w : World) (R : Nat) : Int:=match w.cell? ⟨R,2,none⟩ with | some (.int _ n) => n | _ => 0
theorem atOf_eq {w : World} {l : Bs} (h : Rd w R s b l) : atOf w R = ((s.length - l.length : Nat) : Int):=by
 unfold atOf;rw [h.c2]
theorem spanR_head (S : Bs) : ∀ l : Bs,headIn S l = true → spanR S (l.drop 1) = spanR S l
 | [],h => by cases h
 | c :: l,h => by
  have h' : S.contains c = true:=h
  show spanR S l = spanR S (c :: l)
  conv => rhs;unfold spanR
  rw [if_pos h']
theorem spanR_stop (S : Bs) : ∀ l : Bs,headIn S l = false → spanR S l = l
 | [],_ => rfl
 | c :: l,h => by
  have h' : ¬ S.contains c = true:=by rw [show S.contains c = false from h];simp
  unfold spanR
  rw [if_neg h']
set_option maxHeartbeats 1000000 in
theorem row_any (S l : Bs) (w : World) (h : Rd w R s b l) : Calls Tryz.prog 78 #[.pointer (some ⟨R,0,none⟩),.string ⟨S.toArray⟩] w fun e w' => e = .returned (.bool (headIn S l)) ∧ Rd w' R s b (spanR S l) ∧ Kp (Own1 R) w w':=by
 have c2:=h.c2
 have hle:=h.le
 have hB : Hid (headIn S l = decide (s.length - l.length < s.length - (spanR S l).length)):=by
  show _ = _
  have hs:=(spanR_suf S l).length_le
  by_cases hh : headIn S l = true
  ·rw [hh]
   symm
   rw [decide_eq_true_eq]
   rw [← spanR_head S l hh]
   have:=(spanR_suf S (l.drop 1)).length_le
   have hl : 0 < l.length:=by
    cases l with
    | nil => cases hh
    | cons c l => simp
   rw [List.length_drop] at this
   omega
  ·have hh' : headIn S l = false:=Bool.eq_false_iff.2 hh
   rw [hh',spanR_stop S l hh']
   simp
 have hA0 : (0 : Int) ≤ ((s.length - l.length : Nat) : Int):=by omega
 have HH : Hid (Rd w R s b l):=h
 clear h
 go_enter Tryz.func78,Tryz.ntmps78
 go_wp2
 go_loopw [12] (fun _ wr => ∃ l',Rd wr R s b l' ∧ spanR S l' = spanR S l ∧ Kp (Own1 R) w wr) (fun _ wr => s.length - (atOf wr R).toNat)
 case atStart => exact ⟨l,HH.out,rfl,Kp.refl _ _⟩
 case round =>
  obtain ⟨l',hr,hsp,hk⟩:=hrel
  have O:=one_any S l' wr hr
  have ha:=atOf_eq hr
  have HSP : Hid (spanR S l' = spanR S l):=hsp
  clear hsp
  have hle':=hr.le
  by_cases hh : headIn S l' = true
  ·rw [hh] at O
   have ho : optO S l' = l'.drop 1:=if_pos hh
   rw [ho] at O
   have hl : 0 < l'.length:=by
    cases l' with
    | nil => cases hh
    | cons c l => simp
   have HH' : Hid (headIn S l' = true):=hh
   clear hh ho
   go_wp2_with (go_at_call 82;refine O.mono ?_;rintro e w1 ⟨rfl,hr1,hk1⟩)
   refine ⟨⟨_,hr1,(spanR_head S l' HH'.out).trans HSP.out,hk.trans hk1⟩,?_⟩
   rw [atOf_eq hr1,ha,List.length_drop]
   simp only [Int.toNat_natCast]
   omega
  ·have hh' : headIn S l' = false:=Bool.eq_false_iff.2 hh
   rw [hh'] at O
   have ho : optO S l' = l':=if_neg hh
   rw [ho] at O
   have HE : Hid (l' = spanR S l):=(spanR_stop S l' hh').symm.trans HSP.out
   clear hh ho hh'
   go_wp2_with (go_at_call 82;refine O.mono ?_;rintro e w1 ⟨rfl,hr1,hk1⟩;have d2:=hr1.c2)
   go_ret
   have e:=HE.out
   subst e
   exact ⟨by rw [hB.out];rfl,hr1,hk.trans hk1⟩
theorem need_yes (l : Bs) (w : World) (h : Rd w R s b l) (hh : headIn digL l = true) : Calls Tryz.prog 109 #[.pointer (some ⟨R,0,none⟩)] w fun e w' => e = .returned (.tuple #[]) ∧ Rd w' R s b (spanR digL l) ∧ Kp (Own1 R) w w':=by
 have O:=row_any digL l w h
 rw [hh] at O
 clear hh
 go_enter Tryz.func109,Tryz.ntmps109
 go_wp2_with (go_at_call 78;refine O.mono ?_;rintro e w1 ⟨rfl,hr1,hk1⟩)
 go_end0
 exact ⟨rfl,hr1,hk1⟩
theorem need_no (l : Bs) (w : World) (h : Rd w R s b l) (hh : headIn digL l = false) : Calls Tryz.prog 109 #[.pointer (some ⟨R,0,none⟩)] w fun e w' => e = Dies b 51 ∧ Kp (Own1 R) w w':=by
 have O:=row_any digL l w h
 rw [hh] at O
 clear hh
 go_enter Tryz.func109,Tryz.ntmps109
 go_wp2_with (first
  | (go_at_call 78;refine O.mono ?_;rintro e w1 ⟨rfl,hr1,hk1⟩)
  | (go_at_call 51;refine (fail_any _ _ _ hr1).mono ?_;rintro e w2 ⟨rfl,rfl⟩))
 exact ⟨rfl,rfl,hk1⟩
def Goes (f : FuncId) (R : Nat) (s : Bs) (b : Nat) (l : Bs) (v : Value) (m : Bs) : Prop:=∀ w,Rd w R s b l → Calls Tryz.prog f #[.pointer (some ⟨R,0,none⟩)] w fun e w' => e = .returned v ∧ Rd w' R s b m ∧ Kp (Own1 R) w w'
def Gives (f : FuncId) (R : Nat) (s : Bs) (b : Nat) (l : Bs) (x : Int) : Prop:=∀ w,Rd w R s b l → Calls Tryz.prog f #[.pointer (some ⟨R,0,none⟩)] w fun e w' => e = Dies b x ∧ Kp (Own1 R) w w'
theorem needD_yes (l r : Bs) (h : needD l = some r) : Goes 109 R s b l (.tuple #[]) r:=by
 intro w hr
 unfold needD at h
 by_cases hh : headIn digL l = true
 ·rw [if_pos hh] at h;cases h;exact need_yes l w hr hh
 ·rw [if_neg hh] at h;cases h
theorem needD_no (l : Bs) (h : needD l = none) : Gives 109 R s b l 51:=by
 intro w hr
 unfold needD at h
 by_cases hh : headIn digL l = true
 ·rw [if_pos hh] at h;cases h
 ·exact need_no l w hr (Bool.eq_false_iff.2 hh)
def numL : Bs:=digL ++ 46 :: letL
end
end Go.Proofs.YtgppemlciohjcaaGreatDoor
namespace Go.Proofs.YtgppemlciohjcaaGreatDoor
open Go Go.RowKit
section
variable {R : Nat} {s : Bs} {b : Nat}
def NumP (R : Nat) (s : Bs) (b : Nat) (w : World) (r : Option (Int × Bs)) (e : Ending) (w' : World) : Prop:=(match r with
  | some p => e = .returned (.int .i64 p.1) ∧ Rd w' R s b p.2
  | none => e = Dies b 51) ∧ Kp (Own1 R) w w'
set_option maxHeartbeats 1000000 in
theorem num_1 (l l0 l1 : Bs) (B0 : Bool) (T0 : ∀ w,Rd w R s b l → Calls Tryz.prog 79 #[.pointer (some ⟨R,0,none⟩),.string ⟨#[45]⟩] w fun e w' => e = .returned (.bool B0) ∧ Rd w' R s b l0 ∧ Kp (Own1 R) w w') (T1 : ∀ w,Rd w R s b l0 → Calls Tryz.prog 79 #[.pointer (some ⟨R,0,none⟩),.string ⟨#[48]⟩] w fun e w' => e = .returned (.bool true) ∧ Rd w' R s b l1 ∧ Kp (Own1 R) w w') (T2 : ∀ w,Rd w R s b l1 → Calls Tryz.prog 79 #[.pointer (some ⟨R,0,none⟩),.string ⟨#[46]⟩] w fun e w' => e = .returned (.bool false) ∧ Rd w' R s b l1 ∧ Kp (Own1 R) w w') (O3 : ∀ w,Rd w R s b l1 → Calls Tryz.prog 82 #[.pointer (some ⟨R,0,none⟩),.string ⟨#[101,69]⟩] w fun e w' => e = .returned (.bool false) ∧ Rd w' R s b l1 ∧ Kp (Own1 R) w w') (S5 : ∀ w,Rd w R s b l1 → Calls Tryz.prog 84 #[.pointer (some ⟨R,0,none⟩),.string ⟨numL.toArray⟩] w fun e w' => e = .returned (.bool false) ∧ Rd w' R s b l1 ∧ Kp (Own1 R) w w') (w : World) (h : Rd w R s b l) : Calls Tryz.prog 85 #[.pointer (some ⟨R,0,none⟩)] w (NumP R s b w (some (2,l1))):=by
 go_enter Tryz.func85,Tryz.ntmps85
 go_wp2_with (first
  | (go_at_call 84;refine (S5 _ hr4).mono ?_;rintro e w5 ⟨rfl,hr5,hk5⟩)
  | (go_at_call 82;refine (O3 _ hr3).mono ?_;rintro e w4 ⟨rfl,hr4,hk4⟩)
  | (go_at_call 79;refine (T2 _ hr2).mono ?_;rintro e w3 ⟨rfl,hr3,hk3⟩)
  | (go_at_call 79;refine (T1 _ hr1).mono ?_;rintro e w2 ⟨rfl,hr2,hk2⟩)
  | (go_at_call 79;refine (T0 _ h).mono ?_;rintro e w1 ⟨rfl,hr1,hk1⟩)
  | fail)
 go_ret
 exact ⟨⟨rfl,hr5⟩,(((hk1.trans hk2).trans hk3).trans hk4).trans hk5⟩
set_option maxHeartbeats 1000000 in
theorem num_2 (l l0 l1 : Bs) (B0 : Bool) (T0 : ∀ w,Rd w R s b l → Calls Tryz.prog 79 #[.pointer (some ⟨R,0,none⟩),.string ⟨#[45]⟩] w fun e w' => e = .returned (.bool B0) ∧ Rd w' R s b l0 ∧ Kp (Own1 R) w w') (T1 : ∀ w,Rd w R s b l0 → Calls Tryz.prog 79 #[.pointer (some ⟨R,0,none⟩),.string ⟨#[48]⟩] w fun e w' => e = .returned (.bool true) ∧ Rd w' R s b l1 ∧ Kp (Own1 R) w w') (T2 : ∀ w,Rd w R s b l1 → Calls Tryz.prog 79 #[.pointer (some ⟨R,0,none⟩),.string ⟨#[46]⟩] w fun e w' => e = .returned (.bool false) ∧ Rd w' R s b l1 ∧ Kp (Own1 R) w w') (O3 : ∀ w,Rd w R s b l1 → Calls Tryz.prog 82 #[.pointer (some ⟨R,0,none⟩),.string ⟨#[101,69]⟩] w fun e w' => e = .returned (.bool false) ∧ Rd w' R s b l1 ∧ Kp (Own1 R) w w') (S5 : ∀ w,Rd w R s b l1 → Calls Tryz.prog 84 #[.pointer (some ⟨R,0,none⟩),.string ⟨numL.toArray⟩] w fun e w' => e = .returned (.bool true) ∧ Rd w' R s b l1 ∧ Kp (Own1 R) w w') (w : World) (h : Rd w R s b l) : Calls Tryz.prog 85 #[.pointer (some ⟨R,0,none⟩)] w (NumP R s b w none):=by
 go_enter Tryz.func85,Tryz.ntmps85
 go_wp2_with (first
  | (go_at_call 51;refine (fail_any _ _ _ hr5).mono ?_;rintro e w6 ⟨rfl,rfl⟩)
  | (go_at_call 84;refine (S5 _ hr4).mono ?_;rintro e w5 ⟨rfl,hr5,hk5⟩)
  | (go_at_call 82;refine (O3 _ hr3).mono ?_;rintro e w4 ⟨rfl,hr4,hk4⟩)
  | (go_at_call 79;refine (T2 _ hr2).mono ?_;rintro e w3 ⟨rfl,hr3,hk3⟩)
  | (go_at_call 79;refine (T1 _ hr1).mono ?_;rintro e w2 ⟨rfl,hr2,hk2⟩)
  | (go_at_call 79;refine (T0 _ h).mono ?_;rintro e w1 ⟨rfl,hr1,hk1⟩)
  | fail)
 exact ⟨rfl,rfl,(((hk1.trans hk2).trans hk3).trans hk4).trans hk5⟩
set_option maxHeartbeats 1000000 in
theorem num_3 (l l0 l1 l3 m2 m3 : Bs) (B0 B4 : Bool) (T0 : ∀ w,Rd w R s b l → Calls Tryz.prog 79 #[.pointer (some ⟨R,0,none⟩),.string ⟨#[45]⟩] w fun e w' => e = .returned (.bool B0) ∧ Rd w' R s b l0 ∧ Kp (Own1 R) w w') (T1 : ∀ w,Rd w R s b l0 → Calls Tryz.prog 79 #[.pointer (some ⟨R,0,none⟩),.string ⟨#[48]⟩] w fun e w' => e = .returned (.bool true) ∧ Rd w' R s b l1 ∧ Kp (Own1 R) w w') (T2 : ∀ w,Rd w R s b l1 → Calls Tryz.prog 79 #[.pointer (some ⟨R,0,none⟩),.string ⟨#[46]⟩] w fun e w' => e = .returned (.bool false) ∧ Rd w' R s b l1 ∧ Kp (Own1 R) w w') (O3 : ∀ w,Rd w R s b l1 → Calls Tryz.prog 82 #[.pointer (some ⟨R,0,none⟩),.string ⟨#[101,69]⟩] w fun e w' => e = .returned (.bool true) ∧ Rd w' R s b m2 ∧ Kp (Own1 R) w w') (O4 : ∀ w,Rd w R s b m2 → Calls Tryz.prog 82 #[.pointer (some ⟨R,0,none⟩),.string ⟨#[43,45]⟩] w fun e w' => e = .returned (.bool B4) ∧ Rd w' R s b m3 ∧ Kp (Own1 R) w w') (N3 : Goes 109 R s b m3 (.tuple #[]) l3) (S5 : ∀ w,Rd w R s b l3 → Calls Tryz.prog 84 #[.pointer (some ⟨R,0,none⟩),.string ⟨numL.toArray⟩] w fun e w' => e = .returned (.bool false) ∧ Rd w' R s b l3 ∧ Kp (Own1 R) w w') (w : World) (h : Rd w R s b l) : Calls Tryz.prog 85 #[.pointer (some ⟨R,0,none⟩)] w (NumP R s b w (some (3,l3))):=by
 go_enter Tryz.func85,Tryz.ntmps85
 go_wp2_with (first
  | (go_at_call 84;refine (S5 _ hr6).mono ?_;rintro e w7 ⟨rfl,hr7,hk7⟩)
  | (go_at_call 109;refine (N3 _ hr5).mono ?_;rintro e w6 ⟨rfl,hr6,hk6⟩)
  | (go_at_call 82;refine (O4 _ hr4).mono ?_;rintro e w5 ⟨rfl,hr5,hk5⟩)
  | (go_at_call 82;refine (O3 _ hr3).mono ?_;rintro e w4 ⟨rfl,hr4,hk4⟩)
  | (go_at_call 79;refine (T2 _ hr2).mono ?_;rintro e w3 ⟨rfl,hr3,hk3⟩)
  | (go_at_call 79;refine (T1 _ hr1).mono ?_;rintro e w2 ⟨rfl,hr2,hk2⟩)
  | (go_at_call 79;refine (T0 _ h).mono ?_;rintro e w1 ⟨rfl,hr1,hk1⟩)
  | fail)
 go_ret
 exact ⟨⟨rfl,hr7⟩,(((((hk1.trans hk2).trans hk3).trans hk4).trans hk5).trans hk6).trans hk7⟩
set_option maxHeartbeats 1000000 in
theorem num_4 (l l0 l1 l3 m2 m3 : Bs) (B0 B4 : Bool) (T0 : ∀ w,Rd w R s b l → Calls Tryz.prog 79 #[.pointer (some ⟨R,0,none⟩),.string ⟨#[45]⟩] w fun e w' => e = .returned (.bool B0) ∧ Rd w' R s b l0 ∧ Kp (Own1 R) w w') (T1 : ∀ w,Rd w R s b l0 → Calls Tryz.prog 79 #[.pointer (some ⟨R,0,none⟩),.string ⟨#[48]⟩] w fun e w' => e = .returned (.bool true) ∧ Rd w' R s b l1 ∧ Kp (Own1 R) w w') (T2 : ∀ w,Rd w R s b l1 → Calls Tryz.prog 79 #[.pointer (some ⟨R,0,none⟩),.string ⟨#[46]⟩] w fun e w' => e = .returned (.bool false) ∧ Rd w' R s b l1 ∧ Kp (Own1 R) w w') (O3 : ∀ w,Rd w R s b l1 → Calls Tryz.prog 82 #[.pointer (some ⟨R,0,none⟩),.string ⟨#[101,69]⟩] w fun e w' => e = .returned (.bool true) ∧ Rd w' R s b m2 ∧ Kp (Own1 R) w w') (O4 : ∀ w,Rd w R s b m2 → Calls Tryz.prog 82 #[.pointer (some ⟨R,0,none⟩),.string ⟨#[43,45]⟩] w fun e w' => e = .returned (.bool B4) ∧ Rd w' R s b m3 ∧ Kp (Own1 R) w w') (N3 : Goes 109 R s b m3 (.tuple #[]) l3) (S5 : ∀ w,Rd w R s b l3 → Calls Tryz.prog 84 #[.pointer (some ⟨R,0,none⟩),.string ⟨numL.toArray⟩] w fun e w' => e = .returned (.bool true) ∧ Rd w' R s b l3 ∧ Kp (Own1 R) w w') (w : World) (h : Rd w R s b l) : Calls Tryz.prog 85 #[.pointer (some ⟨R,0,none⟩)] w (NumP R s b w none):=by
 go_enter Tryz.func85,Tryz.ntmps85
 go_wp2_with (first
  | (go_at_call 51;refine (fail_any _ _ _ hr7).mono ?_;rintro e w8 ⟨rfl,rfl⟩)
  | (go_at_call 84;refine (S5 _ hr6).mono ?_;rintro e w7 ⟨rfl,hr7,hk7⟩)
  | (go_at_call 109;refine (N3 _ hr5).mono ?_;rintro e w6 ⟨rfl,hr6,hk6⟩)
  | (go_at_call 82;refine (O4 _ hr4).mono ?_;rintro e w5 ⟨rfl,hr5,hk5⟩)
  | (go_at_call 82;refine (O3 _ hr3).mono ?_;rintro e w4 ⟨rfl,hr4,hk4⟩)
  | (go_at_call 79;refine (T2 _ hr2).mono ?_;rintro e w3 ⟨rfl,hr3,hk3⟩)
  | (go_at_call 79;refine (T1 _ hr1).mono ?_;rintro e w2 ⟨rfl,hr2,hk2⟩)
  | (go_at_call 79;refine (T0 _ h).mono ?_;rintro e w1 ⟨rfl,hr1,hk1⟩)
  | fail)
 exact ⟨rfl,rfl,(((((hk1.trans hk2).trans hk3).trans hk4).trans hk5).trans hk6).trans hk7⟩
set_option maxHeartbeats 1000000 in
theorem num_5 (l l0 l1 m2 m3 : Bs) (B0 B4 : Bool) (T0 : ∀ w,Rd w R s b l → Calls Tryz.prog 79 #[.pointer (some ⟨R,0,none⟩),.string ⟨#[45]⟩] w fun e w' => e = .returned (.bool B0) ∧ Rd w' R s b l0 ∧ Kp (Own1 R) w w') (T1 : ∀ w,Rd w R s b l0 → Calls Tryz.prog 79 #[.pointer (some ⟨R,0,none⟩),.string ⟨#[48]⟩] w fun e w' => e = .returned (.bool true) ∧ Rd w' R s b l1 ∧ Kp (Own1 R) w w') (T2 : ∀ w,Rd w R s b l1 → Calls Tryz.prog 79 #[.pointer (some ⟨R,0,none⟩),.string ⟨#[46]⟩] w fun e w' => e = .returned (.bool false) ∧ Rd w' R s b l1 ∧ Kp (Own1 R) w w') (O3 : ∀ w,Rd w R s b l1 → Calls Tryz.prog 82 #[.pointer (some ⟨R,0,none⟩),.string ⟨#[101,69]⟩] w fun e w' => e = .returned (.bool true) ∧ Rd w' R s b m2 ∧ Kp (Own1 R) w w') (O4 : ∀ w,Rd w R s b m2 → Calls Tryz.prog 82 #[.pointer (some ⟨R,0,none⟩),.string ⟨#[43,45]⟩] w fun e w' => e = .returned (.bool B4) ∧ Rd w' R s b m3 ∧ Kp (Own1 R) w w') (N3 : Gives 109 R s b m3 51) (w : World) (h : Rd w R s b l) : Calls Tryz.prog 85 #[.pointer (some ⟨R,0,none⟩)] w (NumP R s b w none):=by
 go_enter Tryz.func85,Tryz.ntmps85
 go_wp2_with (first
  | (go_at_call 109;refine (N3 _ hr5).mono ?_;rintro e w6 ⟨rfl,hk6⟩)
  | (go_at_call 82;refine (O4 _ hr4).mono ?_;rintro e w5 ⟨rfl,hr5,hk5⟩)
  | (go_at_call 82;refine (O3 _ hr3).mono ?_;rintro e w4 ⟨rfl,hr4,hk4⟩)
  | (go_at_call 79;refine (T2 _ hr2).mono ?_;rintro e w3 ⟨rfl,hr3,hk3⟩)
  | (go_at_call 79;refine (T1 _ hr1).mono ?_;rintro e w2 ⟨rfl,hr2,hk2⟩)
  | (go_at_call 79;refine (T0 _ h).mono ?_;rintro e w1 ⟨rfl,hr1,hk1⟩)
  | fail)
 exact ⟨rfl,rfl,((((hk1.trans hk2).trans hk3).trans hk4).trans hk5).trans hk6⟩
set_option maxHeartbeats 1000000 in
theorem num_6 (l l0 l1 l2 m1 : Bs) (B0 : Bool) (T0 : ∀ w,Rd w R s b l → Calls Tryz.prog 79 #[.pointer (some ⟨R,0,none⟩),.string ⟨#[45]⟩] w fun e w' => e = .returned (.bool B0) ∧ Rd w' R s b l0 ∧ Kp (Own1 R) w w') (T1 : ∀ w,Rd w R s b l0 → Calls Tryz.prog 79 #[.pointer (some ⟨R,0,none⟩),.string ⟨#[48]⟩] w fun e w' => e = .returned (.bool true) ∧ Rd w' R s b l1 ∧ Kp (Own1 R) w w') (T2 : ∀ w,Rd w R s b l1 → Calls Tryz.prog 79 #[.pointer (some ⟨R,0,none⟩),.string ⟨#[46]⟩] w fun e w' => e = .returned (.bool true) ∧ Rd w' R s b m1 ∧ Kp (Own1 R) w w') (N2 : Goes 109 R s b m1 (.tuple #[]) l2) (O3 : ∀ w,Rd w R s b l2 → Calls Tryz.prog 82 #[.pointer (some ⟨R,0,none⟩),.string ⟨#[101,69]⟩] w fun e w' => e = .returned (.bool false) ∧ Rd w' R s b l2 ∧ Kp (Own1 R) w w') (S5 : ∀ w,Rd w R s b l2 → Calls Tryz.prog 84 #[.pointer (some ⟨R,0,none⟩),.string ⟨numL.toArray⟩] w fun e w' => e = .returned (.bool false) ∧ Rd w' R s b l2 ∧ Kp (Own1 R) w w') (w : World) (h : Rd w R s b l) : Calls Tryz.prog 85 #[.pointer (some ⟨R,0,none⟩)] w (NumP R s b w (some (3,l2))):=by
 go_enter Tryz.func85,Tryz.ntmps85
 go_wp2_with (first
  | (go_at_call 84;refine (S5 _ hr5).mono ?_;rintro e w6 ⟨rfl,hr6,hk6⟩)
  | (go_at_call 82;refine (O3 _ hr4).mono ?_;rintro e w5 ⟨rfl,hr5,hk5⟩)
  | (go_at_call 109;refine (N2 _ hr3).mono ?_;rintro e w4 ⟨rfl,hr4,hk4⟩)
  | (go_at_call 79;refine (T2 _ hr2).mono ?_;rintro e w3 ⟨rfl,hr3,hk3⟩)
  | (go_at_call 79;refine (T1 _ hr1).mono ?_;rintro e w2 ⟨rfl,hr2,hk2⟩)
  | (go_at_call 79;refine (T0 _ h).mono ?_;rintro e w1 ⟨rfl,hr1,hk1⟩)
  | fail)
 go_ret
 exact ⟨⟨rfl,hr6⟩,((((hk1.trans hk2).trans hk3).trans hk4).trans hk5).trans hk6⟩
set_option maxHeartbeats 1000000 in
theorem num_7 (l l0 l1 l2 m1 : Bs) (B0 : Bool) (T0 : ∀ w,Rd w R s b l → Calls Tryz.prog 79 #[.pointer (some ⟨R,0,none⟩),.string ⟨#[45]⟩] w fun e w' => e = .returned (.bool B0) ∧ Rd w' R s b l0 ∧ Kp (Own1 R) w w') (T1 : ∀ w,Rd w R s b l0 → Calls Tryz.prog 79 #[.pointer (some ⟨R,0,none⟩),.string ⟨#[48]⟩] w fun e w' => e = .returned (.bool true) ∧ Rd w' R s b l1 ∧ Kp (Own1 R) w w') (T2 : ∀ w,Rd w R s b l1 → Calls Tryz.prog 79 #[.pointer (some ⟨R,0,none⟩),.string ⟨#[46]⟩] w fun e w' => e = .returned (.bool true) ∧ Rd w' R s b m1 ∧ Kp (Own1 R) w w') (N2 : Goes 109 R s b m1 (.tuple #[]) l2) (O3 : ∀ w,Rd w R s b l2 → Calls Tryz.prog 82 #[.pointer (some ⟨R,0,none⟩),.string ⟨#[101,69]⟩] w fun e w' => e = .returned (.bool false) ∧ Rd w' R s b l2 ∧ Kp (Own1 R) w w') (S5 : ∀ w,Rd w R s b l2 → Calls Tryz.prog 84 #[.pointer (some ⟨R,0,none⟩),.string ⟨numL.toArray⟩] w fun e w' => e = .returned (.bool true) ∧ Rd w' R s b l2 ∧ Kp (Own1 R) w w') (w : World) (h : Rd w R s b l) : Calls Tryz.prog 85 #[.pointer (some ⟨R,0,none⟩)] w (NumP R s b w none):=by
 go_enter Tryz.func85,Tryz.ntmps85
 go_wp2_with (first
  | (go_at_call 51;refine (fail_any _ _ _ hr6).mono ?_;rintro e w7 ⟨rfl,rfl⟩)
  | (go_at_call 84;refine (S5 _ hr5).mono ?_;rintro e w6 ⟨rfl,hr6,hk6⟩)
  | (go_at_call 82;refine (O3 _ hr4).mono ?_;rintro e w5 ⟨rfl,hr5,hk5⟩)
  | (go_at_call 109;refine (N2 _ hr3).mono ?_;rintro e w4 ⟨rfl,hr4,hk4⟩)
  | (go_at_call 79;refine (T2 _ hr2).mono ?_;rintro e w3 ⟨rfl,hr3,hk3⟩)
  | (go_at_call 79;refine (T1 _ hr1).mono ?_;rintro e w2 ⟨rfl,hr2,hk2⟩)
  | (go_at_call 79;refine (T0 _ h).mono ?_;rintro e w1 ⟨rfl,hr1,hk1⟩)
  | fail)
 exact ⟨rfl,rfl,((((hk1.trans hk2).trans hk3).trans hk4).trans hk5).trans hk6⟩
set_option maxHeartbeats 1000000 in
theorem num_8 (l l0 l1 l2 l3 m1 m2 m3 : Bs) (B0 B4 : Bool) (T0 : ∀ w,Rd w R s b l → Calls Tryz.prog 79 #[.pointer (some ⟨R,0,none⟩),.string ⟨#[45]⟩] w fun e w' => e = .returned (.bool B0) ∧ Rd w' R s b l0 ∧ Kp (Own1 R) w w') (T1 : ∀ w,Rd w R s b l0 → Calls Tryz.prog 79 #[.pointer (some ⟨R,0,none⟩),.string ⟨#[48]⟩] w fun e w' => e = .returned (.bool true) ∧ Rd w' R s b l1 ∧ Kp (Own1 R) w w') (T2 : ∀ w,Rd w R s b l1 → Calls Tryz.prog 79 #[.pointer (some ⟨R,0,none⟩),.string ⟨#[46]⟩] w fun e w' => e = .returned (.bool true) ∧ Rd w' R s b m1 ∧ Kp (Own1 R) w w') (N2 : Goes 109 R s b m1 (.tuple #[]) l2) (O3 : ∀ w,Rd w R s b l2 → Calls Tryz.prog 82 #[.pointer (some ⟨R,0,none⟩),.string ⟨#[101,69]⟩] w fun e w' => e = .returned (.bool true) ∧ Rd w' R s b m2 ∧ Kp (Own1 R) w w') (O4 : ∀ w,Rd w R s b m2 → Calls Tryz.prog 82 #[.pointer (some ⟨R,0,none⟩),.string ⟨#[43,45]⟩] w fun e w' => e = .returned (.bool B4) ∧ Rd w' R s b m3 ∧ Kp (Own1 R) w w') (N3 : Goes 109 R s b m3 (.tuple #[]) l3) (S5 : ∀ w,Rd w R s b l3 → Calls Tryz.prog 84 #[.pointer (some ⟨R,0,none⟩),.string ⟨numL.toArray⟩] w fun e w' => e = .returned (.bool false) ∧ Rd w' R s b l3 ∧ Kp (Own1 R) w w') (w : World) (h : Rd w R s b l) : Calls Tryz.prog 85 #[.pointer (some ⟨R,0,none⟩)] w (NumP R s b w (some (3,l3))):=by
 go_enter Tryz.func85,Tryz.ntmps85
 go_wp2_with (first
  | (go_at_call 84;refine (S5 _ hr7).mono ?_;rintro e w8 ⟨rfl,hr8,hk8⟩)
  | (go_at_call 109;refine (N3 _ hr6).mono ?_;rintro e w7 ⟨rfl,hr7,hk7⟩)
  | (go_at_call 82;refine (O4 _ hr5).mono ?_;rintro e w6 ⟨rfl,hr6,hk6⟩)
  | (go_at_call 82;refine (O3 _ hr4).mono ?_;rintro e w5 ⟨rfl,hr5,hk5⟩)
  | (go_at_call 109;refine (N2 _ hr3).mono ?_;rintro e w4 ⟨rfl,hr4,hk4⟩)
  | (go_at_call 79;refine (T2 _ hr2).mono ?_;rintro e w3 ⟨rfl,hr3,hk3⟩)
  | (go_at_call 79;refine (T1 _ hr1).mono ?_;rintro e w2 ⟨rfl,hr2,hk2⟩)
  | (go_at_call 79;refine (T0 _ h).mono ?_;rintro e w1 ⟨rfl,hr1,hk1⟩)
  | fail)
 go_ret
 exact ⟨⟨rfl,hr8⟩,((((((hk1.trans hk2).trans hk3).trans hk4).trans hk5).trans hk6).trans hk7).trans hk8⟩
set_option maxHeartbeats 1000000 in
theorem num_9 (l l0 l1 l2 l3 m1 m2 m3 : Bs) (B0 B4 : Bool) (T0 : ∀ w,Rd w R s b l → Calls Tryz.prog 79 #[.pointer (some ⟨R,0,none⟩),.string ⟨#[45]⟩] w fun e w' => e = .returned (.bool B0) ∧ Rd w' R s b l0 ∧ Kp (Own1 R) w w') (T1 : ∀ w,Rd w R s b l0 → Calls Tryz.prog 79 #[.pointer (some ⟨R,0,none⟩),.string ⟨#[48]⟩] w fun e w' => e = .returned (.bool true) ∧ Rd w' R s b l1 ∧ Kp (Own1 R) w w') (T2 : ∀ w,Rd w R s b l1 → Calls Tryz.prog 79 #[.pointer (some ⟨R,0,none⟩),.string ⟨#[46]⟩] w fun e w' => e = .returned (.bool true) ∧ Rd w' R s b m1 ∧ Kp (Own1 R) w w') (N2 : Goes 109 R s b m1 (.tuple #[]) l2) (O3 : ∀ w,Rd w R s b l2 → Calls Tryz.prog 82 #[.pointer (some ⟨R,0,none⟩),.string ⟨#[101,69]⟩] w fun e w' => e = .returned (.bool true) ∧ Rd w' R s b m2 ∧ Kp (Own1 R) w w') (O4 : ∀ w,Rd w R s b m2 → Calls Tryz.prog 82 #[.pointer (some ⟨R,0,none⟩),.string ⟨#[43,45]⟩] w fun e w' => e = .returned (.bool B4) ∧ Rd w' R s b m3 ∧ Kp (Own1 R) w w') (N3 : Goes 109 R s b m3 (.tuple #[]) l3) (S5 : ∀ w,Rd w R s b l3 → Calls Tryz.prog 84 #[.pointer (some ⟨R,0,none⟩),.string ⟨numL.toArray⟩] w fun e w' => e = .returned (.bool true) ∧ Rd w' R s b l3 ∧ Kp (Own1 R) w w') (w : World) (h : Rd w R s b l) : Calls Tryz.prog 85 #[.pointer (some ⟨R,0,none⟩)] w (NumP R s b w none):=by
 go_enter Tryz.func85,Tryz.ntmps85
 go_wp2_with (first
  | (go_at_call 51;refine (fail_any _ _ _ hr8).mono ?_;rintro e w9 ⟨rfl,rfl⟩)
  | (go_at_call 84;refine (S5 _ hr7).mono ?_;rintro e w8 ⟨rfl,hr8,hk8⟩)
  | (go_at_call 109;refine (N3 _ hr6).mono ?_;rintro e w7 ⟨rfl,hr7,hk7⟩)
  | (go_at_call 82;refine (O4 _ hr5).mono ?_;rintro e w6 ⟨rfl,hr6,hk6⟩)
  | (go_at_call 82;refine (O3 _ hr4).mono ?_;rintro e w5 ⟨rfl,hr5,hk5⟩)
  | (go_at_call 109;refine (N2 _ hr3).mono ?_;rintro e w4 ⟨rfl,hr4,hk4⟩)
  | (go_at_call 79;refine (T2 _ hr2).mono ?_;rintro e w3 ⟨rfl,hr3,hk3⟩)
  | (go_at_call 79;refine (T1 _ hr1).mono ?_;rintro e w2 ⟨rfl,hr2,hk2⟩)
  | (go_at_call 79;refine (T0 _ h).mono ?_;rintro e w1 ⟨rfl,hr1,hk1⟩)
  | fail)
 exact ⟨rfl,rfl,((((((hk1.trans hk2).trans hk3).trans hk4).trans hk5).trans hk6).trans hk7).trans hk8⟩
set_option maxHeartbeats 1000000 in
theorem num_10 (l l0 l1 l2 m1 m2 m3 : Bs) (B0 B4 : Bool) (T0 : ∀ w,Rd w R s b l → Calls Tryz.prog 79 #[.pointer (some ⟨R,0,none⟩),.string ⟨#[45]⟩] w fun e w' => e = .returned (.bool B0) ∧ Rd w' R s b l0 ∧ Kp (Own1 R) w w') (T1 : ∀ w,Rd w R s b l0 → Calls Tryz.prog 79 #[.pointer (some ⟨R,0,none⟩),.string ⟨#[48]⟩] w fun e w' => e = .returned (.bool true) ∧ Rd w' R s b l1 ∧ Kp (Own1 R) w w') (T2 : ∀ w,Rd w R s b l1 → Calls Tryz.prog 79 #[.pointer (some ⟨R,0,none⟩),.string ⟨#[46]⟩] w fun e w' => e = .returned (.bool true) ∧ Rd w' R s b m1 ∧ Kp (Own1 R) w w') (N2 : Goes 109 R s b m1 (.tuple #[]) l2) (O3 : ∀ w,Rd w R s b l2 → Calls Tryz.prog 82 #[.pointer (some ⟨R,0,none⟩),.string ⟨#[101,69]⟩] w fun e w' => e = .returned (.bool true) ∧ Rd w' R s b m2 ∧ Kp (Own1 R) w w') (O4 : ∀ w,Rd w R s b m2 → Calls Tryz.prog 82 #[.pointer (some ⟨R,0,none⟩),.string ⟨#[43,45]⟩] w fun e w' => e = .returned (.bool B4) ∧ Rd w' R s b m3 ∧ Kp (Own1 R) w w') (N3 : Gives 109 R s b m3 51) (w : World) (h : Rd w R s b l) : Calls Tryz.prog 85 #[.pointer (some ⟨R,0,none⟩)] w (NumP R s b w none):=by
 go_enter Tryz.func85,Tryz.ntmps85
 go_wp2_with (first
  | (go_at_call 109;refine (N3 _ hr6).mono ?_;rintro e w7 ⟨rfl,hk7⟩)
  | (go_at_call 82;refine (O4 _ hr5).mono ?_;rintro e w6 ⟨rfl,hr6,hk6⟩)
  | (go_at_call 82;refine (O3 _ hr4).mono ?_;rintro e w5 ⟨rfl,hr5,hk5⟩)
  | (go_at_call 109;refine (N2 _ hr3).mono ?_;rintro e w4 ⟨rfl,hr4,hk4⟩)
  | (go_at_call 79;refine (T2 _ hr2).mono ?_;rintro e w3 ⟨rfl,hr3,hk3⟩)
  | (go_at_call 79;refine (T1 _ hr1).mono ?_;rintro e w2 ⟨rfl,hr2,hk2⟩)
  | (go_at_call 79;refine (T0 _ h).mono ?_;rintro e w1 ⟨rfl,hr1,hk1⟩)
  | fail)
 exact ⟨rfl,rfl,(((((hk1.trans hk2).trans hk3).trans hk4).trans hk5).trans hk6).trans hk7⟩
set_option maxHeartbeats 1000000 in
theorem num_11 (l l0 l1 m1 : Bs) (B0 : Bool) (T0 : ∀ w,Rd w R s b l → Calls Tryz.prog 79 #[.pointer (some ⟨R,0,none⟩),.string ⟨#[45]⟩] w fun e w' => e = .returned (.bool B0) ∧ Rd w' R s b l0 ∧ Kp (Own1 R) w w') (T1 : ∀ w,Rd w R s b l0 → Calls Tryz.prog 79 #[.pointer (some ⟨R,0,none⟩),.string ⟨#[48]⟩] w fun e w' => e = .returned (.bool true) ∧ Rd w' R s b l1 ∧ Kp (Own1 R) w w') (T2 : ∀ w,Rd w R s b l1 → Calls Tryz.prog 79 #[.pointer (some ⟨R,0,none⟩),.string ⟨#[46]⟩] w fun e w' => e = .returned (.bool true) ∧ Rd w' R s b m1 ∧ Kp (Own1 R) w w') (N2 : Gives 109 R s b m1 51) (w : World) (h : Rd w R s b l) : Calls Tryz.prog 85 #[.pointer (some ⟨R,0,none⟩)] w (NumP R s b w none):=by
 go_enter Tryz.func85,Tryz.ntmps85
 go_wp2_with (first
  | (go_at_call 109;refine (N2 _ hr3).mono ?_;rintro e w4 ⟨rfl,hk4⟩)
  | (go_at_call 79;refine (T2 _ hr2).mono ?_;rintro e w3 ⟨rfl,hr3,hk3⟩)
  | (go_at_call 79;refine (T1 _ hr1).mono ?_;rintro e w2 ⟨rfl,hr2,hk2⟩)
  | (go_at_call 79;refine (T0 _ h).mono ?_;rintro e w1 ⟨rfl,hr1,hk1⟩)
  | fail)
 exact ⟨rfl,rfl,((hk1.trans hk2).trans hk3).trans hk4⟩
set_option maxHeartbeats 1000000 in
theorem num_12 (l l0 l1 : Bs) (B0 : Bool) (T0 : ∀ w,Rd w R s b l → Calls Tryz.prog 79 #[.pointer (some ⟨R,0,none⟩),.string ⟨#[45]⟩] w fun e w' => e = .returned (.bool B0) ∧ Rd w' R s b l0 ∧ Kp (Own1 R) w w') (T1 : ∀ w,Rd w R s b l0 → Calls Tryz.prog 79 #[.pointer (some ⟨R,0,none⟩),.string ⟨#[48]⟩] w fun e w' => e = .returned (.bool false) ∧ Rd w' R s b l0 ∧ Kp (Own1 R) w w') (N1 : Goes 109 R s b l0 (.tuple #[]) l1) (T2 : ∀ w,Rd w R s b l1 → Calls Tryz.prog 79 #[.pointer (some ⟨R,0,none⟩),.string ⟨#[46]⟩] w fun e w' => e = .returned (.bool false) ∧ Rd w' R s b l1 ∧ Kp (Own1 R) w w') (O3 : ∀ w,Rd w R s b l1 → Calls Tryz.prog 82 #[.pointer (some ⟨R,0,none⟩),.string ⟨#[101,69]⟩] w fun e w' => e = .returned (.bool false) ∧ Rd w' R s b l1 ∧ Kp (Own1 R) w w') (S5 : ∀ w,Rd w R s b l1 → Calls Tryz.prog 84 #[.pointer (some ⟨R,0,none⟩),.string ⟨numL.toArray⟩] w fun e w' => e = .returned (.bool false) ∧ Rd w' R s b l1 ∧ Kp (Own1 R) w w') (w : World) (h : Rd w R s b l) : Calls Tryz.prog 85 #[.pointer (some ⟨R,0,none⟩)] w (NumP R s b w (some (2,l1))):=by
 go_enter Tryz.func85,Tryz.ntmps85
 go_wp2_with (first
  | (go_at_call 84;refine (S5 _ hr5).mono ?_;rintro e w6 ⟨rfl,hr6,hk6⟩)
  | (go_at_call 82;refine (O3 _ hr4).mono ?_;rintro e w5 ⟨rfl,hr5,hk5⟩)
  | (go_at_call 79;refine (T2 _ hr3).mono ?_;rintro e w4 ⟨rfl,hr4,hk4⟩)
  | (go_at_call 109;refine (N1 _ hr2).mono ?_;rintro e w3 ⟨rfl,hr3,hk3⟩)
  | (go_at_call 79;refine (T1 _ hr1).mono ?_;rintro e w2 ⟨rfl,hr2,hk2⟩)
  | (go_at_call 79;refine (T0 _ h).mono ?_;rintro e w1 ⟨rfl,hr1,hk1⟩)
  | fail)
 go_ret
 exact ⟨⟨rfl,hr6⟩,((((hk1.trans hk2).trans hk3).trans hk4).trans hk5).trans hk6⟩
set_option maxHeartbeats 1000000 in
theorem num_13 (l l0 l1 : Bs) (B0 : Bool) (T0 : ∀ w,Rd w R s b l → Calls Tryz.prog 79 #[.pointer (some ⟨R,0,none⟩),.string ⟨#[45]⟩] w fun e w' => e = .returned (.bool B0) ∧ Rd w' R s b l0 ∧ Kp (Own1 R) w w') (T1 : ∀ w,Rd w R s b l0 → Calls Tryz.prog 79 #[.pointer (some ⟨R,0,none⟩),.string ⟨#[48]⟩] w fun e w' => e = .returned (.bool false) ∧ Rd w' R s b l0 ∧ Kp (Own1 R) w w') (N1 : Goes 109 R s b l0 (.tuple #[]) l1) (T2 : ∀ w,Rd w R s b l1 → Calls Tryz.prog 79 #[.pointer (some ⟨R,0,none⟩),.string ⟨#[46]⟩] w fun e w' => e = .returned (.bool false) ∧ Rd w' R s b l1 ∧ Kp (Own1 R) w w') (O3 : ∀ w,Rd w R s b l1 → Calls Tryz.prog 82 #[.pointer (some ⟨R,0,none⟩),.string ⟨#[101,69]⟩] w fun e w' => e = .returned (.bool false) ∧ Rd w' R s b l1 ∧ Kp (Own1 R) w w') (S5 : ∀ w,Rd w R s b l1 → Calls Tryz.prog 84 #[.pointer (some ⟨R,0,none⟩),.string ⟨numL.toArray⟩] w fun e w' => e = .returned (.bool true) ∧ Rd w' R s b l1 ∧ Kp (Own1 R) w w') (w : World) (h : Rd w R s b l) : Calls Tryz.prog 85 #[.pointer (some ⟨R,0,none⟩)] w (NumP R s b w none):=by
 go_enter Tryz.func85,Tryz.ntmps85
 go_wp2_with (first
  | (go_at_call 51;refine (fail_any _ _ _ hr6).mono ?_;rintro e w7 ⟨rfl,rfl⟩)
  | (go_at_call 84;refine (S5 _ hr5).mono ?_;rintro e w6 ⟨rfl,hr6,hk6⟩)
  | (go_at_call 82;refine (O3 _ hr4).mono ?_;rintro e w5 ⟨rfl,hr5,hk5⟩)
  | (go_at_call 79;refine (T2 _ hr3).mono ?_;rintro e w4 ⟨rfl,hr4,hk4⟩)
  | (go_at_call 109;refine (N1 _ hr2).mono ?_;rintro e w3 ⟨rfl,hr3,hk3⟩)
  | (go_at_call 79;refine (T1 _ hr1).mono ?_;rintro e w2 ⟨rfl,hr2,hk2⟩)
  | (go_at_call 79;refine (T0 _ h).mono ?_;rintro e w1 ⟨rfl,hr1,hk1⟩)
  | fail)
 exact ⟨rfl,rfl,((((hk1.trans hk2).trans hk3).trans hk4).trans hk5).trans hk6⟩
set_option maxHeartbeats 1000000 in
theorem num_14 (l l0 l1 l3 m2 m3 : Bs) (B0 B4 : Bool) (T0 : ∀ w,Rd w R s b l → Calls Tryz.prog 79 #[.pointer (some ⟨R,0,none⟩),.string ⟨#[45]⟩] w fun e w' => e = .returned (.bool B0) ∧ Rd w' R s b l0 ∧ Kp (Own1 R) w w') (T1 : ∀ w,Rd w R s b l0 → Calls Tryz.prog 79 #[.pointer (some ⟨R,0,none⟩),.string ⟨#[48]⟩] w fun e w' => e = .returned (.bool false) ∧ Rd w' R s b l0 ∧ Kp (Own1 R) w w') (N1 : Goes 109 R s b l0 (.tuple #[]) l1) (T2 : ∀ w,Rd w R s b l1 → Calls Tryz.prog 79 #[.pointer (some ⟨R,0,none⟩),.string ⟨#[46]⟩] w fun e w' => e = .returned (.bool false) ∧ Rd w' R s b l1 ∧ Kp (Own1 R) w w') (O3 : ∀ w,Rd w R s b l1 → Calls Tryz.prog 82 #[.pointer (some ⟨R,0,none⟩),.string ⟨#[101,69]⟩] w fun e w' => e = .returned (.bool true) ∧ Rd w' R s b m2 ∧ Kp (Own1 R) w w') (O4 : ∀ w,Rd w R s b m2 → Calls Tryz.prog 82 #[.pointer (some ⟨R,0,none⟩),.string ⟨#[43,45]⟩] w fun e w' => e = .returned (.bool B4) ∧ Rd w' R s b m3 ∧ Kp (Own1 R) w w') (N3 : Goes 109 R s b m3 (.tuple #[]) l3) (S5 : ∀ w,Rd w R s b l3 → Calls Tryz.prog 84 #[.pointer (some ⟨R,0,none⟩),.string ⟨numL.toArray⟩] w fun e w' => e = .returned (.bool false) ∧ Rd w' R s b l3 ∧ Kp (Own1 R) w w') (w : World) (h : Rd w R s b l) : Calls Tryz.prog 85 #[.pointer (some ⟨R,0,none⟩)] w (NumP R s b w (some (3,l3))):=by
 go_enter Tryz.func85,Tryz.ntmps85
 go_wp2_with (first
  | (go_at_call 84;refine (S5 _ hr7).mono ?_;rintro e w8 ⟨rfl,hr8,hk8⟩)
  | (go_at_call 109;refine (N3 _ hr6).mono ?_;rintro e w7 ⟨rfl,hr7,hk7⟩)
  | (go_at_call 82;refine (O4 _ hr5).mono ?_;rintro e w6 ⟨rfl,hr6,hk6⟩)
  | (go_at_call 82;refine (O3 _ hr4).mono ?_;rintro e w5 ⟨rfl,hr5,hk5⟩)
  | (go_at_call 79;refine (T2 _ hr3).mono ?_;rintro e w4 ⟨rfl,hr4,hk4⟩)
  | (go_at_call 109;refine (N1 _ hr2).mono ?_;rintro e w3 ⟨rfl,hr3,hk3⟩)
  | (go_at_call 79;refine (T1 _ hr1).mono ?_;rintro e w2 ⟨rfl,hr2,hk2⟩)
  | (go_at_call 79;refine (T0 _ h).mono ?_;rintro e w1 ⟨rfl,hr1,hk1⟩)
  | fail)
 go_ret
 exact ⟨⟨rfl,hr8⟩,((((((hk1.trans hk2).trans hk3).trans hk4).trans hk5).trans hk6).trans hk7).trans hk8⟩
set_option maxHeartbeats 1000000 in
theorem num_15 (l l0 l1 l3 m2 m3 : Bs) (B0 B4 : Bool) (T0 : ∀ w,Rd w R s b l → Calls Tryz.prog 79 #[.pointer (some ⟨R,0,none⟩),.string ⟨#[45]⟩] w fun e w' => e = .returned (.bool B0) ∧ Rd w' R s b l0 ∧ Kp (Own1 R) w w') (T1 : ∀ w,Rd w R s b l0 → Calls Tryz.prog 79 #[.pointer (some ⟨R,0,none⟩),.string ⟨#[48]⟩] w fun e w' => e = .returned (.bool false) ∧ Rd w' R s b l0 ∧ Kp (Own1 R) w w') (N1 : Goes 109 R s b l0 (.tuple #[]) l1) (T2 : ∀ w,Rd w R s b l1 → Calls Tryz.prog 79 #[.pointer (some ⟨R,0,none⟩),.string ⟨#[46]⟩] w fun e w' => e = .returned (.bool false) ∧ Rd w' R s b l1 ∧ Kp (Own1 R) w w') (O3 : ∀ w,Rd w R s b l1 → Calls Tryz.prog 82 #[.pointer (some ⟨R,0,none⟩),.string ⟨#[101,69]⟩] w fun e w' => e = .returned (.bool true) ∧ Rd w' R s b m2 ∧ Kp (Own1 R) w w') (O4 : ∀ w,Rd w R s b m2 → Calls Tryz.prog 82 #[.pointer (some ⟨R,0,none⟩),.string ⟨#[43,45]⟩] w fun e w' => e = .returned (.bool B4) ∧ Rd w' R s b m3 ∧ Kp (Own1 R) w w') (N3 : Goes 109 R s b m3 (.tuple #[]) l3) (S5 : ∀ w,Rd w R s b l3 → Calls Tryz.prog 84 #[.pointer (some ⟨R,0,none⟩),.string ⟨numL.toArray⟩] w fun e w' => e = .returned (.bool true) ∧ Rd w' R s b l3 ∧ Kp (Own1 R) w w') (w : World) (h : Rd w R s b l) : Calls Tryz.prog 85 #[.pointer (some ⟨R,0,none⟩)] w (NumP R s b w none):=by
 go_enter Tryz.func85,Tryz.ntmps85
 go_wp2_with (first
  | (go_at_call 51;refine (fail_any _ _ _ hr8).mono ?_;rintro e w9 ⟨rfl,rfl⟩)
  | (go_at_call 84;refine (S5 _ hr7).mono ?_;rintro e w8 ⟨rfl,hr8,hk8⟩)
  | (go_at_call 109;refine (N3 _ hr6).mono ?_;rintro e w7 ⟨rfl,hr7,hk7⟩)
  | (go_at_call 82;refine (O4 _ hr5).mono ?_;rintro e w6 ⟨rfl,hr6,hk6⟩)
  | (go_at_call 82;refine (O3 _ hr4).mono ?_;rintro e w5 ⟨rfl,hr5,hk5⟩)
  | (go_at_call 79;refine (T2 _ hr3).mono ?_;rintro e w4 ⟨rfl,hr4,hk4⟩)
  | (go_at_call 109;refine (N1 _ hr2).mono ?_;rintro e w3 ⟨rfl,hr3,hk3⟩)
  | (go_at_call 79;refine (T1 _ hr1).mono ?_;rintro e w2 ⟨rfl,hr2,hk2⟩)
  | (go_at_call 79;refine (T0 _ h).mono ?_;rintro e w1 ⟨rfl,hr1,hk1⟩)
  | fail)
 exact ⟨rfl,rfl,((((((hk1.trans hk2).trans hk3).trans hk4).trans hk5).trans hk6).trans hk7).trans hk8⟩
set_option maxHeartbeats 1000000 in
theorem num_16 (l l0 l1 m2 m3 : Bs) (B0 B4 : Bool) (T0 : ∀ w,Rd w R s b l → Calls Tryz.prog 79 #[.pointer (some ⟨R,0,none⟩),.string ⟨#[45]⟩] w fun e w' => e = .returned (.bool B0) ∧ Rd w' R s b l0 ∧ Kp (Own1 R) w w') (T1 : ∀ w,Rd w R s b l0 → Calls Tryz.prog 79 #[.pointer (some ⟨R,0,none⟩),.string ⟨#[48]⟩] w fun e w' => e = .returned (.bool false) ∧ Rd w' R s b l0 ∧ Kp (Own1 R) w w') (N1 : Goes 109 R s b l0 (.tuple #[]) l1) (T2 : ∀ w,Rd w R s b l1 → Calls Tryz.prog 79 #[.pointer (some ⟨R,0,none⟩),.string ⟨#[46]⟩] w fun e w' => e = .returned (.bool false) ∧ Rd w' R s b l1 ∧ Kp (Own1 R) w w') (O3 : ∀ w,Rd w R s b l1 → Calls Tryz.prog 82 #[.pointer (some ⟨R,0,none⟩),.string ⟨#[101,69]⟩] w fun e w' => e = .returned (.bool true) ∧ Rd w' R s b m2 ∧ Kp (Own1 R) w w') (O4 : ∀ w,Rd w R s b m2 → Calls Tryz.prog 82 #[.pointer (some ⟨R,0,none⟩),.string ⟨#[43,45]⟩] w fun e w' => e = .returned (.bool B4) ∧ Rd w' R s b m3 ∧ Kp (Own1 R) w w') (N3 : Gives 109 R s b m3 51) (w : World) (h : Rd w R s b l) : Calls Tryz.prog 85 #[.pointer (some ⟨R,0,none⟩)] w (NumP R s b w none):=by
 go_enter Tryz.func85,Tryz.ntmps85
 go_wp2_with (first
  | (go_at_call 109;refine (N3 _ hr6).mono ?_;rintro e w7 ⟨rfl,hk7⟩)
  | (go_at_call 82;refine (O4 _ hr5).mono ?_;rintro e w6 ⟨rfl,hr6,hk6⟩)
  | (go_at_call 82;refine (O3 _ hr4).mono ?_;rintro e w5 ⟨rfl,hr5,hk5⟩)
  | (go_at_call 79;refine (T2 _ hr3).mono ?_;rintro e w4 ⟨rfl,hr4,hk4⟩)
  | (go_at_call 109;refine (N1 _ hr2).mono ?_;rintro e w3 ⟨rfl,hr3,hk3⟩)
  | (go_at_call 79;refine (T1 _ hr1).mono ?_;rintro e w2 ⟨rfl,hr2,hk2⟩)
  | (go_at_call 79;refine (T0 _ h).mono ?_;rintro e w1 ⟨rfl,hr1,hk1⟩)
  | fail)
 exact ⟨rfl,rfl,(((((hk1.trans hk2).trans hk3).trans hk4).trans hk5).trans hk6).trans hk7⟩
set_option maxHeartbeats 1000000 in
theorem num_17 (l l0 l1 l2 m1 : Bs) (B0 : Bool) (T0 : ∀ w,Rd w R s b l → Calls Tryz.prog 79 #[.pointer (some ⟨R,0,none⟩),.string ⟨#[45]⟩] w fun e w' => e = .returned (.bool B0) ∧ Rd w' R s b l0 ∧ Kp (Own1 R) w w') (T1 : ∀ w,Rd w R s b l0 → Calls Tryz.prog 79 #[.pointer (some ⟨R,0,none⟩),.string ⟨#[48]⟩] w fun e w' => e = .returned (.bool false) ∧ Rd w' R s b l0 ∧ Kp (Own1 R) w w') (N1 : Goes 109 R s b l0 (.tuple #[]) l1) (T2 : ∀ w,Rd w R s b l1 → Calls Tryz.prog 79 #[.pointer (some ⟨R,0,none⟩),.string ⟨#[46]⟩] w fun e w' => e = .returned (.bool true) ∧ Rd w' R s b m1 ∧ Kp (Own1 R) w w') (N2 : Goes 109 R s b m1 (.tuple #[]) l2) (O3 : ∀ w,Rd w R s b l2 → Calls Tryz.prog 82 #[.pointer (some ⟨R,0,none⟩),.string ⟨#[101,69]⟩] w fun e w' => e = .returned (.bool false) ∧ Rd w' R s b l2 ∧ Kp (Own1 R) w w') (S5 : ∀ w,Rd w R s b l2 → Calls Tryz.prog 84 #[.pointer (some ⟨R,0,none⟩),.string ⟨numL.toArray⟩] w fun e w' => e = .returned (.bool false) ∧ Rd w' R s b l2 ∧ Kp (Own1 R) w w') (w : World) (h : Rd w R s b l) : Calls Tryz.prog 85 #[.pointer (some ⟨R,0,none⟩)] w (NumP R s b w (some (3,l2))):=by
 go_enter Tryz.func85,Tryz.ntmps85
 go_wp2_with (first
  | (go_at_call 84;refine (S5 _ hr6).mono ?_;rintro e w7 ⟨rfl,hr7,hk7⟩)
  | (go_at_call 82;refine (O3 _ hr5).mono ?_;rintro e w6 ⟨rfl,hr6,hk6⟩)
  | (go_at_call 109;refine (N2 _ hr4).mono ?_;rintro e w5 ⟨rfl,hr5,hk5⟩)
  | (go_at_call 79;refine (T2 _ hr3).mono ?_;rintro e w4 ⟨rfl,hr4,hk4⟩)
  | (go_at_call 109;refine (N1 _ hr2).mono ?_;rintro e w3 ⟨rfl,hr3,hk3⟩)
  | (go_at_call 79;refine (T1 _ hr1).mono ?_;rintro e w2 ⟨rfl,hr2,hk2⟩)
  | (go_at_call 79;refine (T0 _ h).mono ?_;rintro e w1 ⟨rfl,hr1,hk1⟩)
  | fail)
 go_ret
 exact ⟨⟨rfl,hr7⟩,(((((hk1.trans hk2).trans hk3).trans hk4).trans hk5).trans hk6).trans hk7⟩
set_option maxHeartbeats 1000000 in
theorem num_18 (l l0 l1 l2 m1 : Bs) (B0 : Bool) (T0 : ∀ w,Rd w R s b l → Calls Tryz.prog 79 #[.pointer (some ⟨R,0,none⟩),.string ⟨#[45]⟩] w fun e w' => e = .returned (.bool B0) ∧ Rd w' R s b l0 ∧ Kp (Own1 R) w w') (T1 : ∀ w,Rd w R s b l0 → Calls Tryz.prog 79 #[.pointer (some ⟨R,0,none⟩),.string ⟨#[48]⟩] w fun e w' => e = .returned (.bool false) ∧ Rd w' R s b l0 ∧ Kp (Own1 R) w w') (N1 : Goes 109 R s b l0 (.tuple #[]) l1) (T2 : ∀ w,Rd w R s b l1 → Calls Tryz.prog 79 #[.pointer (some ⟨R,0,none⟩),.string ⟨#[46]⟩] w fun e w' => e = .returned (.bool true) ∧ Rd w' R s b m1 ∧ Kp (Own1 R) w w') (N2 : Goes 109 R s b m1 (.tuple #[]) l2) (O3 : ∀ w,Rd w R s b l2 → Calls Tryz.prog 82 #[.pointer (some ⟨R,0,none⟩),.string ⟨#[101,69]⟩] w fun e w' => e = .returned (.bool false) ∧ Rd w' R s b l2 ∧ Kp (Own1 R) w w') (S5 : ∀ w,Rd w R s b l2 → Calls Tryz.prog 84 #[.pointer (some ⟨R,0,none⟩),.string ⟨numL.toArray⟩] w fun e w' => e = .returned (.bool true) ∧ Rd w' R s b l2 ∧ Kp (Own1 R) w w') (w : World) (h : Rd w R s b l) : Calls Tryz.prog 85 #[.pointer (some ⟨R,0,none⟩)] w (NumP R s b w none):=by
 go_enter Tryz.func85,Tryz.ntmps85
 go_wp2_with (first
  | (go_at_call 51;refine (fail_any _ _ _ hr7).mono ?_;rintro e w8 ⟨rfl,rfl⟩)
  | (go_at_call 84;refine (S5 _ hr6).mono ?_;rintro e w7 ⟨rfl,hr7,hk7⟩)
  | (go_at_call 82;refine (O3 _ hr5).mono ?_;rintro e w6 ⟨rfl,hr6,hk6⟩)
  | (go_at_call 109;refine (N2 _ hr4).mono ?_;rintro e w5 ⟨rfl,hr5,hk5⟩)
  | (go_at_call 79;refine (T2 _ hr3).mono ?_;rintro e w4 ⟨rfl,hr4,hk4⟩)
  | (go_at_call 109;refine (N1 _ hr2).mono ?_;rintro e w3 ⟨rfl,hr3,hk3⟩)
  | (go_at_call 79;refine (T1 _ hr1).mono ?_;rintro e w2 ⟨rfl,hr2,hk2⟩)
  | (go_at_call 79;refine (T0 _ h).mono ?_;rintro e w1 ⟨rfl,hr1,hk1⟩)
  | fail)
 exact ⟨rfl,rfl,(((((hk1.trans hk2).trans hk3).trans hk4).trans hk5).trans hk6).trans hk7⟩
set_option maxHeartbeats 1000000 in
theorem num_19 (l l0 l1 l2 l3 m1 m2 m3 : Bs) (B0 B4 : Bool) (T0 : ∀ w,Rd w R s b l → Calls Tryz.prog 79 #[.pointer (some ⟨R,0,none⟩),.string ⟨#[45]⟩] w fun e w' => e = .returned (.bool B0) ∧ Rd w' R s b l0 ∧ Kp (Own1 R) w w') (T1 : ∀ w,Rd w R s b l0 → Calls Tryz.prog 79 #[.pointer (some ⟨R,0,none⟩),.string ⟨#[48]⟩] w fun e w' => e = .returned (.bool false) ∧ Rd w' R s b l0 ∧ Kp (Own1 R) w w') (N1 : Goes 109 R s b l0 (.tuple #[]) l1) (T2 : ∀ w,Rd w R s b l1 → Calls Tryz.prog 79 #[.pointer (some ⟨R,0,none⟩),.string ⟨#[46]⟩] w fun e w' => e = .returned (.bool true) ∧ Rd w' R s b m1 ∧ Kp (Own1 R) w w') (N2 : Goes 109 R s b m1 (.tuple #[]) l2) (O3 : ∀ w,Rd w R s b l2 → Calls Tryz.prog 82 #[.pointer (some ⟨R,0,none⟩),.string ⟨#[101,69]⟩] w fun e w' => e = .returned (.bool true) ∧ Rd w' R s b m2 ∧ Kp (Own1 R) w w') (O4 : ∀ w,Rd w R s b m2 → Calls Tryz.prog 82 #[.pointer (some ⟨R,0,none⟩),.string ⟨#[43,45]⟩] w fun e w' => e = .returned (.bool B4) ∧ Rd w' R s b m3 ∧ Kp (Own1 R) w w') (N3 : Goes 109 R s b m3 (.tuple #[]) l3) (S5 : ∀ w,Rd w R s b l3 → Calls Tryz.prog 84 #[.pointer (some ⟨R,0,none⟩),.string ⟨numL.toArray⟩] w fun e w' => e = .returned (.bool false) ∧ Rd w' R s b l3 ∧ Kp (Own1 R) w w') (w : World) (h : Rd w R s b l) : Calls Tryz.prog 85 #[.pointer (some ⟨R,0,none⟩)] w (NumP R s b w (some (3,l3))):=by
 go_enter Tryz.func85,Tryz.ntmps85
 go_wp2_with (first
  | (go_at_call 84;refine (S5 _ hr8).mono ?_;rintro e w9 ⟨rfl,hr9,hk9⟩)
  | (go_at_call 109;refine (N3 _ hr7).mono ?_;rintro e w8 ⟨rfl,hr8,hk8⟩)
  | (go_at_call 82;refine (O4 _ hr6).mono ?_;rintro e w7 ⟨rfl,hr7,hk7⟩)
  | (go_at_call 82;refine (O3 _ hr5).mono ?_;rintro e w6 ⟨rfl,hr6,hk6⟩)
  | (go_at_call 109;refine (N2 _ hr4).mono ?_;rintro e w5 ⟨rfl,hr5,hk5⟩)
  | (go_at_call 79;refine (T2 _ hr3).mono ?_;rintro e w4 ⟨rfl,hr4,hk4⟩)
  | (go_at_call 109;refine (N1 _ hr2).mono ?_;rintro e w3 ⟨rfl,hr3,hk3⟩)
  | (go_at_call 79;refine (T1 _ hr1).mono ?_;rintro e w2 ⟨rfl,hr2,hk2⟩)
  | (go_at_call 79;refine (T0 _ h).mono ?_;rintro e w1 ⟨rfl,hr1,hk1⟩)
  | fail)
 go_ret
 exact ⟨⟨rfl,hr9⟩,(((((((hk1.trans hk2).trans hk3).trans hk4).trans hk5).trans hk6).trans hk7).trans hk8).trans hk9⟩
set_option maxHeartbeats 1000000 in
theorem num_20 (l l0 l1 l2 l3 m1 m2 m3 : Bs) (B0 B4 : Bool) (T0 : ∀ w,Rd w R s b l → Calls Tryz.prog 79 #[.pointer (some ⟨R,0,none⟩),.string ⟨#[45]⟩] w fun e w' => e = .returned (.bool B0) ∧ Rd w' R s b l0 ∧ Kp (Own1 R) w w') (T1 : ∀ w,Rd w R s b l0 → Calls Tryz.prog 79 #[.pointer (some ⟨R,0,none⟩),.string ⟨#[48]⟩] w fun e w' => e = .returned (.bool false) ∧ Rd w' R s b l0 ∧ Kp (Own1 R) w w') (N1 : Goes 109 R s b l0 (.tuple #[]) l1) (T2 : ∀ w,Rd w R s b l1 → Calls Tryz.prog 79 #[.pointer (some ⟨R,0,none⟩),.string ⟨#[46]⟩] w fun e w' => e = .returned (.bool true) ∧ Rd w' R s b m1 ∧ Kp (Own1 R) w w') (N2 : Goes 109 R s b m1 (.tuple #[]) l2) (O3 : ∀ w,Rd w R s b l2 → Calls Tryz.prog 82 #[.pointer (some ⟨R,0,none⟩),.string ⟨#[101,69]⟩] w fun e w' => e = .returned (.bool true) ∧ Rd w' R s b m2 ∧ Kp (Own1 R) w w') (O4 : ∀ w,Rd w R s b m2 → Calls Tryz.prog 82 #[.pointer (some ⟨R,0,none⟩),.string ⟨#[43,45]⟩] w fun e w' => e = .returned (.bool B4) ∧ Rd w' R s b m3 ∧ Kp (Own1 R) w w') (N3 : Goes 109 R s b m3 (.tuple #[]) l3) (S5 : ∀ w,Rd w R s b l3 → Calls Tryz.prog 84 #[.pointer (some ⟨R,0,none⟩),.string ⟨numL.toArray⟩] w fun e w' => e = .returned (.bool true) ∧ Rd w' R s b l3 ∧ Kp (Own1 R) w w') (w : World) (h : Rd w R s b l) : Calls Tryz.prog 85 #[.pointer (some ⟨R,0,none⟩)] w (NumP R s b w none):=by
 go_enter Tryz.func85,Tryz.ntmps85
 go_wp2_with (first
  | (go_at_call 51;refine (fail_any _ _ _ hr9).mono ?_;rintro e w10 ⟨rfl,rfl⟩)
  | (go_at_call 84;refine (S5 _ hr8).mono ?_;rintro e w9 ⟨rfl,hr9,hk9⟩)
  | (go_at_call 109;refine (N3 _ hr7).mono ?_;rintro e w8 ⟨rfl,hr8,hk8⟩)
  | (go_at_call 82;refine (O4 _ hr6).mono ?_;rintro e w7 ⟨rfl,hr7,hk7⟩)
  | (go_at_call 82;refine (O3 _ hr5).mono ?_;rintro e w6 ⟨rfl,hr6,hk6⟩)
  | (go_at_call 109;refine (N2 _ hr4).mono ?_;rintro e w5 ⟨rfl,hr5,hk5⟩)
  | (go_at_call 79;refine (T2 _ hr3).mono ?_;rintro e w4 ⟨rfl,hr4,hk4⟩)
  | (go_at_call 109;refine (N1 _ hr2).mono ?_;rintro e w3 ⟨rfl,hr3,hk3⟩)
  | (go_at_call 79;refine (T1 _ hr1).mono ?_;rintro e w2 ⟨rfl,hr2,hk2⟩)
  | (go_at_call 79;refine (T0 _ h).mono ?_;rintro e w1 ⟨rfl,hr1,hk1⟩)
  | fail)
 exact ⟨rfl,rfl,(((((((hk1.trans hk2).trans hk3).trans hk4).trans hk5).trans hk6).trans hk7).trans hk8).trans hk9⟩
set_option maxHeartbeats 1000000 in
theorem num_21 (l l0 l1 l2 m1 m2 m3 : Bs) (B0 B4 : Bool) (T0 : ∀ w,Rd w R s b l → Calls Tryz.prog 79 #[.pointer (some ⟨R,0,none⟩),.string ⟨#[45]⟩] w fun e w' => e = .returned (.bool B0) ∧ Rd w' R s b l0 ∧ Kp (Own1 R) w w') (T1 : ∀ w,Rd w R s b l0 → Calls Tryz.prog 79 #[.pointer (some ⟨R,0,none⟩),.string ⟨#[48]⟩] w fun e w' => e = .returned (.bool false) ∧ Rd w' R s b l0 ∧ Kp (Own1 R) w w') (N1 : Goes 109 R s b l0 (.tuple #[]) l1) (T2 : ∀ w,Rd w R s b l1 → Calls Tryz.prog 79 #[.pointer (some ⟨R,0,none⟩),.string ⟨#[46]⟩] w fun e w' => e = .returned (.bool true) ∧ Rd w' R s b m1 ∧ Kp (Own1 R) w w') (N2 : Goes 109 R s b m1 (.tuple #[]) l2) (O3 : ∀ w,Rd w R s b l2 → Calls Tryz.prog 82 #[.pointer (some ⟨R,0,none⟩),.string ⟨#[101,69]⟩] w fun e w' => e = .returned (.bool true) ∧ Rd w' R s b m2 ∧ Kp (Own1 R) w w') (O4 : ∀ w,Rd w R s b m2 → Calls Tryz.prog 82 #[.pointer (some ⟨R,0,none⟩),.string ⟨#[43,45]⟩] w fun e w' => e = .returned (.bool B4) ∧ Rd w' R s b m3 ∧ Kp (Own1 R) w w') (N3 : Gives 109 R s b m3 51) (w : World) (h : Rd w R s b l) : Calls Tryz.prog 85 #[.pointer (some ⟨R,0,none⟩)] w (NumP R s b w none):=by
 go_enter Tryz.func85,Tryz.ntmps85
 go_wp2_with (first
  | (go_at_call 109;refine (N3 _ hr7).mono ?_;rintro e w8 ⟨rfl,hk8⟩)
  | (go_at_call 82;refine (O4 _ hr6).mono ?_;rintro e w7 ⟨rfl,hr7,hk7⟩)
  | (go_at_call 82;refine (O3 _ hr5).mono ?_;rintro e w6 ⟨rfl,hr6,hk6⟩)
  | (go_at_call 109;refine (N2 _ hr4).mono ?_;rintro e w5 ⟨rfl,hr5,hk5⟩)
  | (go_at_call 79;refine (T2 _ hr3).mono ?_;rintro e w4 ⟨rfl,hr4,hk4⟩)
  | (go_at_call 109;refine (N1 _ hr2).mono ?_;rintro e w3 ⟨rfl,hr3,hk3⟩)
  | (go_at_call 79;refine (T1 _ hr1).mono ?_;rintro e w2 ⟨rfl,hr2,hk2⟩)
  | (go_at_call 79;refine (T0 _ h).mono ?_;rintro e w1 ⟨rfl,hr1,hk1⟩)
  | fail)
 exact ⟨rfl,rfl,((((((hk1.trans hk2).trans hk3).trans hk4).trans hk5).trans hk6).trans hk7).trans hk8⟩
set_option maxHeartbeats 1000000 in
theorem num_22 (l l0 l1 m1 : Bs) (B0 : Bool) (T0 : ∀ w,Rd w R s b l → Calls Tryz.prog 79 #[.pointer (some ⟨R,0,none⟩),.string ⟨#[45]⟩] w fun e w' => e = .returned (.bool B0) ∧ Rd w' R s b l0 ∧ Kp (Own1 R) w w') (T1 : ∀ w,Rd w R s b l0 → Calls Tryz.prog 79 #[.pointer (some ⟨R,0,none⟩),.string ⟨#[48]⟩] w fun e w' => e = .returned (.bool false) ∧ Rd w' R s b l0 ∧ Kp (Own1 R) w w') (N1 : Goes 109 R s b l0 (.tuple #[]) l1) (T2 : ∀ w,Rd w R s b l1 → Calls Tryz.prog 79 #[.pointer (some ⟨R,0,none⟩),.string ⟨#[46]⟩] w fun e w' => e = .returned (.bool true) ∧ Rd w' R s b m1 ∧ Kp (Own1 R) w w') (N2 : Gives 109 R s b m1 51) (w : World) (h : Rd w R s b l) : Calls Tryz.prog 85 #[.pointer (some ⟨R,0,none⟩)] w (NumP R s b w none):=by
 go_enter Tryz.func85,Tryz.ntmps85
 go_wp2_with (first
  | (go_at_call 109;refine (N2 _ hr4).mono ?_;rintro e w5 ⟨rfl,hk5⟩)
  | (go_at_call 79;refine (T2 _ hr3).mono ?_;rintro e w4 ⟨rfl,hr4,hk4⟩)
  | (go_at_call 109;refine (N1 _ hr2).mono ?_;rintro e w3 ⟨rfl,hr3,hk3⟩)
  | (go_at_call 79;refine (T1 _ hr1).mono ?_;rintro e w2 ⟨rfl,hr2,hk2⟩)
  | (go_at_call 79;refine (T0 _ h).mono ?_;rintro e w1 ⟨rfl,hr1,hk1⟩)
  | fail)
 exact ⟨rfl,rfl,(((hk1.trans hk2).trans hk3).trans hk4).trans hk5⟩
set_option maxHeartbeats 1000000 in
theorem num_23 (l l0 : Bs) (B0 : Bool) (T0 : ∀ w,Rd w R s b l → Calls Tryz.prog 79 #[.pointer (some ⟨R,0,none⟩),.string ⟨#[45]⟩] w fun e w' => e = .returned (.bool B0) ∧ Rd w' R s b l0 ∧ Kp (Own1 R) w w') (T1 : ∀ w,Rd w R s b l0 → Calls Tryz.prog 79 #[.pointer (some ⟨R,0,none⟩),.string ⟨#[48]⟩] w fun e w' => e = .returned (.bool false) ∧ Rd w' R s b l0 ∧ Kp (Own1 R) w w') (N1 : Gives 109 R s b l0 51) (w : World) (h : Rd w R s b l) : Calls Tryz.prog 85 #[.pointer (some ⟨R,0,none⟩)] w (NumP R s b w none):=by
 go_enter Tryz.func85,Tryz.ntmps85
 go_wp2_with (first
  | (go_at_call 109;refine (N1 _ hr2).mono ?_;rintro e w3 ⟨rfl,hk3⟩)
  | (go_at_call 79;refine (T1 _ hr1).mono ?_;rintro e w2 ⟨rfl,hr2,hk2⟩)
  | (go_at_call 79;refine (T0 _ h).mono ?_;rintro e w1 ⟨rfl,hr1,hk1⟩)
  | fail)
 exact ⟨rfl,rfl,(hk1.trans hk2).trans hk3⟩
theorem take_yes (p l : Bs) (hp : p.isPrefixOf l = true) : ∀ w,Rd w R s b l → Calls Tryz.prog 79 #[.pointer (some ⟨R,0,none⟩),.string ⟨p.toArray⟩] w fun e w' => e = .returned (.bool true) ∧ Rd w' R s b (l.drop p.length) ∧ Kp (Own1 R) w w':=by
 intro w h
 have:=take_any p l w h
 rw [hp,show optT p l = l.drop p.length from if_pos hp] at this
 exact this
theorem take_no (p l : Bs) (hp : p.isPrefixOf l = false) : ∀ w,Rd w R s b l → Calls Tryz.prog 79 #[.pointer (some ⟨R,0,none⟩),.string ⟨p.toArray⟩] w fun e w' => e = .returned (.bool false) ∧ Rd w' R s b l ∧ Kp (Own1 R) w w':=by
 intro w h
 have:=take_any p l w h
 rw [hp,show optT p l = l from if_neg (by rw [hp];simp)] at this
 exact this
theorem one_yes (p l : Bs) (hp : headIn p l = true) : ∀ w,Rd w R s b l → Calls Tryz.prog 82 #[.pointer (some ⟨R,0,none⟩),.string ⟨p.toArray⟩] w fun e w' => e = .returned (.bool true) ∧ Rd w' R s b (l.drop 1) ∧ Kp (Own1 R) w w':=by
 intro w h
 have:=one_any p l w h
 rw [hp,show optO p l = l.drop 1 from if_pos hp] at this
 exact this
theorem one_no (p l : Bs) (hp : headIn p l = false) : ∀ w,Rd w R s b l → Calls Tryz.prog 82 #[.pointer (some ⟨R,0,none⟩),.string ⟨p.toArray⟩] w fun e w' => e = .returned (.bool false) ∧ Rd w' R s b l ∧ Kp (Own1 R) w w':=by
 intro w h
 have:=one_any p l w h
 rw [hp,show optO p l = l from if_neg (by rw [hp];simp)] at this
 exact this
theorem sees_is (p l : Bs) (B : Bool) (hp : headIn p l = B) : ∀ w,Rd w R s b l → Calls Tryz.prog 84 #[.pointer (some ⟨R,0,none⟩),.string ⟨p.toArray⟩] w fun e w' => e = .returned (.bool B) ∧ Rd w' R s b l ∧ Kp (Own1 R) w w':=by
 intro w h
 refine (sees_any p l w h).mono ?_
 rintro e w' ⟨rfl,m,rfl⟩
 exact ⟨by rw [hp],h.drewN m,Kp.n w m⟩
theorem number_any (l : Bs) (w : World) (h : Rd w R s b l) : Calls Tryz.prog 85 #[.pointer (some ⟨R,0,none⟩)] w (NumP R s b w (numS l)):=by
 have T0 : ∀ w,Rd w R s b l → Calls Tryz.prog 79 #[.pointer (some ⟨R,0,none⟩),.string ⟨#[45]⟩] w fun e w' => e = .returned (.bool (List.isPrefixOf [45] l)) ∧ Rd w' R s b (optT [45] l) ∧ Kp (Own1 R) w w':=fun w h => take_any [45] l w h
 unfold numS
 generalize optT [45] l = l0 at *
 generalize List.isPrefixOf [45] l = B0 at *
 by_cases h1 : List.isPrefixOf [48] l0 = true
 ·rw [show numA l0 = _ from if_pos h1]
  generalize h10 : l0.drop 1 = l1
  have T1 : ∀ w,Rd w R s b l0 → Calls Tryz.prog 79 #[.pointer (some ⟨R,0,none⟩),.string ⟨#[48]⟩] w fun e w' => e = .returned (.bool true) ∧ Rd w' R s b l1 ∧ Kp (Own1 R) w w':=by rw [← h10];exact take_yes [48] l0 h1
  rw [Option.bind_some]
  by_cases h2 : List.isPrefixOf [46] l1 = true
  ·rw [show numB l1 = _ from if_pos h2]
   obtain hd | ⟨l2,hd2⟩:=(Option.eq_none_or_eq_some (needD (l1.drop 1)))
   ·rw [hd];refine num_11 _ _ _ _ _ T0 T1 (take_yes _ _ h2) (needD_no _ hd) w h
   ·rw [hd2,Option.map_some]
    rw [Option.bind_some]
    by_cases h3 : headIn [101,69] l2 = true
    ·rw [show numC _ _ = _ from if_pos h3]
     obtain hd | ⟨l3,hd⟩:=(Option.eq_none_or_eq_some (needD (optO [43,45] (l2.drop 1))))
     ·rw [hd];refine num_10 _ _ _ _ _ _ _ _ _ T0 T1 (take_yes _ _ h2) (needD_yes _ _ hd2) (one_yes _ _ h3) (one_any _ _) (needD_no _ hd) w h
     ·rw [hd,Option.map_some,Option.bind_some]
      by_cases h5 : headIn numL l3 = true
      ·rw [show numD _ _ = _ from if_pos h5];refine num_9 _ _ _ _ _ _ _ _ _ _ T0 T1 (take_yes _ _ h2) (needD_yes _ _ hd2) (one_yes _ _ h3) (one_any _ _) (needD_yes _ _ hd) (sees_is numL l3 true h5) w h
      ·rw [show numD _ _ = _ from if_neg h5];refine num_8 _ _ _ _ _ _ _ _ _ _ T0 T1 (take_yes _ _ h2) (needD_yes _ _ hd2) (one_yes _ _ h3) (one_any _ _) (needD_yes _ _ hd) (sees_is numL l3 false (Bool.eq_false_iff.2 h5)) w h
    ·rw [show numC _ _ = _ from if_neg h3,Option.bind_some]
     by_cases h5 : headIn numL l2 = true
     ·rw [show numD _ _ = _ from if_pos h5];refine num_7 _ _ _ _ _ _ T0 T1 (take_yes _ _ h2) (needD_yes _ _ hd2) (one_no _ _ (Bool.eq_false_iff.2 h3)) (sees_is numL l2 true h5) w h
     ·rw [show numD _ _ = _ from if_neg h5];refine num_6 _ _ _ _ _ _ T0 T1 (take_yes _ _ h2) (needD_yes _ _ hd2) (one_no _ _ (Bool.eq_false_iff.2 h3)) (sees_is numL l2 false (Bool.eq_false_iff.2 h5)) w h
  ·rw [show numB l1 = _ from if_neg h2]
   rw [Option.bind_some]
   by_cases h3 : headIn [101,69] l1 = true
   ·rw [show numC _ _ = _ from if_pos h3]
    obtain hd | ⟨l3,hd⟩:=(Option.eq_none_or_eq_some (needD (optO [43,45] (l1.drop 1))))
    ·rw [hd];refine num_5 _ _ _ _ _ _ _ T0 T1 (take_no _ _ (Bool.eq_false_iff.2 h2)) (one_yes _ _ h3) (one_any _ _) (needD_no _ hd) w h
    ·rw [hd,Option.map_some,Option.bind_some]
     by_cases h5 : headIn numL l3 = true
     ·rw [show numD _ _ = _ from if_pos h5];refine num_4 _ _ _ _ _ _ _ _ T0 T1 (take_no _ _ (Bool.eq_false_iff.2 h2)) (one_yes _ _ h3) (one_any _ _) (needD_yes _ _ hd) (sees_is numL l3 true h5) w h
     ·rw [show numD _ _ = _ from if_neg h5];refine num_3 _ _ _ _ _ _ _ _ T0 T1 (take_no _ _ (Bool.eq_false_iff.2 h2)) (one_yes _ _ h3) (one_any _ _) (needD_yes _ _ hd) (sees_is numL l3 false (Bool.eq_false_iff.2 h5)) w h
   ·rw [show numC _ _ = _ from if_neg h3,Option.bind_some]
    by_cases h5 : headIn numL l1 = true
    ·rw [show numD _ _ = _ from if_pos h5];refine num_2 _ _ _ _ T0 T1 (take_no _ _ (Bool.eq_false_iff.2 h2)) (one_no _ _ (Bool.eq_false_iff.2 h3)) (sees_is numL l1 true h5) w h
    ·rw [show numD _ _ = _ from if_neg h5];refine num_1 _ _ _ _ T0 T1 (take_no _ _ (Bool.eq_false_iff.2 h2)) (one_no _ _ (Bool.eq_false_iff.2 h3)) (sees_is numL l1 false (Bool.eq_false_iff.2 h5)) w h
 ·rw [show numA l0 = _ from if_neg h1]
  obtain hd | ⟨l1,hd1⟩:=(Option.eq_none_or_eq_some (needD l0))
  ·rw [hd];refine num_23 _ _ _ T0 (take_no _ _ (Bool.eq_false_iff.2 h1)) (needD_no _ hd) w h
  ·rw [hd1]
   rw [Option.bind_some]
   by_cases h2 : List.isPrefixOf [46] l1 = true
   ·rw [show numB l1 = _ from if_pos h2]
    obtain hd | ⟨l2,hd2⟩:=(Option.eq_none_or_eq_some (needD (l1.drop 1)))
    ·rw [hd];refine num_22 _ _ _ _ _ T0 (take_no _ _ (Bool.eq_false_iff.2 h1)) (needD_yes _ _ hd1) (take_yes _ _ h2) (needD_no _ hd) w h
    ·rw [hd2,Option.map_some]
     rw [Option.bind_some]
     by_cases h3 : headIn [101,69] l2 = true
     ·rw [show numC _ _ = _ from if_pos h3]
      obtain hd | ⟨l3,hd⟩:=(Option.eq_none_or_eq_some (needD (optO [43,45] (l2.drop 1))))
      ·rw [hd];refine num_21 _ _ _ _ _ _ _ _ _ T0 (take_no _ _ (Bool.eq_false_iff.2 h1)) (needD_yes _ _ hd1) (take_yes _ _ h2) (needD_yes _ _ hd2) (one_yes _ _ h3) (one_any _ _) (needD_no _ hd) w h
      ·rw [hd,Option.map_some,Option.bind_some]
       by_cases h5 : headIn numL l3 = true
       ·rw [show numD _ _ = _ from if_pos h5];refine num_20 _ _ _ _ _ _ _ _ _ _ T0 (take_no _ _ (Bool.eq_false_iff.2 h1)) (needD_yes _ _ hd1) (take_yes _ _ h2) (needD_yes _ _ hd2) (one_yes _ _ h3) (one_any _ _) (needD_yes _ _ hd) (sees_is numL l3 true h5) w h
       ·rw [show numD _ _ = _ from if_neg h5];refine num_19 _ _ _ _ _ _ _ _ _ _ T0 (take_no _ _ (Bool.eq_false_iff.2 h1)) (needD_yes _ _ hd1) (take_yes _ _ h2) (needD_yes _ _ hd2) (one_yes _ _ h3) (one_any _ _) (needD_yes _ _ hd) (sees_is numL l3 false (Bool.eq_false_iff.2 h5)) w h
     ·rw [show numC _ _ = _ from if_neg h3,Option.bind_some]
      by_cases h5 : headIn numL l2 = true
      ·rw [show numD _ _ = _ from if_pos h5];refine num_18 _ _ _ _ _ _ T0 (take_no _ _ (Bool.eq_false_iff.2 h1)) (needD_yes _ _ hd1) (take_yes _ _ h2) (needD_yes _ _ hd2) (one_no _ _ (Bool.eq_false_iff.2 h3)) (sees_is numL l2 true h5) w h
      ·rw [show numD _ _ = _ from if_neg h5];refine num_17 _ _ _ _ _ _ T0 (take_no _ _ (Bool.eq_false_iff.2 h1)) (needD_yes _ _ hd1) (take_yes _ _ h2) (needD_yes _ _ hd2) (one_no _ _ (Bool.eq_false_iff.2 h3)) (sees_is numL l2 false (Bool.eq_false_iff.2 h5)) w h
   ·rw [show numB l1 = _ from if_neg h2]
    rw [Option.bind_some]
    by_cases h3 : headIn [101,69] l1 = true
    ·rw [show numC _ _ = _ from if_pos h3]
     obtain hd | ⟨l3,hd⟩:=(Option.eq_none_or_eq_some (needD (optO [43,45] (l1.drop 1))))
     ·rw [hd];refine num_16 _ _ _ _ _ _ _ T0 (take_no _ _ (Bool.eq_false_iff.2 h1)) (needD_yes _ _ hd1) (take_no _ _ (Bool.eq_false_iff.2 h2)) (one_yes _ _ h3) (one_any _ _) (needD_no _ hd) w h
     ·rw [hd,Option.map_some,Option.bind_some]
      by_cases h5 : headIn numL l3 = true
      ·rw [show numD _ _ = _ from if_pos h5];refine num_15 _ _ _ _ _ _ _ _ T0 (take_no _ _ (Bool.eq_false_iff.2 h1)) (needD_yes _ _ hd1) (take_no _ _ (Bool.eq_false_iff.2 h2)) (one_yes _ _ h3) (one_any _ _) (needD_yes _ _ hd) (sees_is numL l3 true h5) w h
      ·rw [show numD _ _ = _ from if_neg h5];refine num_14 _ _ _ _ _ _ _ _ T0 (take_no _ _ (Bool.eq_false_iff.2 h1)) (needD_yes _ _ hd1) (take_no _ _ (Bool.eq_false_iff.2 h2)) (one_yes _ _ h3) (one_any _ _) (needD_yes _ _ hd) (sees_is numL l3 false (Bool.eq_false_iff.2 h5)) w h
    ·rw [show numC _ _ = _ from if_neg h3,Option.bind_some]
     by_cases h5 : headIn numL l1 = true
     ·rw [show numD _ _ = _ from if_pos h5];refine num_13 _ _ _ _ T0 (take_no _ _ (Bool.eq_false_iff.2 h1)) (needD_yes _ _ hd1) (take_no _ _ (Bool.eq_false_iff.2 h2)) (one_no _ _ (Bool.eq_false_iff.2 h3)) (sees_is numL l1 true h5) w h
     ·rw [show numD _ _ = _ from if_neg h5];refine num_12 _ _ _ _ T0 (take_no _ _ (Bool.eq_false_iff.2 h1)) (needD_yes _ _ hd1) (take_no _ _ (Bool.eq_false_iff.2 h2)) (one_no _ _ (Bool.eq_false_iff.2 h3)) (sees_is numL l1 false (Bool.eq_false_iff.2 h5)) w h
end
end Go.Proofs.YtgppemlciohjcaaGreatDoor
namespace Go.Proofs.YtgppemlciohjcaaGreatDoor
open Go Go.RowKit
section
variable {R : Nat} {s : Bs} {b : Nat}
abbrev tokV (k : Int) (t : Bs) (b e : Nat) : Value:=.agg #[.int .i64 k,.string ⟨t.toArray⟩,.int .i64 (b : Int),.int .i64 (e : Int)]
theorem cut_ahead {s lb l : Bs} (hlb : lb <:+ s) (hl : l <:+ lb) : (ByteArray.mk s.toArray).extract (s.length - lb.length) (s.length - l.length) = ⟨(ahead lb l).toArray⟩:=by
 obtain ⟨p,rfl⟩:=hlb
 obtain ⟨q,rfl⟩:=hl
 unfold ahead
 apply ByteArray.ext;apply Array.toList_inj.1
 simp
 have e : p.length + (q.length + l.length) - l.length - p.length = q.length:=by omega
 rw [e]
 simp
set_option maxHeartbeats 2000000 in
theorem written_any (k : Int) (lb l : Bs) (w : World) (h : Rd w R s (s.length - lb.length) l) (hlb : lb <:+ s) (hl : l <:+ lb) :
  Calls Tryz.prog 83 #[.pointer (some ⟨R,0,none⟩),.int .i64 k] w fun e w' => e = .returned (tokV k (ahead lb l) (s.length - lb.length) (s.length - l.length)) ∧ Rd w' R s (s.length - lb.length) l ∧ Kp (Own1 R) w w':=by
 have c0:=fun o => (h.alloc o).c0
 have c1:=fun o => (h.alloc o).c1
 have c2:=fun o => (h.alloc o).c2
 have hle:=hl.length_le
 have hle2:=hlb.length_le
 have hx:=cut_ahead hlb hl
 obtain ⟨h1,_,_⟩:=suf_facts h.suf
 have HH : Hid (Rd w R s (s.length - lb.length) l):=h
 have HK : Hid (R < w.heap.size):=h.lt
 have g1 : ((s.length - lb.length : Nat) : Int) ≤ ((s.length - l.length : Nat) : Int):=by omega
 have g2 : ((s.length - l.length : Nat) : Int) ≤ (s.length : Int):=by omega
 have g3 : (0 : Int) ≤ ((s.length - lb.length : Nat) : Int):=by omega
 clear h
 generalize ahead lb l = T at *
 generalize (ByteArray.mk s.toArray) = D at *
 generalize hA : s.length - l.length = A at *
 generalize hB : s.length - lb.length = B at *
 clear hle hle2 hlb hl
 go_enter Tryz.func83,Tryz.ntmps83
 go_wp2
 go_region
 all_goals
  go_wp2
  exact bodyPost_ret (v:=tokV k T B A) (by simp [results,Tryz.results83,go_sem]) rfl ⟨rfl,((HH.out.alloc _).drewN 1),((Kp.refl _ _).alloc _).drew⟩
theorem walkF_source (S : ByteArray) : ∀ (n p : Nat),walkF S (sourceStep S) n p (0,0) = (0,0) ∨ ∃ q : Nat,q < S.size ∧ walkF S (sourceStep S) n p (0,0) = ((q : Int),10)
 | 0,_ => Or.inl rfl
 | n + 1,p => by
  unfold walkF
  by_cases hp : p < S.size
  ·rw [if_pos hp]
   by_cases hc : sourceB (stC S p) = true
   ·have e : sourceStep S (0,0) p = ((0,0),true):=if_pos hc
    rw [e]
    exact walkF_source S n _
   ·have e : sourceStep S (0,0) p = (((p : Int),10),false):=if_neg hc
    rw [e]
    exact Or.inr ⟨p,hp,rfl⟩
  ·rw [if_neg hp];exact Or.inl rfl
theorem sourceS_cases (x : Bs) : (srcB x = none ∧ (sourceS ⟨x.toArray⟩).2 = 0) ∨ ∃ k : Nat,k < x.length ∧ srcB x = some k ∧ sourceS ⟨x.toArray⟩ = ((k : Int),10):=by
 unfold srcB
 rcases walkF_source ⟨x.toArray⟩ ((ByteArray.mk x.toArray).size - 0) 0 with h | ⟨q,hq,h⟩
 ·left
  have h' : sourceS ⟨x.toArray⟩ = (0,0):=h
  rw [h']
  exact ⟨rfl,rfl⟩
 ·right
  have h' : sourceS ⟨x.toArray⟩ = ((q : Int),10):=h
  rw [h']
  exact ⟨q,hq,rfl,rfl⟩
theorem spanN_head (S : Bs) (c : UInt8) (l : Bs) (h : S.contains c = false) : spanN S (c :: l) = spanN S l:=by
 conv => lhs;unfold spanN
 rw [h]
 rfl
theorem spanN_stop (S : Bs) (c : UInt8) (l : Bs) (h : S.contains c = true) : spanN S (c :: l) = c :: l:=by
 unfold spanN
 rw [if_pos h]
def ComP (R : Nat) (s : Bs) (b : Nat) (w : World) (l : Bs) (r : Option (Bs ⊕ Nat)) (e : Ending) (w' : World) : Prop:=(match r with
  | none => e = .returned (.bool false) ∧ Rd w' R s b l
  | some (.inl m) => e = .returned (.bool true) ∧ Rd w' R s b m
  | some (.inr k) => e = Dies (s.length - l.length + k) 50) ∧ Kp (Own1 R) w w'
end
end Go.Proofs.YtgppemlciohjcaaGreatDoor
namespace Go.Proofs.YtgppemlciohjcaaGreatDoor
open Go Go.RowKit
section
variable {R : Nat} {s : Bs} {b : Nat}
set_option maxHeartbeats 4000000 in
theorem com_walk (l : Bs) (w : World) (h : Rd w R s b l) (hp : List.isPrefixOf [35] l = true) (x : Bs) (hx : x = ahead l (spanN endL (l.drop 1))) (A1 A2 : Int) (hS : sourceS ⟨x.toArray⟩ = (A1,A2))
  (P : Ending → World → Prop) (hok : A2 = 0 → ∀ w',Rd w' R s b (spanN endL (l.drop 1)) → Kp (Own1 R) w w' → P (.returned (.bool true)) w')
  (hno : A2 ≠ 0 → ∀ w',Kp (Own1 R) w w' → P (.panicked [{ v:=.iface 78 (.agg #[.int .i64 (((s.length - l.length : Nat) : Int) + A1),.int .i64 50]),recovered:=false }]) w') (hA : 0 ≤ A1) (hA' : A1 ≤ 16384) :
  Calls Tryz.prog 80 #[.pointer (some ⟨R,0,none⟩)] w P:=by
 have T:=take_yes [35] l hp w h
 have hle:=h.le
 have c2:=h.c2
 have hsm:=h.small
 have hrest : spanN endL (l.drop 1) <:+ l:=(spanN_suf _ _).trans (drop_suf _ _)
 have hcut:=cut_ahead h.suf hrest
 rw [← hx] at hcut
 have hxl : x.length ≤ 16384:=by rw [hx];unfold ahead;rw [List.length_take];omega
 have S:=fun w => source_any ⟨x.toArray⟩ w (by rw [size_of];omega)
 rw [hS] at S
 have HS : Hid (∀ w,Calls Tryz.prog 107 #[.string ⟨x.toArray⟩] w fun e w' => e = .returned (.tuple #[.int .i64 A1,.int .i64 A2]) ∧ Below w.heap.size w w'):=S
 have HC : Hid ((ByteArray.mk s.toArray).extract (s.length - l.length) (s.length - (spanN endL (l.drop 1)).length) = ⟨x.toArray⟩):=hcut
 have hsz:=size_of s
 have hB1 : ((s.length - l.length : Nat) : Int) ≤ ((s.length - (spanN endL (l.drop 1)).length : Nat) : Int):=by have:=hrest.length_le;omega
 have hB2 : ((s.length - (spanN endL (l.drop 1)).length : Nat) : Int) ≤ (s.length : Int):=by omega
 have hB3 : (0 : Int) ≤ ((s.length - l.length : Nat) : Int):=by omega
 have hB4 : ((s.length - l.length : Nat) : Int) ≤ 16384:=by omega
 have HN : Hid (A2 ≠ 0 → ∀ w',Kp (Own1 R) w w' → P (.panicked [{ v:=.iface 78 (.agg #[.int .i64 (((s.length - l.length : Nat) : Int) + A1),.int .i64 50]),recovered:=false }]) w'):=hno
 have HO : Hid (A2 = 0 → ∀ w',Rd w' R s b (spanN endL (l.drop 1)) → Kp (Own1 R) w w' → P (.returned (.bool true)) w'):=hok
 have HL : Hid (x = ahead l (spanN endL (l.drop 1))):=hx
 clear h S hS hcut hno hok hx hxl hrest
 go_enter Tryz.func80,Tryz.ntmps80
 go_wp2_with (go_at_call 79;refine T.mono ?_;rintro e w1 ⟨rfl,hr1,hk1⟩)
 go_loopw [20] (fun _ wr => ∃ l',Rd wr R s b l' ∧ spanN endL l' = spanN endL (l.drop 1) ∧ Kp (Own1 R) w wr) (fun _ wr => s.length - (atOf wr R).toNat)
 case atStart => exact ⟨_,hr1,rfl,hk1⟩
 case round =>
  obtain ⟨l',hr,hsp,hk⟩:=hrel
  have HSP : Hid (spanN endL l' = spanN endL (l.drop 1)):=hsp
  clear hsp T hr1 hk1
  have fin : ∀ (w3 : World),Rd w3 R s b (spanN endL (l.drop 1)) → w3.cell? ⟨R,0,none⟩ = some (.string ⟨s.toArray⟩) ∧ w3.cell? ⟨R,2,none⟩ = some (.int .i64 ((s.length - (spanN endL (l.drop 1)).length : Nat) : Int)):=fun w3 h3 => ⟨h3.c0,h3.c2⟩
  cases l' with
  | nil =>
   have E:=ends_yes wr hr
   have e : spanN endL (l.drop 1) = []:=HSP.out.symm
   rw [e] at HC HO hB1 hB2 fin
   obtain ⟨d0,d2⟩:=fin wr hr
   have hcut:=HC.out
   clear fin HC HSP HL
   generalize s.length - l.length = A at *
   generalize s.length - ([] : Bs).length = C at *
   generalize (ByteArray.mk s.toArray) = D at *
   generalize (ByteArray.mk x.toArray) = X at *
   by_cases hz : A2 = 0
   ·subst hz
    have HQ : Hid (∀ w',Rd w' R s b _ → Kp (Own1 R) w w' → P (.returned (.bool true)) w'):=HO.out rfl
    clear HO
    go_wp2_with (go_at_call 81;refine E.mono ?_;rintro e w1 ⟨rfl,m,rfl⟩)
    go_region_with (go_at_call 107;refine (HS.out _).mono ?_;rintro e w4 ⟨rfl,hb4⟩)
    all_goals
     go_wp2
     exact HQ.out _ ((hr.drewN (m + 1)).below hb4 hr.lt) ((hk.drewN (m + 1)).then_below (hb4.mono hk.size))
   ·have hz' : (A2 == 0) = false:=by rw [beq_eq_false_iff_ne];exact hz
    have HZ : Hid (A2 ≠ 0):=hz
    clear hz
    go_wp2_with (go_at_call 81;refine E.mono ?_;rintro e w1 ⟨rfl,m,rfl⟩)
    go_region_with (go_at_call 107;refine (HS.out _).mono ?_;rintro e w4 ⟨rfl,hb4⟩)
    all_goals
     go_wp2
     exact ⟨rfl,HN.out HZ.out _ ((hk.drewN (m + 1)).then_below (hb4.mono hk.size))⟩
  | cons c l' =>
   have E : Calls Tryz.prog 81 #[.pointer (some ⟨R,0,none⟩)] wr fun e w' => e = .returned (.bool false) ∧ Rd w' R s b (c :: l') ∧ Kp (Own1 R) wr w':=by
    refine (ends_no c l' wr hr).mono ?_
    rintro e w' ⟨rfl,m,rfl⟩
    exact ⟨rfl,hr.drewN m,Kp.n wr m⟩
   by_cases hc : endL.contains c = true
   ·have e : c :: l' = spanN endL (l.drop 1):=(spanN_stop endL c l' hc).symm.trans HSP.out
    have E2:=sees_is (R:=R) (s:=s) (b:=b) endL (c :: l') true hc
    rw [e] at E E2 hr
    have hcut:=HC.out
    clear HC HSP HL hc e
    generalize spanN endL (l.drop 1) = r at *
    generalize s.length - l.length = A at *
    generalize s.length - r.length = C at *
    generalize (ByteArray.mk s.toArray) = D at *
    generalize (ByteArray.mk x.toArray) = X at *
    by_cases hz : A2 = 0
    ·subst hz
     have HQ : Hid (∀ w',Rd w' R s b _ → Kp (Own1 R) w w' → P (.returned (.bool true)) w'):=HO.out rfl
     clear HO
     go_wp2_with (first
      | (go_at_call 84;refine (E2 _ hr1).mono ?_;rintro e w2 ⟨rfl,hr2,hk2⟩;obtain ⟨d0,d2⟩:=fin _ hr2)
      | (go_at_call 81;refine E.mono ?_;rintro e w1 ⟨rfl,hr1,hk1⟩)
      | fail)
     go_region_with (go_at_call 107;refine (HS.out _).mono ?_;rintro e w4 ⟨rfl,hb4⟩)
     all_goals
      go_wp2
      exact HQ.out _ ((hr2.drewN 1).below hb4 hr2.lt) (((hk.trans hk1).trans hk2).drew.then_below (hb4.mono ((hk.trans hk1).trans hk2).size))
    ·have hz' : (A2 == 0) = false:=by rw [beq_eq_false_iff_ne];exact hz
     have HZ : Hid (A2 ≠ 0):=hz
     clear hz
     go_wp2_with (first
      | (go_at_call 84;refine (E2 _ hr1).mono ?_;rintro e w2 ⟨rfl,hr2,hk2⟩;obtain ⟨d0,d2⟩:=fin _ hr2)
      | (go_at_call 81;refine E.mono ?_;rintro e w1 ⟨rfl,hr1,hk1⟩)
      | fail)
     go_region_with (go_at_call 107;refine (HS.out _).mono ?_;rintro e w4 ⟨rfl,hb4⟩)
     all_goals
      go_wp2
      exact ⟨rfl,HN.out HZ.out _ (((hk.trans hk1).trans hk2).drew.then_below (hb4.mono ((hk.trans hk1).trans hk2).size))⟩
   ·have hc' : endL.contains c = false:=Bool.eq_false_iff.2 hc
    have E2:=sees_is (R:=R) (s:=s) (b:=b) endL (c :: l') false hc'
    have Y:=fun w h => byte_any (R:=R) (s:=s) (b:=b) c l' w h
    have ha:=atOf_eq hr
    have hle':=hr.le
    have HE : Hid (spanN endL l' = spanN endL (l.drop 1)):=(spanN_head endL c l' hc').symm.trans HSP.out
    clear hc hc' HC fin HSP HL
    go_wp2_with (first
     | (go_at_call 106;refine (Y _ hr2).mono ?_;rintro e w3 ⟨rfl,hr3,hk3⟩)
     | (go_at_call 84;refine (E2 _ hr1).mono ?_;rintro e w2 ⟨rfl,hr2,hk2⟩)
     | (go_at_call 81;refine E.mono ?_;rintro e w1 ⟨rfl,hr1,hk1⟩)
     | fail)
    refine ⟨⟨_,hr3,HE.out,((hk.trans hk1).trans hk2).trans hk3⟩,?_⟩
    rw [atOf_eq hr3,ha]
    simp only [Int.toNat_natCast,List.length_cons] at hle' ⊢
    omega
end
end Go.Proofs.YtgppemlciohjcaaGreatDoor
namespace Go.Proofs.YtgppemlciohjcaaGreatDoor
open Go Go.RowKit
theorem spanR_lt (S l : Bs) (h : headIn S l = true) : (spanR S l).length < l.length:=by
 rw [← spanR_head S l h]
 have:=(spanR_suf S (l.drop 1)).length_le
 rw [List.length_drop] at this
 cases l with
 | nil => cases h
 | cons c l => simp only [List.length_cons] at this ⊢;omega
theorem prefix_le {p l : Bs} (h : p.isPrefixOf l = true) : p.length ≤ l.length:=(List.isPrefixOf_iff_prefix.1 h).length_le
theorem comS_lt {l m : Bs} (h : comS l = some (.inl m)) : m.length < l.length:=by
 unfold comS at h
 by_cases hp : List.isPrefixOf [35] l = true
 ·rw [if_pos hp] at h
  have h1:=prefix_le hp
  have h2:=(spanN_suf endL (l.drop 1)).length_le
  rw [List.length_drop] at h2
  simp only [List.length_cons,List.length_nil] at h1
  have e : m = spanN endL (l.drop 1):=by
   cases hs : srcB (ahead l (spanN endL (l.drop 1))) with
   | none => rw [hs] at h;injection h with h;injection h with h;exact h.symm
   | some k => rw [hs] at h;simp at h
  rw [e];omega
 ·rw [if_neg hp] at h;cases h
theorem skipF_fuel : ∀ (n m : Nat) (l : Bs),l.length < n → l.length < m → skipF n l = skipF m l
 | 0,_,_,h,_ => absurd h (Nat.not_lt_zero _)
 | _ + 1,0,_,_,h => absurd h (Nat.not_lt_zero _)
 | n + 1,m + 1,l,hn,hm => by
  unfold skipF
  by_cases h1 : headIn ignL l = true
  ·rw [if_pos h1,if_pos h1]
   have:=spanR_lt ignL l h1
   exact skipF_fuel n m _ (by omega) (by omega)
  ·rw [if_neg h1,if_neg h1]
   by_cases h2 : List.isPrefixOf [239,187,191] l = true
   ·rw [if_pos h2,if_pos h2]
    have:=prefix_le h2
    simp only [List.length_cons,List.length_nil] at this
    exact skipF_fuel n m _ (by rw [List.length_drop];omega) (by rw [List.length_drop];omega)
   ·rw [if_neg h2,if_neg h2]
    cases hc : comS l with
    | none => rfl
    | some x =>
     cases x with
     | inl r =>
      have:=comS_lt hc
      exact skipF_fuel n m _ (by omega) (by omega)
     | inr k => rfl
theorem skipS_ign {l : Bs} (h : headIn ignL l = true) : skipS l = skipS (spanR ignL l):=by
 have:=spanR_lt ignL l h
 show skipF (l.length + 1) l = _
 unfold skipF
 rw [if_pos h]
 exact skipF_fuel _ _ _ (by omega) (by omega)
theorem skipS_mark {l : Bs} (h : headIn ignL l = false) (h2 : List.isPrefixOf [239,187,191] l = true) : skipS l = skipS (l.drop 3):=by
 have:=prefix_le h2
 simp only [List.length_cons,List.length_nil] at this
 show skipF (l.length + 1) l = _
 unfold skipF
 rw [if_neg (by rw [h];simp),if_pos h2]
 exact skipF_fuel _ _ _ (by rw [List.length_drop];omega) (by omega)
theorem skipS_com {l : Bs} (h : headIn ignL l = false) (h2 : List.isPrefixOf [239,187,191] l = false) : skipS l = match comS l with
  | none => .inl l
  | some (.inl r) => skipS r
  | some (.inr k) => .inr (l.length - k):=by
 show skipF (l.length + 1) l = _
 unfold skipF
 rw [if_neg (by rw [h];simp),if_neg (by rw [h2];simp)]
 cases hc : comS l with
 | none => rfl
 | some x =>
  cases x with
  | inl r =>
   have:=comS_lt hc
   exact skipF_fuel _ _ _ (by omega) (by omega)
  | inr k => rfl
section
variable {R : Nat} {s : Bs} {b : Nat}
theorem comment_any (l : Bs) (w : World) (h : Rd w R s b l) : Calls Tryz.prog 80 #[.pointer (some ⟨R,0,none⟩)] w (ComP R s b w l (comS l)):=by
 by_cases hp : List.isPrefixOf [35] l = true
 ·rcases sourceS_cases (ahead l (spanN endL (l.drop 1))) with ⟨h1,h2⟩ | ⟨k,hk,h1,h2⟩
  ·rw [show comS l = some (.inl (spanN endL (l.drop 1))) by unfold comS;rw [if_pos hp,h1]]
   rcases walkF_source ⟨(ahead l (spanN endL (l.drop 1))).toArray⟩ ((ByteArray.mk (ahead l (spanN endL (l.drop 1))).toArray).size - 0) 0 with hs | ⟨q,_,hs⟩
   ·refine com_walk l w h hp _ rfl 0 0 hs _ (fun _ w' h1 h2 => ⟨⟨rfl,h1⟩,h2⟩) (fun h => absurd rfl h) (by decide) (by decide)
   ·have hs' : sourceS ⟨(ahead l (spanN endL (l.drop 1))).toArray⟩ = ((q : Int),10):=hs
    rw [hs'] at h2
    cases h2
  ·rw [show comS l = some (.inr k) by unfold comS;rw [if_pos hp,h1]]
   have hle:=h.le
   have hsm:=h.small
   have hkl : k ≤ 16384:=by
    unfold ahead at hk
    rw [List.length_take] at hk
    omega
   refine com_walk l w h hp _ rfl (k : Int) 10 h2 _ (fun h => by cases h) (fun _ w' h1 => ⟨?_,h1⟩) (by omega) (by omega)
   show _ = Dies _ _
   unfold Dies
   rw [Int.natCast_add]
 ·have hp' : List.isPrefixOf [35] l = false:=Bool.eq_false_iff.2 hp
  rw [show comS l = none by unfold comS;rw [if_neg hp]]
  have T:=take_no (R:=R) (s:=s) (b:=b) [35] l hp' w h
  have c2:=h.c2
  go_enter Tryz.func80,Tryz.ntmps80
  go_wp2_with (go_at_call 79;refine T.mono ?_;rintro e w1 ⟨rfl,hr1,hk1⟩)
  go_ret
  exact ⟨⟨rfl,hr1⟩,hk1⟩
def NextP (R : Nat) (s : Bs) (w : World) (r : Bs ⊕ Nat) (e : Ending) (w' : World) : Prop:=(match r with
  | .inl m => e = .returned (.bool (!m.isEmpty)) ∧ Rd w' R s (s.length - m.length) m
  | .inr k => e = Dies (s.length - k) 50) ∧ Kp (Own1 R) w w'
set_option maxHeartbeats 4000000 in
theorem next_any (l : Bs) (w : World) (h : Rd w R s b l) : Calls Tryz.prog 50 #[.pointer (some ⟨R,0,none⟩)] w (NextP R s w (skipS l)):=by
 go_enter Tryz.func50,Tryz.ntmps50
 go_wp2
 go_loopw [12] (fun _ wr => ∃ l',Rd wr R s b l' ∧ skipS l' = skipS l ∧ Kp (Own1 R) w wr) (fun _ wr => s.length - (atOf wr R).toNat)
 case atStart => exact ⟨_,h,rfl,Kp.refl _ _⟩
 case round =>
  clear h
  obtain ⟨l',hr,hsp,hk⟩:=hrel
  have ha:=atOf_eq hr
  have hle:=hr.le
  have HA : Hid (atOf wr R = ((s.length - l'.length : Nat) : Int)):=ha
  clear ha
  by_cases h1 : headIn ignL l' = true
  ·have O:=row_any ignL l' wr hr
   rw [h1] at O
   have HSP : Hid (skipS (spanR ignL l') = skipS l):=(skipS_ign h1).symm.trans hsp
   have HLT : Hid ((spanR ignL l').length < l'.length):=spanR_lt ignL l' h1
   clear hsp h1 hr
   go_wp2_with (go_at_call 78;refine O.mono ?_;rintro e w1 ⟨rfl,hr1,hk1⟩)
   refine ⟨⟨_,hr1,HSP.out,hk.trans hk1⟩,?_⟩
   rw [atOf_eq hr1,HA.out]
   have:=HLT.out
   simp only [Int.toNat_natCast]
   omega
  ·have h1' : headIn ignL l' = false:=Bool.eq_false_iff.2 h1
   have O:=row_any ignL l' wr hr
   rw [h1',spanR_stop ignL l' h1'] at O
   by_cases h2 : List.isPrefixOf [239,187,191] l' = true
   ·have T:=take_yes (R:=R) (s:=s) (b:=b) [239,187,191] l' h2
    have HSP : Hid (skipS (l'.drop 3) = skipS l):=(skipS_mark h1' h2).symm.trans hsp
    have HLT : Hid ((l'.drop 3).length < l'.length):=by
     have:=prefix_le h2
     simp only [List.length_cons,List.length_nil] at this
     show (l'.drop 3).length < _
     rw [List.length_drop];omega
    clear hsp h1 h1' h2
    go_wp2_with (first
     | (go_at_call 79;refine (T _ hr1).mono ?_;rintro e w2 ⟨rfl,hr2,hk2⟩)
     | (go_at_call 78;refine O.mono ?_;rintro e w1 ⟨rfl,hr1,hk1⟩)
     | fail)
    refine ⟨⟨_,hr2,HSP.out,(hk.trans hk1).trans hk2⟩,?_⟩
    have hr2' : Rd w2 R s b (l'.drop 3):=hr2
    rw [atOf_eq hr2',HA.out]
    have:=HLT.out
    simp only [Int.toNat_natCast]
    omega
   ·have h2' : List.isPrefixOf [239,187,191] l' = false:=Bool.eq_false_iff.2 h2
    have T:=take_no (R:=R) (s:=s) (b:=b) [239,187,191] l' h2'
    have M:=fun w h => comment_any (R:=R) (s:=s) (b:=b) l' w h
    have HSP:=(skipS_com h1' h2').symm.trans hsp
    clear hsp h1 h1' h2 h2'
    cases hc : comS l' with
    | none =>
     rw [hc] at HSP M
     have HQ : Hid ((.inl l' : Bs ⊕ Nat) = skipS l):=HSP
     clear HSP hc
     have fin : ∀ w3,Rd w3 R s b l' → w3.cell? ⟨R,2,none⟩ = some (.int .i64 ((s.length - l'.length : Nat) : Int)) ∧ w3.frozen? ⟨R,1,none⟩ = false ∧ w3.cell? ⟨R,1,none⟩ = some (.int .i64 (b : Int)):=fun w3 h3 => ⟨h3.c2,h3.free 1,h3.c1⟩
     cases l' with
     | nil =>
      have E:=fun w (h : Rd w R s (s.length - ([] : Bs).length) []) => ends_yes w h
      go_wp2_with (first
       | (go_at_call 81;refine (E _ (hr3.begin _ _ rfl)).mono ?_;rintro e w4 ⟨rfl,m,rfl⟩)
       | (go_at_call 80;refine (M _ hr2).mono ?_;rintro e w3 ⟨⟨rfl,hr3⟩,hk3⟩;obtain ⟨d2,f1,d1⟩:=fin _ hr3)
       | (go_at_call 79;refine (T _ hr1).mono ?_;rintro e w2 ⟨rfl,hr2,hk2⟩)
       | (go_at_call 78;refine O.mono ?_;rintro e w1 ⟨rfl,hr1,hk1⟩)
       | fail)
      go_ret
      rw [← HQ.out]
      exact ⟨⟨rfl,(hr3.begin _ _ rfl).drewN _⟩,((((hk.trans hk1).trans hk2).trans hk3).trans (Kp.own R 1 _)).drewN _⟩
     | cons c l' =>
      have E:=fun w (h : Rd w R s (s.length - (c :: l').length) (c :: l')) => ends_no c l' w h
      generalize hn : s.length - (c :: l').length = A at *
      go_wp2_with (first
       | (go_at_call 81;refine (E _ (hr3.begin _ _ rfl)).mono ?_;rintro e w4 ⟨rfl,m,rfl⟩)
       | (go_at_call 80;refine (M _ hr2).mono ?_;rintro e w3 ⟨⟨rfl,hr3⟩,hk3⟩;obtain ⟨d2,f1,d1⟩:=fin _ hr3)
       | (go_at_call 79;refine (T _ hr1).mono ?_;rintro e w2 ⟨rfl,hr2,hk2⟩)
       | (go_at_call 78;refine O.mono ?_;rintro e w1 ⟨rfl,hr1,hk1⟩)
       | fail)
      go_ret
      rw [← HQ.out]
      subst hn
      exact ⟨⟨rfl,(hr3.begin _ _ rfl).drewN _⟩,((((hk.trans hk1).trans hk2).trans hk3).trans (Kp.own R 1 _)).drewN _⟩
    | some x =>
     rw [hc] at HSP M
     cases x with
     | inl m =>
      have HQ : Hid (skipS m = skipS l):=HSP
      have HLT : Hid (m.length < l'.length):=comS_lt hc
      clear HSP hc
      go_wp2_with (first
       | (go_at_call 80;refine (M _ hr2).mono ?_;rintro e w3 ⟨⟨rfl,hr3⟩,hk3⟩)
       | (go_at_call 79;refine (T _ hr1).mono ?_;rintro e w2 ⟨rfl,hr2,hk2⟩)
       | (go_at_call 78;refine O.mono ?_;rintro e w1 ⟨rfl,hr1,hk1⟩)
       | fail)
      refine ⟨⟨_,hr3,HQ.out,((hk.trans hk1).trans hk2).trans hk3⟩,?_⟩
      rw [atOf_eq hr3,HA.out]
      have:=HLT.out
      simp only [Int.toNat_natCast]
      omega
     | inr k =>
      have HQ : Hid ((.inr (l'.length - k) : Bs ⊕ Nat) = skipS l):=HSP
      have HK : Hid (s.length - l'.length + k = s.length - (l'.length - k)):=by
       show _ = _
       rcases sourceS_cases (ahead l' (spanN endL (l'.drop 1))) with ⟨h1,_⟩ | ⟨q,hq,h1,_⟩
       ·unfold comS at hc
        by_cases hp : List.isPrefixOf [35] l' = true
        ·rw [if_pos hp,h1] at hc;simp at hc
        ·rw [if_neg hp] at hc;cases hc
       ·unfold comS at hc
        by_cases hp : List.isPrefixOf [35] l' = true
        ·rw [if_pos hp,h1] at hc
         simp at hc
         unfold ahead at hq
         rw [List.length_take] at hq
         omega
        ·rw [if_neg hp] at hc;cases hc
      clear HSP hc
      go_wp2_with (first
       | (go_at_call 80;refine (M _ hr2).mono ?_;rintro e w3 ⟨rfl,hk3⟩)
       | (go_at_call 79;refine (T _ hr1).mono ?_;rintro e w2 ⟨rfl,hr2,hk2⟩)
       | (go_at_call 78;refine O.mono ?_;rintro e w1 ⟨rfl,hr1,hk1⟩)
       | fail)
      refine ⟨rfl,?_⟩
      rw [← HQ.out]
      refine ⟨?_,((hk.trans hk1).trans hk2).trans hk3⟩
      show _ = Dies _ _
      rw [← HK.out]
      unfold Dies
      rw [Int.natCast_add]
end
end Go.Proofs.YtgppemlciohjcaaGreatDoor
namespace Go.Proofs
open Go Go.RowKit Go.Shelf
def Tryz.lays167_ren : Go.Shelf.Ren:=⟨fun | 167 => 135 | 240 => 146 | 276 => 154 | n => n,fun | 0 => 0 | 3 => 3 | 4 => 4 | 5 => 5 | 9 => 9 | 20 => 20 | 37 => 37 | 70 => 143 | 72 => 145 | 75 => 147 | 80 => 102 | 164 => 160 | n => n,fun | n => n⟩
theorem Tryz.lays167 : Go.Proofs.Lays.n167 Tryz.prog Tryz.lays167_ren:={
 mixed:=by kernel_rfl
 f167:=Tryz.func135.trans (congrArg some (by kernel_rfl))
 f240:=Tryz.func146.trans (congrArg some (by kernel_rfl))
 f276:=Tryz.func154.trans (congrArg some (by kernel_rfl))
 t0:=Tryz.underlying0
 a0:=Tryz.isAgg0
 z0:=Tryz.sizeOf0
 v0:=Tryz.zeroValue0
 t4:=Tryz.underlying4
 a4:=Tryz.isAgg4
 z4:=Tryz.sizeOf4
 v4:=Tryz.zeroValue4
 t5:=Tryz.underlying5
 a5:=Tryz.isAgg5
 z5:=Tryz.sizeOf5
 v5:=Tryz.zeroValue5
 t9:=Tryz.underlying9
 a9:=Tryz.isAgg9
 z9:=Tryz.sizeOf9
 v9:=Tryz.zeroValue9
 t20:=Tryz.underlying20
 a20:=Tryz.isAgg20
 z20:=Tryz.sizeOf20
 v20:=Tryz.zeroValue20
 t37:=Tryz.underlying37
 a37:=Tryz.isAgg37
 z37:=Tryz.sizeOf37
 v37:=Tryz.zeroValue37
 t70:=Tryz.underlying143
 a70:=Tryz.isAgg143
 z70:=Tryz.sizeOf143
 v70:=Tryz.zeroValue143
 t72:=Tryz.underlying145
 a72:=Tryz.isAgg145
 z72:=Tryz.sizeOf145
 v72:=Tryz.zeroValue145
 t75:=Tryz.underlying147
 a75:=Tryz.isAgg147
 z75:=Tryz.sizeOf147
 v75:=Tryz.zeroValue147
 t164:=Tryz.underlying160
 a164:=Tryz.isAgg160
 z164:=Tryz.sizeOf160
 v164:=Tryz.zeroValue160 }
theorem Tryz.Builder_Extra_167 : Builder.Extra Tryz.prog Tryz.lays167_ren:={
 sizeBuilder:=by kernel_rfl
 liesBuilder:=by kernel_rfl
 t5:=Tryz.underlying5
 a5:=Tryz.isAgg5
 z5:=Tryz.sizeOf5
 v5:=Tryz.zeroValue5
 infoByte:=by kernel_rfl
 cellsByte:=by kernel_rfl
 sizeByte:=by kernel_rfl
 neB5:=by decide }
theorem Tryz.Builder_WriteByte (B b : Nat) (bs : List Value) (c : Int) (w : World) (h : Lib.IsBuilder 145 5 B b bs w) (hlen : bs.length + 1 ≤ 140737488355328) (hBw : B ≤ w.heap.size) :
  Calls Tryz.prog 135 #[.pointer (some ⟨b,0,none⟩),.int .u8 c] w fun e w' => e = .returned .nilIface ∧ (Lib.BuilderAt 145 5 B b (.pointer (some ⟨b,0,none⟩)) (bs ++ [.int .u8 c]) w' ∧ Below B w w'):=Any.Builder_WriteByte Tryz.lays167 Tryz.Builder_Extra_167 B b bs c w h hlen hBw
theorem Tryz.Builder_WriteString (B b : Nat) (bs : List Value) (s : ByteArray) (w : World) (h : Lib.IsBuilder 145 5 B b bs w) (hlen : bs.length + s.size ≤ 140737488355328) (hBw : B ≤ w.heap.size) :
  Calls Tryz.prog 134 #[.pointer (some ⟨b,0,none⟩),.string s] w fun e w' => e = .returned (.tuple #[.int .i64 s.size,.nilIface]) ∧ (Lib.BuilderAt 145 5 B b (.pointer (some ⟨b,0,none⟩)) (bs ++ Lib.strCells s) w' ∧ Below B w w') :=
 Any.Builder_WriteString ({ Tryz.lays155 with } : Lays.n166 Tryz.prog Tryz.lays155_ren) Tryz.Builder_Extra_155 B b bs s w h hlen hBw
end Go.Proofs
namespace Go.Proofs.YtgppemlciohjcaaGreatDoor
open Go Go.RowKit
theorem isB_new (w : World) : Lib.IsBuilder 145 5 w.heap.size w.heap.size (Lib.byteCells []) (w.alloc (.cells #[.pointer none,.slice none 0 0] 145)) :=
 Or.inl ⟨Nat.le_refl _,_,heap_alloc_new _ _,World.ownsRow_nil _ _ _ _,by simp [Value.ownBlock]⟩
theorem strCells_eq (l : Bs) : Lib.strCells ⟨l.toArray⟩ = Lib.byteCells l:=rfl
theorem cells_app (l m : Bs) : Lib.byteCells (l ++ m) = Lib.byteCells l ++ Lib.byteCells m:=by simp [Lib.byteCells]
theorem cells_len (l : Bs) : (Lib.byteCells l).length = l.length:=by simp [Lib.byteCells]
theorem kp_isB {T e B b R : Nat} {bs : List Value} {w w' : World} (h : Lib.IsBuilder T e B b bs w) (hk : Kp (Own1 R) w w') (hR : R < B) : Lib.IsBuilder T e B b bs w':=by
 have one : ∀ p,Lib.BuilderAt T e B b p bs w → Lib.BuilderAt T e B b p bs w':=by
  rintro p ⟨hB,v,hb,hown,hne⟩
  refine ⟨hB,v,(hk.block b (lt_of_block hb) (fun e => by have e' : b = R:=e;omega)).trans hb,⟨hown.1,?_⟩,hne⟩
  rcases hown.2 with h2 | ⟨g,cap,cur,hv,hg,hh,r⟩
  ·exact Or.inl h2
  ·exact Or.inr ⟨g,cap,cur,hv,hg,(hk.block g (lt_of_block hh) (fun e => by have e' : g = R:=e;omega)).trans hh,r⟩
 rcases h with h | h
 ·exact Or.inl (one _ h)
 ·exact Or.inr (one _ h)
end Go.Proofs.YtgppemlciohjcaaGreatDoor
