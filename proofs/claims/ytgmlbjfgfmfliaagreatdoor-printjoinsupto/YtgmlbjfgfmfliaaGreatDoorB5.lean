/- A comment, read to its line's end. -/
import Derived.Test.YtgmlbjfgfmfliaaGreatDoorA09
namespace Go.Proofs.YtgmlbjfgfmfliaaGreatDoor
open Go Go.RowKit
section
variable {R : Nat} {s : Bs} {b : Nat}
set_option maxHeartbeats 4000000 in
theorem com_walk (l : Bs) (w : World) (h : Rd w R s b l) (hp : List.isPrefixOf [35] l = true) (x : Bs) (hx : x = ahead l (spanN endL (l.drop 1))) (A1 A2 : Int) (hS : sourceS ⟨x.toArray⟩ = (A1,A2))
  (P : Ending → World → Prop) (hok : A2 = 0 → ∀ w',Rd w' R s b (spanN endL (l.drop 1)) → Kp (Own1 R) w w' → P (.returned (.bool true)) w')
  (hno : A2 ≠ 0 → ∀ w',Kp (Own1 R) w w' → P (.panicked [{ v:=.iface 114 (.agg #[.int .i64 (((s.length - l.length : Nat) : Int) + A1),.int .i64 50]),recovered:=false }]) w') (hA : 0 ≤ A1) (hA' : A1 ≤ 16384) :
  Calls Tryz.prog 139 #[.pointer (some ⟨R,0,none⟩)] w P:=by
 have T:=take_yes [35] l hp w h
 have hle:=h.le
 have c2:=h.c2
 have hsm:=h.small
 have hrest : spanN endL (l.drop 1) <:+ l:=(spanN_suf _ _).trans (drop_suf _ _)
 have hcut:=cut_ahead h.suf hrest
 rw [← hx] at hcut
 have hxl : x.length ≤ 16384:=by rw [hx];unfold ahead;rw [List.length_take];omega
 have S:=fun w => source_any ⟨x.toArray⟩ w (by rw [size_of];omega)
 rw [hS] at S
 have HS : Hid (∀ w,Calls Tryz.prog 179 #[.string ⟨x.toArray⟩] w fun e w' => e = .returned (.tuple #[.int .i64 A1,.int .i64 A2]) ∧ Below w.heap.size w w'):=S
 have HC : Hid ((ByteArray.mk s.toArray).extract (s.length - l.length) (s.length - (spanN endL (l.drop 1)).length) = ⟨x.toArray⟩):=hcut
 have hsz:=size_of s
 have hB1 : ((s.length - l.length : Nat) : Int) ≤ ((s.length - (spanN endL (l.drop 1)).length : Nat) : Int):=by have:=hrest.length_le;omega
 have hB2 : ((s.length - (spanN endL (l.drop 1)).length : Nat) : Int) ≤ (s.length : Int):=by omega
 have hB3 : (0 : Int) ≤ ((s.length - l.length : Nat) : Int):=by omega
 have hB4 : ((s.length - l.length : Nat) : Int) ≤ 16384:=by omega
 have HN : Hid (A2 ≠ 0 → ∀ w',Kp (Own1 R) w w' → P (.panicked [{ v:=.iface 114 (.agg #[.int .i64 (((s.length - l.length : Nat) : Int) + A1),.int .i64 50]),recovered:=false }]) w'):=hno
 have HO : Hid (A2 = 0 → ∀ w',Rd w' R s b (spanN endL (l.drop 1)) → Kp (Own1 R) w w' → P (.returned (.bool true)) w'):=hok
 have HL : Hid (x = ahead l (spanN endL (l.drop 1))):=hx
 clear h S hS hcut hno hok hx hxl hrest
 go_enter Tryz.func139,Tryz.ntmps139
 go_wp2_with (go_at_call 138;refine T.mono ?_;rintro e w1 ⟨rfl,hr1,hk1⟩)
 go_loopw [20] (fun _ wr => ∃ l',Rd wr R s b l' ∧ spanN endL l' = spanN endL (l.drop 1) ∧ Kp (Own1 R) w wr) (fun _ wr => s.length - (atOf wr R).toNat)
 case atStart => exact ⟨_,hr1,rfl,hk1⟩
 case round =>
  obtain ⟨l',hr,hsp,hk⟩:=hrel
  have HSP : Hid (spanN endL l' = spanN endL (l.drop 1)):=hsp
  clear hsp T hr1 hk1
  have fin : ∀ (w3 : World),Rd w3 R s b (spanN endL (l.drop 1)) → w3.cell? ⟨R,0,none⟩ = some (.string ⟨s.toArray⟩) ∧ w3.cell? ⟨R,2,none⟩ = some (.int .i64 ((s.length - (spanN endL (l.drop 1)).length : Nat) : Int)):=fun w3 h3 => ⟨h3.c0,h3.c2⟩
  cases l' with
  | nil =>
   have E:=ends_yes wr hr
   have e : spanN endL (l.drop 1) = []:=HSP.out.symm
   rw [e] at HC HO hB1 hB2 fin
   obtain ⟨d0,d2⟩:=fin wr hr
   have hcut:=HC.out
   clear fin HC HSP HL
   generalize s.length - l.length = A at *
   generalize s.length - ([] : Bs).length = C at *
   generalize (ByteArray.mk s.toArray) = D at *
   generalize (ByteArray.mk x.toArray) = X at *
   by_cases hz : A2 = 0
   ·subst hz
    have HQ : Hid (∀ w',Rd w' R s b _ → Kp (Own1 R) w w' → P (.returned (.bool true)) w'):=HO.out rfl
    clear HO
    go_wp2_with (go_at_call 140;refine E.mono ?_;rintro e w1 ⟨rfl,m,rfl⟩)
    go_region_with (go_at_call 179;refine (HS.out _).mono ?_;rintro e w4 ⟨rfl,hb4⟩)
    all_goals
     go_wp2
     exact HQ.out _ ((hr.drewN (m + 1)).below hb4 hr.lt) ((hk.drewN (m + 1)).then_below (hb4.mono hk.size))
   ·have hz' : (A2 == 0) = false:=by rw [beq_eq_false_iff_ne];exact hz
    have HZ : Hid (A2 ≠ 0):=hz
    clear hz
    go_wp2_with (go_at_call 140;refine E.mono ?_;rintro e w1 ⟨rfl,m,rfl⟩)
    go_region_with (go_at_call 179;refine (HS.out _).mono ?_;rintro e w4 ⟨rfl,hb4⟩)
    all_goals
     go_wp2
     exact ⟨rfl,HN.out HZ.out _ ((hk.drewN (m + 1)).then_below (hb4.mono hk.size))⟩
  | cons c l' =>
   have E : Calls Tryz.prog 140 #[.pointer (some ⟨R,0,none⟩)] wr fun e w' => e = .returned (.bool false) ∧ Rd w' R s b (c :: l') ∧ Kp (Own1 R) wr w':=by
    refine (ends_no c l' wr hr).mono ?_
    rintro e w' ⟨rfl,m,rfl⟩
    exact ⟨rfl,hr.drewN m,Kp.n wr m⟩
   by_cases hc : endL.contains c = true
   ·have e : c :: l' = spanN endL (l.drop 1):=(spanN_stop endL c l' hc).symm.trans HSP.out
    have E2:=sees_is (R:=R) (s:=s) (b:=b) endL (c :: l') true hc
    rw [e] at E E2 hr
    have hcut:=HC.out
    clear HC HSP HL hc e
    generalize spanN endL (l.drop 1) = r at *
    generalize s.length - l.length = A at *
    generalize s.length - r.length = C at *
    generalize (ByteArray.mk s.toArray) = D at *
    generalize (ByteArray.mk x.toArray) = X at *
    by_cases hz : A2 = 0
    ·subst hz
     have HQ : Hid (∀ w',Rd w' R s b _ → Kp (Own1 R) w w' → P (.returned (.bool true)) w'):=HO.out rfl
     clear HO
     go_wp2_with (first
      | (go_at_call 143;refine (E2 _ hr1).mono ?_;rintro e w2 ⟨rfl,hr2,hk2⟩;obtain ⟨d0,d2⟩:=fin _ hr2)
      | (go_at_call 140;refine E.mono ?_;rintro e w1 ⟨rfl,hr1,hk1⟩)
      | fail)
     go_region_with (go_at_call 179;refine (HS.out _).mono ?_;rintro e w4 ⟨rfl,hb4⟩)
     all_goals
      go_wp2
      exact HQ.out _ ((hr2.drewN 1).below hb4 hr2.lt) (((hk.trans hk1).trans hk2).drew.then_below (hb4.mono ((hk.trans hk1).trans hk2).size))
    ·have hz' : (A2 == 0) = false:=by rw [beq_eq_false_iff_ne];exact hz
     have HZ : Hid (A2 ≠ 0):=hz
     clear hz
     go_wp2_with (first
      | (go_at_call 143;refine (E2 _ hr1).mono ?_;rintro e w2 ⟨rfl,hr2,hk2⟩;obtain ⟨d0,d2⟩:=fin _ hr2)
      | (go_at_call 140;refine E.mono ?_;rintro e w1 ⟨rfl,hr1,hk1⟩)
      | fail)
     go_region_with (go_at_call 179;refine (HS.out _).mono ?_;rintro e w4 ⟨rfl,hb4⟩)
     all_goals
      go_wp2
      exact ⟨rfl,HN.out HZ.out _ (((hk.trans hk1).trans hk2).drew.then_below (hb4.mono ((hk.trans hk1).trans hk2).size))⟩
   ·have hc' : endL.contains c = false:=Bool.eq_false_iff.2 hc
    have E2:=sees_is (R:=R) (s:=s) (b:=b) endL (c :: l') false hc'
    have Y:=fun w h => byte_any (R:=R) (s:=s) (b:=b) c l' w h
    have ha:=atOf_eq hr
    have hle':=hr.le
    have HE : Hid (spanN endL l' = spanN endL (l.drop 1)):=(spanN_head endL c l' hc').symm.trans HSP.out
    clear hc hc' HC fin HSP HL
    go_wp2_with (first
     | (go_at_call 178;refine (Y _ hr2).mono ?_;rintro e w3 ⟨rfl,hr3,hk3⟩)
     | (go_at_call 143;refine (E2 _ hr1).mono ?_;rintro e w2 ⟨rfl,hr2,hk2⟩)
     | (go_at_call 140;refine E.mono ?_;rintro e w1 ⟨rfl,hr1,hk1⟩)
     | fail)
    refine ⟨⟨_,hr3,HE.out,((hk.trans hk1).trans hk2).trans hk3⟩,?_⟩
    rw [atOf_eq hr3,ha]
    simp only [Int.toNat_natCast,List.length_cons] at hle' ⊢
    omega
end
end Go.Proofs.YtgmlbjfgfmfliaaGreatDoor
