/- Lines, indents. -/
import Derived.Test.YtgmlbjfgfmfliaaGreatDoorB6
import Derived.Lib.Replace
import Derived.Lib.SplitLaws
import Derived.Lib.Join
import Derived.Shelf.Strings.SlTrimAscii
namespace Go.Proofs.YtgmlbjfgfmfliaaGreatDoor
open Go Go.RowKit
theorem encode_le (c : Int) : (Utf8.encode c).data.toList.length ≤ 4:=by
 unfold Utf8.encode
 simp only []
 repeat' split
 all_goals simp
theorem unitS_le (V : Nat) : (unitS V).length ≤ 4:=by
 by_cases hh : 55296 ≤ V ∧ V ≤ 57343
 ·rw [show unitS V = halfS V from if_pos hh];simp [halfS]
 ·rw [unitS_else V hh];exact encode_le _
theorem nmbS_facts {l t r : Bs} (h : nmbS l = some (t,r)) : t.length ≤ 4 ∧ r.length < l.length ∧ r <:+ l:=by
 match l,h with
 | [],h => cases h
 | [_],h => cases h
 | [_,_],h => cases h
 | [_,_,_],h => cases h
 | x0 :: x1 :: x2 :: x3 :: q,h =>
  rw [nmbS_eq] at h
  cases hx : hexF [x0,x1,x2,x3] 0 with
  | none => rw [hx] at h;cases h
  | some V =>
   rw [hx,Option.map_some] at h
   injection h with h
   injection h with h1 h2
   subst h1 h2
   exact ⟨unitS_le V,by simp only [List.length_cons];omega,⟨[x0,x1,x2,x3],rfl⟩⟩
theorem escS_facts {l t r : Bs} (h : escS l = some (t,r)) : t.length ≤ 4 ∧ r.length < l.length ∧ r <:+ l:=by
 unfold escS at h
 by_cases hp : List.isPrefixOf [117] l = true
 ·rw [if_pos hp] at h
  obtain ⟨h1,h2,h3⟩:=nmbS_facts h
  rw [List.length_drop] at h2
  exact ⟨h1,by omega,h3.trans (drop_suf 1 l)⟩
 ·rw [if_neg hp] at h
  cases l with
  | nil => cases h
  | cons c l =>
   simp only at h
   by_cases hc : escL.contains c = true
   ·rw [if_pos hc] at h
    injection h with h
    injection h with h1 h2
    subst h1 h2
    exact ⟨by simp,by simp,tail_suf c l⟩
   ·rw [if_neg hc] at h;cases h
/-- A string behind its first quote. -/
def lineS (l : Bs) : Option (Bs × Bs):=lineF (l.length + 1) l
theorem lineF_fuel : ∀ (n m : Nat) (l : Bs),l.length < n → l.length < m → lineF n l = lineF m l
 | 0,_,_,h,_ => absurd h (Nat.not_lt_zero _)
 | _ + 1,0,_,_,h => absurd h (Nat.not_lt_zero _)
 | n + 1,m + 1,l,hn,hm => by
  unfold lineF
  by_cases h1 : List.isPrefixOf [34] l = true
  ·rw [if_pos h1,if_pos h1]
  ·rw [if_neg h1,if_neg h1]
   by_cases h2 : List.isPrefixOf [92] l = true
   ·rw [if_pos h2,if_pos h2]
    cases he : escS (l.drop 1) with
    | none => rfl
    | some p =>
     have:=(escS_facts (show escS (l.drop 1) = some (p.1,p.2) from he)).2.1
     rw [List.length_drop] at this
     simp only [Option.bind_some]
     rw [lineF_fuel n m p.2 (by omega) (by omega)]
   ·rw [if_neg h2,if_neg h2]
    cases l with
    | nil => rfl
    | cons c r =>
     simp only [List.length_cons] at hn hm
     simp only
     rw [lineF_fuel n m r (by omega) (by omega)]
theorem lineS_esc {l : Bs} (h1 : List.isPrefixOf [34] l = false) (h2 : List.isPrefixOf [92] l = true) : lineS l = (escS (l.drop 1)).bind fun p => (lineS p.2).map fun q => (p.1 ++ q.1,q.2):=by
 show lineF (l.length + 1) l = _
 unfold lineF
 rw [if_neg (by rw [h1];simp),if_pos h2]
 cases he : escS (l.drop 1) with
 | none => rfl
 | some p =>
  have:=(escS_facts (show escS (l.drop 1) = some (p.1,p.2) from he)).2.1
  rw [List.length_drop] at this
  simp only [Option.bind_some]
  rw [lineF_fuel l.length (p.2.length + 1) p.2 (by omega) (by omega)]
  rfl
theorem lineS_stop {l : Bs} (h1 : List.isPrefixOf [34] l = true) : lineS l = some ([],l.drop 1):=by
 show lineF (l.length + 1) l = _
 unfold lineF
 rw [if_pos h1]
theorem lineS_nil : lineS [] = none:=rfl
theorem lineS_end {c : UInt8} {r : Bs} (h1 : List.isPrefixOf [34] (c :: r) = false) (h2 : List.isPrefixOf [92] (c :: r) = false) (h3 : endL.contains c = true) : lineS (c :: r) = none:=by
 show lineF ((c :: r).length + 1) (c :: r) = _
 unfold lineF
 rw [if_neg (by rw [h1];simp),if_neg (by rw [h2];simp)]
 show (if endL.contains c then _ else _) = _
 rw [if_pos h3]
theorem lineS_chr {c : UInt8} {r : Bs} (h1 : List.isPrefixOf [34] (c :: r) = false) (h2 : List.isPrefixOf [92] (c :: r) = false) (h3 : endL.contains c = false) : lineS (c :: r) = (lineS r).map fun q => (c :: q.1,q.2):=by
 show lineF ((c :: r).length + 1) (c :: r) = _
 unfold lineF
 rw [if_neg (by rw [h1];simp),if_neg (by rw [h2];simp)]
 show (if endL.contains c then _ else _) = _
 rw [if_neg (by rw [h3];simp)]
 rfl
section
variable {R : Nat} {s : Bs} {b : Nat}
theorem said_at (c : UInt8) (h : escL.contains c = true) : ∃ i : Nat,i < 8 ∧ Lib.indexByte escL c = (i : Int) ∧ (ByteArray.mk #[34,92,47,8,12,10,13,9]).extract i (i + 1) = ⟨#[saidL.getD (escL.idxOf c) 0]⟩:=by
 have h' : c = 34 ∨ c = 92 ∨ c = 47 ∨ c = 98 ∨ c = 102 ∨ c = 110 ∨ c = 114 ∨ c = 116:=by
  simpa [escL] using h
 rcases h' with rfl | rfl | rfl | rfl | rfl | rfl | rfl | rfl
 ·exact ⟨0,by decide,by decide,by decide⟩
 ·exact ⟨1,by decide,by decide,by decide⟩
 ·exact ⟨2,by decide,by decide,by decide⟩
 ·exact ⟨3,by decide,by decide,by decide⟩
 ·exact ⟨4,by decide,by decide,by decide⟩
 ·exact ⟨5,by decide,by decide,by decide⟩
 ·exact ⟨6,by decide,by decide,by decide⟩
 ·exact ⟨7,by decide,by decide,by decide⟩
set_option maxHeartbeats 1000000 in
theorem esc_any (l : Bs) (w : World) (h : Rd w R s b l) : Calls Tryz.prog 209 #[.pointer (some ⟨R,0,none⟩)] w (StrP R s b w (escS l)):=by
 by_cases hp : List.isPrefixOf [117] l = true
 ·have T:=take_yes (R:=R) (s:=s) (b:=b) [117] l hp w h
  rw [show escS l = nmbS (l.drop 1) by unfold escS;rw [if_pos hp]]
  have N:=fun w h => nmb_any (R:=R) (s:=s) (b:=b) (l.drop 1) w h
  cases hn : nmbS (l.drop 1) with
  | none =>
   rw [hn] at N
   clear hn hp
   go_enter Tryz.func209,Tryz.ntmps209
   go_wp2_with (first
    | (go_at_call 221;refine (N _ hr1).mono ?_;rintro e w2 ⟨rfl,hk2⟩)
    | (go_at_call 138;refine T.mono ?_;rintro e w1 ⟨rfl,hr1,hk1⟩)
    | fail)
   exact ⟨rfl,rfl,hk1.trans hk2⟩
  | some p =>
   rw [hn] at N
   clear hn hp
   go_enter Tryz.func209,Tryz.ntmps209
   go_wp2_with (first
    | (go_at_call 221;refine (N _ hr1).mono ?_;rintro e w2 ⟨⟨rfl,hr2⟩,hk2⟩)
    | (go_at_call 138;refine T.mono ?_;rintro e w1 ⟨rfl,hr1,hk1⟩)
    | fail)
   go_ret
   exact ⟨⟨rfl,hr2⟩,hk1.trans hk2⟩
 ·have hp' : List.isPrefixOf [117] l = false:=Bool.eq_false_iff.2 hp
  have T:=take_no (R:=R) (s:=s) (b:=b) [117] l hp' w h
  by_cases hs : headIn escL l = true
  ·cases l with
   | nil => cases hs
   | cons c l =>
    have hc : escL.contains c = true:=hs
    obtain ⟨i,hi,hix,hex⟩:=said_at c hc
    rw [show escS (c :: l) = some ([saidL.getD (escL.idxOf c) 0],l) by unfold escS;rw [if_neg hp];simp only;rw [if_pos hc]]
    have E:=sees_is (R:=R) (s:=s) (b:=b) escL (c :: l) true hs
    have Y:=fun w h => byte_any (R:=R) (s:=s) (b:=b) c l w h
    have I:=fun w => Tryz.strings_IndexByte ⟨escL.toArray⟩ (c.toNat : Int) w
    have e8 : ((c.toNat : Int)).toNat.toUInt8 = c:=by simp
    rw [e8] at I
    have I' : ∀ w,Calls Tryz.prog 180 #[.string ⟨escL.toArray⟩,.int .u8 (c.toNat : Int)] w fun e w' => e = .returned (.int .i64 (i : Int)) ∧ w' = w:=by
     intro w
     rw [← hix]
     exact I w
    have i0 : (0 : Int) ≤ (i : Int):=by omega
    have i1 : (i : Int) < 8:=by omega
    have i2 : ((i : Int) + 1).toNat = i + 1:=by omega
    clear hix I e8 hi hp hp' hs hc
    generalize saidL.getD (escL.idxOf c) 0 = x at *
    go_enter Tryz.func209,Tryz.ntmps209
    go_wp2_with (first
     | (go_at_call 180;refine (I' _).mono ?_;rintro e w4 ⟨rfl,rfl⟩)
     | (go_at_call 178;refine (Y _ hr2).mono ?_;rintro e w3 ⟨rfl,hr3,hk3⟩)
     | (go_at_call 143;refine (E _ hr1).mono ?_;rintro e w2 ⟨rfl,hr2,hk2⟩)
     | (go_at_call 138;refine T.mono ?_;rintro e w1 ⟨rfl,hr1,hk1⟩)
     | fail)
    go_ret
    exact ⟨⟨rfl,hr3⟩,(hk1.trans hk2).trans hk3⟩
  ·have hs' : headIn escL l = false:=Bool.eq_false_iff.2 hs
   have E:=sees_is (R:=R) (s:=s) (b:=b) escL l false hs'
   rw [show escS l = none by
    unfold escS
    rw [if_neg hp]
    cases l with
    | nil => rfl
    | cons c l => simp only;rw [if_neg (show ¬ escL.contains c = true from hs)]]
   clear hp hp' hs hs'
   go_enter Tryz.func209,Tryz.ntmps209
   go_wp2_with (first
    | (go_at_call 100;refine (fail_any _ _ _ hr2).mono ?_;rintro e w3 ⟨rfl,rfl⟩)
    | (go_at_call 143;refine (E _ hr1).mono ?_;rintro e w2 ⟨rfl,hr2,hk2⟩)
    | (go_at_call 138;refine T.mono ?_;rintro e w1 ⟨rfl,hr1,hk1⟩)
    | fail)
   exact ⟨rfl,rfl,hk1.trans hk2⟩
end
end Go.Proofs.YtgmlbjfgfmfliaaGreatDoor
namespace Go.Proofs.YtgmlbjfgfmfliaaGreatDoor
open Go Go.RowKit
section
variable {R : Nat} {s : Bs} {b : Nat}
theorem ends_is (l : Bs) (w : World) (h : Rd w R s b l) : Calls Tryz.prog 140 #[.pointer (some ⟨R,0,none⟩)] w fun e w' => e = .returned (.bool l.isEmpty) ∧ Rd w' R s b l ∧ Kp (Own1 R) w w':=by
 cases l with
 | nil =>
  refine (ends_yes w h).mono ?_
  rintro e w' ⟨rfl,m,rfl⟩
  exact ⟨rfl,h.drewN m,Kp.n w m⟩
 | cons c l =>
  refine (ends_no c l w h).mono ?_
  rintro e w' ⟨rfl,m,rfl⟩
  exact ⟨rfl,h.drewN m,Kp.n w m⟩
abbrev isBl (B : Nat) (acc : Bs) (w : World) : Prop:=Lib.IsBuilder 127 5 B B (Lib.byteCells acc) w
theorem ws_any (B : Nat) (acc c : Bs) (w : World) (h : isBl B acc w) (hl : acc.length + c.length ≤ 1048576) (hB : B ≤ w.heap.size) :
  Calls Tryz.prog 78 #[.pointer (some ⟨B,0,none⟩),.string ⟨c.toArray⟩] w fun e w' => (∃ v,e = .returned v) ∧ isBl B (acc ++ c) w' ∧ Below B w w':=by
 refine (Tryz.Builder_WriteString B B (Lib.byteCells acc) ⟨c.toArray⟩ w h (by rw [size_of,cells_len];omega) hB).mono ?_
 rintro e w' ⟨rfl,h1,h2⟩
 exact ⟨⟨_,rfl⟩,Or.inr (by rw [cells_app];exact h1),h2⟩
theorem wb_any (B : Nat) (acc : Bs) (c : UInt8) (w : World) (h : isBl B acc w) (hl : acc.length + 1 ≤ 1048576) (hB : B ≤ w.heap.size) :
  Calls Tryz.prog 175 #[.pointer (some ⟨B,0,none⟩),.int .u8 (c.toNat : Int)] w fun e w' => (∃ v,e = .returned v) ∧ isBl B (acc ++ [c]) w' ∧ Below B w w':=by
 refine (Tryz.Builder_WriteByte B B (Lib.byteCells acc) (c.toNat : Int) w h (by rw [cells_len];omega) hB).mono ?_
 rintro e w' ⟨rfl,h1,h2⟩
 exact ⟨⟨_,rfl⟩,Or.inr (by rw [cells_app];exact h1),h2⟩
/-- The state of a loop that reads on and writes to a Builder. -/
structure LoopS (R : Nat) (s : Bs) (b : Nat) (w : World) (f : Bs → Option (Bs × Bs)) (l1 : Bs) (wr : World) (l' acc : Bs) : Prop where
 rd : Rd wr R s b l'
 eq : (f l').map (fun q => (acc ++ q.1,q.2)) = f l1
 len : acc.length + 4 * l'.length ≤ 65536
 bl : isBl w.heap.size acc wr
 kp : Kp (Own1 R) w wr
theorem LoopS.next {w wr w' : World} {f : Bs → Option (Bs × Bs)} {l1 l' acc m c : Bs} (h : LoopS R s b w f l1 wr l' acc) (hf : f l' = (f m).map fun q => (c ++ q.1,q.2)) (hm : m.length < l'.length) (hc : c.length ≤ 4)
  (hr : Rd w' R s b m) (hb : isBl w.heap.size (acc ++ c) w') (hk : Kp (Own1 R) w w') : LoopS R s b w f l1 w' m (acc ++ c):=by
 refine ⟨hr,?_,?_,hb,hk⟩
 ·rw [← h.eq,hf]
  cases f m with
  | none => rfl
  | some q => simp [List.append_assoc]
 ·have:=h.len
  rw [List.length_append];omega
set_option maxHeartbeats 4000000 in
theorem line_any (l : Bs) (w : World) (h : Rd w R s b l) (hq : List.isPrefixOf [34] l = true) : Calls Tryz.prog 184 #[.pointer (some ⟨R,0,none⟩)] w (StrP R s b w (lineS (l.drop 1))):=by
 have hR:=h.lt
 have T:=take_yes (R:=R) (s:=s) (b:=b) [34] l hq _ (h.alloc (.cells #[.pointer none,.slice none 0 0] 127))
 have hB:=isB_new w
 have hle:=h.le
 have hsm:=h.small
 have hk0 : Kp (Own1 R) w (w.alloc (.cells #[.pointer none,.slice none 0 0] 127)):=(Kp.refl _ w).alloc _
 clear h
 go_enter Tryz.func184,Tryz.ntmps184
 go_wp2_with (go_at_call 138;refine T.mono ?_;rintro e w1 ⟨rfl,hr1,hk1⟩)
 go_loopw [26] (fun _ wr => ∃ l' acc,LoopS R s b w lineS (l.drop 1) wr l' acc) (fun _ wr => s.length - (atOf wr R).toNat)
 case atStart =>
  refine ⟨_,[],hr1,?_,?_,kp_isB hB hk1 hR,hk0.trans hk1⟩
  ·show (lineS (l.drop 1)).map _ = _
   cases lineS (l.drop 1) <;> rfl
  ·show 0 + 4 * (l.drop 1).length ≤ 65536
   rw [List.length_drop];omega
 case round =>
  clear T hr1 hk1 hB hk0 hq hle
  obtain ⟨l',acc,hL⟩:=hrel
  have hr:=hL.rd
  have hk:=hL.kp
  have hz:=hk.size
  have hle':=hr.le
  have hlen:=hL.len
  have HA : Hid (atOf wr R = ((s.length - l'.length : Nat) : Int)):=atOf_eq hr
  by_cases h1 : List.isPrefixOf [34] l' = true
  ·have T:=take_yes (R:=R) (s:=s) (b:=b) [34] l' h1 wr hr
   have S:=fun w2 (hb : isBl w.heap.size acc w2) (hz : w.heap.size ≤ w2.heap.size) => Tryz.Builder_String_any w.heap.size w.heap.size acc w2 hb hz
   have HE : Hid (some (acc,l'.drop 1) = lineS (l.drop 1)):=by
    show _ = _
    rw [← hL.eq,lineS_stop h1]
    simp
   have bl:=hL.bl
   clear h1 hL
   go_wp2_with (first
    | (go_at_call 79;refine (S _ hb1 (by omega)).mono ?_;rintro e w2 ⟨rfl,hb2⟩)
    | (go_at_call 138;refine T.mono ?_;rintro e w1 ⟨rfl,hr1,hk1⟩;have hb1:=kp_isB bl hk1 hR;have hz1:=hk1.size)
    | fail)
   go_ret
   rw [← HE.out]
   exact ⟨⟨rfl,hr1.below hb2 hR⟩,(hk.trans hk1).then_below hb2⟩
  ·have h1' : List.isPrefixOf [34] l' = false:=Bool.eq_false_iff.2 h1
   have T:=take_no (R:=R) (s:=s) (b:=b) [34] l' h1' wr hr
   by_cases h2 : List.isPrefixOf [92] l' = true
   ·have T2:=take_yes (R:=R) (s:=s) (b:=b) [92] l' h2
    have E:=fun w h => esc_any (R:=R) (s:=s) (b:=b) (l'.drop 1) w h
    cases he : escS (l'.drop 1) with
    | none =>
     rw [he] at E
     have HE : Hid (none = lineS (l.drop 1)):=by
      show _ = _
      rw [← hL.eq,lineS_esc h1' h2,he];rfl
     clear he h1 h1' h2 hL
     go_wp2_with (first
      | (go_at_call 209;refine (E _ hr2).mono ?_;rintro e w3 ⟨rfl,hk3⟩)
      | (go_at_call 138;refine (T2 _ hr1).mono ?_;rintro e w2 ⟨rfl,hr2,hk2⟩)
      | (go_at_call 138;refine T.mono ?_;rintro e w1 ⟨rfl,hr1,hk1⟩)
      | fail)
     refine ⟨rfl,?_⟩
     rw [← HE.out]
     exact ⟨rfl,((hk.trans hk1).trans hk2).trans hk3⟩
    | some p =>
     rw [he] at E
     obtain ⟨hp1,hp2,_⟩:=escS_facts (show escS (l'.drop 1) = some (p.1,p.2) from he)
     rw [List.length_drop] at hp2
     have hW:=fun w2 (hb : isBl w.heap.size acc w2) (hz : w.heap.size ≤ w2.heap.size) => ws_any w.heap.size acc p.1 w2 hb (by omega) hz
     have HN : Hid (lineS l' = (lineS p.2).map fun q => (p.1 ++ q.1,q.2)):=by
      show _ = _
      rw [lineS_esc h1' h2,he];rfl
     have HL : Hid (LoopS R s b w lineS (l.drop 1) wr l' acc):=hL
     have bl:=hL.bl
     clear he h1 h1' h2 hL
     go_wp2_with (first
      | (go_at_call 78;refine (hW _ hb3 (by omega)).mono ?_;rintro e w4 ⟨⟨v4,rfl⟩,bl4,hb4⟩)
      | (go_at_call 209;refine (E _ hr2).mono ?_;rintro e w3 ⟨⟨rfl,hr3⟩,hk3⟩;have hb3:=kp_isB (kp_isB (kp_isB bl hk1 hR) hk2 hR) hk3 hR;have hz3:=((hk1.trans hk2).trans hk3).size)
      | (go_at_call 138;refine (T2 _ hr1).mono ?_;rintro e w2 ⟨rfl,hr2,hk2⟩)
      | (go_at_call 138;refine T.mono ?_;rintro e w1 ⟨rfl,hr1,hk1⟩)
      | fail)
     have hr4:=hr3.below hb4 hR
     refine ⟨⟨_,_,HL.out.next HN.out (by omega) hp1 hr4 bl4 ((((hk.trans hk1).trans hk2).trans hk3).then_below hb4)⟩,?_⟩
     rw [atOf_eq hr4,HA.out]
     simp only [Int.toNat_natCast]
     omega
   ·have h2' : List.isPrefixOf [92] l' = false:=Bool.eq_false_iff.2 h2
    have T2:=take_no (R:=R) (s:=s) (b:=b) [92] l' h2'
    have E:=fun w h => ends_is (R:=R) (s:=s) (b:=b) l' w h
    cases l' with
    | nil =>
     have HE : Hid (none = lineS (l.drop 1)):=by
      show _ = _
      rw [← hL.eq];rfl
     clear h1 h1' h2 h2' hL
     go_wp2_with (first
      | (go_at_call 100;refine (fail_any _ _ _ hr3).mono ?_;rintro e w4 ⟨rfl,rfl⟩)
      | (go_at_call 140;refine (E _ hr2).mono ?_;rintro e w3 ⟨rfl,hr3,hk3⟩)
      | (go_at_call 138;refine (T2 _ hr1).mono ?_;rintro e w2 ⟨rfl,hr2,hk2⟩)
      | (go_at_call 138;refine T.mono ?_;rintro e w1 ⟨rfl,hr1,hk1⟩)
      | fail)
     refine ⟨rfl,?_⟩
     rw [← HE.out]
     exact ⟨rfl,((hk.trans hk1).trans hk2).trans hk3⟩
    | cons c l' =>
     by_cases h3 : endL.contains c = true
     ·have S:=sees_is (R:=R) (s:=s) (b:=b) endL (c :: l') true h3
      have HE : Hid (none = lineS (l.drop 1)):=by
       show _ = _
       rw [← hL.eq,lineS_end h1' h2' h3];rfl
      clear h1 h1' h2 h2' h3 hL
      go_wp2_with (first
       | (go_at_call 100;refine (fail_any _ _ _ hr4).mono ?_;rintro e w5 ⟨rfl,rfl⟩)
       | (go_at_call 143;refine (S _ hr3).mono ?_;rintro e w4 ⟨rfl,hr4,hk4⟩)
       | (go_at_call 140;refine (E _ hr2).mono ?_;rintro e w3 ⟨rfl,hr3,hk3⟩)
       | (go_at_call 138;refine (T2 _ hr1).mono ?_;rintro e w2 ⟨rfl,hr2,hk2⟩)
       | (go_at_call 138;refine T.mono ?_;rintro e w1 ⟨rfl,hr1,hk1⟩)
       | fail)
      refine ⟨rfl,?_⟩
      rw [← HE.out]
      exact ⟨rfl,(((hk.trans hk1).trans hk2).trans hk3).trans hk4⟩
     ·have h3' : endL.contains c = false:=Bool.eq_false_iff.2 h3
      have S:=sees_is (R:=R) (s:=s) (b:=b) endL (c :: l') false h3'
      have Y:=fun w h => byte_any (R:=R) (s:=s) (b:=b) c l' w h
      have hW:=fun w2 (hb : isBl w.heap.size acc w2) (hz : w.heap.size ≤ w2.heap.size) => wb_any w.heap.size acc c w2 hb (by omega) hz
      have HN : Hid (lineS (c :: l') = (lineS l').map fun q => ([c] ++ q.1,q.2)):=lineS_chr h1' h2' h3'
      have HL : Hid (LoopS R s b w lineS (l.drop 1) wr (c :: l') acc):=hL
      have bl:=hL.bl
      clear h1 h1' h2 h2' h3 h3' hL
      go_wp2_with (first
       | (go_at_call 175;refine (hW _ hb5 (by omega)).mono ?_;rintro e w6 ⟨⟨v6,rfl⟩,bl6,hb6⟩)
       | (go_at_call 178;refine (Y _ hr4).mono ?_;rintro e w5 ⟨rfl,hr5,hk5⟩;have hb5:=kp_isB bl ((((hk1.trans hk2).trans hk3).trans hk4).trans hk5) hR;have hz5:=((((hk1.trans hk2).trans hk3).trans hk4).trans hk5).size)
       | (go_at_call 143;refine (S _ hr3).mono ?_;rintro e w4 ⟨rfl,hr4,hk4⟩)
       | (go_at_call 140;refine (E _ hr2).mono ?_;rintro e w3 ⟨rfl,hr3,hk3⟩)
       | (go_at_call 138;refine (T2 _ hr1).mono ?_;rintro e w2 ⟨rfl,hr2,hk2⟩)
       | (go_at_call 138;refine T.mono ?_;rintro e w1 ⟨rfl,hr1,hk1⟩)
       | fail)
      have hr6:=hr5.below hb6 hR
      refine ⟨⟨_,_,HL.out.next HN.out (by simp) (by simp) hr6 bl6 ((((((hk.trans hk1).trans hk2).trans hk3).trans hk4).trans hk5).then_below hb6)⟩,?_⟩
      rw [atOf_eq hr6,HA.out]
      simp only [Int.toNat_natCast,List.length_cons] at hle' ⊢
      omega
end
end Go.Proofs.YtgmlbjfgfmfliaaGreatDoor
namespace Go.Proofs.YtgmlbjfgfmfliaaGreatDoor
open Go Go.RowKit
/-- A block string behind its first quotes. -/
def rawS (l : Bs) : Option (Bs × Bs):=rawF (l.length + 1) l
theorem rawF_fuel : ∀ (n m : Nat) (l : Bs),l.length < n → l.length < m → rawF n l = rawF m l
 | 0,_,_,h,_ => absurd h (Nat.not_lt_zero _)
 | _ + 1,0,_,_,h => absurd h (Nat.not_lt_zero _)
 | n + 1,m + 1,l,hn,hm => by
  unfold rawF
  by_cases h1 : List.isPrefixOf [34,34,34] l = true
  ·rw [if_pos h1,if_pos h1]
  ·rw [if_neg h1,if_neg h1]
   by_cases h2 : List.isPrefixOf [92,34,34,34] l = true
   ·rw [if_pos h2,if_pos h2]
    have:=prefix_le h2
    simp only [List.length_cons,List.length_nil] at this
    rw [rawF_fuel n m (l.drop 4) (by rw [List.length_drop];omega) (by rw [List.length_drop];omega)]
   ·rw [if_neg h2,if_neg h2]
    cases l with
    | nil => rfl
    | cons c r =>
     simp only [List.length_cons] at hn hm
     simp only
     rw [rawF_fuel n m r (by omega) (by omega)]
theorem rawS_stop {l : Bs} (h1 : List.isPrefixOf [34,34,34] l = true) : rawS l = some ([],l.drop 3):=by
 show rawF (l.length + 1) l = _
 unfold rawF
 rw [if_pos h1]
theorem rawS_esc {l : Bs} (h1 : List.isPrefixOf [34,34,34] l = false) (h2 : List.isPrefixOf [92,34,34,34] l = true) : rawS l = (rawS (l.drop 4)).map fun q => ([34,34,34] ++ q.1,q.2):=by
 show rawF (l.length + 1) l = _
 unfold rawF
 rw [if_neg (by rw [h1];simp),if_pos h2]
 have:=prefix_le h2
 simp only [List.length_cons,List.length_nil] at this
 rw [rawF_fuel l.length ((l.drop 4).length + 1) (l.drop 4) (by rw [List.length_drop];omega) (by omega)]
 rfl
theorem rawS_chr {c : UInt8} {r : Bs} (h1 : List.isPrefixOf [34,34,34] (c :: r) = false) (h2 : List.isPrefixOf [92,34,34,34] (c :: r) = false) : rawS (c :: r) = (rawS r).map fun q => ([c] ++ q.1,q.2):=by
 show rawF ((c :: r).length + 1) (c :: r) = _
 unfold rawF
 rw [if_neg (by rw [h1];simp),if_neg (by rw [h2];simp)]
 rfl
section
variable {R : Nat} {s : Bs} {b : Nat}
set_option maxHeartbeats 4000000 in
theorem raw_any (l : Bs) (w : World) (h : Rd w R s b l) : Calls Tryz.prog 183 #[.pointer (some ⟨R,0,none⟩)] w (StrP R s b w (rawS l)):=by
 have hR:=h.lt
 have hr0:=h.alloc (.cells #[.pointer none,.slice none 0 0] 127)
 have hB:=isB_new w
 have hle:=h.le
 have hsm:=h.small
 have hk0 : Kp (Own1 R) w (w.alloc (.cells #[.pointer none,.slice none 0 0] 127)):=(Kp.refl _ w).alloc _
 clear h
 go_enter Tryz.func183,Tryz.ntmps183
 go_wp2
 go_loopw [18] (fun _ wr => ∃ l' acc,LoopS R s b w rawS l wr l' acc) (fun _ wr => s.length - (atOf wr R).toNat)
 case atStart =>
  refine ⟨_,[],hr0,?_,?_,hB,hk0⟩
  ·show (rawS l).map _ = _
   cases rawS l <;> rfl
  ·show 0 + 4 * l.length ≤ 65536
   omega
 case round =>
  clear hr0 hB hk0 hle
  obtain ⟨l',acc,hL⟩:=hrel
  have hr:=hL.rd
  have hk:=hL.kp
  have hz:=hk.size
  have hle':=hr.le
  have hlen:=hL.len
  have HA : Hid (atOf wr R = ((s.length - l'.length : Nat) : Int)):=atOf_eq hr
  by_cases h1 : List.isPrefixOf [34,34,34] l' = true
  ·have T:=take_yes (R:=R) (s:=s) (b:=b) [34,34,34] l' h1 wr hr
   have S:=fun w2 (hb : isBl w.heap.size acc w2) (hz : w.heap.size ≤ w2.heap.size) => Tryz.Builder_String_any w.heap.size w.heap.size acc w2 hb hz
   have HE : Hid (some (acc,l'.drop 3) = rawS l):=by
    show _ = _
    rw [← hL.eq,rawS_stop h1]
    simp
   have bl:=hL.bl
   clear h1 hL
   go_wp2_with (first
    | (go_at_call 79;refine (S _ hb1 (by omega)).mono ?_;rintro e w2 ⟨rfl,hb2⟩)
    | (go_at_call 138;refine T.mono ?_;rintro e w1 ⟨rfl,hr1,hk1⟩;have hb1:=kp_isB bl hk1 hR;have hz1:=hk1.size)
    | fail)
   go_ret
   rw [← HE.out]
   exact ⟨⟨rfl,hr1.below hb2 hR⟩,(hk.trans hk1).then_below hb2⟩
  ·have h1' : List.isPrefixOf [34,34,34] l' = false:=Bool.eq_false_iff.2 h1
   have T:=take_no (R:=R) (s:=s) (b:=b) [34,34,34] l' h1' wr hr
   by_cases h2 : List.isPrefixOf [92,34,34,34] l' = true
   ·have T2:=take_yes (R:=R) (s:=s) (b:=b) [92,34,34,34] l' h2
    have hp2:=prefix_le h2
    simp only [List.length_cons,List.length_nil] at hp2
    have hW:=fun w2 (hb : isBl w.heap.size acc w2) (hz : w.heap.size ≤ w2.heap.size) => ws_any w.heap.size acc [34,34,34] w2 hb (by simp only [List.length_cons,List.length_nil];omega) hz
    have HN : Hid (rawS l' = (rawS (l'.drop 4)).map fun q => ([34,34,34] ++ q.1,q.2)):=rawS_esc h1' h2
    have HL : Hid (LoopS R s b w rawS l wr l' acc):=hL
    have bl:=hL.bl
    clear h1 h1' h2 hL
    go_wp2_with (first
     | (go_at_call 78;refine (hW _ hb2 (by omega)).mono ?_;rintro e w4 ⟨⟨v4,rfl⟩,bl4,hb4⟩)
     | (go_at_call 138;refine (T2 _ hr1).mono ?_;rintro e w2 ⟨rfl,hr2,hk2⟩;have hb2:=kp_isB (kp_isB bl hk1 hR) hk2 hR;have hz2:=(hk1.trans hk2).size)
     | (go_at_call 138;refine T.mono ?_;rintro e w1 ⟨rfl,hr1,hk1⟩)
     | fail)
    have hr4 : Rd w4 R s b (l'.drop 4):=hr2.below hb4 hR
    refine ⟨⟨_,_,HL.out.next HN.out (by rw [List.length_drop];omega) (by decide) hr4 bl4 (((hk.trans hk1).trans hk2).then_below hb4)⟩,?_⟩
    rw [atOf_eq hr4,HA.out,List.length_drop]
    simp only [Int.toNat_natCast]
    omega
   ·have h2' : List.isPrefixOf [92,34,34,34] l' = false:=Bool.eq_false_iff.2 h2
    have T2:=take_no (R:=R) (s:=s) (b:=b) [92,34,34,34] l' h2'
    have E:=fun w h => ends_is (R:=R) (s:=s) (b:=b) l' w h
    cases l' with
    | nil =>
     have HE : Hid (none = rawS l):=by
      show _ = _
      rw [← hL.eq];rfl
     clear h1 h1' h2 h2' hL
     go_wp2_with (first
      | (go_at_call 100;refine (fail_any _ _ _ hr3).mono ?_;rintro e w4 ⟨rfl,rfl⟩)
      | (go_at_call 140;refine (E _ hr2).mono ?_;rintro e w3 ⟨rfl,hr3,hk3⟩)
      | (go_at_call 138;refine (T2 _ hr1).mono ?_;rintro e w2 ⟨rfl,hr2,hk2⟩)
      | (go_at_call 138;refine T.mono ?_;rintro e w1 ⟨rfl,hr1,hk1⟩)
      | fail)
     refine ⟨rfl,?_⟩
     rw [← HE.out]
     exact ⟨rfl,((hk.trans hk1).trans hk2).trans hk3⟩
    | cons c l' =>
     have Y:=fun w h => byte_any (R:=R) (s:=s) (b:=b) c l' w h
     have hW:=fun w2 (hb : isBl w.heap.size acc w2) (hz : w.heap.size ≤ w2.heap.size) => wb_any w.heap.size acc c w2 hb (by omega) hz
     have HN : Hid (rawS (c :: l') = (rawS l').map fun q => ([c] ++ q.1,q.2)):=rawS_chr h1' h2'
     have HL : Hid (LoopS R s b w rawS l wr (c :: l') acc):=hL
     have bl:=hL.bl
     clear h1 h1' h2 h2' hL
     go_wp2_with (first
      | (go_at_call 175;refine (hW _ hb5 (by omega)).mono ?_;rintro e w6 ⟨⟨v6,rfl⟩,bl6,hb6⟩)
      | (go_at_call 178;refine (Y _ hr3).mono ?_;rintro e w5 ⟨rfl,hr5,hk5⟩;have hb5:=kp_isB bl (((hk1.trans hk2).trans hk3).trans hk5) hR;have hz5:=(((hk1.trans hk2).trans hk3).trans hk5).size)
      | (go_at_call 140;refine (E _ hr2).mono ?_;rintro e w3 ⟨rfl,hr3,hk3⟩)
      | (go_at_call 138;refine (T2 _ hr1).mono ?_;rintro e w2 ⟨rfl,hr2,hk2⟩)
      | (go_at_call 138;refine T.mono ?_;rintro e w1 ⟨rfl,hr1,hk1⟩)
      | fail)
     have hr6:=hr5.below hb6 hR
     refine ⟨⟨_,_,HL.out.next HN.out (by simp) (by simp) hr6 bl6 (((((hk.trans hk1).trans hk2).trans hk3).trans hk5).then_below hb6)⟩,?_⟩
     rw [atOf_eq hr6,HA.out]
     simp only [Int.toNat_natCast,List.length_cons] at hle' ⊢
     omega
end
end Go.Proofs.YtgmlbjfgfmfliaaGreatDoor
namespace Go.Proofs.YtgmlbjfgfmfliaaGreatDoor
open Go Go.Lib
theorem index_cons_no {c : UInt8} {l old : Bs} (h : old.isPrefixOf (c :: l) = false) : index (c :: l) old = if index l old == -1 then -1 else index l old + 1:=by
 rw [index,if_neg (by rw [h];simp)]
theorem index_cons_yes {c : UInt8} {l old : Bs} (h : old.isPrefixOf (c :: l) = true) : index (c :: l) old = 0:=by
 rw [index,if_pos h]
theorem count_cons_no {c : UInt8} {l old : Bs} (ho : old ≠ []) (h : old.isPrefixOf (c :: l) = false) : count (c :: l) old = count l old:=by
 have hi:=index_cons_no h
 by_cases hm : index l old = -1
 ·rw [hm] at hi
  rw [count_miss hm,count_miss (by rw [hi];rfl)]
 ·have hge:=index_ge l old
  obtain ⟨i,hi2⟩ : ∃ i : Nat,index l old = i:=⟨(index l old).toNat,by omega⟩
  have hi3 : index (c :: l) old = ((i + 1 : Nat) : Int):=by
   rw [hi,if_neg (by simpa using hm),hi2];omega
  rw [count_hit ho hi2,count_hit ho hi3,show i + 1 + old.length = (i + old.length) + 1 by omega,List.drop_succ_cons]
theorem replaceK_no {c : UInt8} {l old new : Bs} (h : old.isPrefixOf (c :: l) = false) : ∀ k,replaceK old new k (c :: l) = c :: replaceK old new k l
 | 0 => rfl
 | k + 1 => by
  have hi:=index_cons_no h
  by_cases hm : index l old = -1
  ·rw [hm] at hi
   have hi' : index (c :: l) old = -1:=by rw [hi];rfl
   rw [replaceK,if_pos (by rw [hi'];rfl),replaceK,if_pos (by rw [hm];rfl)]
  ·have hge:=index_ge l old
   obtain ⟨i,hi2⟩ : ∃ i : Nat,index l old = i:=⟨(index l old).toNat,by omega⟩
   have hi3 : index (c :: l) old = ((i + 1 : Nat) : Int):=by
    rw [hi,if_neg (by simpa using hm),hi2];omega
   rw [replaceK_hit old new k l i hi2,replaceK_hit old new k (c :: l) (i + 1) hi3,show i + 1 + old.length = (i + old.length) + 1 by omega,List.drop_succ_cons,List.take_succ_cons]
   rfl
/-- All instances replaced, from the left. -/
def rep (old new s : Bs) : Bs:=replaceK old new (count s old) s
theorem rep_nil {old new : Bs} (ho : old ≠ []) : rep old new [] = []:=by
 unfold rep
 have : index ([] : Bs) old = -1:=by
  rw [index,if_neg]
  cases old with
  | nil => exact absurd rfl ho
  | cons c l => simp
 rw [count_miss this]
 rfl
theorem rep_no {c : UInt8} {l old new : Bs} (ho : old ≠ []) (h : old.isPrefixOf (c :: l) = false) : rep old new (c :: l) = c :: rep old new l:=by
 unfold rep
 rw [count_cons_no ho h,replaceK_no h]
theorem rep_yes {c : UInt8} {l old new : Bs} (ho : old ≠ []) (h : old.isPrefixOf (c :: l) = true) : rep old new (c :: l) = new ++ rep old new ((c :: l).drop old.length):=by
 have h0 : index (c :: l) old = ((0 : Nat) : Int):=index_cons_yes h
 unfold rep
 rw [count_hit ho h0,Nat.zero_add,Nat.add_comm,replaceK_hit old new _ _ 0 h0,Nat.zero_add]
 rfl
theorem replaceAll_rep {s old new : Bs} (hne : (old == new) = false) : replaceAll s old new = rep old new s:=by
 unfold replaceAll replace replaceNum rep
 rw [if_neg (by rw [hne];simp),if_pos (Or.inl (by decide))]
theorem rep_len (old new : Bs) (h : new.length ≤ old.length) (ho : old ≠ []) : ∀ (n : Nat) (s : Bs),s.length ≤ n → (rep old new s).length ≤ s.length
 | 0,s,hs => by
  have : s = []:=List.length_eq_zero_iff.1 (by omega)
  subst this
  rw [rep_nil ho];simp
 | n + 1,[],_ => by rw [rep_nil ho];simp
 | n + 1,c :: l,hs => by
  simp only [List.length_cons] at hs
  by_cases hp : old.isPrefixOf (c :: l) = true
  ·rw [rep_yes ho hp,List.length_append]
   have h1:=(List.isPrefixOf_iff_prefix.1 hp).length_le
   have h2 : 0 < old.length:=List.length_pos_iff.2 ho
   have h3:=rep_len old new h ho n ((c :: l).drop old.length) (by rw [List.length_drop,List.length_cons];omega)
   rw [List.length_drop] at h3
   omega
  ·rw [rep_no ho (Bool.eq_false_iff.2 hp),List.length_cons,List.length_cons]
   have:=rep_len old new h ho n l (by omega)
   omega
theorem rep13 : ∀ l : Bs,rep [13] [10] l = l.map fun c => if c = 13 then 10 else c
 | [] => rep_nil (by simp)
 | c :: l => by
  by_cases h : c = 13
  ·subst h
   rw [rep_yes (by simp) (by simp [List.isPrefixOf])]
   show [10] ++ rep [13] [10] l = _
   rw [rep13 l]
   simp
  ·rw [rep_no (by simp) (by simp [List.isPrefixOf];exact fun e => h e.symm),rep13 l,List.map_cons,if_neg h]
theorem norm_rep : ∀ (n : Nat) (l : Bs),l.length ≤ n → rep [13] [10] (rep [13,10] [10] l) = normS l
 | _,[],_ => by rw [rep_nil (by simp),rep_nil (by simp)];rfl
 | _,[c],_ => by
  rw [rep_no (by simp) (by simp [List.isPrefixOf]),rep_nil (by simp),rep13]
  rfl
 | 0,_ :: _ :: _,h => by simp at h
 | n + 1,c :: d :: l,h => by
  simp only [List.length_cons] at h
  by_cases hc : c = 13
  ·subst hc
   by_cases hd : d = 10
   ·subst hd
    rw [rep_yes (by simp) (by simp [List.isPrefixOf])]
    show rep [13] [10] (10 :: rep [13,10] [10] l) = _
    rw [rep_no (by simp) (by simp [List.isPrefixOf]),norm_rep n l (by omega)]
    simp [normS]
   ·rw [rep_no (by simp) (by simp [List.isPrefixOf];exact fun e => hd e.symm),rep_yes (by simp) (by simp [List.isPrefixOf])]
    show [10] ++ rep [13] [10] (rep [13,10] [10] (d :: l)) = _
    rw [norm_rep n (d :: l) (by simp;omega)]
    simp [normS,hd]
  ·rw [rep_no (by simp) (by simp [List.isPrefixOf];intro e;exact absurd e.symm hc),rep_no (by simp) (by simp [List.isPrefixOf];exact fun e => hc e.symm),norm_rep n (d :: l) (by simp;omega)]
   simp [normS,hc]
theorem splitK_no {c : UInt8} {l : Bs} (h : c ≠ 10) : ∀ k,splitK [10] 0 k (c :: l) = match splitK [10] 0 k l with
  | [] => [[c]]
  | x :: xs => (c :: x) :: xs
 | 0 => rfl
 | k + 1 => by
  have hp : List.isPrefixOf [10] (c :: l) = false:=by simp [List.isPrefixOf];exact fun e => h e.symm
  have hi:=index_cons_no hp
  by_cases hm : index l [10] = -1
  ·rw [hm] at hi
   have hi' : index (c :: l) [10] = -1:=by rw [hi];rfl
   rw [splitK,if_pos (by rw [hi'];rfl),splitK,if_pos (by rw [hm];rfl)]
  ·have hge:=index_ge l [10]
   obtain ⟨i,hi2⟩ : ∃ i : Nat,index l [10] = i:=⟨(index l [10]).toNat,by omega⟩
   have hi3 : index (c :: l) [10] = ((i + 1 : Nat) : Int):=by
    rw [hi,if_neg (by simpa using hm),hi2];omega
   have e1 : (((i + 1 : Nat) : Int)).toNat = i + 1:=by omega
   have e2 : ((i : Nat) : Int).toNat = i:=by omega
   rw [splitK,if_neg (by rw [hi3];simp;omega),splitK,if_neg (by simpa using hm),hi3,hi2,e1,e2]
   simp
theorem split_eq : ∀ l : Bs,splitK [10] 0 (count l [10]) l = split10 l
 | [] => by
  rw [show count ([] : Bs) [10] = 0 by decide]
  rfl
 | c :: l => by
  by_cases h : c = 10
  ·subst h
   rw [count_cons_eq,Nat.add_comm,splitK,if_neg (by rw [index_cons_yes (by simp [List.isPrefixOf])];decide),index_cons_yes (by simp [List.isPrefixOf])]
   show [] :: splitK [10] 0 (count l [10]) l = _
   rw [split_eq l]
   simp [split10]
  ·rw [count_cons_ne c 10 l h,splitK_no h,split_eq l]
   conv => rhs;unfold split10
   rw [if_neg h]
   cases split10 l <;> rfl
theorem split10_ne : ∀ l : Bs,split10 l ≠ []
 | [] => by simp [split10]
 | c :: l => by
  unfold split10
  split
  ·simp
  ·cases split10 l <;> simp
theorem join_eq : ∀ xs : List Bs,Lib.join xs [10] = joinS xs
 | [] => rfl
 | [x] => join_one x [10]
 | x :: y :: xs => by
  rw [join_cons]
  have:=join_eq (y :: xs)
  rw [join_cons] at this
  show x ++ joinTail [10] (y :: xs) = x ++ 10 :: joinS (y :: xs)
  rw [← this]
  simp [joinTail]
theorem trimLeft_eq (S : Bs) : ∀ l : Bs,Lib.trimLeftS l S = spanR S l
 | [] => rfl
 | c :: l => by
  unfold Lib.trimLeftS spanR
  rw [List.dropWhile_cons]
  by_cases h : S.contains c = true
  ·rw [if_pos h,if_pos h];exact trimLeft_eq S l
  ·rw [if_neg h,if_neg h]
end Go.Proofs.YtgmlbjfgfmfliaaGreatDoor
namespace Go.Proofs
open Go Go.RowKit
theorem Tryz.strings_TrimLeft_blank (s : ByteArray) (w : World) :
  Calls Tryz.prog 227 #[.string s,.string ⟨#[9,32]⟩] w fun e w' => e = .returned (.string ⟨(Lib.trimLeftS s.data.toList [9,32]).toArray⟩) ∧ Below w.heap.size w w' :=
 Any.strings_TrimLeft_laid Tryz.lays161 (by kernel_rfl) s ⟨#[9,32]⟩ w (by decide) (ascii_of_all (by decide))
end Go.Proofs
namespace Go.Proofs.YtgmlbjfgfmfliaaGreatDoor
open Go Go.RowKit
theorem indent_any (l : Bs) (hl : l.length ≤ 4294967280) (w : World) : Calls Tryz.prog 220 #[.string ⟨l.toArray⟩] w fun e w' => e = .returned (.int .i64 ((indS l : Nat) : Int)) ∧ Below w.heap.size w w':=by
 have T:=fun w => Tryz.strings_TrimLeft_blank ⟨l.toArray⟩ w
 have e : Lib.trimLeftS (ByteArray.mk l.toArray).data.toList [9,32] = spanR [9,32] l:=trimLeft_eq [9,32] l
 rw [e] at T
 have h1:=size_of l
 have h2:=size_of (spanR [9,32] l)
 have h3:=(spanR_suf [9,32] l).length_le
 have HE : Hid ((l.length : Int) - ((spanR [9,32] l).length : Int) = ((indS l : Nat) : Int)):=by
  show _ = _
  unfold indS;omega
 have g1 : (l.length : Int) ≤ 4294967280:=by omega
 have g2 : ((spanR [9,32] l).length : Int) ≤ (l.length : Int):=by omega
 have g3 : (0 : Int) ≤ ((spanR [9,32] l).length : Int):=by omega
 clear e h3 hl
 generalize (spanR [9,32] l).length = m at *
 generalize (ByteArray.mk (spanR [9,32] l).toArray) = M at *
 generalize (ByteArray.mk l.toArray) = L at *
 go_enter Tryz.func220,Tryz.ntmps220
 go_wp2_with (go_at_call 227;refine (T _).mono ?_;rintro e w1 ⟨rfl,hb⟩)
 go_ret
 exact ⟨by rw [← HE.out];rfl,hb⟩
theorem blank_any (l : Bs) (hl : l.length ≤ 4294967280) (w : World) : Calls Tryz.prog 208 #[.string ⟨l.toArray⟩] w fun e w' => e = .returned (.bool (blankB l)) ∧ Below w.heap.size w w':=by
 have I:=fun w => indent_any l hl w
 have h1:=size_of l
 have HE : Hid (blankB l = (((indS l : Nat) : Int) == (l.length : Int))):=by
  show _ = _
  unfold blankB
  rw [Bool.eq_iff_iff]
  simp
  omega
 generalize indS l = m at *
 generalize (ByteArray.mk l.toArray) = L at *
 go_enter Tryz.func208,Tryz.ntmps208
 go_wp2_with (go_at_call 220;refine (I _).mono ?_;rintro e w1 ⟨rfl,hb⟩)
 go_ret
 refine ⟨?_,hb⟩
 rw [HE.out]
 rfl
/-- A row of texts in a block. -/
def StrRow (w : World) (G : Nat) (L : List Bs) : Prop:=w.heap[G]? = some (.cells (L.map fun x => Value.string ⟨x.toArray⟩).toArray 9 (0,0))
theorem StrRow.below {w w' : World} {G B : Nat} {L : List Bs} (h : StrRow w G L) (hb : Below B w w') (hG : G < B) : StrRow w' G L:=(hb.block G hG).trans h
theorem StrRow.cell {w : World} {G : Nat} {L : List Bs} (h : StrRow w G L) (i : Nat) (hi : i < L.length) : w.cell? ⟨G,i,none⟩ = some (.string ⟨L[i].toArray⟩):=by
 unfold World.cell?
 rw [show w.heap[G]? = _ from h]
 simp [hi]
theorem StrRow.free {w : World} {G : Nat} {L : List Bs} (h : StrRow w G L) (i : Nat) : w.frozen? ⟨G,i,none⟩ = false:=frozen_of_row w G i _ _ h
theorem StrRow.lt {w : World} {G : Nat} {L : List Bs} (h : StrRow w G L) : G < w.heap.size:=lt_of_block h
theorem StrRow.set {w : World} {G : Nat} {L : List Bs} (h : StrRow w G L) (i : Nat) (x : Bs) : StrRow (w.setCell ⟨G,i,none⟩ (.string ⟨x.toArray⟩)) G (L.set i x):=by
 have:=heap_setCell_same w G i _ _ (.string ⟨x.toArray⟩) h
 unfold StrRow
 rw [this]
 congr 2
 apply Array.toList_inj.1
 simp [List.map_set]
theorem linesOf_any (l : Bs) (hl : l.length ≤ 4294967280) (w : World) (g : Gl w) : Calls Tryz.prog 206 #[.string ⟨l.toArray⟩] w fun e w' => (∃ G,w.heap.size ≤ G ∧ e = .returned (.slice (some ⟨G,0,none⟩) (linesS l).length (linesS l).length) ∧ StrRow w' G (linesS l)) ∧ Below w.heap.size w w':=by
 have hl1 : (rep [13,10] [10] l).length ≤ l.length:=rep_len _ _ (by simp) (by simp) _ l (Nat.le_refl _)
 have hl2 : (rep [13] [10] (rep [13,10] [10] l)).length ≤ l.length:=Nat.le_trans (rep_len _ _ (by simp) (by simp) _ _ (Nat.le_refl _)) hl1
 have R1 : ∀ w,Gl w → Calls Tryz.prog 218 #[.string ⟨l.toArray⟩,.string ⟨#[13,10]⟩,.string ⟨#[10]⟩] w fun e w' => e = .returned (.string ⟨(rep [13,10] [10] l).toArray⟩) ∧ Below w.heap.size w w':=by
  intro w g
  obtain ⟨m,hm⟩:=g.mx
  have:=Tryz.strings_ReplaceAll ⟨l.toArray⟩ ⟨#[13,10]⟩ ⟨#[10]⟩ m w (by rw [size_of];omega) hm (by decide) (by
   have h1:=Lib.countB_le ⟨#[13,10]⟩ (by decide) (ByteArray.mk l.toArray).size ⟨l.toArray⟩ (Nat.le_refl _)
   rw [size_of] at h1 ⊢
   have h2 : (ByteArray.mk #[10]).size = 1:=rfl
   rw [h2];omega)
  rw [replaceAll_rep (by decide)] at this
  exact this
 have R2 : ∀ w,Gl w → Calls Tryz.prog 218 #[.string ⟨(rep [13,10] [10] l).toArray⟩,.string ⟨#[13]⟩,.string ⟨#[10]⟩] w fun e w' => e = .returned (.string ⟨(rep [13] [10] (rep [13,10] [10] l)).toArray⟩) ∧ Below w.heap.size w w':=by
  intro w g
  obtain ⟨m,hm⟩:=g.mx
  have:=Tryz.strings_ReplaceAll ⟨(rep [13,10] [10] l).toArray⟩ ⟨#[13]⟩ ⟨#[10]⟩ m w (by rw [size_of];omega) hm (by decide) (by
   have h1:=Lib.countB_le ⟨#[13]⟩ (by decide) (ByteArray.mk (rep [13,10] [10] l).toArray).size ⟨(rep [13,10] [10] l).toArray⟩ (Nat.le_refl _)
   rw [size_of] at h1 ⊢
   have h2 : (ByteArray.mk #[10]).size = 1:=rfl
   rw [h2];omega)
  rw [replaceAll_rep (by decide)] at this
  exact this
 rw [norm_rep _ l (Nat.le_refl _)] at R2 hl2
 have S : ∀ w,Gl w → Calls Tryz.prog 219 #[.string ⟨(normS l).toArray⟩,.string ⟨#[10]⟩] w fun e w' => (∃ G,w.heap.size ≤ G ∧ e = .returned (.slice (some ⟨G,0,none⟩) (linesS l).length (linesS l).length) ∧ StrRow w' G (linesS l)) ∧ Below w.heap.size w w':=by
  intro w g
  obtain ⟨m,hm⟩:=g.mx
  refine (Tryz.strings_Split ⟨(normS l).toArray⟩ ⟨#[10]⟩ m w (by rw [size_of];omega) hm (by decide)).mono ?_
  rintro e w' ⟨rfl,rfl⟩
  have hd:=Lib.splitB_data ⟨#[10]⟩ 0 (Lib.countB ⟨(normS l).toArray⟩ ⟨#[10]⟩) ⟨(normS l).toArray⟩
  have hs : Lib.splitK [10] 0 (Lib.count (normS l) [10]) (normS l) = linesS l:=split_eq (normS l)
  have hd2 : (Lib.splitB ⟨#[10]⟩ 0 (Lib.countB ⟨(normS l).toArray⟩ ⟨#[10]⟩) ⟨(normS l).toArray⟩).map (·.data.toList) = linesS l:=hd.trans hs
  have hlen:=Lib.splitB_all ⟨#[10]⟩ (by decide) 0 _ (ByteArray.mk (normS l).toArray) rfl
  have hlen2 : (linesS l).length = Lib.countB ⟨(normS l).toArray⟩ ⟨#[10]⟩ + 1:=by rw [← hd2,List.length_map];exact hlen
  refine ⟨⟨w.heap.size,Nat.le_refl _,by rw [hlen2],?_⟩,(Below.refl _ _).alloc (Nat.le_refl _) _⟩
  show (w.alloc _).heap[w.heap.size]? = _
  rw [heap_alloc_new]
  congr 2
  rw [← hd2,List.map_map]
  congr 1
 clear hl hl1 hl2
 generalize linesS l = L at *
 generalize (normS l).toArray = N at *
 generalize (rep [13,10] [10] l).toArray = M at *
 generalize l.toArray = A at *
 go_enter Tryz.func206,Tryz.ntmps206
 go_wp2_with (first
  | (go_at_call 219;refine (S _ g2).mono ?_;rintro e w3 ⟨⟨G,hG,rfl,hrow⟩,hb3⟩)
  | (go_at_call 218;refine (R2 _ g1).mono ?_;rintro e w2 ⟨rfl,hb2⟩;have g2:=g1.below hb2 (Nat.le_refl _))
  | (go_at_call 218;refine (R1 _ g).mono ?_;rintro e w1 ⟨rfl,hb1⟩;have g1:=g.below hb1 (Nat.le_refl _))
  | fail)
 go_ret
 have s1:=hb1.size
 have s2:=hb2.size
 exact ⟨⟨G,by omega,rfl,hrow⟩,(hb1.trans (hb2.mono hb1.size)).trans (hb3.mono (Nat.le_trans s1 s2))⟩
end Go.Proofs.YtgmlbjfgfmfliaaGreatDoor
