/- A number in base sixteen. -/
import Derived.Test.YtgppemlciohjcaaGreatDoorB06
import Derived.Laws.Bits64b
import Derived.Test.YtgppemlciohjcaaGreatDoorB03
import Derived.OwnWalk
import Derived.OneCell
import Derived.Laws.OwnMore
import Derived.Laws.IdiomStrings
import Derived.Lib.AppendStr
import Derived.Lib.UnsafeStr
import Derived.Test.YtgppemlciohjcaaGreatDoorB04
namespace Go.Proofs.YtgppemlciohjcaaGreatDoor
section
open Go Go.RowKit Go.Lib
end
section
open Go Go.RowKit Go.Lib
end
section
open Go Go.RowKit
theorem u8_eq {a b : UInt8} (h : a.toNat = b.toNat) : a = b:=UInt8.toNat_inj.1 h
end
section
end
section
open Go Go.RowKit
theorem Tryz.infoByte : (Tryz.prog.info? 5).map (fun i => (i.zero,i.size,i.bytes)) = some (some (.int .u8 0),1,1):=by kernel_rfl
theorem own_ge {w : World} {B e sz n : Nat} {v : Value} {xs : List Value} (h : w.ownsRow B e sz v n xs) : ∀ k,v.ownBlock = some k → B ≤ k:=by
 intro k hk
 rcases h.2 with ⟨rfl,_⟩ | ⟨g,cap,cur,rfl,hg,_⟩
 ·simp [Value.ownBlock] at hk
 ·simp [Value.ownBlock] at hk
  omega
theorem conv_row {W : World} {B g cap : Nat} {l : List UInt8} (h : W.ownsRow B 5 1 (.slice (some ⟨g,0,none⟩) l.length cap) l.length (Lib.byteCells l)) :
  (convert 37 9 (.slice (some ⟨g,0,none⟩) l.length cap)).run Tryz.prog W = .ok (.string ⟨l.toArray⟩) W:=by
 refine run_convert_bytes_back (P:=Tryz.prog) W 37 9 5 ⟨g,0,none⟩ cap l Tryz.underlying37 Tryz.underlying5 Tryz.underlying9 ?_
 intro j hj
 rw [Addr.add_lit,Nat.zero_add,h.cellAt j (by omega)]
 simp [Lib.byteCells,hj]
abbrev Bytes (w : World) (B : Nat) (v : Value) (l : List UInt8) : Prop:=w.ownsRow B 5 1 v l.length (Lib.byteCells l)
end
section
open Go Go.RowKit
theorem at_suf0 {s : Bs} {c : UInt8} {r : Bs} (h : (c :: r) <:+ s) : ∀ hh,(ByteArray.mk s.toArray)[s.length - (c :: r).length]'hh = c:=by
 obtain ⟨p,rfl⟩:=h
 intro hh
 show (p ++ c :: r).toArray[(p ++ c :: r).length - (c :: r).length] = c
 simp
end
section
open Go Go.RowKit
theorem spanR_in (S : Bs) (c : UInt8) (l : Bs) (h : S.contains c = true) : spanR S (c :: l) = spanR S l:=by
 conv => lhs;unfold spanR
 rw [if_pos h]
theorem spanR_out (S : Bs) (c : UInt8) (l : Bs) (h : S.contains c = false) : spanR S (c :: l) = c :: l:=by
 unfold spanR
 rw [if_neg (by rw [h];decide)]
set_option maxHeartbeats 2000000 in
theorem xindent_any (s : Bs) (hs : s.length ≤ 4294967280) (w : World) : Calls Tryz.prog 102 #[.string ⟨s.toArray⟩] w fun e w' => e = .returned (.int .i64 ((indS s : Nat) : Int)) ∧ w = w':=by
 have hsz:=size_of s
 have hsI : (s.length : Int) ≤ 4294967280:=by omega
 generalize hD : (ByteArray.mk s.toArray) = D at *
 go_enter Tryz.func102,Tryz.ntmps102
 go_wp2
 go_loopw [3] (fun v wr => ∃ l,v = .int .i64 ((s.length - l.length : Nat) : Int) ∧ l <:+ s ∧ spanR [9,32] l = spanR [9,32] s ∧ wr = w) (fun v _ => s.length - (RowKit.intOf v).toNat)
 case atStart => exact ⟨s,by simp,List.suffix_refl _,rfl,rfl⟩
 case round =>
  obtain ⟨l,rfl,hsuf,hsp,hwr⟩:=hrel
  subst hwr
  cases l with
  | nil =>
   have HE : Hid (((s.length - ([] : Bs).length : Nat) : Int) = ((indS s : Nat) : Int)):=by
    show _ = _
    unfold indS
    rw [← hsp]
    rfl
   clear hsp hsuf
   go_wp2
   go_ret
   exact ⟨by rw [← HE.out];rfl,rfl⟩
  | cons c r =>
   have hle : (c :: r).length ≤ s.length:=hsuf.length_le
   have g0:=at_suf0 hsuf
   have gX : ∀ hh,(((ByteArray.mk s.toArray)[s.length - (c :: r).length]'hh).toNat : Int) = (c.toNat : Int):=fun hh => by rw [g0 hh]
   rw [hD] at gX
   have b1 : ((s.length - (c :: r).length : Nat) : Int) < (s.length : Int):=by simp only [List.length_cons] at hle ⊢;omega
   have b2 : (0 : Int) ≤ ((s.length - (c :: r).length : Nat) : Int):=by omega
   have b3 : (((s.length - (c :: r).length : Nat) : Int)).toNat = s.length - (c :: r).length:=by omega
   have HA : Hid (s.length - (c :: r).length + (c :: r).length = s.length):=by show _ = _;omega
   by_cases hc : [9,32].contains c = true
   ·have HR : Hid (r <:+ s ∧ spanR [9,32] r = spanR [9,32] s):=⟨(List.suffix_cons c r).trans hsuf,by rw [← hsp,spanR_in _ _ _ hc]⟩
    have HN : Hid (((s.length - (c :: r).length : Nat) : Int) + 1 = ((s.length - r.length : Nat) : Int)):=by
     show _ = _
     simp only [List.length_cons] at hle ⊢;omega
    have m3 : ((c.toNat : Int) == 9) = true ∨ (((c.toNat : Int) == 9) = false ∧ ((c.toNat : Int) == 32) = true):=by
     have : c = 9 ∨ c = 32:=by simpa using hc
     rcases this with rfl | rfl <;> decide
    clear hc hsp hsuf hle g0
    generalize hgA : s.length - (c :: r).length = A at *
    clear hgA
    generalize (c.toNat : Int) = X at *
    rcases m3 with m3 | ⟨m3,m4⟩
    all_goals
     go_wp2
     refine ⟨⟨r,congrArg (Value.int .i64) HN.out,HR.out.1,HR.out.2,by trivial⟩,?_⟩
     have h3:=HA.out
     simp [RowKit.intOf]
     simp at h3
     omega
   ·have hc' : [9,32].contains c = false:=Bool.eq_false_iff.2 hc
    have HE : Hid (((s.length - (c :: r).length : Nat) : Int) = ((indS s : Nat) : Int)):=by
     show _ = _
     unfold indS
     rw [← hsp,spanR_out _ _ _ hc']
    have hn : ¬ (c = 9 ∨ c = 32):=by simpa using hc
    have n9 : ¬ c.toNat = 9:=fun e => hn (Or.inl (u8_eq e))
    have n32 : ¬ c.toNat = 32:=fun e => hn (Or.inr (u8_eq e))
    have m3 : ((c.toNat : Int) == 9) = false:=beq_eq_false_iff_ne.2 (by omega)
    have m4 : ((c.toNat : Int) == 32) = false:=beq_eq_false_iff_ne.2 (by omega)
    clear hc hc' hsp hsuf hle g0 hn n9 n32
    generalize s.length - (c :: r).length = A at *
    generalize (c.toNat : Int) = X at *
    go_wp2
    go_ret
    exact ⟨by rw [← HE.out];rfl,rfl⟩
def linesC (cur rest : Bs) : List Bs:=match split10 (normS rest) with
 | [] => [cur]
 | x :: xs => (cur ++ x) :: xs
theorem linesC_start (s : Bs) : linesC [] s = linesS s:=by
 unfold linesC linesS
 cases h : split10 (normS s) with
 | nil => exact absurd h (split10_ne _)
 | cons x xs => simp
theorem linesC_nil (cur : Bs) : linesC cur [] = [cur]:=by
 unfold linesC
 simp [normS,split10]
theorem normS_out {c : UInt8} (h : c ≠ 13) (r : Bs) : normS (c :: r) = c :: normS r:=by
 cases r with
 | nil => simp [normS,h]
 | cons d r =>
   conv => lhs;unfold normS
   rw [if_neg h]
theorem split10_at (l : Bs) : split10 (10 :: l) = [] :: split10 l:=by rw [split10,if_pos rfl]
theorem split10_out {c : UInt8} (h : c ≠ 10) {l x : Bs} {xs : List Bs} (hx : split10 l = x :: xs) : split10 (c :: l) = (c :: x) :: xs:=by rw [split10,if_neg h,hx]
theorem linesC_eq {cur l x : Bs} {xs : List Bs} (h : split10 (normS l) = x :: xs) : linesC cur l = (cur ++ x) :: xs:=by
 unfold linesC
 rw [h]
theorem linesC_out {cur r : Bs} {c : UInt8} (h1 : c ≠ 10) (h2 : c ≠ 13) : linesC cur (c :: r) = linesC (cur ++ [c]) r:=by
 cases h : split10 (normS r) with
 | nil => exact absurd h (split10_ne _)
 | cons x xs =>
  rw [linesC_eq h,linesC_eq (x:=c :: x) (xs:=xs) (by rw [normS_out h2];exact split10_out h1 h)]
  simp
theorem linesC_end {cur r : Bs} {l : Bs} (h : normS l = 10 :: normS r) : linesC cur l = cur :: linesC [] r:=by
 cases hx : split10 (normS r) with
 | nil => exact absurd hx (split10_ne _)
 | cons x xs =>
  rw [linesC_eq hx,linesC_eq (x:=[]) (xs:=x :: xs) (by rw [h,split10_at,hx])]
  simp
theorem linesC_10 (cur r : Bs) : linesC cur (10 :: r) = cur :: linesC [] r:=linesC_end (normS_out (by decide) r)
theorem linesC_1310 (cur r : Bs) : linesC cur (13 :: 10 :: r) = cur :: linesC [] r:=linesC_end (by rw [normS,if_pos rfl,if_pos rfl])
theorem linesC_13 {cur r : Bs} (h : ∀ r',r ≠ 10 :: r') : linesC cur (13 :: r) = cur :: linesC [] r:=linesC_end (by
 cases r with
 | nil => rfl
 | cons d r => rw [normS,if_pos rfl,if_neg (fun e => h r (by rw [e]))])
theorem xat_any (s : Bs) (hs : s.length ≤ 4294967280) (k : Nat) (w : World) : Calls Tryz.prog 66 #[.string ⟨s.toArray⟩,.int .i64 (k : Int)] w fun e w' => e = .returned (.int .u8 ((s.getD k 0).toNat : Int)) ∧ w = w':=by
 have hsz:=size_of s
 have hsI : (s.length : Int) ≤ 4294967280:=by omega
 by_cases h : k < s.length
 ·have g0 : ∀ hh,(((ByteArray.mk s.toArray)[k]'hh).toNat : Int) = ((s.getD k 0).toNat : Int):=fun hh => by
   have e : (ByteArray.mk s.toArray)[k]'hh = s.getD k 0:=by
    show s.toArray[k] = _
    simp [List.getD,h]
   rw [e]
  have b1 : (k : Int) < (s.length : Int):=by omega
  have b2 : ¬ (s.length : Int) ≤ (k : Int):=by omega
  have b3:=decide_eq_false b2
  generalize (ByteArray.mk s.toArray) = D at *
  generalize ((s.getD k 0).toNat : Int) = X at *
  clear b2 h
  go_enter Tryz.func66,Tryz.ntmps66
  go_wp2
  go_ret
  exact ⟨rfl,rfl⟩
 ·have e : ((s.getD k 0).toNat : Int) = 0:=by
   have : s.getD k 0 = 0:=by simp [List.getD,List.getElem?_eq_none (Nat.le_of_not_lt h)]
   rw [this];rfl
  rw [e]
  have b2 : (s.length : Int) ≤ (k : Int):=by omega
  have b3:=decide_eq_true b2
  generalize (ByteArray.mk s.toArray) = D at *
  clear h e
  go_enter Tryz.func66,Tryz.ntmps66
  go_wp2
  go_ret
  exact ⟨rfl,rfl⟩
end
end Go.Proofs.YtgppemlciohjcaaGreatDoor
