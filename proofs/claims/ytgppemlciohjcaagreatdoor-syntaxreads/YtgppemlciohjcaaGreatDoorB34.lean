/- Strings byte by byte. -/
import Derived.Test.YtgppemlciohjcaaGreatDoorB31
import Derived.Test.YtgppemlciohjcaaGreatDoorB14
import Derived.Test.YtgppemlciohjcaaGreatDoorB32
import Derived.Test.YtgppemlciohjcaaGreatDoorB33
namespace Go.Proofs.YtgppemlciohjcaaGreatDoor
section
open Go Go.RowKit
theorem line_raw {c : UInt8} (h1 : c ≠ 34) (h2 : c ≠ 92) (h3 : endL.contains c = false) (m : Bs) : lineS (c :: m) = (lineS m).map fun p => ([c] ++ p.1,p.2):=by
 refine lineS_chr ?_ ?_ h3
 ·simp [List.isPrefixOf]
  exact fun e => h1 e.symm
 ·simp [List.isPrefixOf]
  exact fun e => h2 e.symm
theorem hi_ne {c : UInt8} (hc : 128 ≤ c.toNat) : c ≠ 34 ∧ c ≠ 92 ∧ c ≠ 127 ∧ endL.contains c = false:=by
 have hx : ∀ d : UInt8,d.toNat < 128 → c ≠ d:=fun d hd e => by rw [e] at hc;omega
 refine ⟨hx _ (by decide),hx _ (by decide),hx _ (by decide),?_⟩
 rw [Bool.eq_false_iff]
 intro e
 have : c = 10 ∨ c = 13:=by simpa [endL] using e
 rcases this with e | e
 ·exact hx 10 (by decide) e
 ·exact hx 13 (by decide) e
theorem line_hi {c : UInt8} (m : Bs) (hc : 128 ≤ c.toNat) : lineS (c :: m) = (lineS m).map fun p => ([c] ++ p.1,p.2):=by
 obtain ⟨h1,h2,_,h4⟩:=hi_ne hc
 exact line_raw h1 h2 h4 m
end
section
open Go Go.RowKit
def hexI (x : UInt8) : Int:=match hexV x with
 | some d => (d : Int)
 | none => -1
set_option maxHeartbeats 1000000 in
theorem xhex_any (x : UInt8) (w : World) : Calls Tryz.prog 123 #[.int .u8 (x.toNat : Int)] w fun e w' => e = .returned (.int .i64 (hexI x)) ∧ w = w':=by
 have Dg:=fun w => xdigit_any x w
 rw [dig_is] at Dg
 have hlt:=x.toNat_lt
 have hI : hexI x = if 48 ≤ x.toNat ∧ x.toNat ≤ 57 then (x.toNat : Int) - 48 else if 97 ≤ x.toNat ∧ x.toNat ≤ 102 then (x.toNat : Int) - 87 else if 65 ≤ x.toNat ∧ x.toNat ≤ 70 then (x.toNat : Int) - 55 else -1:=by
  unfold hexI hexV
  by_cases h1 : 48 ≤ x.toNat ∧ x.toNat ≤ 57
  ·rw [if_pos h1,if_pos h1];show ((x.toNat - 48 : Nat) : Int) = _;omega
  ·rw [if_neg h1,if_neg h1]
   by_cases h2 : 97 ≤ x.toNat ∧ x.toNat ≤ 102
   ·rw [if_pos h2,if_pos h2];show ((x.toNat - 87 : Nat) : Int) = _;omega
   ·rw [if_neg h2,if_neg h2]
    by_cases h3 : 65 ≤ x.toNat ∧ x.toNat ≤ 70
    ·rw [if_pos h3,if_pos h3];show ((x.toNat - 55 : Nat) : Int) = _;omega
    ·rw [if_neg h3,if_neg h3]
 rw [hI]
 clear hI
 by_cases h1 : 48 ≤ x.toNat ∧ x.toNat ≤ 57
 ·rw [if_pos h1]
  rw [decide_eq_true h1] at Dg
  have g1 : (48 : Int) ≤ (x.toNat : Int):=by omega
  have g2 : (x.toNat : Int) ≤ 57:=by omega
  clear h1 hlt
  generalize (x.toNat : Int) = c at *
  go_enter Tryz.func123,Tryz.ntmps123
  go_wp2_with (go_at_call 67;(with_reducible refine (Dg _).mono ?_);rintro e w1 ⟨rfl,hw⟩;subst hw)
  go_ret
  exact ⟨by first | rfl | (congr 1),rfl⟩
 ·rw [if_neg h1]
  rw [decide_eq_false h1] at Dg
  by_cases h2 : 97 ≤ x.toNat ∧ x.toNat ≤ 102
  ·rw [if_pos h2]
   have g1 : (97 : Int) ≤ (x.toNat : Int):=by omega
   have g2 : (x.toNat : Int) ≤ 102:=by omega
   clear h1 h2 hlt
   generalize (x.toNat : Int) = c at *
   go_enter Tryz.func123,Tryz.ntmps123
   go_wp2_with (go_at_call 67;(with_reducible refine (Dg _).mono ?_);rintro e w1 ⟨rfl,hw⟩;subst hw)
   go_ret
   refine ⟨congrArg Ending.returned (congrArg (Value.int .i64) ?_),rfl⟩
   omega
  ·rw [if_neg h2]
   by_cases h3 : 65 ≤ x.toNat ∧ x.toNat ≤ 70
   ·rw [if_pos h3]
    have g1 : (65 : Int) ≤ (x.toNat : Int):=by omega
    have g2 : (x.toNat : Int) ≤ 70:=by omega
    have g3 : ¬ (97 : Int) ≤ (x.toNat : Int):=by omega
    clear h1 h2 h3 hlt
    generalize (x.toNat : Int) = c at *
    go_enter Tryz.func123,Tryz.ntmps123
    go_wp2_with (go_at_call 67;(with_reducible refine (Dg _).mono ?_);rintro e w1 ⟨rfl,hw⟩;subst hw)
    go_ret
    refine ⟨congrArg Ending.returned (congrArg (Value.int .i64) ?_),rfl⟩
    omega
   ·rw [if_neg h3]
    have g0 : (0 : Int) ≤ (x.toNat : Int):=by omega
    have g : ((x.toNat : Int) < 65 ∨ (70 < (x.toNat : Int) ∧ (x.toNat : Int) < 97)) ∨ 102 < (x.toNat : Int):=by omega
    clear h1 h2 h3 hlt
    generalize (x.toNat : Int) = c at *
    rcases g with (g | ⟨g,g'⟩) | g
    ·have k1 : ¬ 97 ≤ c:=by omega
     have k2 : ¬ 65 ≤ c:=by omega
     go_enter Tryz.func123,Tryz.ntmps123
     go_wp2_with (go_at_call 67;(with_reducible refine (Dg _).mono ?_);rintro e w1 ⟨rfl,hw⟩;subst hw)
     go_ret
     exact ⟨rfl,rfl⟩
    ·have k1 : ¬ 97 ≤ c:=by omega
     have k2 : 65 ≤ c:=by omega
     have k3 : ¬ c ≤ 70:=by omega
     go_enter Tryz.func123,Tryz.ntmps123
     go_wp2_with (go_at_call 67;(with_reducible refine (Dg _).mono ?_);rintro e w1 ⟨rfl,hw⟩;subst hw)
     go_ret
     exact ⟨rfl,rfl⟩
    ·have k1 : 97 ≤ c:=by omega
     have k2 : ¬ c ≤ 102:=by omega
     have k3 : 65 ≤ c:=by omega
     have k4 : ¬ c ≤ 70:=by omega
     go_enter Tryz.func123,Tryz.ntmps123
     go_wp2_with (go_at_call 67;(with_reducible refine (Dg _).mono ?_);rintro e w1 ⟨rfl,hw⟩;subst hw)
     go_ret
     exact ⟨rfl,rfl⟩
def hxs (s : Bs) (q : Nat) : Nat → Option Nat
 | 0 => some 0
 | k + 1 => (hxs s q k).bind fun n => (hexV (s.getD (q + (k + 1)) 0)).map fun d => 16 * n + d
theorem hxs_lt (s : Bs) (q : Nat) : ∀ (k n : Nat),hxs s q k = some n → n < 16 ^ k
 | 0,n,h => by cases h;decide
 | k + 1,n,h => by
  unfold hxs at h
  cases hk : hxs s q k with
  | none => rw [hk] at h;cases h
  | some m =>
   rw [hk,Option.bind_some] at h
   cases hd : hexV (s.getD (q + (k + 1)) 0) with
   | none => rw [hd] at h;cases h
   | some d =>
    rw [hd] at h
    simp at h
    have h1:=hxs_lt s q k m hk
    have h2:=hexV_lt hd
    rw [Nat.pow_succ]
    omega
theorem hexV_zero : hexV 0 = none:=rfl
theorem nmb_hxs (s : Bs) (q : Nat) : nmbS (s.drop (q + 1)) = (hxs s q 4).map fun n => (unitS n,s.drop (q + 5)):=by
 have hg : ∀ k,s.getD (q + (k + 1)) 0 = (s.drop (q + 1)).getD k 0:=fun k => by rw [drop_get];congr 1;omega
 have hr : s.drop (q + 5) = (s.drop (q + 1)).drop 4:=by rw [List.drop_drop]
 have e4 : hxs s q 4 = (((((some 0 : Option Nat).bind fun n => (hexV ((s.drop (q + 1)).getD 0 0)).map fun d => 16 * n + d).bind fun n => (hexV ((s.drop (q + 1)).getD 1 0)).map fun d => 16 * n + d).bind fun n => (hexV ((s.drop (q + 1)).getD 2 0)).map fun d => 16 * n + d).bind fun n => (hexV ((s.drop (q + 1)).getD 3 0)).map fun d => 16 * n + d):=by
  simp only [hxs]
  rw [hg 0,hg 1,hg 2,hg 3]
 rw [e4,hr]
 generalize s.drop (q + 1) = l
 match l with
 | a :: b :: c :: d :: r =>
  rw [nmbS_four]
  show _ = Option.map _ (((((some 0 : Option Nat).bind fun n => (hexV a).map fun d => 16 * n + d).bind fun n => (hexV b).map fun d => 16 * n + d).bind fun n => (hexV c).map fun d => 16 * n + d).bind fun n => (hexV d).map fun d => 16 * n + d)
  unfold hexQ
  cases hexV a with
  | none => rfl
  | some x =>
   cases hexV b with
   | none => rfl
   | some y =>
    cases hexV c with
    | none => rfl
    | some z =>
     cases hexV d with
     | none => rfl
     | some t =>
      simp only [Option.bind_some,Option.map_some]
      show some (unitS _,r) = some (unitS _,r)
      congr 3
      omega
 | [] => rfl
 | [a] =>
  show none = Option.map _ (((((some 0 : Option Nat).bind fun n => (hexV a).map fun d => 16 * n + d).bind fun n => (hexV 0).map fun d => 16 * n + d).bind fun n => (hexV 0).map fun d => 16 * n + d).bind fun n => (hexV 0).map fun d => 16 * n + d)
  rw [hexV_zero]
  cases hexV a <;> rfl
 | [a,b] =>
  show none = Option.map _ (((((some 0 : Option Nat).bind fun n => (hexV a).map fun d => 16 * n + d).bind fun n => (hexV b).map fun d => 16 * n + d).bind fun n => (hexV 0).map fun d => 16 * n + d).bind fun n => (hexV 0).map fun d => 16 * n + d)
  rw [hexV_zero]
  cases hexV a with
  | none => rfl
  | some x => cases hexV b <;> rfl
 | [a,b,c] =>
  show none = Option.map _ (((((some 0 : Option Nat).bind fun n => (hexV a).map fun d => 16 * n + d).bind fun n => (hexV b).map fun d => 16 * n + d).bind fun n => (hexV c).map fun d => 16 * n + d).bind fun n => (hexV 0).map fun d => 16 * n + d)
  rw [hexV_zero]
  cases hexV a with
  | none => rfl
  | some x =>
   cases hexV b with
   | none => rfl
   | some y => cases hexV c <;> rfl
def EscX (s : Bs) (w : World) (r : Option (Bs × Bs)) (e : Ending) (w' : World) : Prop:=(match r with
 | some p => e = .returned (.tuple #[.string ⟨p.1.toArray⟩,.int .i64 ((s.length - p.2.length : Nat) : Int),.bool true])
 | none => ∃ a b,e = .returned (.tuple #[.string a,.int .i64 b,.bool false])) ∧ Below w.heap.size w w'
end
section
open Go Go.RowKit
attribute [local irreducible] unitS
section
variable {s : Bs} {q : Nat} {w : World}
set_option maxHeartbeats 1000000 in
theorem esc_98 (hq : q < s.length) (hs : s.length ≤ 16384) (hc : bt s q = 98) : Calls Tryz.prog 103 #[.string ⟨s.toArray⟩,.int .i64 (q : Int)] w fun e w' => e = .returned (.tuple #[.string ⟨#[8]⟩,.int .i64 ((q + 1 : Nat) : Int),.bool true]) ∧ w = w':=by
 have A : ∀ w : World,Calls Tryz.prog 66 #[.string ⟨s.toArray⟩,.int .i64 (q : Int)] w fun e w' => e = .returned (.int .u8 98) ∧ w = w':=fun w => by
  have:=xat_any s (by omega) q w
  rw [show ((s.getD q 0).toNat : Int) = 98 from hc] at this
  exact this
 clear hc
 generalize (ByteArray.mk s.toArray) = D at *
 go_enter Tryz.func103,Tryz.ntmps103
 go_wp2_with (go_at_call 66;(with_reducible refine (A _).mono ?_);rintro e w1 ⟨rfl,rfl⟩)
 go_ret3
 exact ⟨rfl,rfl⟩
set_option maxHeartbeats 1000000 in
theorem esc_102 (hq : q < s.length) (hs : s.length ≤ 16384) (hc : bt s q = 102) : Calls Tryz.prog 103 #[.string ⟨s.toArray⟩,.int .i64 (q : Int)] w fun e w' => e = .returned (.tuple #[.string ⟨#[12]⟩,.int .i64 ((q + 1 : Nat) : Int),.bool true]) ∧ w = w':=by
 have A : ∀ w : World,Calls Tryz.prog 66 #[.string ⟨s.toArray⟩,.int .i64 (q : Int)] w fun e w' => e = .returned (.int .u8 102) ∧ w = w':=fun w => by
  have:=xat_any s (by omega) q w
  rw [show ((s.getD q 0).toNat : Int) = 102 from hc] at this
  exact this
 clear hc
 generalize (ByteArray.mk s.toArray) = D at *
 go_enter Tryz.func103,Tryz.ntmps103
 go_wp2_with (go_at_call 66;(with_reducible refine (A _).mono ?_);rintro e w1 ⟨rfl,rfl⟩)
 go_ret3
 exact ⟨rfl,rfl⟩
set_option maxHeartbeats 1000000 in
theorem esc_110 (hq : q < s.length) (hs : s.length ≤ 16384) (hc : bt s q = 110) : Calls Tryz.prog 103 #[.string ⟨s.toArray⟩,.int .i64 (q : Int)] w fun e w' => e = .returned (.tuple #[.string ⟨#[10]⟩,.int .i64 ((q + 1 : Nat) : Int),.bool true]) ∧ w = w':=by
 have A : ∀ w : World,Calls Tryz.prog 66 #[.string ⟨s.toArray⟩,.int .i64 (q : Int)] w fun e w' => e = .returned (.int .u8 110) ∧ w = w':=fun w => by
  have:=xat_any s (by omega) q w
  rw [show ((s.getD q 0).toNat : Int) = 110 from hc] at this
  exact this
 clear hc
 generalize (ByteArray.mk s.toArray) = D at *
 go_enter Tryz.func103,Tryz.ntmps103
 go_wp2_with (go_at_call 66;(with_reducible refine (A _).mono ?_);rintro e w1 ⟨rfl,rfl⟩)
 go_ret3
 exact ⟨rfl,rfl⟩
set_option maxHeartbeats 1000000 in
theorem esc_114 (hq : q < s.length) (hs : s.length ≤ 16384) (hc : bt s q = 114) : Calls Tryz.prog 103 #[.string ⟨s.toArray⟩,.int .i64 (q : Int)] w fun e w' => e = .returned (.tuple #[.string ⟨#[13]⟩,.int .i64 ((q + 1 : Nat) : Int),.bool true]) ∧ w = w':=by
 have A : ∀ w : World,Calls Tryz.prog 66 #[.string ⟨s.toArray⟩,.int .i64 (q : Int)] w fun e w' => e = .returned (.int .u8 114) ∧ w = w':=fun w => by
  have:=xat_any s (by omega) q w
  rw [show ((s.getD q 0).toNat : Int) = 114 from hc] at this
  exact this
 clear hc
 generalize (ByteArray.mk s.toArray) = D at *
 go_enter Tryz.func103,Tryz.ntmps103
 go_wp2_with (go_at_call 66;(with_reducible refine (A _).mono ?_);rintro e w1 ⟨rfl,rfl⟩)
 go_ret3
 exact ⟨rfl,rfl⟩
set_option maxHeartbeats 1000000 in
theorem esc_116 (hq : q < s.length) (hs : s.length ≤ 16384) (hc : bt s q = 116) : Calls Tryz.prog 103 #[.string ⟨s.toArray⟩,.int .i64 (q : Int)] w fun e w' => e = .returned (.tuple #[.string ⟨#[9]⟩,.int .i64 ((q + 1 : Nat) : Int),.bool true]) ∧ w = w':=by
 have A : ∀ w : World,Calls Tryz.prog 66 #[.string ⟨s.toArray⟩,.int .i64 (q : Int)] w fun e w' => e = .returned (.int .u8 116) ∧ w = w':=fun w => by
  have:=xat_any s (by omega) q w
  rw [show ((s.getD q 0).toNat : Int) = 116 from hc] at this
  exact this
 clear hc
 generalize (ByteArray.mk s.toArray) = D at *
 go_enter Tryz.func103,Tryz.ntmps103
 go_wp2_with (go_at_call 66;(with_reducible refine (A _).mono ?_);rintro e w1 ⟨rfl,rfl⟩)
 go_ret3
 exact ⟨rfl,rfl⟩
set_option maxHeartbeats 1000000 in
theorem esc_34 (hq : q < s.length) (hs : s.length ≤ 16384) (hc : bt s q = 34) (hx : (ByteArray.mk s.toArray).extract q (q + 1) = ⟨#[34]⟩) : Calls Tryz.prog 103 #[.string ⟨s.toArray⟩,.int .i64 (q : Int)] w fun e w' => e = .returned (.tuple #[.string ⟨#[34]⟩,.int .i64 ((q + 1 : Nat) : Int),.bool true]) ∧ w = w':=by
 have A : ∀ w : World,Calls Tryz.prog 66 #[.string ⟨s.toArray⟩,.int .i64 (q : Int)] w fun e w' => e = .returned (.int .u8 34) ∧ w = w':=fun w => by
  have:=xat_any s (by omega) q w
  rw [show ((s.getD q 0).toNat : Int) = 34 from hc] at this
  exact this
 have hD : (ByteArray.mk s.toArray).size = s.length:=rfl
 have f1 : (q : Int) + 1 ≤ (s.length : Int):=by omega
 clear hc
 generalize (ByteArray.mk s.toArray) = D at *
 go_enter Tryz.func103,Tryz.ntmps103
 go_wp2_with (go_at_call 66;(with_reducible refine (A _).mono ?_);rintro e w1 ⟨rfl,rfl⟩)
 go_ret3
 exact ⟨rfl,rfl⟩
set_option maxHeartbeats 1000000 in
theorem esc_92 (hq : q < s.length) (hs : s.length ≤ 16384) (hc : bt s q = 92) (hx : (ByteArray.mk s.toArray).extract q (q + 1) = ⟨#[92]⟩) : Calls Tryz.prog 103 #[.string ⟨s.toArray⟩,.int .i64 (q : Int)] w fun e w' => e = .returned (.tuple #[.string ⟨#[92]⟩,.int .i64 ((q + 1 : Nat) : Int),.bool true]) ∧ w = w':=by
 have A : ∀ w : World,Calls Tryz.prog 66 #[.string ⟨s.toArray⟩,.int .i64 (q : Int)] w fun e w' => e = .returned (.int .u8 92) ∧ w = w':=fun w => by
  have:=xat_any s (by omega) q w
  rw [show ((s.getD q 0).toNat : Int) = 92 from hc] at this
  exact this
 have hD : (ByteArray.mk s.toArray).size = s.length:=rfl
 have f1 : (q : Int) + 1 ≤ (s.length : Int):=by omega
 clear hc
 generalize (ByteArray.mk s.toArray) = D at *
 go_enter Tryz.func103,Tryz.ntmps103
 go_wp2_with (go_at_call 66;(with_reducible refine (A _).mono ?_);rintro e w1 ⟨rfl,rfl⟩)
 go_ret3
 exact ⟨rfl,rfl⟩
set_option maxHeartbeats 1000000 in
theorem esc_47 (hq : q < s.length) (hs : s.length ≤ 16384) (hc : bt s q = 47) (hx : (ByteArray.mk s.toArray).extract q (q + 1) = ⟨#[47]⟩) : Calls Tryz.prog 103 #[.string ⟨s.toArray⟩,.int .i64 (q : Int)] w fun e w' => e = .returned (.tuple #[.string ⟨#[47]⟩,.int .i64 ((q + 1 : Nat) : Int),.bool true]) ∧ w = w':=by
 have A : ∀ w : World,Calls Tryz.prog 66 #[.string ⟨s.toArray⟩,.int .i64 (q : Int)] w fun e w' => e = .returned (.int .u8 47) ∧ w = w':=fun w => by
  have:=xat_any s (by omega) q w
  rw [show ((s.getD q 0).toNat : Int) = 47 from hc] at this
  exact this
 have hD : (ByteArray.mk s.toArray).size = s.length:=rfl
 have f1 : (q : Int) + 1 ≤ (s.length : Int):=by omega
 clear hc
 generalize (ByteArray.mk s.toArray) = D at *
 go_enter Tryz.func103,Tryz.ntmps103
 go_wp2_with (go_at_call 66;(with_reducible refine (A _).mono ?_);rintro e w1 ⟨rfl,rfl⟩)
 go_ret3
 exact ⟨rfl,rfl⟩
set_option maxHeartbeats 1000000 in
theorem esc_none (hs : s.length ≤ 16384) (hc : ∀ c ∈ ([34,92,47,98,102,110,114,116,117] : List Int),bt s q ≠ c) : Calls Tryz.prog 103 #[.string ⟨s.toArray⟩,.int .i64 (q : Int)] w fun e w' => e = .returned (.tuple #[.string ⟨#[]⟩,.int .i64 (q : Int),.bool false]) ∧ w = w':=by
 have A : ∀ w : World,Calls Tryz.prog 66 #[.string ⟨s.toArray⟩,.int .i64 (q : Int)] w fun e w' => e = .returned (.int .u8 (bt s q)) ∧ w = w':=fun w => xat_any s (by omega) q w
 have x1 : (bt s q == 34) = false:=by simpa using hc 34 (by simp)
 have x2 : (bt s q == 92) = false:=by simpa using hc 92 (by simp)
 have x3 : (bt s q == 47) = false:=by simpa using hc 47 (by simp)
 have x4 : (bt s q == 98) = false:=by simpa using hc 98 (by simp)
 have x5 : (bt s q == 102) = false:=by simpa using hc 102 (by simp)
 have x6 : (bt s q == 110) = false:=by simpa using hc 110 (by simp)
 have x7 : (bt s q == 114) = false:=by simpa using hc 114 (by simp)
 have x8 : (bt s q == 116) = false:=by simpa using hc 116 (by simp)
 have x9 : (bt s q == 117) = false:=by simpa using hc 117 (by simp)
 clear hc
 generalize bt s q = c at *
 generalize (ByteArray.mk s.toArray) = D at *
 go_enter Tryz.func103,Tryz.ntmps103
 go_wp2_with (go_at_call 66;(with_reducible refine (A _).mono ?_);rintro e w1 ⟨rfl,rfl⟩)
 go_ret3
 exact ⟨rfl,rfl⟩
set_option maxRecDepth 100000 in
set_option maxHeartbeats 2000000 in
theorem esc_117 (Q : Ending → Prop) (hyes : ∀ n,hxs s q 4 = some n → Q (.returned (.tuple #[.string ⟨(unitS n).toArray⟩,.int .i64 ((q + 5 : Nat) : Int),.bool true]))) (hno : hxs s q 4 = none → Q (.returned (.tuple #[.string ⟨#[]⟩,.int .i64 (q : Int),.bool false]))) (hq : q < s.length) (hs : s.length ≤ 16384) (hc : bt s q = 117) : Calls Tryz.prog 103 #[.string ⟨s.toArray⟩,.int .i64 (q : Int)] w fun e w' => Q e ∧ Below w.heap.size w w':=by
 have A0 : ∀ w : World,Calls Tryz.prog 66 #[.string ⟨s.toArray⟩,.int .i64 (q : Int)] w fun e w' => e = .returned (.int .u8 117) ∧ w = w':=fun w => by
  have:=xat_any s (by omega) q w
  rw [show ((s.getD q 0).toNat : Int) = 117 from hc] at this
  exact this
 have A : ∀ (k : Nat) (w : World),Calls Tryz.prog 66 #[.string ⟨s.toArray⟩,.int .i64 ((q : Int) + ((k : Int) + 1))] w fun e w' => e = .returned (.int .u8 ((s.getD (q + (k + 1)) 0).toNat : Int)) ∧ w = w':=fun k w => xat_any s (by omega) (q + (k + 1)) w
 have HY : Hid (∀ n,hxs s q 4 = some n → Q (.returned (.tuple #[.string ⟨(unitS n).toArray⟩,.int .i64 ((q + 5 : Nat) : Int),.bool true]))):=hyes
 have HNo : Hid (hxs s q 4 = none → Q (.returned (.tuple #[.string ⟨#[]⟩,.int .i64 (q : Int),.bool false]))):=hno
 clear hc hyes hno
 generalize hDD : (ByteArray.mk s.toArray) = D at *
 clear hDD
 go_enter Tryz.func103,Tryz.ntmps103
 go_wp2_with (go_at_call 66;(with_reducible refine (A0 _).mono ?_);rintro e w1 ⟨rfl,rfl⟩)
 go_loopw [7,8] (fun n k wr => ∃ (j m : Nat),j ≤ 4 ∧ n = .int .i64 (m : Int) ∧ k = .int .i64 ((j : Int) + 1) ∧ hxs s q j = some m ∧ w = wr) (fun _ k _ => 6 - (RowKit.intOf k).toNat)
 case atStart => exact ⟨0,0,by omega,rfl,rfl,rfl,rfl⟩
 case round =>
  obtain ⟨j,m,hj,rfl,rfl,hx,rfl⟩:=hrel
  have hm:=hxs_lt s q j m hx
  by_cases hlt : j < 4
  ·have g1 : (j : Int) + 1 ≤ 4:=by omega
   have H:=fun w => xhex_any (s.getD (q + (j + 1)) 0) w
   have A1:=A j
   have hbd : m < 65536:=Nat.lt_of_lt_of_le hm (by
    have : 16 ^ j ≤ 16 ^ 4:=Nat.pow_le_pow_right (by decide) (by omega)
    simpa using this)
   have hnext : hxs s q (j + 1) = (hexV (s.getD (q + (j + 1)) 0)).map fun d => 16 * m + d:=by
    show (hxs s q j).bind _ = _
    rw [hx,Option.bind_some]
   have hstay : hxs s q (j + 1) = none → hxs s q 4 = none:=by
    intro h0
    rcases (by omega : j = 0 ∨ j = 1 ∨ j = 2 ∨ j = 3) with rfl | rfl | rfl | rfl
    ·show (((hxs s q 1).bind _).bind _).bind _ = none
     rw [h0];rfl
    ·show ((hxs s q 2).bind _).bind _ = none
     rw [h0];rfl
    ·show (hxs s q 3).bind _ = none
     rw [h0];rfl
    ·exact h0
   have HN : Hid (hxs s q (j + 1) = (hexV (s.getD (q + (j + 1)) 0)).map fun d => 16 * m + d):=hnext
   have HS : Hid (hxs s q (j + 1) = none → hxs s q 4 = none):=hstay
   clear hnext hstay hx hm A A0
   generalize hb : s.getD (q + (j + 1)) 0 = b at *
   clear hb
   cases hv : hexV b with
   | none =>
    have hI : hexI b = -1:=by unfold hexI;rw [hv]
    rw [hI] at H
    have h0 : hxs s q 4 = none:=HS.out (by rw [HN.out,hv];rfl)
    have H0 : Hid (hxs s q 4 = none):=h0
    clear hI hv h0
    generalize ((b.toNat : Nat) : Int) = c at *
    go_wp2_with (first
     | (go_at_call 123;(with_reducible refine (H _).mono ?_);rintro e w2 ⟨rfl,rfl⟩)
     | (go_at_call 66;(with_reducible refine (A1 _).mono ?_);rintro e w1 ⟨rfl,rfl⟩)
     | fail)
    go_ret3
    exact ⟨HNo.out H0.out,Below.refl _ _⟩
   | some d =>
    have hI : hexI b = (d : Int):=by unfold hexI;rw [hv]
    have hd:=hexV_lt hv
    rw [hI] at H
    have h0 : hxs s q (j + 1) = some (16 * m + d):=by rw [HN.out,hv];rfl
    have H0 : Hid (hxs s q (j + 1) = some (16 * m + d)):=h0
    clear hI hv h0
    generalize ((b.toNat : Nat) : Int) = c at *
    have k1 : ¬ (d : Int) < 0:=by omega
    go_wp2_with (first
     | (go_at_call 123;(with_reducible refine (H _).mono ?_);rintro e w2 ⟨rfl,rfl⟩)
     | (go_at_call 66;(with_reducible refine (A1 _).mono ?_);rintro e w1 ⟨rfl,rfl⟩)
     | fail)
    refine ⟨⟨j + 1,16 * m + d,by omega,congrArg (Value.int .i64) (by omega),congrArg (Value.int .i64) (by omega),H0.out,by first | rfl | trivial⟩,?_⟩
    simp [RowKit.intOf]
    omega
  ·obtain rfl : j = 4:=by omega
   have U:=fun w => unit_any m (by simpa using hm) w
   have H0 : Hid (hxs s q 4 = some m):=hx
   clear hx hm A A0
   generalize hU : (ByteArray.mk (unitS m).toArray) = UB at *
   have HU : Hid ((ByteArray.mk (unitS m).toArray) = UB):=hU
   clear hU
   go_wp2_with (go_at_call 124;(with_reducible refine (U _).mono ?_);rintro e w2 ⟨rfl,hb2⟩)
   go_ret3
   have hy:=HY.out m H0.out
   rw [HU.out] at hy
   exact ⟨hy,hb2⟩
end
theorem escape_any (s : Bs) (q : Nat) (hs : s.length ≤ 16384) (w : World) : Calls Tryz.prog 103 #[.string ⟨s.toArray⟩,.int .i64 (q : Int)] w (EscX s w (escS (s.drop q))):=by
 cases hl : s.drop q with
 | nil =>
  have h0:=bt_nil s q hl
  refine (esc_none (w:=w) hs (by rw [h0];decide)).mono ?_
  rintro e w' ⟨rfl,rfl⟩
  exact ⟨⟨_,_,rfl⟩,Below.refl _ _⟩
 | cons x r =>
  have hb:=bt_drop s q x r hl
  have hlen:=congrArg List.length hl
  rw [List.length_drop,List.length_cons] at hlen
  have hq : q < s.length:=by omega
  have hp1 : s.length - r.length = q + 1:=by omega
  have hx : (ByteArray.mk s.toArray).extract q (q + 1) = ⟨#[x]⟩:=by
   rw [ext_mk,hl]
   rfl
  have key : ∀ v : UInt8,escS (x :: r) = some ([v],r) → (∀ w,Calls Tryz.prog 103 #[.string ⟨s.toArray⟩,.int .i64 (q : Int)] w fun e w' => e = .returned (.tuple #[.string ⟨#[v]⟩,.int .i64 ((q + 1 : Nat) : Int),.bool true]) ∧ w = w') → Calls Tryz.prog 103 #[.string ⟨s.toArray⟩,.int .i64 (q : Int)] w (EscX s w (escS (x :: r))):=by
   intro v hv hw
   rw [hv]
   refine (hw w).mono ?_
   rintro e w' ⟨rfl,rfl⟩
   refine ⟨?_,Below.refl _ _⟩
   show Ending.returned _ = Ending.returned (.tuple #[.string ⟨[v].toArray⟩,.int .i64 ((s.length - r.length : Nat) : Int),.bool true])
   rw [hp1]
  by_cases h1 : x = 34
  ·subst h1;exact key 34 rfl fun w => esc_34 hq hs hb hx
  by_cases h2 : x = 92
  ·subst h2;exact key 92 rfl fun w => esc_92 hq hs hb hx
  by_cases h3 : x = 47
  ·subst h3;exact key 47 rfl fun w => esc_47 hq hs hb hx
  by_cases h4 : x = 98
  ·subst h4;exact key 8 rfl fun w => esc_98 hq hs hb
  by_cases h5 : x = 102
  ·subst h5;exact key 12 rfl fun w => esc_102 hq hs hb
  by_cases h6 : x = 110
  ·subst h6;exact key 10 rfl fun w => esc_110 hq hs hb
  by_cases h7 : x = 114
  ·subst h7;exact key 13 rfl fun w => esc_114 hq hs hb
  by_cases h8 : x = 116
  ·subst h8;exact key 9 rfl fun w => esc_116 hq hs hb
  by_cases h9 : x = 117
  ·subst h9
   have e1 : escS (117 :: r) = (hxs s q 4).map fun n => (unitS n,s.drop (q + 5)):=by
    rw [← nmb_hxs]
    have : s.drop (q + 1) = r:=by
     have:=congrArg (List.drop 1) hl
     rw [List.drop_drop] at this
     exact this
    rw [this]
    rfl
   rw [e1]
   have hshort : ∀ l : Bs,l.length < 4 → nmbS l = none:=by
    intro l hl4
    match l,hl4 with
    | [],_ => rfl
    | [_],_ => rfl
    | [_,_],_ => rfl
    | [_,_,_],_ => rfl
    | _ :: _ :: _ :: _ :: _,h => exact absurd h (by simp only [List.length_cons];omega)
   refine (esc_117 (w:=w) (fun e => match (hxs s q 4).map fun n => (unitS n,s.drop (q + 5)) with
    | some p => e = .returned (.tuple #[.string ⟨p.1.toArray⟩,.int .i64 ((s.length - p.2.length : Nat) : Int),.bool true])
    | none => ∃ a b,e = .returned (.tuple #[.string a,.int .i64 b,.bool false])) ?_ ?_ hq hs hb).mono fun e w' h => h
   ·intro n hn
    rw [hn]
    show Ending.returned _ = Ending.returned (.tuple #[.string ⟨(unitS n).toArray⟩,.int .i64 ((s.length - (s.drop (q + 5)).length : Nat) : Int),.bool true])
    have hq5 : q + 5 ≤ s.length:=by
     rcases Nat.lt_or_ge s.length (q + 5) with hlt | hge
     ·exfalso
      have hf:=nmb_hxs s q
      rw [hn,Option.map_some,hshort _ (by rw [List.length_drop];omega)] at hf
      cases hf
     ·exact hge
    rw [List.length_drop,show s.length - (s.length - (q + 5)) = q + 5 by omega]
   ·intro hn
    rw [hn]
    exact ⟨_,_,rfl⟩
  have e1 : escS (x :: r) = none:=by
   unfold escS
   rw [if_neg (by simp [List.isPrefixOf];exact fun e => h9 e.symm)]
   simp only
   rw [if_neg (by simp [escL,h1,h2,h3,h4,h5,h6,h7,h8])]
  rw [e1]
  have hne : ∀ v : UInt8,x ≠ v → bt s q ≠ (v.toNat : Int):=fun v hv e => by
   rw [hb] at e
   apply hv
   apply UInt8.toNat_inj.1
   omega
  refine (esc_none (w:=w) hs ?_).mono ?_
  ·intro c hc
   simp at hc
   rcases hc with rfl | rfl | rfl | rfl | rfl | rfl | rfl | rfl | rfl
   ·exact hne 34 h1
   ·exact hne 92 h2
   ·exact hne 47 h3
   ·exact hne 98 h4
   ·exact hne 102 h5
   ·exact hne 110 h6
   ·exact hne 114 h7
   ·exact hne 116 h8
   ·exact hne 117 h9
  ·rintro e w' ⟨rfl,rfl⟩
   exact ⟨⟨_,_,rfl⟩,Below.refl _ _⟩
end
section
open Go Go.RowKit
attribute [local irreducible] srcB unitS
theorem sF_tail_iff (s t : ByteArray) : ∀ (n q : Nat),t.size - q ≤ n → (sF (s ++ t) (s.size + q) = (0,0) ↔ sF t q = (0,0)):=by
 intro n
 induction n with
 | zero =>
  intro q hq
  rw [sF_end _ _ (by rw [ByteArray.size_append];omega),sF_end t q (by omega)]
 | succ n ih =>
  intro q hq
  by_cases hlt : q < t.size
  ·have hw:=dec_w t q hlt
   obtain ⟨e1,e2⟩:=stC_eq (dec_app2 s t q)
   rw [sF_step t q hlt,sF_step _ _ (by rw [ByteArray.size_append];omega),e1,e2]
   by_cases hc : sourceB (stC t q) = true
   ·rw [if_pos hc,if_pos hc,Nat.add_assoc]
    exact ih _ (by omega)
   ·rw [if_neg hc,if_neg hc]
    constructor
    ·intro h;exact absurd (congrArg Prod.snd h) (by simp)
    ·intro h;exact absurd (congrArg Prod.snd h) (by simp)
  ·rw [sF_end _ _ (by rw [ByteArray.size_append];omega),sF_end t q hlt]
theorem src_iff (x : Bs) : srcB x = none ↔ sF ⟨x.toArray⟩ 0 = (0,0):=⟨sF_none,src_of⟩
theorem mk_app (x y : Bs) : (ByteArray.mk (x ++ y).toArray) = ByteArray.mk x.toArray ++ ByteArray.mk y.toArray:=by
 apply ByteArray.ext;simp
theorem mk_size (x : Bs) : (ByteArray.mk x.toArray).size = x.length:=by
 show x.toArray.size = _
 simp
def srcH (l : Bs) : Option Nat:=if l ≠ [] ∧ sourceB (stC ⟨l.toArray⟩ 0) = true then some (stW ⟨l.toArray⟩ 0) else none
theorem srcH_facts {l : Bs} {k : Nat} (h : srcH l = some k) : 1 ≤ k ∧ k ≤ l.length ∧ sourceB (stC ⟨l.toArray⟩ 0) = true ∧ stW ⟨l.toArray⟩ 0 = k:=by
 unfold srcH at h
 split at h
 ·rename_i hc
  have hk : stW ⟨l.toArray⟩ 0 = k:=by simpa using h
  have:=dec_w ⟨l.toArray⟩ 0 (by rw [mk_size];exact List.length_pos_iff.2 hc.1)
  rw [mk_size,hk] at this
  exact ⟨this.1,by omega,hc.2,hk⟩
 ·cases h
theorem srcC_H (s : Bs) (p : Nat) : srcC s p = srcH (s.drop p):=by
 unfold srcC srcH
 by_cases hp : p < s.length
 ·have hd:=dec_drop ⟨s.toArray⟩ p 0 (by rw [mk_size];omega)
  have e : (ByteArray.mk s.toArray).extract p (ByteArray.mk s.toArray).size = ⟨(s.drop p).toArray⟩:=by
   rw [mk_size]
   apply ByteArray.ext;apply Array.toList_inj.1
   simp
   exact List.take_of_length_le (by simp)
  rw [e,Nat.add_zero] at hd
  obtain ⟨e1,e2⟩:=stC_eq hd
  rw [e1,e2]
  have hne : s.drop p ≠ []:=by
   intro h
   have:=congrArg List.length h
   rw [List.length_drop] at this
   simp at this
   omega
  simp [hp,hne]
 ·have : s.drop p = []:=List.drop_eq_nil_of_le (by omega)
  simp [hp,this]
theorem src_head {l : Bs} {k : Nat} (h : srcH l = some k) : srcB l = none ↔ srcB (l.drop k) = none:=by
 obtain ⟨h1,h2,h3,h4⟩:=srcH_facts h
 rw [src_iff,src_iff,sF_step _ _ (by rw [mk_size];omega),if_pos h3,h4,Nat.zero_add]
 have e:=mk_app (l.take k) (l.drop k)
 rw [List.take_append_drop] at e
 rw [e]
 have hs : (ByteArray.mk (l.take k).toArray).size = k:=by rw [mk_size,List.length_take];omega
 have ht:=sF_tail_iff ⟨(l.take k).toArray⟩ ⟨(l.drop k).toArray⟩ _ 0 (Nat.le_refl _)
 rw [hs,Nat.add_zero] at ht
 exact ht
theorem srcH_pre {x r : Bs} {k : Nat} (h : srcH (x ++ r) = some k) (hk : k ≤ x.length) : srcH x = some k:=by
 obtain ⟨h1,h2,h3,h4⟩:=srcH_facts h
 have hne : Utf8.decode ⟨(x ++ r).toArray⟩ 0 ≠ (65533,1):=source_dec h3
 have ht:=dec_take ⟨(x ++ r).toArray⟩ x.length 0 (by rw [mk_size,List.length_append];omega) (by omega) (by have h5 : (Utf8.decode ⟨(x ++ r).toArray⟩ 0).2 = k:=h4;rw [h5];omega) hne
 rw [take_mk,List.take_left' rfl] at ht
 obtain ⟨e1,e2⟩:=stC_eq ht
 unfold srcH
 rw [if_pos ⟨fun e => by have:=congrArg List.length e;simp only [List.length_nil] at this;omega,by rw [e1];exact h3⟩,e2,h4]
theorem srcH_ext {x : Bs} {k : Nat} (r : Bs) (h : srcH x = some k) : srcH (x ++ r) = some k:=by
 obtain ⟨h1,h2,h3,h4⟩:=srcH_facts h
 have hne : Utf8.decode ⟨x.toArray⟩ 0 ≠ (65533,1):=source_dec h3
 have ht:=dec_app ⟨x.toArray⟩ ⟨r.toArray⟩ 0 (by rw [mk_size];omega) hne
 rw [← mk_app] at ht
 obtain ⟨e1,e2⟩:=stC_eq ht
 unfold srcH
 rw [if_pos ⟨fun e => by have:=congrArg List.length e;simp only [List.length_append,List.length_nil] at this;omega,by rw [e1];exact h3⟩,e2,h4]
theorem src_first {x : Bs} (hx : x ≠ []) (h : srcB x = none) : ∃ k,srcH x = some k:=by
 rw [src_iff,sF_step _ _ (by rw [mk_size];exact List.length_pos_iff.2 hx)] at h
 by_cases hc : sourceB (stC ⟨x.toArray⟩ 0) = true
 ·exact ⟨_,if_pos ⟨hx,hc⟩⟩
 ·rw [if_neg hc] at h;cases h
theorem srcH_bytes {l : Bs} {k : Nat} (h : srcH l = some k) : (∃ c r,l = c :: r ∧ c.toNat < 128 ∧ k = 1 ∧ stC ⟨l.toArray⟩ 0 = (c.toNat : Int)) ∨ (128 ≤ stC ⟨l.toArray⟩ 0 ∧ ∀ c ∈ l.take k,128 ≤ c.toNat):=by
 obtain ⟨h1,h2,h3,h4⟩:=srcH_facts h
 cases l with
 | nil => simp at h2;omega
 | cons c r =>
  have hg : (ByteArray.mk (c :: r).toArray).get! 0 = c:=get_mk (c :: r) 0 (by simp)
  by_cases hc : c.toNat < 128
  ·left
   have hd:=dec_ascii ⟨(c :: r).toArray⟩ 0 (by rw [hg];exact hc)
   have hs:=stC_ascii ⟨(c :: r).toArray⟩ 0 (by rw [hg];exact hc)
   refine ⟨c,r,rfl,hc,?_,by rw [hs,hg]⟩
   unfold stW at h4
   rw [hd] at h4
   exact h4.symm
  ·right
   have hne : Utf8.decode ⟨(c :: r).toArray⟩ 0 ≠ (65533,1):=source_dec h3
   obtain ⟨g1,g2,g3⟩:=enc_of_dec ⟨(c :: r).toArray⟩ 0 (by rw [mk_size];simp) hne
   have hst : stC ⟨(c :: r).toArray⟩ 0 = ((Utf8.decode ⟨(c :: r).toArray⟩ 0).1 : Int):=by unfold stC;rw [if_neg hne]
   have hk : (Utf8.decode ⟨(c :: r).toArray⟩ 0).2 = k:=h4
   rw [hk,Nat.zero_add,take_mk] at g3
   generalize (Utf8.decode ⟨(c :: r).toArray⟩ 0).1 = n at *
   have hl:=encode_list n g1
   rw [hl] at g3
   have g4 : (c :: r).take k = (encL n).map UInt8.ofNat:=by
    have:=congrArg (fun b : ByteArray => b.data.toList) g3
    simpa using this
   have hbig:=encL_lt n (valid_char n g1).2.1
   have hn : 128 ≤ n:=by
    rcases Nat.lt_or_ge n 128 with hlt | hge
    ·exfalso
     unfold encL at g4
     rw [if_pos hlt] at g4
     have : (c :: r).take k = c :: r.take (k - 1):=by
      obtain ⟨j,rfl⟩ : ∃ j,k = j + 1:=⟨k - 1,by omega⟩
      rfl
     rw [this] at g4
     have hc2 : c = UInt8.ofNat n:=by
      have:=congrArg List.head? g4
      simpa using this
     rw [hc2] at hc
     simp at hc
     omega
    ·exact hge
   refine ⟨by rw [hst];omega,?_⟩
   intro d hd
   rw [g4] at hd
   obtain ⟨y,hy,rfl⟩:=List.mem_map.1 hd
   have hy2:=hbig y hy
   have hy3 : 128 ≤ y:=by
    unfold encL at hy
    rw [if_neg (by omega)] at hy
    split at hy
    ·simp at hy;omega
    ·split at hy
     ·simp at hy;omega
     ·simp at hy;omega
   simp
   omega
def xlF (s : Bs) : Nat → Nat → Option (Bs × Nat)
 | 0,_ => none
 | n + 1,i => match srcC s i with
  | none => none
  | some k => if bt s i = 10 ∨ bt s i = 13 then none else if bt s i = 34 then some ([],i + 1) else if bt s i = 92 then (match escS (s.drop (i + 1)) with
   | none => none
   | some p => (xlF s n (s.length - p.2.length)).map fun q => (p.1 ++ q.1,q.2)) else (xlF s n (i + k)).map fun q => ((s.drop i).take k ++ q.1,q.2)
def lineC (l : Bs) : Option (Bs × Bs):=(lineS l).bind fun p => if (srcB (ahead l p.2)).isSome then none else some p
theorem isSome_iff (o : Option Nat) : o.isSome = true ↔ ¬ o = none:=by cases o <;> simp
theorem lineC_of {l t r : Bs} (h : lineS l = some (t,r)) (hs : srcB (ahead l r) = none) : lineC l = some (t,r):=by
 unfold lineC
 rw [h,Option.bind_some,if_neg (by rw [isSome_iff];simp [hs])]
theorem lineC_bad {l t r : Bs} (h : lineS l = some (t,r)) (hs : ¬ srcB (ahead l r) = none) : lineC l = none:=by
 unfold lineC
 rw [h,Option.bind_some,if_pos (by rw [isSome_iff];exact hs)]
theorem lineC_none {l : Bs} (h : lineS l = none) : lineC l = none:=by unfold lineC;rw [h];rfl
theorem line_ahead {l t r : Bs} (h : lineS l = some (t,r)) : l = ahead l r ++ r ∧ ahead l r ≠ []:=by
 obtain ⟨x,rfl⟩:=lineF_suf _ _ _ _ h
 have hlt:=lineF_lt _ _ _ _ h
 rw [ahead_app]
 refine ⟨rfl,?_⟩
 rintro rfl
 simp at hlt
theorem lineC_no {l : Bs} (h : srcH l = none) : lineC l = none:=by
 cases hl : lineS l with
 | none => exact lineC_none hl
 | some p =>
  obtain ⟨t,r⟩:=p
  obtain ⟨e,hne⟩:=line_ahead hl
  refine lineC_bad hl fun hs => ?_
  obtain ⟨k,hk⟩:=src_first hne hs
  have:=srcH_ext r hk
  rw [← e,h] at this
  cases this
theorem lineC_step {x l : Bs} {y : Bs} (hline : ∀ m,lineS (x ++ m) = (lineS m).map fun q => (y ++ q.1,q.2)) (hsrc : ∀ m,srcB (x ++ m) = none ↔ srcB m = none) : lineC (x ++ l) = (lineC l).map fun q => (y ++ q.1,q.2):=by
 cases hl : lineS l with
 | none =>
  rw [lineC_none hl,lineC_none (by rw [hline,hl];rfl)]
  rfl
 | some p =>
  obtain ⟨t,r⟩:=p
  have h2 : lineS (x ++ l) = some (y ++ t,r):=by rw [hline,hl];rfl
  obtain ⟨e,_⟩:=line_ahead hl
  have ea : ahead (x ++ l) r = x ++ ahead l r:=by
   conv => lhs;rw [e,← List.append_assoc]
   exact ahead_app _ _
  by_cases hs : srcB (ahead l r) = none
  ·rw [lineC_of hl hs,lineC_of h2 (by rw [ea,hsrc];exact hs)]
   rfl
  ·rw [lineC_bad hl hs,lineC_bad h2 (by rw [ea,hsrc];exact hs)]
   rfl
theorem hsrc_of {x : Bs} {k : Nat} (h : srcH x = some k) (hk : k = x.length) : ∀ m,srcB (x ++ m) = none ↔ srcB m = none:=fun m => by
 have:=src_head (srcH_ext m h)
 rw [hk,List.drop_left' rfl] at this
 exact this
theorem plain_iff (c : UInt8) (hc : 32 ≤ c.toNat ∧ c.toNat < 128) (m : Bs) : srcB (c :: m) = none ↔ srcB m = none:=by
 have h : srcH [c] = some 1:=by
  have hg : (ByteArray.mk [c].toArray).get! 0 = c:=get_mk [c] 0 (by simp)
  have hd:=dec_ascii ⟨[c].toArray⟩ 0 (by rw [hg];exact hc.2)
  have hs:=stC_ascii ⟨[c].toArray⟩ 0 (by rw [hg];exact hc.2)
  unfold srcH
  rw [if_pos ⟨by simp,by rw [hs,hg];unfold sourceB;simp;omega⟩]
  unfold stW
  rw [hd]
 exact hsrc_of h rfl m
theorem esc_plain {l t r : Bs} (h : escS l = some (t,r)) : ∃ x,l = x ++ r ∧ ∀ c ∈ x,32 ≤ c.toNat ∧ c.toNat < 128:=by
 cases l with
 | nil => cases h
 | cons c m =>
  unfold escS at h
  split at h
  ·rename_i hp
   have hc : c = 117:=by
    have : (117 == c) = true:=by simpa [List.isPrefixOf] using hp
    exact (beq_iff_eq.1 this).symm
   subst hc
   have hm : nmbS m = some (t,r):=h
   match m,hm with
   | a :: b :: d :: e :: m',hm =>
    rw [nmbS_four] at hm
    unfold hexQ at hm
    cases ha : hexV a with
    | none => rw [ha] at hm;cases hm
    | some x1 =>
     cases hb : hexV b with
     | none => rw [ha,hb] at hm;cases hm
     | some x2 =>
      cases hd : hexV d with
      | none => rw [ha,hb,hd] at hm;cases hm
      | some x3 =>
       cases he : hexV e with
       | none => rw [ha,hb,hd,he] at hm;cases hm
       | some x4 =>
        rw [ha,hb,hd,he] at hm
        simp only [Option.bind_some,Option.map_some,Option.some.injEq,Prod.mk.injEq] at hm
        refine ⟨[117,a,b,d,e],by rw [← hm.2];rfl,?_⟩
        intro z hz
        simp at hz
        rcases hz with rfl | rfl | rfl | rfl | rfl
        ·decide
        ·exact hexV_bd ha
        ·exact hexV_bd hb
        ·exact hexV_bd hd
        ·exact hexV_bd he
  ·simp only at h
   split at h
   ·rename_i hc
    simp only [Option.some.injEq,Prod.mk.injEq] at h
    refine ⟨[c],by rw [h.2];rfl,?_⟩
    intro z hz
    obtain rfl : z = c:=by simpa using hz
    have : z ∈ escL:=List.contains_iff_mem.1 hc
    simp [escL] at this
    rcases this with rfl | rfl | rfl | rfl | rfl | rfl | rfl | rfl <;> decide
   ·cases h
theorem plains_iff : ∀ (x m : Bs),(∀ c ∈ x,32 ≤ c.toNat ∧ c.toNat < 128) → (srcB (x ++ m) = none ↔ srcB m = none)
 | [],_,_ => Iff.rfl
 | c :: x,m,h => (plain_iff c (h c List.mem_cons_self) (x ++ m)).trans (plains_iff x m fun d hd => h d (List.mem_cons_of_mem _ hd))
theorem line_his : ∀ (x m : Bs),(∀ c ∈ x,128 ≤ c.toNat) → lineS (x ++ m) = (lineS m).map fun q => (x ++ q.1,q.2)
 | [],m,_ => by
  show lineS m = _
  cases lineS m <;> rfl
 | c :: x,m,h => by
  show lineS (c :: (x ++ m)) = _
  rw [line_hi _ (h c List.mem_cons_self),line_his x m fun d hd => h d (List.mem_cons_of_mem _ hd)]
  cases lineS m <;> rfl
theorem xl_line (s : Bs) : ∀ (n i : Nat),s.length - i < n → (xlF s n i).map (fun q => (q.1,s.drop q.2)) = lineC (s.drop i):=by
 intro n
 induction n with
 | zero => intro i h;omega
 | succ n ih =>
  intro i hi
  unfold xlF
  cases hs : srcC s i with
  | none =>
   rw [srcC_H] at hs
   rw [lineC_no hs]
   rfl
  | some k =>
   have hH:=hs
   rw [srcC_H] at hH
   obtain ⟨k1,k2,_,_⟩:=srcH_facts hH
   rw [List.length_drop] at k2
   simp only
   rcases srcH_bytes hH with ⟨c,r,hl,hc,rfl,_⟩ | ⟨_,hbig⟩
   ·have hb:=bt_drop s i c r hl
    have hr : s.drop (i + 1) = r:=by
     have:=congrArg (List.drop 1) hl
     rw [List.drop_drop] at this
     exact this
    have hcI : ∀ v : UInt8,bt s i = (v.toNat : Int) ↔ c = v:=fun v => by
     rw [hb]
     constructor
     ·intro e;apply UInt8.toNat_inj.1;omega
     ·rintro rfl;rfl
    have e10:=hcI 10
    have e13:=hcI 13
    have e34:=hcI 34
    have e92:=hcI 92
    simp only [show ((10 : UInt8).toNat : Int) = 10 from rfl,show ((13 : UInt8).toNat : Int) = 13 from rfl,show ((34 : UInt8).toNat : Int) = 34 from rfl,show ((92 : UInt8).toNat : Int) = 92 from rfl] at e10 e13 e34 e92
    rw [hl]
    by_cases h1 : c = 10 ∨ c = 13
    ·rw [if_pos (by rw [e10,e13];exact h1)]
     rw [lineC_none]
     ·rfl
     ·exact lineS_end (by rcases h1 with rfl | rfl <;> rfl) (by rcases h1 with rfl | rfl <;> rfl) (by rcases h1 with rfl | rfl <;> rfl)
    ·rw [if_neg (by rw [e10,e13];exact h1)]
     by_cases h2 : c = 34
     ·rw [if_pos (e34.2 h2)]
      subst h2
      have ha : ahead (34 :: r) r = [34]:=ahead_app [34] r
      rw [lineC_of (lineS_stop (l:=34 :: r) rfl) (by show srcB (ahead (34 :: r) r) = none;rw [ha];exact src_plain _ (by decide))]
      simp [hr]
     ·rw [if_neg (fun e => h2 (e34.1 e))]
      by_cases h3 : c = 92
      ·rw [if_pos (e92.2 h3)]
       subst h3
       rw [hr]
       have hle:=lineS_esc (l:=92 :: r) rfl rfl
       simp only [List.drop_succ_cons,List.drop_zero] at hle
       cases he : escS r with
       | none =>
        rw [he] at hle
        rw [lineC_none hle]
        rfl
       | some p =>
        obtain ⟨t,r'⟩:=p
        obtain ⟨x,hx,hpl⟩:=esc_plain he
        have hsuf : r' = s.drop (s.length - r'.length):=by
         have h8 : s.drop (i + (1 + x.length)) = r':=by
          rw [← List.drop_drop,hl,hx,show 92 :: (x ++ r') = (92 :: x) ++ r' from rfl]
          exact List.drop_left' (by simp;omega)
         have h9:=congrArg List.length h8
         rw [List.length_drop] at h9
         have h10:=congrArg List.length hl
         rw [List.length_drop,List.length_cons,hx,List.length_append] at h10
         rw [show s.length - r'.length = i + (1 + x.length) by omega]
         exact h8.symm
        have hlt : r'.length < s.length - i:=by
         have h4:=(escS_facts he).2.1
         have h5:=congrArg List.length hl
         rw [List.length_drop,List.length_cons] at h5
         omega
        have ihr:=ih (s.length - r'.length) (by omega)
        rw [← hsuf] at ihr
        have hstep : lineC (92 :: r) = (lineC r').map fun q => (t ++ q.1,q.2):=by
         have:=lineC_step (x:=92 :: x) (l:=r') (y:=t) ?_ ?_
         ·rw [hx];exact this
         ·intro m
          have hh:=lineS_esc (l:=92 :: (x ++ m)) rfl rfl
          simp only [List.drop_succ_cons,List.drop_zero] at hh
          have he2 : escS (x ++ m) = some (t,m):=by
           have h7 : escS (x ++ r') = some (t,[] ++ r'):=by rw [← hx];exact he
           exact escS_ext m (escS_cut h7)
          show lineS (92 :: (x ++ m)) = _
          rw [hh,he2]
          rfl
         ·intro m
          exact plains_iff (92 :: x) m (by
           intro d hd
           rcases List.mem_cons.1 hd with rfl | hd
           ·decide
           ·exact hpl d hd)
        rw [hstep,← ihr]
        simp only
        cases xlF s n (s.length - r'.length) <;> rfl
      ·rw [if_neg (fun e => h3 (e92.1 e))]
       have hH1 : srcH [c] = some 1:=srcH_pre (x:=[c]) (r:=r) (by rw [hl] at hH;exact hH) (by simp)
       have hstep:=lineC_step (x:=[c]) (l:=r) (y:=[c]) (fun m => line_raw h2 h3 (by
        rw [Bool.eq_false_iff]
        intro e
        exact h1 (by simpa [endL] using e)) m) (hsrc_of hH1 rfl)
       have ihr:=ih (i + 1) (by omega)
       rw [hr] at ihr
       show Option.map _ (Option.map _ (xlF s n (i + 1))) = lineC ([c] ++ r)
       rw [hstep,← ihr]
       cases xlF s n (i + 1) <;> rfl
   ·have hb128 : 128 ≤ bt s i:=by
     cases hl : s.drop i with
     | nil => rw [hl] at hH;cases hH
     | cons c r =>
      rw [bt_drop s i c r hl]
      have:=hbig c (by
       rw [hl]
       obtain ⟨j,rfl⟩ : ∃ j,k = j + 1:=⟨k - 1,by omega⟩
       exact List.mem_cons_self)
      omega
    rw [if_neg (by omega),if_neg (by omega),if_neg (by omega)]
    have e:=List.take_append_drop k (s.drop i)
    have hH1 : srcH ((s.drop i).take k) = some k:=srcH_pre (x:=(s.drop i).take k) (r:=(s.drop i).drop k) (by rw [e];exact hH) (by rw [List.length_take,List.length_drop];omega)
    have hstep:=lineC_step (x:=(s.drop i).take k) (l:=(s.drop i).drop k) (y:=(s.drop i).take k) (fun m => line_his _ m hbig) (hsrc_of hH1 (by rw [List.length_take,List.length_drop];omega))
    rw [e,List.drop_drop] at hstep
    have ihr:=ih (i + k) (by omega)
    rw [hstep,← ihr]
    cases xlF s n (i + k) <;> rfl
end
end Go.Proofs.YtgppemlciohjcaaGreatDoor
