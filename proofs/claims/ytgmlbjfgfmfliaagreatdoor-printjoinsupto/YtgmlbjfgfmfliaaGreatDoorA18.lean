/- How a text is quoted, piece by piece. -/
import Derived.Test.YtgmlbjfgfmfliaaGreatDoorA15
import Derived.Laws.Bits64b
import Derived.Test.YtgmlbjfgfmfliaaGreatDoorA12
namespace Go.Proofs.YtgmlbjfgfmfliaaGreatDoor
open Go Go.RowKit Go.Lib
abbrev gT : Nat:=7
/-- The table's place that is read. -/
def Tz (w : World) : Prop:=w.cell? ⟨gT,15,none⟩ = some (.int .u8 4)
theorem Tz.below {w w' : World} (h : Tz w) {B : Nat} (hb : Below B w w') (hB : w.heap.size ≤ B) : Tz w':=by
 have hl : gT < w.heap.size:=World.block_lt_of_cell? w _ h
 unfold Tz World.cell? at h ⊢
 rw [hb.block gT (Nat.lt_of_lt_of_le hl hB)]
 exact h
theorem tz_e1 : IntKind.u64.wrap (-16) = 18446744073709551600:=by decide
theorem tz_e2 : bits .and .u64 16 18446744073709551600 = 16:=by decide +kernel
theorem tz_e3 : IntKind.u64.wrap 4573923408821661840 = 4573923408821661840:=by decide
set_option maxRecDepth 100000 in
set_option maxHeartbeats 1000000 in
theorem tz64_any (w : World) (h : Tz w) : Calls Tryz.prog 266 #[.int .u64 16] w fun e w' => e = .returned (.int .i64 4) ∧ w' = w:=by
 have h' : w.cell? ⟨7,15,none⟩ = some (.int .u8 4):=h
 have e1:=tz_e1
 have e2:=tz_e2
 have e3:=tz_e3
 go_enter Tryz.func266,Tryz.ntmps266
 go_wp2
 go_ret
 exact ⟨rfl,rfl⟩
theorem tz_any (w : World) (h : Tz w) : Calls Tryz.prog 251 #[.int .u64 16] w fun e w' => e = .returned (.int .i64 4) ∧ w' = w:=by
 have T:=tz64_any w h
 go_enter Tryz.func251,Tryz.ntmps251
 go_wp2_with (go_at_call 266;refine T.mono ?_;rintro e w1 ⟨rfl,rfl⟩)
 go_ret
 exact ⟨rfl,rfl⟩
theorem pow2_any (w : World) : Calls Tryz.prog 250 #[.int .i64 16] w fun e w' => e = .returned (.bool true) ∧ w' = w:=by
 have e1 : bits .and .i64 16 15 = 0:=by decide
 go_enter Tryz.func250,Tryz.ntmps250
 go_wp2
 go_ret
 exact ⟨rfl,rfl⟩
/-- The digits of a number. -/
def hexS (n : Nat) : Bs:=if n < 16 then [hexD n] else hexS (n / 16) ++ [hexD (n % 16)]
termination_by n
decreasing_by omega
theorem hexS_small {n : Nat} (h : n < 16) : hexS n = [hexD n]:=by unfold hexS;rw [if_pos h]
theorem hexS_great {n : Nat} (h : ¬ n < 16) : hexS n = hexS (n / 16) ++ [hexD (n % 16)]:=by conv => lhs;unfold hexS;rw [if_neg h]
theorem and15 (n : Nat) (h : n < 18446744073709551616) : bits .and .u64 (n : Int) 15 = ((n % 16 : Nat) : Int):=by
 have:=bits_and_u64_nat n 15 h (by decide)
 rw [show ((15 : Nat) : Int) = 15 from rfl] at this
 rw [this,show (15 : Nat) = 2 ^ 4 - 1 from rfl,Nat.and_two_pow_sub_one_eq_mod]
/-- The digits' signs. -/
def digS : Array UInt8:=#[48,49,50,51,52,53,54,55,56,57,97,98,99,100,101,102,103,104,105,106,107,108,109,110,111,112,113,114,115,116,117,118,119,120,121,122]
theorem digS_at : ∀ j : Fin 16,(ByteArray.mk digS)[j.val]'(by have:=j.isLt;show j.val < 36;omega) = hexD j.val:=by decide
/-- The array while the digits are laid from its end. -/
structure ArrS (W : World) (A : Nat) (d : Bs) : Prop where
 row : ∃ cur : Array Value,W.heap[A]? = some (.cells cur 241 (0,0)) ∧ cur.size = 65 ∧ cur.toList.drop (65 - d.length) = Lib.byteCells d
 len : d.length ≤ 64
theorem ArrS.put {W : World} {A : Nat} {d : Bs} (h : ArrS W A d) (hd : d.length ≤ 63) (c : UInt8) : ArrS (W.setCell ⟨A,65 - d.length - 1,none⟩ (.int .u8 (c.toNat : Int))) A (c :: d):=by
 obtain ⟨cur,h1,h2,h3⟩:=h.row
 refine ⟨⟨_,heap_setCell_same W A (65 - d.length - 1) _ _ _ h1,by simp [h2],?_⟩,by simp;omega⟩
 have hl : cur.toList.length = 65:=by simp [h2]
 rw [Array.toList_setIfInBounds]
 have e : 65 - (c :: d).length = 65 - d.length - 1:=by simp;omega
 rw [e]
 have e2 : (cur.toList.set (65 - d.length - 1) (.int .u8 (c.toNat : Int))).drop (65 - d.length - 1) = .int .u8 (c.toNat : Int) :: cur.toList.drop (65 - d.length):=by
  rw [List.drop_eq_getElem_cons (by simp;omega),List.getElem_set_self]
  congr 1
  rw [List.drop_set_of_lt (by omega)]
  congr 1
  omega
 rw [e2,h3]
 rfl
theorem ArrS.cell {W : World} {A : Nat} {d : Bs} (h : ArrS W A d) (i : Nat) (hi : i < 65) : ∃ v,W.cell? ⟨A,i,none⟩ = some v:=by
 obtain ⟨cur,h1,h2,h3⟩:=h.row
 refine ⟨cur[i]'(by omega),?_⟩
 simp [World.cell?,h1,h2,hi]
theorem ArrS.free {W : World} {A : Nat} {d : Bs} (h : ArrS W A d) (i : Nat) : W.frozen? ⟨A,i,none⟩ = false:=by
 obtain ⟨cur,h1,_⟩:=h.row
 exact frozen_of_row W A i _ _ h1
end Go.Proofs.YtgmlbjfgfmfliaaGreatDoor
namespace Go.Proofs.YtgmlbjfgfmfliaaGreatDoor
open Go Go.RowKit Go.Lib
theorem ArrS.back {W : World} {A : Nat} {d : Bs} (h : ArrS W A d) :
  (convert 60 9 (.slice (some ⟨A,65 - d.length,none⟩) d.length d.length)).run Tryz.prog W = .ok (.string ⟨d.toArray⟩) W:=by
 obtain ⟨cur,h1,h2,h3⟩:=h.row
 have hl:=h.len
 exact run_convert_bytes_back (P:=Tryz.prog) W 60 9 5 ⟨A,65 - d.length,none⟩ d.length d Tryz.underlying60 Tryz.underlying5 Tryz.underlying9 (by
  intro j hj
  have hb : (Lib.byteCells d)[j]? = some (.int .u8 (d[j].toNat : Int)):=by simp [Lib.byteCells,hj]
  rw [← h3,List.getElem?_drop] at hb
  rw [Addr.add_lit]
  unfold World.cell?
  rw [h1]
  simpa using hb)
set_option maxRecDepth 100000 in
set_option maxHeartbeats 4000000 in
theorem fbits_any (n : Nat) (hn : n < 65536) (w : World) (hz : Tz w) : Calls Tryz.prog 235 #[.slice none 0 0,.int .u64 (n : Int),.int .i64 16,.bool false,.bool false] w fun e w' => e = .returned (.tuple #[.slice none 0 0,.string ⟨(hexS n).toArray⟩]) ∧ Below w.heap.size w w':=by
 have P:=fun w => pow2_any w
 have Z:=fun w h => tz_any w h
 have hnI : (n : Int) < 65536:=by omega
 go_enter Tryz.func235,Tryz.ntmps235
 go_wp2_with (first
  | (go_at_call 250;refine (P _).mono ?_;rintro e w1 ⟨rfl,rfl⟩)
  | (go_at_call 251;refine (Z _ (hz.below ((Below.refl _ w).alloc (Nat.le_refl _) _) (Nat.le_refl _))).mono ?_;rintro e w1 ⟨rfl,rfl⟩)
  | fail)
 have hA0 : ArrS (w.alloc (.cells Tryz.zeroCells241 241)) w.heap.size []:=by
  refine ⟨⟨_,heap_alloc_new _ _,by decide +kernel,?_⟩,by simp⟩
  have e : Tryz.zeroCells241.toList.length = 65:=by decide +kernel
  exact List.drop_eq_nil_iff.2 (by simp only [List.length_nil];omega)
 have hB0 : Below w.heap.size w (w.alloc (.cells Tryz.zeroCells241 241)):=(Below.refl _ w).alloc (Nat.le_refl _) _
 generalize (w.alloc (.cells Tryz.zeroCells241 241)) = W0 at *
 go_loopw [1,13] (fun u i wr => ∃ (m : Nat) (d : Bs),u = .int .u64 (m : Int) ∧ i = .int .i64 ((65 - d.length : Nat) : Int) ∧ m < 65536 ∧ d.length ≤ 3 ∧ 16 ^ d.length * m ≤ n ∧ hexS m ++ d = hexS n ∧ ArrS wr w.heap.size d ∧ Below w.heap.size w wr) (fun u _ _ => (RowKit.intOf u).toNat)
 case atStart => exact ⟨n,[],rfl,rfl,hn,by simp,by simp,by simp,hA0,hB0⟩
 case round =>
  obtain ⟨m,d,rfl,rfl,hm,hd,hpw,hx,hA,hb⟩:=hrel
  clear hA0 hB0
  obtain ⟨v,hc⟩:=hA.cell (65 - d.length - 1) (by omega)
  have hf:=hA.free (65 - d.length - 1)
  have hi : ((65 - d.length : Nat) : Int) - 1 = ((65 - d.length - 1 : Nat) : Int):=by omega
  have hi2 : ((65 - d.length - 1 : Nat) : Int) < 65:=by omega
  have hi3 : (0 : Int) ≤ ((65 - d.length - 1 : Nat) : Int):=by omega
  by_cases hge : 16 ≤ m
  ·have hgI : (16 : Int) ≤ (m : Int):=by omega
   have hand:=and15 m (by omega)
   have hdg:=digS_at ⟨m % 16,Nat.mod_lt _ (by decide)⟩
   have hr16 : ((m % 16 : Nat) : Int) < 36:=by omega
   have hr0 : (0 : Int) ≤ ((m % 16 : Nat) : Int):=by omega
   have hput:=hA.put (by omega) (hexD (m % 16))
   have HA : Hid (ArrS (wr.setCell ⟨w.heap.size,65 - d.length - 1,none⟩ (.int .u8 ((hexD (m % 16)).toNat : Int))) w.heap.size (hexD (m % 16) :: d)):=hput
   have HX : Hid (hexS (m / 16) ++ (hexD (m % 16) :: d) = hexS n):=by
    show _ = _
    rw [← hx,hexS_great (show ¬ m < 16 by omega)]
    simp
   have HD : Hid (d.length + 1 ≤ 3):=by
    show _ ≤ _
    rcases Nat.lt_or_ge d.length 3 with h3 | h3
    ·exact h3
    ·exfalso
     have e : d.length = 3:=by omega
     rw [e] at hpw
     omega
   have HP : Hid (16 ^ (d.length + 1) * (m / 16) ≤ n):=by
    show _ ≤ _
    refine Nat.le_trans ?_ hpw
    rw [Nat.pow_succ,Nat.mul_assoc]
    exact Nat.mul_le_mul_left _ (Nat.mul_div_le m 16)
   have HM : Hid (m / 16 < m):=by show _ < _;omega
   have HM2 : Hid (m / 16 < 65536):=by show _ < _;omega
   have hdiv : (m : Int) / 16 = ((m / 16 : Nat) : Int):=by omega
   have HI : Hid (65 - d.length - 1 = 65 - (hexD (m % 16) :: d).length):=by show _ = _;simp;omega
   have hdg' : ∀ hh,(ByteArray.mk #[48,49,50,51,52,53,54,55,56,57,97,98,99,100,101,102,103,104,105,106,107,108,109,110,111,112,113,114,115,116,117,118,119,120,121,122])[m % 16]'hh = hexD (m % 16):=fun _ => hdg
   dsimp only at hdg'
   clear hput hx hpw hd hge hdg
   generalize hq : m % 16 = q at *
   generalize m / 16 = m2 at *
   generalize hexD q = c at *
   generalize hk : 65 - d.length = k at *
   clear hq
   go_wp2
   refine ⟨⟨m2,c :: d,rfl,by rw [HI.out],HM2.out,HD.out,HP.out,HX.out,HA.out,hb.setCell (p:=⟨w.heap.size,k - 1,none⟩) (Nat.le_refl _) _⟩,?_⟩
   have:=HM.out
   simp [RowKit.intOf]
   omega
  ·have hgI : ¬ (16 : Int) ≤ (m : Int):=by omega
   have hdg:=digS_at ⟨m,by omega⟩
   have hr16 : (m : Int) < 36:=by omega
   have hput:=hA.put (by omega) (hexD m)
   have hback:=hput.back
   have HX : Hid (hexD m :: d = hexS n):=by
    show _ = _
    rw [← hx,hexS_small (by omega)]
    rfl
   have hdg' : ∀ hh,(ByteArray.mk #[48,49,50,51,52,53,54,55,56,57,97,98,99,100,101,102,103,104,105,106,107,108,109,110,111,112,113,114,115,116,117,118,119,120,121,122])[m]'hh = hexD m:=fun _ => hdg
   dsimp only at hdg'
   have e1 : 65 - (hexD m :: d).length = 65 - d.length - 1:=by simp;omega
   have e2 : (hexD m :: d).length = 65 - (65 - d.length - 1):=by simp;omega
   rw [e1,e2] at hback
   have hi4 : 65 - ((65 - d.length - 1 : Nat) : Int) = ((65 - (65 - d.length - 1) : Nat) : Int):=by omega
   have hne : ¬ (65 - (65 - d.length - 1) = 0):=by omega
   clear hput hx hpw hdg e1 e2
   generalize hexD m = c at *
   generalize hT : (c :: d).toArray = T at *
   have HT : Hid ((c :: d).toArray = T):=hT
   clear hT
   have hk1 : 65 - d.length - 1 ≤ 64:=by omega
   have hk2 : 61 ≤ 65 - d.length - 1:=by omega
   generalize 65 - d.length = k at *
   generalize k - 1 = j at *
   have hal : Tryz.prog.arrayLen 241 = 65:=by simp [Program.arrayLen,Tryz.underlying241]
   have hsl : ∀ W,(Instr.sliceAt 241 (.pointer (some ⟨w.heap.size,0,none⟩)) (some (.int .i64 (j : Int))) none none).run Tryz.prog W = .ok (.slice (some ⟨w.heap.size,j,none⟩) (65 - j) (65 - j)) W:=fun W => by
    have hj : ¬ 65 = j:=by omega
    rw [run_sliceAt_array_l W 241 ⟨w.heap.size,0,none⟩ (by simp [Program.arrayLen,Program.elem,Tryz.underlying241]) .i64 (j : Int) (by omega) (by rw [hal];omega),hal]
    have he : Tryz.prog.elem 241 = 5:=by simp [Program.elem,Tryz.underlying241]
    rw [he]
    simp [go_sem,slicedAt,hj,Addr.add]
    omega
   clear hal
   go_wp2
   go_ret2
   rw [← HX.out]
   exact ⟨by rw [HT.out];rfl,hb.setCell (p:=⟨w.heap.size,j,none⟩) (Nat.le_refl _) _⟩
set_option maxRecDepth 100000 in
theorem ifmt_any (n : Nat) (hn : n < 65536) (w : World) (hz : Tz w) : Calls Tryz.prog 224 #[.int .i64 (n : Int),.int .i64 16] w fun e w' => e = .returned (.string ⟨(hexS n).toArray⟩) ∧ Below w.heap.size w w':=by
 have F:=fbits_any n hn w hz
 have h0 : (0 : Int) ≤ (n : Int):=by omega
 have h1 : (n : Int) < 65536:=by omega
 have h2 : decide ((n : Int) < 0) = false:=by simp
 clear hn
 generalize (n : Int) = X at *
 go_enter Tryz.func224,Tryz.ntmps224
 go_wp2_with (go_at_call 235;refine F.mono ?_;rintro e w1 ⟨rfl,hb1⟩)
 go_ret
 exact ⟨rfl,hb1⟩
theorem sfmt_any (n : Nat) (hn : n < 65536) (w : World) (hz : Tz w) : Calls Tryz.prog 215 #[.int .i64 (n : Int),.int .i64 16] w fun e w' => e = .returned (.string ⟨(hexS n).toArray⟩) ∧ Below w.heap.size w w':=by
 have F:=ifmt_any n hn w hz
 generalize (n : Int) = X at *
 go_enter Tryz.func215,Tryz.ntmps215
 go_wp2_with (go_at_call 224;refine F.mono ?_;rintro e w1 ⟨rfl,hb1⟩)
 go_ret
 exact ⟨rfl,hb1⟩
theorem hexS_cases (n : Nat) (hn : n < 65536) : (hexS n).length ≤ 4 ∧ 1 ≤ (hexS n).length ∧ escQ n = [92,117] ++ (List.replicate (4 - (hexS n).length) 48 ++ hexS n):=by
 have z : hexD 0 = 48:=by decide
 unfold escQ
 by_cases h1 : n < 16
 ·rw [hexS_small h1]
  refine ⟨by simp,by simp,?_⟩
  rw [show n / 4096 = 0 by omega,show n / 256 % 16 = 0 by omega,show n / 16 % 16 = 0 by omega,show n % 16 = n by omega,z]
  rfl
 ·rw [hexS_great h1]
  by_cases h2 : n / 16 < 16
  ·rw [hexS_small h2]
   refine ⟨by simp,by simp,?_⟩
   rw [show n / 4096 = 0 by omega,show n / 256 % 16 = 0 by omega,show n / 16 % 16 = n / 16 by omega,z]
   rfl
  ·rw [hexS_great h2]
   by_cases h3 : n / 16 / 16 < 16
   ·rw [hexS_small h3]
    refine ⟨by simp,by simp,?_⟩
    rw [show n / 4096 = 0 by omega,show n / 256 % 16 = n / 16 / 16 by omega,z]
    rfl
   ·rw [hexS_great h3,hexS_small (by omega)]
    refine ⟨by simp,by simp,?_⟩
    rw [show n / 4096 = n / 16 / 16 / 16 by omega,show n / 256 % 16 = n / 16 / 16 % 16 by omega]
    rfl
theorem escaped_any (n : Nat) (hn : n < 65536) (w : World) (hz : Tz w) : Calls Tryz.prog 200 #[.int .i64 (n : Int)] w fun e w' => e = .returned (.string ⟨(escQ n).toArray⟩) ∧ Below w.heap.size w w':=by
 have F:=sfmt_any n hn w hz
 obtain ⟨h4,h1,hq⟩:=hexS_cases n hn
 have hsz:=size_of (hexS n)
 have hcut : (ByteArray.mk #[48,48,48,48]).extract (hexS n).length 4 = ⟨(List.replicate (4 - (hexS n).length) 48).toArray⟩:=by
  rcases (by omega : (hexS n).length = 1 ∨ (hexS n).length = 2 ∨ (hexS n).length = 3 ∨ (hexS n).length = 4) with h | h | h | h <;> rw [h] <;> decide
 have hI : ((hexS n).length : Int) ≤ 4:=by omega
 have hlt:=hn
 rw [hq]
 have HQ : Hid ((ByteArray.mk #[92,117] ++ ⟨(List.replicate (4 - (hexS n).length) 48).toArray⟩) ++ ⟨(hexS n).toArray⟩ = ⟨([92,117] ++ (List.replicate (4 - (hexS n).length) 48 ++ hexS n)).toArray⟩):=by
  show _ = _
  apply ByteArray.ext;apply Array.toList_inj.1;simp
 generalize ([92,117] ++ (List.replicate (4 - (hexS n).length) 48 ++ hexS n)).toArray = T at *
 have hZ : (List.replicate (4 - (hexS n).length) (48 : UInt8)).toArray.size ≤ 4:=by simp
 generalize (List.replicate (4 - (hexS n).length) (48 : UInt8)).toArray = Z at *
 generalize (ByteArray.mk (hexS n).toArray) = H at *
 generalize (hexS n).length = k at *
 have h0 : (0 : Int) ≤ (n : Int):=by omega
 have h9 : (n : Int) < 65536:=by omega
 have z1 : ¬ 9223372036854775807 < 2 + Z.size:=by omega
 have z2 : ¬ 9223372036854775807 < 2 + Z.size + k:=by omega
 clear hn hlt hq
 generalize (n : Int) = X at *
 go_enter Tryz.func200,Tryz.ntmps200
 go_wp2_with (go_at_call 215;refine F.mono ?_;rintro e w1 ⟨rfl,hb1⟩)
 go_ret
 refine ⟨?_,hb1⟩
 rw [← HQ.out]
 rfl
end Go.Proofs.YtgmlbjfgfmfliaaGreatDoor
namespace Go.Proofs.YtgmlbjfgfmfliaaGreatDoor
open Go Go.RowKit
def halfC (c d e : UInt8) : Prop:=c = 237 ∧ 160 ≤ d.toNat ∧ d.toNat ≤ 191 ∧ 128 ≤ e.toNat ∧ e.toNat ≤ 191
instance (c d e : UInt8) : Decidable (halfC c d e):=by unfold halfC;infer_instance
def halfV (d e : UInt8) : Nat:=53248 + (d.toNat - 128) * 64 + (e.toNat - 128)
def halfN (c d e : UInt8) : Int:=((c.toNat : Int) - 224) * 4096 + ((d.toNat : Int) - 128) * 64 + (e.toNat : Int) - 128
theorem halfN_yes {c d e : UInt8} (h : halfC c d e) : halfN c d e = (halfV d e : Nat) ∧ 55296 ≤ halfV d e ∧ halfV d e ≤ 57343:=by
 obtain ⟨rfl,h1,h2,h3,h4⟩:=h
 unfold halfN halfV
 have : (237 : UInt8).toNat = 237:=rfl
 rw [this]
 omega
theorem u8_eq {a b : UInt8} (h : a.toNat = b.toNat) : a = b:=UInt8.toNat_inj.1 h
theorem toU8 (n : Nat) : (n.toUInt8).toNat = n % 256:=by simp
theorem halfS_eq (V : Nat) (c d e : UInt8) (h1 : (224 + V / 4096) % 256 = c.toNat) (h2 : (128 + V / 64 % 64) % 256 = d.toNat) (h3 : (128 + V % 64) % 256 = e.toNat) : halfS V = [c,d,e]:=by
 unfold halfS
 rw [show (224 + V / 4096).toUInt8 = c from u8_eq (by rw [toU8];exact h1),show (128 + V / 64 % 64).toUInt8 = d from u8_eq (by rw [toU8];exact h2),show (128 + V % 64).toUInt8 = e from u8_eq (by rw [toU8];exact h3)]
theorem halfS_yes {c d e : UInt8} (h : halfC c d e) : halfS (halfV d e) = [c,d,e]:=by
 obtain ⟨h0,h1,h2,h3,h4⟩:=h
 have hV : halfV d e = 53248 + (d.toNat - 128) * 64 + (e.toNat - 128):=rfl
 have hc : c.toNat = 237:=by rw [h0];rfl
 generalize halfV d e = V at *
 exact halfS_eq V c d e (by omega) (by omega) (by omega)
theorem halfS_no {c d e : UInt8} {V : Nat} (h1 : 55296 ≤ V) (h2 : V ≤ 57343) (h : halfS V = [c,d,e]) : halfC c d e:=by
 unfold halfS at h
 injection h with hc h
 injection h with hd h
 injection h with he h
 have e1:=congrArg UInt8.toNat hc
 have e2:=congrArg UInt8.toNat hd
 have e3:=congrArg UInt8.toNat he
 rw [toU8] at e1 e2 e3
 refine ⟨u8_eq ?_,?_,?_,?_,?_⟩
 ·rw [← e1,show (237 : UInt8).toNat = 237 from rfl];omega
 all_goals omega
theorem halfOf_short (l : Bs) (hl : l.length < 3) (w : World) : Calls Tryz.prog 199 #[.string ⟨l.toArray⟩] w fun e w' => (∃ x,e = .returned (.tuple #[.int .i64 x,.bool false])) ∧ Below w.heap.size w w':=by
 have h1:=size_of l
 have h2 : (l.length : Int) < 3:=by omega
 generalize (ByteArray.mk l.toArray) = L at *
 go_enter Tryz.func199,Tryz.ntmps199
 go_wp2
 go_ret2
 exact ⟨⟨_,rfl⟩,Below.refl _ _⟩
set_option maxHeartbeats 2000000 in
/-- Three bytes at least: the number, by parts. -/
theorem halfOf_walk (X Y Z : UInt8) (r : Bs) (hl : r.length ≤ 1048576) (N : Int) (hN : halfN X Y Z = N) (B B2 : Bool) (w : World) (T : ByteArray)
  (H : ∀ w,Calls Tryz.prog 213 #[.int .i64 N] w fun e w' => e = .returned (.bool B) ∧ w' = w)
  (F : B = true → ∀ w,Calls Tryz.prog 214 #[.int .i64 N] w fun e w' => e = .returned (.string T) ∧ Below w.heap.size w w') (hT : B = true → (T.toList == (ByteArray.mk #[X,Y,Z]).toList) = B2) :
  Calls Tryz.prog 199 #[.string ⟨(X :: Y :: Z :: r).toArray⟩] w fun e w' => e = .returned (.tuple #[.int .i64 N,.bool (B && B2)]) ∧ Below w.heap.size w w':=by
 have h1 : (ByteArray.mk (X :: Y :: Z :: r).toArray).size = r.length + 3:=rfl
 have g0 : ∀ h,(ByteArray.mk (X :: Y :: Z :: r).toArray)[0]'h = X:=fun _ => rfl
 have g1 : ∀ h,(ByteArray.mk (X :: Y :: Z :: r).toArray)[1]'h = Y:=fun _ => rfl
 have g2 : ∀ h,(ByteArray.mk (X :: Y :: Z :: r).toArray)[2]'h = Z:=fun _ => rfl
 have hx : (ByteArray.mk (X :: Y :: Z :: r).toArray).extract 0 3 = ⟨#[X,Y,Z]⟩:=by
  apply ByteArray.ext;apply Array.toList_inj.1;simp
 have hlI : (r.length : Int) ≤ 1048576:=by omega
 have hX:=X.toNat_lt
 have hY:=Y.toNat_lt
 have hZ:=Z.toNat_lt
 have hX' : (X.toNat : Int) ≤ 255:=by omega
 have hY' : (Y.toNat : Int) ≤ 255:=by omega
 have hZ' : (Z.toNat : Int) ≤ 255:=by omega
 unfold halfN at hN
 clear hX hY hZ hl
 generalize (ByteArray.mk (X :: Y :: Z :: r).toArray) = L at *
 generalize (ByteArray.mk #[X,Y,Z]) = M at *
 have hlt : decide ((r.length : Int) + 3 < 3) = false:=by simp;omega
 cases B with
 | false =>
  clear F hT
  go_enter Tryz.func199,Tryz.ntmps199
  go_wp2
  go_quiet (fail)
  have hb9 : Below w.heap.size w (w.drewN nq):=⟨rfl,rfl,rfl,Nat.le_refl _,fun _ _ => rfl⟩
  generalize w.drewN nq = w9 at *
  go_wp2
  go_quiet ((go_at_call 213;exact Calls.quiet_of_same (H _)))
  go_wp2
  go_ret2
  exact ⟨rfl,hb9.trans ⟨rfl,rfl,rfl,Nat.le_refl _,fun _ _ => rfl⟩⟩
 | true =>
  have F':=F rfl
  have hT':=hT rfl
  clear F hT
  go_enter Tryz.func199,Tryz.ntmps199
  go_wp2
  go_quiet (fail)
  have hb9 : Below w.heap.size w (w.drewN nq):=⟨rfl,rfl,rfl,Nat.le_refl _,fun _ _ => rfl⟩
  generalize w.drewN nq = w9 at *
  go_wp2
  go_region_with (first
   | (go_at_call 213;refine (H _).mono ?_;rintro e w1 ⟨rfl,rfl⟩)
   | (go_at_call 214;refine (F' _).mono ?_;rintro e w2 ⟨rfl,hb2⟩)
   | fail)
  all_goals
   go_wp2
   go_ret2
   refine ⟨?_,hb9.trans ((⟨rfl,rfl,rfl,Nat.le_refl _,fun _ _ => rfl⟩ : Below w.heap.size w9 w9.drew).trans (hb2.mono hb9.size))⟩
   first | rfl | (rw [← hT'];rfl)
/-- The half that these bytes begin with. -/
def halfQ : Bs → Option Nat
 | c :: d :: e :: _ => if halfC c d e then some (halfV d e) else none
 | _ => none
theorem halfOf_any (l : Bs) (hl : l.length ≤ 1048576) (w : World) : Calls Tryz.prog 199 #[.string ⟨l.toArray⟩] w fun e w' => (match halfQ l with
  | some V => e = .returned (.tuple #[.int .i64 (V : Int),.bool true])
  | none => ∃ x,e = .returned (.tuple #[.int .i64 x,.bool false])) ∧ Below w.heap.size w w':=by
 match l,hl with
 | [],_ => exact halfOf_short [] (by simp) w
 | [_],_ => exact halfOf_short [_] (by simp) w
 | [_,_],_ => exact halfOf_short [_,_] (by simp) w
 | c :: d :: e :: r,hl =>
  have hr : r.length ≤ 1048576:=by simp at hl;omega
  have H:=fun w => isHalf_any (halfN c d e) w
  by_cases h : halfC c d e
  ·obtain ⟨h1,h2,h3⟩:=halfN_yes h
   rw [show halfQ (c :: d :: e :: r) = some (halfV d e) from if_pos h]
   have hs:=halfS_yes h
   rw [h1] at H
   generalize halfV d e = V at *
   refine halfOf_walk c d e r hr (V : Int) h1 true true w ⟨#[c,d,e]⟩ (fun w => ?_) (fun _ w => ?_) (fun _ => by simp)
   ·have:=H w
    rw [decide_eq_true (by omega)] at this
    exact this
   ·have:=half_any V w (by omega) (by omega)
    rw [hs] at this
    exact this
  ·rw [show halfQ (c :: d :: e :: r) = none from if_neg h]
   by_cases hb : 55296 ≤ halfN c d e ∧ halfN c d e ≤ 57343
   ·obtain ⟨V,hV⟩ : ∃ V : Nat,halfN c d e = (V : Int):=⟨(halfN c d e).toNat,by omega⟩
    have hV1 : 55296 ≤ V:=by omega
    have hV2 : V ≤ 57343:=by omega
    have hne : halfS V ≠ [c,d,e]:=fun e => h (halfS_no hV1 hV2 e)
    rw [hV] at H
    refine (halfOf_walk c d e r hr (V : Int) hV true false w ⟨(halfS V).toArray⟩ (fun w => ?_) (fun _ w => half_any V w (by omega) (by omega)) (fun _ => ?_)).mono fun e w' ⟨h1,h2⟩ => ⟨⟨_,h1⟩,h2⟩
    ·have:=H w
     rw [decide_eq_true (by omega)] at this
     exact this
    ·rw [beq_eq_false_iff_ne]
     intro e
     rw [ByteArray.toList_eq,ByteArray.toList_eq] at e
     exact hne (by simpa using e)
   ·refine (halfOf_walk c d e r hr (halfN c d e) rfl false false w ⟨#[]⟩ (fun w => ?_) (fun h => by cases h) (fun h => by cases h)).mono fun e w' ⟨h1,h2⟩ => ⟨⟨_,h1⟩,h2⟩
    have:=H w
    rw [decide_eq_false hb] at this
    exact this
/-- What stands in a string for the first of these bytes, and how many they are. -/
def pieceQ (c : UInt8) (r : Bs) : Bs × Nat:=match halfQ (c :: r) with
 | some V => (escQ V,3)
 | none => (if c = 34 ∨ c = 92 then [92,c] else if c.toNat < 32 ∨ c = 127 then escQ c.toNat else [c],1)
end Go.Proofs.YtgmlbjfgfmfliaaGreatDoor
namespace Go.Proofs.YtgmlbjfgfmfliaaGreatDoor
open Go Go.RowKit
theorem halfQ_lt {l : Bs} {V : Nat} (h : halfQ l = some V) : V < 65536:=by
 match l,h with
 | [],h => cases h
 | [_],h => cases h
 | [_,_],h => cases h
 | c :: d :: e :: r,h =>
  unfold halfQ at h
  dsimp only at h
  by_cases hc : halfC c d e
  ·rw [if_pos hc] at h
   have h2:=(halfN_yes hc).2.2
   generalize halfV d e = U at *
   injection h with h
   omega
  ·rw [if_neg hc] at h;cases h
set_option maxRecDepth 20000 in
set_option maxHeartbeats 2000000 in
theorem quoted_any (c : UInt8) (r : Bs) (hl : r.length < 1048576) (w : World) (hz : Tz w) : Calls Tryz.prog 176 #[.string ⟨(c :: r).toArray⟩] w fun e w' => e = .returned (.tuple #[.string ⟨(pieceQ c r).1.toArray⟩,.int .i64 ((pieceQ c r).2 : Nat)]) ∧ Below w.heap.size w w':=by
 have H:=halfOf_any (c :: r) (by simp;omega) w
 have hzb : ∀ w1,Below w.heap.size w w1 → Tz w1:=fun w1 hb => hz.below hb (Nat.le_refl _)
 unfold pieceQ
 have h1 : (ByteArray.mk (c :: r).toArray).size = r.length + 1:=rfl
 have g0 : ∀ h,(ByteArray.mk (c :: r).toArray)[0]'h = c:=fun _ => rfl
 have hx : (ByteArray.mk (c :: r).toArray).extract 0 1 = ⟨#[c]⟩:=by
  apply ByteArray.ext;apply Array.toList_inj.1;simp
 have hcl:=c.toNat_lt
 have hc1 : (0 : Int) ≤ (c.toNat : Int):=by omega
 have hc2 : (c.toNat : Int) < 256:=by omega
 have hlt : (1 : Int) ≤ (r.length : Int) + 1:=by omega
 have hlt2 : (0 : Int) < (r.length : Int) + 1:=by omega
 have hlt3 : (r.length : Int) < 1048576:=by omega
 cases hq : halfQ (c :: r) with
 | some V =>
  rw [hq] at H
  have E:=fun w hz => escaped_any V (halfQ_lt hq) w hz
  dsimp only at H ⊢
  generalize (ByteArray.mk (c :: r).toArray) = L at *
  generalize (escQ V).toArray = T at *
  clear hq
  go_enter Tryz.func176,Tryz.ntmps176
  go_wp2_with (first
   | (go_at_call 200;refine (E _ (hzb _ hb1)).mono ?_;rintro e w2 ⟨rfl,hb2⟩)
   | (go_at_call 199;refine H.mono ?_;rintro e w1 ⟨rfl,hb1⟩)
   | fail)
  go_ret2
  exact ⟨rfl,hb1.trans (hb2.mono hb1.size)⟩
 | none =>
  rw [hq] at H
  dsimp only at H ⊢
  by_cases hA : c = 34 ∨ c = 92
  ·rw [if_pos hA]
   have ht : (ByteArray.mk [92,c].toArray) = ⟨#[92]⟩ ++ ⟨#[c]⟩:=rfl
   have HT : Hid ((ByteArray.mk [92,c].toArray) = ⟨#[92]⟩ ++ ⟨#[c]⟩):=ht
   clear ht
   generalize hL : (ByteArray.mk (c :: r).toArray) = L at *
   clear hL
   rcases hA with rfl | rfl
   all_goals
    go_enter Tryz.func176,Tryz.ntmps176
    go_wp2_with (first
     | (go_at_call 199;refine H.mono ?_;rintro e w1 ⟨⟨x,rfl⟩,hb1⟩)
     | fail)
    go_ret2
    exact ⟨rfl,hb1⟩
  ·rw [if_neg hA]
   have n1 : ¬ c.toNat = 34:=fun e => hA (Or.inl (u8_eq e))
   have n2 : ¬ c.toNat = 92:=fun e => hA (Or.inr (u8_eq e))
   have n3 : ¬ (c.toNat : Int) = 34:=by omega
   have n4 : ¬ (c.toNat : Int) = 92:=by omega
   have gX : ∀ h,(((ByteArray.mk (c :: r).toArray)[0]'h).toNat : Int) = (c.toNat : Int):=fun h => by rw [g0 h]
   have m1 : ((c.toNat : Int) == 34) = false:=beq_eq_false_iff_ne.2 n3
   have m2 : ((c.toNat : Int) == 92) = false:=beq_eq_false_iff_ne.2 n4
   by_cases hB : c.toNat < 32 ∨ c = 127
   ·rw [if_pos hB]
    have E:=fun w hz => escaped_any c.toNat (by omega) w hz
    generalize (ByteArray.mk (c :: r).toArray) = L at *
    generalize (escQ c.toNat).toArray = T at *
    clear g0
    by_cases hC : c.toNat < 32
    ·have n5 : (c.toNat : Int) < 32:=by omega
     clear hA hB hC n1 n2 n3 n4 hcl hl
     generalize (c.toNat : Int) = X at *
     go_enter Tryz.func176,Tryz.ntmps176
     go_wp2_with (first
      | (go_at_call 200;refine (E _ (hzb _ hb1)).mono ?_;rintro e w2 ⟨rfl,hb2⟩)
      | (go_at_call 199;refine H.mono ?_;rintro e w1 ⟨⟨x,rfl⟩,hb1⟩)
      | fail)
     go_ret2
     exact ⟨rfl,hb1.trans (hb2.mono hb1.size)⟩
    ·have n5 : ¬ (c.toNat : Int) < 32:=by omega
     have hD : c = 127:=by rcases hB with h | h;exact absurd h hC;exact h
     have n6 : c.toNat = 127:=by rw [hD];rfl
     have n7 : (c.toNat : Int) = 127:=by omega
     clear hA hB hD hC n1 n2 n3 n4 hcl hl n6
     generalize (c.toNat : Int) = X at *
     subst n7
     go_enter Tryz.func176,Tryz.ntmps176
     go_wp2_with (first
      | (go_at_call 200;refine (E _ (hzb _ hb1)).mono ?_;rintro e w2 ⟨rfl,hb2⟩)
      | (go_at_call 199;refine H.mono ?_;rintro e w1 ⟨⟨x,rfl⟩,hb1⟩)
      | fail)
     go_ret2
     exact ⟨rfl,hb1.trans (hb2.mono hb1.size)⟩
   ·rw [if_neg hB]
    have n5 : ¬ c.toNat < 32:=fun h => hB (Or.inl h)
    have n6 : ¬ c.toNat = 127:=fun e => hB (Or.inr (u8_eq e))
    have n7 : ¬ (c.toNat : Int) < 32:=by omega
    have m4 : ((c.toNat : Int) == 127) = false:=beq_eq_false_iff_ne.2 (by omega)
    have m3 : decide ((c.toNat : Int) < 32) = false:=decide_eq_false n7
    clear g0
    generalize (ByteArray.mk (c :: r).toArray) = L at *
    clear hA hB n1 n2 n5 n6 hcl hl hc1 hc2 n3 n4
    generalize (c.toNat : Int) = X at *
    go_enter Tryz.func176,Tryz.ntmps176
    go_wp2_with (first
     | (go_at_call 199;refine H.mono ?_;rintro e w1 ⟨⟨x,rfl⟩,hb1⟩)
     | fail)
    go_ret2
    exact ⟨rfl,hb1⟩
/-! ### The quoted text, step by step -/
theorem pieceQ_len (c : UInt8) (r : Bs) : 1 ≤ (pieceQ c r).2 ∧ (pieceQ c r).2 ≤ (c :: r).length ∧ (pieceQ c r).1.length ≤ 6:=by
 unfold pieceQ
 cases hq : halfQ (c :: r) with
 | some V =>
  match r,hq with
  | [],hq => cases hq
  | [_],hq => cases hq
  | d :: e :: r,_ => refine ⟨by simp,by simp,by simp [escQ]⟩
 | none =>
  refine ⟨by simp,by simp,?_⟩
  dsimp only
  split
  ·simp
  ·split <;> simp [escQ]
theorem quoF_step (n : Nat) (c : UInt8) (r : Bs) : quoF (n + 1) (c :: r) = (pieceQ c r).1 ++ quoF n ((c :: r).drop (pieceQ c r).2):=by
 unfold pieceQ
 conv => lhs;unfold quoF
 match r with
 | [] => rfl
 | [d] => rfl
 | d :: e :: r' =>
  dsimp only
  by_cases h : halfC c d e
  ·rw [if_pos (show c = 237 ∧ 160 ≤ d.toNat ∧ d.toNat ≤ 191 ∧ 128 ≤ e.toNat ∧ e.toNat ≤ 191 from h),show halfQ (c :: d :: e :: r') = some (halfV d e) from if_pos h]
   rfl
  ·rw [if_neg (show ¬ (c = 237 ∧ 160 ≤ d.toNat ∧ d.toNat ≤ 191 ∧ 128 ≤ e.toNat ∧ e.toNat ≤ 191) from h),show halfQ (c :: d :: e :: r') = none from if_neg h]
   rfl
theorem quoF_nil (n : Nat) : quoF n [] = []:=by cases n <;> rfl
theorem quoF_fuel : ∀ (n m : Nat) (l : Bs),l.length ≤ n → l.length ≤ m → quoF n l = quoF m l
 | _,_,[],_,_ => by rw [quoF_nil,quoF_nil]
 | n + 1,m + 1,c :: r,hn,hm => by
  have h:=pieceQ_len c r
  rw [quoF_step,quoF_step,quoF_fuel n m ((c :: r).drop (pieceQ c r).2) (by rw [List.length_drop];simp at hn ⊢;omega) (by rw [List.length_drop];simp at hm ⊢;omega)]
def quoL (l : Bs) : Bs:=quoF l.length l
theorem quoL_step (c : UInt8) (r : Bs) : quoL (c :: r) = (pieceQ c r).1 ++ quoL ((c :: r).drop (pieceQ c r).2):=by
 have h:=pieceQ_len c r
 unfold quoL
 rw [List.length_cons,quoF_step,quoF_fuel r.length ((c :: r).drop (pieceQ c r).2).length _ (by rw [List.length_drop];simp;omega) (Nat.le_refl _)]
theorem wbB_any (B : Nat) (acc : Bs) (c : UInt8) (w : World) (h : isBl B acc w) (hl : acc.length + 1 ≤ 16777216) (hB : B ≤ w.heap.size) :
  Calls Tryz.prog 175 #[.pointer (some ⟨B,0,none⟩),.int .u8 (c.toNat : Int)] w fun e w' => (∃ v,e = .returned v) ∧ isBl B (acc ++ [c]) w' ∧ Below B w w':=by
 refine (Tryz.Builder_WriteByte B B (Lib.byteCells acc) (c.toNat : Int) w h (by rw [cells_len];omega) hB).mono ?_
 rintro e w' ⟨rfl,h1,h2⟩
 exact ⟨⟨_,rfl⟩,Or.inr (by rw [cells_app];exact h1),h2⟩
theorem wsB_any (B : Nat) (acc c : Bs) (w : World) (h : isBl B acc w) (hl : acc.length + c.length ≤ 16777216) (hB : B ≤ w.heap.size) :
  Calls Tryz.prog 78 #[.pointer (some ⟨B,0,none⟩),.string ⟨c.toArray⟩] w fun e w' => (∃ v,e = .returned v) ∧ isBl B (acc ++ c) w' ∧ Below B w w':=by
 refine (Tryz.Builder_WriteString B B (Lib.byteCells acc) ⟨c.toArray⟩ w h (by rw [size_of,cells_len];omega) hB).mono ?_
 rintro e w' ⟨rfl,h1,h2⟩
 exact ⟨⟨_,rfl⟩,Or.inr (by rw [cells_app];exact h1),h2⟩
/-- Between two pieces. -/
structure QuoS (s : Bs) (w wr : World) (l acc : Bs) : Prop where
 suf : l <:+ s
 eq : acc ++ quoL l = 34 :: quoL s
 len : acc.length + 6 * l.length ≤ 1 + 6 * s.length
 bl : isBl w.heap.size acc wr
 bel : Below w.heap.size w wr
theorem tz_of (w wr : World) (hz : Tz w) (h : Below w.heap.size w wr) : Tz wr:=hz.below h (Nat.le_refl _)
set_option maxHeartbeats 4000000 in
theorem quote_any (s : Bs) (hs : s.length ≤ 1048576) (w : World) (hz : Tz w) : Calls Tryz.prog 136 #[.string ⟨s.toArray⟩] w fun e w' => e = .returned (.string ⟨(quoS s).toArray⟩) ∧ Below w.heap.size w w':=by
 have hB:=isB_new w
 have hk0 : Below w.heap.size w (w.alloc (.cells #[.pointer none,.slice none 0 0] 127)):=(Below.refl _ w).alloc (Nat.le_refl _) _
 have W:=wbB_any w.heap.size [] 34 _ hB (by simp) (by simp)
 have hsz:=size_of s
 have hsI : (s.length : Int) ≤ 1048576:=by omega
 generalize hD : (ByteArray.mk s.toArray) = D at *
 go_enter Tryz.func136,Tryz.ntmps136
 go_wp2_with (go_at_call 175;refine W.mono ?_;rintro e w1 ⟨⟨v1,rfl⟩,hb1,hk1⟩)
 go_loopw [4] (fun v wr => ∃ l acc,v = .int .i64 ((s.length - l.length : Nat) : Int) ∧ QuoS s w wr l acc) (fun v _ => s.length - (RowKit.intOf v).toNat)
 case atStart =>
  exact ⟨s,[34],by simp,List.suffix_refl _,rfl,by simp,hb1,hk0.trans hk1⟩
 case round =>
  clear hB hk0 W hb1 hk1
  obtain ⟨l,acc,rfl,hQ⟩:=hrel
  have hbel:=hQ.bel
  have hbl:=hQ.bl
  have hlen:=hQ.len
  have hz1:=hbel.size
  obtain ⟨q1,q2,q3⟩:=suf_facts hQ.suf
  rw [hD] at q1 q2
  cases l with
  | nil =>
   have W:=wbB_any w.heap.size acc 34 wr hbl (by simp at hlen;omega) hz1
   have S:=fun w2 (hb : isBl w.heap.size (acc ++ [34]) w2) (hz : w.heap.size ≤ w2.heap.size) => Tryz.Builder_String_any w.heap.size w.heap.size (acc ++ [34]) w2 hb hz
   have HE : Hid (acc ++ [34] = quoS s):=by
    show _ = _
    have:=hQ.eq
    unfold quoS
    rw [show quoL [] = [] from rfl,List.append_nil] at this
    rw [this]
    rfl
   clear hQ
   generalize acc ++ [34] = acc2 at *
   go_wp2_with (first
    | (go_at_call 79;refine (S _ hb2 (by omega)).mono ?_;rintro e w3 ⟨rfl,hk3⟩)
    | (go_at_call 175;refine W.mono ?_;rintro e w2 ⟨⟨v2,rfl⟩,hb2,hk2⟩;have hz2:=hk2.size)
    | fail)
   go_ret
   rw [← HE.out]
   exact ⟨rfl,(hbel.trans hk2).trans (hk3.mono (by omega))⟩
  | cons c r =>
   have hp:=pieceQ_len c r
   have hle : (c :: r).length ≤ s.length:=hQ.suf.length_le
   have HQ : Hid (QuoS s w wr (c :: r) acc):=hQ
   have P:=quoted_any c r (by simp at hle;omega) wr (tz_of w wr hz hbel)
   have WS:=fun w2 h hB => wsB_any w.heap.size acc (pieceQ c r).1 w2 h (by simp at hlen hle;omega) hB
   have hkeep : ∀ w2,Below wr.heap.size wr w2 → isBl w.heap.size acc w2:=fun w2 hb => (kp_isB (R:=0) hbl (Kp.of_below hb) (Nat.lt_of_le_of_lt (Nat.zero_le _) (by have:=World.block_lt_of_cell? w _ hz;exact Nat.lt_of_le_of_lt (Nat.zero_le _) this)))
   have HN : Hid (((s.length - (c :: r).length : Nat) : Int) + ((pieceQ c r).2 : Nat) = ((s.length - ((c :: r).drop (pieceQ c r).2).length : Nat) : Int)):=by
    show _ = _
    rw [List.length_drop];omega
   have HS : Hid (quoL (c :: r) = (pieceQ c r).1 ++ quoL ((c :: r).drop (pieceQ c r).2)):=quoL_step c r
   have b1 : ((s.length - (c :: r).length : Nat) : Int) < (s.length : Int):=by simp only [List.length_cons] at hle ⊢;omega
   have b2 : (0 : Int) ≤ ((s.length - (c :: r).length : Nat) : Int):=by omega
   have b3 : (((s.length - (c :: r).length : Nat) : Int)).toNat = s.length - (c :: r).length:=by omega
   have b4 : ((pieceQ c r).2 : Int) ≤ 1048576:=by omega
   have b5 : (0 : Int) ≤ ((pieceQ c r).2 : Int):=by omega
   have HP : Hid (1 ≤ (pieceQ c r).2 ∧ (pieceQ c r).2 ≤ (c :: r).length ∧ (pieceQ c r).1.length ≤ 6):=hp
   clear hQ hp hlen hle q3
   generalize hA : s.length - (c :: r).length = A at *
   have HA : Hid (s.length - (c :: r).length = A):=hA
   clear hA
   generalize hL : (ByteArray.mk (c :: r).toArray) = L at *
   clear hL
   generalize hT : (pieceQ c r).1 = T at *
   generalize hK : (pieceQ c r).2 = K at *
   clear hT hK
   go_wp2_with (first
    | (go_at_call 78;refine (WS _ hb2 (by omega)).mono ?_;rintro e w3 ⟨⟨v3,rfl⟩,hb3,hk3⟩)
    | (go_at_call 176;refine P.mono ?_;rintro e w2 ⟨rfl,hk2⟩;have hb2:=hkeep _ hk2;have hz2:=hk2.size)
    | fail)
   refine ⟨⟨(c :: r).drop K,acc ++ T,by rw [← HN.out],?_,?_,?_,hb3,(hbel.trans (hk2.mono hz1)).trans hk3⟩,?_⟩
   ·exact (List.drop_suffix _ _).trans HQ.out.suf
   ·rw [← HQ.out.eq,HS.out,List.append_assoc]
   ·have:=HQ.out.len
    have h2:=HP.out
    rw [List.length_append,List.length_drop]
    omega
   ·have h2:=HP.out
    have h3:=HA.out
    have h4:=HQ.out.suf.length_le
    simp [RowKit.intOf]
    simp at h2 h3 h4
    omega
end Go.Proofs.YtgmlbjfgfmfliaaGreatDoor
