/- What the laws say of a document in pieces: plain mathematics. -/
import Derived.Test.YtglpabfjnngbnaaGreatDoorLxG5
import Derived.Laws.Bits64b
import Derived.Test.YtglpabfjnngbnaaGreatDoorLxO
import Derived.OwnWalk
import Derived.OneCell
import Derived.Laws.OwnMore
import Derived.Laws.IdiomStrings
import Derived.Lib.AppendStr
import Derived.Lib.UnsafeStr
import Derived.Test.YtglpabfjnngbnaaGreatDoorLxT
import Derived.Test.YtglpabfjnngbnaaGreatDoorLxV
import Derived.Test.YtglpabfjnngbnaaGreatDoorLxF1
namespace Go.Proofs.YtglpabfjnngbnaaGreatDoor
open Go Go.RowKit Go.Lib

abbrev gT : Nat := 7
/-- The table's place that is read. -/
def Tz (w : World) : Prop := w.cell? ⟨gT, 15, none⟩ = some (.int .u8 4)
theorem Tz.below {w w' : World} (h : Tz w) {B : Nat} (hb : Below B w w') (hB : w.heap.size ≤ B) : Tz w' := by
  have hl : gT < w.heap.size := World.block_lt_of_cell? w _ h
  unfold Tz World.cell? at h ⊢
  rw [hb.block gT (Nat.lt_of_lt_of_le hl hB)]
  exact h
theorem tz_e1 : IntKind.u64.wrap (-16) = 18446744073709551600 := by decide
theorem tz_e2 : bits .and .u64 16 18446744073709551600 = 16 := by decide +kernel
theorem tz_e3 : IntKind.u64.wrap 4573923408821661840 = 4573923408821661840 := by decide
set_option maxRecDepth 100000 in
set_option maxHeartbeats 1000000 in
theorem tz64_any (w : World) (h : Tz w) : Calls Tryz.prog 184 #[.int .u64 16] w fun e w' => e = .returned (.int .i64 4) ∧ w' = w := by
  have h' : w.cell? ⟨7, 15, none⟩ = some (.int .u8 4) := h
  have e1 := tz_e1
  have e2 := tz_e2
  have e3 := tz_e3
  go_enter Tryz.func184, Tryz.ntmps184
  go_wp2
  go_ret
  exact ⟨rfl, rfl⟩
theorem tz_any (w : World) (h : Tz w) : Calls Tryz.prog 182 #[.int .u64 16] w fun e w' => e = .returned (.int .i64 4) ∧ w' = w := by
  have T := tz64_any w h
  go_enter Tryz.func182, Tryz.ntmps182
  go_wp2_with (go_at_call 184; refine T.mono ?_; rintro e w1 ⟨rfl, rfl⟩)
  go_ret
  exact ⟨rfl, rfl⟩
theorem pow2_any (w : World) : Calls Tryz.prog 181 #[.int .i64 16] w fun e w' => e = .returned (.bool true) ∧ w' = w := by
  have e1 : bits .and .i64 16 15 = 0 := by decide
  go_enter Tryz.func181, Tryz.ntmps181
  go_wp2
  go_ret
  exact ⟨rfl, rfl⟩
/-- The digits of a number. -/
def hexS (n : Nat) : Bs := if n < 16 then [hexD n] else hexS (n / 16) ++ [hexD (n % 16)]
termination_by n
decreasing_by omega
theorem hexS_small {n : Nat} (h : n < 16) : hexS n = [hexD n] := by unfold hexS; rw [if_pos h]
theorem hexS_great {n : Nat} (h : ¬ n < 16) : hexS n = hexS (n / 16) ++ [hexD (n % 16)] := by conv => lhs; unfold hexS; rw [if_neg h]
theorem and15 (n : Nat) (h : n < 18446744073709551616) : bits .and .u64 (n : Int) 15 = ((n % 16 : Nat) : Int) := by
  have := bits_and_u64_nat n 15 h (by decide)
  rw [show ((15 : Nat) : Int) = 15 from rfl] at this
  rw [this, show (15 : Nat) = 2 ^ 4 - 1 from rfl, Nat.and_two_pow_sub_one_eq_mod]
/-- The digits' signs. -/
def digS : Array UInt8 := #[48, 49, 50, 51, 52, 53, 54, 55, 56, 57, 97, 98, 99, 100, 101, 102, 103, 104, 105, 106, 107, 108, 109, 110, 111, 112, 113, 114, 115, 116, 117, 118, 119, 120, 121, 122]
theorem digS_at : ∀ j : Fin 16, (ByteArray.mk digS)[j.val]'(by have := j.isLt; show j.val < 36; omega) = hexD j.val := by decide
/-- The array while the digits are laid from its end. -/
structure ArrS (W : World) (A : Nat) (d : Bs) : Prop where
  row : ∃ cur : Array Value, W.heap[A]? = some (.cells cur 203 (0, 0)) ∧ cur.size = 65 ∧ cur.toList.drop (65 - d.length) = Lib.byteCells d
  len : d.length ≤ 64
theorem ArrS.put {W : World} {A : Nat} {d : Bs} (h : ArrS W A d) (hd : d.length ≤ 63) (c : UInt8) : ArrS (W.setCell ⟨A, 65 - d.length - 1, none⟩ (.int .u8 (c.toNat : Int))) A (c :: d) := by
  obtain ⟨cur, h1, h2, h3⟩ := h.row
  refine ⟨⟨_, heap_setCell_same W A (65 - d.length - 1) _ _ _ h1, by simp [h2], ?_⟩, by simp; omega⟩
  have hl : cur.toList.length = 65 := by simp [h2]
  rw [Array.toList_setIfInBounds]
  have e : 65 - (c :: d).length = 65 - d.length - 1 := by simp; omega
  rw [e]
  have e2 : (cur.toList.set (65 - d.length - 1) (.int .u8 (c.toNat : Int))).drop (65 - d.length - 1) = .int .u8 (c.toNat : Int) :: cur.toList.drop (65 - d.length) := by
    rw [List.drop_eq_getElem_cons (by simp; omega), List.getElem_set_self]
    congr 1
    rw [List.drop_set_of_lt (by omega)]
    congr 1
    omega
  rw [e2, h3]
  rfl
theorem ArrS.cell {W : World} {A : Nat} {d : Bs} (h : ArrS W A d) (i : Nat) (hi : i < 65) : ∃ v, W.cell? ⟨A, i, none⟩ = some v := by
  obtain ⟨cur, h1, h2, h3⟩ := h.row
  refine ⟨cur[i]'(by omega), ?_⟩
  simp [World.cell?, h1, h2, hi]
theorem ArrS.free {W : World} {A : Nat} {d : Bs} (h : ArrS W A d) (i : Nat) : W.frozen? ⟨A, i, none⟩ = false := by
  obtain ⟨cur, h1, _⟩ := h.row
  exact frozen_of_row W A i _ _ h1
end Go.Proofs.YtglpabfjnngbnaaGreatDoor
namespace Go.Proofs.YtglpabfjnngbnaaGreatDoor
open Go Go.RowKit Go.Lib

theorem ArrS.back {W : World} {A : Nat} {d : Bs} (h : ArrS W A d) :
    (convert 40 9 (.slice (some ⟨A, 65 - d.length, none⟩) d.length d.length)).run Tryz.prog W = .ok (.string ⟨d.toArray⟩) W := by
  obtain ⟨cur, h1, h2, h3⟩ := h.row
  have hl := h.len
  exact run_convert_bytes_back (P := Tryz.prog) W 40 9 5 ⟨A, 65 - d.length, none⟩ d.length d Tryz.underlying40 Tryz.underlying5 Tryz.underlying9 (by
    intro j hj
    have hb : (Lib.byteCells d)[j]? = some (.int .u8 (d[j].toNat : Int)) := by simp [Lib.byteCells, hj]
    rw [← h3, List.getElem?_drop] at hb
    rw [Addr.add_lit]
    unfold World.cell?
    rw [h1]
    simpa using hb)

set_option maxRecDepth 100000 in
set_option maxHeartbeats 4000000 in
theorem fbits_any (n : Nat) (hn : n < 65536) (w : World) (hz : Tz w) : Calls Tryz.prog 177 #[.slice none 0 0, .int .u64 (n : Int), .int .i64 16, .bool false, .bool false] w fun e w' => e = .returned (.tuple #[.slice none 0 0, .string ⟨(hexS n).toArray⟩]) ∧ Below w.heap.size w w' := by
  have P := fun w => pow2_any w
  have Z := fun w h => tz_any w h
  have hnI : (n : Int) < 65536 := by omega
  go_enter Tryz.func177, Tryz.ntmps177
  go_wp2_with (first
    | (go_at_call 181; refine (P _).mono ?_; rintro e w1 ⟨rfl, rfl⟩)
    | (go_at_call 182; refine (Z _ (hz.below ((Below.refl _ w).alloc (Nat.le_refl _) _) (Nat.le_refl _))).mono ?_; rintro e w1 ⟨rfl, rfl⟩)
    | fail)
  have hA0 : ArrS (w.alloc (.cells Tryz.zeroCells203 203)) w.heap.size [] := by
    refine ⟨⟨_, heap_alloc_new _ _, by decide +kernel, ?_⟩, by simp⟩
    have e : Tryz.zeroCells203.toList.length = 65 := by decide +kernel
    exact List.drop_eq_nil_iff.2 (by simp only [List.length_nil]; omega)
  have hB0 : Below w.heap.size w (w.alloc (.cells Tryz.zeroCells203 203)) := (Below.refl _ w).alloc (Nat.le_refl _) _
  generalize (w.alloc (.cells Tryz.zeroCells203 203)) = W0 at *
  go_loopw [1, 13] (fun u i wr => ∃ (m : Nat) (d : Bs), u = .int .u64 (m : Int) ∧ i = .int .i64 ((65 - d.length : Nat) : Int) ∧ m < 65536 ∧ d.length ≤ 3 ∧ 16 ^ d.length * m ≤ n ∧ hexS m ++ d = hexS n ∧ ArrS wr w.heap.size d ∧ Below w.heap.size w wr) (fun u _ _ => (RowKit.intOf u).toNat)
  case atStart => exact ⟨n, [], rfl, rfl, hn, by simp, by simp, by simp, hA0, hB0⟩
  case round =>
    obtain ⟨m, d, rfl, rfl, hm, hd, hpw, hx, hA, hb⟩ := hrel
    clear hA0 hB0
    obtain ⟨v, hc⟩ := hA.cell (65 - d.length - 1) (by omega)
    have hf := hA.free (65 - d.length - 1)
    have hi : ((65 - d.length : Nat) : Int) - 1 = ((65 - d.length - 1 : Nat) : Int) := by omega
    have hi2 : ((65 - d.length - 1 : Nat) : Int) < 65 := by omega
    have hi3 : (0 : Int) ≤ ((65 - d.length - 1 : Nat) : Int) := by omega
    by_cases hge : 16 ≤ m
    · have hgI : (16 : Int) ≤ (m : Int) := by omega
      have hand := and15 m (by omega)
      have hdg := digS_at ⟨m % 16, Nat.mod_lt _ (by decide)⟩
      have hr16 : ((m % 16 : Nat) : Int) < 36 := by omega
      have hr0 : (0 : Int) ≤ ((m % 16 : Nat) : Int) := by omega
      have hput := hA.put (by omega) (hexD (m % 16))
      have HA : Hid (ArrS (wr.setCell ⟨w.heap.size, 65 - d.length - 1, none⟩ (.int .u8 ((hexD (m % 16)).toNat : Int))) w.heap.size (hexD (m % 16) :: d)) := hput
      have HX : Hid (hexS (m / 16) ++ (hexD (m % 16) :: d) = hexS n) := by
        show _ = _
        rw [← hx, hexS_great (show ¬ m < 16 by omega)]
        simp
      have HD : Hid (d.length + 1 ≤ 3) := by
        show _ ≤ _
        rcases Nat.lt_or_ge d.length 3 with h3 | h3
        · exact h3
        · exfalso
          have e : d.length = 3 := by omega
          rw [e] at hpw
          omega
      have HP : Hid (16 ^ (d.length + 1) * (m / 16) ≤ n) := by
        show _ ≤ _
        refine Nat.le_trans ?_ hpw
        rw [Nat.pow_succ, Nat.mul_assoc]
        exact Nat.mul_le_mul_left _ (Nat.mul_div_le m 16)
      have HM : Hid (m / 16 < m) := by show _ < _; omega
      have HM2 : Hid (m / 16 < 65536) := by show _ < _; omega
      have hdiv : (m : Int) / 16 = ((m / 16 : Nat) : Int) := by omega
      have HI : Hid (65 - d.length - 1 = 65 - (hexD (m % 16) :: d).length) := by show _ = _; simp; omega
      have hdg' : ∀ hh, (ByteArray.mk #[48, 49, 50, 51, 52, 53, 54, 55, 56, 57, 97, 98, 99, 100, 101, 102, 103, 104, 105, 106, 107, 108, 109, 110, 111, 112, 113, 114, 115, 116, 117, 118, 119, 120, 121, 122])[m % 16]'hh = hexD (m % 16) := fun _ => hdg
      dsimp only at hdg'
      clear hput hx hpw hd hge hdg
      generalize hq : m % 16 = q at *
      generalize m / 16 = m2 at *
      generalize hexD q = c at *
      generalize hk : 65 - d.length = k at *
      clear hq
      go_wp2
      refine ⟨⟨m2, c :: d, rfl, by rw [HI.out], HM2.out, HD.out, HP.out, HX.out, HA.out, hb.setCell (p := ⟨w.heap.size, k - 1, none⟩) (Nat.le_refl _) _⟩, ?_⟩
      have := HM.out
      simp [RowKit.intOf]
      omega
    · have hgI : ¬ (16 : Int) ≤ (m : Int) := by omega
      have hdg := digS_at ⟨m, by omega⟩
      have hr16 : (m : Int) < 36 := by omega
      have hput := hA.put (by omega) (hexD m)
      have hback := hput.back
      have HX : Hid (hexD m :: d = hexS n) := by
        show _ = _
        rw [← hx, hexS_small (by omega)]
        rfl
      have hdg' : ∀ hh, (ByteArray.mk #[48, 49, 50, 51, 52, 53, 54, 55, 56, 57, 97, 98, 99, 100, 101, 102, 103, 104, 105, 106, 107, 108, 109, 110, 111, 112, 113, 114, 115, 116, 117, 118, 119, 120, 121, 122])[m]'hh = hexD m := fun _ => hdg
      dsimp only at hdg'
      have e1 : 65 - (hexD m :: d).length = 65 - d.length - 1 := by simp; omega
      have e2 : (hexD m :: d).length = 65 - (65 - d.length - 1) := by simp; omega
      rw [e1, e2] at hback
      have hi4 : 65 - ((65 - d.length - 1 : Nat) : Int) = ((65 - (65 - d.length - 1) : Nat) : Int) := by omega
      have hne : ¬ (65 - (65 - d.length - 1) = 0) := by omega
      clear hput hx hpw hdg e1 e2
      generalize hexD m = c at *
      generalize hT : (c :: d).toArray = T at *
      have HT : Hid ((c :: d).toArray = T) := hT
      clear hT
      have hk1 : 65 - d.length - 1 ≤ 64 := by omega
      have hk2 : 61 ≤ 65 - d.length - 1 := by omega
      generalize 65 - d.length = k at *
      generalize k - 1 = j at *
      have hal : Tryz.prog.arrayLen 203 = 65 := by simp [Program.arrayLen, Tryz.underlying203]
      have hsl : ∀ W, (Instr.sliceAt 203 (.pointer (some ⟨w.heap.size, 0, none⟩)) (some (.int .i64 (j : Int))) none none).run Tryz.prog W = .ok (.slice (some ⟨w.heap.size, j, none⟩) (65 - j) (65 - j)) W := fun W => by
        have hj : ¬ 65 = j := by omega
        rw [run_sliceAt_array_l W 203 ⟨w.heap.size, 0, none⟩ (by simp [Program.arrayLen, Program.elem, Tryz.underlying203]) .i64 (j : Int) (by omega) (by rw [hal]; omega), hal]
        have he : Tryz.prog.elem 203 = 5 := by simp [Program.elem, Tryz.underlying203]
        rw [he]
        simp [go_sem, slicedAt, hj, Addr.add]
        omega
      clear hal
      go_wp2
      go_ret2
      rw [← HX.out]
      exact ⟨by rw [HT.out]; rfl, hb.setCell (p := ⟨w.heap.size, j, none⟩) (Nat.le_refl _) _⟩
end Go.Proofs.YtglpabfjnngbnaaGreatDoor
namespace Go.Proofs.YtglpabfjnngbnaaGreatDoor
open Go Go.RowKit

def halfC (c d e : UInt8) : Prop := c = 237 ∧ 160 ≤ d.toNat ∧ d.toNat ≤ 191 ∧ 128 ≤ e.toNat ∧ e.toNat ≤ 191
instance (c d e : UInt8) : Decidable (halfC c d e) := by unfold halfC; infer_instance
def halfV (d e : UInt8) : Nat := 53248 + (d.toNat - 128) * 64 + (e.toNat - 128)
def halfN (c d e : UInt8) : Int := ((c.toNat : Int) - 224) * 4096 + ((d.toNat : Int) - 128) * 64 + (e.toNat : Int) - 128
theorem halfN_yes {c d e : UInt8} (h : halfC c d e) : halfN c d e = (halfV d e : Nat) ∧ 55296 ≤ halfV d e ∧ halfV d e ≤ 57343 := by
  obtain ⟨rfl, h1, h2, h3, h4⟩ := h
  unfold halfN halfV
  have : (237 : UInt8).toNat = 237 := rfl
  rw [this]
  omega
theorem u8_eq {a b : UInt8} (h : a.toNat = b.toNat) : a = b := UInt8.toNat_inj.1 h
theorem toU8 (n : Nat) : (n.toUInt8).toNat = n % 256 := by simp
theorem halfS_eq (V : Nat) (c d e : UInt8) (h1 : (224 + V / 4096) % 256 = c.toNat) (h2 : (128 + V / 64 % 64) % 256 = d.toNat) (h3 : (128 + V % 64) % 256 = e.toNat) : halfS V = [c, d, e] := by
  unfold halfS
  rw [show (224 + V / 4096).toUInt8 = c from u8_eq (by rw [toU8]; exact h1), show (128 + V / 64 % 64).toUInt8 = d from u8_eq (by rw [toU8]; exact h2), show (128 + V % 64).toUInt8 = e from u8_eq (by rw [toU8]; exact h3)]
theorem halfS_yes {c d e : UInt8} (h : halfC c d e) : halfS (halfV d e) = [c, d, e] := by
  obtain ⟨h0, h1, h2, h3, h4⟩ := h
  have hV : halfV d e = 53248 + (d.toNat - 128) * 64 + (e.toNat - 128) := rfl
  have hc : c.toNat = 237 := by rw [h0]; rfl
  generalize halfV d e = V at *
  exact halfS_eq V c d e (by omega) (by omega) (by omega)
theorem halfS_no {c d e : UInt8} {V : Nat} (h1 : 55296 ≤ V) (h2 : V ≤ 57343) (h : halfS V = [c, d, e]) : halfC c d e := by
  unfold halfS at h
  injection h with hc h
  injection h with hd h
  injection h with he h
  have e1 := congrArg UInt8.toNat hc
  have e2 := congrArg UInt8.toNat hd
  have e3 := congrArg UInt8.toNat he
  rw [toU8] at e1 e2 e3
  refine ⟨u8_eq ?_, ?_, ?_, ?_, ?_⟩
  · rw [← e1, show (237 : UInt8).toNat = 237 from rfl]; omega
  all_goals omega
end Go.Proofs.YtglpabfjnngbnaaGreatDoor
namespace Go.Proofs.YtglpabfjnngbnaaGreatDoor
end Go.Proofs.YtglpabfjnngbnaaGreatDoor
namespace Go.Proofs.YtglpabfjnngbnaaGreatDoor
open Go Go.RowKit

theorem Tryz.infoByte : (Tryz.prog.info? 5).map (fun i => (i.zero, i.size, i.bytes)) = some (some (.int .u8 0), 1, 1) := by kernel_rfl
theorem own_ge {w : World} {B e sz n : Nat} {v : Value} {xs : List Value} (h : w.ownsRow B e sz v n xs) : ∀ k, v.ownBlock = some k → B ≤ k := by
  intro k hk
  rcases h.2 with ⟨rfl, _⟩ | ⟨g, cap, cur, rfl, hg, _⟩
  · simp [Value.ownBlock] at hk
  · simp [Value.ownBlock] at hk
    omega
theorem conv_row {W : World} {B g cap : Nat} {l : List UInt8} (h : W.ownsRow B 5 1 (.slice (some ⟨g, 0, none⟩) l.length cap) l.length (Lib.byteCells l)) :
    (convert 40 9 (.slice (some ⟨g, 0, none⟩) l.length cap)).run Tryz.prog W = .ok (.string ⟨l.toArray⟩) W := by
  refine run_convert_bytes_back (P := Tryz.prog) W 40 9 5 ⟨g, 0, none⟩ cap l Tryz.underlying40 Tryz.underlying5 Tryz.underlying9 ?_
  intro j hj
  rw [Addr.add_lit, Nat.zero_add, h.cellAt j (by omega)]
  simp [Lib.byteCells, hj]
abbrev Bytes (w : World) (B : Nat) (v : Value) (l : List UInt8) : Prop := w.ownsRow B 5 1 v l.length (Lib.byteCells l)
end Go.Proofs.YtglpabfjnngbnaaGreatDoor
namespace Go.Proofs.YtglpabfjnngbnaaGreatDoor
open Go Go.RowKit
theorem at_suf0 {s : Bs} {c : UInt8} {r : Bs} (h : (c :: r) <:+ s) : ∀ hh, (ByteArray.mk s.toArray)[s.length - (c :: r).length]'hh = c := by
  obtain ⟨p, rfl⟩ := h
  intro hh
  show (p ++ c :: r).toArray[(p ++ c :: r).length - (c :: r).length] = c
  simp
theorem at_suf1 {s : Bs} {c d : UInt8} {r : Bs} (h : (c :: d :: r) <:+ s) : ∀ hh, (ByteArray.mk s.toArray)[s.length - (c :: d :: r).length + 1]'hh = d := by
  obtain ⟨p, rfl⟩ := h
  intro hh
  show (p ++ c :: d :: r).toArray[(p ++ c :: d :: r).length - (c :: d :: r).length + 1] = d
  simp
end Go.Proofs.YtglpabfjnngbnaaGreatDoor
namespace Go.Proofs.YtglpabfjnngbnaaGreatDoor
open Go Go.RowKit

theorem spanR_in (S : Bs) (c : UInt8) (l : Bs) (h : S.contains c = true) : spanR S (c :: l) = spanR S l := by
  conv => lhs; unfold spanR
  rw [if_pos h]
theorem spanR_out (S : Bs) (c : UInt8) (l : Bs) (h : S.contains c = false) : spanR S (c :: l) = c :: l := by
  unfold spanR
  rw [if_neg (by rw [h]; decide)]

set_option maxHeartbeats 2000000 in
theorem xindent_any (s : Bs) (hs : s.length ≤ 4294967280) (w : World) : Calls Tryz.prog 92 #[.string ⟨s.toArray⟩] w fun e w' => e = .returned (.int .i64 ((indS s : Nat) : Int)) ∧ w = w' := by
  have hsz := size_of s
  have hsI : (s.length : Int) ≤ 4294967280 := by omega
  generalize hD : (ByteArray.mk s.toArray) = D at *
  go_enter Tryz.func92, Tryz.ntmps92
  go_wp2
  go_loopw [3] (fun v wr => ∃ l, v = .int .i64 ((s.length - l.length : Nat) : Int) ∧ l <:+ s ∧ spanR [9, 32] l = spanR [9, 32] s ∧ wr = w) (fun v _ => s.length - (RowKit.intOf v).toNat)
  case atStart => exact ⟨s, by simp, List.suffix_refl _, rfl, rfl⟩
  case round =>
    obtain ⟨l, rfl, hsuf, hsp, hwr⟩ := hrel
    subst hwr
    cases l with
    | nil =>
      have HE : Hid (((s.length - ([] : Bs).length : Nat) : Int) = ((indS s : Nat) : Int)) := by
        show _ = _
        unfold indS
        rw [← hsp]
        rfl
      clear hsp hsuf
      go_wp2
      go_ret
      exact ⟨by rw [← HE.out]; rfl, rfl⟩
    | cons c r =>
      have hle : (c :: r).length ≤ s.length := hsuf.length_le
      have g0 := at_suf0 hsuf
      have gX : ∀ hh, (((ByteArray.mk s.toArray)[s.length - (c :: r).length]'hh).toNat : Int) = (c.toNat : Int) := fun hh => by rw [g0 hh]
      rw [hD] at gX
      have b1 : ((s.length - (c :: r).length : Nat) : Int) < (s.length : Int) := by simp only [List.length_cons] at hle ⊢; omega
      have b2 : (0 : Int) ≤ ((s.length - (c :: r).length : Nat) : Int) := by omega
      have b3 : (((s.length - (c :: r).length : Nat) : Int)).toNat = s.length - (c :: r).length := by omega
      have HA : Hid (s.length - (c :: r).length + (c :: r).length = s.length) := by show _ = _; omega
      by_cases hc : [9, 32].contains c = true
      · have HR : Hid (r <:+ s ∧ spanR [9, 32] r = spanR [9, 32] s) := ⟨(List.suffix_cons c r).trans hsuf, by rw [← hsp, spanR_in _ _ _ hc]⟩
        have HN : Hid (((s.length - (c :: r).length : Nat) : Int) + 1 = ((s.length - r.length : Nat) : Int)) := by
          show _ = _
          simp only [List.length_cons] at hle ⊢; omega
        have m3 : ((c.toNat : Int) == 9) = true ∨ (((c.toNat : Int) == 9) = false ∧ ((c.toNat : Int) == 32) = true) := by
          have : c = 9 ∨ c = 32 := by simpa using hc
          rcases this with rfl | rfl <;> decide
        clear hc hsp hsuf hle g0
        generalize hgA : s.length - (c :: r).length = A at *
        clear hgA
        generalize (c.toNat : Int) = X at *
        rcases m3 with m3 | ⟨m3, m4⟩
        all_goals
          go_wp2
          refine ⟨⟨r, congrArg (Value.int .i64) HN.out, HR.out.1, HR.out.2, by trivial⟩, ?_⟩
          have h3 := HA.out
          simp [RowKit.intOf]
          simp at h3
          omega
      · have hc' : [9, 32].contains c = false := Bool.eq_false_iff.2 hc
        have HE : Hid (((s.length - (c :: r).length : Nat) : Int) = ((indS s : Nat) : Int)) := by
          show _ = _
          unfold indS
          rw [← hsp, spanR_out _ _ _ hc']
        have hn : ¬ (c = 9 ∨ c = 32) := by simpa using hc
        have n9 : ¬ c.toNat = 9 := fun e => hn (Or.inl (u8_eq e))
        have n32 : ¬ c.toNat = 32 := fun e => hn (Or.inr (u8_eq e))
        have m3 : ((c.toNat : Int) == 9) = false := beq_eq_false_iff_ne.2 (by omega)
        have m4 : ((c.toNat : Int) == 32) = false := beq_eq_false_iff_ne.2 (by omega)
        clear hc hc' hsp hsuf hle g0 hn n9 n32
        generalize s.length - (c :: r).length = A at *
        generalize (c.toNat : Int) = X at *
        go_wp2
        go_ret
        exact ⟨by rw [← HE.out]; rfl, rfl⟩

/-! ### Lines, read byte by byte -/
def linesC (cur rest : Bs) : List Bs := match split10 (normS rest) with
  | [] => [cur]
  | x :: xs => (cur ++ x) :: xs
theorem linesC_start (s : Bs) : linesC [] s = linesS s := by
  unfold linesC linesS
  cases h : split10 (normS s) with
  | nil => exact absurd h (split10_ne _)
  | cons x xs => simp
theorem linesC_nil (cur : Bs) : linesC cur [] = [cur] := by
  unfold linesC
  simp [normS, split10]
theorem normS_out {c : UInt8} (h : c ≠ 13) (r : Bs) : normS (c :: r) = c :: normS r := by
  cases r with
  | nil => simp [normS, h]
  | cons d r => conv => lhs; unfold normS
                rw [if_neg h]
theorem split10_at (l : Bs) : split10 (10 :: l) = [] :: split10 l := by rw [split10, if_pos rfl]
theorem split10_out {c : UInt8} (h : c ≠ 10) {l x : Bs} {xs : List Bs} (hx : split10 l = x :: xs) : split10 (c :: l) = (c :: x) :: xs := by rw [split10, if_neg h, hx]
theorem linesC_eq {cur l x : Bs} {xs : List Bs} (h : split10 (normS l) = x :: xs) : linesC cur l = (cur ++ x) :: xs := by
  unfold linesC
  rw [h]
theorem linesC_out {cur r : Bs} {c : UInt8} (h1 : c ≠ 10) (h2 : c ≠ 13) : linesC cur (c :: r) = linesC (cur ++ [c]) r := by
  cases h : split10 (normS r) with
  | nil => exact absurd h (split10_ne _)
  | cons x xs =>
    rw [linesC_eq h, linesC_eq (x := c :: x) (xs := xs) (by rw [normS_out h2]; exact split10_out h1 h)]
    simp
theorem linesC_end {cur r : Bs} {l : Bs} (h : normS l = 10 :: normS r) : linesC cur l = cur :: linesC [] r := by
  cases hx : split10 (normS r) with
  | nil => exact absurd hx (split10_ne _)
  | cons x xs =>
    rw [linesC_eq hx, linesC_eq (x := []) (xs := x :: xs) (by rw [h, split10_at, hx])]
    simp
theorem linesC_10 (cur r : Bs) : linesC cur (10 :: r) = cur :: linesC [] r := linesC_end (normS_out (by decide) r)
theorem linesC_1310 (cur r : Bs) : linesC cur (13 :: 10 :: r) = cur :: linesC [] r := linesC_end (by rw [normS, if_pos rfl, if_pos rfl])
theorem linesC_13 {cur r : Bs} (h : ∀ r', r ≠ 10 :: r') : linesC cur (13 :: r) = cur :: linesC [] r := linesC_end (by
  cases r with
  | nil => rfl
  | cons d r => rw [normS, if_pos rfl, if_neg (fun e => h r (by rw [e]))])
/-- The document's byte at a place; 0 behind the end. -/
theorem xat_any (s : Bs) (hs : s.length ≤ 4294967280) (k : Nat) (w : World) : Calls Tryz.prog 62 #[.string ⟨s.toArray⟩, .int .i64 (k : Int)] w fun e w' => e = .returned (.int .u8 ((s.getD k 0).toNat : Int)) ∧ w = w' := by
  have hsz := size_of s
  have hsI : (s.length : Int) ≤ 4294967280 := by omega
  by_cases h : k < s.length
  · have g0 : ∀ hh, (((ByteArray.mk s.toArray)[k]'hh).toNat : Int) = ((s.getD k 0).toNat : Int) := fun hh => by
      have e : (ByteArray.mk s.toArray)[k]'hh = s.getD k 0 := by
        show s.toArray[k] = _
        simp [List.getD, h]
      rw [e]
    have b1 : (k : Int) < (s.length : Int) := by omega
    have b2 : ¬ (s.length : Int) ≤ (k : Int) := by omega
    have b3 := decide_eq_false b2
    generalize (ByteArray.mk s.toArray) = D at *
    generalize ((s.getD k 0).toNat : Int) = X at *
    clear b2 h
    go_enter Tryz.func62, Tryz.ntmps62
    go_wp2
    go_ret
    exact ⟨rfl, rfl⟩
  · have e : ((s.getD k 0).toNat : Int) = 0 := by
      have : s.getD k 0 = 0 := by simp [List.getD, List.getElem?_eq_none (Nat.le_of_not_lt h)]
      rw [this]; rfl
    rw [e]
    have b2 : (s.length : Int) ≤ (k : Int) := by omega
    have b3 := decide_eq_true b2
    generalize (ByteArray.mk s.toArray) = D at *
    clear h e
    go_enter Tryz.func62, Tryz.ntmps62
    go_wp2
    go_ret
    exact ⟨rfl, rfl⟩
end Go.Proofs.YtglpabfjnngbnaaGreatDoor
namespace Go.Proofs.YtglpabfjnngbnaaGreatDoor
open Go Go.RowKit
theorem Tryz.infoStrX : (Tryz.prog.info? 9).map (fun i => (i.zero, i.size, i.bytes)) = some (some (.string ⟨#[]⟩), 1, 16) := by kernel_rfl
abbrev strCs (L : List Bs) : List Value := L.map fun x => Value.string ⟨x.toArray⟩
abbrev StrOwn (w : World) (B : Nat) (v : Value) (L : List Bs) : Prop := w.ownsRow B 9 1 v L.length (strCs L)
/-- Between two bytes: the lines that have ended, where the line at hand begins, what is left. -/
structure LnS (s : Bs) (w wr : World) (o : Value) (lb l : Bs) (L : List Bs) : Prop where
  lbs : lb <:+ s
  suf : l <:+ lb
  eq : L ++ linesC (ahead lb l) l = linesS s
  len : L.length + l.length ≤ s.length
  own : StrOwn wr w.heap.size o L
  bel : Below w.heap.size w wr
theorem ahead_self (l : Bs) : ahead l l = [] := by unfold ahead; simp
theorem ahead_nilV (l : Bs) : ahead l [] = l := by unfold ahead; simp
theorem ahead_snoc {lb r : Bs} {c : UInt8} (h : (c :: r) <:+ lb) : ahead lb r = ahead lb (c :: r) ++ [c] := by
  obtain ⟨p, rfl⟩ := h
  unfold ahead
  have e1 : (p ++ c :: r).length - r.length = p.length + 1 := by simp; omega
  have e2 : (p ++ c :: r).length - (c :: r).length = p.length := by simp
  rw [e1, e2, List.take_length_add_append]
  simp
theorem LnS.step {s : Bs} {w wr : World} {o : Value} {lb r : Bs} {c : UInt8} {L : List Bs} (h : LnS s w wr o lb (c :: r) L) (h1 : c ≠ 10) (h2 : c ≠ 13) : LnS s w wr o lb r L := by
  refine ⟨h.lbs, (List.suffix_cons c r).trans h.suf, ?_, ?_, h.own, h.bel⟩
  · rw [← h.eq, linesC_out h1 h2, ahead_snoc h.suf]
  · have := h.len
    simp at this
    omega
theorem own_gt {w : World} {B e sz n : Nat} {v : Value} {xs : List Value} (h : w.ownsRow B e sz v n xs) : ∀ k, v.ownBlock = some k → B ≤ k := own_ge h
theorem LnS.line {s : Bs} {w wr w2 : World} {o v' : Value} {lb l r : Bs} {L : List Bs} {X : Obj} (h : LnS s w wr o lb l L) (hr : r <:+ l) (hlt : r.length < l.length) (he : linesC (ahead lb l) l = ahead lb l :: linesC [] r)
    (hown : w2.ownsRow w.heap.size 9 1 v' (L.length + 1) (strCs L ++ [.string ⟨(ahead lb l).toArray⟩])) (hg : (wr.alloc X).grownBy w2 o.ownBlock) : LnS s w w2 v' r r (L ++ [ahead lb l]) := by
  refine ⟨(hr.trans h.suf).trans h.lbs, List.suffix_refl _, ?_, ?_, ?_, (h.bel.alloc h.bel.size _).grown hg (by simp; have := h.bel.size; omega) (own_ge h.own)⟩
  · rw [ahead_self, ← h.eq, he, List.append_assoc]
    rfl
  · have := h.len
    rw [List.length_append, List.length_singleton]
    omega
  · unfold StrOwn strCs
    rw [List.length_append, List.map_append]
    exact hown

theorem own_no (w : World) : (w.alloc (.cells #[] 9)).ownsRow w.heap.size 9 1 (.slice (some ⟨w.heap.size, 0, none⟩) 0 0) 0 [] :=
  ⟨rfl, Or.inr ⟨w.heap.size, 0, _, rfl, Nat.le_refl _, heap_alloc_new _ _, Nat.le_refl _, by decide, rfl, rfl⟩⟩
set_option maxRecDepth 100000 in
set_option maxHeartbeats 4000000 in
theorem xlines_any (s : Bs) (hs : s.length ≤ 1048576) (w : World) : Calls Tryz.prog 91 #[.string ⟨s.toArray⟩] w fun e w' => ∃ v, e = .returned v ∧ StrOwn w' w.heap.size v (linesS s) ∧ Below w.heap.size w w' := by
  obtain ⟨i1, hi1, hy0, hy1, hy2⟩ := info_parts Tryz.infoStrX
  have hsz := size_of s
  have hsI : (s.length : Int) ≤ 1048576 := by omega
  have AT := fun k w => xat_any s (by omega) k w
  generalize hD : (ByteArray.mk s.toArray) = D at *
  go_enter Tryz.func91, Tryz.ntmps91
  go_wp2
  go_loopw [3, 4, 5] (fun o f v wr => ∃ lb l L, f = .int .i64 ((s.length - lb.length : Nat) : Int) ∧ v = .int .i64 ((s.length - l.length : Nat) : Int) ∧ LnS s w wr o lb l L) (fun _ _ v _ => s.length - (RowKit.intOf v).toNat)
  case atStart =>
    refine ⟨s, s, [], by simp, by simp, List.suffix_refl _, List.suffix_refl _, ?_, by simp, own_no w, (Below.refl _ _).alloc (Nat.le_refl _) _⟩
    rw [ahead_self]
    exact linesC_start s
  case round =>
    obtain ⟨lb, l, L, rfl, rfl, hQ⟩ := hrel
    have hor := hQ.own
    have hbel := hQ.bel
    have hz1 := hbel.size
    have hlen := hQ.len
    have hll : L.length ≤ 1048576 := by omega
    have hcut := cut_ahead hQ.lbs hQ.suf
    rw [hD] at hcut
    have hle := hQ.suf.length_le
    have hle2 := hQ.lbs.length_le
    have f1 : ((s.length - lb.length : Nat) : Int) ≤ ((s.length - l.length : Nat) : Int) := by omega
    have f2 : (0 : Int) ≤ ((s.length - lb.length : Nat) : Int) := by omega
    have f3 : ((s.length - l.length : Nat) : Int) ≤ (s.length : Int) := by omega
    have f4 : (((s.length - l.length : Nat) : Int)).toNat = s.length - l.length := by omega
    have f5 : (((s.length - lb.length : Nat) : Int)).toNat = s.length - lb.length := by omega
    cases l with
    | nil =>
      have HE : Hid (L ++ [ahead lb []] = linesS s) := by
        show _ = _
        rw [← hQ.eq, linesC_nil]
      simp only [List.length_nil, Nat.sub_zero] at hcut f1 f3 f4
      clear hQ hle hle2 hlen AT
      generalize s.length - lb.length = A at *
      generalize hT : (ahead lb []).toArray = T at *
      go_wp2_with (first
        | (at_builtin; refine wpList_append_own _ rfl _ _ 41 rfl w.heap.size 9 i1 (.string ⟨#[]⟩) 1 16 Tryz.underlying41 hi1 hy0 hy1 hy2 rfl (by decide) _ _ _ rfl (hor.alloc _) ⟨wr.heap.size, 0, none⟩ 1 1 [.string ⟨T⟩] rfl rfl ?c1 ?c2 ?c3 ?c4 ?c5 ?_)
        | fail)
      case c1 =>
        intro j u hj
        match j, hj with
        | 0, hj => simp at hj; subst hj; simp [Addr.add]
      case c2 => intro u hu; simp at hu; subst hu; rfl
      case c3 => unfold maxLen; first | omega | (simp; omega)
      case c4 => first | omega | (simp; omega)
      case c5 => first | omega | (simp; omega)
      intro v' w2 hown' hgrow' _
      have hown2 : StrOwn w2 w.heap.size v' (L ++ [ahead lb []]) := by
        unfold StrOwn strCs
        rw [List.length_append, List.map_append]
        subst hT
        exact hown'
      have hbr2 : Below w.heap.size w w2 := (hbel.alloc hz1 _).grown hgrow' (by simp; omega) (own_ge hor)
      rw [HE.out] at hown2
      clear hown' hgrow' hor HE
      go_wp2
      go_ret
      exact ⟨v', rfl, hown2, hbr2⟩
    | cons c r =>
      have g0 := at_suf0 (hQ.suf.trans hQ.lbs)
      have gX : ∀ hh, (((ByteArray.mk s.toArray)[s.length - (c :: r).length]'hh).toNat : Int) = (c.toNat : Int) := fun hh => by rw [g0 hh]
      rw [hD] at gX
      have b1 : ((s.length - (c :: r).length : Nat) : Int) < (s.length : Int) := by simp only [List.length_cons] at hle ⊢; omega
      have b2 : (0 : Int) ≤ ((s.length - (c :: r).length : Nat) : Int) := by omega
      have HA : Hid (s.length - (c :: r).length + (c :: r).length = s.length) := by show _ = _; omega
      have HN : Hid (((s.length - (c :: r).length : Nat) : Int) + 1 = ((s.length - r.length : Nat) : Int)) := by
        show _ = _
        simp only [List.length_cons] at hle ⊢; omega
      have HQ : Hid (LnS s w wr _ lb (c :: r) L) := hQ
      by_cases h10 : c = 10
      · subst h10
        have gX : ∀ hh, ((D[s.length - (10 :: r).length]'hh).toNat : Int) = 10 := gX
        clear hQ hle hle2 hlen AT g0
        generalize hgA : s.length - lb.length = A at *
        generalize hgB : s.length - (10 :: r).length = B at *
        clear hgB
        generalize hT : (ahead lb (10 :: r)).toArray = T at *
        go_wp2_with (first
          | (at_builtin; refine wpList_append_own _ rfl _ _ 41 rfl w.heap.size 9 i1 (.string ⟨#[]⟩) 1 16 Tryz.underlying41 hi1 hy0 hy1 hy2 rfl (by decide) _ _ _ rfl (hor.alloc _) ⟨wr.heap.size, 0, none⟩ 1 1 [.string ⟨T⟩] rfl rfl ?c1 ?c2 ?c3 ?c4 ?c5 ?_)
          | fail)
        case c1 =>
          intro j u hj
          match j, hj with
          | 0, hj => simp at hj; subst hj; simp [Addr.add]
        case c2 => intro u hu; simp at hu; subst hu; rfl
        case c3 => unfold maxLen; first | omega | (simp; omega)
        case c4 => first | omega | (simp; omega)
        case c5 => first | omega | (simp; omega)
        intro v' w2 hown' hgrow' _
        have hq2 : LnS s w w2 v' r r (L ++ [ahead lb (10 :: r)]) := by
          subst hT
          exact HQ.out.line (List.suffix_cons _ _) (by simp) (linesC_10 _ _) hown' hgrow'
        clear hown' hgrow' hor
        go_wp2
        refine ⟨⟨r, r, _, congrArg (Value.int .i64) HN.out, congrArg (Value.int .i64) HN.out, hq2⟩, ?_⟩
        have h3 := HA.out
        simp [RowKit.intOf]
        simp at h3
        omega
      · by_cases h13 : c = 13
        · subst h13
          have gX : ∀ hh, ((D[s.length - (13 :: r).length]'hh).toNat : Int) = 13 := gX
          have e1 : ((s.length - (13 :: r).length : Nat) : Int) + 1 = ((s.length - (13 :: r).length + 1 : Nat) : Int) := by omega
          have AT := AT (s.length - (13 :: r).length + 1)
          have hat : s.getD (s.length - (13 :: r).length + 1) 0 = r.getD 0 0 := by
            obtain ⟨p, hp⟩ := hQ.suf.trans hQ.lbs
            have e9 : s.length - (13 :: r).length + 1 = p.length + 1 := by rw [← hp]; simp
            rw [e9, ← hp]
            simp only [List.getD]
            rw [List.getElem?_append_right (by omega), show p.length + 1 - p.length = 1 by omega]
            rfl
          rw [hat] at AT
          have HM : Hid (((s.length - (13 :: r).length + 1 : Nat) : Int) = ((s.length - r.length : Nat) : Int)) := by
            show _ = _
            simp only [List.length_cons] at hle ⊢; omega
          have x1 : ((s.length - (13 :: r).length + 1 : Nat) : Int) ≤ 1048577 := by omega
          by_cases hr : ∃ r', r = 10 :: r'
          · obtain ⟨r', rfl⟩ := hr
            have AT : ∀ w, Calls Tryz.prog 62 #[.string D, .int .i64 ((s.length - (13 :: 10 :: r').length + 1 : Nat) : Int)] w fun e w' => e = .returned (.int .u8 10) ∧ w = w' := AT
            have HM2 : Hid (((s.length - (13 :: 10 :: r').length + 1 : Nat) : Int) + 1 = ((s.length - r'.length : Nat) : Int)) := by
              show _ = _
              simp only [List.length_cons] at hle ⊢; omega
            clear hQ hle hle2 hlen g0 hat
            generalize hgC : s.length - (13 :: 10 :: r').length + 1 = C at *
            clear hgC
            generalize hgA : s.length - lb.length = A at *
            generalize hgB : s.length - (13 :: 10 :: r').length = B at *
            clear hgB
            generalize hT : (ahead lb (13 :: 10 :: r')).toArray = T at *
            go_wp2_with (first
              | (at_builtin; refine wpList_append_own _ rfl _ _ 41 rfl w.heap.size 9 i1 (.string ⟨#[]⟩) 1 16 Tryz.underlying41 hi1 hy0 hy1 hy2 rfl (by decide) _ _ _ rfl (hor.alloc _) ⟨wr.heap.size, 0, none⟩ 1 1 [.string ⟨T⟩] rfl rfl ?c1 ?c2 ?c3 ?c4 ?c5 ?_)
              | fail)
            case c1 =>
              intro j u hj
              match j, hj with
              | 0, hj => simp at hj; subst hj; simp [Addr.add]
            case c2 => intro u hu; simp at hu; subst hu; rfl
            case c3 => unfold maxLen; first | omega | (simp; omega)
            case c4 => first | omega | (simp; omega)
            case c5 => first | omega | (simp; omega)
            intro v' w2 hown' hgrow' _
            have hq2 : LnS s w w2 v' r' r' (L ++ [ahead lb (13 :: 10 :: r')]) := by
              subst hT
              exact HQ.out.line ((List.suffix_cons _ _).trans (List.suffix_cons _ _)) (by simp; omega) (linesC_1310 _ _) hown' hgrow'
            clear hown' hgrow' hor
            go_wp2_with (go_at_call 62; refine (AT _).mono ?_; rintro e w7 ⟨rfl, rfl⟩)
            refine ⟨⟨r', r', _, congrArg (Value.int .i64) HM2.out, congrArg (Value.int .i64) HM2.out, hq2⟩, ?_⟩
            have h3 := HA.out
            simp [RowKit.intOf]
            simp at h3
            omega
          · have hr' : ∀ r', r ≠ 10 :: r' := fun r' e => hr ⟨r', e⟩
            have m1 : (((r.getD 0 0).toNat : Int) == 10) = false := by
              rw [beq_eq_false_iff_ne]
              intro e
              cases r with
              | nil => cases e
              | cons d r =>
                have : d.toNat = 10 := by
                  have e' : (d.toNat : Int) = 10 := e
                  omega
                exact hr' r (by rw [show d = 10 from u8_eq this])
            have HL : Hid (linesC (ahead lb (13 :: r)) (13 :: r) = ahead lb (13 :: r) :: linesC [] r) := linesC_13 hr'
            clear hQ hle hle2 hlen g0 hat hr hr'
            generalize hgC : s.length - (13 :: r).length + 1 = C at *
            clear hgC
            generalize hgA : s.length - lb.length = A at *
            generalize hgB : s.length - (13 :: r).length = B at *
            clear hgB
            generalize ((r.getD 0 0).toNat : Int) = Y at *
            generalize hT : (ahead lb (13 :: r)).toArray = T at *
            go_wp2_with (first
              | (at_builtin; refine wpList_append_own _ rfl _ _ 41 rfl w.heap.size 9 i1 (.string ⟨#[]⟩) 1 16 Tryz.underlying41 hi1 hy0 hy1 hy2 rfl (by decide) _ _ _ rfl (hor.alloc _) ⟨wr.heap.size, 0, none⟩ 1 1 [.string ⟨T⟩] rfl rfl ?c1 ?c2 ?c3 ?c4 ?c5 ?_)
              | fail)
            case c1 =>
              intro j u hj
              match j, hj with
              | 0, hj => simp at hj; subst hj; simp [Addr.add]
            case c2 => intro u hu; simp at hu; subst hu; rfl
            case c3 => unfold maxLen; first | omega | (simp; omega)
            case c4 => first | omega | (simp; omega)
            case c5 => first | omega | (simp; omega)
            intro v' w2 hown' hgrow' _
            have hq2 : LnS s w w2 v' r r (L ++ [ahead lb (13 :: r)]) := by
              subst hT
              exact HQ.out.line (List.suffix_cons _ _) (by simp) HL.out hown' hgrow'
            clear hown' hgrow' hor
            go_wp2_with (go_at_call 62; refine (AT _).mono ?_; rintro e w7 ⟨rfl, rfl⟩)
            refine ⟨⟨r, r, _, congrArg (Value.int .i64) HM.out, congrArg (Value.int .i64) HM.out, hq2⟩, ?_⟩
            have h3 := HA.out
            simp [RowKit.intOf]
            simp at h3
            omega
        · have hq2 := hQ.step h10 h13
          have n1 : ¬ c.toNat = 10 := fun e => h10 (u8_eq e)
          have n2 : ¬ c.toNat = 13 := fun e => h13 (u8_eq e)
          have m1 : ((c.toNat : Int) == 10) = false := beq_eq_false_iff_ne.2 (by omega)
          have m2 : ((c.toNat : Int) == 13) = false := beq_eq_false_iff_ne.2 (by omega)
          clear hQ hle hle2 hlen AT g0 n1 n2 h10 h13 HQ hcut
          generalize hgA : s.length - lb.length = A at *
          have HG : Hid (s.length - lb.length = A) := hgA
          clear hgA
          generalize hgB : s.length - (c :: r).length = B at *
          clear hgB
          generalize (c.toNat : Int) = X at *
          go_wp2
          refine ⟨⟨lb, r, L, by rw [HG.out], congrArg (Value.int .i64) HN.out, hq2⟩, ?_⟩
          have h3 := HA.out
          simp [RowKit.intOf]
          simp at h3
          omega
end Go.Proofs.YtglpabfjnngbnaaGreatDoor
namespace Go.Proofs.YtglpabfjnngbnaaGreatDoor
open Go Go.RowKit

/-- A row of texts with room behind it. -/
def RowC (w : World) (g cap : Nat) (L : List Bs) : Prop := ∃ cur, w.heap[g]? = some (.cells cur 9 (0, 0)) ∧ L.length ≤ cap ∧ cur.size = cap ∧ cur.toList.take L.length = strCs L
theorem RowC.cell {w : World} {g cap : Nat} {L : List Bs} (h : RowC w g cap L) (i : Nat) (hi : i < L.length) : w.cell? ⟨g, i, none⟩ = some (.string ⟨L[i].toArray⟩) := by
  obtain ⟨cur, h1, h2, h3, h4⟩ := h
  unfold World.cell?
  rw [h1]
  have e : (cur.toList.take L.length)[i]? = (strCs L)[i]? := by rw [h4]
  rw [List.getElem?_take, if_pos hi] at e
  have e2 : (strCs L)[i]? = some (.string ⟨L[i].toArray⟩) := by simp [hi]
  rw [e2] at e
  simpa using e
theorem RowC.free {w : World} {g cap : Nat} {L : List Bs} (h : RowC w g cap L) (i : Nat) : w.frozen? ⟨g, i, none⟩ = false := by
  obtain ⟨cur, h1, _⟩ := h
  exact frozen_of_row w g i _ _ h1
theorem RowC.lt {w : World} {g cap : Nat} {L : List Bs} (h : RowC w g cap L) : g < w.heap.size := by
  obtain ⟨cur, h1, _⟩ := h
  exact lt_of_block h1
theorem RowC.below {w w' : World} {g cap B : Nat} {L : List Bs} (h : RowC w g cap L) (hb : Below B w w') (hg : g < B) : RowC w' g cap L := by
  obtain ⟨cur, h1, r⟩ := h
  exact ⟨cur, (hb.block g hg).trans h1, r⟩
theorem RowC.drewN {w : World} {g cap : Nat} {L : List Bs} (h : RowC w g cap L) (n : Nat) : RowC (w.drewN n) g cap L := h
theorem RowC.set {w : World} {g cap : Nat} {L : List Bs} (h : RowC w g cap L) (i : Nat) (x : Bs) : RowC (w.setCell ⟨g, i, none⟩ (.string ⟨x.toArray⟩)) g cap (L.set i x) := by
  obtain ⟨cur, h1, h2, h3, h4⟩ := h
  refine ⟨_, heap_setCell_same w g i _ _ (.string ⟨x.toArray⟩) h1, by simpa using h2, by simpa using h3, ?_⟩
  rw [Array.toList_setIfInBounds, List.length_set, List.take_set, h4]
  simp [List.map_set]
theorem RowC.of_own {w : World} {B : Nat} {v : Value} {L : List Bs} (h : StrOwn w B v L) (hL : L ≠ []) : ∃ g cap, v = .slice (some ⟨g, 0, none⟩) L.length cap ∧ L.length ≤ cap ∧ B ≤ g ∧ RowC w g cap L := by
  rcases h.2 with ⟨_, h0⟩ | ⟨g, cap, cur, hv, hB, hg, hn, _, hs, ht⟩
  · exact absurd (List.length_eq_zero_iff.1 h0) hL
  · exact ⟨g, cap, hv, hn, hB, cur, hg, hn, by omega, by simpa using ht⟩

theorem indS_le (x : Bs) : indS x ≤ x.length := by unfold indS; omega
theorem blank_iff (x : Bs) : blankB x = false ↔ indS x < x.length := by
  have := indS_le x
  unfold blankB
  rw [beq_eq_false_iff_ne]
  omega
/-- One line more, for the indent that all share. -/
def comStep (a : Option Nat) (x : Bs) : Option Nat := if blankB x then a else match a with
    | none => some (indS x)
    | some n => if indS x < n then some (indS x) else some n
theorem commonS_cons (x : Bs) (xs : List Bs) (a : Option Nat) : commonS (x :: xs) a = commonS xs (comStep a x) := rfl
/-- The lines that are not blank, between which: none yet; or from the first to the last. -/
inductive Mids (n : Nat) : List Bs → Int → Int → Prop
  | no (D : List Bs) (h : ∀ x ∈ D, blankB x = true) : Mids n D (n : Int) (-1)
  | yes (A M C : List Bs) (y z : Bs) (M1 : List Bs) (hA : ∀ x ∈ A, blankB x = true) (hC : ∀ x ∈ C, blankB x = true) (hy : blankB y = false) (hz : blankB z = false) (h1 : ∃ T, M = y :: T) (h2 : M = M1 ++ [z]) : Mids n (A ++ M ++ C) (A.length : Int) ((A.length + M.length : Nat) - 1 : Int)
theorem Mids.blank {n : Nat} {D : List Bs} {f l : Int} (h : Mids n D f l) {x : Bs} (hx : blankB x = true) : Mids n (D ++ [x]) f l := by
  cases h with
  | no D h => exact .no _ (fun y hy => by
      rcases List.mem_append.1 hy with h' | h'
      · exact h y h'
      · rw [List.mem_singleton.1 h']; exact hx)
  | yes A M C y z M1 hA hC hy hz h1 h2 =>
    rw [List.append_assoc]
    exact .yes A M (C ++ [x]) y z M1 hA (fun y hy => by
      rcases List.mem_append.1 hy with h' | h'
      · exact hC y h'
      · rw [List.mem_singleton.1 h']; exact hx) hy hz h1 h2
theorem Mids.full {n : Nat} {D : List Bs} {f l : Int} (h : Mids n D f l) {x : Bs} (hx : blankB x = false) (hn : D.length ≤ n) : Mids n (D ++ [x]) (min f (D.length : Int)) (D.length : Int) := by
  cases h with
  | no D h =>
    have := Mids.yes (n := n) D [x] [] x x [] h (by simp) hx hx ⟨[], rfl⟩ rfl
    rw [List.append_nil] at this
    rw [show min (n : Int) (D.length : Int) = D.length by omega]
    have e : ((D.length + [x].length : Nat) - 1 : Int) = (D.length : Int) := by simp
    rw [e] at this
    exact this
  | yes A M C y z M1 hA hC hy hz h1 h2 =>
    obtain ⟨T, hT⟩ := h1
    have := Mids.yes (n := n) A (M ++ C ++ [x]) [] y x (M ++ C) hA (by simp) hy hx ⟨T ++ C ++ [x], by rw [hT]; simp⟩ rfl
    rw [List.append_nil] at this
    have e1 : min (A.length : Int) ((A ++ M ++ C).length : Int) = (A.length : Int) := by simp; omega
    have e2 : ((A.length + (M ++ C ++ [x]).length : Nat) - 1 : Int) = ((A ++ M ++ C).length : Int) := by simp; omega
    rw [e1, ← e2]
    have e3 : A ++ M ++ C ++ [x] = A ++ (M ++ C ++ [x]) := by simp
    rw [e3]
    exact this
theorem dropWhile_all {p : Bs → Bool} : ∀ {A : List Bs} {l : List Bs}, (∀ x ∈ A, p x = true) → (A ++ l).dropWhile p = l.dropWhile p
  | [], _, _ => rfl
  | a :: A, l, h => by
    rw [List.cons_append, List.dropWhile_cons, if_pos (h a (by simp))]
    exact dropWhile_all fun x hx => h x (by simp [hx])
/-- What is left when the blank lines at both ends are gone. -/
theorem Mids.trim {n : Nat} {R : List Bs} {f l : Int} (h : Mids n R f l) : (trimS R = [] ∧ f = n ∧ l = -1) ∨ ∃ A M C : List Bs, R = A ++ M ++ C ∧ trimS R = M ∧ M ≠ [] ∧ f = A.length ∧ l = ((A.length + M.length : Nat) - 1 : Int) := by
  cases h with
  | no D h =>
    left
    refine ⟨?_, rfl, rfl⟩
    unfold trimS
    have e : R.dropWhile blankB = [] := by
      have := dropWhile_all (l := []) h
      rw [List.append_nil] at this
      rw [this]; rfl
    rw [e]
    rfl
  | yes A M C y z M1 hA hC hy hz h1 h2 =>
    right
    obtain ⟨T, hT⟩ := h1
    refine ⟨A, M, C, rfl, ?_, by rw [hT]; simp, rfl, rfl⟩
    unfold trimS
    rw [List.append_assoc, dropWhile_all hA]
    have e1 : (M ++ C).dropWhile blankB = M ++ C := by
      rw [hT, List.cons_append, List.dropWhile_cons, if_neg (by rw [hy]; decide)]
    rw [e1, List.reverse_append, dropWhile_all (fun x hx => hC x (List.mem_reverse.1 hx)), h2, List.reverse_append]
    show (([z] ++ M1.reverse).dropWhile blankB).reverse = _
    rw [List.singleton_append, List.dropWhile_cons, if_neg (by rw [hz]; decide)]
    simp
theorem joinS_snoc : ∀ (L : List Bs) (x : Bs), L ≠ [] → joinS (L ++ [x]) = joinS L ++ 10 :: x
  | [], _, h => absurd rfl h
  | [a], x, _ => rfl
  | a :: b :: L, x, _ => by
    have ih := joinS_snoc (b :: L) x (by simp)
    show a ++ 10 :: joinS ((b :: L) ++ [x]) = (a ++ 10 :: joinS (b :: L)) ++ 10 :: x
    rw [ih]
    simp
/-- The lines, cut. -/
def cutL (c : Nat) : List Bs → List Bs
  | [] => []
  | x :: xs => x :: xs.map (cutS c)
theorem cutL_len (c : Nat) (L : List Bs) : (cutL c L).length = L.length := by cases L <;> simp [cutL]
theorem cutL_at (c : Nat) (L : List Bs) (i : Nat) (hi : i < L.length) : (cutL c L)[i]'(by rw [cutL_len]; exact hi) = if i = 0 then L[i] else cutS c L[i] := by
  cases L with
  | nil => simp at hi
  | cons x xs =>
    cases i with
    | zero => rfl
    | succ i => simp [cutL]
theorem blockS_cut (raw : Bs) : blockS raw = joinS (trimS (cutL ((commonS (linesS raw).tail none).getD 0) (linesS raw))) := by
  unfold blockS
  cases linesS raw with
  | nil => rfl
  | cons x xs => rfl
end Go.Proofs.YtglpabfjnngbnaaGreatDoor
namespace Go.Proofs.YtglpabfjnngbnaaGreatDoor
open Go Go.RowKit

theorem xindent_of (x : Bs) (hx : x.length ≤ 1048576) (w : World) : Calls Tryz.prog 92 #[.string ⟨x.toArray⟩] w fun e w' => e = .returned (.int .i64 ((indS x : Nat) : Int)) ∧ w' = w := (xindent_any x (by omega) w).mono fun _ _ ⟨a, b⟩ => ⟨a, b.symm⟩
/-- Where the lines that are not blank lie. -/
theorem mids_at {n : Nat} {R : List Bs} {f l : Int} (h : Mids n R f l) (hn : R.length ≤ n) : ∃ a : Nat, f = (a : Int) ∧ (∀ k : Nat, k ≤ (trimS R).length → ((a : Int) + (k : Int) ≤ l ↔ k < (trimS R).length)) ∧ (∀ k (hk : k < (trimS R).length), R[a + k]? = some (trimS R)[k]) ∧ a + (trimS R).length ≤ n := by
  rcases h.trim with ⟨h1, h2, h3⟩ | ⟨A, M, C, h1, h2, h3, h4, h5⟩
  · rw [h1]
    refine ⟨n, h2, fun k hk => ?_, fun k hk => by simp at hk, by simp⟩
    simp at hk
    subst hk
    rw [h3]
    simp
    omega
  · rw [h2]
    have hM : 0 < M.length := List.length_pos_iff.2 h3
    refine ⟨A.length, h4, fun k hk => by rw [h5]; omega, fun k hk => ?_, by rw [h1] at hn; simp at hn; omega⟩
    rw [h1, List.append_assoc, List.getElem?_append_right (by omega), Nat.add_sub_cancel_left, List.getElem?_append_left hk, List.getElem?_eq_getElem hk]
theorem own_nob (w : World) : (w.alloc (.cells #[] 5)).ownsRow w.heap.size 5 1 (.slice (some ⟨w.heap.size, 0, none⟩) 0 0) 0 (Lib.byteCells []) :=
  ⟨rfl, Or.inr ⟨w.heap.size, 0, _, rfl, Nat.le_refl _, heap_alloc_new _ _, Nat.le_refl _, by decide, rfl, rfl⟩⟩
theorem take_next {R : List Bs} {j : Nat} (h : j < R.length) : R.take (j + 1) = R.take j ++ [R[j]] := by rw [List.take_succ_eq_append_getElem h]
theorem row_next {R L : List Bs} {j : Nat} (h : j < L.length) (hR : R.length = L.length) : (R.take j ++ L.drop j).set j (R[j]'(by omega)) = R.take (j + 1) ++ L.drop (j + 1) := by
  rw [take_next (by omega), List.drop_eq_getElem_cons h, List.set_append_right _ _ (by rw [List.length_take]; omega)]
  have e : j - (R.take j).length = 0 := by rw [List.length_take]; omega
  rw [e, List.set_cons_zero, List.append_assoc]
  rfl
theorem row_first {R L : List Bs} (h1 : 0 < R.length) (h2 : 0 < L.length) (h : R[0] = L[0]) : R.take (0 + 1) ++ L.drop (0 + 1) = R.take 0 ++ L.drop 0 := by
  cases R with
  | nil => simp at h1
  | cons r R =>
    cases L with
    | nil => simp at h2
    | cons l L =>
      have e : r = l := h
      subst e
      rfl
theorem not_none {w : World} {B e n : Nat} {v : Value} {xs : List Value} (h : w.ownsRow B e 1 v n xs) (hn : v ≠ .slice none 0 0) : ∃ g cap, v = .slice (some ⟨g, 0, none⟩) n cap := by
  rcases h.2 with ⟨h1, _⟩ | ⟨g, cap, cur, h1, _⟩
  · exact absurd h1 hn
  · exact ⟨g, cap, h1⟩
theorem join_next {M : List Bs} {k : Nat} (h : k < M.length) (hk : k ≠ 0) : joinS (M.take (k + 1)) = (joinS (M.take k) ++ [10]) ++ M[k] := by
  rw [take_next h, joinS_snoc _ _ (fun e => hk (by have := congrArg List.length e; rw [List.length_take, List.length_nil] at this; omega))]
  simp
theorem join_first {M : List Bs} (h : 0 < M.length) : joinS (M.take (0 + 1)) = joinS (M.take 0) ++ M[0] := by
  cases M with
  | nil => simp at h
  | cons a M => rfl
theorem row_atV {R L : List Bs} {j : Nat} (h : j < L.length) (hR : R.length = L.length) (hh : j < (R.take j ++ L.drop j).length) : (R.take j ++ L.drop j)[j] = L[j] := by
  rw [List.getElem_append_right (by rw [List.length_take]; omega)]
  simp only [List.getElem_drop]
  congr 1
  rw [List.length_take]
  omega

theorem bel_n (w : World) (m : Nat) : Below w.heap.size w (w.drewN m) := ⟨rfl, rfl, rfl, Nat.le_refl _, fun _ _ => rfl⟩
theorem bel_drewV {B : Nat} {w w' : World} (h : Below B w w') : Below B w w'.drew := ⟨h.os, h.tape, h.output, h.size, h.block⟩
/-- Behind the second loop: the lines that are not blank are joined. -/
def PostB (w : World) (T : Bs) (e : Ending) (w' : World) : Prop := e = .returned (.string ⟨T.toArray⟩) ∧ Below w.heap.size w w'

set_option maxRecDepth 100000 in
set_option maxHeartbeats 8000000 in
theorem xblock_any (s : Bs) (hs : s.length ≤ 1048576) (w : World) : Calls Tryz.prog 66 #[.string ⟨s.toArray⟩] w (PostB w (blockS s)) := by
  obtain ⟨i1, hi1, hy0, hy1, hy2⟩ := info_parts Tryz.infoByte
  have LI := xlines_any s hs w
  have hne : linesS s ≠ [] := split10_ne _
  obtain ⟨hn1, hn2⟩ := linesS_len s
  rw [blockS_cut]
  generalize linesS s = L at *
  have hLn : L.length ≤ 1048577 := by omega
  have hL0 : 1 ≤ L.length := List.length_pos_iff.2 hne
  have hLx : ∀ x ∈ L, x.length ≤ 1048576 := fun x hx => Nat.le_trans (hn2 x hx) hs
  clear hn1 hn2 hs
  generalize hCM : (commonS L.tail none) = CM at *
  have HCM : Hid (commonS L.tail none = CM) := hCM
  clear hCM
  generalize (ByteArray.mk s.toArray) = D at *
  have hLI : (L.length : Int) ≤ 1048577 := by omega
  go_enter Tryz.func66, Tryz.ntmps66
  go_wp2_with (go_at_call 91; refine LI.mono ?_; rintro e w1 ⟨v, rfl, hown, hb1⟩; obtain ⟨g, cap, rfl, hcap, hB, hrow⟩ := RowC.of_own hown hne)
  clear LI hown
  go_loopw [4, 5, 6] (fun c a i wr => ∃ (j : Nat) (o : Option Nat), c = .int .i64 ((o.getD 0 : Nat) : Int) ∧ a = .bool o.isSome ∧ i = .int .i64 (j : Int) ∧ j ≤ L.length ∧ commonS (L.drop j) o = CM ∧ o.getD 0 ≤ 1048576 ∧ w1 = wr) (fun _ _ i _ => L.length - (RowKit.intOf i).toNat)
  case atStart => exact ⟨1, none, rfl, rfl, rfl, hL0, by rw [List.drop_one]; exact HCM.out, by simp, rfl⟩
  case round =>
    obtain ⟨j, o, rfl, rfl, rfl, hj, hcm, ho, rfl⟩ := hrel
    by_cases hlt : j < L.length
    · have hc := hrow.cell j hlt
      have hxl := hLx L[j] (List.getElem_mem hlt)
      have IN := fun w => xindent_any L[j] (by omega) w
      have hsz := size_of L[j]
      rw [List.drop_eq_getElem_cons hlt, commonS_cons] at hcm
      have hil := indS_le L[j]
      have hbi := blank_iff L[j]
      have hjI : (j : Int) < (L.length : Int) := by omega
      have HJ : Hid (j < L.length) := hlt
      generalize hX : L[j] = X at *
      clear hX hlt hj
      have HC : Hid (commonS (L.drop (j + 1)) (comStep o X) = CM) := hcm
      clear hcm
      have x1 : (X.length : Int) ≤ 1048576 := by omega
      have x2 : ((indS X : Nat) : Int) ≤ 1048576 := by omega
      unfold comStep at HC
      by_cases hbk : blankB X = true
      · rw [if_pos hbk] at HC
        have n1 : ¬ ((indS X : Nat) : Int) < (X.length : Int) := by
          intro h
          have := hbi.2 (by omega)
          rw [hbk] at this
          cases this
        have m1 := decide_eq_false n1
        have n0 : ¬ indS X < X.length := by omega
        have m0 := decide_eq_false n0
        clear hbk hbi n1 hil
        generalize (ByteArray.mk X.toArray) = XB at *
        generalize indS X = N at *
        generalize hOS : o.isSome = OS at *
        generalize hOD : o.getD 0 = OD at *
        have HOS : Hid (o.isSome = OS ∧ o.getD 0 = OD) := ⟨hOS, hOD⟩
        clear hOS hOD
        go_wp2_with (go_at_call 92; refine (IN _).mono ?_; rintro e w7 ⟨rfl, rfl⟩)
        refine ⟨⟨j + 1, o, by rw [HOS.out.2], by rw [HOS.out.1], by go_num, HJ.out, HC.out, by rw [HOS.out.2]; exact ho, by trivial⟩, ?_⟩
        have := HJ.out
        simp [RowKit.intOf]; omega
      · rw [if_neg hbk] at HC
        have hbf : blankB X = false := Bool.eq_false_iff.2 hbk
        have n0 : indS X < X.length := hbi.1 hbf
        have n1 : ((indS X : Nat) : Int) < (X.length : Int) := by omega
        have m0 := decide_eq_true n0
        have m1 := decide_eq_true n1
        clear hbk hbi hil hbf
        generalize (ByteArray.mk X.toArray) = XB at *
        generalize indS X = N at *
        cases o with
        | none =>
          have HC : Hid (commonS (L.drop (j + 1)) (some N) = CM) := HC
          clear ho
          go_wp2_with (go_at_call 92; refine (IN _).mono ?_; rintro e w7 ⟨rfl, rfl⟩)
          refine ⟨⟨j + 1, some N, rfl, rfl, by go_num, HJ.out, HC.out, by show N ≤ 1048576; omega, by trivial⟩, ?_⟩
          have := HJ.out
          simp [RowKit.intOf]; omega
        | some M =>
          have HC : Hid (commonS (L.drop (j + 1)) (if N < M then some N else some M) = CM) := HC
          have ho : M ≤ 1048576 := ho
          by_cases hNM : N < M
          · rw [if_pos hNM] at HC
            have k0 := decide_eq_true hNM
            have k1 : (N : Int) < (M : Int) := by omega
            have k2 := decide_eq_true k1
            go_wp2_with (go_at_call 92; refine (IN _).mono ?_; rintro e w7 ⟨rfl, rfl⟩)
            refine ⟨⟨j + 1, some N, rfl, rfl, by go_num, HJ.out, HC.out, by show N ≤ 1048576; omega, by trivial⟩, ?_⟩
            have := HJ.out
            simp [RowKit.intOf]; omega
          · rw [if_neg hNM] at HC
            have k0 := decide_eq_false hNM
            have k1 : ¬ (N : Int) < (M : Int) := by omega
            have k2 := decide_eq_false k1
            go_wp2_with (go_at_call 92; refine (IN _).mono ?_; rintro e w7 ⟨rfl, rfl⟩)
            refine ⟨⟨j + 1, some M, rfl, rfl, by go_num, HJ.out, HC.out, ho, by trivial⟩, ?_⟩
            have := HJ.out
            simp [RowKit.intOf]; omega
    · obtain rfl : j = L.length := by omega
      rw [List.drop_length] at hcm
      have hcm : o = CM := hcm
      subst hcm
      clear hlt hj HCM
      generalize hC : o.getD 0 = C at *
      clear hC
      generalize hOS : o.isSome = OS at *
      clear hOS
      have hRl := cutL_len C L
      have hRx : ∀ x ∈ cutL C L, x.length ≤ 1048576 := by
        intro x hx
        cases L with
        | nil => simp [cutL] at hx
        | cons a L' =>
          rcases List.mem_cons.1 hx with rfl | h
          · exact hLx _ (by simp)
          · obtain ⟨y, hy, rfl⟩ := List.mem_map.1 h
            have := hLx y (by simp [hy])
            unfold cutS
            rw [List.length_drop]; omega
      obtain ⟨R, hR, hRl, hRx, hRat⟩ : ∃ R, cutL C L = R ∧ R.length = L.length ∧ (∀ x ∈ R, x.length ≤ 1048576) ∧ (∀ j (h1 : j < L.length) (h2 : j < R.length), R[j]'h2 = if j = 0 then L[j] else cutS C L[j]) := ⟨cutL C L, rfl, hRl, hRx, fun j h1 _ => cutL_at C L j h1⟩
      have HR : Hid (cutL C L = R) := hR
      clear hR
      go_wp2
      go_loopw [8, 9, 10] (fun f l i wr => ∃ (j : Nat) (F Z : Int), f = .int .i64 F ∧ l = .int .i64 Z ∧ i = .int .i64 (j : Int) ∧ j ≤ L.length ∧ Mids L.length (R.take j) F Z ∧ RowC wr g cap (R.take j ++ L.drop j) ∧ Below w.heap.size w wr) (fun _ _ i _ => L.length - (RowKit.intOf i).toNat)
      case atStart => exact ⟨0, _, _, rfl, rfl, rfl, Nat.zero_le _, Mids.no [] (by simp), hrow, hb1⟩
      case round =>
        obtain ⟨j, F, Z, rfl, rfl, rfl, hj, hM, hrw, hb⟩ := hrel
        clear hrow hb1
        by_cases hlt : j < L.length
        · have hlt2 : j < R.length := by omega
          have hx := row_atV hlt hRl (by rw [List.length_append, List.length_take, List.length_drop]; omega)
          have hc := hrw.cell j (by rw [List.length_append, List.length_take, List.length_drop]; omega)
          rw [hx] at hc
          have hf := hrw.free j
          have hrn := row_next hlt hRl
          have htn := take_next hlt2
          have hyx := hRat j hlt hlt2
          have hxl := hLx L[j] (List.getElem_mem hlt)
          have hyl := hRx R[j] (List.getElem_mem hlt2)
          have hjI : (j : Int) < (L.length : Int) := by omega
          have hj0 : (0 : Int) ≤ (j : Int) := by omega
          have HJ : Hid (j < L.length) := hlt
          have htl : (R.take j).length = j := by rw [List.length_take]; omega
          by_cases hz : j = 0
          · subst hz
            rw [if_pos rfl] at hyx
            have hset : RowC wr g cap (R.take (0 + 1) ++ L.drop (0 + 1)) := by
              rw [row_first hlt2 hlt hyx]
              exact hrw
            have hsy := size_of R[0]
            have IN := fun w => xindent_of R[0] hyl w
            have hbi := blank_iff R[0]
            have hmb := fun (h : blankB R[0] = true) => hM.blank h
            have hmf := fun (h : blankB R[0] = false) => hM.full h (by omega)
            rw [← htn, htl] at hmf
            rw [← htn] at hmb
            have x2 : (R[0].length : Int) ≤ 1048576 := by omega
            have hc3 : wr.cell? ⟨g, 0, none⟩ = some (.string ⟨(R[0]).toArray⟩) := by rw [hyx]; exact hc
            clear hrn htn hyx hx hM hrw hc
            generalize R[0] = Y at *
            clear hlt2 hj
            generalize (ByteArray.mk Y.toArray) = YB at *
            have hset2 := hset
            have hb2 := hb
            clear hset hb hf
            by_cases hbk : blankB Y = true
            · have n0 : ¬ indS Y < Y.length := fun h => by have := hbi.2 h; rw [hbk] at this; cases this
              have m0 := decide_eq_false n0
              have n1 : ¬ ((indS Y : Nat) : Int) < (Y.length : Int) := by omega
              have m1 := decide_eq_false n1
              have hm2 := hmb hbk
              clear hmb hmf hbk hbi n0 n1
              go_wp2
              go_quiet ((go_at_call 92; exact Calls.quiet_of_same (IN _)))
              go_wp2
              refine ⟨⟨0 + 1, F, Z, rfl, rfl, by go_num, HJ.out, hm2, hset2.drewN nq, hb2.trans ((bel_n _ nq).mono hb2.size)⟩, ?_⟩
              have := HJ.out
              simp [RowKit.intOf]; omega
            · have hbf : blankB Y = false := Bool.eq_false_iff.2 hbk
              have n0 : indS Y < Y.length := hbi.1 hbf
              have m0 := decide_eq_true n0
              have n1 : ((indS Y : Nat) : Int) < (Y.length : Int) := by omega
              have m1 := decide_eq_true n1
              have hm2 := hmf hbf
              clear hmb hmf hbk hbi hbf
              go_wp2
              go_quiet ((go_at_call 92; exact Calls.quiet_of_same (IN _)))
              go_wp2
              refine ⟨⟨0 + 1, _, _, rfl, rfl, by go_num, HJ.out, hm2, hset2.drewN nq, hb2.trans ((bel_n _ nq).mono hb2.size)⟩, ?_⟩
              have := HJ.out
              simp [RowKit.intOf]; omega
          · rw [if_neg hz] at hyx
            have hj1 : (0 : Int) < (j : Int) := by omega
            have hset := hrw.set j R[j]
            rw [hrn] at hset
            have hcut := cut_bytes L[j] (min C L[j].length)
            have hcut' : (ByteArray.mk (L[j]).toArray).extract (min C L[j].length) L[j].length = ⟨(R[j]).toArray⟩ := by rw [hyx]; exact hcut
            have hsz := size_of L[j]
            have hmin : min (C : Int) (L[j].length : Int) = ((min C L[j].length : Nat) : Int) := by omega
            have hmI : ((min C L[j].length : Nat) : Int) ≤ (L[j].length : Int) := by omega
            have hm0 : (0 : Int) ≤ ((min C L[j].length : Nat) : Int) := by omega
            have hc2 := hset.cell j (by rw [List.length_append, List.length_take, List.length_drop]; omega)
            have ey : (R.take (j + 1) ++ L.drop (j + 1))[j]'(by rw [List.length_append, List.length_take, List.length_drop]; omega) = R[j] := by
              rw [List.getElem_append_left (by rw [List.length_take]; omega), List.getElem_take]
            rw [ey] at hc2
            have hsy := size_of R[j]
            have IN := fun w => xindent_of R[j] hyl w
            have hbi := blank_iff R[j]
            have hmb := fun (h : blankB R[j] = true) => hM.blank h
            have hmf := fun (h : blankB R[j] = false) => hM.full h (by omega)
            rw [← htn, htl] at hmf
            rw [← htn] at hmb
            have x1 : (L[j].length : Int) ≤ 1048576 := by omega
            have x2 : (R[j].length : Int) ≤ 1048576 := by omega
            clear hrn htn hyx hcut hx hM hrw ey
            generalize min C L[j].length = M at *
            generalize R[j] = Y at *
            generalize L[j] = X at *
            clear hlt hlt2 hj
            generalize (ByteArray.mk X.toArray) = XB at *
            generalize (ByteArray.mk Y.toArray) = YB at *
            go_wp2
            go_region
            all_goals
              have hc3 : (wr.setCell ⟨g, j, none⟩ (.string YB)).drew.cell? ⟨g, j, none⟩ = some (.string YB) := hc2
              have hset2 : RowC ((wr.setCell ⟨g, j, none⟩ (.string YB)).drew) g cap (R.take (j + 1) ++ L.drop (j + 1)) := hset
              have hb2 : Below w.heap.size w ((wr.setCell ⟨g, j, none⟩ (.string YB)).drew) := bel_drewV (hb.setCell (p := ⟨g, j, none⟩) hB (.string YB))
              clear hset hc2 hc hf hb
              generalize (wr.setCell ⟨g, j, none⟩ (.string YB)).drew = W0 at *
              by_cases hbk : blankB Y = true
              · have n0 : ¬ indS Y < Y.length := fun h => by have := hbi.2 h; rw [hbk] at this; cases this
                have m0 := decide_eq_false n0
                have n1 : ¬ ((indS Y : Nat) : Int) < (Y.length : Int) := by omega
                have m1 := decide_eq_false n1
                have hm2 := hmb hbk
                clear hmb hmf hbk hbi n0 n1
                go_wp2
                go_quiet ((go_at_call 92; exact Calls.quiet_of_same (IN _)))
                go_wp2
                refine ⟨⟨j + 1, F, Z, rfl, rfl, by go_num, HJ.out, hm2, hset2.drewN nq, hb2.trans ((bel_n _ nq).mono hb2.size)⟩, ?_⟩
                have := HJ.out
                simp [RowKit.intOf]; omega
              · have hbf : blankB Y = false := Bool.eq_false_iff.2 hbk
                have n0 : indS Y < Y.length := hbi.1 hbf
                have m0 := decide_eq_true n0
                have n1 : ((indS Y : Nat) : Int) < (Y.length : Int) := by omega
                have m1 := decide_eq_true n1
                have hm2 := hmf hbf
                clear hmb hmf hbk hbi hbf
                go_wp2
                go_quiet ((go_at_call 92; exact Calls.quiet_of_same (IN _)))
                go_wp2
                refine ⟨⟨j + 1, _, _, rfl, rfl, by go_num, HJ.out, hm2, hset2.drewN nq, hb2.trans ((bel_n _ nq).mono hb2.size)⟩, ?_⟩
                have := HJ.out
                simp [RowKit.intOf]; omega
        · obtain rfl : j = L.length := by omega
          rw [List.take_of_length_le (by omega), List.drop_length, List.append_nil] at hrw
          rw [List.take_of_length_le (by omega)] at hM
          obtain ⟨a, rfl, hcond, hidx, han⟩ := mids_at hM (by omega)
          have HT : Hid (joinS (trimS (cutL C L)) = joinS (trimS R)) := by show _ = _; rw [HR.out]
          generalize trimS R = M at *
          have hMx : ∀ x ∈ M, x.length ≤ 1048576 := by
            intro x hx
            obtain ⟨k, hk, rfl⟩ := List.mem_iff_getElem.1 hx
            exact hRx _ (List.mem_of_getElem? (hidx k hk))
          have haI : (a : Int) ≤ 1048577 := by omega
          have hgl := hrw.lt
          clear hM hlt hj hLx hRat
          generalize wr = wB at *
          go_wp2
          go_loopw [11, 12] (fun o i wr3 => ∃ k : Nat, k ≤ M.length ∧ i = .int .i64 ((a + k : Nat) : Int) ∧ Bytes wr3 wB.heap.size o (joinS (M.take k)) ∧ o ≠ .slice none 0 0 ∧ Below wB.heap.size wB wr3) (fun _ i _ => a + M.length - (RowKit.intOf i).toNat)
          case atStart => exact ⟨0, Nat.zero_le _, rfl, own_nob wB, by simp, (Below.refl _ _).alloc (Nat.le_refl _) _⟩
          case round =>
            obtain ⟨k, hk, rfl, hor, hnn, hb3⟩ := hrel
            have hz3 := hb3.size
            have hcd := hcond k hk
            have hjl := joinS_len 1048576 (M.take k) (fun x hx => hMx x (List.mem_of_mem_take hx))
            rw [List.length_take] at hjl
            have hjl2 : (joinS (M.take k)).length ≤ 2000000000000 := by omega
            have e0 : (a : Int) + (k : Int) = ((a + k : Nat) : Int) := by omega
            rw [e0] at hcd
            by_cases hlt : k < M.length
            · have hcd1 := hcd.2 hlt
              have hcd2 := decide_eq_true hcd1
              obtain ⟨hlr, hre⟩ := List.getElem?_eq_some_iff.1 (hidx k hlt)
              have hc := (hrw.below hb3 hgl).cell (a + k) hlr
              rw [hre] at hc
              have hxl := hMx M[k] (List.getElem_mem hlt)
              have hjn := fun h => join_next hlt h
              have HF : Hid (∀ h : k = 0, joinS (M.take (k + 1)) = joinS (M.take k) ++ M[k]) := by
                intro h
                subst h
                exact join_first hlt
              have HN : Hid (∀ h : k ≠ 0, joinS (M.take (k + 1)) = (joinS (M.take k) ++ [10]) ++ M[k]) := fun h => hjn h
              have hsx := size_of M[k]
              have HK : Hid (k < M.length) := hlt
              have q1 : ((a + k : Nat) : Int) < (L.length : Int) := by omega
              have q2 : (0 : Int) ≤ ((a + k : Nat) : Int) := by omega
              have q3 : ((a + k : Nat) : Int) ≤ 2000000 := by omega
              have HG : Hid (∀ w2, Below wB.heap.size wB w2 → w2.cell? ⟨g, a + k, none⟩ = some (.string ⟨(M[k]).toArray⟩)) := by
                intro w2 h2
                have h9 := (hrw.below h2 hgl).cell (a + k) hlr
                rw [hre] at h9
                exact h9
              clear hjn hre
              generalize M[k] = X at *
              clear hcd hlr hidx hcond
              by_cases hk0 : k = 0
              · have f1 : ¬ ((a : Int) < ((a + k : Nat) : Int)) := by omega
                have f2 := decide_eq_false f1
                have f3 : ¬ a < a + k := by omega
                have f4 := decide_eq_false f3
                have HX := HF.out hk0
                clear HF HN hlt hk HG
                generalize hJ2 : joinS (M.take (k + 1)) = J2 at *
                have HJ2 : Hid (joinS (M.take (k + 1)) = J2) := hJ2
                clear hJ2
                generalize joinS (M.take k) = J at *
                have HX2 : Hid (J2 = J ++ X) := HX
                clear HX
                generalize hXB : (ByteArray.mk X.toArray) = XB at *
                generalize hak : a + k = K at *
                have HAK : Hid (a + k = K) := hak
                clear hak
                go_wp2_with (first
                  | (at_builtin; refine Lib.wpList_append_own_string _ rfl _ _ 40 9 rfl wB.heap.size 5 i1 Tryz.underlying40 Tryz.underlying9 hi1 hy0 hy1 hy2 _ _ _ rfl hor XB rfl ?d1 ?d2 (by exact hz3) ?_)
                  | fail)
                case d1 => unfold maxLen; omega
                case d2 => omega
                intro vb w2 hob2 hg2 hnil
                have hob3 : Bytes w2 wB.heap.size vb J2 := by
                  unfold Bytes
                  rw [HX2.out, cells_app, List.length_append, ← strCells_eq X, hXB]
                  exact hob2
                have hbr2 : Below wB.heap.size wB w2 := hb3.grown hg2 hz3 (own_ge hor)
                have hnn2 : vb ≠ .slice none 0 0 := by first | exact fun e => hnn (hnil.1 e).1 | exact hnil
                clear hob2 hg2 hnil hor
                go_wp2
                refine ⟨⟨k + 1, HK.out, congrArg (Value.int .i64) (by have := HAK.out; omega), by rw [HJ2.out]; exact hob3, hnn2, hbr2⟩, ?_⟩
                have h5 := HAK.out
                have h6 := HK.out
                simp [RowKit.intOf]
                omega
              · have f1 : ((a : Int) < ((a + k : Nat) : Int)) := by omega
                have f2 := decide_eq_true f1
                have f3 : a < a + k := by omega
                have f4 := decide_eq_true f3
                have HX := HN.out hk0
                clear HF HN hlt hk
                generalize hJ2 : joinS (M.take (k + 1)) = J2 at *
                have HJ2 : Hid (joinS (M.take (k + 1)) = J2) := hJ2
                clear hJ2
                generalize joinS (M.take k) = J at *
                have HX2 : Hid (J2 = (J ++ [10]) ++ X) := HX
                clear HX
                generalize hXB : (ByteArray.mk X.toArray) = XB at *
                generalize hak : a + k = K at *
                have HAK : Hid (a + k = K) := hak
                clear hak
                go_wp2_with (first
                  | (at_builtin; refine wpList_append_own _ rfl _ _ 40 rfl wB.heap.size 5 i1 (.int .u8 0) 1 1 Tryz.underlying40 hi1 hy0 hy1 hy2 rfl (by decide) _ _ _ rfl (hor.alloc _) ⟨wr.heap.size, 0, none⟩ 1 1 [.int .u8 10] rfl rfl ?c1 ?c2 ?c3 ?c4 ?c5 ?_)
                  | fail)
                case c1 =>
                  intro j u hj
                  match j, hj with
                  | 0, hj => simp at hj; subst hj; simp [Addr.add]
                case c2 => intro u hu; simp at hu; subst hu; rfl
                case c3 => unfold maxLen; first | omega | (simp; omega)
                case c4 => first | omega | (simp; omega)
                case c5 => first | omega | (simp; omega)
                intro v' w2 hown' hgrow' _
                have hor2 : Bytes w2 wB.heap.size v' (J ++ [10]) := by
                  unfold Bytes
                  rw [cells_app, List.length_append]
                  exact hown'
                have hbr2 : Below wB.heap.size wB w2 := (hb3.alloc hz3 _).grown hgrow' (by simp; omega) (own_ge hor)
                have hnn2 : v' ≠ .slice none 0 0 := by
                  intro e
                  rcases hor2.2 with ⟨_, h0⟩ | ⟨g9, cap9, cur9, h9, _⟩
                  · simp at h0
                  · rw [h9] at e; cases e
                have hc2 := HG.out w2 hbr2
                have hz4 := hbr2.size
                have hJ2 : (J ++ [10]).length ≤ 2000000000001 := by rw [List.length_append, List.length_singleton]; omega
                clear hown' hgrow' hor hnn HG hc
                generalize J ++ [10] = J3 at *
                go_wp2_with (first
                  | (at_builtin; refine Lib.wpList_append_own_string _ rfl _ _ 40 9 rfl wB.heap.size 5 i1 Tryz.underlying40 Tryz.underlying9 hi1 hy0 hy1 hy2 _ _ _ rfl hor2 XB rfl ?e1 ?e2 (by exact hz4) ?_)
                  | fail)
                case e1 => unfold maxLen; omega
                case e2 => omega
                intro vb w3 hob2 hg2 hnil
                have hob3 : Bytes w3 wB.heap.size vb J2 := by
                  unfold Bytes
                  rw [HX2.out, cells_app, List.length_append, ← strCells_eq X, hXB]
                  exact hob2
                have hbr3 : Below wB.heap.size wB w3 := hbr2.grown hg2 hz4 (own_ge hor2)
                have hnn3 : vb ≠ .slice none 0 0 := by first | exact fun e => hnn2 (hnil.1 e).1 | exact hnil
                clear hob2 hg2 hnil hor2
                go_wp2
                refine ⟨⟨k + 1, HK.out, congrArg (Value.int .i64) (by have := HAK.out; omega), by rw [HJ2.out]; exact hob3, hnn3, hbr3⟩, ?_⟩
                have h5 := HAK.out
                have h6 := HK.out
                simp [RowKit.intOf]
                omega
            · have hcd1 : ¬ ((a + k : Nat) : Int) ≤ Z := fun h => hlt (hcd.1 h)
              have hcd2 := decide_eq_false hcd1
              rw [List.take_of_length_le (by omega)] at hor
              have HF : Hid ((ByteArray.mk (joinS M).toArray) = ⟨(joinS (trimS (cutL C L))).toArray⟩) := by show _ = _; rw [HT.out]
              obtain ⟨g9, cap9, rfl⟩ := not_none hor hnn
              have hcv := conv_row hor
              generalize (joinS M).length = JL at *
              generalize (ByteArray.mk (joinS M).toArray) = E at *
              have hbz := hb.size
              clear hcd hcond hidx hjl hjl2 hor hnn e0
              generalize a + k = K at *
              go_wp2
              go_ret
              exact ⟨by rw [← HF.out]; rfl, hb.trans (hb3.mono hbz)⟩
end Go.Proofs.YtglpabfjnngbnaaGreatDoor
namespace Go.Proofs.YtglpabfjnngbnaaGreatDoor
open Go Go.RowKit

/-! ### What is ignored -/
theorem skip_nil : skipS [] = .inl [] := by
  unfold skipS skipF; rfl
theorem skip_one {c : UInt8} (h : ignL.contains c = true) (l : Bs) : skipS (c :: l) = skipS l := by
  have h1 : headIn ignL (c :: l) = true := h
  rw [skipS_ign h1]
  have e : spanR ignL (c :: l) = spanR ignL l := by
    conv => lhs; unfold spanR
    rw [if_pos h]
  rw [e]
  by_cases h2 : headIn ignL l = true
  · exact (skipS_ign h2).symm
  · rw [spanR_stop ignL l (Bool.eq_false_iff.2 h2)]
theorem skip_bom (l : Bs) : skipS (239 :: 187 :: 191 :: l) = skipS l :=
  skipS_mark (l := 239 :: 187 :: 191 :: l) rfl rfl
theorem skip_com {l r : Bs} (h : comS l = some (.inl r)) : skipS l = skipS r := by
  unfold comS at h
  by_cases hp : List.isPrefixOf [35] l = true
  · obtain ⟨m, rfl⟩ : ∃ m, l = 35 :: m := by
      cases l with
      | nil => cases hp
      | cons c m =>
        have e : (35 == c) = true := by simpa [List.isPrefixOf] using hp
        exact ⟨m, by rw [← (beq_iff_eq.1 e)]⟩
    have h' : comS (35 :: m) = some (.inl r) := h
    rw [skipS_com (l := 35 :: m) rfl rfl, h']
  · rw [if_neg hp] at h; cases h
theorem skip_bad {l : Bs} {k : Nat} (h : comS l = some (.inr k)) : skipS l = .inr (l.length - k) := by
  unfold comS at h
  by_cases hp : List.isPrefixOf [35] l = true
  · obtain ⟨m, rfl⟩ : ∃ m, l = 35 :: m := by
      cases l with
      | nil => cases hp
      | cons c m =>
        have e : (35 == c) = true := by simpa [List.isPrefixOf] using hp
        exact ⟨m, by rw [← (beq_iff_eq.1 e)]⟩
    have h' : comS (35 :: m) = some (.inr k) := h
    rw [skipS_com (l := 35 :: m) rfl rfl, h']
  · rw [if_neg hp] at h; cases h
/-- Which way what is ignored goes on. -/
theorem skip_cases (l : Bs) : l = [] ∨ (∃ c r, l = c :: r ∧ ignL.contains c = true) ∨ (∃ r, l = 239 :: 187 :: 191 :: r) ∨ (∃ r, comS l = some (.inl r)) ∨ (∃ k, comS l = some (.inr k)) ∨ (l ≠ [] ∧ skipS l = .inl l) := by
  cases l with
  | nil => exact Or.inl rfl
  | cons c r =>
    right
    by_cases h1 : ignL.contains c = true
    · exact Or.inl ⟨c, r, rfl, h1⟩
    · right
      have h1' : headIn ignL (c :: r) = false := Bool.eq_false_iff.2 h1
      by_cases h2 : List.isPrefixOf [239, 187, 191] (c :: r) = true
      · left
        obtain ⟨t, ht⟩ := List.isPrefixOf_iff_prefix.1 h2
        exact ⟨t, ht.symm⟩
      · right
        have h2' : List.isPrefixOf [239, 187, 191] (c :: r) = false := Bool.eq_false_iff.2 h2
        cases hc : comS (c :: r) with
        | none =>
          right; right
          refine ⟨by simp, ?_⟩
          rw [skipS_com h1' h2', hc]
        | some x =>
          cases x with
          | inl r' => exact Or.inl ⟨r', rfl⟩
          | inr k => exact Or.inr (Or.inl ⟨k, rfl⟩)
/-- Whatever stands behind, this is gone over. -/
def Gap (q : Bs) : Prop := ∀ m, skipS (q ++ m) = skipS m
theorem Gap.nil : Gap [] := fun _ => rfl
theorem Gap.one {c : UInt8} (h : ignL.contains c = true) : Gap [c] := fun m => skip_one h m
theorem Gap.bom : Gap [239, 187, 191] := fun m => skip_bom m
theorem Gap.app {a b : Bs} (ha : Gap a) (hb : Gap b) : Gap (a ++ b) := fun m => by
  rw [List.append_assoc, ha, hb]
theorem spanN_all (S : Bs) : ∀ l : Bs, ∃ p, l = p ++ spanN S l ∧ (∀ c ∈ p, S.contains c = false) ∧ ∀ c m, spanN S l = c :: m → S.contains c = true
  | [] => ⟨[], rfl, fun _ h => (by cases h), fun _ _ h => (by cases h)⟩
  | c :: l => by
    by_cases h : S.contains c = true
    · refine ⟨[], ?_, fun _ h => (by cases h), ?_⟩
      · rw [spanN_stop S c l h]; rfl
      · rw [spanN_stop S c l h]
        intro d m e
        cases e
        exact h
    · have h' := Bool.eq_false_iff.2 h
      obtain ⟨p, h1, h2, h3⟩ := spanN_all S l
      rw [spanN_head S c l h']
      refine ⟨c :: p, ?_, ?_, h3⟩
      · rw [List.cons_append, ← h1]
      · intro d hd
        rcases List.mem_cons.1 hd with rfl | hd
        · exact h'
        · exact h2 d hd
theorem spanN_app (S : Bs) : ∀ (p m : Bs), (∀ c ∈ p, S.contains c = false) → spanN S (p ++ m) = spanN S m
  | [], _, _ => rfl
  | c :: p, m, h => by
    rw [List.cons_append, spanN_head S c _ (h c List.mem_cons_self)]
    exact spanN_app S p m fun d hd => h d (List.mem_cons_of_mem _ hd)
theorem ahead_app (p r : Bs) : ahead (p ++ r) r = p := by
  unfold ahead
  simp
/-- A comment: its body, and what is behind it. -/
theorem com_parts {l : Bs} {x : Bs ⊕ Nat} (h : comS l = some x) : ∃ body r, l = 35 :: (body ++ r) ∧ (∀ c ∈ body, endL.contains c = false) ∧ (∀ c m, r = c :: m → endL.contains c = true) ∧ (match srcB (35 :: body) with | none => x = .inl r | some k => x = .inr k) := by
  unfold comS at h
  by_cases hp : List.isPrefixOf [35] l = true
  · rw [if_pos hp] at h
    obtain ⟨m, rfl⟩ : ∃ m, l = 35 :: m := by
      obtain ⟨t, ht⟩ := List.isPrefixOf_iff_prefix.1 hp
      exact ⟨t, ht.symm⟩
    obtain ⟨p, h1, h2, h3⟩ := spanN_all endL m
    refine ⟨p, spanN endL m, by rw [← h1], h2, h3, ?_⟩
    have e : ahead (35 :: m) (spanN endL m) = 35 :: p := by
      have : 35 :: m = (35 :: p) ++ spanN endL m := by rw [List.cons_append, ← h1]
      conv => lhs; arg 1; rw [this]
      exact ahead_app _ _
    have h' := Option.some.inj h
    simp only [List.drop_succ_cons, List.drop_zero] at h'
    rw [e] at h'
    cases hs : srcB (35 :: p) with
    | none => rw [hs] at h'; exact h'.symm
    | some k => rw [hs] at h'; exact h'.symm
  · rw [if_neg hp] at h; cases h
theorem com_make {body r : Bs} (h1 : ∀ c ∈ body, endL.contains c = false) (h2 : ∀ c m, r = c :: m → endL.contains c = true) (hs : srcB (35 :: body) = none) : comS (35 :: (body ++ r)) = some (.inl r) := by
  have e : spanN endL (body ++ r) = r := by
    rw [spanN_app endL body r h1]
    cases r with
    | nil => rfl
    | cons c m => exact spanN_stop endL c m (h2 c m rfl)
  unfold comS
  rw [if_pos (by rfl)]
  simp only [List.drop_succ_cons, List.drop_zero]
  rw [e, show ahead (35 :: (body ++ r)) r = 35 :: body from ahead_app (35 :: body) r, hs]
theorem end_ign {c : UInt8} (h : endL.contains c = true) : ignL.contains c = true := by
  have : c = 10 ∨ c = 13 := by simpa [endL] using h
  rcases this with rfl | rfl <;> rfl
theorem Gap.com {body : Bs} {c : UInt8} (h1 : ∀ c ∈ body, endL.contains c = false) (hs : srcB (35 :: body) = none) (hc : endL.contains c = true) : Gap (35 :: (body ++ [c])) := fun m => by
  have e : 35 :: (body ++ [c]) ++ m = 35 :: (body ++ c :: m) := by simp
  rw [e, skip_com (com_make h1 (fun d k e => by cases e; exact hc) hs), skip_one (end_ign hc)]
/-- What is ignored, taken apart. -/
def SkipP (l : Bs) : Bs ⊕ Nat → Prop
  | .inl [] => ∀ m, skipS (l ++ 10 :: m) = skipS m
  | .inl (x :: l1) => ∃ q, l = q ++ x :: l1 ∧ Gap q
  | .inr k => ∃ q c j, l = q ++ c ∧ Gap q ∧ comS c = some (.inr j) ∧ k = c.length - j
theorem SkipP.ahead {q l : Bs} (hq : Gap q) {x : Bs ⊕ Nat} (h : SkipP l x) : SkipP (q ++ l) x := by
  match x, h with
  | .inl [], h => exact fun m => by rw [List.append_assoc, hq]; exact h m
  | .inl (x :: l1), ⟨p, e, hg⟩ => exact ⟨q ++ p, by rw [e, List.append_assoc], hq.app hg⟩
  | .inr k, ⟨p, c, j, e, hg, h1, h2⟩ => exact ⟨q ++ p, c, j, by rw [e, List.append_assoc], hq.app hg, h1, h2⟩
theorem skip_dec : ∀ (n : Nat) (l : Bs), l.length ≤ n → SkipP l (skipS l) := by
  intro n
  induction n with
  | zero =>
    intro l hl
    obtain rfl : l = [] := List.length_eq_zero_iff.1 (by omega)
    rw [skip_nil]
    exact fun m => skip_one (c := 10) rfl m
  | succ n ih =>
    intro l hl
    rcases skip_cases l with rfl | ⟨c, r, rfl, hc⟩ | ⟨r, rfl⟩ | ⟨r, hc⟩ | ⟨k, hc⟩ | ⟨hne, hs⟩
    · rw [skip_nil]
      exact fun m => skip_one (c := 10) rfl m
    · rw [skip_one hc]
      exact (ih r (by simp at hl; omega)).ahead (Gap.one hc)
    · rw [skip_bom]
      exact (ih r (by simp at hl; omega)).ahead Gap.bom
    · rw [skip_com hc]
      obtain ⟨body, r', rfl, h1, h2, h3⟩ := com_parts hc
      have hs : srcB (35 :: body) = none := by
        cases hs : srcB (35 :: body) with
        | none => rfl
        | some k => rw [hs] at h3; cases h3
      rw [hs] at h3
      simp only [Sum.inl.injEq] at h3
      subst h3
      cases r with
      | nil =>
        rw [skip_nil]
        intro m
        have e : 35 :: (body ++ []) ++ 10 :: m = 35 :: (body ++ 10 :: m) := by simp
        rw [e, skip_com (com_make h1 (fun d k e => by cases e; rfl) hs), skip_one (c := 10) rfl]
      | cons c m =>
        have hc2 := h2 c m rfl
        rw [skip_one (end_ign hc2)]
        have e : 35 :: (body ++ c :: m) = 35 :: (body ++ [c]) ++ m := by simp
        rw [e]
        exact (ih m (by simp at hl; omega)).ahead (Gap.com h1 hs hc2)
    · rw [skip_bad hc]
      exact ⟨[], l, k, rfl, Gap.nil, hc, rfl⟩
    · rw [hs]
      cases l with
      | nil => exact absurd rfl hne
      | cons x l1 => exact ⟨[], rfl, Gap.nil⟩
theorem skip_parts (l : Bs) : SkipP l (skipS l) := skip_dec l.length l (Nat.le_refl _)
theorem lexG_skip {N c : Nat} {l l' : Bs} (h : skipS l = skipS l') : lexG N c l = lexG N c l' := by
  cases hs : skipS l' with
  | inr k => rw [lexG_wrong (h.trans hs), lexG_wrong hs]
  | inl q =>
    cases q with
    | nil => rw [lexG_end (h.trans hs), lexG_end hs]
    | cons x l1 =>
      by_cases hc : c = 2048
      · rw [lexG_many (h.trans hs) hc, lexG_many hs hc]
      · cases ht : tokS (x :: l1) with
        | bad e => rw [lexG_bad (h.trans hs) hc ht, lexG_bad hs hc ht]
        | ok k t r => rw [lexG_ok (h.trans hs) hc ht, lexG_ok hs hc ht]
end Go.Proofs.YtglpabfjnngbnaaGreatDoor
namespace Go.Proofs.YtglpabfjnngbnaaGreatDoor
open Go Go.RowKit

/-! ### A token by itself, and with something behind it -/
theorem pre_app {p a r : Bs} (h : p.length ≤ a.length) : List.isPrefixOf p (a ++ r) = List.isPrefixOf p a := by
  rw [Bool.eq_iff_iff, List.isPrefixOf_iff_prefix, List.isPrefixOf_iff_prefix]
  constructor
  · intro h1
    exact List.prefix_of_prefix_length_le h1 (List.prefix_append a r) h
  · intro h1
    exact h1.trans (List.prefix_append a r)
theorem pre_not {p a r : Bs} (h : List.isPrefixOf p (a ++ r) = false) : List.isPrefixOf p a = false := by
  rw [Bool.eq_false_iff] at h ⊢
  intro h1
  exact h (List.isPrefixOf_iff_prefix.2 ((List.isPrefixOf_iff_prefix.1 h1).trans (List.prefix_append a r)))
theorem head_app {S a r : Bs} (h : a ≠ []) : headIn S (a ++ r) = headIn S a := by
  cases a with
  | nil => exact absurd rfl h
  | cons c a => rfl
theorem head_app0 {S a r : Bs} (h : headIn S r = false) : headIn S (a ++ r) = headIn S a := by
  cases a with
  | nil => exact h
  | cons c a => rfl
theorem head_sub {S T r : Bs} (hST : ∀ c, S.contains c = true → T.contains c = true) (h : headIn T r = false) : headIn S r = false := by
  cases r with
  | nil => rfl
  | cons c r =>
    have h' : T.contains c = false := h
    show S.contains c = false
    rw [Bool.eq_false_iff]
    intro e
    rw [hST c e] at h'
    cases h'
theorem spanR_app {S : Bs} : ∀ (a r : Bs), headIn S r = false → spanR S (a ++ r) = spanR S a ++ r
  | [], r, h => spanR_stop S r h
  | c :: a, r, h => by
    show spanR S (c :: (a ++ r)) = _
    unfold spanR
    split
    · exact spanR_app a r h
    · rfl
theorem drop_app1 {a r : Bs} (n : Nat) (h : n ≤ a.length) : (a ++ r).drop n = a.drop n ++ r := by
  rw [List.drop_append_of_le_length h]
theorem pre_len1 {c : UInt8} {a : Bs} (h : List.isPrefixOf [c] a = true) : a ≠ [] := by
  intro e
  subst e
  cases h
theorem pre_head {c : UInt8} {a r : Bs} (h : headIn [c] r = false) : List.isPrefixOf [c] (a ++ r) = List.isPrefixOf [c] a := by
  cases a with
  | cons d a => exact pre_app (by simp)
  | nil =>
    cases r with
    | nil => rfl
    | cons d r =>
      have h' : [c].contains d = false := h
      simp only [List.nil_append, List.isPrefixOf, Bool.and_true]
      rw [beq_eq_false_iff_ne]
      rintro rfl
      simp at h'
/-! numbers -/
abbrev numX : Bs := digL ++ 46 :: letL
theorem needD_app {a r : Bs} (h : headIn digL r = false) : needD (a ++ r) = (needD a).map (· ++ r) := by
  unfold needD
  rw [head_app0 h]
  split
  · rw [spanR_app a r h]; rfl
  · rfl
theorem numX_dig {r : Bs} (h : headIn numX r = false) : headIn digL r = false := head_sub (fun c hc => by
  rw [List.contains_iff_mem] at hc ⊢
  exact List.mem_append_left _ hc) h
theorem numX_let {r : Bs} (h : headIn numX r = false) : headIn letL r = false := head_sub (fun c hc => by
  rw [List.contains_iff_mem] at hc ⊢
  exact List.mem_append_right _ (List.mem_cons_of_mem _ hc)) h
theorem numX_of {x : UInt8} (hx : numX.contains x = true) {r : Bs} (h : headIn numX r = false) : headIn [x] r = false := head_sub (fun c hc => by
  have : c = x := by simpa using hc
  rw [this]; exact hx) h
theorem numA_app {a r : Bs} (h : headIn numX r = false) : numA (a ++ r) = (numA a).map (· ++ r) := by
  unfold numA
  rw [pre_head (numX_of (x := 48) rfl h)]
  split
  · rename_i hp
    have := prefix_le hp
    rw [drop_app1 1 (by simpa using this)]
    rfl
  · exact needD_app (numX_dig h)
theorem numB_app {a r : Bs} (h : headIn numX r = false) : numB (a ++ r) = (numB a).map fun p => (p.1, p.2 ++ r) := by
  unfold numB
  rw [pre_head (numX_of (x := 46) rfl h)]
  split
  · rename_i hp
    have := prefix_le hp
    rw [drop_app1 1 (by simpa using this), needD_app (numX_dig h)]
    cases needD (a.drop 1) <;> rfl
  · rfl
theorem eE_let {r : Bs} (h : headIn numX r = false) : headIn [101, 69] r = false := head_sub (fun c hc => by
  have : c = 101 ∨ c = 69 := by simpa using hc
  rcases this with rfl | rfl <;> rfl) h
theorem optO_app {S a r : Bs} (h : a ≠ []) : optO S (a ++ r) = optO S a ++ r := by
  unfold optO
  rw [head_app h]
  split
  · rw [drop_app1 1 (by cases a with
      | nil => exact absurd rfl h
      | cons c a => simp)]
  · rfl
theorem needD_nil : needD [] = none := rfl
theorem numC_ext {k : Int} {a b r : Bs} {k' : Int} (h : headIn numX r = false) (hn : numC k a = some (k', b)) : numC k (a ++ r) = some (k', b ++ r) := by
  unfold numC at hn ⊢
  rw [head_app0 (eE_let h)]
  split at hn
  · rename_i hh
    rw [if_pos hh]
    have ha : a ≠ [] := by rintro rfl; cases hh
    have hl : 1 ≤ a.length := by cases a with
      | nil => exact absurd rfl ha
      | cons c a => simp
    rw [drop_app1 1 hl]
    have hd : a.drop 1 ≠ [] := by
      intro e
      rw [e] at hn
      cases hn
    rw [optO_app hd, needD_app (numX_dig h)]
    cases hx : needD (optO [43, 45] (a.drop 1)) with
    | none => rw [hx] at hn; cases hn
    | some y =>
      rw [hx] at hn
      simp only [Option.map_some, Option.some.injEq, Prod.mk.injEq] at hn ⊢
      exact ⟨hn.1, by rw [hn.2]⟩
  · rename_i hh
    rw [if_neg hh]
    simp only [Option.some.injEq, Prod.mk.injEq] at hn ⊢
    exact ⟨hn.1, by rw [hn.2]⟩
theorem numC_cut {k : Int} {a b r : Bs} {k' : Int} (h : headIn numX r = false) (hn : numC k (a ++ r) = some (k', b ++ r)) : numC k a = some (k', b) := by
  unfold numC at hn ⊢
  rw [head_app0 (eE_let h)] at hn
  split at hn
  · rename_i hh
    rw [if_pos hh]
    have ha : a ≠ [] := by rintro rfl; cases hh
    have hl : 1 ≤ a.length := by cases a with
      | nil => exact absurd rfl ha
      | cons c a => simp
    rw [drop_app1 1 hl] at hn
    have hd : a.drop 1 ≠ [] := by
      intro e
      rw [e, List.nil_append] at hn
      cases hx : needD (optO [43, 45] r) with
      | none => rw [hx] at hn; cases hn
      | some y =>
        rw [hx] at hn
        simp only [Option.map_some, Option.some.injEq, Prod.mk.injEq] at hn
        have h1 := (needD_facts hx).2
        have h2 := (optO_suf [43, 45] r).length_le
        have h3 := congrArg List.length hn.2
        rw [List.length_append] at h3
        omega
    rw [optO_app hd, needD_app (numX_dig h)] at hn
    cases hx : needD (optO [43, 45] (a.drop 1)) with
    | none => rw [hx] at hn; cases hn
    | some y =>
      rw [hx] at hn
      simp only [Option.map_some, Option.some.injEq, Prod.mk.injEq] at hn ⊢
      exact ⟨hn.1, List.append_cancel_right hn.2⟩
  · rename_i hh
    rw [if_neg hh]
    simp only [Option.some.injEq, Prod.mk.injEq] at hn ⊢
    exact ⟨hn.1, List.append_cancel_right hn.2⟩
theorem optT_app {q a r : Bs} (h : q.length ≤ a.length) : optT q (a ++ r) = optT q a ++ r := by
  unfold optT
  rw [pre_app h]
  split
  · rw [drop_app1 _ h]
  · rfl
theorem numS_cut {a r : Bs} {k : Int} (ha : a ≠ []) (hn : numS (a ++ r) = some (k, r)) : numS a = some (k, []) ∧ headIn numX r = false := by
  have hl : 1 ≤ a.length := by cases a with
    | nil => exact absurd rfl ha
    | cons c a => simp
  unfold numS at hn ⊢
  rw [optT_app (by simpa using hl)] at hn
  -- what is behind a number
  have hr : headIn numX r = false := by
    cases h1 : numA (optT [45] a ++ r) with
    | none => rw [h1] at hn; cases hn
    | some l1 =>
      rw [h1, Option.bind_some] at hn
      cases h2 : numB l1 with
      | none => rw [h2] at hn; cases hn
      | some q =>
        rw [h2, Option.bind_some] at hn
        cases h3 : numC q.1 q.2 with
        | none => rw [h3] at hn; cases hn
        | some u =>
          rw [h3, Option.bind_some] at hn
          unfold numD at hn
          split at hn
          · cases hn
          · rename_i hh
            simp only [Option.some.injEq, Prod.mk.injEq] at hn
            rw [hn.2] at hh
            exact Bool.eq_false_iff.2 hh
  refine ⟨?_, hr⟩
  rw [numA_app hr] at hn
  cases h1 : numA (optT [45] a) with
  | none => rw [h1] at hn; cases hn
  | some l1 =>
    rw [h1, Option.map_some, Option.bind_some, numB_app hr] at hn
    rw [Option.bind_some]
    cases h2 : numB l1 with
    | none => rw [h2] at hn; cases hn
    | some q =>
      rw [h2, Option.map_some, Option.bind_some] at hn
      rw [Option.bind_some]
      cases h3 : numC q.1 (q.2 ++ r) with
      | none => rw [h3] at hn; cases hn
      | some u =>
        rw [h3, Option.bind_some] at hn
        obtain ⟨u1, u2⟩ := u
        unfold numD at hn
        split at hn
        · cases hn
        · simp only [Option.some.injEq, Prod.mk.injEq] at hn
          obtain ⟨e1, e2⟩ := hn
          have h3' : numC q.1 (q.2 ++ r) = some (u1, [] ++ r) := by rw [h3, e2]; rfl
          rw [numC_cut hr h3', Option.bind_some]
          show numD u1 [] = _
          rw [← e1]
          rfl
theorem numS_ext {a r : Bs} {k : Int} (hn : numS a = some (k, [])) (hr : headIn numX r = false) : numS (a ++ r) = some (k, r) := by
  have hl : 1 ≤ a.length := by
    have := (numS_facts hn).2
    simp at this
    omega
  unfold numS at hn ⊢
  rw [optT_app (by simpa using hl), numA_app hr]
  cases h1 : numA (optT [45] a) with
  | none => rw [h1] at hn; cases hn
  | some l1 =>
    rw [h1, Option.bind_some] at hn
    rw [Option.map_some, Option.bind_some, numB_app hr]
    cases h2 : numB l1 with
    | none => rw [h2] at hn; cases hn
    | some q =>
      rw [h2, Option.bind_some] at hn
      rw [Option.map_some, Option.bind_some]
      cases h3 : numC q.1 q.2 with
      | none => rw [h3] at hn; cases hn
      | some u =>
        rw [h3, Option.bind_some] at hn
        obtain ⟨u1, u2⟩ := u
        rw [numC_ext hr h3, Option.bind_some]
        unfold numD at hn
        split at hn
        · cases hn
        · simp only [Option.some.injEq, Prod.mk.injEq] at hn
          rw [hn.2, hn.1]
          unfold numD
          rw [if_neg (by rw [List.nil_append, hr]; decide)]
          rfl
/-! strings -/
theorem rawF_lt : ∀ (n : Nat) (l t r : Bs), rawF n l = some (t, r) → r.length + 3 ≤ l.length := by
  intro n
  induction n with
  | zero => intro l t r h; cases h
  | succ n ih =>
    intro l t r h
    unfold rawF at h
    split at h
    · rename_i hp
      have := prefix_le hp
      simp only [Option.some.injEq, Prod.mk.injEq] at h
      rw [← h.2, List.length_drop]
      simp at this
      omega
    · split at h
      · rename_i hp
        have := prefix_le hp
        cases hx : rawF n (l.drop 4) with
        | none => rw [hx] at h; cases h
        | some q =>
          rw [hx] at h
          simp only [Option.map_some, Option.some.injEq, Prod.mk.injEq] at h
          have := ih _ q.1 q.2 hx
          rw [List.length_drop] at this
          rw [← h.2]
          omega
      · split at h
        · cases h
        · rename_i c m _ _
          cases hx : rawF n m with
          | none => rw [hx] at h; cases h
          | some q =>
            rw [hx] at h
            simp only [Option.map_some, Option.some.injEq, Prod.mk.injEq] at h
            have := ih _ q.1 q.2 hx
            rw [← h.2]
            simp
            omega
theorem rawF_cut : ∀ (n : Nat) (a r t : Bs), rawF n (a ++ r) = some (t, r) → rawF n a = some (t, []) := by
  intro n
  induction n with
  | zero => intro a r t h; cases h
  | succ n ih =>
    intro a r t h
    have hlen := rawF_lt _ _ _ _ h
    rw [List.length_append] at hlen
    have h0 := h
    unfold rawF at h ⊢
    rw [pre_app (by simp; omega)] at h
    by_cases hp : List.isPrefixOf [34, 34, 34] a = true
    · rw [if_pos hp] at h ⊢
      rw [drop_app1 3 (by omega)] at h
      simp only [Option.some.injEq, Prod.mk.injEq] at h ⊢
      refine ⟨h.1, ?_⟩
      have := h.2
      exact List.append_left_eq_self.1 this
    · rw [if_neg hp] at h ⊢
      by_cases hp4 : List.isPrefixOf [92, 34, 34, 34] (a ++ r) = true
      · rw [if_pos hp4] at h
        cases hx : rawF n ((a ++ r).drop 4) with
        | none => rw [hx] at h; cases h
        | some q =>
          rw [hx] at h
          simp only [Option.map_some, Option.some.injEq, Prod.mk.injEq] at h
          have h4 := rawF_lt _ _ _ _ hx
          rw [h.2, List.length_drop, List.length_append] at h4
          rw [pre_app (by simp; omega)] at hp4
          rw [if_pos hp4]
          rw [drop_app1 4 (by omega)] at hx
          have hq : q = (q.1, r) := by rw [← h.2]
          rw [hq] at hx
          rw [ih _ _ _ hx]
          simp only [Option.map_some, Option.some.injEq, Prod.mk.injEq, and_true]
          exact h.1
      · rw [if_neg hp4] at h
        have hp4' := pre_not (Bool.eq_false_iff.2 hp4)
        rw [if_neg (by rw [hp4']; decide)]
        cases a with
        | nil => exact absurd hlen (by simp only [List.length_nil]; omega)
        | cons c a =>
          simp only [List.cons_append] at h ⊢
          cases hx : rawF n (a ++ r) with
          | none => rw [hx] at h; cases h
          | some q =>
            rw [hx] at h
            simp only [Option.map_some, Option.some.injEq, Prod.mk.injEq] at h
            have hq : q = (q.1, r) := by rw [← h.2]
            rw [hq] at hx
            rw [ih _ _ _ hx]
            simp only [Option.map_some, Option.some.injEq, Prod.mk.injEq, and_true]
            exact h.1
theorem rawF_ext : ∀ (n : Nat) (a r t : Bs), rawF n a = some (t, []) → rawF n (a ++ r) = some (t, r) := by
  intro n
  induction n with
  | zero => intro a r t h; cases h
  | succ n ih =>
    intro a r t h
    have hlen := rawF_lt _ _ _ _ h
    unfold rawF at h ⊢
    rw [pre_app (by simp at hlen ⊢; omega)]
    by_cases hp : List.isPrefixOf [34, 34, 34] a = true
    · rw [if_pos hp] at h ⊢
      rw [drop_app1 3 (by simp at hlen; omega)]
      simp only [Option.some.injEq, Prod.mk.injEq] at h ⊢
      refine ⟨h.1, ?_⟩
      rw [h.2]; rfl
    · rw [if_neg hp] at h ⊢
      by_cases hp4 : List.isPrefixOf [92, 34, 34, 34] a = true
      · rw [if_pos hp4] at h
        have h4 := prefix_le hp4
        rw [pre_app h4, if_pos hp4]
        rw [drop_app1 4 (by simpa using h4)]
        cases hx : rawF n (a.drop 4) with
        | none => rw [hx] at h; cases h
        | some q =>
          rw [hx] at h
          simp only [Option.map_some, Option.some.injEq, Prod.mk.injEq] at h
          have hq : q = (q.1, []) := by rw [← h.2]
          rw [hq] at hx
          rw [ih _ r _ hx]
          simp only [Option.map_some, Option.some.injEq, Prod.mk.injEq, and_true]
          exact h.1
      · rw [if_neg hp4] at h
        cases a with
        | nil => exact absurd hlen (by simp only [List.length_nil]; omega)
        | cons c a =>
          simp only at h
          cases hx : rawF n a with
          | none => rw [hx] at h; cases h
          | some q =>
            have h5 := rawF_lt _ _ _ _ hx
            rw [pre_app (by simp; omega), if_neg hp4]
            simp only [List.cons_append]
            rw [hx] at h
            simp only [Option.map_some, Option.some.injEq, Prod.mk.injEq] at h
            have hq : q = (q.1, []) := by rw [← h.2]
            rw [hq] at hx
            rw [ih _ r _ hx]
            simp only [Option.map_some, Option.some.injEq, Prod.mk.injEq, and_true]
            exact h.1
def hexQ (a b c d : UInt8) : Option Nat := (hexV a).bind fun x => (hexV b).bind fun y => (hexV c).bind fun z => (hexV d).bind fun t => some (x * 4096 + y * 256 + z * 16 + t)
theorem nmbS_four (a b c d : UInt8) (m : Bs) : nmbS (a :: b :: c :: d :: m) = (hexQ a b c d).map fun V => (unitS V, m) := by
  show ((hexV a).bind fun x => (hexV b).bind fun y => (hexV c).bind fun z => (hexV d).bind fun t => some (unitS (x * 4096 + y * 256 + z * 16 + t), m)) = _
  unfold hexQ
  cases hexV a with
  | none => rfl
  | some x =>
    cases hexV b with
    | none => rfl
    | some y =>
      cases hexV c with
      | none => rfl
      | some z => cases hexV d <;> rfl
theorem nmbS_ext {a b x : Bs} (r : Bs) (h : nmbS a = some (x, b)) : nmbS (a ++ r) = some (x, b ++ r) := by
  match a, h with
  | c0 :: c1 :: c2 :: c3 :: m, h =>
    simp only [List.cons_append]
    rw [nmbS_four] at h ⊢
    cases hq : hexQ c0 c1 c2 c3 with
    | none => rw [hq] at h; cases h
    | some V =>
      rw [hq] at h
      simp only [Option.map_some, Option.some.injEq, Prod.mk.injEq] at h ⊢
      exact ⟨h.1, by rw [h.2]⟩
theorem nmbS_cut {a b x r : Bs} (h : nmbS (a ++ r) = some (x, b ++ r)) : nmbS a = some (x, b) := by
  have hlen : 4 ≤ a.length := by
    match hl : a ++ r, h with
    | c0 :: c1 :: c2 :: c3 :: m, h =>
      rw [nmbS_four] at h
      cases hq : hexQ c0 c1 c2 c3 with
      | none => rw [hq] at h; cases h
      | some V =>
        rw [hq] at h
        simp only [Option.map_some, Option.some.injEq, Prod.mk.injEq] at h
        have e := congrArg List.length hl
        rw [h.2] at e
        simp only [List.length_append, List.length_cons] at e
        omega
  match a, hlen, h with
  | c0 :: c1 :: c2 :: c3 :: m, _, h =>
    simp only [List.cons_append] at h
    rw [nmbS_four] at h ⊢
    cases hq : hexQ c0 c1 c2 c3 with
    | none => rw [hq] at h; cases h
    | some V =>
      rw [hq] at h
      simp only [Option.map_some, Option.some.injEq, Prod.mk.injEq] at h ⊢
      exact ⟨h.1, List.append_cancel_right h.2⟩
theorem escS_ext {a b x : Bs} (r : Bs) (h : escS a = some (x, b)) : escS (a ++ r) = some (x, b ++ r) := by
  cases a with
  | nil => cases h
  | cons c m =>
    unfold escS at h ⊢
    rw [pre_app (by simp)]
    split at h
    · rename_i hp
      rw [if_pos hp]
      exact nmbS_ext r h
    · rename_i hp
      rw [if_neg hp]
      simp only [List.cons_append] at h ⊢
      split at h
      · rename_i hc
        rw [if_pos hc]
        simp only [Option.some.injEq, Prod.mk.injEq] at h ⊢
        exact ⟨h.1, by rw [h.2]⟩
      · cases h
theorem escS_cut {a b x r : Bs} (h : escS (a ++ r) = some (x, b ++ r)) : escS a = some (x, b) := by
  have hlen := (escS_facts h).2.1
  rw [List.length_append, List.length_append] at hlen
  cases a with
  | nil => exact absurd hlen (by simp only [List.length_nil]; omega)
  | cons c m =>
    unfold escS at h ⊢
    rw [pre_app (by simp)] at h
    split at h
    · rename_i hp
      rw [if_pos hp]
      exact nmbS_cut h
    · rename_i hp
      rw [if_neg hp]
      simp only [List.cons_append] at h ⊢
      split at h
      · rename_i hc
        rw [if_pos hc]
        simp only [Option.some.injEq, Prod.mk.injEq] at h ⊢
        exact ⟨h.1, List.append_cancel_right h.2⟩
      · cases h
theorem lineF_lt : ∀ (n : Nat) (l t r : Bs), lineF n l = some (t, r) → r.length < l.length := by
  intro n
  induction n with
  | zero => intro l t r h; cases h
  | succ n ih =>
    intro l t r h
    unfold lineF at h
    split at h
    · rename_i hp
      have := prefix_le hp
      simp only [Option.some.injEq, Prod.mk.injEq] at h
      rw [← h.2, List.length_drop]
      simp at this
      omega
    · split at h
      · rename_i hp
        have := prefix_le hp
        cases hy : escS (l.drop 1) with
        | none => rw [hy] at h; cases h
        | some p =>
          rw [hy, Option.bind_some] at h
          cases hx : lineF n p.2 with
          | none => rw [hx] at h; cases h
          | some q =>
            rw [hx] at h
            simp only [Option.map_some, Option.some.injEq, Prod.mk.injEq] at h
            have h1 := ih _ q.1 q.2 hx
            have h2 := (escS_facts (t := p.1) (r := p.2) hy).2.1
            rw [List.length_drop] at h2
            rw [← h.2]
            omega
      · split at h
        · cases h
        · rename_i c m _ _
          split at h
          · cases h
          · cases hx : lineF n m with
            | none => rw [hx] at h; cases h
            | some q =>
              rw [hx] at h
              simp only [Option.map_some, Option.some.injEq, Prod.mk.injEq] at h
              have := ih _ q.1 q.2 hx
              rw [← h.2]
              simp
              omega
theorem lineF_cut : ∀ (n : Nat) (a r t : Bs), lineF n (a ++ r) = some (t, r) → lineF n a = some (t, []) := by
  intro n
  induction n with
  | zero => intro a r t h; cases h
  | succ n ih =>
    intro a r t h
    have hlen := lineF_lt _ _ _ _ h
    rw [List.length_append] at hlen
    unfold lineF at h ⊢
    rw [pre_app (by simp; omega), pre_app (by simp; omega)] at h
    by_cases hp : List.isPrefixOf [34] a = true
    · rw [if_pos hp] at h ⊢
      rw [drop_app1 1 (by omega)] at h
      simp only [Option.some.injEq, Prod.mk.injEq] at h ⊢
      exact ⟨h.1, List.append_left_eq_self.1 h.2⟩
    · rw [if_neg hp] at h ⊢
      by_cases hp4 : List.isPrefixOf [92] a = true
      · rw [if_pos hp4] at h ⊢
        rw [drop_app1 1 (by omega)] at h
        cases hy : escS (a.drop 1 ++ r) with
        | none => rw [hy] at h; cases h
        | some p =>
          rw [hy, Option.bind_some] at h
          cases hx : lineF n p.2 with
          | none => rw [hx] at h; cases h
          | some q =>
            rw [hx] at h
            simp only [Option.map_some, Option.some.injEq, Prod.mk.injEq] at h
            have hq : q = (q.1, r) := by rw [← h.2]
            rw [hq] at hx
            obtain ⟨b, hb⟩ := lineF_suf _ _ _ _ hx
            have hy' : escS (a.drop 1 ++ r) = some (p.1, b ++ r) := by rw [hy, hb]
            rw [escS_cut hy', Option.bind_some]
            rw [← hb] at hx
            rw [ih _ _ _ hx]
            simp only [Option.map_some, Option.some.injEq, Prod.mk.injEq, and_true]
            exact h.1
      · rw [if_neg hp4] at h ⊢
        cases a with
        | nil => exact absurd hlen (by simp only [List.length_nil]; omega)
        | cons c a =>
          simp only [List.cons_append] at h ⊢
          split at h
          · cases h
          · rename_i hc
            rw [if_neg hc]
            cases hx : lineF n (a ++ r) with
            | none => rw [hx] at h; cases h
            | some q =>
              rw [hx] at h
              simp only [Option.map_some, Option.some.injEq, Prod.mk.injEq] at h
              have hq : q = (q.1, r) := by rw [← h.2]
              rw [hq] at hx
              rw [ih _ _ _ hx]
              simp only [Option.map_some, Option.some.injEq, Prod.mk.injEq, and_true]
              exact h.1
theorem lineF_ext : ∀ (n : Nat) (a r t : Bs), lineF n a = some (t, []) → lineF n (a ++ r) = some (t, r) := by
  intro n
  induction n with
  | zero => intro a r t h; cases h
  | succ n ih =>
    intro a r t h
    have hlen := lineF_lt _ _ _ _ h
    simp only [List.length_nil] at hlen
    unfold lineF at h ⊢
    rw [pre_app (by simp; omega), pre_app (by simp; omega)]
    by_cases hp : List.isPrefixOf [34] a = true
    · rw [if_pos hp] at h ⊢
      rw [drop_app1 1 (by omega)]
      simp only [Option.some.injEq, Prod.mk.injEq] at h ⊢
      exact ⟨h.1, by rw [h.2]; rfl⟩
    · rw [if_neg hp] at h ⊢
      by_cases hp4 : List.isPrefixOf [92] a = true
      · rw [if_pos hp4] at h ⊢
        rw [drop_app1 1 (by omega)]
        cases hy : escS (a.drop 1) with
        | none => rw [hy] at h; cases h
        | some p =>
          rw [hy, Option.bind_some] at h
          cases hx : lineF n p.2 with
          | none => rw [hx] at h; cases h
          | some q =>
            rw [hx] at h
            simp only [Option.map_some, Option.some.injEq, Prod.mk.injEq] at h
            have hq : q = (q.1, []) := by rw [← h.2]
            rw [hq] at hx
            rw [escS_ext (x := p.1) (b := p.2) r hy, Option.bind_some, ih _ r _ hx]
            simp only [Option.map_some, Option.some.injEq, Prod.mk.injEq, and_true]
            exact h.1
      · rw [if_neg hp4] at h ⊢
        cases a with
        | nil => exact absurd hlen (by simp only [List.length_nil]; omega)
        | cons c a =>
          simp only [List.cons_append] at h ⊢
          split at h
          · cases h
          · rename_i hc
            rw [if_neg hc]
            cases hx : lineF n a with
            | none => rw [hx] at h; cases h
            | some q =>
              rw [hx] at h
              simp only [Option.map_some, Option.some.injEq, Prod.mk.injEq] at h
              have hq : q = (q.1, []) := by rw [← h.2]
              rw [hq] at hx
              rw [ih _ r _ hx]
              simp only [Option.map_some, Option.some.injEq, Prod.mk.injEq, and_true]
              exact h.1
end Go.Proofs.YtglpabfjnngbnaaGreatDoor
namespace Go.Proofs.YtglpabfjnngbnaaGreatDoor
open Go Go.RowKit

/-! ### Tokens -/
/-- What may not stand behind a token. -/
def fitX (p : Bs) : Bs := if headIn letL p then letL ++ digL else if headIn (45 :: digL) p then numX else if p = [34, 34] then [34] else []
def Fits (p r : Bs) : Prop := headIn (fitX p) r = false
def brkL : Bs := 34 :: numX
theorem fit_brk (p : Bs) (c : UInt8) (h : (fitX p).contains c = true) : brkL.contains c = true := by
  unfold fitX at h
  unfold brkL
  rw [List.contains_iff_mem] at h ⊢
  split at h
  · refine List.mem_cons_of_mem _ ?_
    rcases List.mem_append.1 h with h | h
    · exact List.mem_append_right _ (List.mem_cons_of_mem _ h)
    · exact List.mem_append_left _ h
  · split at h
    · exact List.mem_cons_of_mem _ h
    · split at h
      · have : c = 34 := by simpa using h
        rw [this]; exact List.mem_cons_self
      · cases h
/-- What begins this with a byte that may not stand behind a token began that, too. -/
def HeadC (r r' : Bs) : Prop := ∀ c m, r' = c :: m → brkL.contains c = true → ∃ m', r = c :: m'
theorem Fits.change {p r r' : Bs} (h : Fits p r) (hc : HeadC r r') : Fits p r' := by
  unfold Fits at h ⊢
  cases r' with
  | nil => rfl
  | cons c m =>
    show (fitX p).contains c = false
    rw [Bool.eq_false_iff]
    intro e
    obtain ⟨m', rfl⟩ := hc c m rfl (fit_brk p c e)
    have h' : (fitX p).contains c = false := h
    rw [e] at h'
    cases h'
theorem HeadC.refl (r : Bs) : HeadC r r := fun _ m e _ => ⟨m, e⟩
theorem HeadC.nil (r : Bs) : HeadC r [] := fun _ _ e => by cases e
theorem HeadC.not {c : UInt8} (r m : Bs) (h : brkL.contains c = false) : HeadC r (c :: m) := fun d k e hd => by
  cases e
  rw [h] at hd
  cases hd
theorem HeadC.app {a : Bs} (ha : a ≠ []) (r r' : Bs) : HeadC (a ++ r) (a ++ r') := fun c m e _ => by
  cases a with
  | nil => exact absurd rfl ha
  | cons d a =>
    cases e
    exact ⟨a ++ r, rfl⟩
theorem HeadC.app0 {a r r' : Bs} (h : HeadC r r') : HeadC (a ++ r) (a ++ r') := by
  cases a with
  | nil => exact h
  | cons d a => exact HeadC.app (by simp) r r'
theorem wrt_okX {k k' : Int} {l r t r' : Bs} (h : wrt k l r = .ok k' t r') : k = k' ∧ ahead l r = t ∧ r = r' := by
  unfold wrt at h
  cases h
  exact ⟨rfl, rfl, rfl⟩
theorem app_eq_right {a r : Bs} (h : a ++ r = r) : a = [] := List.append_left_eq_self.1 h
theorem ahead_nil (p : Bs) : ahead p [] = p := by
  unfold ahead
  simp
theorem tok_cut {p r t : Bs} {k : Int} (h : tokS (p ++ r) = .ok k t r) : tokS p = .ok k t [] ∧ Fits p r := by
  have hlt := (tokS_facts h).2
  rw [List.length_append] at hlt
  have hp : p ≠ [] := by rintro rfl; simp at hlt
  have hl : 1 ≤ p.length := by omega
  unfold tokS at h ⊢
  unfold Fits fitX
  simp only [head_app hp] at h
  by_cases h1 : headIn punL p = true
  · rw [if_pos h1] at h ⊢
    obtain ⟨rfl, ht, hr⟩ := wrt_okX h
    rw [drop_app1 1 hl] at hr
    have hd := app_eq_right hr
    have hx : ahead (p ++ r) ((p ++ r).drop 1) = p := by
      rw [drop_app1 1 hl, hr, ahead_app]
    rw [hx] at ht
    refine ⟨?_, ?_⟩
    · unfold wrt; rw [hd, ahead_nil, ht]
    · have hnl : headIn letL p = false := by
        cases p with
        | nil => rfl
        | cons c p =>
          have : c ∈ punL := List.contains_iff_mem.1 h1
          simp [punL] at this
          rcases this with rfl | rfl | rfl | rfl | rfl | rfl | rfl | rfl | rfl | rfl | rfl | rfl | rfl <;> rfl
      have hnd : headIn (45 :: digL) p = false := by
        cases p with
        | nil => rfl
        | cons c p =>
          have : c ∈ punL := List.contains_iff_mem.1 h1
          simp [punL] at this
          rcases this with rfl | rfl | rfl | rfl | rfl | rfl | rfl | rfl | rfl | rfl | rfl | rfl | rfl <;> rfl
      have hnq : p ≠ [34, 34] := by
        rintro rfl
        cases h1
      rw [hnl, hnd, if_neg (by decide), if_neg (by decide), if_neg hnq]
      cases r <;> rfl
  · rw [if_neg h1] at h ⊢
    by_cases h2 : List.isPrefixOf [46, 46, 46] (p ++ r) = true
    · rw [if_pos h2] at h
      obtain ⟨rfl, ht, hr⟩ := wrt_okX h
      have hp3 : 3 ≤ p.length := by
        have := congrArg List.length hr
        have h3 := prefix_le h2
        rw [List.length_drop, List.length_append] at this
        rw [List.length_append] at h3
        simp at h3
        omega
      rw [pre_app (by simpa using hp3)] at h2
      rw [if_pos h2]
      rw [drop_app1 3 hp3] at hr
      have hd := app_eq_right hr
      have hx : ahead (p ++ r) ((p ++ r).drop 3) = p := by
        rw [drop_app1 3 hp3, hr, ahead_app]
      rw [hx] at ht
      refine ⟨?_, ?_⟩
      · unfold wrt; rw [hd, ahead_nil, ht]
      · obtain ⟨m, rfl⟩ := List.isPrefixOf_iff_prefix.1 h2
        have e1 : headIn letL ([46, 46, 46] ++ m) = false := rfl
        have e2 : headIn (45 :: digL) ([46, 46, 46] ++ m) = false := rfl
        rw [e1, e2, if_neg (by decide), if_neg (by decide), if_neg (by intro e; cases e)]
        cases r <;> rfl
    · rw [if_neg h2] at h
      have h2' := pre_not (Bool.eq_false_iff.2 h2)
      rw [if_neg (by rw [h2']; decide)]
      by_cases h3 : headIn letL p = true
      · rw [if_pos h3] at h
        simp only [h3, if_true]
        obtain ⟨rfl, ht, hr⟩ := wrt_okX h
        rw [drop_app1 1 hl] at hr
        have hx : ahead (p ++ r) (spanR (letL ++ digL) ((p ++ r).drop 1)) = p := by
          rw [drop_app1 1 hl, hr, ahead_app]
        rw [hx] at ht
        have hf : headIn (letL ++ digL) r = false := by
          cases hh : headIn (letL ++ digL) r with
          | false => rfl
          | true =>
            exfalso
            have g1 := spanR_lt _ r hh
            -- the row goes into r
            have g2 : ∀ a : Bs, (spanR (letL ++ digL) (a ++ r)) = r → False := by
              intro a
              induction a with
              | nil => intro e; rw [List.nil_append] at e; rw [e] at g1; omega
              | cons c a ih =>
                intro e
                rw [List.cons_append] at e
                unfold spanR at e
                split at e
                · exact ih e
                · have := congrArg List.length e
                  simp at this
                  omega
            exact g2 _ hr
        rw [spanR_app _ _ hf] at hr
        have hd := app_eq_right hr
        refine ⟨?_, hf⟩
        unfold wrt
        rw [hd, ahead_nil, ht]
      · rw [if_neg h3] at h
        rw [if_neg h3, if_neg h3]
        by_cases h4 : headIn (45 :: digL) p = true
        · rw [if_pos h4] at h
          simp only [h4, if_true]
          cases hn : numS (p ++ r) with
          | none => rw [hn] at h; cases h
          | some q =>
            rw [hn] at h
            obtain ⟨e1, ht, hr⟩ := wrt_okX h
            have hq : q = (k, r) := by rw [← e1, ← hr]
            rw [hq] at hn
            obtain ⟨g1, g2⟩ := numS_cut hp hn
            rw [hr, ahead_app] at ht
            refine ⟨?_, g2⟩
            rw [g1]
            show wrt k p [] = _
            unfold wrt
            rw [ahead_nil, ht]
        · rw [if_neg h4] at h
          rw [if_neg h4, if_neg h4]
          by_cases h5 : headIn [34] p = true
          · rw [if_pos h5] at h
            rw [if_pos h5]
            cases hn : textS (p ++ r) with
            | none => rw [hn] at h; cases h
            | some q =>
              rw [hn] at h
              obtain ⟨q1, q2⟩ := q
              simp only [TR.ok.injEq] at h
              obtain ⟨rfl, rfl, rfl⟩ := h
              unfold textS textR at hn ⊢
              by_cases hb : List.isPrefixOf [34, 34, 34] (p ++ q2) = true
              · rw [if_pos hb] at hn
                cases hr : rawF ((p ++ q2).length + 1) ((p ++ q2).drop 3) with
                | none => rw [hr] at hn; cases hn
                | some u =>
                  rw [hr, Option.map_some, Option.bind_some] at hn
                  split at hn
                  · cases hn
                  · rename_i hs
                    simp only [Option.some.injEq, Prod.mk.injEq] at hn
                    obtain ⟨u1, u2⟩ := u
                    simp only at hn hs
                    obtain ⟨e1, rfl⟩ := hn
                    have h3l := rawF_lt _ _ _ _ hr
                    rw [List.length_drop, List.length_append] at h3l
                    have h3p : 3 ≤ p.length := by omega
                    rw [drop_app1 3 h3p] at hr
                    have hr2 := rawF_cut _ _ _ _ hr
                    rw [rawF_fuel _ (p.length + 1) (p.drop 3) (by rw [List.length_drop, List.length_append]; omega) (by rw [List.length_drop]; omega)] at hr2
                    rw [pre_app (by simpa using h3p)] at hb
                    rw [if_pos hb, hr2, Option.map_some, Option.bind_some]
                    rw [ahead_app] at hs
                    rw [ahead_nil, if_neg hs, e1]
                    refine ⟨rfl, ?_⟩
                    have hne : p ≠ [34, 34] := by rintro rfl; simp at h3p
                    rw [if_neg hne]
                    cases u2 <;> rfl
              · rw [if_neg hb] at hn
                cases hr : lineF ((p ++ q2).length + 1) ((p ++ q2).drop 1) with
                | none => rw [hr] at hn; cases hn
                | some u =>
                  rw [hr, Option.bind_some] at hn
                  split at hn
                  · cases hn
                  · rename_i hs
                    simp only [Option.some.injEq] at hn
                    subst hn
                    simp only at hs
                    rw [drop_app1 1 hl] at hr
                    have hr2 := lineF_cut _ _ _ _ hr
                    rw [lineF_fuel _ (p.length + 1) (p.drop 1) (by rw [List.length_drop, List.length_append]; omega) (by rw [List.length_drop]; omega)] at hr2
                    have hb2 := pre_not (Bool.eq_false_iff.2 hb)
                    rw [if_neg (by rw [hb2]; decide), hr2, Option.bind_some]
                    rw [ahead_app] at hs
                    rw [ahead_nil, if_neg hs]
                    refine ⟨rfl, ?_⟩
                    by_cases he : p = [34, 34]
                    · rw [if_pos he]
                      subst he
                      cases q2 with
                      | nil => rfl
                      | cons c m =>
                        show [34].contains c = false
                        rw [Bool.eq_false_iff]
                        intro hc
                        have hc' : c = 34 := by simpa using hc
                        subst hc'
                        exact hb rfl
                    · rw [if_neg he]
                      cases q2 <;> rfl
          · rw [if_neg h5] at h; cases h
theorem tok_ext {p r t : Bs} {k : Int} (h : tokS p = .ok k t []) (hf : Fits p r) : tokS (p ++ r) = .ok k t r := by
  have hlt := (tokS_facts h).2
  simp only [List.length_nil] at hlt
  have hp : p ≠ [] := by rintro rfl; simp at hlt
  have hl : 1 ≤ p.length := by omega
  unfold Fits fitX at hf
  unfold tokS at h ⊢
  simp only [head_app hp]
  by_cases h1 : headIn punL p = true
  · rw [if_pos h1] at h ⊢
    obtain ⟨rfl, ht, hr⟩ := wrt_okX h
    rw [hr, ahead_nil] at ht
    unfold wrt
    rw [drop_app1 1 hl, hr, List.nil_append, ahead_app, ht]
  · rw [if_neg h1] at h ⊢
    by_cases h2 : List.isPrefixOf [46, 46, 46] p = true
    · rw [if_pos h2] at h
      have h3 := prefix_le h2
      rw [pre_app h3, if_pos h2]
      obtain ⟨rfl, ht, hr⟩ := wrt_okX h
      rw [hr, ahead_nil] at ht
      unfold wrt
      rw [drop_app1 3 (by simpa using h3), hr, List.nil_append, ahead_app, ht]
    · rw [if_neg h2] at h
      have h2' : List.isPrefixOf [46, 46, 46] (p ++ r) = false := by
        rw [Bool.eq_false_iff]
        intro hx
        -- a token does not begin with a single dot
        cases p with
        | nil => exact hp rfl
        | cons c p =>
          have hc : c = 46 := by
            obtain ⟨m, hm⟩ := List.isPrefixOf_iff_prefix.1 hx
            simp at hm
            exact hm.1.symm
          subst hc
          have e : ∀ q : Bs, headIn letL (46 :: q) = false ∧ headIn (45 :: digL) (46 :: q) = false ∧ headIn [34] (46 :: q) = false := fun q => ⟨rfl, rfl, rfl⟩
          obtain ⟨e1, e2, e3⟩ := e p
          rw [e1, e2, e3, if_neg (by decide), if_neg (by decide), if_neg (by decide)] at h
          cases h
      rw [if_neg (by rw [h2']; decide)]
      by_cases h3 : headIn letL p = true
      · rw [if_pos h3] at h
        rw [if_pos h3] at hf ⊢
        obtain ⟨rfl, ht, hr⟩ := wrt_okX h
        rw [hr, ahead_nil] at ht
        unfold wrt
        rw [drop_app1 1 hl, spanR_app _ _ hf, hr, List.nil_append, ahead_app, ht]
      · rw [if_neg h3] at h
        rw [if_neg h3] at hf ⊢
        by_cases h4 : headIn (45 :: digL) p = true
        · rw [if_pos h4] at h
          rw [if_pos h4] at hf ⊢
          cases hn : numS p with
          | none => rw [hn] at h; cases h
          | some q =>
            rw [hn] at h
            obtain ⟨e1, ht, hr⟩ := wrt_okX h
            have hq : q = (k, []) := by rw [← e1, ← hr]
            rw [hq] at hn
            rw [numS_ext hn hf]
            rw [hr, ahead_nil] at ht
            show wrt k (p ++ r) r = _
            unfold wrt
            rw [ahead_app, ht]
        · rw [if_neg h4] at h
          rw [if_neg h4] at hf ⊢
          by_cases h5 : headIn [34] p = true
          · rw [if_pos h5] at h ⊢
            cases hn : textS p with
            | none => rw [hn] at h; cases h
            | some q =>
              rw [hn] at h
              obtain ⟨q1, q2⟩ := q
              simp only [TR.ok.injEq] at h
              obtain ⟨rfl, rfl, rfl⟩ := h
              have hgoal : textS (p ++ r) = some (q1, r) := by
                unfold textS textR at hn ⊢
                by_cases hb : List.isPrefixOf [34, 34, 34] p = true
                · rw [if_pos hb] at hn
                  have h3p := prefix_le hb
                  rw [pre_app h3p, if_pos hb]
                  simp only [List.length_cons, List.length_nil] at h3p
                  cases hr : rawF (p.length + 1) (p.drop 3) with
                  | none => rw [hr] at hn; cases hn
                  | some u =>
                    rw [hr, Option.map_some, Option.bind_some] at hn
                    split at hn
                    · cases hn
                    · rename_i hs
                      simp only [Option.some.injEq, Prod.mk.injEq] at hn
                      obtain ⟨u1, u2⟩ := u
                      simp only at hn hs
                      obtain ⟨e1, rfl⟩ := hn
                      rw [rawF_fuel _ ((p ++ r).length + 1) (p.drop 3) (by rw [List.length_drop]; omega) (by rw [List.length_drop, List.length_append]; omega)] at hr
                      rw [drop_app1 3 (by omega), rawF_ext _ _ r _ hr, Option.map_some, Option.bind_some]
                      rw [ahead_nil] at hs
                      rw [ahead_app, if_neg hs, e1]
                · rw [if_neg hb] at hn
                  cases hr : lineF (p.length + 1) (p.drop 1) with
                  | none => rw [hr] at hn; cases hn
                  | some u =>
                    rw [hr, Option.bind_some] at hn
                    split at hn
                    · cases hn
                    · rename_i hs
                      simp only [Option.some.injEq] at hn
                      subst hn
                      simp only at hs
                      have hl2 := lineF_lt _ _ _ _ hr
                      simp only [List.length_nil, List.length_drop] at hl2
                      have hb2 : List.isPrefixOf [34, 34, 34] (p ++ r) = false := by
                        by_cases h3p : 3 ≤ p.length
                        · rw [pre_app (by simpa using h3p)]; exact Bool.eq_false_iff.2 hb
                        · obtain ⟨c, d, rfl⟩ : ∃ c d, p = [c, d] := by
                            match p, hl2, h3p with
                            | [c, d], _, _ => exact ⟨c, d, rfl⟩
                            | [c], h, _ => simp at h
                            | [], h, _ => simp at h
                            | _ :: _ :: _ :: _, _, h => exact absurd (by simp) h
                          rw [Bool.eq_false_iff]
                          intro hx
                          obtain ⟨m, hm⟩ := List.isPrefixOf_iff_prefix.1 hx
                          simp at hm
                          obtain ⟨rfl, rfl, hm⟩ := hm
                          rw [if_pos rfl, ← hm] at hf
                          cases hf
                      rw [if_neg (by rw [hb2]; decide)]
                      rw [lineF_fuel _ ((p ++ r).length + 1) (p.drop 1) (by rw [List.length_drop]; omega) (by rw [List.length_drop, List.length_append]; omega)] at hr
                      rw [drop_app1 1 (by omega), lineF_ext _ _ r _ hr, Option.bind_some]
                      rw [ahead_nil] at hs
                      rw [ahead_app, if_neg hs]
              rw [hgoal]
          · rw [if_neg h5] at h; cases h
/-- A token's first byte is none that is ignored. -/
theorem tok_head {c : UInt8} {l t r : Bs} {k : Int} (h : tokS (c :: l) = .ok k t r) : skipS (c :: l) = .inl (c :: l) := by
  have hx : ∀ d : UInt8, (ignL.contains d = true ∨ d = 239 ∨ d = 35) → ∀ m, tokS (d :: m) = .bad 50 := by
    intro d hd m
    have : d = 9 ∨ d = 32 ∨ d = 10 ∨ d = 13 ∨ d = 44 ∨ d = 239 ∨ d = 35 := by
      rcases hd with hd | hd | hd
      · simp [ignL] at hd
        rcases hd with hd | hd | hd | hd | hd <;> simp [hd]
      · simp [hd]
      · simp [hd]
    rcases this with rfl | rfl | rfl | rfl | rfl | rfl | rfl <;> rfl
  have h1 : headIn ignL (c :: l) = false := by
    rw [Bool.eq_false_iff]
    intro e
    rw [hx c (Or.inl e) l] at h
    cases h
  have h2 : List.isPrefixOf [239, 187, 191] (c :: l) = false := by
    rw [Bool.eq_false_iff]
    intro e
    obtain ⟨m, hm⟩ := List.isPrefixOf_iff_prefix.1 e
    simp at hm
    rw [hx c (Or.inr (Or.inl hm.1.symm)) l] at h
    cases h
  have h3 : comS (c :: l) = none := by
    unfold comS
    rw [if_neg]
    intro e
    obtain ⟨m, hm⟩ := List.isPrefixOf_iff_prefix.1 e
    simp at hm
    rw [hx c (Or.inr (Or.inr hm.1.symm)) l] at h
    cases h
  rw [skipS_com h1 h2, h3]
end Go.Proofs.YtglpabfjnngbnaaGreatDoor
namespace Go.Proofs.YtglpabfjnngbnaaGreatDoor
open Go Go.RowKit

/-! ### A document in pieces -/
/-- What is ignored ahead of a token, the token's bytes, its kind, its text. -/
structure Pc where
  g : Bs
  p : Bs
  k : Int
  t : Bs
def catP : List Pc → Bs → Bs
  | [], tl => tl
  | a :: az, tl => a.g ++ (a.p ++ catP az tl)
def AllOk : List Pc → Bs → Prop
  | [], _ => True
  | a :: az, tl => Gap a.g ∧ tokS a.p = .ok a.k a.t [] ∧ Fits a.p (catP az tl) ∧ AllOk az tl
def toksP (N : Nat) : List Pc → Bs → List Tok
  | [], _ => []
  | a :: az, tl => ⟨a.k, a.t, N - (a.p ++ catP az tl).length, N - (catP az tl).length⟩ :: toksP N az tl
/-- Kinds and texts. -/
def saysP (ps : List Pc) : List (Int × Bs) := ps.map fun a => (a.k, a.t)
def saysT (ts : List Tok) : List (Int × Bs) := ts.map fun x => (x.k, x.t)
theorem toksP_len (N : Nat) : ∀ (ps : List Pc) (tl : Bs), (toksP N ps tl).length = ps.length
  | [], _ => rfl
  | a :: az, tl => by simp [toksP, toksP_len N az tl]
theorem toksP_says (N : Nat) : ∀ (ps : List Pc) (tl : Bs), saysT (toksP N ps tl) = saysP ps
  | [], _ => rfl
  | a :: az, tl => by
    have := toksP_says N az tl
    unfold saysT saysP at this
    simp [toksP, saysT, saysP, this]
theorem catP_app : ∀ (ps qs : List Pc) (tl : Bs), catP (ps ++ qs) tl = catP ps (catP qs tl)
  | [], _, _ => rfl
  | a :: az, qs, tl => by
    show a.g ++ (a.p ++ catP (az ++ qs) tl) = a.g ++ (a.p ++ catP az (catP qs tl))
    rw [catP_app az qs tl]
theorem catP_end : ∀ (ps : List Pc) (x y : Bs), catP ps x ++ y = catP ps (x ++ y)
  | [], _, _ => rfl
  | a :: az, x, y => by
    show a.g ++ (a.p ++ catP az x) ++ y = a.g ++ (a.p ++ catP az (x ++ y))
    rw [List.append_assoc, List.append_assoc, catP_end az x y]
theorem catP_head : ∀ (ps : List Pc) (tl : Bs), catP ps tl = catP ps [] ++ tl
  | ps, tl => by rw [catP_end, List.nil_append]
theorem tok_ne {p t r : Bs} {k : Int} (h : tokS p = .ok k t r) : p ≠ [] := by
  rintro rfl
  have := (tokS_facts h).2
  simp at this
theorem headC_cat {tl tl' : Bs} (hc : HeadC tl tl') : ∀ (ps : List Pc), HeadC (catP ps tl) (catP ps tl')
  | [] => hc
  | _ :: az => (HeadC.app0 (HeadC.app0 (headC_cat hc az)))
theorem AllOk.change {tl tl' : Bs} (hc : HeadC tl tl') : ∀ (ps : List Pc), AllOk ps tl → AllOk ps tl'
  | [], _ => trivial
  | _ :: az, ⟨h1, h2, h3, h4⟩ => ⟨h1, h2, h3.change (headC_cat hc az), AllOk.change hc az h4⟩
theorem AllOk.split : ∀ (ps qs : List Pc) (tl : Bs), AllOk (ps ++ qs) tl → AllOk ps (catP qs tl) ∧ AllOk qs tl
  | [], _, _, h => ⟨trivial, h⟩
  | a :: az, qs, tl, ⟨h1, h2, h3, h4⟩ => by
    obtain ⟨g1, g2⟩ := AllOk.split az qs tl h4
    exact ⟨⟨h1, h2, by rw [← catP_app]; exact h3, g1⟩, g2⟩
theorem AllOk.join : ∀ (ps qs : List Pc) (tl : Bs), AllOk ps (catP qs tl) → AllOk qs tl → AllOk (ps ++ qs) tl
  | [], _, _, _, h => h
  | a :: az, qs, tl, ⟨h1, h2, h3, h4⟩, h => ⟨h1, h2, by show Fits a.p (catP (az ++ qs) tl); rw [catP_app]; exact h3, AllOk.join az qs tl h4 h⟩
theorem skip_tok {g p t r : Bs} {k : Int} (hg : Gap g) (h : tokS p = .ok k t r) (m : Bs) : skipS (g ++ (p ++ m)) = .inl (p ++ m) := by
  rw [hg]
  cases p with
  | nil => exact absurd rfl (tok_ne h)
  | cons c p =>
    have hx := tok_head h
    -- the first byte alone decides
    have e1 : headIn ignL (c :: p) = false := by
      rw [Bool.eq_false_iff]
      intro e
      have := skip_one e p
      rw [hx] at this
      have h2 := (skipS_suf this.symm).length_le
      simp at h2
      omega
    have e2 : c ≠ 239 := by
      rintro rfl
      have : tokS (239 :: p) = .bad 50 := rfl
      rw [this] at h
      cases h
    have e3 : c ≠ 35 := by
      rintro rfl
      have : tokS (35 :: p) = .bad 50 := rfl
      rw [this] at h
      cases h
    have f2 : List.isPrefixOf [239, 187, 191] (c :: (p ++ m)) = false := by
      rw [Bool.eq_false_iff]
      intro e
      obtain ⟨q, hq⟩ := List.isPrefixOf_iff_prefix.1 e
      simp at hq
      exact e2 hq.1.symm
    have f3 : comS (c :: (p ++ m)) = none := by
      unfold comS
      rw [if_neg]
      intro e
      obtain ⟨q, hq⟩ := List.isPrefixOf_iff_prefix.1 e
      simp at hq
      exact e3 hq.1.symm
    show skipS (c :: (p ++ m)) = .inl (c :: (p ++ m))
    rw [skipS_com (l := c :: (p ++ m)) e1 f2, f3]
theorem lexG_piece {N c : Nat} {a : Pc} {m : Bs} (hg : Gap a.g) (ht : tokS a.p = .ok a.k a.t []) (hf : Fits a.p m) (hc : c < 2048) : lexG N c (a.g ++ (a.p ++ m)) = withL [⟨a.k, a.t, N - (a.p ++ m).length, N - m.length⟩] (lexG N (c + 1) m) := by
  have h1 := skip_tok hg ht m
  have h2 := tok_ext ht hf
  cases hp : a.p ++ m with
  | nil =>
    have := tok_ne h2
    exact absurd hp this
  | cons x l1 =>
    rw [hp] at h1 h2
    exact lexG_ok h1 (by omega) h2
theorem lexG_cat {N : Nat} : ∀ (ps : List Pc) (tl : Bs) (c : Nat), AllOk ps tl → c + ps.length ≤ 2048 → lexG N c (catP ps tl) = withL (toksP N ps tl) (lexG N (c + ps.length) tl)
  | [], tl, c, _, _ => (withL_nil _).symm
  | a :: az, tl, c, ⟨h1, h2, h3, h4⟩, hc => by
    simp only [List.length_cons] at hc
    show lexG N c (a.g ++ (a.p ++ catP az tl)) = _
    rw [lexG_piece h1 h2 h3 (by omega), lexG_cat az tl (c + 1) h4 (by omega), withL_withL]
    rw [List.length_cons, Nat.add_assoc, Nat.add_comm 1]
    rfl
/-- Where it ends. -/
def FinP (c : Nat) (tl : Bs) : Prop := skipS tl = .inl [] ∨ (∃ k, skipS tl = .inr k) ∨ ∃ x l1, skipS tl = .inl (x :: l1) ∧ (c = 2048 ∨ ∃ e, tokS (x :: l1) = .bad e)
theorem lex_dec : ∀ (n c : Nat) (l : Bs), l.length ≤ n → c ≤ 2048 → ∃ ps tl, l = catP ps tl ∧ AllOk ps tl ∧ c + ps.length ≤ 2048 ∧ FinP (c + ps.length) tl := by
  intro n
  induction n with
  | zero =>
    intro c l hl hc
    obtain rfl : l = [] := List.length_eq_zero_iff.1 (by omega)
    exact ⟨[], [], rfl, trivial, by simpa using hc, Or.inl skip_nil⟩
  | succ n ih =>
    intro c l hl hc
    have hp := skip_parts l
    cases hs : skipS l with
    | inr k => exact ⟨[], l, rfl, trivial, by simpa using hc, Or.inr (Or.inl ⟨k, hs⟩)⟩
    | inl q =>
      cases q with
      | nil => exact ⟨[], l, rfl, trivial, by simpa using hc, Or.inl hs⟩
      | cons x l1 =>
        by_cases h8 : c = 2048
        · exact ⟨[], l, rfl, trivial, by simpa using hc, Or.inr (Or.inr ⟨x, l1, hs, Or.inl (by simpa using h8)⟩)⟩
        · cases ht : tokS (x :: l1) with
          | bad e => exact ⟨[], l, rfl, trivial, by simpa using hc, Or.inr (Or.inr ⟨x, l1, hs, Or.inr ⟨e, ht⟩⟩)⟩
          | ok k t r =>
            rw [hs] at hp
            obtain ⟨g, hg1, hg2⟩ := hp
            obtain ⟨⟨p, hp1⟩, hp2⟩ := tokS_facts ht
            have ht2 := ht
            rw [← hp1] at ht2
            obtain ⟨h1, h2⟩ := tok_cut ht2
            have hlen : r.length ≤ n := by
              have := congrArg List.length hg1
              rw [List.length_append] at this
              omega
            obtain ⟨ps, tl, e1, e2, e3, e4⟩ := ih (c + 1) r hlen (by omega)
            refine ⟨⟨g, p, k, t⟩ :: ps, tl, ?_, ⟨hg2, h1, by rw [← e1]; exact h2, e2⟩, by simp only [List.length_cons]; omega, ?_⟩
            · show l = g ++ (p ++ catP ps tl)
              rw [← e1, hp1, hg1]
            · rw [List.length_cons, ← Nat.add_assoc, Nat.add_right_comm]
              exact e4
/-- A document that is right. -/
structure Right (s : Bs) (ps : List Pc) (tl : Bs) : Prop where
  cat : s = catP ps tl
  ok : AllOk ps tl
  few : ps.length ≤ 2048
  fin : skipS tl = .inl []
  short : s.length ≤ 16384
theorem lexS_right {s : Bs} {ps : List Pc} {tl : Bs} (h : Right s ps tl) : lexS s = .inr (toksP s.length ps tl) := by
  unfold lexS
  rw [if_neg (by have := h.short; omega)]
  show lexG s.length 0 s = _
  have e := lexG_cat (N := s.length) ps tl 0 h.ok (by have := h.few; omega)
  rw [lexG_end h.fin, ← h.cat] at e
  rw [e]
  simp [withL]
theorem right_of {s : Bs} {ts : List Tok} (h : lexS s = .inr ts) : ∃ ps tl, Right s ps tl ∧ ts = toksP s.length ps tl := by
  unfold lexS at h
  by_cases hl : 16384 < s.length
  · rw [if_pos hl] at h; cases h
  · rw [if_neg hl] at h
    have h' : lexG s.length 0 s = .inr ts := h
    obtain ⟨ps, tl, e1, e2, e3, e4⟩ := lex_dec s.length 0 s (Nat.le_refl _) (by omega)
    have e := lexG_cat (N := s.length) ps tl 0 e2 e3
    rw [← e1, h'] at e
    rcases e4 with hf | ⟨k, hf⟩ | ⟨x, l1, hf, h8 | ⟨b, hb⟩⟩
    · rw [lexG_end hf] at e
      simp only [withL, List.append_nil, Sum.inr.injEq] at e
      exact ⟨ps, tl, ⟨e1, e2, by omega, hf, by omega⟩, e⟩
    · rw [lexG_wrong hf] at e; cases e
    · rw [lexG_many hf h8] at e; cases e
    · by_cases h8 : 0 + ps.length = 2048
      · rw [lexG_many hf h8] at e; cases e
      · rw [lexG_bad hf h8 hb] at e; cases e
theorem bad_codes {l : Bs} {e : Int} (h : tokS l = .bad e) : e = 50 ∨ e = 51 ∨ e = 52 := by
  unfold tokS wrt at h
  repeat' split at h
  all_goals first | (cases h; omega) | (cases h)
/-- A document that is wrong: all ahead of that place is right. -/
theorem wrong_of (cut : ∀ (x : Bs) (k : Nat), srcB (35 :: x) = some k → ∃ j, k = j + 1 ∧ j < x.length ∧ srcB (35 :: x.take j) = none) {s : Bs} {b : Nat} {e : Int} (h : lexS s = .inl (b, e)) : (e = 54 ∧ b = 0) ∨ (e ≠ 54 ∧ e ≠ 0 ∧ b ≤ s.length ∧ ∃ ts, lexS (s.take b) = .inr ts) := by
  unfold lexS at h
  by_cases hl : 16384 < s.length
  · rw [if_pos hl] at h; cases h; exact Or.inl ⟨rfl, rfl⟩
  · rw [if_neg hl] at h
    right
    have h' : lexG s.length 0 s = .inl (b, e) := h
    obtain ⟨ps, tl, e1, e2, e3, e4⟩ := lex_dec s.length 0 s (Nat.le_refl _) (by omega)
    have ee := lexG_cat (N := s.length) ps tl 0 e2 e3
    rw [← e1, h'] at ee
    have hN : s.length = (catP ps []).length + tl.length := by
      conv => lhs; rw [e1, catP_head ps tl, List.length_append]
    have hcut : ∀ tl' : Bs, tl' <+: tl → skipS tl' = .inl [] → b = (catP ps []).length + tl'.length → ∃ ts, lexS (s.take b) = .inr ts := by
      intro tl' hpre hsk hb
      obtain ⟨m, rfl⟩ := hpre
      have hs : s.take b = catP ps tl' := by
        rw [e1, ← catP_end, List.take_left' (by rw [hb, ← List.length_append, ← catP_head])]
      have hc : HeadC (tl' ++ m) tl' := by
        cases tl' with
        | nil => exact HeadC.nil _
        | cons c q => exact fun d k e _ => by cases e; exact ⟨_, rfl⟩
      exact ⟨_, lexS_right ⟨hs, AllOk.change hc ps e2, by omega, hsk, by rw [List.length_take]; omega⟩⟩
    have hp := skip_parts tl
    rcases e4 with hf | ⟨k, hf⟩ | ⟨x, l1, hf, hx⟩
    · rw [lexG_end hf] at ee; cases ee
    · rw [lexG_wrong hf] at ee
      simp only [withL, Sum.inl.injEq, Prod.mk.injEq] at ee
      obtain ⟨rfl, rfl⟩ := ee
      refine ⟨by decide, by decide, by omega, ?_⟩
      rw [hf] at hp
      obtain ⟨q, c, j, g1, g2, g3, g4⟩ := hp
      obtain ⟨body, r, rfl, b1, b2, b3⟩ := com_parts g3
      cases hs : srcB (35 :: body) with
      | none => rw [hs] at b3; cases b3
      | some k' =>
        rw [hs] at b3
        simp only [Sum.inr.injEq] at b3
        subst b3
        obtain ⟨j', rfl, hj, hj2⟩ := cut _ _ hs
        have hm : comS (35 :: (body.take j' ++ [])) = some (.inl []) := com_make (fun c hc => b1 c (List.mem_of_mem_take hc)) (fun c m e => by cases e) hj2
        rw [List.append_nil] at hm
        refine hcut (q ++ 35 :: body.take j') ?_ ?_ ?_
        · refine ⟨body.drop j' ++ r, ?_⟩
          rw [g1, List.append_assoc, List.cons_append, ← List.append_assoc (body.take j'), List.take_append_drop]
        · rw [g2, skip_com hm, skip_nil]
        · have := congrArg List.length g1
          simp only [List.length_append, List.length_cons] at this
          simp only [List.length_append, List.length_cons, List.length_take] at g4 ⊢
          omega
    · rw [hf] at hp
      obtain ⟨q, g1, g2⟩ := hp
      have hb : b = s.length - (x :: l1).length ∧ e ≠ 54 ∧ e ≠ 0 := by
        by_cases h8 : 0 + ps.length = 2048
        · rw [lexG_many hf h8] at ee
          simp only [withL, Sum.inl.injEq, Prod.mk.injEq] at ee
          exact ⟨ee.1, by omega, by omega⟩
        · rcases hx with h8' | ⟨y, hy⟩
          · exact absurd h8' h8
          · rw [lexG_bad hf h8 hy] at ee
            simp only [withL, Sum.inl.injEq, Prod.mk.injEq] at ee
            have := bad_codes hy
            exact ⟨ee.1, by omega, by omega⟩
      refine ⟨hb.2.1, hb.2.2, by omega, hcut q ⟨x :: l1, g1.symm⟩ ?_ ?_⟩
      · have := g2 []
        rw [List.append_nil] at this
        rw [this, skip_nil]
      · have := congrArg List.length g1
        rw [List.length_append] at this
        omega
end Go.Proofs.YtglpabfjnngbnaaGreatDoor
namespace Go.Proofs.YtglpabfjnngbnaaGreatDoor
open Go Go.RowKit

/-! ### What the laws say of a document in pieces -/
theorem toksP_app (N : Nat) : ∀ (ps qs : List Pc) (tl : Bs), toksP N (ps ++ qs) tl = toksP N ps (catP qs tl) ++ toksP N qs tl
  | [], _, _ => rfl
  | a :: az, qs, tl => by
    show ({ k := a.k, t := a.t, b := N - (a.p ++ catP (az ++ qs) tl).length, e := N - (catP (az ++ qs) tl).length } : Tok) :: toksP N (az ++ qs) tl = { k := a.k, t := a.t, b := N - (a.p ++ catP az (catP qs tl)).length, e := N - (catP az (catP qs tl)).length } :: (toksP N az (catP qs tl) ++ toksP N qs tl)
    rw [toksP_app N az qs tl, catP_app]
/-- How many bytes the first pieces have. -/
def preLx (ps : List Pc) : Nat := (catP ps []).length
theorem preL_snoc (ps : List Pc) (a : Pc) : preLx (ps ++ [a]) = preLx ps + a.g.length + a.p.length := by
  unfold preLx
  rw [catP_app, catP_head ps (catP [a] [])]
  simp [catP]
  omega
theorem right_len {s : Bs} {ps : List Pc} {tl : Bs} (h : Right s ps tl) : s.length = preLx ps + tl.length := by
  unfold preLx
  conv => lhs; rw [h.cat, catP_head, List.length_append]
/-- The token of one piece: where it lies. -/
theorem piece_at {s : Bs} {az bs : List Pc} {a : Pc} {tl : Bs} (h : Right s (az ++ a :: bs) tl) :
    (toksP s.length (az ++ a :: bs) tl)[az.length]? = some ⟨a.k, a.t, preLx az + a.g.length, preLx az + a.g.length + a.p.length⟩ ∧ s.take (preLx az + a.g.length) = catP az a.g ∧ s.drop (preLx az + a.g.length) = a.p ++ catP bs tl ∧ preLx az + a.g.length + a.p.length ≤ s.length ∧ a.p ≠ [] ∧ tokS a.p = .ok a.k a.t [] := by
  have hs : s = (catP az [] ++ a.g) ++ (a.p ++ catP bs tl) := by
    conv => lhs; rw [h.cat, catP_app, catP_head]
    show _ ++ (a.g ++ (a.p ++ catP bs tl)) = _
    rw [List.append_assoc]
  have hlen : s.length = preLx az + a.g.length + (a.p.length + (catP bs tl).length) := by
    rw [hs]
    simp only [List.length_append, preLx]
  have hok := (AllOk.split az (a :: bs) tl h.ok).2
  have hgl : preLx az + a.g.length = (catP az [] ++ a.g).length := by
    rw [List.length_append]; rfl
  refine ⟨?_, ?_, ?_, by omega, tok_ne hok.2.1, hok.2.1⟩
  · rw [toksP_app, List.getElem?_append_right (by rw [toksP_len]; exact Nat.le_refl _), toksP_len, Nat.sub_self]
    show some _ = some _
    rw [List.length_append]
    congr 2
    · omega
    · omega
  · rw [hgl, hs, List.take_left' rfl, catP_head az a.g]
  · rw [hgl, hs, List.drop_left' rfl]
theorem lexS_one {p t : Bs} {k : Int} (h : tokS p = .ok k t []) (hp : p.length ≤ 16384) : lexS p = .inr [⟨k, t, 0, p.length⟩] := by
  have hr : Right p [⟨[], p, k, t⟩] [] := ⟨by simp [catP], ⟨Gap.nil, h, rfl, trivial⟩, by simp, skip_nil, hp⟩
  rw [lexS_right hr]
  simp [toksP, catP]
/-- All tokens, with a blank behind each. -/
def blk : List Pc → Bs
  | [] => []
  | a :: az => a.p ++ 32 :: blk az
theorem blk_app : ∀ ps qs : List Pc, blk (ps ++ qs) = blk ps ++ blk qs
  | [], _ => rfl
  | a :: az, qs => by
    show a.p ++ 32 :: blk (az ++ qs) = (a.p ++ 32 :: blk az) ++ blk qs
    rw [blk_app az qs]
    simp
theorem fits_blank (p m : Bs) (c : UInt8) (h : brkL.contains c = false) : Fits p (c :: m) := by
  unfold Fits
  show (fitX p).contains c = false
  rw [Bool.eq_false_iff]
  intro e
  rw [fit_brk p c e] at h
  cases h
theorem lexG_blk {N : Nat} {tl : Bs} : ∀ (ps : List Pc) (c : Nat), AllOk ps tl → c + ps.length ≤ 2048 → ∃ ts, lexG N c (blk ps) = .inr ts ∧ saysT ts = saysP ps
  | [], c, _, _ => ⟨[], lexG_end skip_nil, rfl⟩
  | a :: az, c, ⟨_, h2, _, h4⟩, hc => by
    simp only [List.length_cons] at hc
    obtain ⟨ts, e1, e2⟩ := lexG_blk (N := N) az (c + 1) h4 (by omega)
    have e := lexG_piece (N := N) (c := c) (a := ⟨[], a.p, a.k, a.t⟩) (m := 32 :: blk az) Gap.nil h2 (fits_blank _ _ _ rfl) (by omega)
    rw [lexG_skip (skip_one (c := 32) rfl (blk az)), e1] at e
    refine ⟨_, e, ?_⟩
    simp [saysT, saysP] at e2 ⊢
    exact e2
theorem lexS_blk {s : Bs} {ps : List Pc} {tl : Bs} (h : Right s ps tl) (hb : (blk ps).length ≤ 16384) : ∃ ts, lexS (blk ps) = .inr ts ∧ saysT ts = saysP ps := by
  unfold lexS
  rw [if_neg (by omega)]
  exact lexG_blk ps 0 h.ok (by have := h.few; omega)
/-- Something ignored ahead of a token. -/
theorem ign_mid {s : Bs} {az bs : List Pc} {a : Pc} {tl G : Bs} {c : UInt8} (h : Right s (az ++ a :: bs) tl) (hG : Gap (c :: G)) (hc : brkL.contains c = false) (hl : s.length + (c :: G).length ≤ 16384) :
    ∃ ts, lexS (s.take (preLx az + a.g.length) ++ (c :: G) ++ s.drop (preLx az + a.g.length)) = .inr ts ∧ saysT ts = saysP (az ++ a :: bs) := by
  obtain ⟨_, h1, h2, _⟩ := piece_at h
  obtain ⟨o1, o2, o3, o4, o5⟩ := AllOk.split az (a :: bs) tl h.ok
  have ecat : s.take (preLx az + a.g.length) ++ (c :: G) ++ s.drop (preLx az + a.g.length) = catP (az ++ ⟨a.g ++ (c :: G), a.p, a.k, a.t⟩ :: bs) tl := by
    rw [h1, h2, catP_app, catP_head az a.g]
    rw [catP_head az (catP _ tl)]
    simp [catP]
  have hr : Right (s.take (preLx az + a.g.length) ++ (c :: G) ++ s.drop (preLx az + a.g.length)) (az ++ ⟨a.g ++ (c :: G), a.p, a.k, a.t⟩ :: bs) tl := by
    refine ⟨ecat, AllOk.join az _ tl (AllOk.change ?_ az o1) ⟨o2.app hG, o3, o4, o5⟩, ?_, h.fin, ?_⟩
    · show HeadC (a.g ++ (a.p ++ catP bs tl)) (a.g ++ (c :: G) ++ (a.p ++ catP bs tl))
      rw [List.append_assoc]
      exact HeadC.app0 (HeadC.not _ _ hc)
    · have := h.few
      simpa using this
    · simp only [List.length_append, List.length_take, List.length_drop]
      omega
  refine ⟨_, lexS_right hr, ?_⟩
  rw [toksP_says]
  simp [saysP]
/-- Something ignored behind the last token. -/
theorem ign_end {s : Bs} {ps : List Pc} {tl G : Bs} {c : UInt8} (h : Right s ps tl) (hG : Gap (c :: G)) (hc : brkL.contains c = false) (hl : s.length + (c :: G).length ≤ 16384) :
    ∃ ts, lexS (s.take (preLx ps) ++ (c :: G) ++ s.drop (preLx ps)) = .inr ts ∧ saysT ts = saysP ps := by
  have hs : s = catP ps [] ++ tl := by
    conv => lhs; rw [h.cat, catP_head]
  have e1 : s.take (preLx ps) = catP ps [] := by rw [hs]; exact List.take_left' rfl
  have e2 : s.drop (preLx ps) = tl := by rw [hs]; exact List.drop_left' rfl
  have ecat : s.take (preLx ps) ++ (c :: G) ++ s.drop (preLx ps) = catP ps ((c :: G) ++ tl) := by
    rw [e1, e2, List.append_assoc, ← catP_head]
  have hr : Right (s.take (preLx ps) ++ (c :: G) ++ s.drop (preLx ps)) ps ((c :: G) ++ tl) := by
    refine ⟨ecat, AllOk.change (HeadC.not _ _ hc) ps h.ok, h.few, by rw [hG]; exact h.fin, ?_⟩
    simp only [List.length_append, List.length_take, List.length_drop]
    omega
  exact ⟨_, lexS_right hr, toksP_says _ _ _⟩
/-- One document behind another one. -/
theorem lexS_two {s t : Bs} {ps : List Pc} {tl : Bs} (h : Right s ps tl) (hl : s.length + t.length + 1 ≤ 16384) : lexS (s ++ 10 :: t) = withL (toksP (s ++ 10 :: t).length ps (tl ++ 10 :: t)) (lexG (s ++ 10 :: t).length ps.length t) := by
  unfold lexS
  rw [if_neg (by simp only [List.length_append, List.length_cons]; omega)]
  show lexG (s ++ 10 :: t).length 0 (s ++ 10 :: t) = _
  generalize hN : (s ++ 10 :: t).length = N
  have e : s ++ 10 :: t = catP ps (tl ++ 10 :: t) := by
    conv => lhs; rw [h.cat, catP_end]
  have hc : HeadC tl (tl ++ 10 :: t) := by
    cases tl with
    | nil => exact HeadC.not _ _ rfl
    | cons c q => exact fun d k e _ => by cases e; exact ⟨_, rfl⟩
  rw [e, lexG_cat ps (tl ++ 10 :: t) 0 (AllOk.change hc ps h.ok) (by have := h.few; omega), Nat.zero_add]
  have hsk : skipS (tl ++ 10 :: t) = skipS t := by
    have := skip_parts tl
    rw [h.fin] at this
    exact this t
  rw [lexG_skip hsk]
theorem two_more {s t : Bs} {ps : List Pc} {tl : Bs} {ts : List Tok} (h : Right s ps tl) (ha : lexS (s ++ 10 :: t) = .inr ts) : ps.length ≤ ts.length := by
  by_cases hl : s.length + t.length + 1 ≤ 16384
  · rw [lexS_two h hl] at ha
    cases hx : lexG (s ++ 10 :: t).length ps.length t with
    | inl p => rw [hx] at ha; cases ha
    | inr us =>
      rw [hx] at ha
      simp only [withL, Sum.inr.injEq] at ha
      rw [← ha, List.length_append, toksP_len]
      omega
  · unfold lexS at ha
    rw [if_pos (by simp only [List.length_append, List.length_cons]; omega)] at ha
    cases ha
theorem two_right {s t : Bs} {ps qs : List Pc} {tl tm : Bs} (h : Right s ps tl) (h' : Right t qs tm) (hl : s.length + t.length + 1 ≤ 16384) (hm : ps.length + qs.length ≤ 2048) : ∃ ts, lexS (s ++ 10 :: t) = .inr ts ∧ saysT ts = saysP ps ++ saysP qs := by
  rw [lexS_two h hl]
  generalize (s ++ 10 :: t).length = N
  have e := lexG_cat (N := N) qs tm ps.length h'.ok hm
  rw [lexG_end h'.fin, ← h'.cat] at e
  rw [e]
  refine ⟨_, rfl, ?_⟩
  unfold saysT
  rw [List.append_nil, List.map_append]
  have e1 := toksP_says N ps (tl ++ 10 :: t)
  have e2 := toksP_says N qs tm
  unfold saysT at e1 e2
  rw [e1, e2]
end Go.Proofs.YtglpabfjnngbnaaGreatDoor
