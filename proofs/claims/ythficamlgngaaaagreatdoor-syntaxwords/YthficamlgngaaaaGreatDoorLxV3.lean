/- Lines and indents, by the document. -/
import Derived.Test.YthficamlgngaaaaGreatDoorLxA1
import Derived.Test.YthficamlgngaaaaGreatDoorLxQ
import Derived.OwnWalk
import Derived.OneCell
import Derived.Laws.OwnMore
import Derived.Laws.IdiomStrings
import Derived.Lib.AppendStr
import Derived.Lib.UnsafeStr
import Derived.Test.YthficamlgngaaaaGreatDoorLxU
namespace Go.Proofs.YthficamlgngaaaaGreatDoor
open Go Go.RowKit Go.Lib

theorem ArrS.back {W : World} {A : Nat} {d : Bs} (h : ArrS W A d) :
    (convert 37 9 (.slice (some ⟨A, 65 - d.length, none⟩) d.length d.length)).run Tryz.prog W = .ok (.string ⟨d.toArray⟩) W := by
  obtain ⟨cur, h1, h2, h3⟩ := h.row
  have hl := h.len
  exact run_convert_bytes_back (P := Tryz.prog) W 37 9 5 ⟨A, 65 - d.length, none⟩ d.length d Tryz.underlying37 Tryz.underlying5 Tryz.underlying9 (by
    intro j hj
    have hb : (Lib.byteCells d)[j]? = some (.int .u8 (d[j].toNat : Int)) := by simp [Lib.byteCells, hj]
    rw [← h3, List.getElem?_drop] at hb
    rw [Addr.add_lit]
    unfold World.cell?
    rw [h1]
    simpa using hb)

set_option maxRecDepth 100000 in
set_option maxHeartbeats 4000000 in
theorem fbits_any (n : Nat) (hn : n < 65536) (w : World) (hz : Tz w) : Calls Tryz.prog 199 #[.slice none 0 0, .int .u64 (n : Int), .int .i64 16, .bool false, .bool false] w fun e w' => e = .returned (.tuple #[.slice none 0 0, .string ⟨(hexS n).toArray⟩]) ∧ Below w.heap.size w w' := by
  have P := fun w => pow2_any w
  have Z := fun w h => tz_any w h
  have hnI : (n : Int) < 65536 := by omega
  go_enter Tryz.func199, Tryz.ntmps199
  go_wp2_with (first
    | (go_at_call 203; refine (P _).mono ?_; rintro e w1 ⟨rfl, rfl⟩)
    | (go_at_call 204; refine (Z _ (hz.below ((Below.refl _ w).alloc (Nat.le_refl _) _) (Nat.le_refl _))).mono ?_; rintro e w1 ⟨rfl, rfl⟩)
    | fail)
  have hA0 : ArrS (w.alloc (.cells Tryz.zeroCells211 211)) w.heap.size [] := by
    refine ⟨⟨_, heap_alloc_new _ _, by decide +kernel, ?_⟩, by simp⟩
    have e : Tryz.zeroCells211.toList.length = 65 := by decide +kernel
    exact List.drop_eq_nil_iff.2 (by simp only [List.length_nil]; omega)
  have hB0 : Below w.heap.size w (w.alloc (.cells Tryz.zeroCells211 211)) := (Below.refl _ w).alloc (Nat.le_refl _) _
  generalize (w.alloc (.cells Tryz.zeroCells211 211)) = W0 at *
  go_loopw [1, 13] (fun u i wr => ∃ (m : Nat) (d : Bs), u = .int .u64 (m : Int) ∧ i = .int .i64 ((65 - d.length : Nat) : Int) ∧ m < 65536 ∧ d.length ≤ 3 ∧ 16 ^ d.length * m ≤ n ∧ hexS m ++ d = hexS n ∧ ArrS wr w.heap.size d ∧ Below w.heap.size w wr) (fun u _ _ => (RowKit.intOf u).toNat)
  case atStart => exact ⟨n, [], rfl, rfl, hn, by simp, by simp, by simp, hA0, hB0⟩
  case round =>
    obtain ⟨m, d, rfl, rfl, hm, hd, hpw, hx, hA, hb⟩ := hrel
    clear hA0 hB0
    obtain ⟨v, hc⟩ := hA.cell (65 - d.length - 1) (by omega)
    have hf := hA.free (65 - d.length - 1)
    have hi : ((65 - d.length : Nat) : Int) - 1 = ((65 - d.length - 1 : Nat) : Int) := by omega
    have hi2 : ((65 - d.length - 1 : Nat) : Int) < 65 := by omega
    have hi3 : (0 : Int) ≤ ((65 - d.length - 1 : Nat) : Int) := by omega
    by_cases hge : 16 ≤ m
    · have hgI : (16 : Int) ≤ (m : Int) := by omega
      have hand := and15 m (by omega)
      have hdg := digS_at ⟨m % 16, Nat.mod_lt _ (by decide)⟩
      have hr16 : ((m % 16 : Nat) : Int) < 36 := by omega
      have hr0 : (0 : Int) ≤ ((m % 16 : Nat) : Int) := by omega
      have hput := hA.put (by omega) (hexD (m % 16))
      have HA : Hid (ArrS (wr.setCell ⟨w.heap.size, 65 - d.length - 1, none⟩ (.int .u8 ((hexD (m % 16)).toNat : Int))) w.heap.size (hexD (m % 16) :: d)) := hput
      have HX : Hid (hexS (m / 16) ++ (hexD (m % 16) :: d) = hexS n) := by
        show _ = _
        rw [← hx, hexS_great (show ¬ m < 16 by omega)]
        simp
      have HD : Hid (d.length + 1 ≤ 3) := by
        show _ ≤ _
        rcases Nat.lt_or_ge d.length 3 with h3 | h3
        · exact h3
        · exfalso
          have e : d.length = 3 := by omega
          rw [e] at hpw
          omega
      have HP : Hid (16 ^ (d.length + 1) * (m / 16) ≤ n) := by
        show _ ≤ _
        refine Nat.le_trans ?_ hpw
        rw [Nat.pow_succ, Nat.mul_assoc]
        exact Nat.mul_le_mul_left _ (Nat.mul_div_le m 16)
      have HM : Hid (m / 16 < m) := by show _ < _; omega
      have HM2 : Hid (m / 16 < 65536) := by show _ < _; omega
      have hdiv : (m : Int) / 16 = ((m / 16 : Nat) : Int) := by omega
      have HI : Hid (65 - d.length - 1 = 65 - (hexD (m % 16) :: d).length) := by show _ = _; simp; omega
      have hdg' : ∀ hh, (ByteArray.mk #[48, 49, 50, 51, 52, 53, 54, 55, 56, 57, 97, 98, 99, 100, 101, 102, 103, 104, 105, 106, 107, 108, 109, 110, 111, 112, 113, 114, 115, 116, 117, 118, 119, 120, 121, 122])[m % 16]'hh = hexD (m % 16) := fun _ => hdg
      dsimp only at hdg'
      clear hput hx hpw hd hge hdg
      generalize hq : m % 16 = q at *
      generalize m / 16 = m2 at *
      generalize hexD q = c at *
      generalize hk : 65 - d.length = k at *
      clear hq
      go_wp2
      refine ⟨⟨m2, c :: d, rfl, by rw [HI.out], HM2.out, HD.out, HP.out, HX.out, HA.out, hb.setCell (p := ⟨w.heap.size, k - 1, none⟩) (Nat.le_refl _) _⟩, ?_⟩
      have := HM.out
      simp [RowKit.intOf]
      omega
    · have hgI : ¬ (16 : Int) ≤ (m : Int) := by omega
      have hdg := digS_at ⟨m, by omega⟩
      have hr16 : (m : Int) < 36 := by omega
      have hput := hA.put (by omega) (hexD m)
      have hback := hput.back
      have HX : Hid (hexD m :: d = hexS n) := by
        show _ = _
        rw [← hx, hexS_small (by omega)]
        rfl
      have hdg' : ∀ hh, (ByteArray.mk #[48, 49, 50, 51, 52, 53, 54, 55, 56, 57, 97, 98, 99, 100, 101, 102, 103, 104, 105, 106, 107, 108, 109, 110, 111, 112, 113, 114, 115, 116, 117, 118, 119, 120, 121, 122])[m]'hh = hexD m := fun _ => hdg
      dsimp only at hdg'
      have e1 : 65 - (hexD m :: d).length = 65 - d.length - 1 := by simp; omega
      have e2 : (hexD m :: d).length = 65 - (65 - d.length - 1) := by simp; omega
      rw [e1, e2] at hback
      have hi4 : 65 - ((65 - d.length - 1 : Nat) : Int) = ((65 - (65 - d.length - 1) : Nat) : Int) := by omega
      have hne : ¬ (65 - (65 - d.length - 1) = 0) := by omega
      clear hput hx hpw hdg e1 e2
      generalize hexD m = c at *
      generalize hT : (c :: d).toArray = T at *
      have HT : Hid ((c :: d).toArray = T) := hT
      clear hT
      have hk1 : 65 - d.length - 1 ≤ 64 := by omega
      have hk2 : 61 ≤ 65 - d.length - 1 := by omega
      generalize 65 - d.length = k at *
      generalize k - 1 = j at *
      have hal : Tryz.prog.arrayLen 211 = 65 := by simp [Program.arrayLen, Tryz.underlying211]
      have hsl : ∀ W, (Instr.sliceAt 211 (.pointer (some ⟨w.heap.size, 0, none⟩)) (some (.int .i64 (j : Int))) none none).run Tryz.prog W = .ok (.slice (some ⟨w.heap.size, j, none⟩) (65 - j) (65 - j)) W := fun W => by
        have hj : ¬ 65 = j := by omega
        rw [run_sliceAt_array_l W 211 ⟨w.heap.size, 0, none⟩ (by simp [Program.arrayLen, Program.elem, Tryz.underlying211]) .i64 (j : Int) (by omega) (by rw [hal]; omega), hal]
        have he : Tryz.prog.elem 211 = 5 := by simp [Program.elem, Tryz.underlying211]
        rw [he]
        simp [go_sem, slicedAt, hj, Addr.add]
        omega
      clear hal
      go_wp2
      go_ret2
      rw [← HX.out]
      exact ⟨by rw [HT.out]; rfl, hb.setCell (p := ⟨w.heap.size, j, none⟩) (Nat.le_refl _) _⟩
end Go.Proofs.YthficamlgngaaaaGreatDoor
namespace Go.Proofs.YthficamlgngaaaaGreatDoor
open Go Go.RowKit

def halfC (c d e : UInt8) : Prop := c = 237 ∧ 160 ≤ d.toNat ∧ d.toNat ≤ 191 ∧ 128 ≤ e.toNat ∧ e.toNat ≤ 191
instance (c d e : UInt8) : Decidable (halfC c d e) := by unfold halfC; infer_instance
def halfV (d e : UInt8) : Nat := 53248 + (d.toNat - 128) * 64 + (e.toNat - 128)
def halfN (c d e : UInt8) : Int := ((c.toNat : Int) - 224) * 4096 + ((d.toNat : Int) - 128) * 64 + (e.toNat : Int) - 128
theorem halfN_yes {c d e : UInt8} (h : halfC c d e) : halfN c d e = (halfV d e : Nat) ∧ 55296 ≤ halfV d e ∧ halfV d e ≤ 57343 := by
  obtain ⟨rfl, h1, h2, h3, h4⟩ := h
  unfold halfN halfV
  have : (237 : UInt8).toNat = 237 := rfl
  rw [this]
  omega
theorem u8_eq {a b : UInt8} (h : a.toNat = b.toNat) : a = b := UInt8.toNat_inj.1 h
theorem toU8 (n : Nat) : (n.toUInt8).toNat = n % 256 := by simp
theorem halfS_eq (V : Nat) (c d e : UInt8) (h1 : (224 + V / 4096) % 256 = c.toNat) (h2 : (128 + V / 64 % 64) % 256 = d.toNat) (h3 : (128 + V % 64) % 256 = e.toNat) : halfS V = [c, d, e] := by
  unfold halfS
  rw [show (224 + V / 4096).toUInt8 = c from u8_eq (by rw [toU8]; exact h1), show (128 + V / 64 % 64).toUInt8 = d from u8_eq (by rw [toU8]; exact h2), show (128 + V % 64).toUInt8 = e from u8_eq (by rw [toU8]; exact h3)]
theorem halfS_yes {c d e : UInt8} (h : halfC c d e) : halfS (halfV d e) = [c, d, e] := by
  obtain ⟨h0, h1, h2, h3, h4⟩ := h
  have hV : halfV d e = 53248 + (d.toNat - 128) * 64 + (e.toNat - 128) := rfl
  have hc : c.toNat = 237 := by rw [h0]; rfl
  generalize halfV d e = V at *
  exact halfS_eq V c d e (by omega) (by omega) (by omega)
theorem halfS_no {c d e : UInt8} {V : Nat} (h1 : 55296 ≤ V) (h2 : V ≤ 57343) (h : halfS V = [c, d, e]) : halfC c d e := by
  unfold halfS at h
  injection h with hc h
  injection h with hd h
  injection h with he h
  have e1 := congrArg UInt8.toNat hc
  have e2 := congrArg UInt8.toNat hd
  have e3 := congrArg UInt8.toNat he
  rw [toU8] at e1 e2 e3
  refine ⟨u8_eq ?_, ?_, ?_, ?_, ?_⟩
  · rw [← e1, show (237 : UInt8).toNat = 237 from rfl]; omega
  all_goals omega
end Go.Proofs.YthficamlgngaaaaGreatDoor
namespace Go.Proofs.YthficamlgngaaaaGreatDoor
end Go.Proofs.YthficamlgngaaaaGreatDoor
namespace Go.Proofs.YthficamlgngaaaaGreatDoor
open Go Go.RowKit

theorem Tryz.infoByte : (Tryz.prog.info? 5).map (fun i => (i.zero, i.size, i.bytes)) = some (some (.int .u8 0), 1, 1) := by kernel_rfl
theorem own_ge {w : World} {B e sz n : Nat} {v : Value} {xs : List Value} (h : w.ownsRow B e sz v n xs) : ∀ k, v.ownBlock = some k → B ≤ k := by
  intro k hk
  rcases h.2 with ⟨rfl, _⟩ | ⟨g, cap, cur, rfl, hg, _⟩
  · simp [Value.ownBlock] at hk
  · simp [Value.ownBlock] at hk
    omega
theorem conv_row {W : World} {B g cap : Nat} {l : List UInt8} (h : W.ownsRow B 5 1 (.slice (some ⟨g, 0, none⟩) l.length cap) l.length (Lib.byteCells l)) :
    (convert 37 9 (.slice (some ⟨g, 0, none⟩) l.length cap)).run Tryz.prog W = .ok (.string ⟨l.toArray⟩) W := by
  refine run_convert_bytes_back (P := Tryz.prog) W 37 9 5 ⟨g, 0, none⟩ cap l Tryz.underlying37 Tryz.underlying5 Tryz.underlying9 ?_
  intro j hj
  rw [Addr.add_lit, Nat.zero_add, h.cellAt j (by omega)]
  simp [Lib.byteCells, hj]
abbrev Bytes (w : World) (B : Nat) (v : Value) (l : List UInt8) : Prop := w.ownsRow B 5 1 v l.length (Lib.byteCells l)
end Go.Proofs.YthficamlgngaaaaGreatDoor
namespace Go.Proofs.YthficamlgngaaaaGreatDoor
open Go Go.RowKit
theorem at_suf0 {s : Bs} {c : UInt8} {r : Bs} (h : (c :: r) <:+ s) : ∀ hh, (ByteArray.mk s.toArray)[s.length - (c :: r).length]'hh = c := by
  obtain ⟨p, rfl⟩ := h
  intro hh
  show (p ++ c :: r).toArray[(p ++ c :: r).length - (c :: r).length] = c
  simp
theorem at_suf1 {s : Bs} {c d : UInt8} {r : Bs} (h : (c :: d :: r) <:+ s) : ∀ hh, (ByteArray.mk s.toArray)[s.length - (c :: d :: r).length + 1]'hh = d := by
  obtain ⟨p, rfl⟩ := h
  intro hh
  show (p ++ c :: d :: r).toArray[(p ++ c :: d :: r).length - (c :: d :: r).length + 1] = d
  simp
end Go.Proofs.YthficamlgngaaaaGreatDoor
namespace Go.Proofs.YthficamlgngaaaaGreatDoor
open Go Go.RowKit

theorem spanR_in (S : Bs) (c : UInt8) (l : Bs) (h : S.contains c = true) : spanR S (c :: l) = spanR S l := by
  conv => lhs; unfold spanR
  rw [if_pos h]
theorem spanR_out (S : Bs) (c : UInt8) (l : Bs) (h : S.contains c = false) : spanR S (c :: l) = c :: l := by
  unfold spanR
  rw [if_neg (by rw [h]; decide)]

set_option maxHeartbeats 2000000 in
theorem xindent_any (s : Bs) (hs : s.length ≤ 4294967280) (w : World) : Calls Tryz.prog 102 #[.string ⟨s.toArray⟩] w fun e w' => e = .returned (.int .i64 ((indS s : Nat) : Int)) ∧ w = w' := by
  have hsz := size_of s
  have hsI : (s.length : Int) ≤ 4294967280 := by omega
  generalize hD : (ByteArray.mk s.toArray) = D at *
  go_enter Tryz.func102, Tryz.ntmps102
  go_wp2
  go_loopw [3] (fun v wr => ∃ l, v = .int .i64 ((s.length - l.length : Nat) : Int) ∧ l <:+ s ∧ spanR [9, 32] l = spanR [9, 32] s ∧ wr = w) (fun v _ => s.length - (RowKit.intOf v).toNat)
  case atStart => exact ⟨s, by simp, List.suffix_refl _, rfl, rfl⟩
  case round =>
    obtain ⟨l, rfl, hsuf, hsp, hwr⟩ := hrel
    subst hwr
    cases l with
    | nil =>
      have HE : Hid (((s.length - ([] : Bs).length : Nat) : Int) = ((indS s : Nat) : Int)) := by
        show _ = _
        unfold indS
        rw [← hsp]
        rfl
      clear hsp hsuf
      go_wp2
      go_ret
      exact ⟨by rw [← HE.out]; rfl, rfl⟩
    | cons c r =>
      have hle : (c :: r).length ≤ s.length := hsuf.length_le
      have g0 := at_suf0 hsuf
      have gX : ∀ hh, (((ByteArray.mk s.toArray)[s.length - (c :: r).length]'hh).toNat : Int) = (c.toNat : Int) := fun hh => by rw [g0 hh]
      rw [hD] at gX
      have b1 : ((s.length - (c :: r).length : Nat) : Int) < (s.length : Int) := by simp only [List.length_cons] at hle ⊢; omega
      have b2 : (0 : Int) ≤ ((s.length - (c :: r).length : Nat) : Int) := by omega
      have b3 : (((s.length - (c :: r).length : Nat) : Int)).toNat = s.length - (c :: r).length := by omega
      have HA : Hid (s.length - (c :: r).length + (c :: r).length = s.length) := by show _ = _; omega
      by_cases hc : [9, 32].contains c = true
      · have HR : Hid (r <:+ s ∧ spanR [9, 32] r = spanR [9, 32] s) := ⟨(List.suffix_cons c r).trans hsuf, by rw [← hsp, spanR_in _ _ _ hc]⟩
        have HN : Hid (((s.length - (c :: r).length : Nat) : Int) + 1 = ((s.length - r.length : Nat) : Int)) := by
          show _ = _
          simp only [List.length_cons] at hle ⊢; omega
        have m3 : ((c.toNat : Int) == 9) = true ∨ (((c.toNat : Int) == 9) = false ∧ ((c.toNat : Int) == 32) = true) := by
          have : c = 9 ∨ c = 32 := by simpa using hc
          rcases this with rfl | rfl <;> decide
        clear hc hsp hsuf hle g0
        generalize hgA : s.length - (c :: r).length = A at *
        clear hgA
        generalize (c.toNat : Int) = X at *
        rcases m3 with m3 | ⟨m3, m4⟩
        all_goals
          go_wp2
          refine ⟨⟨r, congrArg (Value.int .i64) HN.out, HR.out.1, HR.out.2, by trivial⟩, ?_⟩
          have h3 := HA.out
          simp [RowKit.intOf]
          simp at h3
          omega
      · have hc' : [9, 32].contains c = false := Bool.eq_false_iff.2 hc
        have HE : Hid (((s.length - (c :: r).length : Nat) : Int) = ((indS s : Nat) : Int)) := by
          show _ = _
          unfold indS
          rw [← hsp, spanR_out _ _ _ hc']
        have hn : ¬ (c = 9 ∨ c = 32) := by simpa using hc
        have n9 : ¬ c.toNat = 9 := fun e => hn (Or.inl (u8_eq e))
        have n32 : ¬ c.toNat = 32 := fun e => hn (Or.inr (u8_eq e))
        have m3 : ((c.toNat : Int) == 9) = false := beq_eq_false_iff_ne.2 (by omega)
        have m4 : ((c.toNat : Int) == 32) = false := beq_eq_false_iff_ne.2 (by omega)
        clear hc hc' hsp hsuf hle g0 hn n9 n32
        generalize s.length - (c :: r).length = A at *
        generalize (c.toNat : Int) = X at *
        go_wp2
        go_ret
        exact ⟨by rw [← HE.out]; rfl, rfl⟩

/-! ### Lines, read byte by byte -/
def linesC (cur rest : Bs) : List Bs := match split10 (normS rest) with
  | [] => [cur]
  | x :: xs => (cur ++ x) :: xs
theorem linesC_start (s : Bs) : linesC [] s = linesS s := by
  unfold linesC linesS
  cases h : split10 (normS s) with
  | nil => exact absurd h (split10_ne _)
  | cons x xs => simp
theorem linesC_nil (cur : Bs) : linesC cur [] = [cur] := by
  unfold linesC
  simp [normS, split10]
theorem normS_out {c : UInt8} (h : c ≠ 13) (r : Bs) : normS (c :: r) = c :: normS r := by
  cases r with
  | nil => simp [normS, h]
  | cons d r => conv => lhs; unfold normS
                rw [if_neg h]
theorem split10_at (l : Bs) : split10 (10 :: l) = [] :: split10 l := by rw [split10, if_pos rfl]
theorem split10_out {c : UInt8} (h : c ≠ 10) {l x : Bs} {xs : List Bs} (hx : split10 l = x :: xs) : split10 (c :: l) = (c :: x) :: xs := by rw [split10, if_neg h, hx]
theorem linesC_eq {cur l x : Bs} {xs : List Bs} (h : split10 (normS l) = x :: xs) : linesC cur l = (cur ++ x) :: xs := by
  unfold linesC
  rw [h]
theorem linesC_out {cur r : Bs} {c : UInt8} (h1 : c ≠ 10) (h2 : c ≠ 13) : linesC cur (c :: r) = linesC (cur ++ [c]) r := by
  cases h : split10 (normS r) with
  | nil => exact absurd h (split10_ne _)
  | cons x xs =>
    rw [linesC_eq h, linesC_eq (x := c :: x) (xs := xs) (by rw [normS_out h2]; exact split10_out h1 h)]
    simp
theorem linesC_end {cur r : Bs} {l : Bs} (h : normS l = 10 :: normS r) : linesC cur l = cur :: linesC [] r := by
  cases hx : split10 (normS r) with
  | nil => exact absurd hx (split10_ne _)
  | cons x xs =>
    rw [linesC_eq hx, linesC_eq (x := []) (xs := x :: xs) (by rw [h, split10_at, hx])]
    simp
theorem linesC_10 (cur r : Bs) : linesC cur (10 :: r) = cur :: linesC [] r := linesC_end (normS_out (by decide) r)
theorem linesC_1310 (cur r : Bs) : linesC cur (13 :: 10 :: r) = cur :: linesC [] r := linesC_end (by rw [normS, if_pos rfl, if_pos rfl])
theorem linesC_13 {cur r : Bs} (h : ∀ r', r ≠ 10 :: r') : linesC cur (13 :: r) = cur :: linesC [] r := linesC_end (by
  cases r with
  | nil => rfl
  | cons d r => rw [normS, if_pos rfl, if_neg (fun e => h r (by rw [e]))])
/-- The document's byte at a place; 0 behind the end. -/
theorem xat_any (s : Bs) (hs : s.length ≤ 4294967280) (k : Nat) (w : World) : Calls Tryz.prog 66 #[.string ⟨s.toArray⟩, .int .i64 (k : Int)] w fun e w' => e = .returned (.int .u8 ((s.getD k 0).toNat : Int)) ∧ w = w' := by
  have hsz := size_of s
  have hsI : (s.length : Int) ≤ 4294967280 := by omega
  by_cases h : k < s.length
  · have g0 : ∀ hh, (((ByteArray.mk s.toArray)[k]'hh).toNat : Int) = ((s.getD k 0).toNat : Int) := fun hh => by
      have e : (ByteArray.mk s.toArray)[k]'hh = s.getD k 0 := by
        show s.toArray[k] = _
        simp [List.getD, h]
      rw [e]
    have b1 : (k : Int) < (s.length : Int) := by omega
    have b2 : ¬ (s.length : Int) ≤ (k : Int) := by omega
    have b3 := decide_eq_false b2
    generalize (ByteArray.mk s.toArray) = D at *
    generalize ((s.getD k 0).toNat : Int) = X at *
    clear b2 h
    go_enter Tryz.func66, Tryz.ntmps66
    go_wp2
    go_ret
    exact ⟨rfl, rfl⟩
  · have e : ((s.getD k 0).toNat : Int) = 0 := by
      have : s.getD k 0 = 0 := by simp [List.getD, List.getElem?_eq_none (Nat.le_of_not_lt h)]
      rw [this]; rfl
    rw [e]
    have b2 : (s.length : Int) ≤ (k : Int) := by omega
    have b3 := decide_eq_true b2
    generalize (ByteArray.mk s.toArray) = D at *
    clear h e
    go_enter Tryz.func66, Tryz.ntmps66
    go_wp2
    go_ret
    exact ⟨rfl, rfl⟩
end Go.Proofs.YthficamlgngaaaaGreatDoor
