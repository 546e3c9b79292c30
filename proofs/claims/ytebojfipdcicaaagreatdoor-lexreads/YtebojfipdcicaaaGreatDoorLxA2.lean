/- A number in base sixteen, laid digit by digit. -/
import Derived.Test.YtebojfipdcicaaaGreatDoorLxA1
namespace Go.Proofs.YtebojfipdcicaaaGreatDoor
open Go Go.RowKit Go.Lib

theorem ArrS.back {W : World} {A : Nat} {d : Bs} (h : ArrS W A d) :
    (convert 33 9 (.slice (some ⟨A, 65 - d.length, none⟩) d.length d.length)).run Tryz.prog W = .ok (.string ⟨d.toArray⟩) W := by
  obtain ⟨cur, h1, h2, h3⟩ := h.row
  have hl := h.len
  exact run_convert_bytes_back (P := Tryz.prog) W 33 9 5 ⟨A, 65 - d.length, none⟩ d.length d Tryz.underlying33 Tryz.underlying5 Tryz.underlying9 (by
    intro j hj
    have hb : (Lib.byteCells d)[j]? = some (.int .u8 (d[j].toNat : Int)) := by simp [Lib.byteCells, hj]
    rw [← h3, List.getElem?_drop] at hb
    rw [Addr.add_lit]
    unfold World.cell?
    rw [h1]
    simpa using hb)

set_option maxRecDepth 100000 in
set_option maxHeartbeats 4000000 in
theorem fbits_any (n : Nat) (hn : n < 65536) (w : World) (hz : Tz w) : Calls Tryz.prog 109 #[.slice none 0 0, .int .u64 (n : Int), .int .i64 16, .bool false, .bool false] w fun e w' => e = .returned (.tuple #[.slice none 0 0, .string ⟨(hexS n).toArray⟩]) ∧ Below w.heap.size w w' := by
  have P := fun w => pow2_any w
  have Z := fun w h => tz_any w h
  have hnI : (n : Int) < 65536 := by omega
  go_enter Tryz.func109, Tryz.ntmps109
  go_wp2_with (first
    | (go_at_call 120; refine (P _).mono ?_; rintro e w1 ⟨rfl, rfl⟩)
    | (go_at_call 121; refine (Z _ (hz.below ((Below.refl _ w).alloc (Nat.le_refl _) _) (Nat.le_refl _))).mono ?_; rintro e w1 ⟨rfl, rfl⟩)
    | fail)
  have hA0 : ArrS (w.alloc (.cells Tryz.zeroCells134 134)) w.heap.size [] := by
    refine ⟨⟨_, heap_alloc_new _ _, by decide +kernel, ?_⟩, by simp⟩
    have e : Tryz.zeroCells134.toList.length = 65 := by decide +kernel
    exact List.drop_eq_nil_iff.2 (by simp only [List.length_nil]; omega)
  have hB0 : Below w.heap.size w (w.alloc (.cells Tryz.zeroCells134 134)) := (Below.refl _ w).alloc (Nat.le_refl _) _
  generalize (w.alloc (.cells Tryz.zeroCells134 134)) = W0 at *
  go_loopw [1, 13] (fun u i wr => ∃ (m : Nat) (d : Bs), u = .int .u64 (m : Int) ∧ i = .int .i64 ((65 - d.length : Nat) : Int) ∧ m < 65536 ∧ d.length ≤ 3 ∧ 16 ^ d.length * m ≤ n ∧ hexS m ++ d = hexS n ∧ ArrS wr w.heap.size d ∧ Below w.heap.size w wr) (fun u _ _ => (RowKit.intOf u).toNat)
  case atStart => exact ⟨n, [], rfl, rfl, hn, by simp, by simp, by simp, hA0, hB0⟩
  case round =>
    obtain ⟨m, d, rfl, rfl, hm, hd, hpw, hx, hA, hb⟩ := hrel
    clear hA0 hB0
    obtain ⟨v, hc⟩ := hA.cell (65 - d.length - 1) (by omega)
    have hf := hA.free (65 - d.length - 1)
    have hi : ((65 - d.length : Nat) : Int) - 1 = ((65 - d.length - 1 : Nat) : Int) := by omega
    have hi2 : ((65 - d.length - 1 : Nat) : Int) < 65 := by omega
    have hi3 : (0 : Int) ≤ ((65 - d.length - 1 : Nat) : Int) := by omega
    by_cases hge : 16 ≤ m
    · have hgI : (16 : Int) ≤ (m : Int) := by omega
      have hand := and15 m (by omega)
      have hdg := digS_at ⟨m % 16, Nat.mod_lt _ (by decide)⟩
      have hr16 : ((m % 16 : Nat) : Int) < 36 := by omega
      have hr0 : (0 : Int) ≤ ((m % 16 : Nat) : Int) := by omega
      have hput := hA.put (by omega) (hexD (m % 16))
      have HA : Hid (ArrS (wr.setCell ⟨w.heap.size, 65 - d.length - 1, none⟩ (.int .u8 ((hexD (m % 16)).toNat : Int))) w.heap.size (hexD (m % 16) :: d)) := hput
      have HX : Hid (hexS (m / 16) ++ (hexD (m % 16) :: d) = hexS n) := by
        show _ = _
        rw [← hx, hexS_great (show ¬ m < 16 by omega)]
        simp
      have HD : Hid (d.length + 1 ≤ 3) := by
        show _ ≤ _
        rcases Nat.lt_or_ge d.length 3 with h3 | h3
        · exact h3
        · exfalso
          have e : d.length = 3 := by omega
          rw [e] at hpw
          omega
      have HP : Hid (16 ^ (d.length + 1) * (m / 16) ≤ n) := by
        show _ ≤ _
        refine Nat.le_trans ?_ hpw
        rw [Nat.pow_succ, Nat.mul_assoc]
        exact Nat.mul_le_mul_left _ (Nat.mul_div_le m 16)
      have HM : Hid (m / 16 < m) := by show _ < _; omega
      have HM2 : Hid (m / 16 < 65536) := by show _ < _; omega
      have hdiv : (m : Int) / 16 = ((m / 16 : Nat) : Int) := by omega
      have HI : Hid (65 - d.length - 1 = 65 - (hexD (m % 16) :: d).length) := by show _ = _; simp; omega
      have hdg' : ∀ hh, (ByteArray.mk #[48, 49, 50, 51, 52, 53, 54, 55, 56, 57, 97, 98, 99, 100, 101, 102, 103, 104, 105, 106, 107, 108, 109, 110, 111, 112, 113, 114, 115, 116, 117, 118, 119, 120, 121, 122])[m % 16]'hh = hexD (m % 16) := fun _ => hdg
      dsimp only at hdg'
      clear hput hx hpw hd hge hdg
      generalize hq : m % 16 = q at *
      generalize m / 16 = m2 at *
      generalize hexD q = c at *
      generalize hk : 65 - d.length = k at *
      clear hq
      go_wp2
      refine ⟨⟨m2, c :: d, rfl, by rw [HI.out], HM2.out, HD.out, HP.out, HX.out, HA.out, hb.setCell (p := ⟨w.heap.size, k - 1, none⟩) (Nat.le_refl _) _⟩, ?_⟩
      have := HM.out
      simp [RowKit.intOf]
      omega
    · have hgI : ¬ (16 : Int) ≤ (m : Int) := by omega
      have hdg := digS_at ⟨m, by omega⟩
      have hr16 : (m : Int) < 36 := by omega
      have hput := hA.put (by omega) (hexD m)
      have hback := hput.back
      have HX : Hid (hexD m :: d = hexS n) := by
        show _ = _
        rw [← hx, hexS_small (by omega)]
        rfl
      have hdg' : ∀ hh, (ByteArray.mk #[48, 49, 50, 51, 52, 53, 54, 55, 56, 57, 97, 98, 99, 100, 101, 102, 103, 104, 105, 106, 107, 108, 109, 110, 111, 112, 113, 114, 115, 116, 117, 118, 119, 120, 121, 122])[m]'hh = hexD m := fun _ => hdg
      dsimp only at hdg'
      have e1 : 65 - (hexD m :: d).length = 65 - d.length - 1 := by simp; omega
      have e2 : (hexD m :: d).length = 65 - (65 - d.length - 1) := by simp; omega
      rw [e1, e2] at hback
      have hi4 : 65 - ((65 - d.length - 1 : Nat) : Int) = ((65 - (65 - d.length - 1) : Nat) : Int) := by omega
      have hne : ¬ (65 - (65 - d.length - 1) = 0) := by omega
      clear hput hx hpw hdg e1 e2
      generalize hexD m = c at *
      generalize hT : (c :: d).toArray = T at *
      have HT : Hid ((c :: d).toArray = T) := hT
      clear hT
      have hk1 : 65 - d.length - 1 ≤ 64 := by omega
      have hk2 : 61 ≤ 65 - d.length - 1 := by omega
      generalize 65 - d.length = k at *
      generalize k - 1 = j at *
      have hal : Tryz.prog.arrayLen 134 = 65 := by simp [Program.arrayLen, Tryz.underlying134]
      have hsl : ∀ W, (Instr.sliceAt 134 (.pointer (some ⟨w.heap.size, 0, none⟩)) (some (.int .i64 (j : Int))) none none).run Tryz.prog W = .ok (.slice (some ⟨w.heap.size, j, none⟩) (65 - j) (65 - j)) W := fun W => by
        have hj : ¬ 65 = j := by omega
        rw [run_sliceAt_array_l W 134 ⟨w.heap.size, 0, none⟩ (by simp [Program.arrayLen, Program.elem, Tryz.underlying134]) .i64 (j : Int) (by omega) (by rw [hal]; omega), hal]
        have he : Tryz.prog.elem 134 = 5 := by simp [Program.elem, Tryz.underlying134]
        rw [he]
        simp [go_sem, slicedAt, hj, Addr.add]
        omega
      clear hal
      go_wp2
      go_ret2
      rw [← HX.out]
      exact ⟨by rw [HT.out]; rfl, hb.setCell (p := ⟨w.heap.size, j, none⟩) (Nat.le_refl _) _⟩

set_option maxRecDepth 100000 in
theorem ifmt_any (n : Nat) (hn : n < 65536) (w : World) (hz : Tz w) : Calls Tryz.prog 93 #[.int .i64 (n : Int), .int .i64 16] w fun e w' => e = .returned (.string ⟨(hexS n).toArray⟩) ∧ Below w.heap.size w w' := by
  have F := fbits_any n hn w hz
  have h0 : (0 : Int) ≤ (n : Int) := by omega
  have h1 : (n : Int) < 65536 := by omega
  have h2 : decide ((n : Int) < 0) = false := by simp
  clear hn
  generalize (n : Int) = X at *
  go_enter Tryz.func93, Tryz.ntmps93
  go_wp2_with (go_at_call 109; refine F.mono ?_; rintro e w1 ⟨rfl, hb1⟩)
  go_ret
  exact ⟨rfl, hb1⟩
theorem sfmt_any (n : Nat) (hn : n < 65536) (w : World) (hz : Tz w) : Calls Tryz.prog 75 #[.int .i64 (n : Int), .int .i64 16] w fun e w' => e = .returned (.string ⟨(hexS n).toArray⟩) ∧ Below w.heap.size w w' := by
  have F := ifmt_any n hn w hz
  generalize (n : Int) = X at *
  go_enter Tryz.func75, Tryz.ntmps75
  go_wp2_with (go_at_call 93; refine F.mono ?_; rintro e w1 ⟨rfl, hb1⟩)
  go_ret
  exact ⟨rfl, hb1⟩
theorem hexS_cases (n : Nat) (hn : n < 65536) : (hexS n).length ≤ 4 ∧ 1 ≤ (hexS n).length ∧ escQ n = [92, 117] ++ (List.replicate (4 - (hexS n).length) 48 ++ hexS n) := by
  have z : hexD 0 = 48 := by decide
  unfold escQ
  by_cases h1 : n < 16
  · rw [hexS_small h1]
    refine ⟨by simp, by simp, ?_⟩
    rw [show n / 4096 = 0 by omega, show n / 256 % 16 = 0 by omega, show n / 16 % 16 = 0 by omega, show n % 16 = n by omega, z]
    rfl
  · rw [hexS_great h1]
    by_cases h2 : n / 16 < 16
    · rw [hexS_small h2]
      refine ⟨by simp, by simp, ?_⟩
      rw [show n / 4096 = 0 by omega, show n / 256 % 16 = 0 by omega, show n / 16 % 16 = n / 16 by omega, z]
      rfl
    · rw [hexS_great h2]
      by_cases h3 : n / 16 / 16 < 16
      · rw [hexS_small h3]
        refine ⟨by simp, by simp, ?_⟩
        rw [show n / 4096 = 0 by omega, show n / 256 % 16 = n / 16 / 16 by omega, z]
        rfl
      · rw [hexS_great h3, hexS_small (by omega)]
        refine ⟨by simp, by simp, ?_⟩
        rw [show n / 4096 = n / 16 / 16 / 16 by omega, show n / 256 % 16 = n / 16 / 16 % 16 by omega]
        rfl
theorem escaped_any (n : Nat) (hn : n < 65536) (w : World) (hz : Tz w) : Calls Tryz.prog 55 #[.int .i64 (n : Int)] w fun e w' => e = .returned (.string ⟨(escQ n).toArray⟩) ∧ Below w.heap.size w w' := by
  have F := sfmt_any n hn w hz
  obtain ⟨h4, h1, hq⟩ := hexS_cases n hn
  have hsz := size_of (hexS n)
  have hcut : (ByteArray.mk #[48, 48, 48, 48]).extract (hexS n).length 4 = ⟨(List.replicate (4 - (hexS n).length) 48).toArray⟩ := by
    rcases (by omega : (hexS n).length = 1 ∨ (hexS n).length = 2 ∨ (hexS n).length = 3 ∨ (hexS n).length = 4) with h | h | h | h <;> rw [h] <;> decide
  have hI : ((hexS n).length : Int) ≤ 4 := by omega
  have hlt := hn
  rw [hq]
  have HQ : Hid ((ByteArray.mk #[92, 117] ++ ⟨(List.replicate (4 - (hexS n).length) 48).toArray⟩) ++ ⟨(hexS n).toArray⟩ = ⟨([92, 117] ++ (List.replicate (4 - (hexS n).length) 48 ++ hexS n)).toArray⟩) := by
    show _ = _
    apply ByteArray.ext; apply Array.toList_inj.1; simp
  generalize ([92, 117] ++ (List.replicate (4 - (hexS n).length) 48 ++ hexS n)).toArray = T at *
  have hZ : (List.replicate (4 - (hexS n).length) (48 : UInt8)).toArray.size ≤ 4 := by simp
  generalize (List.replicate (4 - (hexS n).length) (48 : UInt8)).toArray = Z at *
  generalize (ByteArray.mk (hexS n).toArray) = H at *
  generalize (hexS n).length = k at *
  have h0 : (0 : Int) ≤ (n : Int) := by omega
  have h9 : (n : Int) < 65536 := by omega
  have z1 : ¬ 9223372036854775807 < 2 + Z.size := by omega
  have z2 : ¬ 9223372036854775807 < 2 + Z.size + k := by omega
  clear hn hlt hq
  generalize (n : Int) = X at *
  go_enter Tryz.func55, Tryz.ntmps55
  go_wp2_with (go_at_call 75; refine F.mono ?_; rintro e w1 ⟨rfl, hb1⟩)
  go_ret
  refine ⟨?_, hb1⟩
  rw [← HQ.out]
  rfl
end Go.Proofs.YtebojfipdcicaaaGreatDoor
