/- Digits of base sixteen. -/
import Derived.Test.YtlabcadpkdgjnaaGreatDoorLxE
import Derived.Lib.ConvBytes
namespace Go.Proofs.YtlabcadpkdgjnaaGreatDoor
open Go Go.RowKit

def hexF : Bs → Nat → Option Nat
  | [], a => some a
  | c :: l, a => (hexV c).bind fun d => hexF l (a * 16 + d)
theorem lower_all : ∀ n : Fin 256, (97 ≤ n.val ∧ n.val ≤ 122 → bits .or .u8 (n.val : Int) 32 = (n.val : Int)) ∧ (65 ≤ n.val ∧ n.val ≤ 90 → bits .or .u8 (n.val : Int) 32 = (n.val : Int) + 32) ∧ (¬ (65 ≤ n.val ∧ n.val ≤ 90) → ¬ (97 ≤ n.val ∧ n.val ≤ 122) → bits .or .u8 (n.val : Int) 32 < 97 ∨ 122 < bits .or .u8 (n.val : Int) 32) := by decide +kernel
theorem bytes_below (w : World) (e : TypeId) (s : ByteArray) : Below w.heap.size w (Lib.bytesWorld w e s) :=
  ⟨rfl, rfl, rfl, by rw [Lib.bytesWorld_size]; omega, fun b hb => Lib.bytesWorld_at_old w e s b hb⟩
/-- What the parsing of a row comes to. -/
def UintP (w : World) (r : Option Nat) (e : Ending) (w' : World) : Prop := (match r with
    | some v => e = .returned (.tuple #[.int .u64 (v : Int), .nilIface])
    | none => e = .returned (.tuple #[.int .u64 0, .iface 178 (.int .i64 2)])) ∧ Below w.heap.size w w'

set_option maxRecDepth 100000 in
set_option maxHeartbeats 4000000 in
theorem iuint_any (c0 : UInt8) (L0 : Bs) (hL : L0.length ≤ 3) (w : World) : Calls Tryz.prog 152 #[.string ⟨(c0 :: L0).toArray⟩, .int .i64 16, .int .i64 64] w (UintP w (hexF (c0 :: L0) 0)) := by
  have hne : (ByteArray.mk (c0 :: L0).toArray).toList.isEmpty = false := by
    rw [ByteArray.toList_eq]; rfl
  have hsz : (ByteArray.mk (c0 :: L0).toArray).size = (c0 :: L0).length := rfl
  generalize hLL : c0 :: L0 = L at *
  have hL4 : L.length ≤ 4 := by rw [← hLL]; simp; omega
  clear hLL hL
  have hcv := fun W : World => Lib.run_convert_string_bytes (P := Tryz.prog) W 9 40 5 ⟨L.toArray⟩ Tryz.underlying9 Tryz.underlying40 Tryz.underlying5
  have hmx : IntKind.u64.wrap (IntKind.u64.wrap 18446744073709551616 - 1) = 18446744073709551615 := by decide
  have hcell := fun j (hj : j < L.length) => Lib.bytesWorld_cell w 5 ⟨L.toArray⟩ j hj
  have hB : Below w.heap.size w (Lib.bytesWorld w 5 ⟨L.toArray⟩) := bytes_below w _ _
  have hcell2 : ∀ j (hj : j < L.length), (Lib.bytesWorld w 5 ⟨L.toArray⟩).cell? ⟨w.heap.size, j, none⟩ = some (.int .u8 ((L[j]).toNat : Int)) := fun j hj => by
    rw [hcell j hj, List.getD_eq_getElem?_getD, List.getElem?_eq_getElem hj]
    rfl
  clear hcell
  generalize hD : ByteArray.mk L.toArray = D at *
  clear hD
  go_enter Tryz.func152, Tryz.ntmps152
  go_wp2
  generalize Lib.bytesWorld w 5 D = W0 at *
  go_loopw [12, 13, 101] (fun u n i wr => ∃ (j : Nat) (a : Nat), j ≤ L.length ∧ a < 16 ^ j ∧ hexF (L.drop j) a = hexF L 0 ∧ u = .bool false ∧ i = .int .i64 j ∧ n = .int .u64 ((a : Nat) : Int) ∧ wr = W0) (fun _ _ i _ => L.length - (intOf i).toNat)
  case atStart => exact ⟨0, 0, Nat.zero_le _, by decide, rfl, rfl, rfl, rfl, rfl⟩
  case round =>
    obtain ⟨j, a, hj, ha, hx, rfl, rfl, rfl, rfl⟩ := hrel
    have hAJ : 16 ^ j ≤ 16 ^ 4 := Nat.pow_le_pow_right (by decide) (by omega)
    have ha4 : a ≤ 65535 := by omega
    by_cases hlt : j < L.length
    · have hcj := hcell2 j hlt
      have hjI : (j : Int) < (L.length : Int) := by omega
      have hdrop : L.drop j = L[j] :: L.drop (j + 1) := List.drop_eq_getElem_cons hlt
      have HX : Hid ((hexV L[j]).bind (fun d => hexF (L.drop (j + 1)) (a * 16 + d)) = hexF L 0) := by
        show _ = _
        rw [← hx, hdrop]; rfl
      have HA : Hid (a < 16 ^ j) := ha
      have HJ : Hid (j < L.length) := hlt
      have hlt8 := (L[j]).toNat_lt
      obtain ⟨l1, l2, l3⟩ := lower_all ⟨(L[j]).toNat, hlt8⟩
      have LW := fun w => Tryz.internal_strconv_lower ((L[j]).toNat : Int) w
      clear hx hdrop hcell2 ha hAJ
      generalize L[j] = c at *
      clear hlt
      simp only at l1 l2 l3
      have h16 : 16 ^ (j + 1) = 16 ^ j * 16 := Nat.pow_succ 16 j
      have HP : Hid (16 ^ (j + 1) = 16 ^ j * 16) := h16
      clear h16
      by_cases k1 : 48 ≤ c.toNat ∧ c.toNat ≤ 57
      · have HV : Hid (hexV c = some (c.toNat - 48)) := by show hexV c = _; unfold hexV; rw [if_pos k1]
        have y1 : (48 : Int) ≤ c.toNat := by omega
        have y2 : (c.toNat : Int) ≤ 57 := by omega
        have y3 : ((c.toNat : Int) == 95) = false := by rw [beq_eq_false_iff_ne]; omega
        have HS2 : Hid (((a * 16 + (c.toNat - 48) : Nat) : Int) = (a : Int) * 16 + ((c.toNat : Int) - 48)) := by show _ = _; omega
        have HS3 : Hid (c.toNat - 48 < 16) := by show _ < _; omega
        have hn : (a : Int) ≤ 65535 := by omega
        have hn0 : (0 : Int) ≤ a := by omega
        clear k1 l1 l2 l3 hlt8 ha4
        have HC : Hid (hexF (L.drop (j + 1)) (a * 16 + (c.toNat - 48)) = hexF L 0) := by
          have := HX.out
          rw [HV.out] at this
          exact this
        generalize c.toNat - 48 = d at *
        generalize (c.toNat : Int) = X at *
        have HM : Hid ((a : Int) = (a : Int)) := rfl
        obtain ⟨M, hM⟩ : ∃ M : Int, (a : Int) = M := ⟨_, rfl⟩
        have HMM : Hid ((a : Int) = M) := hM
        rw [hM] at hn hn0 HS2 ⊢
        clear hM HX HV LW HM
        go_wp2
        refine ⟨⟨j + 1, a * 16 + d, by have := HJ.out; omega, ?_, HC.out, rfl, by go_num, ?_, trivial⟩, ?_⟩
        · rw [HP.out]; have := HA.out; have := HS3.out; omega
        · rw [HS2.out]
        · have := HJ.out; simp [intOf]; omega
      · by_cases k2 : 97 ≤ c.toNat ∧ c.toNat ≤ 102
        · have HV : Hid (hexV c = some (c.toNat - 87)) := by show hexV c = _; unfold hexV; rw [if_neg k1, if_pos k2]
          rw [l1 (by omega)] at LW
          have y1 : (97 : Int) ≤ c.toNat := by omega
          have y2 : (c.toNat : Int) ≤ 102 := by omega
          have y3 : ((c.toNat : Int) == 95) = false := by rw [beq_eq_false_iff_ne]; omega
          have HS2 : Hid (((a * 16 + (c.toNat - 87) : Nat) : Int) = (a : Int) * 16 + ((c.toNat : Int) - 87)) := by show _ = _; omega
          have HS3 : Hid (c.toNat - 87 < 16) := by show _ < _; omega
          have hn : (a : Int) ≤ 65535 := by omega
          have hn0 : (0 : Int) ≤ a := by omega
          clear k1 k2 l1 l2 l3 hlt8 ha4
          have HC : Hid (hexF (L.drop (j + 1)) (a * 16 + (c.toNat - 87)) = hexF L 0) := by
            have := HX.out
            rw [HV.out] at this
            exact this
          generalize c.toNat - 87 = d at *
          generalize (c.toNat : Int) = X at *
          obtain ⟨M, hM⟩ : ∃ M : Int, (a : Int) = M := ⟨_, rfl⟩
          rw [hM] at hn hn0 HS2 ⊢
          clear hM HX HV
          have y4 : ¬ X ≤ 57 := by omega
          have y5 : (48 : Int) ≤ X := by omega
          have y6 : X ≤ 122 := by omega
          go_wp2_with (go_at_call 161; refine (LW _).mono ?_; rintro e w1 ⟨rfl, rfl⟩)
          refine ⟨⟨j + 1, a * 16 + d, by have := HJ.out; omega, ?_, HC.out, rfl, by go_num, ?_, trivial⟩, ?_⟩
          · rw [HP.out]; have := HA.out; have := HS3.out; omega
          · rw [HS2.out]
            have e : X - 97 + 10 = X - 87 := by omega
            rw [e]
          · have := HJ.out; simp [intOf]; omega
        · by_cases k3 : 65 ≤ c.toNat ∧ c.toNat ≤ 70
          · have HV : Hid (hexV c = some (c.toNat - 55)) := by show hexV c = _; unfold hexV; rw [if_neg k1, if_neg k2, if_pos k3]
            rw [l2 (by omega)] at LW
            have y1 : (65 : Int) ≤ c.toNat := by omega
            have y2 : (c.toNat : Int) ≤ 70 := by omega
            have y3 : ((c.toNat : Int) == 95) = false := by rw [beq_eq_false_iff_ne]; omega
            have HS2 : Hid (((a * 16 + (c.toNat - 55) : Nat) : Int) = (a : Int) * 16 + ((c.toNat : Int) - 55)) := by show _ = _; omega
            have HS3 : Hid (c.toNat - 55 < 16) := by show _ < _; omega
            have hn : (a : Int) ≤ 65535 := by omega
            have hn0 : (0 : Int) ≤ a := by omega
            clear k1 k2 k3 l1 l2 l3 hlt8 ha4
            have HC : Hid (hexF (L.drop (j + 1)) (a * 16 + (c.toNat - 55)) = hexF L 0) := by
              have := HX.out
              rw [HV.out] at this
              exact this
            generalize c.toNat - 55 = d at *
            generalize (c.toNat : Int) = X at *
            obtain ⟨M, hM⟩ : ∃ M : Int, (a : Int) = M := ⟨_, rfl⟩
            rw [hM] at hn hn0 HS2 ⊢
            clear hM HX HV
            have y4 : ¬ X ≤ 57 := by omega
            have y5 : (48 : Int) ≤ X := by omega
            have y6 : (97 : Int) ≤ X + 32 := by omega
            have y7 : X + 32 ≤ 122 := by omega
            go_wp2_with (go_at_call 161; refine (LW _).mono ?_; rintro e w1 ⟨rfl, rfl⟩)
            refine ⟨⟨j + 1, a * 16 + d, by have := HJ.out; omega, ?_, HC.out, rfl, by go_num, ?_, trivial⟩, ?_⟩
            · rw [HP.out]; have := HA.out; have := HS3.out; omega
            · rw [HS2.out]
              have e : X + 32 - 97 + 10 = X - 55 := by omega
              rw [e]
            · have := HJ.out; simp [intOf]; omega
          · have HN : Hid (hexF L 0 = none) := by
              show hexF L 0 = none
              rw [← HX.out, show hexV c = none by unfold hexV; rw [if_neg k1, if_neg k2, if_neg k3]]
              rfl
            have y3 : ((c.toNat : Int) == 95) = false ∨ ((c.toNat : Int) == 95) = true := by
              cases h : ((c.toNat : Int) == 95) <;> simp
            have y0 : (0 : Int) ≤ c.toNat := by omega
            have y8 : (c.toNat : Int) ≤ 255 := by omega
            by_cases k4 : (65 ≤ c.toNat ∧ c.toNat ≤ 90) ∨ (97 ≤ c.toNat ∧ c.toNat ≤ 122)
            · have LY : ∃ Y : Int, 103 ≤ Y ∧ Y ≤ 122 ∧ bits .or .u8 (c.toNat : Int) 32 = Y := by
                rcases k4 with k4 | k4
                · exact ⟨_, by omega, by omega, l2 k4⟩
                · exact ⟨_, by omega, by omega, l1 k4⟩
              obtain ⟨Y, hY1, hY2, hY3⟩ := LY
              rw [hY3] at LW
              have z1 : decide (48 ≤ (c.toNat : Int)) = true ∨ decide (48 ≤ (c.toNat : Int)) = false := by cases decide (48 ≤ (c.toNat : Int)) <;> simp
              have z2 : ¬ ((c.toNat : Int) ≤ 57) := by omega
              have z3 : (48 : Int) ≤ c.toNat := by omega
              have z4 : (97 : Int) ≤ Y := by omega
              have z5 : (16 : Int) ≤ Y - 97 + 10 := by omega
              clear k1 k2 k3 k4 l1 l2 l3 hlt8 ha4 hY3 HX z1
              generalize (c.toNat : Int) = X at *
              rcases y3 with y3 | y3
              all_goals
                go_wp2_with (go_at_call 161; refine (LW _).mono ?_; rintro e w1 ⟨rfl, rfl⟩)
                go_ret2
                refine ⟨?_, hB⟩
                rw [HN.out]
                rfl
            · have l4 := l3 (fun h => k4 (Or.inl h)) (fun h => k4 (Or.inr h))
              obtain ⟨Y, hY⟩ : ∃ Y, bits .or .u8 (c.toNat : Int) 32 = Y := ⟨_, rfl⟩
              rw [hY] at LW l4
              by_cases z3 : (48 : Int) ≤ c.toNat
              · have z2 : ¬ ((c.toNat : Int) ≤ 57) := by omega
                by_cases z4 : (97 : Int) ≤ Y
                all_goals
                  have z5 : Y < 97 ∨ 122 < Y := l4
                  clear k1 k2 k3 k4 l1 l2 l3 l4 hlt8 ha4 hY HX
                  generalize (c.toNat : Int) = X at *
                · have z6 : ¬ Y ≤ 122 := by omega
                  clear z5
                  rcases y3 with y3 | y3
                  all_goals
                    go_wp2_with (go_at_call 161; refine (LW _).mono ?_; rintro e w1 ⟨rfl, rfl⟩)
                    go_ret2
                    refine ⟨?_, hB⟩
                    rw [HN.out]
                    rfl
                · clear z5
                  rcases y3 with y3 | y3
                  all_goals
                    go_wp2_with (go_at_call 161; refine (LW _).mono ?_; rintro e w1 ⟨rfl, rfl⟩)
                    go_ret2
                    refine ⟨?_, hB⟩
                    rw [HN.out]
                    rfl
              · have z6 : ¬ (97 : Int) ≤ Y := by
                  have : ∀ n : Fin 256, n.val < 48 → bits .or .u8 (n.val : Int) 32 < 97 := by decide +kernel
                  have := this ⟨c.toNat, hlt8⟩ (by simp only; omega)
                  simp only at this
                  omega
                clear k1 k2 k3 k4 l1 l2 l3 l4 hlt8 ha4 hY HX
                generalize (c.toNat : Int) = X at *
                rcases y3 with y3 | y3
                all_goals
                  go_wp2_with (go_at_call 161; refine (LW _).mono ?_; rintro e w1 ⟨rfl, rfl⟩)
                  go_ret2
                  refine ⟨?_, hB⟩
                  rw [HN.out]
                  rfl
    · have e : j = L.length := by omega
      subst e
      have HX : Hid (some a = hexF L 0) := by
        show _ = _
        rw [← hx, List.drop_length]; rfl
      clear hx
      go_wp2
      go_ret2
      refine ⟨?_, hB⟩
      rw [← HX.out]
      rfl
end Go.Proofs.YtlabcadpkdgjnaaGreatDoor
