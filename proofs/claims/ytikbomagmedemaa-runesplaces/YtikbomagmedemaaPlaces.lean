/- The line and the column of any place are as the document says: for every string (of at most 2^47 - 4096 bytes: the form's own reach) and every int. -/
import Derived.Test.YtikbomagmedemaaPlMath
import Derived.ProofKit
import Derived.OpenShut
import Derived.ShutString
import Derived.ChangeOld
import Derived.SizedLaws
namespace Go.Proofs.Ytikbomagmedemaa
open Go.ChangeShapes Go.WideShapes Go.ChangeAt Go.RowKit
open Go.ChangeMaps (open_string shut_string)

theorem Try.own : ownKnob Try.prog.godebug = none := by kernel_rfl

set_option maxHeartbeats 1000000 in
theorem rends_any (s : ByteArray) (i : Nat) (w : World) (hs : s.size ≤ 1125899906842624) (hi : i < s.size) :
    Calls Try.prog 34 #[.string s, .int .i64 i] w fun e w' => e = .returned (.bool (endsI s i)) ∧ w' = w := by
  have hb := byte_lt (s[i]'hi)
  have g := get_bang s i hi
  by_cases h13 : (s[i]'hi).toNat = 13
  · have h13' : (((s[i]'hi).toNat : Int) == 13) = true := by rw [h13]; rfl
    by_cases hl : i + 1 < s.size
    · have hl' : ¬ (s.size : Int) ≤ (i : Int) + 1 := by omega
      go_enter Try.func34, Try.ntmps34
      go_wp2
      go_ret
      refine ⟨ret_bool ?_, rfl⟩
      go_light
      unfold endsI
      rw [g, if_pos h13, get_bang s (i + 1) hl, Bool.eq_iff_iff]
      simp
      omega
    · have hl' : (s.size : Int) ≤ (i : Int) + 1 := by omega
      go_enter Try.func34, Try.ntmps34
      go_wp2
      go_ret
      refine ⟨ret_bool ?_, rfl⟩
      go_light
      unfold endsI
      rw [g, if_pos h13, Bool.eq_iff_iff]
      simp
      omega
  · have h13' : (((s[i]'hi).toNat : Int) == 13) = false := by rw [beq_eq_false_iff_ne]; omega
    go_enter Try.func34, Try.ntmps34
    go_wp2
    go_ret
    refine ⟨ret_bool ?_, rfl⟩
    go_light
    unfold endsI
    rw [g, if_neg h13, Bool.eq_iff_iff]
    simp
    omega

theorem stW_err (s : ByteArray) (p : Nat) (h : stC s p = -1) : stW s p = 1 := by
  unfold stC at h
  split at h
  · rename_i e
    unfold stW
    rw [e]
  · omega

set_option maxHeartbeats 8000000 in
theorem rplace_mid (s : ByteArray) (n : Nat) (w : World) (hs : s.size ≤ 1125899906842624) (hn : n ≤ s.size) (h0 : 0 < n) :
    Calls Try.prog 22 #[.string s, .int .i64 n] w fun e w' => e = .returned (.tuple #[.int .i64 (placeS s n).1, .int .i64 (placeS s n).2]) ∧ Below w.heap.size w w' := by
  rw [place_eq s n hn]
  have h1 : ¬ (s.size : Int) < n := by omega
  have h2 : ¬ (n : Int) < 0 := by omega
  have hb := Below.refl w.heap.size w
  go_enter Try.func22, Try.ntmps22
  go_wp2
  go_loopw [6, 7, 8] (fun l b i wr => ∃ j : Nat, j ≤ n ∧ i = .int .i64 j ∧ l = .int .i64 (refLB s j).1 ∧ b = .int .i64 ((refLB s j).2 : Nat) ∧ Below w.heap.size w wr) (fun _ _ i _ => n - (intOf i).toNat)
  case atStart => exact ⟨0, Nat.zero_le _, rfl, rfl, rfl, hb⟩
  case round =>
    obtain ⟨j, hj, rfl, rfl, rfl, hbr⟩ := hrel
    clear hb
    have hbd := refLB_bd s j
    by_cases hlt : j < n
    · have hlt' : (j : Int) < n := by omega
      have E1 := fun w => rends_any s j w hs (by omega)
      have hnx : refLB s (j + 1) = if endsI s j then ((refLB s j).1 + 1, j + 1) else refLB s j := rfl
      have HN : Hid (refLB s (j + 1) = if endsI s j then ((refLB s j).1 + 1, j + 1) else refLB s j) := hnx
      clear hnx
      by_cases he : endsI s j = true
      · go_wp2_with (go_at_call 34; with_reducible refine (E1 _).mono ?_; rintro e w1 ⟨rfl, rfl⟩)
        go_roundw
        case rel => exact ⟨j + 1, by omega, by go_num, by rw [HN.out, if_pos he], by rw [HN.out, if_pos he]; go_num, hbr⟩
        case measure => simp [intOf]; omega
      · have he' : endsI s j = false := by simpa using he
        go_wp2_with (go_at_call 34; with_reducible refine (E1 _).mono ?_; rintro e w1 ⟨rfl, rfl⟩)
        go_roundw
        case rel => exact ⟨j + 1, by omega, by go_num, by rw [HN.out, if_neg he], by rw [HN.out, if_neg he], hbr⟩
        case measure => simp [intOf]; omega
    · have e : j = n := by omega
      rw [e] at hbd ⊢
      clear hlt hj e j
      go_wp2
      go_loopw [7, 9] (fun b c wr => ∃ (q : Nat) (x : Int), q ≤ s.size ∧ 1 ≤ x ∧ x ≤ q + 1 ∧ b = .int .i64 q ∧ c = .int .i64 x ∧ colF s n q x = colF s n (refLB s n).2 1 ∧ Below w.heap.size w wr) (fun b _ _ => s.size - (intOf b).toNat)
      case atStart => exact ⟨(refLB s n).2, 1, by omega, by omega, by omega, rfl, rfl, rfl, hbr⟩
      case round =>
        obtain ⟨q, x, hq, hx1, hx2, rfl, rfl, hF, hbr⟩ := hrel
        have HF : Hid (colF s n q x = colF s n (refLB s n).2 1) := hF
        clear hF
        by_cases hlt : q < n
        · have hqs : q < s.size := by omega
          have hlt' : (q : Int) < n := by omega
          have hw := dec_w s q hqs
          have R1 := fun w => rrune_in s q w hs hqs
          obtain ⟨W, hW⟩ : ∃ W, W = stW s q := ⟨_, rfl⟩
          have HW : Hid (W = stW s q) := hW
          rw [← hW] at hw
          by_cases hc : stC s q = -1
          · have e1 : runeS s q = (0, 0) := if_pos hc
            have hW1 : W = 1 := hW.trans (stW_err s q hc)
            rw [e1] at R1
            clear e1 hW
            have HN : Hid (colF s n (q + 1) (x + 1) = colF s n (refLB s n).2 1) := by
              have h := colF_step s n q x hqs (by rw [← HW.out]; omega)
              rw [← HW.out, hW1] at h
              exact h.symm.trans HF.out
            clear HF HW
            subst hW1
            go_wp2_with (go_at_call 10; with_reducible refine (R1 _).mono ?_; rintro e w1 ⟨rfl, hb1⟩; have hbr2 := hbr.trans (hb1.mono hbr.size); clear hb1)
            go_roundw
            case rel => exact ⟨q + 1, x + 1, by omega, by omega, by omega, by go_num, rfl, HN.out, hbr2⟩
            case measure => simp [intOf]; omega
          · have e1 : runeS s q = (stC s q, ((W : Nat) : Int)) := by rw [hW]; exact if_neg hc
            rw [e1] at R1
            clear e1 hW
            by_cases hW1 : W = 1
            · have HN : Hid (colF s n (q + 1) (x + 1) = colF s n (refLB s n).2 1) := by
                have h := colF_step s n q x hqs (by rw [← HW.out]; omega)
                rw [← HW.out, hW1] at h
                exact h.symm.trans HF.out
              clear HF HW
              subst hW1
              go_wp2_with (go_at_call 10; with_reducible refine (R1 _).mono ?_; rintro e w1 ⟨rfl, hb1⟩; have hbr2 := hbr.trans (hb1.mono hbr.size); clear hb1)
              go_roundw
              case rel => exact ⟨q + 1, x + 1, by omega, by omega, by omega, by go_num, rfl, HN.out, hbr2⟩
              case measure => simp [intOf]; omega
            · have hW2 : 1 < W := by omega
              have hW2' : 1 < (W : Int) := by omega
              by_cases hle : q + W ≤ n
              · have HN : Hid (colF s n (q + W) (x + 1) = colF s n (refLB s n).2 1) := by
                  have h := colF_step s n q x hqs (by rw [← HW.out]; omega)
                  rw [← HW.out] at h
                  exact h.symm.trans HF.out
                clear HF HW
                have hle' : (q : Int) + W ≤ n := by omega
                go_wp2_with (go_at_call 10; with_reducible refine (R1 _).mono ?_; rintro e w1 ⟨rfl, hb1⟩; have hbr2 := hbr.trans (hb1.mono hbr.size); clear hb1)
                go_roundw
                case rel => exact ⟨q + W, x + 1, by omega, by omega, by omega, by go_num, rfl, HN.out, hbr2⟩
                case measure => simp [intOf]; omega
              · have HN : Hid (colF s n (q + W) x = colF s n (refLB s n).2 1) := by
                  have h := colF_stop s n q x (Or.inr (by rw [← HW.out]; omega))
                  have h2 := colF_stop s n (q + W) x (Or.inr (by omega))
                  exact (h2.trans h.symm).trans HF.out
                clear HF HW
                have hle' : ¬ (q : Int) + W ≤ n := by omega
                go_wp2_with (go_at_call 10; with_reducible refine (R1 _).mono ?_; rintro e w1 ⟨rfl, hb1⟩; have hbr2 := hbr.trans (hb1.mono hbr.size); clear hb1)
                go_roundw
                case rel => exact ⟨q + W, x, by omega, by omega, by omega, by go_num, rfl, HN.out, hbr2⟩
                case measure => simp [intOf]; omega
        · have hE : colF s n (refLB s n).2 1 = x := by
            rw [← HF.out]
            refine colF_stop s n q x ?_
            by_cases hqs : q < s.size
            · have := dec_w s q hqs
              exact Or.inr (by omega)
            · exact Or.inl hqs
          have hlt' : ¬ (q : Int) < n := by omega
          clear HF
          go_wp2
          go_ret2
          exact ⟨by first | (rw [hE] <;> rfl) | rfl, hbr⟩

set_option maxHeartbeats 8000000 in
theorem rplace_big (s : ByteArray) (k : Int) (w : World) (hs : s.size ≤ 1125899906842624) (hk : (s.size : Int) < k) (h0 : 0 < s.size) :
    Calls Try.prog 22 #[.string s, .int .i64 k] w fun e w' => e = .returned (.tuple #[.int .i64 (placeS s s.size).1, .int .i64 (placeS s s.size).2]) ∧ Below w.heap.size w w' := by
  rw [place_eq s s.size (Nat.le_refl _)]
  have hb := Below.refl w.heap.size w
  go_enter Try.func22, Try.ntmps22
  go_wp2
  go_loopw [6, 7, 8] (fun l b i wr => ∃ j : Nat, j ≤ s.size ∧ i = .int .i64 j ∧ l = .int .i64 (refLB s j).1 ∧ b = .int .i64 ((refLB s j).2 : Nat) ∧ Below w.heap.size w wr) (fun _ _ i _ => s.size - (intOf i).toNat)
  case atStart => exact ⟨0, Nat.zero_le _, rfl, rfl, rfl, hb⟩
  case round =>
    obtain ⟨j, hj, rfl, rfl, rfl, hbr⟩ := hrel
    clear hb
    have hbd := refLB_bd s j
    by_cases hlt : j < s.size
    · have hlt' : (j : Int) < s.size := by omega
      have E1 := fun w => rends_any s j w hs (by omega)
      have hnx : refLB s (j + 1) = if endsI s j then ((refLB s j).1 + 1, j + 1) else refLB s j := rfl
      have HN : Hid (refLB s (j + 1) = if endsI s j then ((refLB s j).1 + 1, j + 1) else refLB s j) := hnx
      clear hnx
      by_cases he : endsI s j = true
      · go_wp2_with (go_at_call 34; with_reducible refine (E1 _).mono ?_; rintro e w1 ⟨rfl, rfl⟩)
        go_roundw
        case rel => exact ⟨j + 1, by omega, by go_num, by rw [HN.out, if_pos he], by rw [HN.out, if_pos he]; go_num, hbr⟩
        case measure => simp [intOf]; omega
      · have he' : endsI s j = false := by simpa using he
        go_wp2_with (go_at_call 34; with_reducible refine (E1 _).mono ?_; rintro e w1 ⟨rfl, rfl⟩)
        go_roundw
        case rel => exact ⟨j + 1, by omega, by go_num, by rw [HN.out, if_neg he], by rw [HN.out, if_neg he], hbr⟩
        case measure => simp [intOf]; omega
    · have e : j = s.size := by omega
      rw [e] at hbd ⊢
      clear hlt hj e j
      go_wp2
      go_loopw [7, 9] (fun b c wr => ∃ (q : Nat) (x : Int), q ≤ s.size ∧ 1 ≤ x ∧ x ≤ q + 1 ∧ b = .int .i64 q ∧ c = .int .i64 x ∧ colF s s.size q x = colF s s.size (refLB s s.size).2 1 ∧ Below w.heap.size w wr) (fun b _ _ => s.size - (intOf b).toNat)
      case atStart => exact ⟨(refLB s s.size).2, 1, by omega, by omega, by omega, rfl, rfl, rfl, hbr⟩
      case round =>
        obtain ⟨q, x, hq, hx1, hx2, rfl, rfl, hF, hbr⟩ := hrel
        have HF : Hid (colF s s.size q x = colF s s.size (refLB s s.size).2 1) := hF
        clear hF
        by_cases hlt : q < s.size
        · have hqs : q < s.size := by omega
          have hlt' : (q : Int) < s.size := by omega
          have hw := dec_w s q hqs
          have R1 := fun w => rrune_in s q w hs hqs
          obtain ⟨W, hW⟩ : ∃ W, W = stW s q := ⟨_, rfl⟩
          have HW : Hid (W = stW s q) := hW
          rw [← hW] at hw
          by_cases hc : stC s q = -1
          · have e1 : runeS s q = (0, 0) := if_pos hc
            have hW1 : W = 1 := hW.trans (stW_err s q hc)
            rw [e1] at R1
            clear e1 hW
            have HN : Hid (colF s s.size (q + 1) (x + 1) = colF s s.size (refLB s s.size).2 1) := by
              have h := colF_step s s.size q x hqs (by rw [← HW.out]; omega)
              rw [← HW.out, hW1] at h
              exact h.symm.trans HF.out
            clear HF HW
            subst hW1
            go_wp2_with (go_at_call 10; with_reducible refine (R1 _).mono ?_; rintro e w1 ⟨rfl, hb1⟩; have hbr2 := hbr.trans (hb1.mono hbr.size); clear hb1)
            go_roundw
            case rel => exact ⟨q + 1, x + 1, by omega, by omega, by omega, by go_num, rfl, HN.out, hbr2⟩
            case measure => simp [intOf]; omega
          · have e1 : runeS s q = (stC s q, ((W : Nat) : Int)) := by rw [hW]; exact if_neg hc
            rw [e1] at R1
            clear e1 hW
            by_cases hW1 : W = 1
            · have HN : Hid (colF s s.size (q + 1) (x + 1) = colF s s.size (refLB s s.size).2 1) := by
                have h := colF_step s s.size q x hqs (by rw [← HW.out]; omega)
                rw [← HW.out, hW1] at h
                exact h.symm.trans HF.out
              clear HF HW
              subst hW1
              go_wp2_with (go_at_call 10; with_reducible refine (R1 _).mono ?_; rintro e w1 ⟨rfl, hb1⟩; have hbr2 := hbr.trans (hb1.mono hbr.size); clear hb1)
              go_roundw
              case rel => exact ⟨q + 1, x + 1, by omega, by omega, by omega, by go_num, rfl, HN.out, hbr2⟩
              case measure => simp [intOf]; omega
            · have hW2 : 1 < W := by omega
              have hW2' : 1 < (W : Int) := by omega
              by_cases hle : q + W ≤ s.size
              · have HN : Hid (colF s s.size (q + W) (x + 1) = colF s s.size (refLB s s.size).2 1) := by
                  have h := colF_step s s.size q x hqs (by rw [← HW.out]; omega)
                  rw [← HW.out] at h
                  exact h.symm.trans HF.out
                clear HF HW
                have hle' : (q : Int) + W ≤ s.size := by omega
                go_wp2_with (go_at_call 10; with_reducible refine (R1 _).mono ?_; rintro e w1 ⟨rfl, hb1⟩; have hbr2 := hbr.trans (hb1.mono hbr.size); clear hb1)
                go_roundw
                case rel => exact ⟨q + W, x + 1, by omega, by omega, by omega, by go_num, rfl, HN.out, hbr2⟩
                case measure => simp [intOf]; omega
              · exfalso
                omega
        · have hE : colF s s.size (refLB s s.size).2 1 = x := by
            rw [← HF.out]
            refine colF_stop s s.size q x ?_
            by_cases hqs : q < s.size
            · have := dec_w s q hqs
              exact Or.inr (by omega)
            · exact Or.inl hqs
          have hlt' : ¬ (q : Int) < s.size := by omega
          clear HF
          go_wp2
          go_ret2
          exact ⟨by first | (rw [hE] <;> rfl) | rfl, hbr⟩

set_option maxHeartbeats 8000000 in
theorem rplace_zero (s : ByteArray) (k : Int) (w : World) (hs : s.size ≤ 1125899906842624) (hk : k < 0 ∨ k = 0 ∨ ((s.size : Int) < k ∧ s.size = 0)) :
    Calls Try.prog 22 #[.string s, .int .i64 k] w fun e w' => e = .returned (.tuple #[.int .i64 (placeS s 0).1, .int .i64 (placeS s 0).2]) ∧ Below w.heap.size w w' := by
  rw [place_eq s 0 (Nat.zero_le _)]
  rcases hk with hk | hk | ⟨hk, hz⟩
  · have hb := Below.refl w.heap.size w
    go_enter Try.func22, Try.ntmps22
    go_wp2
    go_loopw [6, 7, 8] (fun l b i wr => ∃ j : Nat, j ≤ 0 ∧ i = .int .i64 j ∧ l = .int .i64 (refLB s j).1 ∧ b = .int .i64 ((refLB s j).2 : Nat) ∧ Below w.heap.size w wr) (fun _ _ i _ => 0 - (intOf i).toNat)
    case atStart => exact ⟨0, Nat.zero_le _, rfl, rfl, rfl, hb⟩
    case round =>
      obtain ⟨j, hj, rfl, rfl, rfl, hbr⟩ := hrel
      clear hb
      have hbd := refLB_bd s j
      by_cases hlt : j < 0
      · exact absurd hlt (Nat.not_lt_zero _)
      · have e : j = 0 := by omega
        rw [e] at hbd ⊢
        clear hlt hj e j
        go_wp2
        go_loopw [7, 9] (fun b c wr => ∃ (q : Nat) (x : Int), q ≤ s.size ∧ 1 ≤ x ∧ x ≤ q + 1 ∧ b = .int .i64 q ∧ c = .int .i64 x ∧ colF s 0 q x = colF s 0 (refLB s 0).2 1 ∧ Below w.heap.size w wr) (fun b _ _ => s.size - (intOf b).toNat)
        case atStart => exact ⟨(refLB s 0).2, 1, by omega, by omega, by omega, rfl, rfl, rfl, hbr⟩
        case round =>
          obtain ⟨q, x, hq, hx1, hx2, rfl, rfl, hF, hbr⟩ := hrel
          have HF : Hid (colF s 0 q x = colF s 0 (refLB s 0).2 1) := hF
          clear hF
          by_cases hlt : q < 0
          · exact absurd hlt (Nat.not_lt_zero _)
          · have hE : colF s 0 (refLB s 0).2 1 = x := by
              rw [← HF.out]
              refine colF_stop s 0 q x ?_
              by_cases hqs : q < s.size
              · have := dec_w s q hqs
                exact Or.inr (by omega)
              · exact Or.inl hqs
            have hlt' : ¬ (q : Int) < 0 := by omega
            clear HF
            go_wp2
            go_ret2
            exact ⟨by first | (rw [hE] <;> rfl) | rfl, hbr⟩
  · subst hk
    have hb := Below.refl w.heap.size w
    go_enter Try.func22, Try.ntmps22
    go_wp2
    go_loopw [6, 7, 8] (fun l b i wr => ∃ j : Nat, j ≤ 0 ∧ i = .int .i64 j ∧ l = .int .i64 (refLB s j).1 ∧ b = .int .i64 ((refLB s j).2 : Nat) ∧ Below w.heap.size w wr) (fun _ _ i _ => 0 - (intOf i).toNat)
    case atStart => exact ⟨0, Nat.zero_le _, rfl, rfl, rfl, hb⟩
    case round =>
      obtain ⟨j, hj, rfl, rfl, rfl, hbr⟩ := hrel
      clear hb
      have hbd := refLB_bd s j
      by_cases hlt : j < 0
      · exact absurd hlt (Nat.not_lt_zero _)
      · have e : j = 0 := by omega
        rw [e] at hbd ⊢
        clear hlt hj e j
        go_wp2
        go_loopw [7, 9] (fun b c wr => ∃ (q : Nat) (x : Int), q ≤ s.size ∧ 1 ≤ x ∧ x ≤ q + 1 ∧ b = .int .i64 q ∧ c = .int .i64 x ∧ colF s 0 q x = colF s 0 (refLB s 0).2 1 ∧ Below w.heap.size w wr) (fun b _ _ => s.size - (intOf b).toNat)
        case atStart => exact ⟨(refLB s 0).2, 1, by omega, by omega, by omega, rfl, rfl, rfl, hbr⟩
        case round =>
          obtain ⟨q, x, hq, hx1, hx2, rfl, rfl, hF, hbr⟩ := hrel
          have HF : Hid (colF s 0 q x = colF s 0 (refLB s 0).2 1) := hF
          clear hF
          by_cases hlt : q < 0
          · exact absurd hlt (Nat.not_lt_zero _)
          · have hE : colF s 0 (refLB s 0).2 1 = x := by
              rw [← HF.out]
              refine colF_stop s 0 q x ?_
              by_cases hqs : q < s.size
              · have := dec_w s q hqs
                exact Or.inr (by omega)
              · exact Or.inl hqs
            have hlt' : ¬ (q : Int) < 0 := by omega
            clear HF
            go_wp2
            go_ret2
            exact ⟨by first | (rw [hE] <;> rfl) | rfl, hbr⟩
  · have hb := Below.refl w.heap.size w
    go_enter Try.func22, Try.ntmps22
    go_wp2
    go_loopw [6, 7, 8] (fun l b i wr => ∃ j : Nat, j ≤ 0 ∧ i = .int .i64 j ∧ l = .int .i64 (refLB s j).1 ∧ b = .int .i64 ((refLB s j).2 : Nat) ∧ Below w.heap.size w wr) (fun _ _ i _ => 0 - (intOf i).toNat)
    case atStart => exact ⟨0, Nat.zero_le _, rfl, rfl, rfl, hb⟩
    case round =>
      obtain ⟨j, hj, rfl, rfl, rfl, hbr⟩ := hrel
      clear hb
      have hbd := refLB_bd s j
      by_cases hlt : j < 0
      · exact absurd hlt (Nat.not_lt_zero _)
      · have e : j = 0 := by omega
        rw [e] at hbd ⊢
        clear hlt hj e j
        go_wp2
        go_loopw [7, 9] (fun b c wr => ∃ (q : Nat) (x : Int), q ≤ s.size ∧ 1 ≤ x ∧ x ≤ q + 1 ∧ b = .int .i64 q ∧ c = .int .i64 x ∧ colF s 0 q x = colF s 0 (refLB s 0).2 1 ∧ Below w.heap.size w wr) (fun b _ _ => s.size - (intOf b).toNat)
        case atStart => exact ⟨(refLB s 0).2, 1, by omega, by omega, by omega, rfl, rfl, rfl, hbr⟩
        case round =>
          obtain ⟨q, x, hq, hx1, hx2, rfl, rfl, hF, hbr⟩ := hrel
          have HF : Hid (colF s 0 q x = colF s 0 (refLB s 0).2 1) := hF
          clear hF
          by_cases hlt : q < 0
          · exact absurd hlt (Nat.not_lt_zero _)
          · have hE : colF s 0 (refLB s 0).2 1 = x := by
              rw [← HF.out]
              refine colF_stop s 0 q x ?_
              by_cases hqs : q < s.size
              · have := dec_w s q hqs
                exact Or.inr (by omega)
              · exact Or.inl hqs
            have hlt' : ¬ (q : Int) < 0 := by omega
            clear HF
            go_wp2
            go_ret2
            exact ⟨by first | (rw [hE] <;> rfl) | rfl, hbr⟩

theorem rplace_any (s : ByteArray) (k : Int) (w : World) (hs : s.size ≤ 1125899906842624) :
    Calls Try.prog 22 #[.string s, .int .i64 k] w fun e w' => e = .returned (.tuple #[.int .i64 (placeS s (clampP s k)).1, .int .i64 (placeS s (clampP s k)).2]) ∧ Below w.heap.size w w' := by
  obtain ⟨n, hn⟩ : ∃ n, n = clampP s k := ⟨_, rfl⟩
  rw [← hn]
  unfold clampP at hn
  by_cases hz : n = 0
  · rw [hz]
    exact rplace_zero s k w hs (by omega)
  · by_cases hb : (s.size : Int) < k
    · have e : n = s.size := by omega
      rw [e]
      exact rplace_big s k w hs hb (by omega)
    · have e : k = (n : Int) := by omega
      rw [e]
      exact rplace_mid s n w hs (by omega) (by omega)

set_option maxHeartbeats 1000000 in
theorem places_walk (s : ByteArray) (k : Int) (w : World) (hs : s.size ≤ 140737488351232) :
    Calls Try.prog 6 #[.string s, .int .i64 k] w fun e w' => e = .returned (.bool true) ∧ Below w.heap.size w w' := by
  have hb := Below.refl w.heap.size w
  have P1 := fun w => place_any s k w (by omega)
  have P2 := fun w => rplace_any s k w (by omega)
  go_enter Try.func6, Try.ntmps6
  go_wp2_with (first
    | (go_at_call 11; refine (fixed_any _).mono ?_; rintro e w1 ⟨rfl, hb1⟩; have hb := hb.trans (hb1.mono hb.size); clear hb1)
    | (go_at_call 21; with_reducible refine (P1 _).mono ?_; rintro e w1 ⟨rfl, hb1⟩; have hb := hb.trans (hb1.mono hb.size); clear hb1)
    | (go_at_call 22; with_reducible refine (P2 _).mono ?_; rintro e w1 ⟨rfl, hb1⟩; have hb := hb.trans (hb1.mono hb.size); clear hb1))
  go_ret
  exact ⟨rfl, hb⟩

set_option maxRecDepth 100000 in
theorem runesPlaces_lifted (os : Os) (started : os.Started) (H : Type) (enc : TypeId × Value → H) :
    ReturnsInHanded {} Try.checked os 6 .any (Rows.runesPlacesSpec.pre6 enc Try.prog Try.f6 Rows.runesPlacesRow.domain false) (Rows.runesPlacesSpec.post enc Try.prog Try.f6 false true false false) := by
  refine returnsInHanded_of_change_sized (C := Try.checked) Try.own started (by kernel_rfl) Try.func6
    (ChangeSpec.witness6 (enc := enc) (C := Try.checked) false ⟨#[], #[.string ByteArray.empty, .int .i64 0], []⟩ 8 (by kernel_rfl) (by kernel_rfl) (by kernel_rfl) (by kernel_rfl)) ?_
  intro W base args ds gs before hval0 hW _ hsz _
  have hval : ∀ (j : Nat) t v, Try.f6.params[j]? = some t → args[j]? = some v → Value.okWide Try.prog W .any base t v := hval0
  have hW' := hW
  obtain ⟨p, q, hA0, hV, rfl, hfz, hnd⟩ := hW
  have hA : DataW.TrodAll enc Try.prog W 0 (fun _ => true) true Try.f6.params.toList args.toList ds p := hA0
  rw [Try.params6] at hA hval
  obtain ⟨v0, vs0, d0, ds0, p0, q0, hargs, rfl, rfl, h0, r0⟩ := trodAll_cons hA
  obtain ⟨v1, vs1, d1, ds1, p1, q1, rfl, rfl, rfl, h1, r1⟩ := trodAll_cons r0
  obtain ⟨rfl, rfl, rfl⟩ := trodAll_nil r1
  obtain rfl : args = #[v0, v1] := by cases args; simp_all
  obtain ⟨rfl, rfl⟩ := trodVars_none hV
  obtain ⟨a0, rfl, rfl, rfl, w0⟩ := open_string Try.underlying9 (hval 0 9 v0 rfl rfl) h0
  obtain ⟨a1, rfl, rfl, rfl, w1⟩ := open_int Try.underlying3 (hval 1 3 v1 rfl rfl) h1
  have b0 : a0.size ≤ 140737488351232 := by
    have h := sized_string hsz (j := 0) rfl rfl
    have e : a0.data.toList.length = a0.size := by rw [Array.length_toList]; rfl
    rw [e] at h
    exact h
  clear hA0 hval0 hsz
  refine (places_walk a0 a1 W b0).mono fun e W' ⟨he, bel⟩ => ?_
  subst he
  exact ⟨_, rfl, _, _, _, [], _, [], hW', trodAll_mk1 (shut_bool Try.underlying4 _), (trodAll_cons_mk (shut_string Try.underlying9 w0) (trodAll_cons_mk (shut_int Try.underlying3 w1) trodAll_mk0)), rfl, bel.frame _, fun h => by cases h⟩

theorem runesPlaces_holds : Rows.RunesPlacesSaid :=
  OpenClaim.holds_of_wide 6 Try.f6 rfl rfl rfl rfl rfl rfl rfl ⟨rfl, rfl, rfl, rfl, rfl⟩ rfl rfl rfl rfl rfl (by kernel_rfl) Try.func6 (by kernel_rfl)
    (of_decide_eq_true (by kernel_rfl)) (by unfold Func.isWrapper; first | (rw [if_pos (by decide +kernel)]; kernel_rfl) | (rw [if_neg (by decide +kernel)]; exact ⟨rfl, rfl⟩))
    (fun os started H enc _ => runesPlaces_lifted os started H enc)
#print axioms runesPlaces_holds

end Go.Proofs.Ytikbomagmedemaa
