/- Numbers of neighbouring keys are neighbours. -/
import Derived.Test.YtbemidnhljjfnaaGreatDoorLaws4b
namespace Go.Proofs.YtbemidnhljjfnaaGreatDoor
open Go Go.RowKit

theorem from_pos (k : Nat) (h : inK k = true) : sz (fromN k) ≤ 9218868437227405312 ∧ pos (fromN k) = (k : Int) - 9223372036854775808 ∧ fromN k < 18446744073709551616 := by
  have hk : 4503599627370496 ≤ k ∧ k ≤ 18442240474082181120 := of_decide_eq_true h
  unfold fromN
  rw [h, if_pos rfl]
  by_cases c : k < 9223372036854775808
  · rw [if_pos c]
    have e1 := sz_high (a := 18446744073709551616 - k) (by omega) (by omega)
    have e2 := pos_high (a := 18446744073709551616 - k) (by omega) (by omega)
    rw [e2, e1]
    omega
  · rw [if_neg c]
    have e1 := sz_low (a := k - 9223372036854775808) (by omega)
    have e2 := pos_low (a := k - 9223372036854775808) (by omega)
    rw [e2, e1]
    omega
theorem cmp_num {a b : Nat} (h1 : isN a = true) (h2 : isN b = true) : cmpI a b = ordN a b ∧ cmpB a b = true := by
  unfold cmpI cmpB; rw [h1, h2]; exact ⟨rfl, rfl⟩

set_option maxHeartbeats 4000000 in
theorem next_walk (k n : Nat) (w : World) (T : Tabs w) (hk : k < 18446744073709551616) : Calls Tryz.prog 8 #[.int .u64 (k : Int), .int .u64 (n : Int)] w fun e w' => e = .returned (.bool true) ∧ Below w.heap.size w w' := by
  by_cases c0 : k = 18446744073709551615
  · have c1 : (k : Int) = 18446744073709551615 := by omega
    clear c0 hk
    generalize (k : Int) = K at *
    generalize (n : Int) = B at *
    subst c1
    go_enter Tryz.func8, Tryz.ntmps8
    go_wp2_with (go_at_call 11; refine (fixed_any _ T).mono ?_; rintro e w1 ⟨rfl, hb1⟩)
    go_ret
    exact ⟨rfl, hb1⟩
  · have C1 := fun w => fromKey_any k w hk
    have C2 := fun w => fromKey_any (k + 1) w (by omega)
    have eK : ((k + 1 : Nat) : Int) = (k : Int) + 1 := by omega
    rw [eK] at C2
    have k0 : 0 ≤ (k : Int) := by omega
    have k1 : (k : Int) < 18446744073709551615 := by omega
    have k2 : ¬ (k : Int) = 18446744073709551615 := by omega
    cases i1 : inK k
    · rw [i1] at C1
      have e0 : ((fromN k : Nat) : Int) = 0 := by unfold fromN; rw [i1]; rfl
      rw [e0] at C1
      generalize ((fromN (k + 1) : Nat) : Int) = y at C2
      generalize errN (inK (k + 1)) = e2 at C2
      simp only [errN, Bool.false_eq_true, if_false] at C1
      clear e0 eK c0 hk i1
      generalize (k : Int) = K at *
      generalize (n : Int) = B at *
      go_enter Tryz.func8, Tryz.ntmps8
      go_wp2_with (first
        | (go_at_call 11; refine (fixed_any _ T).mono ?_; rintro e w1 ⟨rfl, hb1⟩)
        | (go_at_call 13; (first | with_reducible refine (C1 _).mono ?_ | with_reducible refine (C2 _).mono ?_); rintro e w2 ⟨rfl, rfl⟩))
      go_ret
      exact ⟨rfl, hb1⟩
    · cases i2 : inK (k + 1)
      · rw [i1] at C1
        rw [i2] at C2
        generalize ((fromN k : Nat) : Int) = x at C1
        generalize ((fromN (k + 1) : Nat) : Int) = y at C2
        simp only [errN, Bool.false_eq_true, if_false, if_true] at C1 C2
        clear eK c0 hk i1 i2
        generalize (k : Int) = K at *
        generalize (n : Int) = B at *
        go_enter Tryz.func8, Tryz.ntmps8
        go_wp2_with (first
          | (go_at_call 11; refine (fixed_any _ T).mono ?_; rintro e w1 ⟨rfl, hb1⟩)
          | (go_at_call 13; (first | with_reducible refine (C1 _).mono ?_ | with_reducible refine (C2 _).mono ?_); rintro e w2 ⟨rfl, rfl⟩))
        go_ret
        exact ⟨rfl, hb1⟩
      · rw [i1] at C1
        rw [i2] at C2
        obtain ⟨s1, p1, l1⟩ := from_pos k i1
        obtain ⟨s2, p2, l2⟩ := from_pos (k + 1) i2
        have n1 := isN_true s1
        have n2 := isN_true s2
        have D1 := fun w => cmp_any (fromN k) (fromN (k + 1)) w
        have D2 := fun w => cmp_any n (fromN k) w
        have D3 := fun w => cmp_any n (fromN (k + 1)) w
        rw [(cmp_num n1 n2).1, (cmp_num n1 n2).2] at D1
        have e1 : ordN (fromN k) (fromN (k + 1)) = -1 := by unfold ordN; rw [if_pos (by rw [p1, p2]; omega)]
        rw [e1] at D1
        have F : cmpB n (fromN (k + 1)) = cmpB n (fromN k) ∧ (cmpB n (fromN k) = false ∨ cmpI n (fromN k) ≤ 0 ∨ 0 ≤ cmpI n (fromN (k + 1))) := by
          unfold cmpB cmpI
          rw [n1, n2]
          refine ⟨rfl, ?_⟩
          cases isN n
          · left; rfl
          · right
            simp only [Bool.and_true, if_true]
            unfold ordN
            rw [p1, p2]
            by_cases c : pos n ≤ (k : Int) - 9223372036854775808
            · left
              by_cases c' : pos n < (k : Int) - 9223372036854775808
              · rw [if_pos c']; decide
              · rw [if_neg c', if_neg (by omega)]; decide
            · right
              rw [if_neg (by omega)]
              split <;> decide
        obtain ⟨f1, f2⟩ := F
        rw [f1] at D3
        generalize cmpB n (fromN k) = o at *
        generalize cmpI n (fromN k) = lo at *
        generalize cmpI n (fromN (k + 1)) = hi at *
        generalize ((fromN k : Nat) : Int) = x at *
        generalize ((fromN (k + 1) : Nat) : Int) = y at *
        simp only [errN, if_true] at C1 C2
        clear eK c0 hk i1 i2 s1 s2 p1 p2 l1 l2 n1 n2 e1 f1
        generalize (k : Int) = K at *
        generalize (n : Int) = B at *
        cases o
        · clear f2
          go_enter Tryz.func8, Tryz.ntmps8
          go_wp2_with (first
            | (go_at_call 11; refine (fixed_any _ T).mono ?_; rintro e w1 ⟨rfl, hb1⟩)
            | (go_at_call 13; (first | with_reducible refine (C1 _).mono ?_ | with_reducible refine (C2 _).mono ?_); rintro e w2 ⟨rfl, rfl⟩)
            | (go_at_call 9; (first | with_reducible refine (D1 _).mono ?_ | with_reducible refine (D2 _).mono ?_ | with_reducible refine (D3 _).mono ?_); rintro e w2 ⟨rfl, rfl⟩))
          go_ret
          exact ⟨rfl, hb1⟩
        · have f3 : lo ≤ 0 ∨ (¬ lo ≤ 0 ∧ 0 ≤ hi) := by
            rcases f2 with f | f | f
            · cases f
            · exact Or.inl f
            · by_cases g : lo ≤ 0
              · exact Or.inl g
              · exact Or.inr ⟨g, f⟩
          clear f2
          rcases f3 with f | ⟨f, g⟩
          all_goals
            go_enter Tryz.func8, Tryz.ntmps8
            go_wp2_with (first
              | (go_at_call 11; refine (fixed_any _ T).mono ?_; rintro e w1 ⟨rfl, hb1⟩)
              | (go_at_call 13; (first | with_reducible refine (C1 _).mono ?_ | with_reducible refine (C2 _).mono ?_); rintro e w2 ⟨rfl, rfl⟩)
              | (go_at_call 9; (first | with_reducible refine (D1 _).mono ?_ | with_reducible refine (D2 _).mono ?_ | with_reducible refine (D3 _).mono ?_); rintro e w2 ⟨rfl, rfl⟩))
            go_ret
            exact ⟨rfl, hb1⟩
end Go.Proofs.YtbemidnhljjfnaaGreatDoor
