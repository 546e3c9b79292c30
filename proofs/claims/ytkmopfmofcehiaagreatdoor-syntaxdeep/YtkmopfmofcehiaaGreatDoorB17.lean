/- Within one another: the law's own walk. -/
import Derived.Test.YtkmopfmofcehiaaGreatDoorB16
import Derived.Test.YtkmopfmofcehiaaGreatDoorB13
import Derived.WalkKit
import Derived.OwnWalkIn
import Derived.TacticsInMore
import Derived.LoopNIn
import Derived.LoopIn
namespace Go.Proofs.YtkmopfmofcehiaaGreatDoor
open Go Go.RowKit
theorem and63 (x : Int) : ∃ n : Nat, n < 64 ∧ bits .and .i64 x 63 = (n : Int) := by
  have h : (BitVec.ofInt 64 x &&& BitVec.ofInt 64 63).toNat < 64 := by
    rw [BitVec.toNat_and]
    exact Nat.lt_succ_of_le (Nat.le_trans Nat.and_le_right (by decide))
  refine ⟨_, h, ?_⟩
  show IntKind.wrap .i64 (((BitVec.ofInt 64 x &&& BitVec.ofInt 64 63).toNat : Nat) : Int) = _
  generalize (BitVec.ofInt 64 x &&& BitVec.ofInt 64 63).toNat = v at h
  have h1 : (v : Int) % 2 ^ IntKind.i64.bits = v := Int.emod_eq_of_lt (by omega) (by show (v : Int) < 2 ^ 64; omega)
  unfold IntKind.wrap
  simp only [h1]
  rw [if_neg]
  intro e
  simp only [Bool.and_eq_true, decide_eq_true_eq] at e
  have := e.2
  have h2 : (2 ^ (IntKind.i64.bits - 1) : Int) = 9223372036854775808 := by decide
  omega
theorem size_le {S : ByteArray} {l : Bs} (h : S = ⟨l.toArray⟩) : S.size = l.length := by rw [h]; rfl
abbrev oS (l : Bs) : Value := .string ⟨l.toArray⟩
theorem catS (a b : Bs) : (ByteArray.mk a.toArray) ++ (ByteArray.mk b.toArray) = ⟨(a ++ b).toArray⟩ := by
  rw [ByteArray.ext_iff]
  simp
theorem below_dr (w : World) (m : Nat) : Below w.heap.size w (w.drewN m) := ⟨rfl, rfl, rfl, Nat.le_refl _, fun _ _ => rfl⟩
set_option maxRecDepth 100000 in
set_option maxHeartbeats 8000000 in
theorem deep_walk (x y z : Int) (w : World) (gl : Gl w) : Calls Tryz.prog 8 #[.int .i64 x, .int .i64 y, .int .i64 z] w fun e w' => e = .returned (.bool true) ∧ Below w.heap.size w w' := by
  obtain ⟨a, ha, xa⟩ := and63 x
  obtain ⟨b, hb, xb⟩ := and63 y
  obtain ⟨c, hc, xc⟩ := and63 z
  go_enter Tryz.func8, Tryz.ntmps8
  go_wp2
  go_loopw [10, 11, 12, 13, 14] (fun s k t e i wr => ∃ (j n : Nat) (S K : ByteArray) (T E : Int), j ≤ c ∧ s = .string S ∧ k = .string K ∧ t = .int .i64 T ∧ e = .int .i64 E ∧ i = .int .i64 (j : Int) ∧ wr = w.drewN n ∧ Hid (S = ⟨(hB ++ rB j 91).toArray⟩ ∧ K = ⟨(rB j 93).toArray⟩) ∧ ((j ≤ 32 ∧ T = 0 ∧ E = 0) ∨ (32 < j ∧ T = 41 ∧ E = 61))) (fun _ _ _ _ i _ => c - (RowKit.intOf i).toNat)
  case atStart => exact ⟨0, 0, _, _, _, _, Nat.zero_le _, rfl, rfl, rfl, rfl, rfl, rfl, ⟨rfl, rfl⟩, .inl ⟨by decide, rfl, rfl⟩⟩
  case round =>
    obtain ⟨j, n, S, K, T, E, hj, rfl, rfl, rfl, rfl, rfl, rfl, hS, hT⟩ := hrel
    have sS : S.size = 9 + j := by rw [size_le hS.1]; simp [hB, rB]; omega
    have sK : K.size = j := by rw [size_le hS.2]; simp [rB]
    have kS : ¬ 9223372036854775807 < S.size + 1 := by omega
    have kK : ¬ 9223372036854775807 < K.size + 1 := by omega
    rcases Nat.lt_or_ge j c with hlt | hge
    · have l1 : (j : Int) < (c : Int) := by omega
      have nx : S ++ ⟨#[91]⟩ = ⟨(hB ++ rB (j + 1) 91).toArray⟩ ∧ K ++ ⟨#[93]⟩ = ⟨(rB (j + 1) 93).toArray⟩ := by
        rw [hS.1, hS.2]
        exact ⟨(catS _ [91]).trans (by simp [rB, List.replicate_succ']), (catS _ [93]).trans (by simp [rB, List.replicate_succ'])⟩
      have HN : Hid (S ++ ⟨#[91]⟩ = ⟨(hB ++ rB (j + 1) 91).toArray⟩ ∧ K ++ ⟨#[93]⟩ = ⟨(rB (j + 1) 93).toArray⟩) := nx
      clear nx hS
      rcases Nat.lt_trichotomy j 32 with h32 | h32 | h32
      · have l2 : ((j : Int) == 32) = false := by simp; omega
        have hT' : j + 1 ≤ 32 ∧ T = 0 ∧ E = 0 := by omega
        clear h32 hT
        go_wp2
        refine ⟨⟨j + 1, n, _, _, _, _, hlt, rfl, rfl, rfl, rfl, by simp, rfl, HN, .inl hT'⟩, ?_⟩
        simp [RowKit.intOf]; omega
      · have l2 : ((j : Int) == 32) = true := by simp; omega
        obtain ⟨rfl, rfl⟩ : T = 0 ∧ E = 0 := by omega
        have sS' : (S.size : Int) = 41 := by omega
        clear hT
        go_wp2
        refine ⟨⟨j + 1, n, _, _, _, _, hlt, rfl, rfl, rfl, rfl, (by simp; try omega), rfl, HN, .inr ⟨by omega, by omega, rfl⟩⟩, ?_⟩
        simp [RowKit.intOf]; omega
      · have l2 : ((j : Int) == 32) = false := by simp; omega
        have hT' : 32 < j + 1 ∧ T = 41 ∧ E = 61 := by omega
        clear h32 hT
        go_wp2
        refine ⟨⟨j + 1, n, _, _, _, _, hlt, rfl, rfl, rfl, rfl, by simp, rfl, HN, .inr hT'⟩, ?_⟩
        simp [RowKit.intOf]; omega
    · obtain rfl : c = j := by omega
      have hm : S ++ (⟨#[73, 110, 116]⟩ ++ K ++ ⟨#[41, 123, 97, 40, 98, 58]⟩) = ⟨(mB c).toArray⟩ := by
        rw [hS.1, hS.2]
        exact (congrArg _ ((congrArg (· ++ _) (catS [73, 110, 116] (rB c 93))).trans (catS _ [41, 123, 97, 40, 98, 58]))).trans (catS _ _)
      have HM : Hid (S ++ (⟨#[73, 110, 116]⟩ ++ K ++ ⟨#[41, 123, 97, 40, 98, 58]⟩) = ⟨(mB c).toArray⟩) := hm
      have ml := mB_len c
      clear hm hS
      go_wp2
      generalize S ++ (⟨#[73, 110, 116]⟩ ++ K ++ ⟨#[41, 123, 97, 40, 98, 58]⟩) = S1 at HM ⊢
      clear sS sK kS kK hge hj
      go_loopw [10, 11, 12, 13, 15] (fun s k t e i wr => ∃ (j n : Nat) (S K : ByteArray) (T E : Int), j ≤ b ∧ s = .string S ∧ k = .string K ∧ t = .int .i64 T ∧ e = .int .i64 E ∧ i = .int .i64 (j : Int) ∧ wr = w.drewN n ∧ Hid (S = ⟨(mB c ++ opB j).toArray⟩ ∧ K = ⟨(clB j).toArray⟩) ∧ ((32 < c ∧ T = 41 ∧ E = 61) ∨ (c ≤ 32 ∧ j ≤ 32 ∧ T = 0 ∧ E = 0) ∨ (c ≤ 32 ∧ 32 < j ∧ T = (((mB c).length + 64 : Nat) : Int) ∧ E = 61))) (fun _ _ _ _ i _ => b - (RowKit.intOf i).toNat)
      case atStart => exact ⟨0, n, _, _, _, _, Nat.zero_le _, rfl, rfl, rfl, rfl, rfl, rfl, ⟨HM.trans (by simp [opB, bytesK, opsK, shV]), rfl⟩, by omega⟩
      case round =>
        clear hT HM
        obtain ⟨j, n, S, K, T, E, hj, rfl, rfl, rfl, rfl, rfl, rfl, hS, hT⟩ := hrel
        have ol := opB_len j
        have o32 := opB_32
        have sS : S.size = (mB c).length + (opB j).length := by rw [size_le hS.1]; simp
        have sK : K.size = j := by rw [size_le hS.2]; exact clB_len j
        have kS : ¬ 9223372036854775807 < S.size + 1 := by omega
        have kS3 : ¬ 9223372036854775807 < S.size + 3 := by omega
        have kK : ¬ 9223372036854775807 < 1 + K.size := by omega
        rcases Nat.lt_or_ge j b with hlt | hge
        · have l1 : (j : Int) < (b : Int) := by omega
          rcases Nat.mod_two_eq_zero_or_one j with h2 | h2
          · have HN : Hid (S ++ ⟨#[91]⟩ = ⟨(mB c ++ opB (j + 1)).toArray⟩ ∧ ⟨#[93]⟩ ++ K = ⟨(clB (j + 1)).toArray⟩) := by
              show _ ∧ _
              rw [hS.1, hS.2, opB_succ, clB_succ, if_pos h2, if_pos h2]
              exact ⟨(catS _ [91]).trans (by simp), (catS [93] _).trans (by simp)⟩
            have p2 : (j : Int) % 2 = 0 := by omega
            have p3 : ((j : Int) % 2 == 0) = true := by simp; omega
            have p4 : Int.tmod (j : Int) 2 = 0 := by rw [Int.tmod_eq_emod_of_nonneg (by omega)]; omega
            clear hS
            by_cases h32 : j = 32
            · have l2 : ((j : Int) == 32) = true := by simp; omega
              have hE : S.size = (mB c).length + 64 := by rw [sS, h32, o32]
              by_cases hE0 : E = 0
              · have l3 : (E == 0) = true := by simp; omega
                have hT' : c ≤ 32 := by omega
                clear hT
                go_wp2
                refine ⟨⟨j + 1, n, _, _, _, _, hlt, rfl, rfl, rfl, rfl, (by simp; try omega), rfl, HN, .inr (.inr ⟨hT', by omega, by omega, rfl⟩)⟩, ?_⟩
                simp [RowKit.intOf]; omega
              · have l3 : (E == 0) = false := by simp; omega
                have hT' : (32 < c ∧ T = 41 ∧ E = 61) ∨ (c ≤ 32 ∧ j + 1 ≤ 32 ∧ T = 0 ∧ E = 0) ∨ (c ≤ 32 ∧ 32 < j + 1 ∧ T = (((mB c).length + 64 : Nat) : Int) ∧ E = 61) := by omega
                have HT : Hid ((32 < c ∧ T = 41 ∧ E = 61) ∨ (c ≤ 32 ∧ j + 1 ≤ 32 ∧ T = 0 ∧ E = 0) ∨ (c ≤ 32 ∧ 32 < j + 1 ∧ T = (((mB c).length + 64 : Nat) : Int) ∧ E = 61)) := hT'
                clear hT hT'
                go_wp2
                refine ⟨⟨j + 1, n, _, _, _, _, hlt, rfl, rfl, rfl, rfl, (by simp; try omega), rfl, HN, HT⟩, ?_⟩
                simp [RowKit.intOf]; omega
            · have l2 : ((j : Int) == 32) = false := by simp; omega
              have HT : Hid ((32 < c ∧ T = 41 ∧ E = 61) ∨ (c ≤ 32 ∧ j + 1 ≤ 32 ∧ T = 0 ∧ E = 0) ∨ (c ≤ 32 ∧ 32 < j + 1 ∧ T = (((mB c).length + 64 : Nat) : Int) ∧ E = 61)) := by show _ ∨ _; omega
              clear hT h32
              go_wp2
              refine ⟨⟨j + 1, n, _, _, _, _, hlt, rfl, rfl, rfl, rfl, (by simp; try omega), rfl, HN, HT⟩, ?_⟩
              simp [RowKit.intOf]; omega
          · have HN : Hid (S ++ ⟨#[123, 120, 58]⟩ = ⟨(mB c ++ opB (j + 1)).toArray⟩ ∧ ⟨#[125]⟩ ++ K = ⟨(clB (j + 1)).toArray⟩) := by
              show _ ∧ _
              rw [hS.1, hS.2, opB_succ, clB_succ, if_neg (by omega), if_neg (by omega)]
              exact ⟨(catS _ [123, 120, 58]).trans (by simp), (catS [125] _).trans (by simp)⟩
            have p2 : (j : Int) % 2 = 1 := by omega
            have p3 : ((j : Int) % 2 == 0) = false := by simp; omega
            have p4 : Int.tmod (j : Int) 2 = 1 := by rw [Int.tmod_eq_emod_of_nonneg (by omega)]; omega
            clear hS
            by_cases h32 : j = 32
            · exfalso; omega
            · have l2 : ((j : Int) == 32) = false := by simp; omega
              have HT : Hid ((32 < c ∧ T = 41 ∧ E = 61) ∨ (c ≤ 32 ∧ j + 1 ≤ 32 ∧ T = 0 ∧ E = 0) ∨ (c ≤ 32 ∧ 32 < j + 1 ∧ T = (((mB c).length + 64 : Nat) : Int) ∧ E = 61)) := by show _ ∨ _; omega
              clear hT h32
              go_wp2
              refine ⟨⟨j + 1, n, _, _, _, _, hlt, rfl, rfl, rfl, rfl, (by simp; try omega), rfl, HN, HT⟩, ?_⟩
              simp [RowKit.intOf]; omega
        · obtain rfl : b = j := by omega
          have HM : Hid (S ++ (⟨#[49]⟩ ++ K ++ ⟨#[41]⟩) = ⟨(vB b c).toArray⟩) := by
            show _ = _
            rw [hS.1, hS.2]
            exact (congrArg _ ((congrArg (· ++ _) (catS [49] (clB b))).trans (catS _ [41]))).trans (catS _ _)
          have vl := vB_len b c
          clear hS
          go_wp2
          generalize S ++ (⟨#[49]⟩ ++ K ++ ⟨#[41]⟩) = S1 at HM ⊢
          clear sS sK kS kS3 kK hge hj
          go_loopw [10, 11, 12, 13, 16] (fun s k t e i wr => ∃ (j n : Nat) (S K : ByteArray) (T E : Int), j ≤ a - 1 ∧ s = .string S ∧ k = .string K ∧ t = .int .i64 T ∧ e = .int .i64 E ∧ i = .int .i64 ((j : Int) + 1) ∧ wr = w.drewN n ∧ Hid (S = ⟨(vB b c ++ seB j).toArray⟩ ∧ K = ⟨(rB j 125).toArray⟩) ∧ Hid (DeepE j b c T E)) (fun _ _ _ _ i _ => a - (RowKit.intOf i).toNat)
          case atStart => exact ⟨0, n, _, _, _, _, Nat.zero_le _, rfl, rfl, rfl, rfl, rfl, rfl, ⟨HM.trans (by simp [seB, bytesK, seK]), rfl⟩, by show DeepE _ _ _ _ _; unfold DeepE; omega⟩
          case round =>
            clear hT HM
            obtain ⟨j, n, S, K, T, E, hj, rfl, rfl, rfl, rfl, rfl, rfl, hS, hT⟩ := hrel
            have ol := opB_len b
            have sel := seB_len j
            have sS : S.size = (vB b c).length + 2 * j := by rw [size_le hS.1]; simp [sel]
            have sK : K.size = j := by rw [size_le hS.2]; simp [rB]
            have kS : ¬ 9223372036854775807 < S.size + 2 := by omega
            have kK : ¬ 9223372036854775807 < K.size + 1 := by omega
            rcases Nat.lt_or_ge (j + 1) a with hlt | hge
            · have l1 : (j : Int) + 1 < (a : Int) := by omega
              have HN : Hid (S ++ ⟨#[123, 97]⟩ = ⟨(vB b c ++ seB (j + 1)).toArray⟩ ∧ K ++ ⟨#[125]⟩ = ⟨(rB (j + 1) 125).toArray⟩) := by
                show _ ∧ _
                rw [hS.1, hS.2, seB_succ]
                exact ⟨(catS _ [123, 97]).trans (by simp), (catS _ [125]).trans (by simp [rB, List.replicate_succ'])⟩
              have hT1 : DeepE j b c T E := hT
              unfold DeepE at hT1
              clear hS hT
              by_cases h32 : j = 31
              · have l2 : ((j : Int) + 1 == 32) = true := by simp; omega
                have hE : S.size = (vB b c).length + 62 := by omega
                by_cases hE0 : E = 0
                · have l3 : (E == 0) = true := by simp; omega
                  have HT : Hid (DeepE (j + 1) b c (((vB b c).length + 62 : Nat) : Int) 61) := by show DeepE _ _ _ _ _; unfold DeepE; omega
                  clear hT1
                  go_wp2
                  refine ⟨⟨j + 1, n, _, _, _, _, by omega, rfl, rfl, rfl, rfl, (by simp; try omega), rfl, HN, ?_⟩, ?_⟩
                  · have e1 : (((vB b c).length + 62 : Nat) : Int) = 20 + 2 * (c : Int) + ((opB b).length : Int) + (b : Int) + 62 := by omega
                    rw [← e1]; exact HT
                  · simp [RowKit.intOf]; omega
                · have l3 : (E == 0) = false := by simp; omega
                  have HT : Hid (DeepE (j + 1) b c T E) := by show DeepE _ _ _ _ _; unfold DeepE; omega
                  clear hT1
                  go_wp2
                  refine ⟨⟨j + 1, n, _, _, _, _, by omega, rfl, rfl, rfl, rfl, (by simp; try omega), rfl, HN, HT⟩, ?_⟩
                  simp [RowKit.intOf]; omega
              · have l2 : ((j : Int) + 1 == 32) = false := by simp; omega
                have HT : Hid (DeepE (j + 1) b c T E) := by show DeepE _ _ _ _ _; unfold DeepE; omega
                clear hT1 h32
                go_wp2
                refine ⟨⟨j + 1, n, _, _, _, _, by omega, rfl, rfl, rfl, rfl, (by simp; try omega), rfl, HN, HT⟩, ?_⟩
                simp [RowKit.intOf]; omega
            · have l1 : ¬ (j : Int) + 1 < (a : Int) := by omega
              obtain ⟨P1, P2⟩ : (S ++ K ++ ⟨#[125]⟩ = ⟨(vB b c ++ seB j ++ rB j 125 ++ [125]).toArray⟩) ∧ j < 64 := by
                refine ⟨?_, by omega⟩
                rw [hS.1, hS.2]
                exact (congrArg (· ++ _) (catS _ _)).trans (catS _ [125])
              have HD := deep_parse P2 hb hc hT
              have ok : Ok6 w (w.drewN n) := ⟨below_dr w n, gl.of rfl rfl⟩
              have kSK : ¬ 9223372036854775807 < S.size + K.size := by omega
              have sSK : (S ++ K).size = S.size + K.size := ByteArray.size_append
              have kSK1 : ¬ 9223372036854775807 < S.size + K.size + 1 := by omega
              have PP := parse_any (vB b c ++ seB j ++ rB j 125 ++ [125]) (w.drewN n) ok.gl
              rw [← P1] at PP
              clear hS hT P1 P2
              rcases HD with ⟨rfl, rfl, d, hd⟩ | ⟨rfl, p, rfl, hd⟩
              · rw [hd] at PP
                clear hd
                go_wp2_with (first
                  | (go_at_call 11; (with_reducible refine (fixed_any _ (ok1.alloc _).gl).mono ?_); rintro e w2 ⟨rfl, b2⟩)
                  | (go_at_call 9; refine PP.mono ?_; rintro e w1 ⟨⟨v, rfl, ⟨o1, n1, z1, o2, n2, z2, rfl, _⟩⟩, b1⟩; have ok1 := ok.go b1))
                go_ret
                exact ⟨by first | rfl | simp, ((ok1.alloc _).go b2).bel⟩
              · rw [hd] at PP
                clear hd
                go_wp2_with (first
                  | (go_at_call 11; (with_reducible refine (fixed_any _ (ok1.alloc _).gl).mono ?_); rintro e w2 ⟨rfl, b2⟩)
                  | (go_at_call 9; refine PP.mono ?_; rintro e w1 ⟨rfl, b1⟩; have ok1 := ok.go b1))
                go_ret
                exact ⟨by first | rfl | simp, ((ok1.alloc _).go b2).bel⟩
end Go.Proofs.YtkmopfmofcehiaaGreatDoor
