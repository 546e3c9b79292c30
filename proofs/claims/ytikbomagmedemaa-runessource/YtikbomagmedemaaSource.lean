/- Where any bytes have the first that begins no source character is as the document says: for every string (of at most 2^47 - 4096 bytes: the form's own reach). -/
import Derived.Test.YtikbomagmedemaaRefAll
import Derived.ProofKit
import Derived.OpenShut
import Derived.ShutString
import Derived.ChangeOld
import Derived.SizedLaws
namespace Go.Proofs.Ytikbomagmedemaa
open Go.ChangeShapes Go.WideShapes Go.ChangeAt Go.RowKit
open Go.ChangeMaps (open_string shut_string)

theorem Try.own : ownKnob Try.prog.godebug = none := by kernel_rfl

def sF (s : ByteArray) (p : Nat) : Int × Int := walk s (sourceStep s) p (0, 0)
theorem sF_end (s : ByteArray) (p : Nat) (h : ¬ p < s.size) : sF s p = (0, 0) := walk_end h
theorem sF_step (s : ByteArray) (p : Nat) (h : p < s.size) : sF s p = if sourceB (stC s p) then sF s (p + stW s p) else ((p : Int), 10) := by
  unfold sF
  rw [walk_step h]
  cases hc : sourceB (stC s p) <;> simp [sourceStep, hc]

set_option maxHeartbeats 2000000 in
theorem rsource_any (s : ByteArray) (w : World) (hs : s.size ≤ 1125899906842624) :
    Calls Try.prog 20 #[.string s] w fun e w' => e = .returned (.tuple #[.int .i64 (sourceS s).1, .int .i64 (sourceS s).2]) ∧ Below w.heap.size w w' := by
  have hb := Below.refl w.heap.size w
  go_enter Try.func20, Try.ntmps20
  go_wp2
  go_loopw [4] (fun i wr => ∃ p : Nat, p ≤ s.size ∧ i = .int .i64 p ∧ sF s p = sourceS s ∧ Below w.heap.size w wr) (fun i _ => s.size - (intOf i).toNat)
  case atStart => exact ⟨0, Nat.zero_le _, rfl, rfl, hb⟩
  case round =>
    obtain ⟨p, hp, rfl, hF, hbr⟩ := hrel
    clear hb
    have HF : Hid (sF s p = sourceS s) := hF
    clear hF
    by_cases hlt : p < s.size
    · have hw := dec_w s p hlt
      have hst := sF_step s p hlt
      have HS : Hid (sF s p = if sourceB (stC s p) then sF s (p + stW s p) else ((p : Int), 10)) := hst
      clear hst
      have R1 := fun w => rrune_in s p w hs hlt
      by_cases hc : stC s p = -1
      · have e1 : runeS s p = (0, 0) := if_pos hc
        rw [e1] at R1
        have hR : sourceS s = ((p : Int), 10) := by rw [← HF.out, HS.out, if_neg (by rw [hc]; decide)]
        clear e1 HS HF
        go_wp2_with (go_at_call 10; with_reducible refine (R1 _).mono ?_; rintro e w1 ⟨rfl, hb1⟩; have hbr2 := hbr.trans (hb1.mono hbr.size); clear hb1)
        go_ret2
        exact ⟨by first | (rw [hR] <;> rfl) | rfl, hbr2⟩
      · have e1 : runeS s p = (stC s p, ((stW s p : Nat) : Int)) := if_neg hc
        rw [e1] at R1
        clear e1
        obtain ⟨c, hcc⟩ : ∃ c, c = stC s p := ⟨_, rfl⟩
        rw [← hcc] at R1 HS hc
        clear hcc
        have mW : (((stW s p : Nat) : Int) == 0) = false := by rw [beq_eq_false_iff_ne]; omega
        by_cases hsrc : sourceB c = true
        · have hN : sF s (p + stW s p) = sourceS s := by rw [← HF.out, HS.out, if_pos hsrc]
          have HN : Hid (sF s (p + stW s p) = sourceS s) := hN
          clear hN HS HF
          have hd : c = 9 ∨ (c ≠ 9 ∧ c = 10) ∨ (c ≠ 9 ∧ c ≠ 10 ∧ c = 13) ∨ (c ≠ 9 ∧ c ≠ 10 ∧ c ≠ 13 ∧ 32 ≤ c ∧ c ≤ 65535) := by
            unfold sourceB at hsrc
            simp at hsrc
            omega
          clear hsrc
          simp only [ne_eq, ← beq_eq_false_iff_ne] at hd
          rcases hd with hd | ⟨n1, hd⟩ | ⟨n1, n2, hd⟩ | ⟨n1, n2, n3, hd1, hd2⟩
          all_goals
            go_wp2_with (go_at_call 10; with_reducible refine (R1 _).mono ?_; rintro e w1 ⟨rfl, hb1⟩; have hbr2 := hbr.trans (hb1.mono hbr.size); clear hb1)
            go_roundw
            case rel => exact ⟨p + stW s p, hw.2.2, by go_num, HN.out, hbr2⟩
            case measure => simp [intOf]; omega
        · have hR : sourceS s = ((p : Int), 10) := by rw [← HF.out, HS.out, if_neg hsrc]
          have hd : c ≠ 9 ∧ c ≠ 10 ∧ c ≠ 13 ∧ (c < 32 ∨ (32 ≤ c ∧ 65535 < c)) := by
            unfold sourceB at hsrc
            simp at hsrc
            omega
          clear hsrc HS HF
          simp only [ne_eq, ← beq_eq_false_iff_ne] at hd
          obtain ⟨n1, n2, n3, hd⟩ := hd
          have hd3 : 32 ≤ c → decide (c ≤ 65535) = false := fun h => by simp; omega
          rcases hd with hd | ⟨hd1, hd2⟩
          all_goals
            first | (have hd4 := hd3 hd1) | skip
            clear hd3
            go_wp2_with (go_at_call 10; with_reducible refine (R1 _).mono ?_; rintro e w1 ⟨rfl, hb1⟩; have hbr2 := hbr.trans (hb1.mono hbr.size); clear hb1)
            go_ret2
            exact ⟨by first | (rw [hR] <;> rfl) | rfl, hbr2⟩
    · have hR : sourceS s = (0, 0) := by rw [← HF.out, sF_end s p hlt]
      go_wp2
      go_ret2
      exact ⟨by first | (rw [hR] <;> rfl) | rfl, hbr⟩

set_option maxHeartbeats 1000000 in
theorem source_walk (s : ByteArray) (w : World) (hs : s.size ≤ 140737488351232) :
    Calls Try.prog 5 #[.string s] w fun e w' => e = .returned (.bool true) ∧ Below w.heap.size w w' := by
  have hb := Below.refl w.heap.size w
  have S1 := fun w => source_any s w (by omega)
  have S2 := fun w => rsource_any s w (by omega)
  go_enter Try.func5, Try.ntmps5
  go_wp2_with (first
    | (go_at_call 11; refine (fixed_any _).mono ?_; rintro e w1 ⟨rfl, hb1⟩; have hb := hb.trans (hb1.mono hb.size); clear hb1)
    | (go_at_call 19; with_reducible refine (S1 _).mono ?_; rintro e w1 ⟨rfl, hb1⟩; have hb := hb.trans (hb1.mono hb.size); clear hb1)
    | (go_at_call 20; with_reducible refine (S2 _).mono ?_; rintro e w1 ⟨rfl, hb1⟩; have hb := hb.trans (hb1.mono hb.size); clear hb1))
  go_ret
  exact ⟨rfl, hb⟩

set_option maxRecDepth 100000 in
theorem runesSource_lifted (os : Os) (started : os.Started) (H : Type) (enc : TypeId × Value → H) :
    ReturnsInHanded {} Try.checked os 5 .any (Rows.runesSourceSpec.pre6 enc Try.prog Try.f5 Rows.runesSourceRow.domain false) (Rows.runesSourceSpec.post enc Try.prog Try.f5 false true false false) := by
  refine returnsInHanded_of_change_sized (C := Try.checked) Try.own started (by kernel_rfl) Try.func5
    (ChangeSpec.witness6 (enc := enc) (C := Try.checked) false ⟨#[], #[.string ByteArray.empty], []⟩ 8 (by kernel_rfl) (by kernel_rfl) (by kernel_rfl) (by kernel_rfl)) ?_
  intro W base args ds gs before hval0 hW _ hsz _
  have hval : ∀ (j : Nat) t v, Try.f5.params[j]? = some t → args[j]? = some v → Value.okWide Try.prog W .any base t v := hval0
  have hW' := hW
  obtain ⟨p, q, hA0, hV, rfl, hfz, hnd⟩ := hW
  have hA : DataW.TrodAll enc Try.prog W 0 (fun _ => true) true Try.f5.params.toList args.toList ds p := hA0
  rw [Try.params5] at hA hval
  obtain ⟨v0, vs0, d0, ds0, p0, q0, hargs, rfl, rfl, h0, r0⟩ := trodAll_cons hA
  obtain ⟨rfl, rfl, rfl⟩ := trodAll_nil r0
  obtain rfl : args = #[v0] := by cases args; simp_all
  obtain ⟨rfl, rfl⟩ := trodVars_none hV
  obtain ⟨a0, rfl, rfl, rfl, w0⟩ := open_string Try.underlying9 (hval 0 9 v0 rfl rfl) h0
  have b0 : a0.size ≤ 140737488351232 := by
    have h := sized_string hsz (j := 0) rfl rfl
    have e : a0.data.toList.length = a0.size := by rw [Array.length_toList]; rfl
    rw [e] at h
    exact h
  clear hA0 hval0 hsz
  refine (source_walk a0 W b0).mono fun e W' ⟨he, bel⟩ => ?_
  subst he
  exact ⟨_, rfl, _, _, _, [], _, [], hW', trodAll_mk1 (shut_bool Try.underlying4 _), (trodAll_cons_mk (shut_string Try.underlying9 w0) trodAll_mk0), rfl, bel.frame _, fun h => by cases h⟩

theorem runesSource_holds : Rows.RunesSourceSaid :=
  OpenClaim.holds_of_wide 5 Try.f5 rfl rfl rfl rfl rfl rfl rfl ⟨rfl, rfl, rfl, rfl, rfl⟩ rfl rfl rfl rfl rfl (by kernel_rfl) Try.func5 (by kernel_rfl)
    (of_decide_eq_true (by kernel_rfl)) (by unfold Func.isWrapper; first | (rw [if_pos (by decide +kernel)]; kernel_rfl) | (rw [if_neg (by decide +kernel)]; exact ⟨rfl, rfl⟩))
    (fun os started H enc _ => runesSource_lifted os started H enc)
#print axioms runesSource_holds

end Go.Proofs.Ytikbomagmedemaa
