/- Going through a text from its beginning, step by step, each character is the next one of its characters, and the last step ends where it ends: for every string where what comes in is of bulk at most 1048576. -/
import Derived.Test.YtikbomagmedemabSame
import Derived.ProofKit
import Derived.OpenShut
import Derived.ShutString
import Derived.ChangeOld
import Derived.JoinedCond
namespace Go.Proofs.Ytikbomagmedemab
open Go.ChangeShapes Go.WideShapes Go.ChangeAt Go.RowKit
open Go.ChangeMaps (open_string shut_string)

theorem Try.own : ownKnob Try.prog.godebug = none := by kernel_rfl

theorem owns_below {W W' : World} {B e sz n : Nat} {v : Value} {xs : List Value} (h : W.ownsRow B e sz v n xs) (hb : Below W.heap.size W W') : W'.ownsRow B e sz v n xs := by
  refine ⟨h.1, ?_⟩
  rcases h.2 with h2 | ⟨g, cap, cur, hv, hg, hh, r⟩
  · exact Or.inl h2
  · exact Or.inr ⟨g, cap, cur, hv, hg, (hb.block g (lt_of_block hh)).trans hh, r⟩

theorem owns_empty (w : World) : (w.alloc (.cells #[] 3)).ownsRow w.heap.size 3 1 (.slice (some ⟨w.heap.size, 0, none⟩) 0 0) 0 [] :=
  ⟨rfl, Or.inr ⟨w.heap.size, 0, #[], rfl, Nat.le_refl _, heap_alloc_new _ _, Nat.le_refl _, Nat.zero_le _, rfl, rfl⟩⟩
theorem own_ge {w : World} {B e sz n : Nat} {v : Value} {xs : List Value} (h : w.ownsRow B e sz v n xs) : ∀ k, v.ownBlock = some k → B ≤ k := by
  intro k hk
  rcases h.2 with ⟨rfl, _⟩ | ⟨g, cap, cur, rfl, hg, _⟩
  · simp [Value.ownBlock] at hk
  · simp [Value.ownBlock] at hk
    omega

/-- The text's characters from a place on. -/
theorem points_step (s : ByteArray) (p : Nat) (a : List Int) (hp : p < s.size) : walk s (pointsStep s) p a = walk s (pointsStep s) (p + stW s p) (a ++ [stC s p]) := by
  rw [walk_step hp]
  rfl

set_option maxHeartbeats 4000000 in
theorem steps_walk (s : ByteArray) (w : World) (hs : s.size ≤ 1048576) :
    Calls Try.prog 4 #[.string s] w fun e w' => e = .returned (.bool true) ∧ Below w.heap.size w w' := by
  have hb := Below.refl w.heap.size w
  by_cases hv : validS s = true
  · obtain ⟨i0, hi, hz0, hz1, hz2⟩ := info_parts Try.infoInt
    go_enter Try.func4, Try.ntmps4
    go_wp2_with (first
      | (go_at_call 8; refine (points_yes s _ (by omega) hv).mono ?_; rintro e w1 ⟨v, rfl, hown, hb1⟩; have hb := hb.trans (hb1.mono hb.size); clear hb1)
      | (go_at_call 6; refine (fixed_any _).mono ?_; rintro e w2 ⟨rfl, hb1⟩; have hown := owns_below hown hb1; have hb := hb.trans (hb1.mono hb.size); clear hb1))
    go_loopw [5, 6] (fun a k wr => ∃ (p : Nat) (acc : List Int), p ≤ s.size ∧ k = .int .i64 p ∧ acc.length ≤ p ∧ wr.ownsRow w2.heap.size 3 1 a acc.length (intsV acc) ∧ walk s (pointsStep s) p acc = pointsS s ∧ vF s p = true ∧ Below w2.heap.size w2 wr) (fun _ k _ => s.size - (intOf k).toNat)
    case atStart => exact ⟨0, [], Nat.zero_le _, rfl, Nat.le_refl _, owns_empty w2, rfl, hv, (Below.refl _ _).alloc (Nat.le_refl _) _⟩
    case round =>
      obtain ⟨p, acc, hp, rfl, hl, ho, hW, hV, hbr⟩ := hrel
      have HW : Hid (walk s (pointsStep s) p acc = pointsS s) := hW
      clear hW
      have HV : Hid (vF s p = true) := hV
      clear hV
      by_cases hlt : p < s.size
      · have hw := dec_w s p hlt
        have hV2 := HV.out
        rw [vF_step s p hlt, Bool.and_eq_true] at hV2
        have hc : stC s p ≠ -1 := by simpa using hV2.1
        have HV2 : Hid (vF s (p + stW s p) = true) := hV2.2
        have HW2 : Hid (walk s (pointsStep s) (p + stW s p) (acc ++ [stC s p]) = pointsS s) := (points_step s p acc hlt).symm.trans HW.out
        have R1 := fun w => rune_in s p w (by omega) hlt
        rw [show runeS s p = (stC s p, ((stW s p : Nat) : Int)) from if_neg hc] at R1
        clear hV2 HW HV hc
        have hlt' : (p : Int) < s.size := by omega
        have hl' : (acc.length : Int) ≤ s.size := by omega
        have ho0 := ho
        rcases ho.2 with ⟨rfl, h0⟩ | ⟨g, cap, cur, rfl, _⟩
        all_goals
          try rw [h0] at hl'
          go_wp2_with (first
            | (go_at_call 9; with_reducible refine (R1 _).mono ?_; rintro e w3 ⟨rfl, hb3⟩; have ho3 := owns_below ho0 hb3; have hbr3 := hbr.trans (hb3.mono hbr.size))
            | (at_builtin; refine wpList_append_own _ rfl _ _ 26 rfl w2.heap.size 3 i0 (.int .i64 0) 1 8 Try.underlying26 hi hz0 hz1 hz2 rfl (by decide) _ _ _ rfl (ho3.alloc _) ⟨w3.heap.size, 0, none⟩ 1 1 [.int .i64 (stC s p)] rfl rfl ?c1 ?c2 ?c3 ?c4 ?c5 ?_))
          case c1 =>
            intro j u hj
            match j, hj with
            | 0, hj => simp at hj; subst hj; simp [Addr.add]
          case c2 => intro u hu; simp at hu; subst hu; rfl
          case c3 => unfold maxLen; omega
          case c4 => omega
          case c5 => have := hbr3.size; simp; omega
          intro v' w4 hown' hgrow' _
          have hown2 : w4.ownsRow w2.heap.size 3 1 v' (acc ++ [stC s p]).length (intsV (acc ++ [stC s p])) := by
            have e2 : intsV (acc ++ [stC s p]) = intsV acc ++ [.int .i64 (stC s p)] := by simp [intsV]
            rw [e2, List.length_append]
            first | exact hown' | (rw [h0]; exact hown')
          have hbr4 : Below w2.heap.size w2 w4 := (hbr3.alloc hbr3.size _).grown hgrow' (by have := hbr3.size; simp; omega) (own_ge ho3)
          rcases hown'.2 with ⟨_, h9⟩ | ⟨g', cap', cur', rfl, _⟩
          · omega
          clear hown' hgrow' ho ho0 ho3
          go_wp2
          go_roundw
          case rel => exact ⟨p + stW s p, acc ++ [stC s p], by omega, by go_num, by simp; omega, hown2, HW2.out, HV2.out, hbr4⟩
          case measure => simp [intOf]; omega
      · have e : p = s.size := by omega
        have hE : acc = pointsS s := by
          rw [← HW.out, walk_end hlt]
        rw [hE] at ho
        have r1 := rowIs_of ho
        have r2 := rowIs_of (owns_below hown hbr)
        clear hE HW HV hl hp hlt
        subst e
        have r1' := r1
        rcases r1 with ⟨rfl, h0⟩ | ⟨g, cap, rfl, _⟩
        all_goals
          go_wp2_with (go_at_call 10; refine (same_yes _ _ _ _ r1' r2).mono ?_; rintro e w3 ⟨rfl, hb3⟩)
          go_ret
          exact ⟨rfl, hb.trans ((hbr.trans (hb3.mono hbr.size)).mono hb.size)⟩
  · have hv' : validS s = false := by simpa using hv
    go_enter Try.func4, Try.ntmps4
    go_wp2_with (first
      | (go_at_call 8; refine (points_no s _ (by omega) hv').mono ?_; rintro e w1 ⟨rfl, hb1⟩; have hb := hb.trans (hb1.mono hb.size); clear hb1)
      | (go_at_call 6; refine (fixed_any _).mono ?_; rintro e w2 ⟨rfl, hb1⟩; have hb := hb.trans (hb1.mono hb.size); clear hb1))
    go_ret
    exact ⟨rfl, hb⟩

set_option maxRecDepth 100000 in
theorem runesSteps_lifted (os : Os) (started : os.Started) (H : Type) (enc : TypeId × Value → H) (F : Stop.Interp) :
    ReturnsInHanded {} Try.checked os 4 .any ((Rows.OpenSpec.upto Rows.runesStepsSpec).pre6 enc Try.prog Try.f4 Rows.runesStepsUptoRow.domain false) (((Rows.OpenSpec.upto Rows.runesStepsSpec).at F).post enc Try.prog Try.f4 false true false false) := by
  refine returnsInHanded_of_cond (C := Try.checked) (s := Rows.OpenSpec.upto Rows.runesStepsSpec) (k := Rows.uptoSmall) rfl Try.own started (by kernel_rfl) Try.func4
    (OpenSpec.witness (enc := enc) (C := Try.checked) (s := Rows.OpenSpec.upto Rows.runesStepsSpec) (k := Rows.uptoSmall) rfl false ⟨#[], #[.string ByteArray.empty], []⟩ 8 (by kernel_rfl) (by kernel_rfl) (by kernel_rfl)
      (x := ([.lit (.string [])], [], [])) (by kernel_rfl) rfl (by kernel_rfl)) ?_
  intro W base args ds gs before hval0 hW _ hk _
  have hval : ∀ (j : Nat) t v, Try.f4.params[j]? = some t → args[j]? = some v → Value.okWide Try.prog W .any base t v := hval0
  have hW' := hW
  obtain ⟨p, q, hA0, hV, rfl, hfz, hnd⟩ := hW
  have hA : DataW.TrodAll enc Try.prog W 0 (fun _ => true) true Try.f4.params.toList args.toList ds p := hA0
  rw [Try.params4] at hA hval
  obtain ⟨v0, vs0, d0, ds0, p0, q0, hargs, rfl, rfl, h0, r0⟩ := trodAll_cons hA
  obtain ⟨rfl, rfl, rfl⟩ := trodAll_nil r0
  obtain rfl : args = #[v0] := by cases args; simp_all
  obtain ⟨rfl, rfl⟩ := trodVars_none hV
  obtain ⟨a0, rfl, rfl, rfl, w0⟩ := open_string Try.underlying9 (hval 0 9 v0 rfl rfl) h0
  simp only [List.append_nil] at hk
  have hk2 : Rows.uptoBulkAll ([DataW.lit (H := H) (.string a0.data.toList)]) ≤ 1048576 := of_decide_eq_true hk
  simp only [Rows.uptoBulkAll, Rows.uptoBulk] at hk2
  have b0 : a0.size ≤ 1048576 := by
    have e : a0.data.toList.length = a0.size := by rw [Array.length_toList]; rfl
    omega
  clear hA0 hval0 hk hk2
  refine (steps_walk a0 W b0).mono fun e W' ⟨he, bel⟩ => ?_
  subst he
  exact ⟨_, rfl, _, _, _, [], _, [], hW', trodAll_mk1 (shut_bool Try.underlying4 _), (trodAll_cons_mk (shut_string Try.underlying9 w0) trodAll_mk0), rfl, bel.frame _, fun h => by cases h⟩

theorem runesSteps_holds : Rows.RunesStepsUptoSaid :=
  OpenClaim.holds_of_cond 4 Try.f4 rfl rfl rfl rfl rfl rfl rfl ⟨rfl, rfl, rfl, rfl, rfl⟩ rfl rfl rfl rfl rfl (by kernel_rfl) Try.func4 (by kernel_rfl)
    (of_decide_eq_true (by kernel_rfl)) (by unfold Func.isWrapper; first | (rw [if_pos (by decide +kernel)]; kernel_rfl) | (rw [if_neg (by decide +kernel)]; exact ⟨rfl, rfl⟩))
    (fun os started H enc _ F => runesSteps_lifted os started H enc F)
#print axioms runesSteps_holds

end Go.Proofs.Ytikbomagmedemab
