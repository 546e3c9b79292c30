/- All ahead of the first byte that begins no source character has source characters alone, and what has is a text: for every string (of at most 2^47 - 4096 bytes: the form's own reach). -/
import Derived.Test.YtikbomagmedemabText
import Derived.ProofKit
import Derived.OpenShut
import Derived.ShutString
import Derived.ChangeOld
import Derived.SizedLaws
namespace Go.Proofs.Ytikbomagmedemab
open Go.ChangeShapes Go.WideShapes Go.ChangeAt Go.RowKit
open Go.ChangeMaps (open_string shut_string)

theorem Try.own : ownKnob Try.prog.godebug = none := by kernel_rfl

def sF (s : ByteArray) (p : Nat) : Int × Int := walk s (sourceStep s) p (0, 0)
theorem sF_end (s : ByteArray) (p : Nat) (h : ¬ p < s.size) : sF s p = (0, 0) := walk_end h
theorem sF_step (s : ByteArray) (p : Nat) (h : p < s.size) : sF s p = if sourceB (stC s p) then sF s (p + stW s p) else ((p : Int), 10) := by
  unfold sF
  rw [walk_step h]
  cases hc : sourceB (stC s p) <;> simp [sourceStep, hc]

theorem source_char {s : ByteArray} {p : Nat} (h : sourceB (stC s p) = true) : (stC s p != -1) = true := by
  by_cases e : stC s p = -1
  · rw [e] at h
    exact absurd h (by decide)
  · simpa using e

theorem ahead (s : ByteArray) : ∀ (n p : Nat), s.size - p ≤ n → p ≤ s.size →
    (sF s p = (0, 0) ∧ vF s p = true) ∨ ∃ q : Nat, p ≤ q ∧ q < s.size ∧ sF s p = ((q : Int), 10) ∧ sF (s.extract 0 q) p = (0, 0) ∧ vF (s.extract 0 q) p = true := by
  intro n
  induction n with
  | zero =>
    intro p hp _
    exact Or.inl ⟨sF_end _ _ (by omega), vF_end _ _ (by omega)⟩
  | succ n ih =>
    intro p hp hle
    by_cases h : p < s.size
    · have hw := dec_w s p h
      rw [sF_step s p h]
      by_cases hc : sourceB (stC s p) = true
      · have hv := source_char hc
        rw [if_pos hc]
        rcases ih (p + stW s p) (by omega) (by omega) with ⟨h1, h2⟩ | ⟨q, h1, h2, h3, h4, h5⟩
        · exact Or.inl ⟨h1, by rw [vF_step s p h, hv, h2]; rfl⟩
        · right
          have hd := (stC_ne s p).1 hv
          have hz := size_cut s 0 q (by omega)
          obtain ⟨e1, e2⟩ := stC_same (dec_take s q p (by omega) (by omega) (by unfold stW at h1; omega) hd)
          refine ⟨q, by omega, h2, h3, ?_, ?_⟩
          · rw [sF_step _ _ (by omega), e1, e2, if_pos hc]; exact h4
          · rw [vF_step _ _ (by omega), e1, e2, hv]; exact h5
      · rw [if_neg hc]
        have hz := size_cut s 0 p (by omega)
        exact Or.inr ⟨p, Nat.le_refl _, h, rfl, sF_end _ _ (by omega), vF_end _ _ (by omega)⟩
    · exact Or.inl ⟨sF_end _ _ h, vF_end _ _ h⟩

set_option maxHeartbeats 1000000 in
theorem ahead_walk (s : ByteArray) (w : World) (hs : s.size ≤ 140737488351232) :
    Calls Try.prog 5 #[.string s] w fun e w' => e = .returned (.bool true) ∧ Below w.heap.size w w' := by
  have hb := Below.refl w.heap.size w
  rcases ahead s s.size 0 (by omega) (by omega) with ⟨h1, h2⟩ | ⟨q, _, hq, h3, h4, h5⟩
  · have S1 := fun w => source_any s w (by omega)
    rw [show sourceS s = (0, 0) from h1] at S1
    have V1 := fun w => valid_any s w (by omega)
    rw [show validS s = true from h2] at V1
    clear h1 h2
    go_enter Try.func5, Try.ntmps5
    go_wp2_with (first
      | (go_at_call 6; refine (fixed_any _).mono ?_; rintro e w1 ⟨rfl, hb1⟩; have hb := hb.trans (hb1.mono hb.size); clear hb1)
      | (go_at_call 11; with_reducible refine (S1 _).mono ?_; rintro e w1 ⟨rfl, hb1⟩; have hb := hb.trans (hb1.mono hb.size); clear hb1)
      | (go_at_call 12; with_reducible refine (V1 _).mono ?_; rintro e w1 ⟨rfl, hb1⟩; have hb := hb.trans (hb1.mono hb.size); clear hb1))
    go_ret
    exact ⟨rfl, hb⟩
  · have hz := size_cut s 0 q (by omega)
    have S1 := fun w => source_any s w (by omega)
    rw [show sourceS s = ((q : Int), 10) from h3] at S1
    have S2 := fun w => source_any (s.extract 0 q) w (by omega)
    rw [show sourceS (s.extract 0 q) = (0, 0) from h4] at S2
    have V2 := fun w => valid_any (s.extract 0 q) w (by omega)
    rw [show validS (s.extract 0 q) = true from h5] at V2
    clear h3 h4 h5 hz
    go_enter Try.func5, Try.ntmps5
    go_wp2_with (first
      | (go_at_call 6; refine (fixed_any _).mono ?_; rintro e w1 ⟨rfl, hb1⟩; have hb := hb.trans (hb1.mono hb.size); clear hb1)
      | (go_at_call 11; (first | with_reducible refine (S1 _).mono ?_ | with_reducible refine (S2 _).mono ?_); rintro e w1 ⟨rfl, hb1⟩; have hb := hb.trans (hb1.mono hb.size); clear hb1)
      | (go_at_call 12; with_reducible refine (V2 _).mono ?_; rintro e w1 ⟨rfl, hb1⟩; have hb := hb.trans (hb1.mono hb.size); clear hb1))
    go_ret
    exact ⟨rfl, hb⟩

set_option maxRecDepth 100000 in
theorem runesAhead_lifted (os : Os) (started : os.Started) (H : Type) (enc : TypeId × Value → H) :
    ReturnsInHanded {} Try.checked os 5 .any (Rows.runesAheadSpec.pre6 enc Try.prog Try.f5 Rows.runesAheadRow.domain false) (Rows.runesAheadSpec.post enc Try.prog Try.f5 false true false false) := by
  refine returnsInHanded_of_change_sized (C := Try.checked) Try.own started (by kernel_rfl) Try.func5
    (ChangeSpec.witness6 (enc := enc) (C := Try.checked) false ⟨#[], #[.string ByteArray.empty], []⟩ 8 (by kernel_rfl) (by kernel_rfl) (by kernel_rfl) (by kernel_rfl)) ?_
  intro W base args ds gs before hval0 hW _ hsz _
  have hval : ∀ (j : Nat) t v, Try.f5.params[j]? = some t → args[j]? = some v → Value.okWide Try.prog W .any base t v := hval0
  have hW' := hW
  obtain ⟨p, q, hA0, hV, rfl, hfz, hnd⟩ := hW
  have hA : DataW.TrodAll enc Try.prog W 0 (fun _ => true) true Try.f5.params.toList args.toList ds p := hA0
  rw [Try.params5] at hA hval
  obtain ⟨v0, vs0, d0, ds0, p0, q0, hargs, rfl, rfl, h0, r0⟩ := trodAll_cons hA
  obtain ⟨rfl, rfl, rfl⟩ := trodAll_nil r0
  obtain rfl : args = #[v0] := by cases args; simp_all
  obtain ⟨rfl, rfl⟩ := trodVars_none hV
  obtain ⟨a0, rfl, rfl, rfl, w0⟩ := open_string Try.underlying9 (hval 0 9 v0 rfl rfl) h0
  have b0 : a0.size ≤ 140737488351232 := by
    have h := sized_string hsz (j := 0) rfl rfl
    have e : a0.data.toList.length = a0.size := by rw [Array.length_toList]; rfl
    rw [e] at h
    exact h
  clear hA0 hval0 hsz
  refine (ahead_walk a0 W b0).mono fun e W' ⟨he, bel⟩ => ?_
  subst he
  exact ⟨_, rfl, _, _, _, [], _, [], hW', trodAll_mk1 (shut_bool Try.underlying4 _), (trodAll_cons_mk (shut_string Try.underlying9 w0) trodAll_mk0), rfl, bel.frame _, fun h => by cases h⟩

theorem runesAhead_holds : Rows.RunesAheadSaid :=
  OpenClaim.holds_of_wide 5 Try.f5 rfl rfl rfl rfl rfl rfl rfl ⟨rfl, rfl, rfl, rfl, rfl⟩ rfl rfl rfl rfl rfl (by kernel_rfl) Try.func5 (by kernel_rfl)
    (of_decide_eq_true (by kernel_rfl)) (by unfold Func.isWrapper; first | (rw [if_pos (by decide +kernel)]; kernel_rfl) | (rw [if_neg (by decide +kernel)]; exact ⟨rfl, rfl⟩))
    (fun os started H enc _ => runesAhead_lifted os started H enc)
#print axioms runesAhead_holds

end Go.Proofs.Ytikbomagmedemab
