/- Lines never fall as the place rises, the first place is the first line's first column, within a line the column never falls: for every string (of at most 2^47 - 4096 bytes: the form's own reach). -/
import Derived.Test.YtikbomagmedemabText
import Derived.ProofKit
import Derived.OpenShut
import Derived.ShutString
import Derived.ChangeOld
import Derived.SizedLaws
namespace Go.Proofs.Ytikbomagmedemab
open Go.ChangeShapes Go.WideShapes Go.ChangeAt Go.RowKit
open Go.ChangeMaps (open_string shut_string)

theorem Try.own : ownKnob Try.prog.godebug = none := by kernel_rfl

/-- One step further. -/
def Next (b c : Int × Int) : Prop := c = b ∨ c = (b.1 + 1, 1) ∨ c = (b.1, b.2 + 1)

theorem place_stop (s : ByteArray) (k p : Nat) (a : Int × Int) (h : k < p + 1) : walk s (placeStep s k) p a = a := by
  by_cases hp : p < s.size
  · have hw := dec_w s p hp
    rw [walk_step hp]
    have e : placeStep s k a p = (a, false) := by unfold placeStep; rw [if_pos (by omega)]
    rw [e]
    rfl
  · exact walk_end hp

theorem place_next (s : ByteArray) (k : Nat) : ∀ (n p : Nat) (a : Int × Int), s.size - p ≤ n → Next (walk s (placeStep s k) p a) (walk s (placeStep s (k + 1)) p a) := by
  intro n
  induction n with
  | zero =>
    intro p a hp
    rw [walk_end (by omega), walk_end (by omega)]
    exact Or.inl rfl
  | succ n ih =>
    intro p a hn
    by_cases hp : p < s.size
    · have hw := dec_w s p hp
      rw [walk_step hp, walk_step hp]
      by_cases h1 : k + 1 < p + stW s p
      · have e1 : placeStep s k a p = (a, false) := by unfold placeStep; rw [if_pos (by omega)]
        have e2 : placeStep s (k + 1) a p = (a, false) := by unfold placeStep; rw [if_pos h1]
        rw [e1, e2]
        exact Or.inl rfl
      · by_cases h2 : k < p + stW s p
        · have e1 : placeStep s k a p = (a, false) := by unfold placeStep; rw [if_pos h2]
          by_cases he : endsB s (stC s p) (p + stW s p) = true
          · have e2 : placeStep s (k + 1) a p = ((a.1 + 1, 1), true) := by unfold placeStep; rw [if_neg h1, if_pos he]
            rw [e1, e2, if_neg Bool.false_ne_true, if_pos rfl, place_stop _ _ _ _ (by omega)]
            exact Or.inr (Or.inl rfl)
          · have e2 : placeStep s (k + 1) a p = ((a.1, a.2 + 1), true) := by unfold placeStep; rw [if_neg h1, if_neg he]
            rw [e1, e2, if_neg Bool.false_ne_true, if_pos rfl, place_stop _ _ _ _ (by omega)]
            exact Or.inr (Or.inr rfl)
        · have e : placeStep s k a p = placeStep s (k + 1) a p := by unfold placeStep; rw [if_neg h2, if_neg h1]
          rw [e]
          split
          · exact ih _ _ (by omega)
          · exact Or.inl rfl
    · rw [walk_end hp, walk_end hp]
      exact Or.inl rfl

theorem place_zero (s : ByteArray) : placeS s 0 = (1, 1) := place_stop s 0 0 (1, 1) (by omega)

theorem place_bd (s : ByteArray) (k : Nat) : ∀ (n p : Nat) (a : Int × Int), s.size - p ≤ n → p ≤ s.size → (1 ≤ a.1 ∧ a.1 ≤ p + 1 ∧ 1 ≤ a.2 ∧ a.2 ≤ p + 1) →
    1 ≤ (walk s (placeStep s k) p a).1 ∧ (walk s (placeStep s k) p a).1 ≤ s.size + 1 ∧ 1 ≤ (walk s (placeStep s k) p a).2 ∧ (walk s (placeStep s k) p a).2 ≤ s.size + 1 := by
  intro n
  induction n with
  | zero =>
    intro p a hp hle h
    rw [walk_end (by omega)]
    omega
  | succ n ih =>
    intro p a hn hle h
    by_cases hp : p < s.size
    · have hw := dec_w s p hp
      have hj := placeStep_J s k a p hp h
      rw [walk_step hp]
      split
      · exact ih _ _ (by omega) (by omega) hj
      · omega
    · rw [walk_end hp]
      omega

set_option maxHeartbeats 1000000 in
theorem lines_walk (s : ByteArray) (w : World) (hs : s.size ≤ 140737488351232) :
    Calls Try.prog 3 #[.string s] w fun e w' => e = .returned (.bool true) ∧ Below w.heap.size w w' := by
  have hb := Below.refl w.heap.size w
  by_cases hl : 600 < s.size
  · go_enter Try.func3, Try.ntmps3
    go_wp2_with (go_at_call 6; refine (fixed_any _).mono ?_; rintro e w1 ⟨rfl, hb1⟩; have hb := hb.trans (hb1.mono hb.size); clear hb1)
    go_ret
    exact ⟨rfl, hb⟩
  · have P0 := fun w => place_any s 0 w (by omega)
    have e0 : clampP s 0 = 0 := by unfold clampP; omega
    rw [e0, place_zero s] at P0
    clear e0
    go_enter Try.func3, Try.ntmps3
    go_wp2_with (first
      | (go_at_call 6; refine (fixed_any _).mono ?_; rintro e w1 ⟨rfl, hb1⟩; have hb := hb.trans (hb1.mono hb.size); clear hb1)
      | (go_at_call 7; with_reducible refine (P0 _).mono ?_; rintro e w1 ⟨rfl, hb1⟩; have hb := hb.trans (hb1.mono hb.size); clear hb1))
    go_loopw [3, 4, 5] (fun l c i wr => ∃ k : Nat, k ≤ s.size ∧ i = .int .i64 (k + 1) ∧ l = .int .i64 (placeS s k).1 ∧ c = .int .i64 (placeS s k).2 ∧ Below w.heap.size w wr) (fun _ _ i _ => s.size + 1 - (intOf i).toNat)
    case atStart => exact ⟨0, Nat.zero_le _, rfl, by rw [place_zero], by rw [place_zero], hb⟩
    case round =>
      obtain ⟨k, hk, rfl, rfl, rfl, hbr⟩ := hrel
      by_cases hlt : k < s.size
      · have hP := fun w => place_any s ((k : Int) + 1) w (by omega)
        have e1 : clampP s ((k : Int) + 1) = k + 1 := by unfold clampP; omega
        rw [e1] at hP
        clear e1 P0
        have hn : Next (placeS s k) (placeS s (k + 1)) := place_next s k s.size 0 (1, 1) (by omega)
        have hd : 1 ≤ (placeS s k).1 ∧ (placeS s k).1 ≤ s.size + 1 ∧ 1 ≤ (placeS s k).2 ∧ (placeS s k).2 ≤ s.size + 1 := place_bd s k s.size 0 (1, 1) (by omega) (by omega) (by simp)
        obtain ⟨l, hL⟩ : ∃ l, (placeS s k).1 = l := ⟨_, rfl⟩
        obtain ⟨c, hC⟩ : ∃ c, (placeS s k).2 = c := ⟨_, rfl⟩
        rw [hL, hC] at hd
        obtain ⟨d1, d2, d3, d4⟩ := hd
        unfold Next at hn
        rw [hL, hC] at hn
        rcases hn with hn | hn | hn
        · go_wp2_with (go_at_call 7; with_reducible refine (hP _).mono ?_; rintro e w1 ⟨rfl, hb1⟩; have hbr2 := hbr.trans (hb1.mono hbr.size); clear hb1)
          go_roundw
          case rel => exact ⟨k + 1, by omega, by go_num, by rw [hn]; try rw [hL], by rw [hn]; try rw [hC], hbr2⟩
          case measure => simp [intOf]; omega
        · go_wp2_with (go_at_call 7; with_reducible refine (hP _).mono ?_; rintro e w1 ⟨rfl, hb1⟩; have hbr2 := hbr.trans (hb1.mono hbr.size); clear hb1)
          go_roundw
          case rel => exact ⟨k + 1, by omega, by go_num, by rw [hn]; try rw [hL], by rw [hn]; try rw [hC], hbr2⟩
          case measure => simp [intOf]; omega
        · go_wp2_with (go_at_call 7; with_reducible refine (hP _).mono ?_; rintro e w1 ⟨rfl, hb1⟩; have hbr2 := hbr.trans (hb1.mono hbr.size); clear hb1)
          go_roundw
          case rel => exact ⟨k + 1, by omega, by go_num, by rw [hn]; try rw [hL], by rw [hn]; try rw [hC], hbr2⟩
          case measure => simp [intOf]; omega
      · go_wp2
        go_ret
        exact ⟨rfl, hbr⟩

set_option maxRecDepth 100000 in
theorem runesLines_lifted (os : Os) (started : os.Started) (H : Type) (enc : TypeId × Value → H) :
    ReturnsInHanded {} Try.checked os 3 .any (Rows.runesLinesSpec.pre6 enc Try.prog Try.f3 Rows.runesLinesRow.domain false) (Rows.runesLinesSpec.post enc Try.prog Try.f3 false true false false) := by
  refine returnsInHanded_of_change_sized (C := Try.checked) Try.own started (by kernel_rfl) Try.func3
    (ChangeSpec.witness6 (enc := enc) (C := Try.checked) false ⟨#[], #[.string ByteArray.empty], []⟩ 8 (by kernel_rfl) (by kernel_rfl) (by kernel_rfl) (by kernel_rfl)) ?_
  intro W base args ds gs before hval0 hW _ hsz _
  have hval : ∀ (j : Nat) t v, Try.f3.params[j]? = some t → args[j]? = some v → Value.okWide Try.prog W .any base t v := hval0
  have hW' := hW
  obtain ⟨p, q, hA0, hV, rfl, hfz, hnd⟩ := hW
  have hA : DataW.TrodAll enc Try.prog W 0 (fun _ => true) true Try.f3.params.toList args.toList ds p := hA0
  rw [Try.params3] at hA hval
  obtain ⟨v0, vs0, d0, ds0, p0, q0, hargs, rfl, rfl, h0, r0⟩ := trodAll_cons hA
  obtain ⟨rfl, rfl, rfl⟩ := trodAll_nil r0
  obtain rfl : args = #[v0] := by cases args; simp_all
  obtain ⟨rfl, rfl⟩ := trodVars_none hV
  obtain ⟨a0, rfl, rfl, rfl, w0⟩ := open_string Try.underlying9 (hval 0 9 v0 rfl rfl) h0
  have b0 : a0.size ≤ 140737488351232 := by
    have h := sized_string hsz (j := 0) rfl rfl
    have e : a0.data.toList.length = a0.size := by rw [Array.length_toList]; rfl
    rw [e] at h
    exact h
  clear hA0 hval0 hsz
  refine (lines_walk a0 W b0).mono fun e W' ⟨he, bel⟩ => ?_
  subst he
  exact ⟨_, rfl, _, _, _, [], _, [], hW', trodAll_mk1 (shut_bool Try.underlying4 _), (trodAll_cons_mk (shut_string Try.underlying9 w0) trodAll_mk0), rfl, bel.frame _, fun h => by cases h⟩

theorem runesLines_holds : Rows.RunesLinesSaid :=
  OpenClaim.holds_of_wide 3 Try.f3 rfl rfl rfl rfl rfl rfl rfl ⟨rfl, rfl, rfl, rfl, rfl⟩ rfl rfl rfl rfl rfl (by kernel_rfl) Try.func3 (by kernel_rfl)
    (of_decide_eq_true (by kernel_rfl)) (by unfold Func.isWrapper; first | (rw [if_pos (by decide +kernel)]; kernel_rfl) | (rw [if_neg (by decide +kernel)]; exact ⟨rfl, rfl⟩))
    (fun os started H enc _ => runesLines_lifted os started H enc)
#print axioms runesLines_holds

end Go.Proofs.Ytikbomagmedemab
