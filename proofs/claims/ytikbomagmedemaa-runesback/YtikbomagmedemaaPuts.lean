/- The bytes of any number, or that it is no character, are as the document says, and a character's bytes are read as it: for every int. -/
import Derived.Test.YtikbomagmedemaaRef
import Derived.ProofKit
import Derived.OpenShut
import Derived.ShutString
import Derived.ChangeOld
import Derived.SizedLaws
namespace Go.Proofs.Ytikbomagmedemaa
open Go.ChangeShapes Go.WideShapes Go.ChangeAt Go.RowKit
open Go.ChangeMaps (open_string shut_string)

theorem Try.own : ownKnob Try.prog.godebug = none := by kernel_rfl

theorem cut_all (s : ByteArray) : s.extract 0 s.size = s := by
  have hz := size_cut s 0 s.size (Nat.le_refl _)
  refine ext_get (by omega) fun i hi => ?_
  rw [get_cut s 0 s.size i (Nat.le_refl _) (by omega), Nat.zero_add]

theorem char_not_err (n : Nat) (h : charB (n : Int) = true) : (n, (Utf8.encode (n : Int)).size) ≠ (65533, 1) := by
  intro e
  have e2 := congrArg Prod.fst e
  have e3 := congrArg Prod.snd e
  simp only at e2 e3
  have hs := encode_size n h
  rw [e2] at hs e3
  rw [hs] at e3
  exact absurd e3 (by decide)

theorem runeS_of (s : ByteArray) (p c k : Nat) (hd : Utf8.decode s p = (c, k)) (hne : (c, k) ≠ (65533, 1)) : runeS s p = ((c : Int), (k : Int)) := by
  have h1 : Utf8.decode s p ≠ (65533, 1) := by rw [hd]; exact hne
  have h2 : stC s p = ((Utf8.decode s p).1 : Int) := by unfold stC; rw [if_neg h1]
  have h3 : stW s p = (Utf8.decode s p).2 := rfl
  have e2 : (Utf8.decode s p).1 = c := by rw [hd]
  have e3 : (Utf8.decode s p).2 = k := by rw [hd]
  rw [e2] at h2
  rw [e3] at h3
  unfold runeS
  rw [h2, h3, if_neg (by omega)]

theorem rune_enc (c : Int) (h : charB c = true) : 0 < (Utf8.encode c).size ∧ runeS (Utf8.encode c) 0 = (c, ((Utf8.encode c).size : Int)) := by
  have hd := charB_bd h
  obtain ⟨n, rfl⟩ : ∃ n : Nat, c = n := ⟨c.toNat, by omega⟩
  have hs := encode_size n h
  have hl := encL_le n
  refine ⟨by omega, ?_⟩
  have hdec := dec_of_enc (Utf8.encode (n : Int)) 0 n h (by omega) (by rw [Nat.zero_add]; exact cut_all _)
  exact runeS_of _ _ _ _ hdec (char_not_err n h)

set_option maxHeartbeats 1000000 in
theorem puts_walk (c : Int) (w : World) :
    Calls Try.prog 4 #[.int .i64 c] w fun e w' => e = .returned (.bool true) ∧ Below w.heap.size w w' := by
  have hb := Below.refl w.heap.size w
  by_cases h : charB c = true
  · have hr := rune_enc c h
    have hz := enc_small c h
    have R1 : ∀ w, Calls Try.prog 9 #[.string (Utf8.encode c), .int .i64 0] w fun e w' => e = .returned (.tuple #[.int .i64 c, .int .i64 (Utf8.encode c).size]) ∧ Below w.heap.size w w' := fun w => by
      have h := rune_in (Utf8.encode c) 0 w (by omega) hr.1
      rw [hr.2] at h
      exact h
    clear hr hz
    go_enter Try.func4, Try.ntmps4
    go_wp2_with (first
      | (go_at_call 11; refine (fixed_any _).mono ?_; rintro e w1 ⟨rfl, hb1⟩; have hb := hb.trans (hb1.mono hb.size); clear hb1)
      | (go_at_call 17; refine (put_yes _ _ h).mono ?_; rintro e w1 ⟨rfl, rfl⟩)
      | (go_at_call 18; refine (rput_yes _ _ h).mono ?_; rintro e w1 ⟨rfl, hb1⟩; have hb := hb.trans (hb1.mono hb.size); clear hb1)
      | (go_at_call 9; refine (R1 _).mono ?_; rintro e w1 ⟨rfl, hb1⟩; have hb := hb.trans (hb1.mono hb.size); clear hb1))
    go_ret
    exact ⟨rfl, hb⟩
  · have h' : charB c = false := by simpa using h
    clear h
    go_enter Try.func4, Try.ntmps4
    go_wp2_with (first
      | (go_at_call 11; refine (fixed_any _).mono ?_; rintro e w1 ⟨rfl, hb1⟩; have hb := hb.trans (hb1.mono hb.size); clear hb1)
      | (go_at_call 17; refine (put_no _ _ h').mono ?_; rintro e w1 ⟨rfl, rfl⟩)
      | (go_at_call 18; refine (rput_no _ _ h').mono ?_; rintro e w1 ⟨rfl, rfl⟩)
      | (go_at_call 9; refine (rune_out _ _ _ (by decide)).mono ?_; rintro e w1 ⟨rfl, rfl⟩))
    go_ret
    exact ⟨rfl, hb⟩

set_option maxRecDepth 100000 in
theorem runesPuts_lifted (os : Os) (started : os.Started) (H : Type) (enc : TypeId × Value → H) :
    ReturnsInHanded {} Try.checked os 4 .any (Rows.runesPutsSpec.pre6 enc Try.prog Try.f4 Rows.runesPutsRow.domain false) (Rows.runesPutsSpec.post enc Try.prog Try.f4 false true false false) := by
  refine returnsInHanded_of_change_sized (C := Try.checked) Try.own started (by kernel_rfl) Try.func4
    (ChangeSpec.witness6 (enc := enc) (C := Try.checked) false ⟨#[], #[.int .i64 0], []⟩ 8 (by kernel_rfl) (by kernel_rfl) (by kernel_rfl) (by kernel_rfl)) ?_
  intro W base args ds gs before hval0 hW _ hsz _
  have hval : ∀ (j : Nat) t v, Try.f4.params[j]? = some t → args[j]? = some v → Value.okWide Try.prog W .any base t v := hval0
  have hW' := hW
  obtain ⟨p, q, hA0, hV, rfl, hfz, hnd⟩ := hW
  have hA : DataW.TrodAll enc Try.prog W 0 (fun _ => true) true Try.f4.params.toList args.toList ds p := hA0
  rw [Try.params4] at hA hval
  obtain ⟨v0, vs0, d0, ds0, p0, q0, hargs, rfl, rfl, h0, r0⟩ := trodAll_cons hA
  obtain ⟨rfl, rfl, rfl⟩ := trodAll_nil r0
  obtain rfl : args = #[v0] := by cases args; simp_all
  obtain ⟨rfl, rfl⟩ := trodVars_none hV
  obtain ⟨a0, rfl, rfl, rfl, w0⟩ := open_int Try.underlying3 (hval 0 3 v0 rfl rfl) h0
  clear hA0 hval0 hsz
  refine (puts_walk a0 W ).mono fun e W' ⟨he, bel⟩ => ?_
  subst he
  exact ⟨_, rfl, _, _, _, [], _, [], hW', trodAll_mk1 (shut_bool Try.underlying4 _), (trodAll_cons_mk (shut_int Try.underlying3 w0) trodAll_mk0), rfl, bel.frame _, fun h => by cases h⟩

theorem runesPuts_holds : Rows.RunesPutsSaid :=
  OpenClaim.holds_of_wide 4 Try.f4 rfl rfl rfl rfl rfl rfl rfl ⟨rfl, rfl, rfl, rfl, rfl⟩ rfl rfl rfl rfl rfl (by kernel_rfl) Try.func4 (by kernel_rfl)
    (of_decide_eq_true (by kernel_rfl)) (by unfold Func.isWrapper; first | (rw [if_pos (by decide +kernel)]; kernel_rfl) | (rw [if_neg (by decide +kernel)]; exact ⟨rfl, rfl⟩))
    (fun os started H enc _ => runesPuts_lifted os started H enc)
#print axioms runesPuts_holds

end Go.Proofs.Ytikbomagmedemaa
