/- The document's own Points and Valid. -/
import Derived.Test.YtikbomagmedemaaRefAll
import Derived.Test.YtikbomagmedemaaOwns
namespace Go.Proofs.Ytikbomagmedemaa
open Go.RowKit

set_option maxHeartbeats 4000000 in
theorem rpoints_any (s : ByteArray) (w : World) (hs : s.size ≤ 1099511627776) :
    Calls Try.prog 14 #[.string s] w fun e w' => ((validS s = true ∧ ∃ v, e = .returned (.tuple #[v, .bool true]) ∧ w'.ownsRow w.heap.size 3 1 v (pointsS s).length (intsV (pointsS s))) ∨ (validS s = false ∧ e = .returned (.tuple #[.slice none 0 0, .bool false]))) ∧ Below w.heap.size w w' := by
  have hb := Below.refl w.heap.size w
  obtain ⟨i0, hi, hz0, hz1, hz2⟩ := info_parts Try.infoInt
  go_enter Try.func14, Try.ntmps14
  go_wp2
  go_loopw [4, 5] (fun a k wr => ∃ (p : Nat) (acc : List Int), p ≤ s.size ∧ k = .int .i64 p ∧ acc.length ≤ p ∧ wr.ownsRow w.heap.size 3 1 a acc.length (intsV acc) ∧ walk s (pointsStep s) p acc = pointsS s ∧ vF s p = validS s ∧ Below w.heap.size w wr) (fun _ k _ => s.size - (intOf k).toNat)
  case atStart => exact ⟨0, [], Nat.zero_le _, rfl, Nat.le_refl _, owns_empty w, rfl, rfl, (Below.refl _ _).alloc (Nat.le_refl _) _⟩
  case round =>
    obtain ⟨p, acc, hp, rfl, hl, ho, hW, hV, hbr⟩ := hrel
    have HW : Hid (walk s (pointsStep s) p acc = pointsS s) := hW
    clear hW
    have HV : Hid (vF s p = validS s) := hV
    clear hV
    by_cases hlt : p < s.size
    · have hw := dec_w s p hlt
      have R1 := fun w => rrune_in s p w (by omega) hlt
      have hlt' : (p : Int) < s.size := by omega
      have hV2 := HV.out
      rw [vF_step s p hlt] at hV2
      by_cases hc : stC s p = -1
      · rw [show runeS s p = (0, 0) from if_pos hc] at R1
        have hF : validS s = false := by rw [← hV2, hc]; rfl
        have HF : Hid (validS s = false) := hF
        clear hV2 HW HV hc hF
        go_wp2_with (go_at_call 10; with_reducible refine (R1 _).mono ?_; rintro e w3 ⟨rfl, hb3⟩)
        go_ret2
        exact ⟨Or.inr ⟨HF.out, rfl⟩, hbr.trans (hb3.mono hbr.size)⟩
      · rw [show runeS s p = (stC s p, ((stW s p : Nat) : Int)) from if_neg hc] at R1
        have mW : (((stW s p : Nat) : Int) == 0) = false := by rw [beq_eq_false_iff_ne]; omega
        have HV2 : Hid (vF s (p + stW s p) = validS s) := by
          have e1 : (stC s p != -1) = true := by simpa using hc
          rw [e1, Bool.true_and] at hV2
          exact hV2
        have HW2 : Hid (walk s (pointsStep s) (p + stW s p) (acc ++ [stC s p]) = pointsS s) := (points_step s p acc hlt).symm.trans HW.out
        clear hV2 HW HV hc
        have ho0 := ho
        go_wp2_with (first
          | (go_at_call 10; with_reducible refine (R1 _).mono ?_; rintro e w3 ⟨rfl, hb3⟩; have ho3 := owns_below ho0 hb3; have hbr3 := hbr.trans (hb3.mono hbr.size))
          | (at_builtin; refine wpList_append_own _ rfl _ _ 26 rfl w.heap.size 3 i0 (.int .i64 0) 1 8 Try.underlying26 hi hz0 hz1 hz2 rfl (by decide) _ _ _ rfl (ho3.alloc _) ⟨w3.heap.size, 0, none⟩ 1 1 [.int .i64 (stC s p)] rfl rfl ?c1 ?c2 ?c3 ?c4 ?c5 ?_))
        case c1 =>
          intro j u hj
          match j, hj with
          | 0, hj => simp at hj; subst hj; simp [Addr.add]
        case c2 => intro u hu; simp at hu; subst hu; rfl
        case c3 => unfold maxLen; omega
        case c4 => omega
        case c5 => have := hbr3.size; simp; omega
        intro v' w4 hown' hgrow' _
        have hown2 : w4.ownsRow w.heap.size 3 1 v' (acc ++ [stC s p]).length (intsV (acc ++ [stC s p])) := by
          have e2 : intsV (acc ++ [stC s p]) = intsV acc ++ [.int .i64 (stC s p)] := by simp [intsV]
          rw [e2, List.length_append]
          exact hown'
        have hbr4 : Below w.heap.size w w4 := (hbr3.alloc hbr3.size _).grown hgrow' (by have := hbr3.size; simp; omega) (own_ge ho3)
        clear hown' hgrow' ho ho0 ho3
        go_wp2
        go_roundw
        case rel => exact ⟨p + stW s p, acc ++ [stC s p], by omega, by go_num, by simp; omega, hown2, HW2.out, HV2.out, hbr4⟩
        case measure => simp [intOf]; omega
    · have hE : acc = pointsS s := by rw [← HW.out, walk_end hlt]
      have HT : Hid (validS s = true) := by
        have := HV.out
        rw [vF_end s p hlt] at this
        exact this.symm
      rw [hE] at ho
      clear hE HW HV
      go_wp2
      go_ret2
      exact ⟨Or.inl ⟨HT.out, _, rfl, ho⟩, hbr⟩

set_option maxHeartbeats 400000 in
theorem rvalid_any (s : ByteArray) (w : World) (hs : s.size ≤ 1099511627776) :
    Calls Try.prog 13 #[.string s] w fun e w' => e = .returned (.bool (validS s)) ∧ Below w.heap.size w w' := by
  by_cases hv : validS s = true
  · rw [hv]
    have HV : Hid (validS s = true) := hv
    clear hv
    go_enter Try.func13, Try.ntmps13
    go_wp2_with (go_at_call 14; refine (rpoints_any _ _ hs).mono ?_; rintro e w1 ⟨⟨_, v, rfl, _⟩ | ⟨h1, rfl⟩, hb⟩; rotate_left; exact absurd (HV.out.symm.trans h1) (by decide))
    go_ret
    exact ⟨rfl, hb⟩
  · have hv' : validS s = false := by simpa using hv
    rw [hv']
    have HV : Hid (validS s = false) := hv'
    clear hv hv'
    go_enter Try.func13, Try.ntmps13
    go_wp2_with (go_at_call 14; refine (rpoints_any _ _ hs).mono ?_; rintro e w1 ⟨⟨h1, v, rfl, _⟩ | ⟨_, rfl⟩, hb⟩; exact absurd (HV.out.symm.trans h1) (by decide))
    go_ret
    exact ⟨rfl, hb⟩

end Go.Proofs.Ytikbomagmedemaa
