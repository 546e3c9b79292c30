/- A key is read from its bytes as what it was; whatever is read has just these bytes: the walk of the statement. -/
import Derived.Test.YtghneolphdfdlaaDoorSame
import Derived.Test.YtghneolphdfdlaaDoorBackMath
import Derived.Test.YtghneolphdfdlaaDoorFixed
namespace Go.Proofs.YtghneolphdfdlaaDoor
open Go Go.RowKit

theorem maxD {w : World} (h : SomeMax w) (n : Nat) : SomeMax (w.drewN n) := h
theorem below_four {w w1 w2 w3 w5 : World} (h1 : Below w.heap.size w w1) (h2 : Below w1.heap.size w1 w2) (h3 : Below w2.heap.size w2 w3) (n : Nat) (h5 : Below (w3.drewN n).heap.size (w3.drewN n) w5) : Below w.heap.size w w5 := by
  have a := h1.trans (h2.mono h1.size)
  have b := a.trans (h3.mono a.size)
  have c := below_drewN b n
  exact c.trans (h5.mono c.size)
theorem eq_self (l : List UInt8) : ((ByteArray.mk l.toArray).toList == (ByteArray.mk l.toArray).toList) = true := by simp

set_option maxHeartbeats 4000000 in
/-- The second half: what the bytes say. -/
theorem keysBack_walk (v : Value) (ps : List Pt) (s : List UInt8) (w : World) (hp : PartsAt w v ps) (hS : ∀ p ∈ ps, Small p) (hM : SomeMax w) (hs : s.length ≤ 3999999999) :
    Calls Tryd.prog 7 #[v, .string ⟨s.toArray⟩] w fun e w' => e = .returned (.bool true) ∧ Below w.heap.size w w' := by
  have hW : Words ps := fun p h => (hS p h).2.2
  have D2 := fun w1 (hM1 : SomeMax w1) => decode_any s w1 hs hM1
  cases hk : keyB ps
  · have EN := encode_no v ps w hp hW hk
    cases hd : decL s with
    | none =>
      rw [hd] at D2
      simp only [toldL] at D2
      clear hd hk
      go_enter Tryd.func7, Tryd.ntmps7
      go_wp2_with (first
        | (go_at_call 9; with_reducible refine EN.mono ?_; rintro e w1 ⟨rfl, hb1⟩; have hM1 := maxB hM hb1)
        | (go_at_call 11; refine (fixed_any _ hM1).mono ?_; rintro e w2 ⟨rfl, hb2⟩; have hM2 := maxB hM1 hb2)
        | (go_at_call 14; refine (D2 _ hM2).mono ?_; rintro e w3 ⟨rfl, hb3⟩))
      go_ret
      exact ⟨rfl, (hb1.trans (hb2.mono hb1.size)).trans (hb3.mono (by have := hb1.size; have := hb2.size; omega))⟩
    | some qs =>
      obtain ⟨q1, q2, q3⟩ := enc_decL s qs hd
      rw [hd] at D2
      simp only [toldL] at D2
      have E2 := fun v2 w3 (hp2 : PartsAt w3 v2 qs) (hM3 : SomeMax w3) => encode_yes v2 qs w3 hp2 (fun p h => (q3 p h).2.2) hM3 q2
      rw [q1] at E2
      have hq := eq_self s
      clear hd hk q1 q2 q3
      go_enter Tryd.func7, Tryd.ntmps7
      go_wp2_with (first
        | (go_at_call 11; refine (fixed_any _ hM1).mono ?_; rintro e w2 ⟨rfl, hb2⟩; have hM2 := maxB hM1 hb2)
        | (go_at_call 14; refine (D2 _ hM2).mono ?_; rintro e w3 ⟨⟨v2, rfl, hP, _⟩, hb3⟩; have hM3 := maxB hM2 hb3)
        | (go_at_call 9; with_reducible refine EN.mono ?_; rintro e w1 ⟨rfl, hb1⟩; have hM1 := maxB hM hb1)
        | (go_at_call 9; refine (E2 _ _ (parts_of_own hP) hM3).mono ?_; rintro e w4 ⟨rfl, hb4⟩))
      go_ret
      exact ⟨rfl, ((hb1.trans (hb2.mono hb1.size)).trans (hb3.mono (by have := hb1.size; have := hb2.size; omega))).trans (hb4.mono (by have := hb1.size; have := hb2.size; have := hb3.size; omega))⟩
  · have EN := encode_yes v ps w hp hW hM hk
    have D1 := fun w1 (hM1 : SomeMax w1) => decode_any (encL ps) w1 (by have := encL_len ps (keyB_parts hk).2; have := (keyB_parts hk).1; omega) hM1
    rw [decL_enc ps hk hS] at D1
    simp only [toldL] at D1
    have hlen := (keyB_parts hk).1
    have SM := fun v1 w3 (hp1 : PartsAt w3 v1 ps) (hp2 : PartsAt w3 v ps) => same_yes v1 v ps w3 hp1 hp2 (by omega)
    clear hk
    generalize encL ps = T at *
    cases hd : decL s with
    | none =>
      rw [hd] at D2
      simp only [toldL] at D2
      clear hd
      go_enter Tryd.func7, Tryd.ntmps7
      go_wp2_with (first
        | (go_at_call 9; with_reducible refine EN.mono ?_; rintro e w1 ⟨rfl, hb1⟩; have hM1 := maxB hM hb1; have hp1 := hp.below hb1)
        | (go_at_call 11; refine (fixed_any _ hM1).mono ?_; rintro e w2 ⟨rfl, hb2⟩; have hM2 := maxB hM1 hb2; have hp2 := hp1.below hb2)
        | (go_at_call 14; with_reducible refine (D1 _ hM2).mono ?_; rintro e w3 ⟨⟨v1, rfl, hP1, _⟩, hb3⟩; have hM3 := maxB hM2 hb3; have hp3 := hp2.below hb3)
        | (go_at_call 15; refine (SM _ _ (parts_of_own hP1) hp3).mono ?_; rintro e w4 ⟨rfl, n, rfl⟩; have hM4 := maxD hM3 n)
        | (go_at_call 14; with_reducible refine (D2 _ hM4).mono ?_; rintro e w5 ⟨rfl, hb5⟩))
      go_ret
      exact ⟨rfl, below_four hb1 hb2 hb3 n hb5⟩
    | some qs =>
      obtain ⟨q1, q2, q3⟩ := enc_decL s qs hd
      rw [hd] at D2
      simp only [toldL] at D2
      have E2 := fun v2 w3 (hp2 : PartsAt w3 v2 qs) (hM3 : SomeMax w3) => encode_yes v2 qs w3 hp2 (fun p h => (q3 p h).2.2) hM3 q2
      rw [q1] at E2
      have hq := eq_self s
      clear hd q1 q2 q3
      go_enter Tryd.func7, Tryd.ntmps7
      go_wp2_with (first
        | (go_at_call 9; with_reducible refine EN.mono ?_; rintro e w1 ⟨rfl, hb1⟩; have hM1 := maxB hM hb1; have hp1 := hp.below hb1)
        | (go_at_call 11; refine (fixed_any _ hM1).mono ?_; rintro e w2 ⟨rfl, hb2⟩; have hM2 := maxB hM1 hb2; have hp2 := hp1.below hb2)
        | (go_at_call 14; with_reducible refine (D1 _ hM2).mono ?_; rintro e w3 ⟨⟨v1, rfl, hP1, _⟩, hb3⟩; have hM3 := maxB hM2 hb3; have hp3 := hp2.below hb3)
        | (go_at_call 15; refine (SM _ _ (parts_of_own hP1) hp3).mono ?_; rintro e w4 ⟨rfl, n, rfl⟩; have hM4 := maxD hM3 n)
        | (go_at_call 14; with_reducible refine (D2 _ hM4).mono ?_; rintro e w5 ⟨⟨v2, rfl, hP, _⟩, hb5⟩; have hM5 := maxB hM4 hb5)
        | (go_at_call 9; refine (E2 _ _ (parts_of_own hP) hM5).mono ?_; rintro e w6 ⟨rfl, hb6⟩))
      go_ret
      have hb := below_four hb1 hb2 hb3 n hb5
      exact ⟨rfl, hb.trans (hb6.mono hb.size)⟩
end Go.Proofs.YtghneolphdfdlaaDoor
