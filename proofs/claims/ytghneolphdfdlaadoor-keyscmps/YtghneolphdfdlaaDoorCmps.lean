/- How any two keys stand, and what stands behind all that begin with any bytes: the walk of the statement. -/
import Derived.Test.YtghneolphdfdlaaDoorCmpsMath
import Derived.Test.YtghneolphdfdlaaDoorQAft
import Derived.Test.YtghneolphdfdlaaDoorFixed
import Derived.Test.YtghneolphdfdlaaDoorEnc
namespace Go.Proofs.YtghneolphdfdlaaDoor
open Go Go.RowKit

theorem qcmp_key (v u : Value) (ps qs : List Pt) (w : World) (hp : PartsAt w v ps) (hq : PartsAt w u qs) (wp : Words ps) (wq : Words qs) (kp : keyB ps = true) (kq : keyB qs = true) :
    Calls Tryd.prog 20 #[v, u] w fun e w' => e = .returned (.int .i64 (cmpL ps qs)) ∧ Below w.heap.size w w' := by
  have hp0 := hp
  have hq0 := hq
  obtain ⟨a, cap, rfl, _⟩ := hp
  obtain ⟨a', cap', rfl, _⟩ := hq
  unfold keyB at kp kq
  rw [Bool.and_eq_true, decide_eq_true_iff] at kp kq
  exact qcmp_some a a' cap cap' ps qs w hp0 hq0 kp.1 kq.1 kp.2 kq.2 wp wq
theorem eqS (l : List UInt8) : ((ByteArray.mk l.toArray).toList == (ByteArray.mk l.toArray).toList) = true := by simp

set_option maxHeartbeats 4000000 in
theorem keysCmps_walk (v u : Value) (ps qs : List Pt) (s : ByteArray) (w : World) (hp : PartsAt w v ps) (hq : PartsAt w u qs) (wp : Words ps) (wq : Words qs) (hM : SomeMax w) (hl : ps.length ≤ 1099511627776000) (hl2 : qs.length ≤ 1099511627776000) (hs : s.size ≤ 140737488351232) :
    Calls Tryd.prog 5 #[v, u, .string s] w fun e w' => e = .returned (.bool true) ∧ Below w.heap.size w w' := by
  have A := fun w => after_any s w hs
  have B := fun w => qafter_any s w hs
  have hE := eqS (afterS s.data.toList)
  generalize afterS s.data.toList = S at A B hE
  generalize (ByteArray.mk S.toArray) = S2 at A B hE
  generalize afterB s.data.toList = sb at A B
  have CA := fun w1 (h : PartsAt w1 v ps) => qcheck_any v ps w1 h (by omega)
  have CB := fun w1 (h : PartsAt w1 u qs) => qcheck_any u qs w1 h (by omega)
  cases k1 : keyB ps
  · rw [check_no k1] at CA
    clear CB k1
    go_enter Tryd.func5, Tryd.ntmps5
    go_wp2_with (first
      | (go_at_call 16; refine (A _).mono ?_; rintro e w1 ⟨rfl, hb1⟩; have hM1 := maxB hM hb1; have hp1 := hp.below hb1)
      | (go_at_call 17; refine (B _).mono ?_; rintro e w2 ⟨rfl, hb2⟩; have hM2 := maxB hM1 hb2; have hp2 := hp1.below hb2)
      | (go_at_call 11; refine (fixed_any _ hM2).mono ?_; rintro e w3 ⟨rfl, hb3⟩; have hp3 := hp2.below hb3)
      | (go_at_call 18; refine (CA _ hp3).mono ?_; rintro e w4 ⟨rfl, hb4⟩))
    go_ret
    have x2 := hb1.trans (hb2.mono hb1.size)
    have x3 := x2.trans (hb3.mono x2.size)
    exact ⟨rfl, x3.trans (hb4.mono x3.size)⟩
  · rw [check_yes k1] at CA
    cases k2 : keyB qs
    · rw [check_no k2] at CB
      clear k1 k2
      go_enter Tryd.func5, Tryd.ntmps5
      go_wp2_with (first
        | (go_at_call 16; refine (A _).mono ?_; rintro e w1 ⟨rfl, hb1⟩; have hM1 := maxB hM hb1; have hp1 := hp.below hb1; have hq1 := hq.below hb1)
        | (go_at_call 17; refine (B _).mono ?_; rintro e w2 ⟨rfl, hb2⟩; have hM2 := maxB hM1 hb2; have hp2 := hp1.below hb2; have hq2 := hq1.below hb2)
        | (go_at_call 11; refine (fixed_any _ hM2).mono ?_; rintro e w3 ⟨rfl, hb3⟩; have hp3 := hp2.below hb3; have hq3 := hq2.below hb3)
        | (go_at_call 18; with_reducible refine (CA _ hp3).mono ?_; rintro e w4 ⟨rfl, hb4⟩; have hq4 := hq3.below hb4)
        | (go_at_call 18; with_reducible refine (CB _ hq4).mono ?_; rintro e w5 ⟨rfl, hb5⟩))
      go_ret
      have x2 := hb1.trans (hb2.mono hb1.size)
      have x3 := x2.trans (hb3.mono x2.size)
      have x4 := x3.trans (hb4.mono x3.size)
      exact ⟨rfl, x4.trans (hb5.mono x4.size)⟩
    · rw [check_yes k2] at CB
      have l1 := (keyB_parts k1).1
      have l2 := (keyB_parts k2).1
      have K1 := fun w1 (h : PartsAt w1 v ps) (h' : PartsAt w1 u qs) => kcmp_any v u ps qs w1 h h' (by omega) (by omega)
      have K2 := fun w1 (h : PartsAt w1 v ps) (h' : PartsAt w1 u qs) => kcmp_any u v qs ps w1 h' h (by omega) (by omega)
      have K3 := fun w1 (h : PartsAt w1 v ps) (h' : PartsAt w1 u qs) => qcmp_key v u ps qs w1 h h' wp wq k1 k2
      have hN := cmpL_neg ps qs
      obtain ⟨b1, b2⟩ := cmpL_bd ps qs
      rw [hN] at K2
      clear hN k1 k2 wp wq l1 l2
      generalize cmpL ps qs = r at *
      go_enter Tryd.func5, Tryd.ntmps5
      go_wp2_with (first
        | (go_at_call 16; refine (A _).mono ?_; rintro e w1 ⟨rfl, hb1⟩; have hM1 := maxB hM hb1; have hp1 := hp.below hb1; have hq1 := hq.below hb1)
        | (go_at_call 17; refine (B _).mono ?_; rintro e w2 ⟨rfl, hb2⟩; have hM2 := maxB hM1 hb2; have hp2 := hp1.below hb2; have hq2 := hq1.below hb2)
        | (go_at_call 11; refine (fixed_any _ hM2).mono ?_; rintro e w3 ⟨rfl, hb3⟩; have hp3 := hp2.below hb3; have hq3 := hq2.below hb3)
        | (go_at_call 18; with_reducible refine (CA _ hp3).mono ?_; rintro e w4 ⟨rfl, hb4⟩; have hp4 := hp3.below hb4; have hq4 := hq3.below hb4)
        | (go_at_call 18; with_reducible refine (CB _ hq4).mono ?_; rintro e w5 ⟨rfl, hb5⟩; have hp5 := hp4.below hb5; have hq5 := hq4.below hb5)
        | (go_at_call 19; with_reducible refine (K1 _ hp5 hq5).mono ?_; rintro e w6 ⟨rfl, hb6⟩; have hp6 := hp5.below hb6; have hq6 := hq5.below hb6)
        | (go_at_call 20; with_reducible refine (K3 _ hp6 hq6).mono ?_; rintro e w7 ⟨rfl, hb7⟩; have hp7 := hp6.below hb7; have hq7 := hq6.below hb7)
        | (go_at_call 19; with_reducible refine (K2 _ hp7 hq7).mono ?_; rintro e w8 ⟨rfl, hb8⟩; have hp8 := hp7.below hb8; have hq8 := hq7.below hb8)
        | (go_at_call 20; with_reducible refine (K3 _ hp8 hq8).mono ?_; rintro e w9 ⟨rfl, hb9⟩))
      go_ret
      have x2 := hb1.trans (hb2.mono hb1.size)
      have x3 := x2.trans (hb3.mono x2.size)
      have x4 := x3.trans (hb4.mono x3.size)
      have x5 := x4.trans (hb5.mono x4.size)
      have x6 := x5.trans (hb6.mono x5.size)
      have x7 := x6.trans (hb7.mono x6.size)
      have x8 := x7.trans (hb8.mono x7.size)
      refine ⟨?_, x8.trans (hb9.mono x8.size)⟩
      first | rfl | exact ret_bool (by simp) | exact ret_bool (by simp; omega)
end Go.Proofs.YtghneolphdfdlaaDoor
