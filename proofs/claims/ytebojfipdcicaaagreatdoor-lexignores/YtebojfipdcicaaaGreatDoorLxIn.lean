/- Whatever is ignored changes nothing but places: the walks (none). -/
import Derived.Test.YtebojfipdcicaaaGreatDoorLxIg
namespace Go.Proofs.YtebojfipdcicaaaGreatDoor
open Go Go.RowKit

set_option maxRecDepth 100000 in
set_option maxHeartbeats 4000000 in
theorem ign_mid_nn (D X1 X2 GB TT : ByteArray) (ts us : List Tok) (W A : Int) (N G Wk Ak P : Nat) (a c : Int) (t : Tok) (ht0 : ts[Ak]? = some t) (hP : t.b = P) (hput : Put D X1 X2 GB TT N P G) (hPn : P ≤ N) (hN : N ≤ 16384) (hG : G ≤ 4) (hlen : ts.length ≤ 2048)
    (hgb : ∀ w : World, (w.alloc (.cells gapsA 9)).cell? ⟨w.heap.size, Wk, none⟩ = some (.string GB)) (hWk : Wk < 8) (hW0 : W < 0) (w1 : W + 8 = (Wk : Int)) (hA0 : A < 0) (a1 : A + ((ts.length : Int) + 1) = (Ak : Int)) (d1 : c.tmod 8 = W) (d2 : a.tmod ((ts.length : Int) + 1) = A) (hfit : N + G ≤ 16384 → alikeT us ts)
    (T : ∀ w, Gl w → Calls Tryz.prog 10 #[.string D] w (TokensP w (.inr ts))) (T2 : N + G ≤ 16384 → ∀ w, Gl w → Calls Tryz.prog 10 #[.string TT] w (TokensP w (.inr us))) (w : World) (gl : Gl w) (hz : Tz w) :
    Calls Tryz.prog 7 #[.string D, .int .i64 a, .int .i64 c] w fun e w' => e = .returned (.bool true) ∧ Below w.heap.size w w' := by
  have ok : Ok w w := ⟨Below.refl _ _, gl, hz⟩
  have hAk : Ak < ts.length := (List.getElem?_eq_some_iff.1 ht0).1
  have hne : ts ≠ [] := by rintro rfl; simp at hAk
  have y1 : ¬ (Ak : Int) = (ts.length : Int) := by omega
  have y2 : ((Ak : Int) == (ts.length : Int)) = false := by simpa using y1
  obtain ⟨p1, p2, p3, p4, p5, p6, p7, p8⟩ := hput
  clear gl hz
  go_enter Tryz.func7, Tryz.ntmps7
  go_wp2_with (first
    | (go_at_call 12; refine (fixed_any _ ok1.gl ok1.tz).mono ?_; rintro e w2 ⟨rfl, hb2⟩; have ok2 := ok1.go hb2; have q2 := fun o => cell_al hb2 (p := ⟨b, o' + Ak * 4 + 2, none⟩) hblt h2 o; have g2 := hgb w2)
    | (go_at_call 10; refine (T _ ok.gl).mono ?_; rintro e w1 ⟨⟨v, rfl, ht⟩, hb1⟩; have ok1 := ok.go hb1; have HT : Hid (ToksAt w1 v ts) := toksAt_own ht; obtain ⟨a0, cap, rfl, hcap, hca⟩ := toksAt_own ht; obtain ⟨b, o', rfl, hblt, hcell⟩ := hca hne; obtain ⟨_, _, h2, _⟩ := hcell Ak t ht0; clear hcell hca ht; rw [hP] at h2)
    | fail)
  go_quiet (fail)
  have hb4 := below_allN w2 (.cells #[.string ⟨#[32]⟩, .string ⟨#[44]⟩, .string ⟨#[10]⟩, .string ⟨#[13]⟩, .string ⟨#[9]⟩, .string ⟨#[239, 187, 191]⟩, .string ⟨#[35, 120, 10]⟩, .string ⟨#[44, 35, 34, 13]⟩] 9) nq
  generalize (w2.alloc (.cells #[.string ⟨#[32]⟩, .string ⟨#[44]⟩, .string ⟨#[10]⟩, .string ⟨#[13]⟩, .string ⟨#[9]⟩, .string ⟨#[239, 187, 191]⟩, .string ⟨#[35, 120, 10]⟩, .string ⟨#[44, 35, 34, 13]⟩] 9)).drewN nq = w4 at hb4 ⊢
  have ok4 := ok2.go hb4
  clear hgb g2 T q2
  by_cases hf : N + G ≤ 16384
  · have z1 : ¬ (16384 : Int) < (N : Int) + (G : Int) := by omega
    have z2 : ¬ (16384 : Int) < ((N + G : Nat) : Int) := by omega
    have hal := hfit hf
    have T3 := T2 hf
    have HU : Hid (us.length ≤ 1099511627776) := by
      have := congrArg List.length hal
      have h2 : us.length = ts.length := by simpa using this
      show us.length ≤ 1099511627776
      omega
    go_wp2_with (first
      | (go_at_call 18; (with_reducible refine (alike_yes _ _ us ts _ hu (((HT.out.below hb2).below hb4).below hb5) hal HU.out).mono ?_); rintro e w6 ⟨rfl, m6, rfl⟩)
      | (go_at_call 10; (with_reducible refine (T3 _ ok4.gl).mono ?_); rintro e w5 ⟨⟨u5, rfl, ht5⟩, hb5⟩; have ok5 := ok4.go hb5; have hu := toksAt_own ht5; obtain ⟨a5, c5, rfl⟩ := toks_sl ht5)
      | fail)
    go_ret
    exact ⟨by first | rfl | simp, below_drewW ok5.bel m6⟩
  · have z1 : (16384 : Int) < (N : Int) + (G : Int) := by omega
    have z2 : (16384 : Int) < ((N + G : Nat) : Int) := by omega
    go_wp2
    go_ret
    exact ⟨rfl, ok4.bel⟩

set_option maxRecDepth 100000 in
set_option maxHeartbeats 4000000 in
theorem ign_mid_np (D X1 X2 GB TT : ByteArray) (ts us : List Tok) (W A : Int) (N G Wk Ak P : Nat) (a c : Int) (t : Tok) (ht0 : ts[Ak]? = some t) (hP : t.b = P) (hput : Put D X1 X2 GB TT N P G) (hPn : P ≤ N) (hN : N ≤ 16384) (hG : G ≤ 4) (hlen : ts.length ≤ 2048)
    (hgb : ∀ w : World, (w.alloc (.cells gapsA 9)).cell? ⟨w.heap.size, Wk, none⟩ = some (.string GB)) (hWk : Wk < 8) (hW0 : W < 0) (w1 : W + 8 = (Wk : Int)) (hA0 : ¬ A < 0) (a1 : A = (Ak : Int)) (d1 : c.tmod 8 = W) (d2 : a.tmod ((ts.length : Int) + 1) = A) (hfit : N + G ≤ 16384 → alikeT us ts)
    (T : ∀ w, Gl w → Calls Tryz.prog 10 #[.string D] w (TokensP w (.inr ts))) (T2 : N + G ≤ 16384 → ∀ w, Gl w → Calls Tryz.prog 10 #[.string TT] w (TokensP w (.inr us))) (w : World) (gl : Gl w) (hz : Tz w) :
    Calls Tryz.prog 7 #[.string D, .int .i64 a, .int .i64 c] w fun e w' => e = .returned (.bool true) ∧ Below w.heap.size w w' := by
  have ok : Ok w w := ⟨Below.refl _ _, gl, hz⟩
  have hAk : Ak < ts.length := (List.getElem?_eq_some_iff.1 ht0).1
  have hne : ts ≠ [] := by rintro rfl; simp at hAk
  have y1 : ¬ (Ak : Int) = (ts.length : Int) := by omega
  have y2 : ((Ak : Int) == (ts.length : Int)) = false := by simpa using y1
  subst a1
  obtain ⟨p1, p2, p3, p4, p5, p6, p7, p8⟩ := hput
  clear gl hz
  go_enter Tryz.func7, Tryz.ntmps7
  go_wp2_with (first
    | (go_at_call 12; refine (fixed_any _ ok1.gl ok1.tz).mono ?_; rintro e w2 ⟨rfl, hb2⟩; have ok2 := ok1.go hb2; have q2 := fun o => cell_al hb2 (p := ⟨b, o' + Ak * 4 + 2, none⟩) hblt h2 o; have g2 := hgb w2)
    | (go_at_call 10; refine (T _ ok.gl).mono ?_; rintro e w1 ⟨⟨v, rfl, ht⟩, hb1⟩; have ok1 := ok.go hb1; have HT : Hid (ToksAt w1 v ts) := toksAt_own ht; obtain ⟨a0, cap, rfl, hcap, hca⟩ := toksAt_own ht; obtain ⟨b, o', rfl, hblt, hcell⟩ := hca hne; obtain ⟨_, _, h2, _⟩ := hcell Ak t ht0; clear hcell hca ht; rw [hP] at h2)
    | fail)
  go_quiet (fail)
  have hb4 := below_allN w2 (.cells #[.string ⟨#[32]⟩, .string ⟨#[44]⟩, .string ⟨#[10]⟩, .string ⟨#[13]⟩, .string ⟨#[9]⟩, .string ⟨#[239, 187, 191]⟩, .string ⟨#[35, 120, 10]⟩, .string ⟨#[44, 35, 34, 13]⟩] 9) nq
  generalize (w2.alloc (.cells #[.string ⟨#[32]⟩, .string ⟨#[44]⟩, .string ⟨#[10]⟩, .string ⟨#[13]⟩, .string ⟨#[9]⟩, .string ⟨#[239, 187, 191]⟩, .string ⟨#[35, 120, 10]⟩, .string ⟨#[44, 35, 34, 13]⟩] 9)).drewN nq = w4 at hb4 ⊢
  have ok4 := ok2.go hb4
  clear hgb g2 T q2
  by_cases hf : N + G ≤ 16384
  · have z1 : ¬ (16384 : Int) < (N : Int) + (G : Int) := by omega
    have z2 : ¬ (16384 : Int) < ((N + G : Nat) : Int) := by omega
    have hal := hfit hf
    have T3 := T2 hf
    have HU : Hid (us.length ≤ 1099511627776) := by
      have := congrArg List.length hal
      have h2 : us.length = ts.length := by simpa using this
      show us.length ≤ 1099511627776
      omega
    go_wp2_with (first
      | (go_at_call 18; (with_reducible refine (alike_yes _ _ us ts _ hu (((HT.out.below hb2).below hb4).below hb5) hal HU.out).mono ?_); rintro e w6 ⟨rfl, m6, rfl⟩)
      | (go_at_call 10; (with_reducible refine (T3 _ ok4.gl).mono ?_); rintro e w5 ⟨⟨u5, rfl, ht5⟩, hb5⟩; have ok5 := ok4.go hb5; have hu := toksAt_own ht5; obtain ⟨a5, c5, rfl⟩ := toks_sl ht5)
      | fail)
    go_ret
    exact ⟨by first | rfl | simp, below_drewW ok5.bel m6⟩
  · have z1 : (16384 : Int) < (N : Int) + (G : Int) := by omega
    have z2 : (16384 : Int) < ((N + G : Nat) : Int) := by omega
    go_wp2
    go_ret
    exact ⟨rfl, ok4.bel⟩

set_option maxRecDepth 100000 in
set_option maxHeartbeats 4000000 in
theorem ign_mid_pn (D X1 X2 GB TT : ByteArray) (ts us : List Tok) (W A : Int) (N G Wk Ak P : Nat) (a c : Int) (t : Tok) (ht0 : ts[Ak]? = some t) (hP : t.b = P) (hput : Put D X1 X2 GB TT N P G) (hPn : P ≤ N) (hN : N ≤ 16384) (hG : G ≤ 4) (hlen : ts.length ≤ 2048)
    (hgb : ∀ w : World, (w.alloc (.cells gapsA 9)).cell? ⟨w.heap.size, Wk, none⟩ = some (.string GB)) (hWk : Wk < 8) (hW0 : ¬ W < 0) (w1 : W = (Wk : Int)) (hA0 : A < 0) (a1 : A + ((ts.length : Int) + 1) = (Ak : Int)) (d1 : c.tmod 8 = W) (d2 : a.tmod ((ts.length : Int) + 1) = A) (hfit : N + G ≤ 16384 → alikeT us ts)
    (T : ∀ w, Gl w → Calls Tryz.prog 10 #[.string D] w (TokensP w (.inr ts))) (T2 : N + G ≤ 16384 → ∀ w, Gl w → Calls Tryz.prog 10 #[.string TT] w (TokensP w (.inr us))) (w : World) (gl : Gl w) (hz : Tz w) :
    Calls Tryz.prog 7 #[.string D, .int .i64 a, .int .i64 c] w fun e w' => e = .returned (.bool true) ∧ Below w.heap.size w w' := by
  have ok : Ok w w := ⟨Below.refl _ _, gl, hz⟩
  have hAk : Ak < ts.length := (List.getElem?_eq_some_iff.1 ht0).1
  have hne : ts ≠ [] := by rintro rfl; simp at hAk
  have y1 : ¬ (Ak : Int) = (ts.length : Int) := by omega
  have y2 : ((Ak : Int) == (ts.length : Int)) = false := by simpa using y1
  subst w1
  obtain ⟨p1, p2, p3, p4, p5, p6, p7, p8⟩ := hput
  clear gl hz
  go_enter Tryz.func7, Tryz.ntmps7
  go_wp2_with (first
    | (go_at_call 12; refine (fixed_any _ ok1.gl ok1.tz).mono ?_; rintro e w2 ⟨rfl, hb2⟩; have ok2 := ok1.go hb2; have q2 := fun o => cell_al hb2 (p := ⟨b, o' + Ak * 4 + 2, none⟩) hblt h2 o; have g2 := hgb w2)
    | (go_at_call 10; refine (T _ ok.gl).mono ?_; rintro e w1 ⟨⟨v, rfl, ht⟩, hb1⟩; have ok1 := ok.go hb1; have HT : Hid (ToksAt w1 v ts) := toksAt_own ht; obtain ⟨a0, cap, rfl, hcap, hca⟩ := toksAt_own ht; obtain ⟨b, o', rfl, hblt, hcell⟩ := hca hne; obtain ⟨_, _, h2, _⟩ := hcell Ak t ht0; clear hcell hca ht; rw [hP] at h2)
    | fail)
  go_quiet (fail)
  have hb4 := below_allN w2 (.cells #[.string ⟨#[32]⟩, .string ⟨#[44]⟩, .string ⟨#[10]⟩, .string ⟨#[13]⟩, .string ⟨#[9]⟩, .string ⟨#[239, 187, 191]⟩, .string ⟨#[35, 120, 10]⟩, .string ⟨#[44, 35, 34, 13]⟩] 9) nq
  generalize (w2.alloc (.cells #[.string ⟨#[32]⟩, .string ⟨#[44]⟩, .string ⟨#[10]⟩, .string ⟨#[13]⟩, .string ⟨#[9]⟩, .string ⟨#[239, 187, 191]⟩, .string ⟨#[35, 120, 10]⟩, .string ⟨#[44, 35, 34, 13]⟩] 9)).drewN nq = w4 at hb4 ⊢
  have ok4 := ok2.go hb4
  clear hgb g2 T q2
  by_cases hf : N + G ≤ 16384
  · have z1 : ¬ (16384 : Int) < (N : Int) + (G : Int) := by omega
    have z2 : ¬ (16384 : Int) < ((N + G : Nat) : Int) := by omega
    have hal := hfit hf
    have T3 := T2 hf
    have HU : Hid (us.length ≤ 1099511627776) := by
      have := congrArg List.length hal
      have h2 : us.length = ts.length := by simpa using this
      show us.length ≤ 1099511627776
      omega
    go_wp2_with (first
      | (go_at_call 18; (with_reducible refine (alike_yes _ _ us ts _ hu (((HT.out.below hb2).below hb4).below hb5) hal HU.out).mono ?_); rintro e w6 ⟨rfl, m6, rfl⟩)
      | (go_at_call 10; (with_reducible refine (T3 _ ok4.gl).mono ?_); rintro e w5 ⟨⟨u5, rfl, ht5⟩, hb5⟩; have ok5 := ok4.go hb5; have hu := toksAt_own ht5; obtain ⟨a5, c5, rfl⟩ := toks_sl ht5)
      | fail)
    go_ret
    exact ⟨by first | rfl | simp, below_drewW ok5.bel m6⟩
  · have z1 : (16384 : Int) < (N : Int) + (G : Int) := by omega
    have z2 : (16384 : Int) < ((N + G : Nat) : Int) := by omega
    go_wp2
    go_ret
    exact ⟨rfl, ok4.bel⟩

set_option maxRecDepth 100000 in
set_option maxHeartbeats 4000000 in
theorem ign_mid_pp (D X1 X2 GB TT : ByteArray) (ts us : List Tok) (W A : Int) (N G Wk Ak P : Nat) (a c : Int) (t : Tok) (ht0 : ts[Ak]? = some t) (hP : t.b = P) (hput : Put D X1 X2 GB TT N P G) (hPn : P ≤ N) (hN : N ≤ 16384) (hG : G ≤ 4) (hlen : ts.length ≤ 2048)
    (hgb : ∀ w : World, (w.alloc (.cells gapsA 9)).cell? ⟨w.heap.size, Wk, none⟩ = some (.string GB)) (hWk : Wk < 8) (hW0 : ¬ W < 0) (w1 : W = (Wk : Int)) (hA0 : ¬ A < 0) (a1 : A = (Ak : Int)) (d1 : c.tmod 8 = W) (d2 : a.tmod ((ts.length : Int) + 1) = A) (hfit : N + G ≤ 16384 → alikeT us ts)
    (T : ∀ w, Gl w → Calls Tryz.prog 10 #[.string D] w (TokensP w (.inr ts))) (T2 : N + G ≤ 16384 → ∀ w, Gl w → Calls Tryz.prog 10 #[.string TT] w (TokensP w (.inr us))) (w : World) (gl : Gl w) (hz : Tz w) :
    Calls Tryz.prog 7 #[.string D, .int .i64 a, .int .i64 c] w fun e w' => e = .returned (.bool true) ∧ Below w.heap.size w w' := by
  have ok : Ok w w := ⟨Below.refl _ _, gl, hz⟩
  have hAk : Ak < ts.length := (List.getElem?_eq_some_iff.1 ht0).1
  have hne : ts ≠ [] := by rintro rfl; simp at hAk
  have y1 : ¬ (Ak : Int) = (ts.length : Int) := by omega
  have y2 : ((Ak : Int) == (ts.length : Int)) = false := by simpa using y1
  subst w1
  subst a1
  obtain ⟨p1, p2, p3, p4, p5, p6, p7, p8⟩ := hput
  clear gl hz
  go_enter Tryz.func7, Tryz.ntmps7
  go_wp2_with (first
    | (go_at_call 12; refine (fixed_any _ ok1.gl ok1.tz).mono ?_; rintro e w2 ⟨rfl, hb2⟩; have ok2 := ok1.go hb2; have q2 := fun o => cell_al hb2 (p := ⟨b, o' + Ak * 4 + 2, none⟩) hblt h2 o; have g2 := hgb w2)
    | (go_at_call 10; refine (T _ ok.gl).mono ?_; rintro e w1 ⟨⟨v, rfl, ht⟩, hb1⟩; have ok1 := ok.go hb1; have HT : Hid (ToksAt w1 v ts) := toksAt_own ht; obtain ⟨a0, cap, rfl, hcap, hca⟩ := toksAt_own ht; obtain ⟨b, o', rfl, hblt, hcell⟩ := hca hne; obtain ⟨_, _, h2, _⟩ := hcell Ak t ht0; clear hcell hca ht; rw [hP] at h2)
    | fail)
  go_quiet (fail)
  have hb4 := below_allN w2 (.cells #[.string ⟨#[32]⟩, .string ⟨#[44]⟩, .string ⟨#[10]⟩, .string ⟨#[13]⟩, .string ⟨#[9]⟩, .string ⟨#[239, 187, 191]⟩, .string ⟨#[35, 120, 10]⟩, .string ⟨#[44, 35, 34, 13]⟩] 9) nq
  generalize (w2.alloc (.cells #[.string ⟨#[32]⟩, .string ⟨#[44]⟩, .string ⟨#[10]⟩, .string ⟨#[13]⟩, .string ⟨#[9]⟩, .string ⟨#[239, 187, 191]⟩, .string ⟨#[35, 120, 10]⟩, .string ⟨#[44, 35, 34, 13]⟩] 9)).drewN nq = w4 at hb4 ⊢
  have ok4 := ok2.go hb4
  clear hgb g2 T q2
  by_cases hf : N + G ≤ 16384
  · have z1 : ¬ (16384 : Int) < (N : Int) + (G : Int) := by omega
    have z2 : ¬ (16384 : Int) < ((N + G : Nat) : Int) := by omega
    have hal := hfit hf
    have T3 := T2 hf
    have HU : Hid (us.length ≤ 1099511627776) := by
      have := congrArg List.length hal
      have h2 : us.length = ts.length := by simpa using this
      show us.length ≤ 1099511627776
      omega
    go_wp2_with (first
      | (go_at_call 18; (with_reducible refine (alike_yes _ _ us ts _ hu (((HT.out.below hb2).below hb4).below hb5) hal HU.out).mono ?_); rintro e w6 ⟨rfl, m6, rfl⟩)
      | (go_at_call 10; (with_reducible refine (T3 _ ok4.gl).mono ?_); rintro e w5 ⟨⟨u5, rfl, ht5⟩, hb5⟩; have ok5 := ok4.go hb5; have hu := toksAt_own ht5; obtain ⟨a5, c5, rfl⟩ := toks_sl ht5)
      | fail)
    go_ret
    exact ⟨by first | rfl | simp, below_drewW ok5.bel m6⟩
  · have z1 : (16384 : Int) < (N : Int) + (G : Int) := by omega
    have z2 : (16384 : Int) < ((N + G : Nat) : Int) := by omega
    go_wp2
    go_ret
    exact ⟨rfl, ok4.bel⟩

end Go.Proofs.YtebojfipdcicaaaGreatDoor
namespace Go.Proofs.YtebojfipdcicaaaGreatDoor
open Go Go.RowKit

set_option maxRecDepth 100000 in
set_option maxHeartbeats 4000000 in
theorem ign_last_nn (D X1 X2 GB TT : ByteArray) (ts us : List Tok) (W A : Int) (N G Wk Ak P : Nat) (a c : Int) (t : Tok) (j : Nat) (hj : Ak = j + 1) (hjn : Ak = ts.length) (ht0 : ts[j]? = some t) (hP : t.e = P) (hput : Put D X1 X2 GB TT N P G) (hPn : P ≤ N) (hN : N ≤ 16384) (hG : G ≤ 4) (hlen : ts.length ≤ 2048)
    (hgb : ∀ w : World, (w.alloc (.cells gapsA 9)).cell? ⟨w.heap.size, Wk, none⟩ = some (.string GB)) (hWk : Wk < 8) (hW0 : W < 0) (w1 : W + 8 = (Wk : Int)) (hA0 : A < 0) (a1 : A + ((ts.length : Int) + 1) = (Ak : Int)) (d1 : c.tmod 8 = W) (d2 : a.tmod ((ts.length : Int) + 1) = A) (hfit : N + G ≤ 16384 → alikeT us ts)
    (T : ∀ w, Gl w → Calls Tryz.prog 10 #[.string D] w (TokensP w (.inr ts))) (T2 : N + G ≤ 16384 → ∀ w, Gl w → Calls Tryz.prog 10 #[.string TT] w (TokensP w (.inr us))) (w : World) (gl : Gl w) (hz : Tz w) :
    Calls Tryz.prog 7 #[.string D, .int .i64 a, .int .i64 c] w fun e w' => e = .returned (.bool true) ∧ Below w.heap.size w w' := by
  have ok : Ok w w := ⟨Below.refl _ _, gl, hz⟩
  have hne : ts ≠ [] := by rintro rfl; simp at ht0
  have y1 : (Ak : Int) = (ts.length : Int) := by omega
  have y2 : ¬ Ak < ts.length := by omega
  have y3 : (0 : Int) < (ts.length : Int) := by omega
  have y4 : (ts.length : Int) - 1 = (j : Int) := by omega
  have y5 : j < ts.length := by omega
  clear hj
  subst hjn
  obtain ⟨p1, p2, p3, p4, p5, p6, p7, p8⟩ := hput
  clear gl hz
  go_enter Tryz.func7, Tryz.ntmps7
  go_wp2_with (first
    | (go_at_call 12; refine (fixed_any _ ok1.gl ok1.tz).mono ?_; rintro e w2 ⟨rfl, hb2⟩; have ok2 := ok1.go hb2; have q2 := fun o => cell_al hb2 (p := ⟨b, o' + j * 4 + 3, none⟩) hblt h2 o; have g2 := hgb w2)
    | (go_at_call 10; refine (T _ ok.gl).mono ?_; rintro e w1 ⟨⟨v, rfl, ht⟩, hb1⟩; have ok1 := ok.go hb1; have HT : Hid (ToksAt w1 v ts) := toksAt_own ht; obtain ⟨a0, cap, rfl, hcap, hca⟩ := toksAt_own ht; obtain ⟨b, o', rfl, hblt, hcell⟩ := hca hne; obtain ⟨_, _, _, h2⟩ := hcell j t ht0; clear hcell hca ht; rw [hP] at h2)
    | fail)
  go_quiet (fail)
  have hb4 := below_allN w2 (.cells #[.string ⟨#[32]⟩, .string ⟨#[44]⟩, .string ⟨#[10]⟩, .string ⟨#[13]⟩, .string ⟨#[9]⟩, .string ⟨#[239, 187, 191]⟩, .string ⟨#[35, 120, 10]⟩, .string ⟨#[44, 35, 34, 13]⟩] 9) nq
  generalize (w2.alloc (.cells #[.string ⟨#[32]⟩, .string ⟨#[44]⟩, .string ⟨#[10]⟩, .string ⟨#[13]⟩, .string ⟨#[9]⟩, .string ⟨#[239, 187, 191]⟩, .string ⟨#[35, 120, 10]⟩, .string ⟨#[44, 35, 34, 13]⟩] 9)).drewN nq = w4 at hb4 ⊢
  have ok4 := ok2.go hb4
  clear hgb g2 T q2
  by_cases hf : N + G ≤ 16384
  · have z1 : ¬ (16384 : Int) < (N : Int) + (G : Int) := by omega
    have z2 : ¬ (16384 : Int) < ((N + G : Nat) : Int) := by omega
    have hal := hfit hf
    have T3 := T2 hf
    have HU : Hid (us.length ≤ 1099511627776) := by
      have := congrArg List.length hal
      have h2 : us.length = ts.length := by simpa using this
      show us.length ≤ 1099511627776
      omega
    go_wp2_with (first
      | (go_at_call 18; (with_reducible refine (alike_yes _ _ us ts _ hu (((HT.out.below hb2).below hb4).below hb5) hal HU.out).mono ?_); rintro e w6 ⟨rfl, m6, rfl⟩)
      | (go_at_call 10; (with_reducible refine (T3 _ ok4.gl).mono ?_); rintro e w5 ⟨⟨u5, rfl, ht5⟩, hb5⟩; have ok5 := ok4.go hb5; have hu := toksAt_own ht5; obtain ⟨a5, c5, rfl⟩ := toks_sl ht5)
      | fail)
    go_ret
    exact ⟨by first | rfl | simp, below_drewW ok5.bel m6⟩
  · have z1 : (16384 : Int) < (N : Int) + (G : Int) := by omega
    have z2 : (16384 : Int) < ((N + G : Nat) : Int) := by omega
    go_wp2
    go_ret
    exact ⟨rfl, ok4.bel⟩

set_option maxRecDepth 100000 in
set_option maxHeartbeats 4000000 in
theorem ign_last_np (D X1 X2 GB TT : ByteArray) (ts us : List Tok) (W A : Int) (N G Wk Ak P : Nat) (a c : Int) (t : Tok) (j : Nat) (hj : Ak = j + 1) (hjn : Ak = ts.length) (ht0 : ts[j]? = some t) (hP : t.e = P) (hput : Put D X1 X2 GB TT N P G) (hPn : P ≤ N) (hN : N ≤ 16384) (hG : G ≤ 4) (hlen : ts.length ≤ 2048)
    (hgb : ∀ w : World, (w.alloc (.cells gapsA 9)).cell? ⟨w.heap.size, Wk, none⟩ = some (.string GB)) (hWk : Wk < 8) (hW0 : W < 0) (w1 : W + 8 = (Wk : Int)) (hA0 : ¬ A < 0) (a1 : A = (Ak : Int)) (d1 : c.tmod 8 = W) (d2 : a.tmod ((ts.length : Int) + 1) = A) (hfit : N + G ≤ 16384 → alikeT us ts)
    (T : ∀ w, Gl w → Calls Tryz.prog 10 #[.string D] w (TokensP w (.inr ts))) (T2 : N + G ≤ 16384 → ∀ w, Gl w → Calls Tryz.prog 10 #[.string TT] w (TokensP w (.inr us))) (w : World) (gl : Gl w) (hz : Tz w) :
    Calls Tryz.prog 7 #[.string D, .int .i64 a, .int .i64 c] w fun e w' => e = .returned (.bool true) ∧ Below w.heap.size w w' := by
  have ok : Ok w w := ⟨Below.refl _ _, gl, hz⟩
  have hne : ts ≠ [] := by rintro rfl; simp at ht0
  have y1 : (Ak : Int) = (ts.length : Int) := by omega
  have y2 : ¬ Ak < ts.length := by omega
  have y3 : (0 : Int) < (ts.length : Int) := by omega
  have y4 : (ts.length : Int) - 1 = (j : Int) := by omega
  have y5 : j < ts.length := by omega
  clear hj
  subst a1
  subst hjn
  obtain ⟨p1, p2, p3, p4, p5, p6, p7, p8⟩ := hput
  clear gl hz
  go_enter Tryz.func7, Tryz.ntmps7
  go_wp2_with (first
    | (go_at_call 12; refine (fixed_any _ ok1.gl ok1.tz).mono ?_; rintro e w2 ⟨rfl, hb2⟩; have ok2 := ok1.go hb2; have q2 := fun o => cell_al hb2 (p := ⟨b, o' + j * 4 + 3, none⟩) hblt h2 o; have g2 := hgb w2)
    | (go_at_call 10; refine (T _ ok.gl).mono ?_; rintro e w1 ⟨⟨v, rfl, ht⟩, hb1⟩; have ok1 := ok.go hb1; have HT : Hid (ToksAt w1 v ts) := toksAt_own ht; obtain ⟨a0, cap, rfl, hcap, hca⟩ := toksAt_own ht; obtain ⟨b, o', rfl, hblt, hcell⟩ := hca hne; obtain ⟨_, _, _, h2⟩ := hcell j t ht0; clear hcell hca ht; rw [hP] at h2)
    | fail)
  go_quiet (fail)
  have hb4 := below_allN w2 (.cells #[.string ⟨#[32]⟩, .string ⟨#[44]⟩, .string ⟨#[10]⟩, .string ⟨#[13]⟩, .string ⟨#[9]⟩, .string ⟨#[239, 187, 191]⟩, .string ⟨#[35, 120, 10]⟩, .string ⟨#[44, 35, 34, 13]⟩] 9) nq
  generalize (w2.alloc (.cells #[.string ⟨#[32]⟩, .string ⟨#[44]⟩, .string ⟨#[10]⟩, .string ⟨#[13]⟩, .string ⟨#[9]⟩, .string ⟨#[239, 187, 191]⟩, .string ⟨#[35, 120, 10]⟩, .string ⟨#[44, 35, 34, 13]⟩] 9)).drewN nq = w4 at hb4 ⊢
  have ok4 := ok2.go hb4
  clear hgb g2 T q2
  by_cases hf : N + G ≤ 16384
  · have z1 : ¬ (16384 : Int) < (N : Int) + (G : Int) := by omega
    have z2 : ¬ (16384 : Int) < ((N + G : Nat) : Int) := by omega
    have hal := hfit hf
    have T3 := T2 hf
    have HU : Hid (us.length ≤ 1099511627776) := by
      have := congrArg List.length hal
      have h2 : us.length = ts.length := by simpa using this
      show us.length ≤ 1099511627776
      omega
    go_wp2_with (first
      | (go_at_call 18; (with_reducible refine (alike_yes _ _ us ts _ hu (((HT.out.below hb2).below hb4).below hb5) hal HU.out).mono ?_); rintro e w6 ⟨rfl, m6, rfl⟩)
      | (go_at_call 10; (with_reducible refine (T3 _ ok4.gl).mono ?_); rintro e w5 ⟨⟨u5, rfl, ht5⟩, hb5⟩; have ok5 := ok4.go hb5; have hu := toksAt_own ht5; obtain ⟨a5, c5, rfl⟩ := toks_sl ht5)
      | fail)
    go_ret
    exact ⟨by first | rfl | simp, below_drewW ok5.bel m6⟩
  · have z1 : (16384 : Int) < (N : Int) + (G : Int) := by omega
    have z2 : (16384 : Int) < ((N + G : Nat) : Int) := by omega
    go_wp2
    go_ret
    exact ⟨rfl, ok4.bel⟩

set_option maxRecDepth 100000 in
set_option maxHeartbeats 4000000 in
theorem ign_last_pn (D X1 X2 GB TT : ByteArray) (ts us : List Tok) (W A : Int) (N G Wk Ak P : Nat) (a c : Int) (t : Tok) (j : Nat) (hj : Ak = j + 1) (hjn : Ak = ts.length) (ht0 : ts[j]? = some t) (hP : t.e = P) (hput : Put D X1 X2 GB TT N P G) (hPn : P ≤ N) (hN : N ≤ 16384) (hG : G ≤ 4) (hlen : ts.length ≤ 2048)
    (hgb : ∀ w : World, (w.alloc (.cells gapsA 9)).cell? ⟨w.heap.size, Wk, none⟩ = some (.string GB)) (hWk : Wk < 8) (hW0 : ¬ W < 0) (w1 : W = (Wk : Int)) (hA0 : A < 0) (a1 : A + ((ts.length : Int) + 1) = (Ak : Int)) (d1 : c.tmod 8 = W) (d2 : a.tmod ((ts.length : Int) + 1) = A) (hfit : N + G ≤ 16384 → alikeT us ts)
    (T : ∀ w, Gl w → Calls Tryz.prog 10 #[.string D] w (TokensP w (.inr ts))) (T2 : N + G ≤ 16384 → ∀ w, Gl w → Calls Tryz.prog 10 #[.string TT] w (TokensP w (.inr us))) (w : World) (gl : Gl w) (hz : Tz w) :
    Calls Tryz.prog 7 #[.string D, .int .i64 a, .int .i64 c] w fun e w' => e = .returned (.bool true) ∧ Below w.heap.size w w' := by
  have ok : Ok w w := ⟨Below.refl _ _, gl, hz⟩
  have hne : ts ≠ [] := by rintro rfl; simp at ht0
  have y1 : (Ak : Int) = (ts.length : Int) := by omega
  have y2 : ¬ Ak < ts.length := by omega
  have y3 : (0 : Int) < (ts.length : Int) := by omega
  have y4 : (ts.length : Int) - 1 = (j : Int) := by omega
  have y5 : j < ts.length := by omega
  clear hj
  subst w1
  subst hjn
  obtain ⟨p1, p2, p3, p4, p5, p6, p7, p8⟩ := hput
  clear gl hz
  go_enter Tryz.func7, Tryz.ntmps7
  go_wp2_with (first
    | (go_at_call 12; refine (fixed_any _ ok1.gl ok1.tz).mono ?_; rintro e w2 ⟨rfl, hb2⟩; have ok2 := ok1.go hb2; have q2 := fun o => cell_al hb2 (p := ⟨b, o' + j * 4 + 3, none⟩) hblt h2 o; have g2 := hgb w2)
    | (go_at_call 10; refine (T _ ok.gl).mono ?_; rintro e w1 ⟨⟨v, rfl, ht⟩, hb1⟩; have ok1 := ok.go hb1; have HT : Hid (ToksAt w1 v ts) := toksAt_own ht; obtain ⟨a0, cap, rfl, hcap, hca⟩ := toksAt_own ht; obtain ⟨b, o', rfl, hblt, hcell⟩ := hca hne; obtain ⟨_, _, _, h2⟩ := hcell j t ht0; clear hcell hca ht; rw [hP] at h2)
    | fail)
  go_quiet (fail)
  have hb4 := below_allN w2 (.cells #[.string ⟨#[32]⟩, .string ⟨#[44]⟩, .string ⟨#[10]⟩, .string ⟨#[13]⟩, .string ⟨#[9]⟩, .string ⟨#[239, 187, 191]⟩, .string ⟨#[35, 120, 10]⟩, .string ⟨#[44, 35, 34, 13]⟩] 9) nq
  generalize (w2.alloc (.cells #[.string ⟨#[32]⟩, .string ⟨#[44]⟩, .string ⟨#[10]⟩, .string ⟨#[13]⟩, .string ⟨#[9]⟩, .string ⟨#[239, 187, 191]⟩, .string ⟨#[35, 120, 10]⟩, .string ⟨#[44, 35, 34, 13]⟩] 9)).drewN nq = w4 at hb4 ⊢
  have ok4 := ok2.go hb4
  clear hgb g2 T q2
  by_cases hf : N + G ≤ 16384
  · have z1 : ¬ (16384 : Int) < (N : Int) + (G : Int) := by omega
    have z2 : ¬ (16384 : Int) < ((N + G : Nat) : Int) := by omega
    have hal := hfit hf
    have T3 := T2 hf
    have HU : Hid (us.length ≤ 1099511627776) := by
      have := congrArg List.length hal
      have h2 : us.length = ts.length := by simpa using this
      show us.length ≤ 1099511627776
      omega
    go_wp2_with (first
      | (go_at_call 18; (with_reducible refine (alike_yes _ _ us ts _ hu (((HT.out.below hb2).below hb4).below hb5) hal HU.out).mono ?_); rintro e w6 ⟨rfl, m6, rfl⟩)
      | (go_at_call 10; (with_reducible refine (T3 _ ok4.gl).mono ?_); rintro e w5 ⟨⟨u5, rfl, ht5⟩, hb5⟩; have ok5 := ok4.go hb5; have hu := toksAt_own ht5; obtain ⟨a5, c5, rfl⟩ := toks_sl ht5)
      | fail)
    go_ret
    exact ⟨by first | rfl | simp, below_drewW ok5.bel m6⟩
  · have z1 : (16384 : Int) < (N : Int) + (G : Int) := by omega
    have z2 : (16384 : Int) < ((N + G : Nat) : Int) := by omega
    go_wp2
    go_ret
    exact ⟨rfl, ok4.bel⟩

set_option maxRecDepth 100000 in
set_option maxHeartbeats 4000000 in
theorem ign_last_pp (D X1 X2 GB TT : ByteArray) (ts us : List Tok) (W A : Int) (N G Wk Ak P : Nat) (a c : Int) (t : Tok) (j : Nat) (hj : Ak = j + 1) (hjn : Ak = ts.length) (ht0 : ts[j]? = some t) (hP : t.e = P) (hput : Put D X1 X2 GB TT N P G) (hPn : P ≤ N) (hN : N ≤ 16384) (hG : G ≤ 4) (hlen : ts.length ≤ 2048)
    (hgb : ∀ w : World, (w.alloc (.cells gapsA 9)).cell? ⟨w.heap.size, Wk, none⟩ = some (.string GB)) (hWk : Wk < 8) (hW0 : ¬ W < 0) (w1 : W = (Wk : Int)) (hA0 : ¬ A < 0) (a1 : A = (Ak : Int)) (d1 : c.tmod 8 = W) (d2 : a.tmod ((ts.length : Int) + 1) = A) (hfit : N + G ≤ 16384 → alikeT us ts)
    (T : ∀ w, Gl w → Calls Tryz.prog 10 #[.string D] w (TokensP w (.inr ts))) (T2 : N + G ≤ 16384 → ∀ w, Gl w → Calls Tryz.prog 10 #[.string TT] w (TokensP w (.inr us))) (w : World) (gl : Gl w) (hz : Tz w) :
    Calls Tryz.prog 7 #[.string D, .int .i64 a, .int .i64 c] w fun e w' => e = .returned (.bool true) ∧ Below w.heap.size w w' := by
  have ok : Ok w w := ⟨Below.refl _ _, gl, hz⟩
  have hne : ts ≠ [] := by rintro rfl; simp at ht0
  have y1 : (Ak : Int) = (ts.length : Int) := by omega
  have y2 : ¬ Ak < ts.length := by omega
  have y3 : (0 : Int) < (ts.length : Int) := by omega
  have y4 : (ts.length : Int) - 1 = (j : Int) := by omega
  have y5 : j < ts.length := by omega
  clear hj
  subst w1
  subst a1
  subst hjn
  obtain ⟨p1, p2, p3, p4, p5, p6, p7, p8⟩ := hput
  clear gl hz
  go_enter Tryz.func7, Tryz.ntmps7
  go_wp2_with (first
    | (go_at_call 12; refine (fixed_any _ ok1.gl ok1.tz).mono ?_; rintro e w2 ⟨rfl, hb2⟩; have ok2 := ok1.go hb2; have q2 := fun o => cell_al hb2 (p := ⟨b, o' + j * 4 + 3, none⟩) hblt h2 o; have g2 := hgb w2)
    | (go_at_call 10; refine (T _ ok.gl).mono ?_; rintro e w1 ⟨⟨v, rfl, ht⟩, hb1⟩; have ok1 := ok.go hb1; have HT : Hid (ToksAt w1 v ts) := toksAt_own ht; obtain ⟨a0, cap, rfl, hcap, hca⟩ := toksAt_own ht; obtain ⟨b, o', rfl, hblt, hcell⟩ := hca hne; obtain ⟨_, _, _, h2⟩ := hcell j t ht0; clear hcell hca ht; rw [hP] at h2)
    | fail)
  go_quiet (fail)
  have hb4 := below_allN w2 (.cells #[.string ⟨#[32]⟩, .string ⟨#[44]⟩, .string ⟨#[10]⟩, .string ⟨#[13]⟩, .string ⟨#[9]⟩, .string ⟨#[239, 187, 191]⟩, .string ⟨#[35, 120, 10]⟩, .string ⟨#[44, 35, 34, 13]⟩] 9) nq
  generalize (w2.alloc (.cells #[.string ⟨#[32]⟩, .string ⟨#[44]⟩, .string ⟨#[10]⟩, .string ⟨#[13]⟩, .string ⟨#[9]⟩, .string ⟨#[239, 187, 191]⟩, .string ⟨#[35, 120, 10]⟩, .string ⟨#[44, 35, 34, 13]⟩] 9)).drewN nq = w4 at hb4 ⊢
  have ok4 := ok2.go hb4
  clear hgb g2 T q2
  by_cases hf : N + G ≤ 16384
  · have z1 : ¬ (16384 : Int) < (N : Int) + (G : Int) := by omega
    have z2 : ¬ (16384 : Int) < ((N + G : Nat) : Int) := by omega
    have hal := hfit hf
    have T3 := T2 hf
    have HU : Hid (us.length ≤ 1099511627776) := by
      have := congrArg List.length hal
      have h2 : us.length = ts.length := by simpa using this
      show us.length ≤ 1099511627776
      omega
    go_wp2_with (first
      | (go_at_call 18; (with_reducible refine (alike_yes _ _ us ts _ hu (((HT.out.below hb2).below hb4).below hb5) hal HU.out).mono ?_); rintro e w6 ⟨rfl, m6, rfl⟩)
      | (go_at_call 10; (with_reducible refine (T3 _ ok4.gl).mono ?_); rintro e w5 ⟨⟨u5, rfl, ht5⟩, hb5⟩; have ok5 := ok4.go hb5; have hu := toksAt_own ht5; obtain ⟨a5, c5, rfl⟩ := toks_sl ht5)
      | fail)
    go_ret
    exact ⟨by first | rfl | simp, below_drewW ok5.bel m6⟩
  · have z1 : (16384 : Int) < (N : Int) + (G : Int) := by omega
    have z2 : (16384 : Int) < ((N + G : Nat) : Int) := by omega
    go_wp2
    go_ret
    exact ⟨rfl, ok4.bel⟩

end Go.Proofs.YtebojfipdcicaaaGreatDoor
namespace Go.Proofs.YtebojfipdcicaaaGreatDoor
open Go Go.RowKit

set_option maxRecDepth 100000 in
set_option maxHeartbeats 4000000 in
theorem ign_none_nn (D X1 X2 GB TT : ByteArray) (ts us : List Tok) (W A : Int) (N G Wk Ak P : Nat) (a c : Int) (hA00 : Ak = 0) (hnn : ts.length = 0) (hP : P = 0) (hput : Put D X1 X2 GB TT N P G) (hPn : P ≤ N) (hN : N ≤ 16384) (hG : G ≤ 4) (hlen : ts.length ≤ 2048)
    (hgb : ∀ w : World, (w.alloc (.cells gapsA 9)).cell? ⟨w.heap.size, Wk, none⟩ = some (.string GB)) (hWk : Wk < 8) (hW0 : W < 0) (w1 : W + 8 = (Wk : Int)) (_hA0 : A < 0) (a1 : A + ((ts.length : Int) + 1) = (Ak : Int)) (d1 : c.tmod 8 = W) (d2 : a.tmod ((ts.length : Int) + 1) = A) (hfit : N + G ≤ 16384 → alikeT us ts)
    (T : ∀ w, Gl w → Calls Tryz.prog 10 #[.string D] w (TokensP w (.inr ts))) (T2 : N + G ≤ 16384 → ∀ w, Gl w → Calls Tryz.prog 10 #[.string TT] w (TokensP w (.inr us))) (w : World) (gl : Gl w) (hz : Tz w) :
    Calls Tryz.prog 7 #[.string D, .int .i64 a, .int .i64 c] w fun e w' => e = .returned (.bool true) ∧ Below w.heap.size w w' := by
  have ok : Ok w w := ⟨Below.refl _ _, gl, hz⟩
  have y1 : (Ak : Int) = 0 := by omega
  subst hA00
  subst hP
  obtain ⟨p1, p2, p3, p4, p5, p6, p7, p8⟩ := hput
  have hx : X1 = ByteArray.empty := by rw [← p5]; simp
  have p9 : GB ++ X2 = TT := by rw [← p7, hx]; simp
  obtain rfl : ts = [] := List.eq_nil_of_length_eq_zero hnn
  clear hx p5 p7 p2 hnn
  clear gl hz
  go_enter Tryz.func7, Tryz.ntmps7
  go_wp2_with (first
    | (go_at_call 12; refine (fixed_any _ ok1.gl ok1.tz).mono ?_; rintro e w2 ⟨rfl, hb2⟩; have ok2 := ok1.go hb2; have g2 := hgb w2)
    | (go_at_call 10; refine (T _ ok.gl).mono ?_; rintro e w1 ⟨⟨v, rfl, ht⟩, hb1⟩; have ok1 := ok.go hb1; have HT1 : Hid (ToksAt w1 v []) := toksAt_own ht; obtain ⟨a0, cap, rfl, hcap, hca⟩ := toksAt_own ht; have HT : Hid (ToksAt w1 (.slice a0 0 cap) []) := HT1; clear hca ht HT1)
    | fail)
  go_quiet (fail)
  have hb4 := below_allN w2 (.cells #[.string ⟨#[32]⟩, .string ⟨#[44]⟩, .string ⟨#[10]⟩, .string ⟨#[13]⟩, .string ⟨#[9]⟩, .string ⟨#[239, 187, 191]⟩, .string ⟨#[35, 120, 10]⟩, .string ⟨#[44, 35, 34, 13]⟩] 9) nq
  generalize (w2.alloc (.cells #[.string ⟨#[32]⟩, .string ⟨#[44]⟩, .string ⟨#[10]⟩, .string ⟨#[13]⟩, .string ⟨#[9]⟩, .string ⟨#[239, 187, 191]⟩, .string ⟨#[35, 120, 10]⟩, .string ⟨#[44, 35, 34, 13]⟩] 9)).drewN nq = w4 at hb4 ⊢
  have ok4 := ok2.go hb4
  clear hgb g2 T
  by_cases hf : N + G ≤ 16384
  · have z1 : ¬ (16384 : Int) < (N : Int) + (G : Int) := by omega
    have z2 : ¬ (16384 : Int) < ((N + G : Nat) : Int) := by omega
    have hal := hfit hf
    have T3 := T2 hf
    have HU : Hid (us.length ≤ 1099511627776) := by
      have := congrArg List.length hal
      have h2 : us.length = 0 := by simpa using this
      show us.length ≤ 1099511627776
      omega
    go_wp2_with (first
      | (go_at_call 18; (with_reducible refine (alike_yes _ _ us [] _ hu (((HT.out.below hb2).below hb4).below hb5) hal HU.out).mono ?_); rintro e w6 ⟨rfl, m6, rfl⟩)
      | (go_at_call 10; (with_reducible refine (T3 _ ok4.gl).mono ?_); rintro e w5 ⟨⟨u5, rfl, ht5⟩, hb5⟩; have ok5 := ok4.go hb5; have hu := toksAt_own ht5; obtain ⟨a5, c5, rfl⟩ := toks_sl ht5)
      | fail)
    go_ret
    exact ⟨by first | rfl | simp, below_drewW ok5.bel m6⟩
  · have z1 : (16384 : Int) < (N : Int) + (G : Int) := by omega
    have z2 : (16384 : Int) < ((N + G : Nat) : Int) := by omega
    go_wp2
    go_ret
    exact ⟨rfl, ok4.bel⟩

set_option maxRecDepth 100000 in
set_option maxHeartbeats 4000000 in
theorem ign_none_np (D X1 X2 GB TT : ByteArray) (ts us : List Tok) (W A : Int) (N G Wk Ak P : Nat) (a c : Int) (hA00 : Ak = 0) (hnn : ts.length = 0) (hP : P = 0) (hput : Put D X1 X2 GB TT N P G) (hPn : P ≤ N) (hN : N ≤ 16384) (hG : G ≤ 4) (hlen : ts.length ≤ 2048)
    (hgb : ∀ w : World, (w.alloc (.cells gapsA 9)).cell? ⟨w.heap.size, Wk, none⟩ = some (.string GB)) (hWk : Wk < 8) (hW0 : W < 0) (w1 : W + 8 = (Wk : Int)) (hA0 : ¬ A < 0) (a1 : A = (Ak : Int)) (d1 : c.tmod 8 = W) (d2 : a.tmod ((ts.length : Int) + 1) = A) (hfit : N + G ≤ 16384 → alikeT us ts)
    (T : ∀ w, Gl w → Calls Tryz.prog 10 #[.string D] w (TokensP w (.inr ts))) (T2 : N + G ≤ 16384 → ∀ w, Gl w → Calls Tryz.prog 10 #[.string TT] w (TokensP w (.inr us))) (w : World) (gl : Gl w) (hz : Tz w) :
    Calls Tryz.prog 7 #[.string D, .int .i64 a, .int .i64 c] w fun e w' => e = .returned (.bool true) ∧ Below w.heap.size w w' := by
  have ok : Ok w w := ⟨Below.refl _ _, gl, hz⟩
  have y1 : (Ak : Int) = 0 := by omega
  subst a1
  subst hA00
  subst hP
  obtain ⟨p1, p2, p3, p4, p5, p6, p7, p8⟩ := hput
  have hx : X1 = ByteArray.empty := by rw [← p5]; simp
  have p9 : GB ++ X2 = TT := by rw [← p7, hx]; simp
  obtain rfl : ts = [] := List.eq_nil_of_length_eq_zero hnn
  clear hx p5 p7 p2 hnn
  clear gl hz
  go_enter Tryz.func7, Tryz.ntmps7
  go_wp2_with (first
    | (go_at_call 12; refine (fixed_any _ ok1.gl ok1.tz).mono ?_; rintro e w2 ⟨rfl, hb2⟩; have ok2 := ok1.go hb2; have g2 := hgb w2)
    | (go_at_call 10; refine (T _ ok.gl).mono ?_; rintro e w1 ⟨⟨v, rfl, ht⟩, hb1⟩; have ok1 := ok.go hb1; have HT1 : Hid (ToksAt w1 v []) := toksAt_own ht; obtain ⟨a0, cap, rfl, hcap, hca⟩ := toksAt_own ht; have HT : Hid (ToksAt w1 (.slice a0 0 cap) []) := HT1; clear hca ht HT1)
    | fail)
  go_quiet (fail)
  have hb4 := below_allN w2 (.cells #[.string ⟨#[32]⟩, .string ⟨#[44]⟩, .string ⟨#[10]⟩, .string ⟨#[13]⟩, .string ⟨#[9]⟩, .string ⟨#[239, 187, 191]⟩, .string ⟨#[35, 120, 10]⟩, .string ⟨#[44, 35, 34, 13]⟩] 9) nq
  generalize (w2.alloc (.cells #[.string ⟨#[32]⟩, .string ⟨#[44]⟩, .string ⟨#[10]⟩, .string ⟨#[13]⟩, .string ⟨#[9]⟩, .string ⟨#[239, 187, 191]⟩, .string ⟨#[35, 120, 10]⟩, .string ⟨#[44, 35, 34, 13]⟩] 9)).drewN nq = w4 at hb4 ⊢
  have ok4 := ok2.go hb4
  clear hgb g2 T
  by_cases hf : N + G ≤ 16384
  · have z1 : ¬ (16384 : Int) < (N : Int) + (G : Int) := by omega
    have z2 : ¬ (16384 : Int) < ((N + G : Nat) : Int) := by omega
    have hal := hfit hf
    have T3 := T2 hf
    have HU : Hid (us.length ≤ 1099511627776) := by
      have := congrArg List.length hal
      have h2 : us.length = 0 := by simpa using this
      show us.length ≤ 1099511627776
      omega
    go_wp2_with (first
      | (go_at_call 18; (with_reducible refine (alike_yes _ _ us [] _ hu (((HT.out.below hb2).below hb4).below hb5) hal HU.out).mono ?_); rintro e w6 ⟨rfl, m6, rfl⟩)
      | (go_at_call 10; (with_reducible refine (T3 _ ok4.gl).mono ?_); rintro e w5 ⟨⟨u5, rfl, ht5⟩, hb5⟩; have ok5 := ok4.go hb5; have hu := toksAt_own ht5; obtain ⟨a5, c5, rfl⟩ := toks_sl ht5)
      | fail)
    go_ret
    exact ⟨by first | rfl | simp, below_drewW ok5.bel m6⟩
  · have z1 : (16384 : Int) < (N : Int) + (G : Int) := by omega
    have z2 : (16384 : Int) < ((N + G : Nat) : Int) := by omega
    go_wp2
    go_ret
    exact ⟨rfl, ok4.bel⟩

set_option maxRecDepth 100000 in
set_option maxHeartbeats 4000000 in
theorem ign_none_pn (D X1 X2 GB TT : ByteArray) (ts us : List Tok) (W A : Int) (N G Wk Ak P : Nat) (a c : Int) (hA00 : Ak = 0) (hnn : ts.length = 0) (hP : P = 0) (hput : Put D X1 X2 GB TT N P G) (hPn : P ≤ N) (hN : N ≤ 16384) (hG : G ≤ 4) (hlen : ts.length ≤ 2048)
    (hgb : ∀ w : World, (w.alloc (.cells gapsA 9)).cell? ⟨w.heap.size, Wk, none⟩ = some (.string GB)) (hWk : Wk < 8) (hW0 : ¬ W < 0) (w1 : W = (Wk : Int)) (_hA0 : A < 0) (a1 : A + ((ts.length : Int) + 1) = (Ak : Int)) (d1 : c.tmod 8 = W) (d2 : a.tmod ((ts.length : Int) + 1) = A) (hfit : N + G ≤ 16384 → alikeT us ts)
    (T : ∀ w, Gl w → Calls Tryz.prog 10 #[.string D] w (TokensP w (.inr ts))) (T2 : N + G ≤ 16384 → ∀ w, Gl w → Calls Tryz.prog 10 #[.string TT] w (TokensP w (.inr us))) (w : World) (gl : Gl w) (hz : Tz w) :
    Calls Tryz.prog 7 #[.string D, .int .i64 a, .int .i64 c] w fun e w' => e = .returned (.bool true) ∧ Below w.heap.size w w' := by
  have ok : Ok w w := ⟨Below.refl _ _, gl, hz⟩
  have y1 : (Ak : Int) = 0 := by omega
  subst w1
  subst hA00
  subst hP
  obtain ⟨p1, p2, p3, p4, p5, p6, p7, p8⟩ := hput
  have hx : X1 = ByteArray.empty := by rw [← p5]; simp
  have p9 : GB ++ X2 = TT := by rw [← p7, hx]; simp
  obtain rfl : ts = [] := List.eq_nil_of_length_eq_zero hnn
  clear hx p5 p7 p2 hnn
  clear gl hz
  go_enter Tryz.func7, Tryz.ntmps7
  go_wp2_with (first
    | (go_at_call 12; refine (fixed_any _ ok1.gl ok1.tz).mono ?_; rintro e w2 ⟨rfl, hb2⟩; have ok2 := ok1.go hb2; have g2 := hgb w2)
    | (go_at_call 10; refine (T _ ok.gl).mono ?_; rintro e w1 ⟨⟨v, rfl, ht⟩, hb1⟩; have ok1 := ok.go hb1; have HT1 : Hid (ToksAt w1 v []) := toksAt_own ht; obtain ⟨a0, cap, rfl, hcap, hca⟩ := toksAt_own ht; have HT : Hid (ToksAt w1 (.slice a0 0 cap) []) := HT1; clear hca ht HT1)
    | fail)
  go_quiet (fail)
  have hb4 := below_allN w2 (.cells #[.string ⟨#[32]⟩, .string ⟨#[44]⟩, .string ⟨#[10]⟩, .string ⟨#[13]⟩, .string ⟨#[9]⟩, .string ⟨#[239, 187, 191]⟩, .string ⟨#[35, 120, 10]⟩, .string ⟨#[44, 35, 34, 13]⟩] 9) nq
  generalize (w2.alloc (.cells #[.string ⟨#[32]⟩, .string ⟨#[44]⟩, .string ⟨#[10]⟩, .string ⟨#[13]⟩, .string ⟨#[9]⟩, .string ⟨#[239, 187, 191]⟩, .string ⟨#[35, 120, 10]⟩, .string ⟨#[44, 35, 34, 13]⟩] 9)).drewN nq = w4 at hb4 ⊢
  have ok4 := ok2.go hb4
  clear hgb g2 T
  by_cases hf : N + G ≤ 16384
  · have z1 : ¬ (16384 : Int) < (N : Int) + (G : Int) := by omega
    have z2 : ¬ (16384 : Int) < ((N + G : Nat) : Int) := by omega
    have hal := hfit hf
    have T3 := T2 hf
    have HU : Hid (us.length ≤ 1099511627776) := by
      have := congrArg List.length hal
      have h2 : us.length = 0 := by simpa using this
      show us.length ≤ 1099511627776
      omega
    go_wp2_with (first
      | (go_at_call 18; (with_reducible refine (alike_yes _ _ us [] _ hu (((HT.out.below hb2).below hb4).below hb5) hal HU.out).mono ?_); rintro e w6 ⟨rfl, m6, rfl⟩)
      | (go_at_call 10; (with_reducible refine (T3 _ ok4.gl).mono ?_); rintro e w5 ⟨⟨u5, rfl, ht5⟩, hb5⟩; have ok5 := ok4.go hb5; have hu := toksAt_own ht5; obtain ⟨a5, c5, rfl⟩ := toks_sl ht5)
      | fail)
    go_ret
    exact ⟨by first | rfl | simp, below_drewW ok5.bel m6⟩
  · have z1 : (16384 : Int) < (N : Int) + (G : Int) := by omega
    have z2 : (16384 : Int) < ((N + G : Nat) : Int) := by omega
    go_wp2
    go_ret
    exact ⟨rfl, ok4.bel⟩

set_option maxRecDepth 100000 in
set_option maxHeartbeats 4000000 in
theorem ign_none_pp (D X1 X2 GB TT : ByteArray) (ts us : List Tok) (W A : Int) (N G Wk Ak P : Nat) (a c : Int) (hA00 : Ak = 0) (hnn : ts.length = 0) (hP : P = 0) (hput : Put D X1 X2 GB TT N P G) (hPn : P ≤ N) (hN : N ≤ 16384) (hG : G ≤ 4) (hlen : ts.length ≤ 2048)
    (hgb : ∀ w : World, (w.alloc (.cells gapsA 9)).cell? ⟨w.heap.size, Wk, none⟩ = some (.string GB)) (hWk : Wk < 8) (hW0 : ¬ W < 0) (w1 : W = (Wk : Int)) (hA0 : ¬ A < 0) (a1 : A = (Ak : Int)) (d1 : c.tmod 8 = W) (d2 : a.tmod ((ts.length : Int) + 1) = A) (hfit : N + G ≤ 16384 → alikeT us ts)
    (T : ∀ w, Gl w → Calls Tryz.prog 10 #[.string D] w (TokensP w (.inr ts))) (T2 : N + G ≤ 16384 → ∀ w, Gl w → Calls Tryz.prog 10 #[.string TT] w (TokensP w (.inr us))) (w : World) (gl : Gl w) (hz : Tz w) :
    Calls Tryz.prog 7 #[.string D, .int .i64 a, .int .i64 c] w fun e w' => e = .returned (.bool true) ∧ Below w.heap.size w w' := by
  have ok : Ok w w := ⟨Below.refl _ _, gl, hz⟩
  have y1 : (Ak : Int) = 0 := by omega
  subst w1
  subst a1
  subst hA00
  subst hP
  obtain ⟨p1, p2, p3, p4, p5, p6, p7, p8⟩ := hput
  have hx : X1 = ByteArray.empty := by rw [← p5]; simp
  have p9 : GB ++ X2 = TT := by rw [← p7, hx]; simp
  obtain rfl : ts = [] := List.eq_nil_of_length_eq_zero hnn
  clear hx p5 p7 p2 hnn
  clear gl hz
  go_enter Tryz.func7, Tryz.ntmps7
  go_wp2_with (first
    | (go_at_call 12; refine (fixed_any _ ok1.gl ok1.tz).mono ?_; rintro e w2 ⟨rfl, hb2⟩; have ok2 := ok1.go hb2; have g2 := hgb w2)
    | (go_at_call 10; refine (T _ ok.gl).mono ?_; rintro e w1 ⟨⟨v, rfl, ht⟩, hb1⟩; have ok1 := ok.go hb1; have HT1 : Hid (ToksAt w1 v []) := toksAt_own ht; obtain ⟨a0, cap, rfl, hcap, hca⟩ := toksAt_own ht; have HT : Hid (ToksAt w1 (.slice a0 0 cap) []) := HT1; clear hca ht HT1)
    | fail)
  go_quiet (fail)
  have hb4 := below_allN w2 (.cells #[.string ⟨#[32]⟩, .string ⟨#[44]⟩, .string ⟨#[10]⟩, .string ⟨#[13]⟩, .string ⟨#[9]⟩, .string ⟨#[239, 187, 191]⟩, .string ⟨#[35, 120, 10]⟩, .string ⟨#[44, 35, 34, 13]⟩] 9) nq
  generalize (w2.alloc (.cells #[.string ⟨#[32]⟩, .string ⟨#[44]⟩, .string ⟨#[10]⟩, .string ⟨#[13]⟩, .string ⟨#[9]⟩, .string ⟨#[239, 187, 191]⟩, .string ⟨#[35, 120, 10]⟩, .string ⟨#[44, 35, 34, 13]⟩] 9)).drewN nq = w4 at hb4 ⊢
  have ok4 := ok2.go hb4
  clear hgb g2 T
  by_cases hf : N + G ≤ 16384
  · have z1 : ¬ (16384 : Int) < (N : Int) + (G : Int) := by omega
    have z2 : ¬ (16384 : Int) < ((N + G : Nat) : Int) := by omega
    have hal := hfit hf
    have T3 := T2 hf
    have HU : Hid (us.length ≤ 1099511627776) := by
      have := congrArg List.length hal
      have h2 : us.length = 0 := by simpa using this
      show us.length ≤ 1099511627776
      omega
    go_wp2_with (first
      | (go_at_call 18; (with_reducible refine (alike_yes _ _ us [] _ hu (((HT.out.below hb2).below hb4).below hb5) hal HU.out).mono ?_); rintro e w6 ⟨rfl, m6, rfl⟩)
      | (go_at_call 10; (with_reducible refine (T3 _ ok4.gl).mono ?_); rintro e w5 ⟨⟨u5, rfl, ht5⟩, hb5⟩; have ok5 := ok4.go hb5; have hu := toksAt_own ht5; obtain ⟨a5, c5, rfl⟩ := toks_sl ht5)
      | fail)
    go_ret
    exact ⟨by first | rfl | simp, below_drewW ok5.bel m6⟩
  · have z1 : (16384 : Int) < (N : Int) + (G : Int) := by omega
    have z2 : (16384 : Int) < ((N + G : Nat) : Int) := by omega
    go_wp2
    go_ret
    exact ⟨rfl, ok4.bel⟩

end Go.Proofs.YtebojfipdcicaaaGreatDoor
