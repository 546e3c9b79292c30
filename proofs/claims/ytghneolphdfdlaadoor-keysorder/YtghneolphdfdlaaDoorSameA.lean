/- The same parts? -/
import Derived.Test.YtghneolphdfdlaaDoorSame
namespace Go.Proofs.YtghneolphdfdlaaDoor
open Go Go.RowKit

theorem pt_ne {k k' i i' : Int} {b' b'' : Nat} {t t' : ByteArray} (he : ¬ (⟨k, i, b', t⟩ : Pt) = ⟨k', i', b'', t'⟩) : (¬ k = k') ∨ (k = k' ∧ ¬ i = i') ∨ (k = k' ∧ i = i' ∧ ¬ (b' : Int) = (b'' : Int)) ∨ (k = k' ∧ i = i' ∧ b' = b'' ∧ ¬ t.toList = t'.toList) := by
  by_cases a1 : k = k'
  · by_cases a2 : i = i'
    · by_cases a3 : b' = b''
      · refine Or.inr (Or.inr (Or.inr ⟨a1, a2, a3, fun a4 => he ?_⟩))
        rw [a1, a2, a3, bytes_ext a4]
      · exact Or.inr (Or.inr (Or.inl ⟨a1, a2, by omega⟩))
    · exact Or.inr (Or.inl ⟨a1, a2⟩)
  · exact Or.inl a1
theorem drew_two (w : World) (n m : Nat) : (w.drewN n).drewN m = w.drewN (n + m) := by simp [World.drewN, Nat.add_assoc]
theorem ne_at {ps qs : List Pt} {j : Nat} (h1 : j < ps.length) (h2 : j < qs.length) (h : ¬ ps[j] = qs[j]) : ¬ ps = qs := by
  intro e; subst e; exact h rfl

set_option maxHeartbeats 4000000 in
/-- Two rows of parts of one length. -/
theorem same_len (a a' : Option Addr) (cap cap' : Nat) (ps qs : List Pt) (w : World) (hp : PartsAt w (.slice a ps.length cap) ps) (hq : PartsAt w (.slice a' qs.length cap') qs) (hl : ps.length ≤ 1099511627776) (he : ps.length = qs.length) :
    Calls Tryd.prog 15 #[.slice a ps.length cap, .slice a' qs.length cap'] w fun e w' => e = .returned (.bool (decide (ps = qs))) ∧ ∃ n, w' = w.drewN n := by
  obtain ⟨_, _, e1, hcap, hca⟩ := hp
  obtain ⟨_, _, e2, hcap', hcb⟩ := hq
  cases e1
  cases e2
  have he' : (ps.length : Int) = (qs.length : Int) := by omega
  go_enter Tryd.func15, Tryd.ntmps15
  go_wp2
  go_loopw [5] (fun i wr => ∃ j n : Nat, j ≤ ps.length ∧ i = .int .i64 j ∧ ps.take j = qs.take j ∧ wr = w.drewN n) (fun i _ => ps.length - (intOf i).toNat)
  case atStart => exact ⟨0, 0, Nat.zero_le _, rfl, rfl, rfl⟩
  case round =>
    obtain ⟨j, n, hj, rfl, htk, rfl⟩ := hrel
    have HT : Hid (ps.take j = qs.take j) := htk
    clear htk
    by_cases hlt : j < ps.length
    · have hlt' : j < qs.length := by omega
      obtain ⟨b, o, rfl, hblt, hca⟩ := hca (by intro e; rw [e] at hlt; simp at hlt)
      obtain ⟨b2, o2, rfl, hblt2, hcb⟩ := hcb (by intro e; rw [e] at hlt'; simp at hlt')
      obtain ⟨h0, h1, h2, h3⟩ := hca j ps[j] (List.getElem?_eq_getElem hlt)
      obtain ⟨g0, g1, g2, g3⟩ := hcb j qs[j] (List.getElem?_eq_getElem hlt')
      have HN := @ne_at ps qs j hlt hlt'
      have HS := @take_eq_succ ps qs j hlt hlt' HT.out
      clear hca hcb
      generalize ps[j] = p at *
      generalize qs[j] = q at *
      by_cases hpq : p = q
      · subst hpq
        have HS2 : Hid (ps.take (j + 1) = qs.take (j + 1)) := HS rfl
        clear HS HN
        obtain ⟨k, i, b', t⟩ := p
        simp only at h0 h1 h2 h3 g0 g1 g2 g3
        go_wp2
        go_quiet (fail)
        go_wp2
        go_roundw
        case rel => exact ⟨j + 1, _, by omega, by go_num, HS2.out, rfl⟩
        case measure => simp [intOf]; omega
      · have HN2 : Hid (¬ ps = qs) := HN hpq
        clear HS HN
        obtain ⟨k, i, b', t⟩ := p
        obtain ⟨k', i', b'', t'⟩ := q
        have he2 := pt_ne hpq
        clear hpq
        simp only at h0 h1 h2 h3 g0 g1 g2 g3
        rcases he2 with hx | ⟨rfl, hx⟩ | ⟨rfl, rfl, hx⟩ | ⟨rfl, rfl, rfl, hx⟩
        all_goals
          go_wp2
          go_quiet (fail)
          go_wp2
          go_ret
          exact ⟨by rw [decide_eq_false HN2.out]; rfl, _, by first | rfl | exact drew_two _ _ _⟩
    · have HE : Hid (ps = qs) := by
        have := HT.out
        rw [List.take_of_length_le (by omega), List.take_of_length_le (by omega)] at this
        exact this
      go_wp2
      go_ret
      exact ⟨by rw [decide_eq_true HE.out]; rfl, _, rfl⟩
theorem same_any (v u : Value) (ps qs : List Pt) (w : World) (hp : PartsAt w v ps) (hq : PartsAt w u qs) (hl : ps.length ≤ 1099511627776) :
    Calls Tryd.prog 15 #[v, u] w fun e w' => e = .returned (.bool (decide (ps = qs))) ∧ ∃ n, w' = w.drewN n := by
  have hp0 := hp
  have hq0 := hq
  obtain ⟨a, cap, rfl, _⟩ := hp
  obtain ⟨a', cap', rfl, _⟩ := hq
  by_cases he : ps.length = qs.length
  · exact same_len a a' cap cap' ps qs w hp0 hq0 hl he
  · have he' : ¬ (ps.length : Int) = (qs.length : Int) := by omega
    have hn : Hid (¬ ps = qs) := fun e => he (by rw [e])
    clear hp0 hq0
    go_enter Tryd.func15, Tryd.ntmps15
    go_wp2
    go_ret
    exact ⟨by rw [decide_eq_false hn.out]; rfl, 0, rfl⟩
end Go.Proofs.YtghneolphdfdlaaDoor
