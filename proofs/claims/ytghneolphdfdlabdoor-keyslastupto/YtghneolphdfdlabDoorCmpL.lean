/- Two keys compared. -/
import Derived.Test.YtghneolphdfdlabDoorCmpk
import Derived.Deep.RegionHeld3
namespace Go.Proofs.YtghneolphdfdlabDoor
open Go Go.RowKit

instance : DecidableEq Pt := fun p q => decidable_of_iff (p.k = q.k ∧ p.i = q.i ∧ p.b = q.b ∧ p.t = q.t) (by
  cases p; cases q; simp)
/-- Two rows of parts compared. -/
def cmpL : List Pt → List Pt → Int
  | [], [] => 0
  | [], _ :: _ => -1
  | _ :: _, [] => 1
  | p :: ps, q :: qs => if p = q then cmpL ps qs else cmpP p q

theorem cmpL_drop {ps qs : List Pt} {j : Nat} (h1 : j < ps.length) (h2 : j < qs.length) : cmpL (ps.drop j) (qs.drop j) = if ps[j] = qs[j] then cmpL (ps.drop (j + 1)) (qs.drop (j + 1)) else cmpP ps[j] qs[j] := by
  rw [List.drop_eq_getElem_cons h1, List.drop_eq_getElem_cons h2]
  rfl
theorem cmpL_end {ps qs : List Pt} {j : Nat} (h : ¬ (j < ps.length ∧ j < qs.length)) (hj : j ≤ ps.length) (hj2 : j ≤ qs.length) : cmpL (ps.drop j) (qs.drop j) = sgnI ps.length qs.length := by
  unfold sgnI
  by_cases h1 : j < ps.length
  · have h2 : j = qs.length := by omega
    rw [List.drop_eq_getElem_cons h1, List.drop_of_length_le (by omega : qs.length ≤ j), if_neg (by omega), if_pos (by omega)]
    rfl
  · rw [List.drop_of_length_le (by omega : ps.length ≤ j)]
    by_cases h2 : j < qs.length
    · rw [List.drop_eq_getElem_cons h2, if_pos (by omega)]
      rfl
    · rw [List.drop_of_length_le (by omega : qs.length ≤ j), if_neg (by omega), if_neg (by omega)]
      rfl

theorem below_drewN {B : Nat} {a w : World} (h : Below B a w) (n : Nat) : Below B a (w.drewN n) := h.trans ⟨rfl, rfl, rfl, Nat.le_refl _, fun _ _ => rfl⟩
theorem bytes_ext {a b : ByteArray} (h : a.toList = b.toList) : a = b := by
  rw [ByteArray.toList_eq, ByteArray.toList_eq] at h
  cases a; cases b
  simpa using h

set_option maxHeartbeats 4000000 in
theorem kcmp_lt (a a' : Option Addr) (cap cap' : Nat) (ps qs : List Pt) (w : World) (hp : PartsAt w (.slice a ps.length cap) ps) (hq : PartsAt w (.slice a' qs.length cap') qs) (hl : ps.length ≤ 1099511627776) (_hl2 : qs.length ≤ 1099511627776) (hm : qs.length < ps.length) :
    Calls Tryd.prog 8 #[.slice a ps.length cap, .slice a' qs.length cap'] w fun e w' => e = .returned (.int .i64 (cmpL ps qs)) ∧ Below w.heap.size w w' := by
  obtain ⟨_, _, e1, hcap, hca⟩ := hp
  obtain ⟨_, _, e2, hcap', hcb⟩ := hq
  cases e1
  cases e2
  go_enter Tryd.func8, Tryd.ntmps8
  go_wp2
  go_loopw [11] (fun i wr => ∃ j n : Nat, j ≤ ps.length ∧ j ≤ qs.length ∧ i = .int .i64 j ∧ cmpL (ps.drop j) (qs.drop j) = cmpL ps qs ∧ wr = w.drewN n) (fun i _ => ps.length - (intOf i).toNat)
  case atStart => exact ⟨0, 0, Nat.zero_le _, Nat.zero_le _, rfl, rfl, rfl⟩
  case round =>
    obtain ⟨j, n, hj, hj', rfl, hc, rfl⟩ := hrel
    have HC : Hid (cmpL (ps.drop j) (qs.drop j) = cmpL ps qs) := hc
    clear hc
    by_cases hlt' : j < qs.length
    · have hlt : j < ps.length := by omega
      obtain ⟨b, o, rfl, hblt, hca⟩ := hca (by intro e; rw [e] at hlt; simp at hlt)
      obtain ⟨b2, o2, rfl, hblt2, hcb⟩ := hcb (by intro e; rw [e] at hlt'; simp at hlt')
      obtain ⟨h0, h1, h2, h3⟩ := hca j ps[j] (List.getElem?_eq_getElem hlt)
      obtain ⟨g0, g1, g2, g3⟩ := hcb j qs[j] (List.getElem?_eq_getElem hlt')
      have HD := @cmpL_drop ps qs j hlt hlt'
      clear hca hcb
      generalize ps[j] = p at *
      generalize qs[j] = q at *
      by_cases he : p = q
      · subst he
        rw [if_pos rfl, HC.out] at HD
        have HD2 : Hid (cmpL (ps.drop (j + 1)) (qs.drop (j + 1)) = cmpL ps qs) := HD.symm
        clear HD
        obtain ⟨k, i, b', t⟩ := p
        simp only at h0 h1 h2 h3 g0 g1 g2 g3
        go_wp2
        go_quiet (fail)
        go_wp2
        go_roundw
        case rel => exact ⟨j + 1, _, by omega, by omega, by go_num, HD2.out, rfl⟩
        case measure => simp [intOf]; omega
      · rw [if_neg he, HC.out] at HD
        have HD2 : Hid (cmpL ps qs = cmpP p q) := HD
        clear HD
        have CP := fun w => cmpParts_any p q w
        generalize cmpP p q = r at CP HD2
        obtain ⟨k, i, b', t⟩ := p
        obtain ⟨k', i', b'', t'⟩ := q
        have he2 : (¬ k = k') ∨ (k = k' ∧ ¬ i = i') ∨ (k = k' ∧ i = i' ∧ ¬ (b' : Int) = (b'' : Int)) ∨ (k = k' ∧ i = i' ∧ b' = b'' ∧ ¬ t.toList = t'.toList) := by
          by_cases a1 : k = k'
          · by_cases a2 : i = i'
            · by_cases a3 : b' = b''
              · refine Or.inr (Or.inr (Or.inr ⟨a1, a2, a3, fun a4 => he ?_⟩))
                rw [a1, a2, a3, bytes_ext a4]
              · exact Or.inr (Or.inr (Or.inl ⟨a1, a2, by omega⟩))
            · exact Or.inr (Or.inl ⟨a1, a2⟩)
          · exact Or.inl a1
        clear he
        simp only [Pt.val, Pt.cells] at CP
        simp only at h0 h1 h2 h3 g0 g1 g2 g3
        rcases he2 with he | ⟨rfl, he⟩ | ⟨rfl, rfl, he⟩ | ⟨rfl, rfl, rfl, he⟩
        all_goals
          go_wp2
          go_quiet (fail)
          go_wp2
          go_region_held3 (fun w' => w'.cell? ⟨b, o + j * 4, none⟩ = w.cell? ⟨b, o + j * 4, none⟩ ∧ w'.cell? ⟨b, o + j * 4 + 1, none⟩ = w.cell? ⟨b, o + j * 4 + 1, none⟩ ∧ w'.cell? ⟨b, o + j * 4 + 2, none⟩ = w.cell? ⟨b, o + j * 4 + 2, none⟩ ∧ w'.cell? ⟨b, o + j * 4 + 3, none⟩ = w.cell? ⟨b, o + j * 4 + 3, none⟩ ∧ w'.cell? ⟨b2, o2 + j * 4, none⟩ = w.cell? ⟨b2, o2 + j * 4, none⟩ ∧ w'.cell? ⟨b2, o2 + j * 4 + 1, none⟩ = w.cell? ⟨b2, o2 + j * 4 + 1, none⟩ ∧ w'.cell? ⟨b2, o2 + j * 4 + 2, none⟩ = w.cell? ⟨b2, o2 + j * 4 + 2, none⟩ ∧ w'.cell? ⟨b2, o2 + j * 4 + 3, none⟩ = w.cell? ⟨b2, o2 + j * 4 + 3, none⟩) (go_keep)
            ((go_at_call 12; refine (CP _).mono ?_; rintro e w3 ⟨rfl, rfl⟩))
          all_goals
            go_wp2
            go_ret
            exact ⟨by rw [HD2.out]; rfl, ((below_drewN (Below.refl _ _) _).alloc (Nat.le_refl _) _).alloc (by simp) _⟩
    · have HE : Hid (cmpL ps qs = sgnI ps.length qs.length) := HC.out.symm.trans (cmpL_end (by omega) hj hj')
      have CI := fun w => cmpInt_any ps.length qs.length w
      go_wp2_with (go_at_call 13; refine (CI _).mono ?_; rintro e w1 ⟨rfl, rfl⟩)
      go_ret
      exact ⟨by rw [HE.out]; rfl, below_drewN (Below.refl _ _) _⟩
set_option maxHeartbeats 4000000 in
theorem kcmp_ge (a a' : Option Addr) (cap cap' : Nat) (ps qs : List Pt) (w : World) (hp : PartsAt w (.slice a ps.length cap) ps) (hq : PartsAt w (.slice a' qs.length cap') qs) (_hl : ps.length ≤ 1099511627776) (hl2 : qs.length ≤ 1099511627776) (hm : ps.length ≤ qs.length) :
    Calls Tryd.prog 8 #[.slice a ps.length cap, .slice a' qs.length cap'] w fun e w' => e = .returned (.int .i64 (cmpL ps qs)) ∧ Below w.heap.size w w' := by
  obtain ⟨_, _, e1, hcap, hca⟩ := hp
  obtain ⟨_, _, e2, hcap', hcb⟩ := hq
  cases e1
  cases e2
  go_enter Tryd.func8, Tryd.ntmps8
  go_wp2
  go_loopw [11] (fun i wr => ∃ j n : Nat, j ≤ ps.length ∧ j ≤ qs.length ∧ i = .int .i64 j ∧ cmpL (ps.drop j) (qs.drop j) = cmpL ps qs ∧ wr = w.drewN n) (fun i _ => ps.length - (intOf i).toNat)
  case atStart => exact ⟨0, 0, Nat.zero_le _, Nat.zero_le _, rfl, rfl, rfl⟩
  case round =>
    obtain ⟨j, n, hj, hj', rfl, hc, rfl⟩ := hrel
    have HC : Hid (cmpL (ps.drop j) (qs.drop j) = cmpL ps qs) := hc
    clear hc
    by_cases hlt : j < ps.length
    · have hlt' : j < qs.length := by omega
      obtain ⟨b, o, rfl, hblt, hca⟩ := hca (by intro e; rw [e] at hlt; simp at hlt)
      obtain ⟨b2, o2, rfl, hblt2, hcb⟩ := hcb (by intro e; rw [e] at hlt'; simp at hlt')
      obtain ⟨h0, h1, h2, h3⟩ := hca j ps[j] (List.getElem?_eq_getElem hlt)
      obtain ⟨g0, g1, g2, g3⟩ := hcb j qs[j] (List.getElem?_eq_getElem hlt')
      have HD := @cmpL_drop ps qs j hlt hlt'
      clear hca hcb
      generalize ps[j] = p at *
      generalize qs[j] = q at *
      by_cases he : p = q
      · subst he
        rw [if_pos rfl, HC.out] at HD
        have HD2 : Hid (cmpL (ps.drop (j + 1)) (qs.drop (j + 1)) = cmpL ps qs) := HD.symm
        clear HD
        obtain ⟨k, i, b', t⟩ := p
        simp only at h0 h1 h2 h3 g0 g1 g2 g3
        go_wp2
        go_quiet (fail)
        go_wp2
        go_roundw
        case rel => exact ⟨j + 1, _, by omega, by omega, by go_num, HD2.out, rfl⟩
        case measure => simp [intOf]; omega
      · rw [if_neg he, HC.out] at HD
        have HD2 : Hid (cmpL ps qs = cmpP p q) := HD
        clear HD
        have CP := fun w => cmpParts_any p q w
        generalize cmpP p q = r at CP HD2
        obtain ⟨k, i, b', t⟩ := p
        obtain ⟨k', i', b'', t'⟩ := q
        have he2 : (¬ k = k') ∨ (k = k' ∧ ¬ i = i') ∨ (k = k' ∧ i = i' ∧ ¬ (b' : Int) = (b'' : Int)) ∨ (k = k' ∧ i = i' ∧ b' = b'' ∧ ¬ t.toList = t'.toList) := by
          by_cases a1 : k = k'
          · by_cases a2 : i = i'
            · by_cases a3 : b' = b''
              · refine Or.inr (Or.inr (Or.inr ⟨a1, a2, a3, fun a4 => he ?_⟩))
                rw [a1, a2, a3, bytes_ext a4]
              · exact Or.inr (Or.inr (Or.inl ⟨a1, a2, by omega⟩))
            · exact Or.inr (Or.inl ⟨a1, a2⟩)
          · exact Or.inl a1
        clear he
        simp only [Pt.val, Pt.cells] at CP
        simp only at h0 h1 h2 h3 g0 g1 g2 g3
        rcases he2 with he | ⟨rfl, he⟩ | ⟨rfl, rfl, he⟩ | ⟨rfl, rfl, rfl, he⟩
        all_goals
          go_wp2
          go_quiet (fail)
          go_wp2
          go_region_held3 (fun w' => w'.cell? ⟨b, o + j * 4, none⟩ = w.cell? ⟨b, o + j * 4, none⟩ ∧ w'.cell? ⟨b, o + j * 4 + 1, none⟩ = w.cell? ⟨b, o + j * 4 + 1, none⟩ ∧ w'.cell? ⟨b, o + j * 4 + 2, none⟩ = w.cell? ⟨b, o + j * 4 + 2, none⟩ ∧ w'.cell? ⟨b, o + j * 4 + 3, none⟩ = w.cell? ⟨b, o + j * 4 + 3, none⟩ ∧ w'.cell? ⟨b2, o2 + j * 4, none⟩ = w.cell? ⟨b2, o2 + j * 4, none⟩ ∧ w'.cell? ⟨b2, o2 + j * 4 + 1, none⟩ = w.cell? ⟨b2, o2 + j * 4 + 1, none⟩ ∧ w'.cell? ⟨b2, o2 + j * 4 + 2, none⟩ = w.cell? ⟨b2, o2 + j * 4 + 2, none⟩ ∧ w'.cell? ⟨b2, o2 + j * 4 + 3, none⟩ = w.cell? ⟨b2, o2 + j * 4 + 3, none⟩) (go_keep)
            ((go_at_call 12; refine (CP _).mono ?_; rintro e w3 ⟨rfl, rfl⟩))
          all_goals
            go_wp2
            go_ret
            exact ⟨by rw [HD2.out]; rfl, ((below_drewN (Below.refl _ _) _).alloc (Nat.le_refl _) _).alloc (by simp) _⟩
    · have HE : Hid (cmpL ps qs = sgnI ps.length qs.length) := HC.out.symm.trans (cmpL_end (by omega) hj hj')
      have CI := fun w => cmpInt_any ps.length qs.length w
      go_wp2_with (go_at_call 13; refine (CI _).mono ?_; rintro e w1 ⟨rfl, rfl⟩)
      go_ret
      exact ⟨by rw [HE.out]; rfl, below_drewN (Below.refl _ _) _⟩

theorem kcmp_any (v u : Value) (ps qs : List Pt) (w : World) (hp : PartsAt w v ps) (hq : PartsAt w u qs) (hl : ps.length ≤ 1099511627776) (hl2 : qs.length ≤ 1099511627776) :
    Calls Tryd.prog 8 #[v, u] w fun e w' => e = .returned (.int .i64 (cmpL ps qs)) ∧ Below w.heap.size w w' := by
  have hp0 := hp
  have hq0 := hq
  obtain ⟨a, cap, rfl, _⟩ := hp
  obtain ⟨a', cap', rfl, _⟩ := hq
  rcases Nat.lt_or_ge qs.length ps.length with hm | hm
  · exact kcmp_lt a a' cap cap' ps qs w hp0 hq0 hl hl2 hm
  · exact kcmp_ge a a' cap cap' ps qs w hp0 hq0 hl hl2 hm
end Go.Proofs.YtghneolphdfdlabDoor
