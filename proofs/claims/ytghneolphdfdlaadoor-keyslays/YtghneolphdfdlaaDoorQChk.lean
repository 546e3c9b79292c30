/- Whether parts may be a key's, by the document. -/
import Derived.Test.YtghneolphdfdlaaDoorOne
namespace Go.Proofs.YtghneolphdfdlaaDoor
open Go Go.RowKit

set_option maxHeartbeats 400000 in
theorem qcheck_any (v : Value) (ps : List Pt) (w : World) (hp : PartsAt w v ps) (hl : ps.length ≤ 1099511627776000) :
    Calls Tryd.prog 18 #[v] w fun e w' => e = .returned (.int .i64 (checkI ps)) ∧ Below w.heap.size w w' := by
  obtain ⟨a, cap, rfl, hcap, hcells⟩ := hp
  go_enter Tryd.func18, Tryd.ntmps18
  go_wp2
  go_loopw [3] (fun i wr => ∃ j : Nat, j ≤ ps.length ∧ i = .int .i64 j ∧ (ps.take j).all mayB = true ∧ Below w.heap.size w wr) (fun i _ => ps.length - (intOf i).toNat)
  case atStart => exact ⟨0, Nat.zero_le _, rfl, rfl, Below.refl _ _⟩
  case round =>
    obtain ⟨j, hj, rfl, hall, hbr⟩ := hrel
    have HA : Hid ((ps.take j).all mayB = true) := hall
    clear hall
    by_cases hlt : j < ps.length
    · obtain ⟨b, o, rfl, hblt, hc⟩ := hcells (by intro e; rw [e] at hlt; simp at hlt)
      obtain ⟨h0, h1, h2, h3⟩ := hc j ps[j] (List.getElem?_eq_getElem hlt)
      have M := fun w => one_any ps[j] w
      have HS := @all_step ps j hlt
      have HK := @keyB_not ps j hlt
      generalize ps[j] = p at M h0 h1 h2 h3 HS HK
      obtain ⟨k, i, b', t⟩ := p
      obtain ⟨hc', hf'⟩ := bcell hbr
      have hz := hbr.size
      simp only [Pt.val, Pt.cells] at M h0 h1 h2 h3
      rw [← hc' b _ hblt] at h0 h1 h2 h3
      clear hc' hf' hc hcells
      cases hm : mayB ⟨k, i, b', t⟩
      · rw [hm] at M
        have HK2 : Hid (checkI ps = 30) := check_no (HK hm)
        clear HS hm HK
        go_wp2_with (go_at_call 25; refine (M _).mono ?_; rintro e w1 ⟨rfl, hb1⟩)
        go_ret
        exact ⟨by rw [HK2.out]; rfl, hbr.trans (hb1.mono hz)⟩
      · rw [hm] at M HS
        have HS2 : Hid ((ps.take (j + 1)).all mayB = true) := by rw [HS, HA.out]; rfl
        clear HS hm HK
        go_wp2_with (go_at_call 25; refine (M _).mono ?_; rintro e w1 ⟨rfl, hb1⟩)
        go_roundw
        case rel => exact ⟨j + 1, by omega, by go_num, HS2.out, hbr.trans (hb1.mono hz)⟩
        case measure => simp [intOf]; omega
    · have hall2 := HA.out
      rw [List.take_of_length_le (by omega)] at hall2
      by_cases c1 : ps.length ≤ 16
      · have HK : Hid (checkI ps = 0) := check_yes (by unfold keyB; rw [hall2, decide_eq_true c1]; rfl)
        clear hall2
        go_wp2
        go_ret
        exact ⟨by rw [HK.out]; rfl, hbr⟩
      · have HK : Hid (checkI ps = 30) := check_no (by unfold keyB; rw [decide_eq_false c1]; rfl)
        clear hall2
        go_wp2
        go_ret
        exact ⟨by rw [HK.out]; rfl, hbr⟩
end Go.Proofs.YtghneolphdfdlaaDoor
