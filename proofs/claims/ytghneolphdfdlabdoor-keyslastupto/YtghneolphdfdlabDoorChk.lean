/- Rows of parts in memory, and whether they may be a key's. -/
import Derived.Test.YtghneolphdfdlabDoorPt
namespace Go.Proofs.YtghneolphdfdlabDoor
open Go Go.RowKit

/-- A slice holds these parts. -/
def PartsAt (w : World) (v : Value) (ps : List Pt) : Prop :=
  ∃ a cap, v = .slice a ps.length cap ∧ ps.length ≤ cap ∧ (ps ≠ [] → ∃ b o, a = some ⟨b, o, none⟩ ∧ b < w.heap.size ∧ ∀ i p, ps[i]? = some p →
    w.cell? ⟨b, o + i * 4, none⟩ = some (.int .i64 p.k) ∧ w.cell? ⟨b, o + i * 4 + 1, none⟩ = some (.int .i64 p.i) ∧ w.cell? ⟨b, o + i * 4 + 2, none⟩ = some (.int .u64 (p.b : Int)) ∧ w.cell? ⟨b, o + i * 4 + 3, none⟩ = some (.string p.t))

theorem PartsAt.below {w w' : World} {v : Value} {ps : List Pt} (h : PartsAt w v ps) (hb : Below w.heap.size w w') : PartsAt w' v ps := by
  obtain ⟨a, cap, rfl, hc, h⟩ := h
  refine ⟨a, cap, rfl, hc, fun hne => ?_⟩
  obtain ⟨b, o, rfl, hlt, h⟩ := h hne
  refine ⟨b, o, rfl, Nat.lt_of_lt_of_le hlt hb.size, fun i p hp => ?_⟩
  obtain ⟨h0, h1, h2, h3⟩ := h i p hp
  exact ⟨(hb.cell (p := ⟨b, _, none⟩) hlt).trans h0, (hb.cell (p := ⟨b, _, none⟩) hlt).trans h1, (hb.cell (p := ⟨b, _, none⟩) hlt).trans h2, (hb.cell (p := ⟨b, _, none⟩) hlt).trans h3⟩

theorem bcell {n : Nat} {W w1 : World} (hb : Below n W w1) : (∀ b o, b < n → w1.cell? ⟨b, o, none⟩ = W.cell? ⟨b, o, none⟩) ∧ (∀ b o, b < n → w1.frozen? ⟨b, o, none⟩ = W.frozen? ⟨b, o, none⟩) :=
  ⟨fun b o h => hb.cell (p := ⟨b, o, none⟩) h, fun b o h => hb.frozen (p := ⟨b, o, none⟩) h⟩

/-- Parts may be a key's. -/
def keyB (ps : List Pt) : Bool := decide (ps.length ≤ 16) && ps.all mayB
def checkI (ps : List Pt) : Int := if keyB ps then 0 else 30
def Words (ps : List Pt) : Prop := ∀ p ∈ ps, p.b < 18446744073709551616

theorem all_step {ps : List Pt} {j : Nat} (h : j < ps.length) : (ps.take (j + 1)).all mayB = ((ps.take j).all mayB && mayB ps[j]) := by
  rw [List.take_succ_eq_append_getElem h, List.all_append]; simp

theorem keyB_not {ps : List Pt} {j : Nat} (h : j < ps.length) (hm : mayB ps[j] = false) : keyB ps = false := by
  have : ps.all mayB = false := by
    rw [List.all_eq_false]
    exact ⟨ps[j], List.getElem_mem h, by simp [hm]⟩
  unfold keyB; rw [this, Bool.and_false]

theorem check_no {ps : List Pt} (h : keyB ps = false) : checkI ps = 30 := by unfold checkI; rw [h]; rfl
theorem check_yes {ps : List Pt} (h : keyB ps = true) : checkI ps = 0 := by unfold checkI; rw [h]; rfl

set_option maxHeartbeats 1000000 in
theorem check_any (v : Value) (ps : List Pt) (w : World) (hp : PartsAt w v ps) (hW : Words ps) :
    Calls Tryd.prog 7 #[v] w fun e w' => e = .returned (.int .i64 (checkI ps)) ∧ Below w.heap.size w w' := by
  obtain ⟨a, cap, rfl, hcap, hcells⟩ := hp
  by_cases c1 : ps.length ≤ 16
  · go_enter Tryd.func7, Tryd.ntmps7
    go_wp2
    go_loopw [10] (fun i wr => ∃ j : Nat, j ≤ ps.length ∧ i = .int .i64 j ∧ (ps.take j).all mayB = true ∧ Below w.heap.size w wr) (fun i _ => ps.length - (intOf i).toNat)
    case atStart => exact ⟨0, Nat.zero_le _, rfl, rfl, Below.refl _ _⟩
    case round =>
      obtain ⟨j, hj, rfl, hall, hbr⟩ := hrel
      have HA : Hid ((ps.take j).all mayB = true) := hall
      clear hall
      by_cases hlt : j < ps.length
      · obtain ⟨b, o, rfl, hblt, hc⟩ := hcells (by intro e; rw [e] at hlt; simp at hlt)
        obtain ⟨h0, h1, h2, h3⟩ := hc j ps[j] (List.getElem?_eq_getElem hlt)
        have hbw := hW ps[j] (List.getElem_mem hlt)
        have M := fun w => mayBe_any ps[j] w hbw
        have HS := @all_step ps j hlt
        have HK := @keyB_not ps j hlt
        clear hbw
        generalize ps[j] = p at M h0 h1 h2 h3 HS HK
        obtain ⟨k, i, b', t⟩ := p
        obtain ⟨hc', hf'⟩ := bcell hbr
        have hz := hbr.size
        simp only [Pt.val, Pt.cells] at M h0 h1 h2 h3
        rw [← hc' b _ hblt] at h0 h1 h2 h3
        clear hc' hf' hc hcells
        cases hm : mayB ⟨k, i, b', t⟩
        · rw [hm] at M
          have HK2 : Hid (checkI ps = 30) := check_no (HK hm)
          clear HS hm HK
          go_wp2_with (go_at_call 11; refine (M _).mono ?_; rintro e w1 ⟨rfl, rfl⟩)
          go_ret
          exact ⟨by rw [HK2.out]; rfl, (hbr.alloc hz _).alloc (by simp; omega) _⟩
        · rw [hm] at M HS
          have HS2 : Hid ((ps.take (j + 1)).all mayB = true) := by rw [HS, HA.out]; rfl
          clear HS hm HK
          go_wp2_with (go_at_call 11; refine (M _).mono ?_; rintro e w1 ⟨rfl, rfl⟩)
          go_roundw
          case rel => exact ⟨j + 1, by omega, by go_num, HS2.out, (hbr.alloc hz _).alloc (by simp; omega) _⟩
          case measure => simp [intOf]; omega
      · have HK : Hid (checkI ps = 0) := by
          refine check_yes ?_
          have := HA.out
          rw [List.take_of_length_le (by omega)] at this
          unfold keyB
          rw [this, decide_eq_true c1]; rfl
        go_wp2
        go_ret
        exact ⟨by rw [HK.out]; rfl, hbr⟩
  · have HK : Hid (checkI ps = 30) := check_no (by unfold keyB; rw [decide_eq_false c1]; rfl)
    go_enter Tryd.func7, Tryd.ntmps7
    go_wp2
    go_ret
    exact ⟨by rw [HK.out]; rfl, Below.refl _ _⟩
end Go.Proofs.YtghneolphdfdlabDoor
