/- The document's own Same: two rows of the same numbers are the same. -/
import Derived.Test.YtikbomagmedemaaText
import Derived.Deep.QuietTactic
import Derived.BigQuiet
namespace Go.Proofs.Ytikbomagmedemaa
open Go.RowKit

/-- A slice of ints whose elements are these. -/
def RowIs (w : World) (v : Value) (xs : List Int) : Prop :=
  (v = .slice none 0 0 ∧ xs = []) ∨ ∃ g cap, v = .slice (some ⟨g, 0, none⟩) xs.length cap ∧ xs.length ≤ cap ∧ cap ≤ maxLen ∧ ∀ i (hi : i < xs.length), w.cell? ⟨g, i, none⟩ = some (.int .i64 xs[i])

theorem rowIs_of {w : World} {B : Nat} {v : Value} {xs : List Int} (h : w.ownsRow B 3 1 v xs.length (intsV xs)) : RowIs w v xs := by
  rcases h.2 with ⟨hv, h0⟩ | ⟨g, cap, cur, hv, hg, hh, hn, hc, hz, ht⟩
  · exact Or.inl ⟨hv, List.length_eq_zero_iff.1 h0⟩
  · refine Or.inr ⟨g, cap, hv, hn, hc, fun i hi => ?_⟩
    have e : (intsV xs)[i]? = some (.int .i64 xs[i]) := by simp [intsV, hi]
    rw [← ht, Nat.mul_one, List.getElem?_take, if_pos hi, Array.getElem?_toList] at e
    simp [World.cell?, hh, e]
theorem RowIs.heap {w w' : World} {v : Value} {xs : List Int} (h : RowIs w v xs) (e : w'.heap = w.heap) : RowIs w' v xs := by
  rcases h with h | ⟨g, cap, h1, h2, h3, h4⟩
  · exact Or.inl h
  · exact Or.inr ⟨g, cap, h1, h2, h3, fun i hi => by have := h4 i hi; unfold World.cell? at this ⊢; rw [e]; exact this⟩

set_option maxHeartbeats 2000000 in
theorem same_yes (va vb : Value) (xs : List Int) (w : World) (ha : RowIs w va xs) (hb : RowIs w vb xs) :
    Calls Try.prog 16 #[va, vb] w fun e w' => e = .returned (.bool true) ∧ Below w.heap.size w w' := by
  have hbl := Below.refl w.heap.size w
  by_cases hx : xs = []
  · subst hx
    rcases ha with ⟨rfl, _⟩ | ⟨g, cap, rfl, _, _, _⟩ <;> rcases hb with ⟨rfl, _⟩ | ⟨g', cap', rfl, _, _, _⟩
    all_goals
      go_enter Try.func16, Try.ntmps16
      go_wp2
      go_loopw [5] (fun i wr => i = .int .i64 0 ∧ Below w.heap.size w wr) (fun i _ => 0)
      case atStart => exact ⟨rfl, hbl⟩
      case round =>
        obtain ⟨rfl, hbr⟩ := hrel
        go_wp2
        go_ret
        exact ⟨rfl, hbr⟩
  · have hpos : 0 < xs.length := List.length_pos_iff.2 hx
    rcases ha with ⟨_, e⟩ | ⟨g, cap, rfl, a1, a2, a3⟩
    · exact absurd e hx
    rcases hb with ⟨_, e⟩ | ⟨g', cap', rfl, b1, b2, b3⟩
    · exact absurd e hx
    obtain ⟨n, hn⟩ : ∃ n, n = xs.length := ⟨_, rfl⟩
    have A3 : ∀ (W : World), W.heap = w.heap → ∀ i (hi : i < n), W.cell? ⟨g, i, none⟩ = some (.int .i64 (xs[i]'(by omega))) := fun W hW i hi => by
      have := a3 i (by omega)
      unfold World.cell? at this ⊢
      rw [hW]; exact this
    have B3 : ∀ (W : World), W.heap = w.heap → ∀ i (hi : i < n), W.cell? ⟨g', i, none⟩ = some (.int .i64 (xs[i]'(by omega))) := fun W hW i hi => by
      have := b3 i (by omega)
      unfold World.cell? at this ⊢
      rw [hW]; exact this
    rw [← hn] at a1 b1 hpos ⊢
    unfold maxLen at a2 b2
    clear a3 b3
    go_enter Try.func16, Try.ntmps16
    go_wp2
    go_loopw [5] (fun i wr => ∃ k : Nat, k ≤ n ∧ i = .int .i64 k ∧ wr.heap = w.heap ∧ Below w.heap.size w wr) (fun i _ => n - (intOf i).toNat)
    case atStart => exact ⟨0, Nat.zero_le _, rfl, rfl, hbl⟩
    case round =>
      obtain ⟨k, hk, rfl, hh, hbr⟩ := hrel
      clear hbl
      have HH : Hid (wr.heap = w.heap) := hh
      by_cases hlt : k < n
      · have c1 := A3 wr hh k hlt
        have c2 := B3 wr hh k hlt
        clear hh A3 B3
        have hlt' : (k : Int) < n := by omega
        obtain ⟨x, hxk⟩ : ∃ x, x = xs[k]'(by omega) := ⟨_, rfl⟩
        rw [← hxk] at c1 c2
        clear hxk
        go_wp2
        go_quiet (fail)
        go_wp2
        go_roundw
        case rel => exact ⟨k + 1, by omega, by go_num, HH.out, ⟨hbr.os, hbr.tape, hbr.output, hbr.size, hbr.block⟩⟩
        case measure => simp [intOf]; omega
      · clear hh A3 B3
        go_wp2
        go_ret
        exact ⟨rfl, hbr⟩

end Go.Proofs.Ytikbomagmedemaa
