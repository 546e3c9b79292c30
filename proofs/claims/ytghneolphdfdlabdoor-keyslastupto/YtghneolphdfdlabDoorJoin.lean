/- Two rows of parts put together; their bytes. -/
import Derived.Test.YtghneolphdfdlabDoorSame
import Derived.Test.YtghneolphdfdlabDoorAftMath
import Derived.Test.YtghneolphdfdlabDoorFixed
import Derived.Laws.AppendOwnNone
namespace Go.Proofs.YtghneolphdfdlabDoor
open Go Go.RowKit

/-- A slice as arguments have them: nil, or one with an address. -/
def Sliced (v : Value) : Prop := v = .slice none 0 0 ∨ ∃ ad m c, v = .slice (some ad) m c

theorem cellsL_len (ps : List Pt) : (cellsL ps).length = ps.length * 4 := by
  induction ps with
  | nil => rfl
  | cons p ps ih =>
    have e : cellsL (p :: ps) = [.int .i64 p.k, .int .i64 p.i, .int .u64 (p.b : Int), .string p.t] ++ cellsL ps := by simp [cellsL]
    rw [e, List.length_append, ih]
    simp
    omega
theorem cellsL_app (ps qs : List Pt) : cellsL (ps ++ qs) = cellsL ps ++ cellsL qs := by simp [cellsL]
theorem cellsL_one (ps : List Pt) : ∀ u ∈ cellsL ps, u.oneCell' = true := by
  intro u hu
  obtain ⟨p, _, hp⟩ := List.mem_flatMap.1 hu
  simp at hp
  rcases hp with rfl | rfl | rfl | rfl <;> rfl

theorem cells_all {w : World} {b o : Nat} {ps : List Pt} (h : ∀ i p, ps[i]? = some p → w.cell? ⟨b, o + i * 4, none⟩ = some (.int .i64 p.k) ∧ w.cell? ⟨b, o + i * 4 + 1, none⟩ = some (.int .i64 p.i) ∧ w.cell? ⟨b, o + i * 4 + 2, none⟩ = some (.int .u64 (p.b : Int)) ∧ w.cell? ⟨b, o + i * 4 + 3, none⟩ = some (.string p.t)) :
    ∀ j u, (cellsL ps)[j]? = some u → w.cell? ((⟨b, o, none⟩ : Addr).add j) = some u := by
  intro j u hj
  have hjl : j < ps.length * 4 := by
    rw [← cellsL_len]; exact (List.getElem?_eq_some_iff.1 hj).1
  have hi : j / 4 < ps.length := by omega
  obtain ⟨c0, c1, c2, c3⟩ := cellsL_at ps (j / 4) ps[j / 4] (List.getElem?_eq_getElem hi)
  obtain ⟨d0, d1, d2, d3⟩ := h (j / 4) ps[j / 4] (List.getElem?_eq_getElem hi)
  rw [Addr.add_lit]
  rcases (by omega : j = j / 4 * 4 ∨ j = j / 4 * 4 + 1 ∨ j = j / 4 * 4 + 2 ∨ j = j / 4 * 4 + 3) with e | e | e | e
  · rw [e, c0] at hj; rw [e]; cases hj; exact d0
  · rw [e, c1] at hj; rw [e, ← Nat.add_assoc]; cases hj; exact d1
  · rw [e, c2] at hj; rw [e, ← Nat.add_assoc]; cases hj; exact d2
  · rw [e, c3] at hj; rw [e, ← Nat.add_assoc]; cases hj; exact d3

theorem wp_app_parts {w : World} {ops : Array Oper} {rest : List Oper} {o : Oper} {a : Act} {Q : Exit → Act → World → Prop} (hgd : o.guard = none) (s x : Operand)
    (ho : o.op = .call { callee := .builtin .append, args := #[s, x], argTypes := #[26, 26] })
    (B : Nat) (v u : Value) (ps qs : List Pt) (hs : a.eval s = v) (hx : a.eval x = u) (hown : Parts w B v ps) (hq : PartsAt w u qs) (hS : Sliced u) (hB : B ≤ w.heap.size) (hl : ps.length + qs.length ≤ 3000000)
    (h : ∀ v' w', Parts w' B v' (ps ++ qs) → w.grownBy w' v.ownBlock → wpList Tryd.prog ops Q rest (a.put o.dst v') w') : wpList Tryd.prog ops Q (o :: rest) a w := by
  obtain ⟨i1, hi1, hy0, hy1, hy2⟩ := info_parts Tryd.infoPart
  obtain ⟨a0, cap, rfl, hc, hcells⟩ := hq
  rcases hS with hS | ⟨ad, m, c, hS⟩
  · injection hS with e1 e2 e3
    subst e1 e3
    obtain rfl : qs = [] := List.eq_nil_of_length_eq_zero e2
    refine wpList_append_own_none hgd s x 26 ho B 29 i1 4 Tryd.underlying26 hi1 v ps.length (cellsL ps) hs hown hx ?_
    exact h v w (by rw [List.append_nil]; exact hown) ⟨rfl, rfl, rfl, Nat.le_refl _, fun _ _ _ => rfl⟩
  · injection hS with e1 e2 e3
    subst e1 e2 e3
    have hnews : ∀ j u, (cellsL qs)[j]? = some u → w.cell? (ad.add j) = some u := by
      by_cases hne : qs = []
      · subst hne; intro j u hj; simp [cellsL] at hj
      · obtain ⟨b, o', e, _, hcc⟩ := hcells hne
        cases e
        exact cells_all hcc
    refine wpList_append_own _ hgd s x 26 ho B 29 i1 _ 4 40 Tryd.underlying26 hi1 hy0 hy1 hy2 rfl (by decide) v ps.length (cellsL ps) hs hown ad qs.length cap (cellsL qs) hx (cellsL_len qs) hnews (cellsL_one qs) (by unfold maxLen; omega) (by omega) hB ?_
    intro v' w' h1 h2 _
    refine h v' w' ?_ h2
    unfold Parts
    rw [cellsL_app, List.length_append]
    exact h1

theorem owns_empty4 {e : TypeId} (w : World) : (w.alloc (.cells #[] e)).ownsRow w.heap.size e 4 (.slice (some ⟨w.heap.size, 0, none⟩) 0 0) 0 [] :=
  ⟨rfl, Or.inr ⟨w.heap.size, 0, #[], rfl, Nat.le_refl _, heap_alloc_new _ _, Nat.le_refl _, Nat.zero_le _, rfl, rfl⟩⟩

theorem keyB_app (ps qs : List Pt) : keyB (ps ++ qs) = (keyB ps && keyB qs && decide (ps.length + qs.length ≤ 16)) := by
  unfold keyB
  rw [List.all_append, List.length_append]
  by_cases h : ps.length + qs.length ≤ 16
  · rw [decide_eq_true h, decide_eq_true (by omega : ps.length ≤ 16), decide_eq_true (by omega : qs.length ≤ 16)]; simp
  · rw [decide_eq_false h]; simp
theorem encL_app (ps qs : List Pt) : encL (ps ++ qs) = encL ps ++ encL qs := by simp [encL]
theorem pre_app : ∀ (a b : List UInt8), a.isPrefixOf (a ++ b) = true
  | [], b => by simp
  | c :: a, b => by simp [pre_app a b]
/-- What begins with some bytes stands from these on, ahead of what is behind all that begin so. -/
theorem join_order (a b : List UInt8) : Op.bytesLess (a ++ b) a = false ∧ (afterB a = true → Op.bytesLess (a ++ b) (afterS a) = true) := by
  refine ⟨prefix_not_less a _ (pre_app a b), fun h => ?_⟩
  have hk : afterK a ≠ 0 := by unfold afterB at h; simpa using h
  have := after_some a (a ++ b) hk
  rw [pre_app a b] at this
  have h2 := (Bool.and_eq_true_iff.1 this.symm).2
  exact h2
end Go.Proofs.YtghneolphdfdlabDoor
