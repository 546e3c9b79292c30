/- Two keys that have the same parts but the last one: the plain mathematics, and an append of parts as one step of a region. -/
import Derived.Test.YtghneolphdfdlabDoorJoin
import Derived.Deep.RegionLaw
namespace Go.Proofs.YtghneolphdfdlabDoor
open Go Go.RowKit

theorem cmpL_last (p q : Pt) : ∀ l : List Pt, cmpL (l ++ [p]) (l ++ [q]) = cmpL [p] [q]
  | [] => rfl
  | x :: l => by
    show (if x = x then cmpL (l ++ [p]) (l ++ [q]) else cmpP x x) = _
    rw [if_pos rfl]
    exact cmpL_last p q l

theorem step_app_parts {w : World} {ops : Array Oper} {o : Oper} {a : Act} {K : Act → World → Prop} {Q : Exit → Act → World → Prop} {E : Prop} (hgd : o.guard = none) (s x : Operand)
    (ho : o.op = .call { callee := .builtin .append, args := #[s, x], argTypes := #[26, 26] })
    (B : Nat) (v u : Value) (ps qs : List Pt) (hs : a.eval s = v) (hx : a.eval x = u) (hown : Parts w B v ps) (hq : PartsAt w u qs) (hS : Sliced u) (hB : B ≤ w.heap.size) (hl : ps.length + qs.length ≤ 3000000)
    (h : ∀ v' w', Parts w' B v' (ps ++ qs) → w.grownBy w' v.ownBlock → K (a.put o.dst v') w') :
    if Region.wanted o (yielded ops a.tmps) = true then Oper.wp Tryd.prog o a w K Q else E := by
  obtain ⟨i1, hi1, hy0, hy1, hy2⟩ := info_parts Tryd.infoPart
  have hw : Region.wanted o (yielded ops a.tmps) = true := by simp [Region.wanted, hgd]
  rw [if_pos hw]
  obtain ⟨a0, cap, rfl, hc, hcells⟩ := hq
  rcases hS with hS | ⟨ad, m, c, hS⟩
  · injection hS with e1 e2 e3
    subst e1 e3
    obtain rfl : qs = [] := List.eq_nil_of_length_eq_zero e2
    have hrun := run_append_owned_none (P := Tryd.prog) (w := w) B 26 o.type 29 i1 4 Tryd.underlying26 hi1 v ps.length (cellsL ps) hown
    have hx' : a.eval x = .slice none 0 0 := hx
    unfold Oper.wp
    simp [execOp, ho, resolve, invoke, builtin, hs, hx', hrun, Result.andThen]
    exact h v w (by rw [List.append_nil]; exact hown) ⟨rfl, rfl, rfl, Nat.le_refl _, fun _ _ _ => rfl⟩
  · injection hS with e1 e2 e3
    subst e1 e2 e3
    have hnews : ∀ j u, (cellsL qs)[j]? = some u → w.cell? (ad.add j) = some u := by
      by_cases hne : qs = []
      · subst hne; intro j u hj; simp [cellsL] at hj
      · obtain ⟨b, o', e, _, hcc⟩ := hcells hne
        cases e
        exact cells_all hcc
    obtain ⟨v', w', hrun, r1, r2, _⟩ := run_append_own (P := Tryd.prog) w B 26 o.type 29 i1 _ 4 40 Tryd.underlying26 hi1 hy0 hy1 hy2 rfl (by decide) v ps.length (cellsL ps) hown ad qs.length cap (cellsL qs) (cellsL_len qs) hnews (cellsL_one qs) (by unfold maxLen; omega) (by omega) hB
    unfold Oper.wp
    simp [execOp, ho, resolve, invoke, builtin, hs, hx, hrun, Result.andThen]
    refine h v' w' ?_ r2
    unfold Parts
    rw [cellsL_app, List.length_append]
    exact r1
end Go.Proofs.YtghneolphdfdlabDoor
