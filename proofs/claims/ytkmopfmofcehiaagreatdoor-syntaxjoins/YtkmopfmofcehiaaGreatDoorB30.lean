/- A document behind another one: the law. -/
import Derived.Test.YtkmopfmofcehiaaGreatDoorB28
import Derived.Test.YtkmopfmofcehiaaGreatDoorB29
namespace Go.Proofs.YtkmopfmofcehiaaGreatDoor
open Go Go.RowKit Go.Shelf

theorem parse_code {s : Bs} {p : Nat} {c : Int} (h : parseS s = .error (p, c)) : c ≠ 0 := by
  cases hs : lexS s with
  | inl q =>
    unfold parseS at h
    rw [hs] at h
    obtain rfl : q = (p, c) := by injection h
    exact lexS_bad hs
  | inr ts =>
    have := (parse_places hs (doc_of_err hs h)).1
    omega
theorem joins_walk (s t : Bs) (hb : t.length ≤ 140737488351232) (w : World) (gl : Gl w) :
    Calls Tryz.prog 7 #[.string ⟨s.toArray⟩, .string ⟨t.toArray⟩] w fun e w' => e = .returned (.bool true) ∧ Below w.heap.size w w' := by
  cases hs : parseS s with
  | error p => exact joins_first s t p.1 p.2 (parse_code (p := p.1) hs) hs w gl
  | ok d =>
    obtain ⟨ts, xs, h1, _, h0, _, _, rfl, hx, hd⟩ := parse_items hs
    cases ht : lexS t with
    | inl p => exact joins_lex s t hb ts xs h1 hd p.1 p.2 ht w gl
    | inr us =>
      cases hp : parseS t with
      | error p => exact joins_bad s t hb ts xs h1 h0 hd hx us p.1 p.2 ht hp w gl
      | ok e =>
        obtain ⟨us', ys, g1, _, _, _, _, rfl, hy, hd'⟩ := parse_items hp
        rw [ht] at g1
        injection g1 with g1
        subst g1
        exact joins_both s t hb ts xs h1 hd hx us ys ht hd' hy w gl
end Go.Proofs.YtkmopfmofcehiaaGreatDoor
