/- Schemas: rows that a call makes, whatever their elements. -/
import Derived.Test.YtamkjpfomaapgaaGreatDoorC02
import Derived.Deep.AppendLies
import Derived.Deep.DrawnRows
import Derived.Deep.Slices
import Derived.Laws.AppendOwnNone
namespace Go.Proofs.YtamkjpfomaapgaaGreatDoor
open Go Go.RowKit Go.Shelf
theorem sch_none (W : World) : SchAt W (.slice none 0 0) (.slice none 0 0) ⟨[], []⟩ := ⟨⟨_, 0, rfl, Nat.le_refl _, by decide, fun h => absurd h (by decide)⟩, ⟨_, 0, rfl, Nat.le_refl _, by decide, fun h => absurd h (by decide)⟩⟩
theorem al3 (w : World) (o o' o'' : Obj) : Below w.heap.size w (((w.alloc o).alloc o').alloc o'') := (al2 w o o').alloc (by simp; omega) _
theorem new31 (w : World) (o o' o'' : Obj) : (((w.alloc o).alloc o').alloc o'').heap[w.heap.size]? = some o := ((al2 (w.alloc o) o' o'').block _ (by simp)).trans (heap_alloc_new w o)
theorem new32 (w : World) (o o' o'' : Obj) : (((w.alloc o).alloc o').alloc o'').heap[w.heap.size + 1]? = some o' := ((al1 ((w.alloc o).alloc o') o'').block _ (by simp)).trans (new2 w o o')
theorem new33 (w : World) (o o' o'' : Obj) : (((w.alloc o).alloc o').alloc o'').heap[w.heap.size + 1 + 1]? = some o'' := by
  have h := new2 (w.alloc o) o' o''
  rw [World.size_alloc] at h
  exact h
end Go.Proofs.YtamkjpfomaapgaaGreatDoor
namespace Go.Proofs.YtamkjpfomaapgaaGreatDoor
open Go Go.RowKit Go.Shelf
/-- Objects with the slices of their fields, cell by cell. -/
def cellsB : List (Ob × Value) → List Value
  | [] => []
  | p :: l => .string ⟨p.1.n.toArray⟩ :: p.2 :: cellsB l
theorem cellsB_app (l m : List (Ob × Value)) : cellsB (l ++ m) = cellsB l ++ cellsB m := by
  induction l with
  | nil => rfl
  | cons x l ih => simp [cellsB, ih]
theorem cellsB_len (l : List (Ob × Value)) : (cellsB l).length = l.length * 2 := by
  induction l with
  | nil => rfl
  | cons x l ih => simp [cellsB, ih]; omega
theorem cellsB_at : ∀ (l : List (Ob × Value)) (i : Nat) (p : Ob × Value), l[i]? = some p → (cellsB l)[i * 2]? = some (.string ⟨p.1.n.toArray⟩) ∧ (cellsB l)[i * 2 + 1]? = some p.2
  | [], _, _, h => by simp at h
  | y :: l, 0, p, h => by
    simp at h
    subst h
    exact ⟨rfl, rfl⟩
  | y :: l, i + 1, p, h => by
    have ih := cellsB_at l i p (by simpa using h)
    have e : (i + 1) * 2 = i * 2 + 1 + 1 := by omega
    rw [e]
    simpa [cellsB] using ih
theorem cellsB_mem {l : List (Ob × Value)} {u : Value} (h : u ∈ cellsB l) : (∃ b : Bs, u = .string ⟨b.toArray⟩) ∨ ∃ p ∈ l, u = p.2 := by
  induction l with
  | nil => simp [cellsB] at h
  | cons x l ih =>
    simp only [cellsB, List.mem_cons] at h
    rcases h with rfl | rfl | h
    · exact Or.inl ⟨_, rfl⟩
    · exact Or.inr ⟨x, by simp, rfl⟩
    · rcases ih h with q | ⟨p, hp, e⟩
      · exact Or.inl q
      · exact Or.inr ⟨p, by simp [hp], e⟩
/-- What a slice of objects holds, cell by cell. -/
theorem obs_pairs {w : World} {v : Value} {os : List Ob} (h : ObsAt w v os) (hn : 0 < os.length) : ∃ (b o c : Nat) (l : List (Ob × Value)), v = .slice (some ⟨b, o, none⟩) os.length c ∧ b < w.heap.size ∧ os.length ≤ c ∧ l.map (·.1) = os ∧ (∀ p ∈ l, FldsAt w p.2 p.1.fs) ∧ ∀ j u, (cellsB l)[j]? = some u → w.cell? ⟨b, o + j, none⟩ = some u := by
  obtain ⟨a, c, rfl, hc, _, hr⟩ := h
  obtain ⟨b, o, rfl, hb, hH⟩ := hr hn
  have each : ∀ i, i < os.length → ∃ fv : Value, ∀ x, os[i]? = some x → w.cell? ⟨b, o + i * 2, none⟩ = some (.string ⟨x.n.toArray⟩) ∧ w.cell? ⟨b, o + i * 2 + 1, none⟩ = some fv ∧ FldsAt w fv x.fs := by
    intro i hi
    obtain ⟨x, hx⟩ : ∃ x, os[i]? = some x := ⟨_, List.getElem?_eq_getElem hi⟩
    obtain ⟨e0, fv, e1, hf⟩ := hH i hi x hx
    refine ⟨fv, fun y hy => ?_⟩
    rw [hx] at hy
    cases hy
    exact ⟨e0, e1, hf⟩
  haveI : Inhabited Value := ⟨undef⟩
  obtain ⟨f, hf⟩ := Deep.choose_lt each
  have hlen : (List.zip os ((List.range os.length).map f)).length = os.length := by simp
  have hat : ∀ i p, (List.zip os ((List.range os.length).map f))[i]? = some p → ∃ x, os[i]? = some x ∧ p = (x, f i) := by
    intro i p hp
    have hi : i < os.length := by
      have := (List.getElem?_eq_some_iff.1 hp).1
      omega
    rw [List.getElem?_zip_eq_some] at hp
    refine ⟨p.1, hp.1, ?_⟩
    have h2 := hp.2
    simp [hi] at h2
    rw [h2]
  refine ⟨b, o, c, List.zip os ((List.range os.length).map f), rfl, hb, hc, List.map_fst_zip (by simp), ?_, ?_⟩
  · intro p hp
    obtain ⟨i, hi⟩ := List.mem_iff_getElem?.1 hp
    obtain ⟨x, hx, rfl⟩ := hat i p hi
    exact (hf i (List.getElem?_eq_some_iff.1 hx).1 x hx).2.2
  · intro j u hj
    have hjl : j < os.length * 2 := by
      have := (List.getElem?_eq_some_iff.1 hj).1
      rw [cellsB_len, hlen] at this
      exact this
    obtain ⟨m, r, hm, hr2⟩ : ∃ m r, j = m * 2 + r ∧ r < 2 := ⟨j / 2, j % 2, by omega, by omega⟩
    obtain ⟨p, hp⟩ : ∃ p, (List.zip os ((List.range os.length).map f))[m]? = some p := ⟨_, List.getElem?_eq_getElem (by omega)⟩
    obtain ⟨q0, q1⟩ := cellsB_at _ _ _ hp
    obtain ⟨x, hx, rfl⟩ := hat _ p hp
    obtain ⟨c0, c1, _⟩ := hf m (by omega) x hx
    subst hm
    rcases (show r = 0 ∨ r = 1 by omega) with rfl | rfl
    · rw [Nat.add_zero, q0] at hj
      cases hj
      exact c0
    · rw [q1] at hj
      cases hj
      rw [← Nat.add_assoc]
      exact c1
theorem obs_own {w : World} {Q E : Nat} {v : Value} {l : List (Ob × Value)} (h : w.ownsRow Q E 2 v l.length (cellsB l)) (hl : l.length ≤ 140737488355328) (hf : ∀ p ∈ l, FldsAt w p.2 p.1.fs) : ObsAt w v (l.map (·.1)) := by
  unfold ObsAt
  rw [List.length_map]
  rcases h.2 with ⟨rfl, h0⟩ | ⟨g, cap, cur, hv, hb, hg, hn, _, _, ht⟩
  · exact ⟨none, 0, by rw [h0], by omega, hl, fun hp => absurd hp (by omega)⟩
  · refine ⟨_, cap, hv, hn, hl, fun _ => ⟨g, 0, rfl, lt_of_block hg, fun i hi x hx => ?_⟩⟩
    rw [List.getElem?_map] at hx
    obtain ⟨p, hp, rfl⟩ := Option.map_eq_some_iff.1 hx
    obtain ⟨q0, q1⟩ := cellsB_at l i p hp
    have f : ∀ k u, (cellsB l)[k]? = some u → w.cell? ⟨g, 0 + k, none⟩ = some u := fun k u hu => by
      rw [← ht, List.getElem?_take] at hu
      rw [Nat.zero_add]
      split at hu
      · unfold World.cell?
        rw [hg]
        simpa using hu
      · cases hu
    exact ⟨f _ _ q0, p.2, f _ _ q1, hf p (List.mem_of_getElem? hp)⟩
end Go.Proofs.YtamkjpfomaapgaaGreatDoor
namespace Go.Proofs.YtamkjpfomaapgaaGreatDoor
open Go Go.RowKit Go.Shelf
/-- Without the object at a place. -/
abbrev lessS (s : Sch) (at0 : Nat) : Sch := ⟨s.os.take at0 ++ s.os.drop (at0 + 1), s.es⟩
section less
variable {s : Sch} (h : OkD s) {k : Nat} {x : Ob} (hx : s.os[k]? = some x)
include hx
theorem less_split : s.os = s.os.take k ++ x :: s.os.drop (k + 1) := by
  obtain ⟨hk, e⟩ := List.getElem?_eq_some_iff.1 hx
  have h1 := (List.take_append_drop k s.os).symm
  rw [List.drop_eq_getElem_cons hk, e] at h1
  exact h1
theorem less_mem {o : Ob} (ho : o ∈ s.os) (hn : o.n ≠ x.n) : o ∈ (lessS s k).os := by
  rw [less_split hx] at ho
  rcases List.mem_append.1 ho with ho | ho
  · exact List.mem_append_left _ ho
  · rcases List.mem_cons.1 ho with rfl | ho
    · exact absurd rfl hn
    · exact List.mem_append_right _ ho
omit hx in
theorem less_sub {o : Ob} (ho : o ∈ (lessS s k).os) : o ∈ s.os := by
  rcases List.mem_append.1 ho with ho | ho
  · exact List.mem_of_mem_take ho
  · exact List.mem_of_mem_drop ho
theorem less_len : (lessS s k).os.length + 1 = s.os.length := by
  have h1 := congrArg List.length (less_split hx)
  rw [List.length_append, List.length_cons] at h1
  show (s.os.take k ++ s.os.drop (k + 1)).length + 1 = _
  rw [List.length_append]
  omega
include h
theorem less_nodup : ((lessS s k).os.map (·.n)).Nodup ∧ ¬ x.n ∈ (lessS s k).os.map (·.n) := by
  have h1 := h.u1
  rw [less_split hx, List.map_append, List.map_cons, List.nodup_append, List.nodup_cons] at h1
  obtain ⟨a1, ⟨a2, a3⟩, a4⟩ := h1
  constructor
  · rw [List.map_append, List.nodup_append]
    exact ⟨a1, a3, fun a ha b hb => a4 a ha b (List.mem_cons_of_mem _ hb)⟩
  · rw [List.map_append]
    intro hm
    rcases List.mem_append.1 hm with hm | hm
    · exact a4 _ hm _ (List.mem_cons_self ..) rfl
    · exact a2 hm
omit h in
theorem less_ed {t : Bs} (he : edP s t) (hn : t ≠ x.n) : edP (lessS s k) t := by
  obtain ⟨a, b, c⟩ := he
  refine ⟨a, b, ?_⟩
  obtain ⟨o, ho, e⟩ := List.mem_map.1 c
  exact List.mem_map.2 ⟨o, less_mem hx ho (by rw [e]; exact hn), e⟩
omit hx h in
theorem less_ed' {t : Bs} (he : edP (lessS s k) t) : edP s t := by
  obtain ⟨a, b, c⟩ := he
  refine ⟨a, b, ?_⟩
  obtain ⟨o, ho, e⟩ := List.mem_map.1 c
  exact List.mem_map.2 ⟨o, less_sub ho, e⟩
theorem less_man (h2 : 2 ≤ s.os.length) : manS (lessS s k) = true := by
  obtain ⟨⟨m1, m2⟩, m3, m4, m5⟩ := man_iff.1 h.m
  have hl := less_len hx
  exact man_iff.2 ⟨⟨by omega, by omega⟩, m3, fun o ho => m4 o (less_sub ho), m5⟩
omit hx in
theorem less_nam : (∀ o ∈ (lessS s k).os, frtS o.n = true ∧ ∀ f ∈ o.fs, frfS f.n = true) ∧ ∀ e ∈ (lessS s k).es, frtS e.n = true ∧ ∀ x ∈ e.ws, frwS x = true := ⟨fun o ho => h.no o (less_sub ho), h.ne⟩
theorem less_once : oncS (lessS s k) = true := by
  refine once_iff.2 ⟨(less_nodup h hx).1, h.u2, fun e he hm => ?_, h.u4, fun o ho => h.u5 o (less_sub ho)⟩
  obtain ⟨o, ho, eo⟩ := List.mem_map.1 hm
  exact h.u3 e he (List.mem_map.2 ⟨o, less_sub ho, eo⟩)
omit hx h in
theorem frt_sca {y : Bs} (hy : frtS y = true) : scaS y = false := by
  unfold frtS at hy
  simp only [Bool.and_eq_true, Bool.not_eq_true'] at hy
  exact hy.2.1.1.2
theorem less93 (h2 : 2 ≤ s.os.length) {o : Ob} {f : Fld} (ho : o ∈ (lessS s k).os) (hf : f ∈ o.fs) (hft : f.t = x.n) : chkS (lessS s k) = 93 := by
  refine chk93 (less_man h hx h2) (nam_iff.2 (less_nam h)) (less_once h hx) ?_
  rw [← Bool.not_eq_true, all_sptF (p := fun f => wtyS (lessS s k) f)]
  intro hall
  have hxm := List.mem_of_getElem? hx
  rcases wty_iff.1 (hall o ho f hf) with ⟨g | g, _⟩ | ⟨g, _⟩
  · rw [hft, frt_sca (h.no x hxm).1] at g
    cases g
  · obtain ⟨e, he, een⟩ := List.mem_map.1 g
    exact h.u3 e he (by rw [een, hft]; exact List.mem_map.2 ⟨x, hxm, rfl⟩)
  · have := g.2.2
    rw [hft] at this
    exact (less_nodup h hx).2 this
theorem less0 (h2 : 2 ≤ s.os.length) (hno : ∀ o ∈ (lessS s k).os, ∀ f ∈ o.fs, f.t ≠ x.n) : chkS (lessS s k) = 0 := by
  obtain ⟨u1, u2, u3, u4, u5⟩ := once_iff.1 (less_once h hx)
  have hN := less_nam (k := k) h
  rw [chk_ok]
  refine ⟨less_man h hx h2, hN.1, hN.2, u1, u2, u3, u4, u5, ?_, ?_, ?_⟩
  · intro o ho f hf
    rcases wty_iff.1 (h.ty o (less_sub ho) f hf) with g | g
    · exact wty_iff.2 (Or.inl g)
    · exact wty_iff.2 (Or.inr ⟨less_ed hx g.1 (hno o ho f hf), g.2⟩)
  · intro o ho f hf hs he
    exact h.se o (less_sub ho) f hf hs (less_ed' he)
  · intro o ho f hf hi
    obtain ⟨a, p, hp, e1, g, hg, e2, e3, e4, e5⟩ := h.le o (less_sub ho) f hf hi
    have hpn : p.n ≠ x.n := by rw [e1]; exact hno o ho f hf
    have hpm := less_mem hx hp hpn
    exact ⟨less_ed hx a (hno o ho f hf), p, hpm, e1, g, hg, e2, less_ed hx e3 (hno p hpm g hg), e4, e5⟩
end less
theorem nodup_rev {l : List Bs} : l.reverse.Nodup ↔ l.Nodup := by
  unfold List.Nodup
  rw [List.pairwise_reverse]
  exact ⟨fun h => h.imp Ne.symm, fun h => h.imp Ne.symm⟩
/-- The other way round. -/
def revO (o : Ob) : Ob := ⟨o.n, o.fs.reverse⟩
def revE (e : En) : En := ⟨e.n, e.ws.reverse⟩
def revS (s : Sch) : Sch := ⟨(s.os.map revO).reverse, (s.es.map revE).reverse⟩
theorem rev_rev (s : Sch) : revS (revS s) = s := by
  obtain ⟨os, es⟩ := s
  simp only [revS, List.map_reverse, List.reverse_reverse, List.map_map]
  congr
  · rw [show revO ∘ revO = id from funext fun o => by simp [revO]]
    simp
  · rw [show revE ∘ revE = id from funext fun o => by simp [revE]]
    simp
section order
variable {s : Sch}
theorem rev_os {o : Ob} : o ∈ (revS s).os ↔ ∃ p ∈ s.os, revO p = o := by simp [revS]
theorem rev_es {o : En} : o ∈ (revS s).es ↔ ∃ p ∈ s.es, revE p = o := by simp [revS]
theorem rev_on : (revS s).os.map (·.n) = (s.os.map (·.n)).reverse := by
  simp only [revS, List.map_reverse, List.map_map]
  rfl
theorem rev_en : (revS s).es.map (·.n) = (s.es.map (·.n)).reverse := by
  simp only [revS, List.map_reverse, List.map_map]
  rfl
theorem rev_ed {t : Bs} : edP (revS s) t ↔ edP s t := by
  unfold edP
  rw [rev_on, rev_en, List.mem_reverse, List.mem_reverse]
theorem rev_wty {f : Fld} : wtyS (revS s) f = true ↔ wtyS s f = true := by
  rw [wty_iff, wty_iff, rev_ed, rev_en, List.mem_reverse]
/-- Rules 1 to 3. -/
def Low (s : Sch) : Prop := manS s = true ∧ ((∀ o ∈ s.os, frtS o.n = true ∧ ∀ f ∈ o.fs, frfS f.n = true) ∧ ∀ e ∈ s.es, frtS e.n = true ∧ ∀ x ∈ e.ws, frwS x = true) ∧ oncS s = true
theorem rev_low (h : Low s) : Low (revS s) := by
  obtain ⟨h1, ⟨h2, h3⟩, h4⟩ := h
  obtain ⟨m1, m2, m3, m4⟩ := man_iff.1 h1
  obtain ⟨u1, u2, u3, u4, u5⟩ := once_iff.1 h4
  refine ⟨man_iff.2 ⟨by simpa [revS] using m1, by simpa [revS] using m2, ?_, ?_⟩, ⟨?_, ?_⟩, once_iff.2 ⟨?_, ?_, ?_, ?_, ?_⟩⟩
  · intro o ho
    obtain ⟨p, hp, rfl⟩ := rev_os.1 ho
    simpa [revO] using m3 p hp
  · intro o ho
    obtain ⟨p, hp, rfl⟩ := rev_es.1 ho
    simpa [revE] using m4 p hp
  · intro o ho
    obtain ⟨p, hp, rfl⟩ := rev_os.1 ho
    exact ⟨(h2 p hp).1, fun f hf => (h2 p hp).2 f (List.mem_reverse.1 hf)⟩
  · intro o ho
    obtain ⟨p, hp, rfl⟩ := rev_es.1 ho
    exact ⟨(h3 p hp).1, fun f hf => (h3 p hp).2 f (List.mem_reverse.1 hf)⟩
  · rw [rev_on, nodup_rev]
    exact u1
  · rw [rev_en, nodup_rev]
    exact u2
  · intro e he
    obtain ⟨p, hp, rfl⟩ := rev_es.1 he
    rw [rev_on, List.mem_reverse]
    exact u3 p hp
  · intro e he
    obtain ⟨p, hp, rfl⟩ := rev_es.1 he
    exact nodup_rev.2 (u4 p hp)
  · intro o ho
    obtain ⟨p, hp, rfl⟩ := rev_os.1 ho
    show ((p.fs.reverse).map (·.n)).Nodup
    rw [List.map_reverse, nodup_rev]
    exact u5 p hp
theorem rev_ok (h : OkD s) : OkD (revS s) := by
  obtain ⟨h1, ⟨h2, h3⟩, h4⟩ := rev_low (s := s) ⟨h.m, ⟨h.no, h.ne⟩, h.once⟩
  obtain ⟨u1, u2, u3, u4, u5⟩ := once_iff.1 h4
  refine ⟨h1, h2, h3, u1, u2, u3, u4, u5, ?_, ?_, ?_⟩
  · intro o ho f hf
    obtain ⟨p, hp, rfl⟩ := rev_os.1 ho
    exact rev_wty.2 (h.ty p hp f (List.mem_reverse.1 hf))
  · intro o ho f hf hs
    obtain ⟨p, hp, rfl⟩ := rev_os.1 ho
    rw [rev_ed]
    exact h.se p hp f (List.mem_reverse.1 hf) hs
  · intro o ho f hf hi
    obtain ⟨p, hp, rfl⟩ := rev_os.1 ho
    obtain ⟨a, q, hq, e1, g, hg, e2, e3, e4, e5⟩ := h.le p hp f (List.mem_reverse.1 hf) hi
    exact ⟨rev_ed.2 a, revO q, rev_os.2 ⟨q, hq, rfl⟩, e1, g, List.mem_reverse.2 hg, e2, rev_ed.2 e3, e4, e5⟩
theorem order_ok : chkS (revS s) = 0 ↔ chkS s = 0 := by
  rw [chk_ok, chk_ok]
  refine ⟨fun h => ?_, rev_ok⟩
  have := rev_ok h
  rwa [rev_rev] at this
theorem order_low : (chkS (revS s) = 90 ∨ chkS (revS s) = 91 ∨ chkS (revS s) = 92) ↔ (chkS s = 90 ∨ chkS s = 91 ∨ chkS s = 92) := by
  rw [chk_low, chk_low]
  refine not_congr ⟨fun h => ?_, rev_low⟩
  have := rev_low (s := revS s) h
  rwa [rev_rev] at this
end order
end Go.Proofs.YtamkjpfomaapgaaGreatDoor
namespace Go.Proofs.YtamkjpfomaapgaaGreatDoor
open Go Go.RowKit Go.Shelf
theorem step_append_any {P : Program} (w : World) {ops : Array Oper} {o : Oper} {a : Act} {K : Act → World → Prop} {Q : Exit → Act → World → Prop} {E : Prop} (hgd : o.guard = none) (s x : Operand) (t : TypeId)
    (ho : o.op = .call { callee := .builtin .append, args := #[s, x], argTypes := #[t, t] })
    (base : Nat) (e : TypeId) (i : TypeInfo) (z : Value) (size bytes : Nat) (ht : P.underlying t = some (.slice e)) (hi : P.info? e = some i) (hz : i.zero = some z)
    (hsize : i.size = size) (hby : i.bytes = bytes) (hzs : z.cells.size = size) (hsz : 0 < size)
    (v : Value) (n : Nat) (xs : List Value) (hs : a.eval s = v) (hown : w.ownsRow base e size v n xs)
    (ad : Addr) (m c : Nat) (news : List Value) (hx : a.eval x = .slice (some ad) m c) (hl : news.length = m * size) (hnews : ∀ j u, news[j]? = some u → w.cell? (ad.add j) = some u) (h1 : ∀ u ∈ news, u.oneCell' = true)
    (h63 : n + m ≤ maxLen) (hbytes : (n + m) * bytes ≤ 140737488355328) (hbase : base ≤ w.heap.size)
    (h : ∀ v' w', w'.ownsRow base e size v' (n + m) (xs ++ news) → w.grownBy w' v.ownBlock → K (a.put o.dst v') w') :
    if Region.wanted o (yielded ops a.tmps) = true then Oper.wp P o a w K Q else E := by
  have hw : Region.wanted o (yielded ops a.tmps) = true := by simp [Region.wanted, hgd]
  rw [if_pos hw]
  obtain ⟨v', w', hr, h2, h3, _, _⟩ := run_append_own_at (P := P) w base t o.type e i z size bytes ht hi hz hsize hby hzs hsz v n xs hown ad m c news hl hnews h1 h63 hbytes hbase
  unfold Oper.wp execOp
  simp only [ho, resolve, invoke, builtin, Sem.run_bind, Sem.run_pure, Result.andThen_ok, List.map_toArray, List.map_cons, List.map_nil, hs, hx, hr]
  exact h v' w' h2 h3
theorem add_at (b o j : Nat) : (⟨b, o, none⟩ : Addr).add j = ⟨b, o + j, none⟩ := by
  unfold Addr.add
  split <;> simp_all
theorem cellsB_take : ∀ (l : List (Ob × Value)) (k : Nat), cellsB (l.take k) = (cellsB l).take (k * 2)
  | [], k => by simp [cellsB]
  | p :: l, 0 => by simp [cellsB]
  | p :: l, k + 1 => by
    have e : (k + 1) * 2 = k * 2 + 1 + 1 := by omega
    rw [List.take_succ_cons, e]
    simp only [cellsB, List.take_succ_cons]
    rw [cellsB_take l k]
theorem cellsB_drop : ∀ (l : List (Ob × Value)) (k : Nat), cellsB (l.drop k) = (cellsB l).drop (k * 2)
  | [], k => by simp [cellsB]
  | p :: l, 0 => by simp [cellsB]
  | p :: l, k + 1 => by
    have e : (k + 1) * 2 = k * 2 + 1 + 1 := by omega
    rw [List.drop_succ_cons, e]
    simp only [cellsB, List.drop_succ_cons]
    rw [cellsB_drop l k]
theorem cellsB_sub {l m : List (Ob × Value)} (h : ∀ p ∈ m, p ∈ l) (h1 : ∀ p ∈ l, ∃ a n c, p.2 = .slice a n c) : ∀ u ∈ cellsB m, u.oneCell' = true := by
  intro u hu
  rcases cellsB_mem hu with ⟨b, rfl⟩ | ⟨p, hp, rfl⟩
  · rfl
  · obtain ⟨a, n, c, e⟩ := h1 p (h p hp)
    rw [e]
    rfl
end Go.Proofs.YtamkjpfomaapgaaGreatDoor
namespace Go.Proofs.YtamkjpfomaapgaaGreatDoor
open Go Go.RowKit Go.Shelf
abbrev fldC (f : Fld) : List Value := [.string ⟨f.n.toArray⟩, .string ⟨f.t.toArray⟩, .string ⟨f.w.toArray⟩, .bool f.s, .string ⟨f.i.toArray⟩]
abbrev wrdC (x : Bs) : List Value := [.string ⟨x.toArray⟩]
abbrev nmdC (p : Bs × Value) : List Value := [.string ⟨p.1.toArray⟩, p.2]
section
variable {α : Type} {f : α → List Value} {sz : Nat}
theorem flat_len (hf : ∀ x, (f x).length = sz) : ∀ l : List α, (l.flatMap f).length = l.length * sz
  | [] => by simp
  | x :: l => by
    rw [List.flatMap_cons, List.length_append, flat_len hf l, hf, List.length_cons, Nat.add_mul]
    omega
theorem flat_at (hf : ∀ x, (f x).length = sz) : ∀ (l : List α) (i : Nat) (x : α), l[i]? = some x → ∀ j, j < sz → (l.flatMap f)[i * sz + j]? = (f x)[j]?
  | [], _, _, h, _, _ => by simp at h
  | y :: l, 0, x, h, j, hj => by
    simp at h
    subst h
    rw [Nat.zero_mul, Nat.zero_add, List.flatMap_cons]
    exact List.getElem?_append_left (by rw [hf]; exact hj)
  | y :: l, i + 1, x, h, j, hj => by
    have ih := flat_at hf l i x (by simpa using h) j hj
    rw [← ih, List.flatMap_cons]
    have e : (i + 1) * sz + j = sz + (i * sz + j) := by rw [Nat.add_mul]; omega
    rw [e, List.getElem?_append_right (by rw [hf]; omega), hf]
    congr 1
    omega
/-- A row of such elements that a call owns. -/
def RowO (w : World) (B E : Nat) (sz : Nat) (f : α → List Value) (v : Value) (l : List α) : Prop := w.ownsRow B E sz v l.length (l.flatMap f)
theorem RowO.slice {w : World} {B E : Nat} {v : Value} {l : List α} (h : RowO w B E sz f v l) : ∃ a c, v = .slice a l.length c := by
  rcases h.2 with ⟨h1, h2⟩ | ⟨g, cap, cur, hv, _⟩
  · exact ⟨none, 0, by rw [h1, h2]⟩
  · exact ⟨_, _, hv⟩
theorem RowO.blk {w w' : World} {B E : Nat} {v : Value} {l : List α} (h : RowO w B E sz f v l) (hb : ∀ g cur, B ≤ g → w.heap[g]? = some (.cells cur E (0, 0)) → w'.heap[g]? = some (.cells cur E (0, 0))) : RowO w' B E sz f v l := by
  refine ⟨h.1, ?_⟩
  rcases h.2 with q | ⟨g, cap, cur, hv, hB, hg, h3⟩
  · exact Or.inl q
  · exact Or.inr ⟨g, cap, cur, hv, hB, hb g cur hB hg, h3⟩
theorem RowO.on {w w' : World} {B E : Nat} {v : Value} {l : List α} (h : RowO w B E sz f v l) (hb : Below w.heap.size w w') : RowO w' B E sz f v l := h.blk fun g _ _ hg => (hb.block g (lt_of_block hg)).trans hg
theorem RowO.base {w : World} {B B' E : Nat} {v : Value} {l : List α} (h : RowO w B E sz f v l) (hb : B' ≤ B) : RowO w B' E sz f v l := by
  refine ⟨h.1, ?_⟩
  rcases h.2 with q | ⟨g, cap, cur, hv, hB, h3⟩
  · exact Or.inl q
  · exact Or.inr ⟨g, cap, cur, hv, Nat.le_trans hb hB, h3⟩
/-- Only one block, of another type, has changed. -/
theorem RowO.kp {w w' : World} {B E T E' : Nat} {c : Array Value} {v : Value} {l : List α} (h : RowO w B E sz f v l) (k : Kp (fun k => k = T) w w') (hT : w.heap[T]? = some (.cells c E' (0, 0))) (hE : E ≠ E') : RowO w' B E sz f v l := h.blk fun g cur _ hg => (k.block g (lt_of_block hg) (fun e => by
    have e' : g = T := e
    subst e'
    rw [hT] at hg
    cases hg
    exact hE rfl)).trans hg
/-- A row of another type has grown. -/
theorem RowO.grown {w w' : World} {B B' E E' sz' n : Nat} {v u : Value} {xs : List Value} {l : List α} (h : RowO w B E sz f v l) (own : w.ownsRow B' E' sz' u n xs) (g : w.grownBy w' u.ownBlock) (hE : E ≠ E') : RowO w' B E sz f v l := h.blk fun k cur _ hk => (g.block k (lt_of_block hk) (fun e => by
    rcases own.2 with ⟨rfl, _⟩ | ⟨q, cap, cr, hv, _, hq, _⟩
    · cases e
    · rw [hv] at e
      have e2 : k = q := by simpa [Value.ownBlock] using e
      subst e2
      rw [hq] at hk
      cases hk
      exact hE rfl)).trans hk
theorem RowO.cell {w : World} {B E : Nat} {v : Value} {l : List α} (hf : ∀ x, (f x).length = sz) (h : RowO w B E sz f v l) (hl : l.length ≤ 140737488355328) {p : α → Nat → Nat → Prop} (hp : ∀ x b o, x ∈ l → (∀ j u, j < sz → (f x)[j]? = some u → w.cell? ⟨b, o + j, none⟩ = some u) → p x b o) : Sl w v l.length sz (fun i b o => ∀ x, l[i]? = some x → p x b o) := by
  rcases h.2 with ⟨rfl, h0⟩ | ⟨g, cap, cur, hv, hb, hg, hn, _, _, ht⟩
  · exact ⟨none, 0, by rw [h0], by omega, hl, fun hp => absurd hp (by omega)⟩
  · refine ⟨_, cap, hv, hn, hl, fun _ => ⟨g, 0, rfl, lt_of_block hg, fun i hi x hx => ?_⟩⟩
    refine hp x g _ (List.mem_of_getElem? hx) fun j u hj hu => ?_
    rw [← flat_at hf l i x hx j hj, ← ht, List.getElem?_take] at hu
    rw [Nat.zero_add]
    split at hu
    · unfold World.cell?
      rw [hg]
      simpa using hu
    · cases hu
end
theorem flds_row {w : World} {B : Nat} {v : Value} {l : List Fld} (h : RowO w B 56 5 fldC v l) (hl : l.length ≤ 140737488355328) : FldsAt w v l := RowO.cell (f := fldC) (sz := 5) (p := FldAt w) (fun _ => rfl) h hl fun x b o _ hc => ⟨hc 0 _ (by decide) rfl, hc 1 _ (by decide) rfl, hc 2 _ (by decide) rfl, hc 3 _ (by decide) rfl, hc 4 _ (by decide) rfl⟩
theorem wds_row {w : World} {B : Nat} {v : Value} {l : List Bs} (h : RowO w B 9 1 wrdC v l) (hl : l.length ≤ 140737488355328) : WdsAt w v l := RowO.cell (f := wrdC) (sz := 1) (p := fun x b o => w.cell? ⟨b, o, none⟩ = some (.string ⟨x.toArray⟩)) (fun _ => rfl) h hl fun x b o _ hc => hc 0 _ (by decide) rfl
theorem obs_row {w : World} {B : Nat} {v : Value} {l : List (Ob × Value)} (h : RowO w B 54 2 (fun p => nmdC (p.1.n, p.2)) v l) (hl : l.length ≤ 140737488355328) (hf : ∀ p ∈ l, FldsAt w p.2 p.1.fs) : ObsAt w v (l.map (·.1)) := by
  have h1 : Sl w v l.length 2 (fun i b o => ∀ x, l[i]? = some x → ObAt w x.1 b o) := RowO.cell (f := fun p => nmdC (p.1.n, p.2)) (sz := 2) (p := fun x b o => ObAt w x.1 b o) (fun _ => rfl) h hl fun x b o hx hc => ⟨hc 0 _ (by decide) rfl, x.2, hc 1 _ (by decide) rfl, hf x hx⟩
  unfold ObsAt
  rw [List.length_map]
  refine h1.mono (Nat.le_refl _) fun i b o _ hp x hx => ?_
  rw [List.getElem?_map] at hx
  obtain ⟨p, hp2, rfl⟩ := Option.map_eq_some_iff.1 hx
  exact hp p hp2
theorem ens_row {w : World} {B : Nat} {v : Value} {l : List (En × Value)} (h : RowO w B 59 2 (fun p => nmdC (p.1.n, p.2)) v l) (hl : l.length ≤ 140737488355328) (hf : ∀ p ∈ l, WdsAt w p.2 p.1.ws) : EnsAt w v (l.map (·.1)) := by
  have h1 : Sl w v l.length 2 (fun i b o => ∀ x, l[i]? = some x → EnAt w x.1 b o) := RowO.cell (f := fun p => nmdC (p.1.n, p.2)) (sz := 2) (p := fun x b o => EnAt w x.1 b o) (fun _ => rfl) h hl fun x b o hx hc => ⟨hc 0 _ (by decide) rfl, x.2, hc 1 _ (by decide) rfl, hf x hx⟩
  unfold EnsAt
  rw [List.length_map]
  refine h1.mono (Nat.le_refl _) fun i b o _ hp x hx => ?_
  rw [List.getElem?_map] at hx
  obtain ⟨p, hp2, rfl⟩ := Option.map_eq_some_iff.1 hx
  exact hp p hp2
theorem Tryz.infoFld : (Tryz.prog.info? 56).map (fun i => (i.zero, i.size, i.bytes)) = some (some (.agg #[.string ⟨#[]⟩, .string ⟨#[]⟩, .string ⟨#[]⟩, .bool false, .string ⟨#[]⟩]), 5, 72) := by kernel_rfl
theorem Tryz.infoStr : (Tryz.prog.info? 9).map (fun i => (i.zero, i.size, i.bytes)) = some (some (.string ⟨#[]⟩), 1, 16) := by kernel_rfl
theorem Tryz.infoEn : (Tryz.prog.info? 59).map (fun i => (i.zero, i.size, i.bytes)) = some (some (.agg #[.string ⟨#[]⟩, .slice none 0 0]), 2, 40) := by kernel_rfl
theorem Tryz.infoObj : (Tryz.prog.info? 54).map (fun i => (i.zero, i.size, i.bytes)) = some (some (.agg #[.string ⟨#[]⟩, .slice none 0 0]), 2, 40) := by kernel_rfl
/-- How many there are in bytes. -/
structure SchB (s : Sch) : Prop where
  os : s.os.length * 40 ≤ 140737488355328
  fs : ∀ o ∈ s.os, o.fs.length * 72 ≤ 140737488355328
  es : s.es.length * 40 ≤ 140737488355328
  ws : ∀ e ∈ s.es, e.ws.length * 16 ≤ 140737488355328
end Go.Proofs.YtamkjpfomaapgaaGreatDoor
