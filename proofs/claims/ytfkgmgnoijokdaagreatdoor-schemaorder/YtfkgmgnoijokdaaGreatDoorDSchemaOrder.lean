/- In which order objects, enums and words stand makes no difference to whether a schema may be: for any schema (within the form's own reach of 2^47 - 4096 bytes); the listed package variables are as the program's text lays them (tied). -/
import Derived.Test.YtfkgmgnoijokdaaGreatDoorC01
import Derived.Deep.AppendLies
import Derived.Deep.DrawnRows
import Derived.Deep.Slices
import Derived.Laws.AppendOwnNone
import Derived.Deep.RegionLawGrows
import Derived.OpenShut
import Derived.ProofKit
import Derived.SizedLaws
import Derived.Test.YtfkgmgnoijokdaaGreatDoorRows
import Derived.Test.YtfkgmgnoijokdaaGreatDoorLxK
import Derived.Lib.LaidU8
import Derived.LaidMore
import Derived.Stop.LaidErr
import Derived.Lay
import Derived.Shelf.Vars
import Derived.Test.YtfkgmgnoijokdaaGreatDoorTie
import Derived.Test.YtfkgmgnoijokdaaGreatDoorCards
import Derived.ShutString
import Derived.ChangeOld
import Derived.SevenTiedAt
import Derived.Stop.Joined
import Derived.Carry
namespace Go.Proofs.YtfkgmgnoijokdaaGreatDoor
open Go Go.RowKit Go.Shelf
/-- Objects with the slices of their fields, cell by cell. -/
def cellsB : List (Ob × Value) → List Value
  | [] => []
  | p :: l => .string ⟨p.1.n.toArray⟩ :: p.2 :: cellsB l
theorem cellsB_app (l m : List (Ob × Value)) : cellsB (l ++ m) = cellsB l ++ cellsB m := by
  induction l with
  | nil => rfl
  | cons x l ih => simp [cellsB, ih]
theorem cellsB_len (l : List (Ob × Value)) : (cellsB l).length = l.length * 2 := by
  induction l with
  | nil => rfl
  | cons x l ih => simp [cellsB, ih]; omega
theorem cellsB_at : ∀ (l : List (Ob × Value)) (i : Nat) (p : Ob × Value), l[i]? = some p → (cellsB l)[i * 2]? = some (.string ⟨p.1.n.toArray⟩) ∧ (cellsB l)[i * 2 + 1]? = some p.2
  | [], _, _, h => by simp at h
  | y :: l, 0, p, h => by
    simp at h
    subst h
    exact ⟨rfl, rfl⟩
  | y :: l, i + 1, p, h => by
    have ih := cellsB_at l i p (by simpa using h)
    have e : (i + 1) * 2 = i * 2 + 1 + 1 := by omega
    rw [e]
    simpa [cellsB] using ih
theorem cellsB_mem {l : List (Ob × Value)} {u : Value} (h : u ∈ cellsB l) : (∃ b : Bs, u = .string ⟨b.toArray⟩) ∨ ∃ p ∈ l, u = p.2 := by
  induction l with
  | nil => simp [cellsB] at h
  | cons x l ih =>
    simp only [cellsB, List.mem_cons] at h
    rcases h with rfl | rfl | h
    · exact Or.inl ⟨_, rfl⟩
    · exact Or.inr ⟨x, by simp, rfl⟩
    · rcases ih h with q | ⟨p, hp, e⟩
      · exact Or.inl q
      · exact Or.inr ⟨p, by simp [hp], e⟩
/-- What a slice of objects holds, cell by cell. -/
theorem obs_pairs {w : World} {v : Value} {os : List Ob} (h : ObsAt w v os) (hn : 0 < os.length) : ∃ (b o c : Nat) (l : List (Ob × Value)), v = .slice (some ⟨b, o, none⟩) os.length c ∧ b < w.heap.size ∧ os.length ≤ c ∧ l.map (·.1) = os ∧ (∀ p ∈ l, FldsAt w p.2 p.1.fs) ∧ ∀ j u, (cellsB l)[j]? = some u → w.cell? ⟨b, o + j, none⟩ = some u := by
  obtain ⟨a, c, rfl, hc, _, hr⟩ := h
  obtain ⟨b, o, rfl, hb, hH⟩ := hr hn
  have each : ∀ i, i < os.length → ∃ fv : Value, ∀ x, os[i]? = some x → w.cell? ⟨b, o + i * 2, none⟩ = some (.string ⟨x.n.toArray⟩) ∧ w.cell? ⟨b, o + i * 2 + 1, none⟩ = some fv ∧ FldsAt w fv x.fs := by
    intro i hi
    obtain ⟨x, hx⟩ : ∃ x, os[i]? = some x := ⟨_, List.getElem?_eq_getElem hi⟩
    obtain ⟨e0, fv, e1, hf⟩ := hH i hi x hx
    refine ⟨fv, fun y hy => ?_⟩
    rw [hx] at hy
    cases hy
    exact ⟨e0, e1, hf⟩
  haveI : Inhabited Value := ⟨undef⟩
  obtain ⟨f, hf⟩ := Deep.choose_lt each
  have hlen : (List.zip os ((List.range os.length).map f)).length = os.length := by simp
  have hat : ∀ i p, (List.zip os ((List.range os.length).map f))[i]? = some p → ∃ x, os[i]? = some x ∧ p = (x, f i) := by
    intro i p hp
    have hi : i < os.length := by
      have := (List.getElem?_eq_some_iff.1 hp).1
      omega
    rw [List.getElem?_zip_eq_some] at hp
    refine ⟨p.1, hp.1, ?_⟩
    have h2 := hp.2
    simp [hi] at h2
    rw [h2]
  refine ⟨b, o, c, List.zip os ((List.range os.length).map f), rfl, hb, hc, List.map_fst_zip (by simp), ?_, ?_⟩
  · intro p hp
    obtain ⟨i, hi⟩ := List.mem_iff_getElem?.1 hp
    obtain ⟨x, hx, rfl⟩ := hat i p hi
    exact (hf i (List.getElem?_eq_some_iff.1 hx).1 x hx).2.2
  · intro j u hj
    have hjl : j < os.length * 2 := by
      have := (List.getElem?_eq_some_iff.1 hj).1
      rw [cellsB_len, hlen] at this
      exact this
    obtain ⟨m, r, hm, hr2⟩ : ∃ m r, j = m * 2 + r ∧ r < 2 := ⟨j / 2, j % 2, by omega, by omega⟩
    obtain ⟨p, hp⟩ : ∃ p, (List.zip os ((List.range os.length).map f))[m]? = some p := ⟨_, List.getElem?_eq_getElem (by omega)⟩
    obtain ⟨q0, q1⟩ := cellsB_at _ _ _ hp
    obtain ⟨x, hx, rfl⟩ := hat _ p hp
    obtain ⟨c0, c1, _⟩ := hf m (by omega) x hx
    subst hm
    rcases (show r = 0 ∨ r = 1 by omega) with rfl | rfl
    · rw [Nat.add_zero, q0] at hj
      cases hj
      exact c0
    · rw [q1] at hj
      cases hj
      rw [← Nat.add_assoc]
      exact c1
theorem obs_own {w : World} {Q E : Nat} {v : Value} {l : List (Ob × Value)} (h : w.ownsRow Q E 2 v l.length (cellsB l)) (hl : l.length ≤ 140737488355328) (hf : ∀ p ∈ l, FldsAt w p.2 p.1.fs) : ObsAt w v (l.map (·.1)) := by
  unfold ObsAt
  rw [List.length_map]
  rcases h.2 with ⟨rfl, h0⟩ | ⟨g, cap, cur, hv, hb, hg, hn, _, _, ht⟩
  · exact ⟨none, 0, by rw [h0], by omega, hl, fun hp => absurd hp (by omega)⟩
  · refine ⟨_, cap, hv, hn, hl, fun _ => ⟨g, 0, rfl, lt_of_block hg, fun i hi x hx => ?_⟩⟩
    rw [List.getElem?_map] at hx
    obtain ⟨p, hp, rfl⟩ := Option.map_eq_some_iff.1 hx
    obtain ⟨q0, q1⟩ := cellsB_at l i p hp
    have f : ∀ k u, (cellsB l)[k]? = some u → w.cell? ⟨g, 0 + k, none⟩ = some u := fun k u hu => by
      rw [← ht, List.getElem?_take] at hu
      rw [Nat.zero_add]
      split at hu
      · unfold World.cell?
        rw [hg]
        simpa using hu
      · cases hu
    exact ⟨f _ _ q0, p.2, f _ _ q1, hf p (List.mem_of_getElem? hp)⟩
end Go.Proofs.YtfkgmgnoijokdaaGreatDoor
namespace Go.Proofs.YtfkgmgnoijokdaaGreatDoor
open Go Go.RowKit Go.Shelf
/-- Without the object at a place. -/
abbrev lessS (s : Sch) (at0 : Nat) : Sch := ⟨s.os.take at0 ++ s.os.drop (at0 + 1), s.es⟩
section less
variable {s : Sch} (h : OkD s) {k : Nat} {x : Ob} (hx : s.os[k]? = some x)
include hx
theorem less_split : s.os = s.os.take k ++ x :: s.os.drop (k + 1) := by
  obtain ⟨hk, e⟩ := List.getElem?_eq_some_iff.1 hx
  have h1 := (List.take_append_drop k s.os).symm
  rw [List.drop_eq_getElem_cons hk, e] at h1
  exact h1
theorem less_mem {o : Ob} (ho : o ∈ s.os) (hn : o.n ≠ x.n) : o ∈ (lessS s k).os := by
  rw [less_split hx] at ho
  rcases List.mem_append.1 ho with ho | ho
  · exact List.mem_append_left _ ho
  · rcases List.mem_cons.1 ho with rfl | ho
    · exact absurd rfl hn
    · exact List.mem_append_right _ ho
omit hx in
theorem less_sub {o : Ob} (ho : o ∈ (lessS s k).os) : o ∈ s.os := by
  rcases List.mem_append.1 ho with ho | ho
  · exact List.mem_of_mem_take ho
  · exact List.mem_of_mem_drop ho
theorem less_len : (lessS s k).os.length + 1 = s.os.length := by
  have h1 := congrArg List.length (less_split hx)
  rw [List.length_append, List.length_cons] at h1
  show (s.os.take k ++ s.os.drop (k + 1)).length + 1 = _
  rw [List.length_append]
  omega
include h
theorem less_nodup : ((lessS s k).os.map (·.n)).Nodup ∧ ¬ x.n ∈ (lessS s k).os.map (·.n) := by
  have h1 := h.u1
  rw [less_split hx, List.map_append, List.map_cons, List.nodup_append, List.nodup_cons] at h1
  obtain ⟨a1, ⟨a2, a3⟩, a4⟩ := h1
  constructor
  · rw [List.map_append, List.nodup_append]
    exact ⟨a1, a3, fun a ha b hb => a4 a ha b (List.mem_cons_of_mem _ hb)⟩
  · rw [List.map_append]
    intro hm
    rcases List.mem_append.1 hm with hm | hm
    · exact a4 _ hm _ (List.mem_cons_self ..) rfl
    · exact a2 hm
omit h in
theorem less_ed {t : Bs} (he : edP s t) (hn : t ≠ x.n) : edP (lessS s k) t := by
  obtain ⟨a, b, c⟩ := he
  refine ⟨a, b, ?_⟩
  obtain ⟨o, ho, e⟩ := List.mem_map.1 c
  exact List.mem_map.2 ⟨o, less_mem hx ho (by rw [e]; exact hn), e⟩
omit hx h in
theorem less_ed' {t : Bs} (he : edP (lessS s k) t) : edP s t := by
  obtain ⟨a, b, c⟩ := he
  refine ⟨a, b, ?_⟩
  obtain ⟨o, ho, e⟩ := List.mem_map.1 c
  exact List.mem_map.2 ⟨o, less_sub ho, e⟩
theorem less_man (h2 : 2 ≤ s.os.length) : manS (lessS s k) = true := by
  obtain ⟨⟨m1, m2⟩, m3, m4, m5⟩ := man_iff.1 h.m
  have hl := less_len hx
  exact man_iff.2 ⟨⟨by omega, by omega⟩, m3, fun o ho => m4 o (less_sub ho), m5⟩
omit hx in
theorem less_nam : (∀ o ∈ (lessS s k).os, frtS o.n = true ∧ ∀ f ∈ o.fs, frfS f.n = true) ∧ ∀ e ∈ (lessS s k).es, frtS e.n = true ∧ ∀ x ∈ e.ws, frwS x = true := ⟨fun o ho => h.no o (less_sub ho), h.ne⟩
theorem less_once : oncS (lessS s k) = true := by
  refine once_iff.2 ⟨(less_nodup h hx).1, h.u2, fun e he hm => ?_, h.u4, fun o ho => h.u5 o (less_sub ho)⟩
  obtain ⟨o, ho, eo⟩ := List.mem_map.1 hm
  exact h.u3 e he (List.mem_map.2 ⟨o, less_sub ho, eo⟩)
omit hx h in
theorem frt_sca {y : Bs} (hy : frtS y = true) : scaS y = false := by
  unfold frtS at hy
  simp only [Bool.and_eq_true, Bool.not_eq_true'] at hy
  exact hy.2.1.1.2
theorem less93 (h2 : 2 ≤ s.os.length) {o : Ob} {f : Fld} (ho : o ∈ (lessS s k).os) (hf : f ∈ o.fs) (hft : f.t = x.n) : chkS (lessS s k) = 93 := by
  refine chk93 (less_man h hx h2) (nam_iff.2 (less_nam h)) (less_once h hx) ?_
  rw [← Bool.not_eq_true, all_sptF (p := fun f => wtyS (lessS s k) f)]
  intro hall
  have hxm := List.mem_of_getElem? hx
  rcases wty_iff.1 (hall o ho f hf) with ⟨g | g, _⟩ | ⟨g, _⟩
  · rw [hft, frt_sca (h.no x hxm).1] at g
    cases g
  · obtain ⟨e, he, een⟩ := List.mem_map.1 g
    exact h.u3 e he (by rw [een, hft]; exact List.mem_map.2 ⟨x, hxm, rfl⟩)
  · have := g.2.2
    rw [hft] at this
    exact (less_nodup h hx).2 this
theorem less0 (h2 : 2 ≤ s.os.length) (hno : ∀ o ∈ (lessS s k).os, ∀ f ∈ o.fs, f.t ≠ x.n) : chkS (lessS s k) = 0 := by
  obtain ⟨u1, u2, u3, u4, u5⟩ := once_iff.1 (less_once h hx)
  have hN := less_nam (k := k) h
  rw [chk_ok]
  refine ⟨less_man h hx h2, hN.1, hN.2, u1, u2, u3, u4, u5, ?_, ?_, ?_⟩
  · intro o ho f hf
    rcases wty_iff.1 (h.ty o (less_sub ho) f hf) with g | g
    · exact wty_iff.2 (Or.inl g)
    · exact wty_iff.2 (Or.inr ⟨less_ed hx g.1 (hno o ho f hf), g.2⟩)
  · intro o ho f hf hs he
    exact h.se o (less_sub ho) f hf hs (less_ed' he)
  · intro o ho f hf hi
    obtain ⟨a, p, hp, e1, g, hg, e2, e3, e4, e5⟩ := h.le o (less_sub ho) f hf hi
    have hpn : p.n ≠ x.n := by rw [e1]; exact hno o ho f hf
    have hpm := less_mem hx hp hpn
    exact ⟨less_ed hx a (hno o ho f hf), p, hpm, e1, g, hg, e2, less_ed hx e3 (hno p hpm g hg), e4, e5⟩
end less
theorem nodup_rev {l : List Bs} : l.reverse.Nodup ↔ l.Nodup := by
  unfold List.Nodup
  rw [List.pairwise_reverse]
  exact ⟨fun h => h.imp Ne.symm, fun h => h.imp Ne.symm⟩
/-- The other way round. -/
def revO (o : Ob) : Ob := ⟨o.n, o.fs.reverse⟩
def revE (e : En) : En := ⟨e.n, e.ws.reverse⟩
def revS (s : Sch) : Sch := ⟨(s.os.map revO).reverse, (s.es.map revE).reverse⟩
theorem rev_rev (s : Sch) : revS (revS s) = s := by
  obtain ⟨os, es⟩ := s
  simp only [revS, List.map_reverse, List.reverse_reverse, List.map_map]
  congr
  · rw [show revO ∘ revO = id from funext fun o => by simp [revO]]
    simp
  · rw [show revE ∘ revE = id from funext fun o => by simp [revE]]
    simp
section order
variable {s : Sch}
theorem rev_os {o : Ob} : o ∈ (revS s).os ↔ ∃ p ∈ s.os, revO p = o := by simp [revS]
theorem rev_es {o : En} : o ∈ (revS s).es ↔ ∃ p ∈ s.es, revE p = o := by simp [revS]
theorem rev_on : (revS s).os.map (·.n) = (s.os.map (·.n)).reverse := by
  simp only [revS, List.map_reverse, List.map_map]
  rfl
theorem rev_en : (revS s).es.map (·.n) = (s.es.map (·.n)).reverse := by
  simp only [revS, List.map_reverse, List.map_map]
  rfl
theorem rev_ed {t : Bs} : edP (revS s) t ↔ edP s t := by
  unfold edP
  rw [rev_on, rev_en, List.mem_reverse, List.mem_reverse]
theorem rev_wty {f : Fld} : wtyS (revS s) f = true ↔ wtyS s f = true := by
  rw [wty_iff, wty_iff, rev_ed, rev_en, List.mem_reverse]
/-- Rules 1 to 3. -/
def Low (s : Sch) : Prop := manS s = true ∧ ((∀ o ∈ s.os, frtS o.n = true ∧ ∀ f ∈ o.fs, frfS f.n = true) ∧ ∀ e ∈ s.es, frtS e.n = true ∧ ∀ x ∈ e.ws, frwS x = true) ∧ oncS s = true
theorem rev_low (h : Low s) : Low (revS s) := by
  obtain ⟨h1, ⟨h2, h3⟩, h4⟩ := h
  obtain ⟨m1, m2, m3, m4⟩ := man_iff.1 h1
  obtain ⟨u1, u2, u3, u4, u5⟩ := once_iff.1 h4
  refine ⟨man_iff.2 ⟨by simpa [revS] using m1, by simpa [revS] using m2, ?_, ?_⟩, ⟨?_, ?_⟩, once_iff.2 ⟨?_, ?_, ?_, ?_, ?_⟩⟩
  · intro o ho
    obtain ⟨p, hp, rfl⟩ := rev_os.1 ho
    simpa [revO] using m3 p hp
  · intro o ho
    obtain ⟨p, hp, rfl⟩ := rev_es.1 ho
    simpa [revE] using m4 p hp
  · intro o ho
    obtain ⟨p, hp, rfl⟩ := rev_os.1 ho
    exact ⟨(h2 p hp).1, fun f hf => (h2 p hp).2 f (List.mem_reverse.1 hf)⟩
  · intro o ho
    obtain ⟨p, hp, rfl⟩ := rev_es.1 ho
    exact ⟨(h3 p hp).1, fun f hf => (h3 p hp).2 f (List.mem_reverse.1 hf)⟩
  · rw [rev_on, nodup_rev]
    exact u1
  · rw [rev_en, nodup_rev]
    exact u2
  · intro e he
    obtain ⟨p, hp, rfl⟩ := rev_es.1 he
    rw [rev_on, List.mem_reverse]
    exact u3 p hp
  · intro e he
    obtain ⟨p, hp, rfl⟩ := rev_es.1 he
    exact nodup_rev.2 (u4 p hp)
  · intro o ho
    obtain ⟨p, hp, rfl⟩ := rev_os.1 ho
    show ((p.fs.reverse).map (·.n)).Nodup
    rw [List.map_reverse, nodup_rev]
    exact u5 p hp
theorem rev_ok (h : OkD s) : OkD (revS s) := by
  obtain ⟨h1, ⟨h2, h3⟩, h4⟩ := rev_low (s := s) ⟨h.m, ⟨h.no, h.ne⟩, h.once⟩
  obtain ⟨u1, u2, u3, u4, u5⟩ := once_iff.1 h4
  refine ⟨h1, h2, h3, u1, u2, u3, u4, u5, ?_, ?_, ?_⟩
  · intro o ho f hf
    obtain ⟨p, hp, rfl⟩ := rev_os.1 ho
    exact rev_wty.2 (h.ty p hp f (List.mem_reverse.1 hf))
  · intro o ho f hf hs
    obtain ⟨p, hp, rfl⟩ := rev_os.1 ho
    rw [rev_ed]
    exact h.se p hp f (List.mem_reverse.1 hf) hs
  · intro o ho f hf hi
    obtain ⟨p, hp, rfl⟩ := rev_os.1 ho
    obtain ⟨a, q, hq, e1, g, hg, e2, e3, e4, e5⟩ := h.le p hp f (List.mem_reverse.1 hf) hi
    exact ⟨rev_ed.2 a, revO q, rev_os.2 ⟨q, hq, rfl⟩, e1, g, List.mem_reverse.2 hg, e2, rev_ed.2 e3, e4, e5⟩
theorem order_ok : chkS (revS s) = 0 ↔ chkS s = 0 := by
  rw [chk_ok, chk_ok]
  refine ⟨fun h => ?_, rev_ok⟩
  have := rev_ok h
  rwa [rev_rev] at this
theorem order_low : (chkS (revS s) = 90 ∨ chkS (revS s) = 91 ∨ chkS (revS s) = 92) ↔ (chkS s = 90 ∨ chkS s = 91 ∨ chkS s = 92) := by
  rw [chk_low, chk_low]
  refine not_congr ⟨fun h => ?_, rev_low⟩
  have := rev_low (s := revS s) h
  rwa [rev_rev] at this
end order
end Go.Proofs.YtfkgmgnoijokdaaGreatDoor
namespace Go.Proofs.YtfkgmgnoijokdaaGreatDoor
open Go Go.RowKit Go.Shelf
theorem step_append_any {P : Program} (w : World) {ops : Array Oper} {o : Oper} {a : Act} {K : Act → World → Prop} {Q : Exit → Act → World → Prop} {E : Prop} (hgd : o.guard = none) (s x : Operand) (t : TypeId)
    (ho : o.op = .call { callee := .builtin .append, args := #[s, x], argTypes := #[t, t] })
    (base : Nat) (e : TypeId) (i : TypeInfo) (z : Value) (size bytes : Nat) (ht : P.underlying t = some (.slice e)) (hi : P.info? e = some i) (hz : i.zero = some z)
    (hsize : i.size = size) (hby : i.bytes = bytes) (hzs : z.cells.size = size) (hsz : 0 < size)
    (v : Value) (n : Nat) (xs : List Value) (hs : a.eval s = v) (hown : w.ownsRow base e size v n xs)
    (ad : Addr) (m c : Nat) (news : List Value) (hx : a.eval x = .slice (some ad) m c) (hl : news.length = m * size) (hnews : ∀ j u, news[j]? = some u → w.cell? (ad.add j) = some u) (h1 : ∀ u ∈ news, u.oneCell' = true)
    (h63 : n + m ≤ maxLen) (hbytes : (n + m) * bytes ≤ 140737488355328) (hbase : base ≤ w.heap.size)
    (h : ∀ v' w', w'.ownsRow base e size v' (n + m) (xs ++ news) → w.grownBy w' v.ownBlock → K (a.put o.dst v') w') :
    if Region.wanted o (yielded ops a.tmps) = true then Oper.wp P o a w K Q else E := by
  have hw : Region.wanted o (yielded ops a.tmps) = true := by simp [Region.wanted, hgd]
  rw [if_pos hw]
  obtain ⟨v', w', hr, h2, h3, _, _⟩ := run_append_own_at (P := P) w base t o.type e i z size bytes ht hi hz hsize hby hzs hsz v n xs hown ad m c news hl hnews h1 h63 hbytes hbase
  unfold Oper.wp execOp
  simp only [ho, resolve, invoke, builtin, Sem.run_bind, Sem.run_pure, Result.andThen_ok, List.map_toArray, List.map_cons, List.map_nil, hs, hx, hr]
  exact h v' w' h2 h3
theorem add_at (b o j : Nat) : (⟨b, o, none⟩ : Addr).add j = ⟨b, o + j, none⟩ := by
  unfold Addr.add
  split <;> simp_all
theorem cellsB_take : ∀ (l : List (Ob × Value)) (k : Nat), cellsB (l.take k) = (cellsB l).take (k * 2)
  | [], k => by simp [cellsB]
  | p :: l, 0 => by simp [cellsB]
  | p :: l, k + 1 => by
    have e : (k + 1) * 2 = k * 2 + 1 + 1 := by omega
    rw [List.take_succ_cons, e]
    simp only [cellsB, List.take_succ_cons]
    rw [cellsB_take l k]
theorem cellsB_drop : ∀ (l : List (Ob × Value)) (k : Nat), cellsB (l.drop k) = (cellsB l).drop (k * 2)
  | [], k => by simp [cellsB]
  | p :: l, 0 => by simp [cellsB]
  | p :: l, k + 1 => by
    have e : (k + 1) * 2 = k * 2 + 1 + 1 := by omega
    rw [List.drop_succ_cons, e]
    simp only [cellsB, List.drop_succ_cons]
    rw [cellsB_drop l k]
theorem cellsB_sub {l m : List (Ob × Value)} (h : ∀ p ∈ m, p ∈ l) (h1 : ∀ p ∈ l, ∃ a n c, p.2 = .slice a n c) : ∀ u ∈ cellsB m, u.oneCell' = true := by
  intro u hu
  rcases cellsB_mem hu with ⟨b, rfl⟩ | ⟨p, hp, rfl⟩
  · rfl
  · obtain ⟨a, n, c, e⟩ := h1 p (h p hp)
    rw [e]
    rfl
end Go.Proofs.YtfkgmgnoijokdaaGreatDoor
namespace Go.Proofs.YtfkgmgnoijokdaaGreatDoor
open Go Go.RowKit Go.Shelf
abbrev fldC (f : Fld) : List Value := [.string ⟨f.n.toArray⟩, .string ⟨f.t.toArray⟩, .string ⟨f.w.toArray⟩, .bool f.s, .string ⟨f.i.toArray⟩]
abbrev wrdC (x : Bs) : List Value := [.string ⟨x.toArray⟩]
abbrev nmdC (p : Bs × Value) : List Value := [.string ⟨p.1.toArray⟩, p.2]
section
variable {α : Type} {f : α → List Value} {sz : Nat}
theorem flat_len (hf : ∀ x, (f x).length = sz) : ∀ l : List α, (l.flatMap f).length = l.length * sz
  | [] => by simp
  | x :: l => by
    rw [List.flatMap_cons, List.length_append, flat_len hf l, hf, List.length_cons, Nat.add_mul]
    omega
theorem flat_at (hf : ∀ x, (f x).length = sz) : ∀ (l : List α) (i : Nat) (x : α), l[i]? = some x → ∀ j, j < sz → (l.flatMap f)[i * sz + j]? = (f x)[j]?
  | [], _, _, h, _, _ => by simp at h
  | y :: l, 0, x, h, j, hj => by
    simp at h
    subst h
    rw [Nat.zero_mul, Nat.zero_add, List.flatMap_cons]
    exact List.getElem?_append_left (by rw [hf]; exact hj)
  | y :: l, i + 1, x, h, j, hj => by
    have ih := flat_at hf l i x (by simpa using h) j hj
    rw [← ih, List.flatMap_cons]
    have e : (i + 1) * sz + j = sz + (i * sz + j) := by rw [Nat.add_mul]; omega
    rw [e, List.getElem?_append_right (by rw [hf]; omega), hf]
    congr 1
    omega
/-- A row of such elements that a call owns. -/
def RowO (w : World) (B E : Nat) (sz : Nat) (f : α → List Value) (v : Value) (l : List α) : Prop := w.ownsRow B E sz v l.length (l.flatMap f)
theorem RowO.slice {w : World} {B E : Nat} {v : Value} {l : List α} (h : RowO w B E sz f v l) : ∃ a c, v = .slice a l.length c := by
  rcases h.2 with ⟨h1, h2⟩ | ⟨g, cap, cur, hv, _⟩
  · exact ⟨none, 0, by rw [h1, h2]⟩
  · exact ⟨_, _, hv⟩
theorem RowO.blk {w w' : World} {B E : Nat} {v : Value} {l : List α} (h : RowO w B E sz f v l) (hb : ∀ g cur, B ≤ g → w.heap[g]? = some (.cells cur E (0, 0)) → w'.heap[g]? = some (.cells cur E (0, 0))) : RowO w' B E sz f v l := by
  refine ⟨h.1, ?_⟩
  rcases h.2 with q | ⟨g, cap, cur, hv, hB, hg, h3⟩
  · exact Or.inl q
  · exact Or.inr ⟨g, cap, cur, hv, hB, hb g cur hB hg, h3⟩
theorem RowO.on {w w' : World} {B E : Nat} {v : Value} {l : List α} (h : RowO w B E sz f v l) (hb : Below w.heap.size w w') : RowO w' B E sz f v l := h.blk fun g _ _ hg => (hb.block g (lt_of_block hg)).trans hg
theorem RowO.base {w : World} {B B' E : Nat} {v : Value} {l : List α} (h : RowO w B E sz f v l) (hb : B' ≤ B) : RowO w B' E sz f v l := by
  refine ⟨h.1, ?_⟩
  rcases h.2 with q | ⟨g, cap, cur, hv, hB, h3⟩
  · exact Or.inl q
  · exact Or.inr ⟨g, cap, cur, hv, Nat.le_trans hb hB, h3⟩
/-- Only one block, of another type, has changed. -/
theorem RowO.kp {w w' : World} {B E T E' : Nat} {c : Array Value} {v : Value} {l : List α} (h : RowO w B E sz f v l) (k : Kp (fun k => k = T) w w') (hT : w.heap[T]? = some (.cells c E' (0, 0))) (hE : E ≠ E') : RowO w' B E sz f v l := h.blk fun g cur _ hg => (k.block g (lt_of_block hg) (fun e => by
    have e' : g = T := e
    subst e'
    rw [hT] at hg
    cases hg
    exact hE rfl)).trans hg
/-- A row of another type has grown. -/
theorem RowO.grown {w w' : World} {B B' E E' sz' n : Nat} {v u : Value} {xs : List Value} {l : List α} (h : RowO w B E sz f v l) (own : w.ownsRow B' E' sz' u n xs) (g : w.grownBy w' u.ownBlock) (hE : E ≠ E') : RowO w' B E sz f v l := h.blk fun k cur _ hk => (g.block k (lt_of_block hk) (fun e => by
    rcases own.2 with ⟨rfl, _⟩ | ⟨q, cap, cr, hv, _, hq, _⟩
    · cases e
    · rw [hv] at e
      have e2 : k = q := by simpa [Value.ownBlock] using e
      subst e2
      rw [hq] at hk
      cases hk
      exact hE rfl)).trans hk
theorem RowO.cell {w : World} {B E : Nat} {v : Value} {l : List α} (hf : ∀ x, (f x).length = sz) (h : RowO w B E sz f v l) (hl : l.length ≤ 140737488355328) {p : α → Nat → Nat → Prop} (hp : ∀ x b o, x ∈ l → (∀ j u, j < sz → (f x)[j]? = some u → w.cell? ⟨b, o + j, none⟩ = some u) → p x b o) : Sl w v l.length sz (fun i b o => ∀ x, l[i]? = some x → p x b o) := by
  rcases h.2 with ⟨rfl, h0⟩ | ⟨g, cap, cur, hv, hb, hg, hn, _, _, ht⟩
  · exact ⟨none, 0, by rw [h0], by omega, hl, fun hp => absurd hp (by omega)⟩
  · refine ⟨_, cap, hv, hn, hl, fun _ => ⟨g, 0, rfl, lt_of_block hg, fun i hi x hx => ?_⟩⟩
    refine hp x g _ (List.mem_of_getElem? hx) fun j u hj hu => ?_
    rw [← flat_at hf l i x hx j hj, ← ht, List.getElem?_take] at hu
    rw [Nat.zero_add]
    split at hu
    · unfold World.cell?
      rw [hg]
      simpa using hu
    · cases hu
end
theorem flds_row {w : World} {B : Nat} {v : Value} {l : List Fld} (h : RowO w B 33 5 fldC v l) (hl : l.length ≤ 140737488355328) : FldsAt w v l := RowO.cell (f := fldC) (sz := 5) (p := FldAt w) (fun _ => rfl) h hl fun x b o _ hc => ⟨hc 0 _ (by decide) rfl, hc 1 _ (by decide) rfl, hc 2 _ (by decide) rfl, hc 3 _ (by decide) rfl, hc 4 _ (by decide) rfl⟩
theorem wds_row {w : World} {B : Nat} {v : Value} {l : List Bs} (h : RowO w B 9 1 wrdC v l) (hl : l.length ≤ 140737488355328) : WdsAt w v l := RowO.cell (f := wrdC) (sz := 1) (p := fun x b o => w.cell? ⟨b, o, none⟩ = some (.string ⟨x.toArray⟩)) (fun _ => rfl) h hl fun x b o _ hc => hc 0 _ (by decide) rfl
theorem obs_row {w : World} {B : Nat} {v : Value} {l : List (Ob × Value)} (h : RowO w B 41 2 (fun p => nmdC (p.1.n, p.2)) v l) (hl : l.length ≤ 140737488355328) (hf : ∀ p ∈ l, FldsAt w p.2 p.1.fs) : ObsAt w v (l.map (·.1)) := by
  have h1 : Sl w v l.length 2 (fun i b o => ∀ x, l[i]? = some x → ObAt w x.1 b o) := RowO.cell (f := fun p => nmdC (p.1.n, p.2)) (sz := 2) (p := fun x b o => ObAt w x.1 b o) (fun _ => rfl) h hl fun x b o hx hc => ⟨hc 0 _ (by decide) rfl, x.2, hc 1 _ (by decide) rfl, hf x hx⟩
  unfold ObsAt
  rw [List.length_map]
  refine h1.mono (Nat.le_refl _) fun i b o _ hp x hx => ?_
  rw [List.getElem?_map] at hx
  obtain ⟨p, hp2, rfl⟩ := Option.map_eq_some_iff.1 hx
  exact hp p hp2
theorem ens_row {w : World} {B : Nat} {v : Value} {l : List (En × Value)} (h : RowO w B 45 2 (fun p => nmdC (p.1.n, p.2)) v l) (hl : l.length ≤ 140737488355328) (hf : ∀ p ∈ l, WdsAt w p.2 p.1.ws) : EnsAt w v (l.map (·.1)) := by
  have h1 : Sl w v l.length 2 (fun i b o => ∀ x, l[i]? = some x → EnAt w x.1 b o) := RowO.cell (f := fun p => nmdC (p.1.n, p.2)) (sz := 2) (p := fun x b o => EnAt w x.1 b o) (fun _ => rfl) h hl fun x b o hx hc => ⟨hc 0 _ (by decide) rfl, x.2, hc 1 _ (by decide) rfl, hf x hx⟩
  unfold EnsAt
  rw [List.length_map]
  refine h1.mono (Nat.le_refl _) fun i b o _ hp x hx => ?_
  rw [List.getElem?_map] at hx
  obtain ⟨p, hp2, rfl⟩ := Option.map_eq_some_iff.1 hx
  exact hp p hp2
theorem Tryz.infoFld : (Tryz.prog.info? 33).map (fun i => (i.zero, i.size, i.bytes)) = some (some (.agg #[.string ⟨#[]⟩, .string ⟨#[]⟩, .string ⟨#[]⟩, .bool false, .string ⟨#[]⟩]), 5, 72) := by kernel_rfl
theorem Tryz.infoStr : (Tryz.prog.info? 9).map (fun i => (i.zero, i.size, i.bytes)) = some (some (.string ⟨#[]⟩), 1, 16) := by kernel_rfl
theorem Tryz.infoEn : (Tryz.prog.info? 45).map (fun i => (i.zero, i.size, i.bytes)) = some (some (.agg #[.string ⟨#[]⟩, .slice none 0 0]), 2, 40) := by kernel_rfl
theorem Tryz.infoObj : (Tryz.prog.info? 41).map (fun i => (i.zero, i.size, i.bytes)) = some (some (.agg #[.string ⟨#[]⟩, .slice none 0 0]), 2, 40) := by kernel_rfl
/-- How many there are in bytes. -/
structure SchB (s : Sch) : Prop where
  os : s.os.length * 40 ≤ 140737488355328
  fs : ∀ o ∈ s.os, o.fs.length * 72 ≤ 140737488355328
  es : s.es.length * 40 ≤ 140737488355328
  ws : ∀ e ∈ s.es, e.ws.length * 16 ≤ 140737488355328
end Go.Proofs.YtfkgmgnoijokdaaGreatDoor
namespace Go.Proofs.YtfkgmgnoijokdaaGreatDoor
open Go Go.RowKit Go.Shelf
theorem order_ways (s : Sch) : (chkS s = 0 ∧ chkS (revS s) = 0) ∨ ((chkS s = 90 ∨ chkS s = 91 ∨ chkS s = 92) ∧ (chkS (revS s) = 90 ∨ chkS (revS s) = 91 ∨ chkS (revS s) = 92)) ∨ ((chkS s = 93 ∨ chkS s = 94 ∨ chkS s = 95) ∧ (chkS (revS s) = 93 ∨ chkS (revS s) = 94 ∨ chkS (revS s) = 95)) := by
  have h0 := order_ok (s := s)
  have h1 := order_low (s := s)
  have c1 := chk_cases s
  have c2 := chk_cases (revS s)
  generalize chkS s = a at *
  generalize chkS (revS s) = b at *
  omega
theorem drop_rev {α : Type} {l : List α} {m : Nat} {f : α} (h : l[m]? = some f) : (l.drop m).reverse = (l.drop (m + 1)).reverse ++ [f] := by
  obtain ⟨hm, e⟩ := List.getElem?_eq_some_iff.1 h
  rw [List.drop_eq_getElem_cons hm, e, List.reverse_cons]
theorem own_dr {w : World} {B E sz n : Nat} {v : Value} {xs : List Value} (h : w.ownsRow B E sz v n xs) : w.drew.ownsRow B E sz v n xs := h
/-- A row with one more, once it is stored. -/
theorem row_more {α : Type} {f : α → List Value} {sz B E OB E' : Nat} {w8 : World} {v V : Value} {l : List α} {x : α} {c : Array Value} {j : Nat} (own : w8.ownsRow B E sz v (l.length + 1) (l.flatMap f ++ f x)) (hT : w8.heap[OB]? = some (.cells c E' (0, 0))) (hE : E ≠ E') : RowO (w8.setCell ⟨OB, j, none⟩ V) B E sz f v (l ++ [x]) := by
  have h1 : RowO w8 B E sz f v (l ++ [x]) := by
    unfold RowO
    rw [List.length_append, List.flatMap_append, List.flatMap_singleton]
    exact own
  exact h1.kp ((Kp.refl (fun k => k = OB) w8).set OB j V (Or.inr rfl)) hT hE
theorem set_row0 {w : World} {OB E : Nat} {u0 u1 V : Value} (h : w.heap[OB]? = some (.cells #[u0, u1] E (0, 0))) : (w.setCell ⟨OB, 0, none⟩ V).heap[OB]? = some (.cells #[V, u1] E (0, 0)) := by
  rw [heap_setCell_same _ _ 0 _ _ _ h]
  rfl
theorem set_row1 {w : World} {OB E : Nat} {u0 u1 V : Value} (h : w.heap[OB]? = some (.cells #[u0, u1] E (0, 0))) : (w.setCell ⟨OB, 1, none⟩ V).heap[OB]? = some (.cells #[u0, V] E (0, 0)) := by
  rw [heap_setCell_same _ _ 1 _ _ _ h]
  rfl
theorem kp_grew {S : Nat → Prop} {a b c : World} {ob : Option Nat} (h : Kp S a b) (g : b.grownBy c ob) (hS : ∀ k, ob = some k → a.heap.size ≤ k) : Kp S a c := ⟨g.os.trans h.os, g.tape.trans h.tape, g.output.trans h.output, Nat.le_trans h.size g.size, fun k hk hn => (g.block k (by have := h.size; omega) (fun e => by have := hS k e.symm; omega)).trans (h.block k hk hn)⟩
theorem map_drop_rev {α β : Type} {l : List α} {m : Nat} {f : α} (g : α → β) (h : l[m]? = some f) : ((l.drop m).map g).reverse = ((l.drop (m + 1)).map g).reverse ++ [g f] := by
  obtain ⟨hm, e⟩ := List.getElem?_eq_some_iff.1 h
  rw [List.drop_eq_getElem_cons hm, e, List.map_cons, List.reverse_cons]
theorem en_cells {w : World} {v : Value} {es : List En} {i : Nat} {x : En} (h : EnsAt w v es) (hx : es[i]? = some x) : ∃ b o c a1 c1, v = .slice (some ⟨b, o, none⟩) es.length c ∧ b < w.heap.size ∧ es.length ≤ c ∧ w.cell? ⟨b, o + i * 2, none⟩ = some (.string ⟨x.n.toArray⟩) ∧ w.cell? ⟨b, o + i * 2 + 1, none⟩ = some (.slice a1 x.ws.length c1) ∧ WdsAt w (.slice a1 x.ws.length c1) x.ws := by
  obtain ⟨a, c, rfl, hc, _, hr⟩ := h
  have hi := (List.getElem?_eq_some_iff.1 hx).1
  obtain ⟨b, o, rfl, hb, hH⟩ := hr (by omega)
  obtain ⟨e0, fv, e1, hf⟩ := hH i hi x hx
  obtain ⟨a1, c1, rfl, _, _⟩ := hf.slice
  exact ⟨b, o, c, a1, c1, rfl, hb, hc, e0, e1, hf⟩
theorem wrd_cells {w : World} {a : Option Addr} {n c : Nat} {ws : List Bs} {i : Nat} {f : Bs} (h : WdsAt w (.slice a n c) ws) (hx : ws[i]? = some f) : ∃ b o, a = some ⟨b, o, none⟩ ∧ b < w.heap.size ∧ w.cell? ⟨b, o + i, none⟩ = some (.string ⟨f.toArray⟩) := by
  obtain ⟨a, c, he, hc, _, hr⟩ := h
  cases he
  have hi := (List.getElem?_eq_some_iff.1 hx).1
  obtain ⟨b, o, rfl, hb, hH⟩ := hr (by omega)
  have := hH i hi f hx
  rw [Nat.mul_one] at this
  exact ⟨b, o, rfl, hb, this⟩
section
variable {w : World} {ov ev : Value} {s : Sch}
set_option maxRecDepth 100000 in
set_option maxHeartbeats 16000000 in
theorem order_any (h : SchAt w ov ev s) (gl : Gl w) (hB : SchB s) : Calls Tryz.prog 7 #[.agg #[ov, ev]] w fun e w' => e = .returned (.bool true) ∧ Below w.heap.size w w' := by
  have hh := h
  have hos := h.os
  have hes := h.es
  have hBo := hB.os
  have hBe := hB.es
  obtain ⟨a, c, rfl, _, _⟩ := h.os.slice
  obtain ⟨a', c', rfl, _, _⟩ := h.es.slice
  obtain ⟨w0, hw0⟩ : ∃ w0, w0 = w.alloc (.cells #[.slice a s.os.length c, .slice a' s.es.length c'] 25) := ⟨_, rfl⟩
  have A0 : Below w.heap.size w w0 := by rw [hw0]; exact al1 w _
  have Z0 : w0.heap.size = w.heap.size + 1 := by rw [hw0, World.size_alloc]
  have HZ : ∀ {W : World}, Below w0.heap.size w0 W → Below w.heap.size w W := fun b => A0.trans (b.mono A0.size)
  obtain ⟨r0, r1, _⟩ := row2 (show w0.heap[w.heap.size]? = some (.cells #[.slice a s.os.length c, .slice a' s.es.length c'] 25) by rw [hw0]; exact heap_alloc_new w _)
  obtain ⟨w1, hw1⟩ : ∃ w1, w1 = w0.alloc (.cells #[.slice none 0 0, .slice none 0 0] 25) := ⟨_, rfl⟩
  have A1 : Below w0.heap.size w0 w1 := by rw [hw1]; exact al1 w0 _
  have T1 : w1.heap[w.heap.size + 1]? = some (.cells #[.slice none 0 0, .slice none 0 0] 25) := by rw [hw1, ← Z0]; exact heap_alloc_new w0 _
  have HBO : ∀ {W : World}, Kp (fun k => k = w.heap.size + 1) w1 W → Below w0.heap.size w0 W := fun {W} k => ⟨k.os.trans A1.os, k.tape.trans A1.tape, k.output.trans A1.output, Nat.le_trans A1.size k.size, fun q hq => (k.block q (Nat.lt_of_lt_of_le hq A1.size) (fun e => by have e' : q = w.heap.size + 1 := e; omega)).trans (A1.block q hq)⟩
  have p0 := cell_on A1 r0
  have p1 := cell_on A1 r1
  have HZ0 : Hid (w0.heap.size = w.heap.size + 1) := Z0
  clear Z0
  go_enter Tryz.func7, Tryz.ntmps7
  go_wp2
  rw [← hw0, ← hw1]
  clear hw0 hw1
  have HTSO : Hid (w1.heap[w.heap.size + 1]? = some (.cells #[.slice none 0 0, .slice none 0 0] 25)) := T1
  go_loopw [4] (fun iv wr => ∃ (i : Int) (j : Nat) (tv : Value) (L : List (Ob × Value)), iv = .int .i64 i ∧ i + 1 = (j : Int) ∧ j ≤ s.os.length ∧ wr.heap[w.heap.size + 1]? = some (.cells #[tv, .slice none 0 0] 25) ∧ RowO wr w1.heap.size 41 2 (fun p => nmdC (p.1.n, p.2)) tv L ∧ L.map (·.1) = ((s.os.drop j).map revO).reverse ∧ (∀ p ∈ L, RowO wr w1.heap.size 33 5 fldC p.2 p.1.fs) ∧ Kp (fun k => k = w.heap.size + 1) w1 wr) (fun iv _ => (RowKit.intOf iv + 1).toNat)
  case atStart => exact ⟨_, s.os.length, .slice none 0 0, [], rfl, by simp, Nat.le_refl _, T1, ⟨by simp, Or.inl ⟨rfl, rfl⟩⟩, by simp, by simp, Kp.refl _ _⟩
  case round =>
    obtain ⟨i, j, tv, L, rfl, hij, hj, hT, hL, hLm, hLf, hk⟩ := hrel
    have hbr : Below w0.heap.size w0 wr := HBO hk
    have z0 := cell_on hbr r0
    have z1 := cell_on hbr r1
    cases j with
    | succ j =>
      obtain rfl : i = (j : Int) := by omega
      obtain ⟨x, hx⟩ : ∃ x, s.os[j]? = some x := ⟨_, List.getElem?_eq_getElem (by omega)⟩
      obtain ⟨b, o, c0, a1, c1, hv, hbl, _, e0, e1, hfs⟩ := ob_cells hos hx
      cases hv
      have f0 := cell_on (HZ hbr) e0
      have f1 := cell_on (HZ hbr) e1
      have l1 : ((j : Nat) : Int) < (s.os.length : Int) := by omega
      have l0 : (0 : Int) ≤ ((j : Nat) : Int) := by omega
      have hjN : ((j : Nat) : Int).toNat = j := by omega
      have HX : Hid (s.os[j]? = some x) := hx
      have hxb : x.fs.length * 72 ≤ 140737488355328 := hB.fs x (List.mem_of_getElem? hx)
      have HT : Hid (wr.heap[w.heap.size + 1]? = some (.cells #[tv, .slice none 0 0] 25)) := hT
      have HL1 : Hid (RowO wr w1.heap.size 41 2 (fun p => nmdC (p.1.n, p.2)) tv L) := hL
      have HLM : Hid (L.map (·.1) = ((s.os.drop (j + 1)).map revO).reverse) := hLm
      have HLF : Hid (∀ p ∈ L, RowO wr w1.heap.size 33 5 fldC p.2 p.1.fs) := hLf
      have HKP : Hid (Kp (fun k => k = w.heap.size + 1) w1 wr) := hk
      have hTw : w.heap.size + 1 < wr.heap.size := lt_of_block hT
      have hSw := hk.size
      clear hx hT hL hLm hLf hk hij
      generalize hwB : wr = wB at *
      clear hwB
      obtain ⟨w5, hw5⟩ : ∃ w5, w5 = wB.alloc (.cells #[.string ⟨x.n.toArray⟩, .slice none 0 0] 41) := ⟨_, rfl⟩
      have A5 : Below wB.heap.size wB w5 := by rw [hw5]; exact al1 wB _
      have H5 : w5.heap[wB.heap.size]? = some (.cells #[.string ⟨x.n.toArray⟩, .slice none 0 0] 41) := by rw [hw5]; exact heap_alloc_new wB _
      have aw0 := fun o => cell_on (al1 wB o) z0
      have aw1 := fun o => cell_on (al1 wB o) z1
      have af1 := fun o => cell_on (al1 wB o) f1
      go_wp2
      rw [← hw5]
      clear hw5 z0 z1 f0 f1 aw0 aw1 af1
      go_loopw [6] (fun kv wr => ∃ (k : Int) (m : Nat) (lv : Value), kv = .int .i64 k ∧ k + 1 = (m : Int) ∧ m ≤ x.fs.length ∧ wr.heap[wB.heap.size]? = some (.cells #[.string ⟨x.n.toArray⟩, lv] 41) ∧ RowO wr (wB.heap.size + 1) 33 5 fldC lv (x.fs.drop m).reverse ∧ Below wB.heap.size wB wr) (fun kv _ => (RowKit.intOf kv + 1).toNat)
      case atStart => exact ⟨_, x.fs.length, .slice none 0 0, rfl, by simp, Nat.le_refl _, H5, ⟨by simp, Or.inl ⟨rfl, by simp⟩⟩, A5⟩
      case round =>
        obtain ⟨k, m, lv, rfl, hkm, hm, hO, hR, hbi⟩ := hrel
        have hbk : Below w0.heap.size w0 wr := hbr.trans (hbi.mono hbr.size)
        have z0 := cell_on hbk r0
        have z1 := cell_on hbk r1
        have f1 := cell_on (HZ hbk) e1
        obtain ⟨la, lc, rfl⟩ : ∃ la lc, lv = .slice la (x.fs.drop m).reverse.length lc := RowO.slice hR
        obtain ⟨q0, q1, qf⟩ := row2 hO
        have hOlt : wB.heap.size < wr.heap.size := lt_of_block hO
        cases m with
        | succ m =>
            obtain rfl : k = (m : Int) := by omega
            obtain ⟨f, hf⟩ : ∃ f, x.fs[m]? = some f := ⟨_, List.getElem?_eq_getElem (by omega)⟩
            obtain ⟨b1, o1, rfl, hbl1, _, g0, g1, g2, g3, g4⟩ := fld_cells hfs hf
            have k0 := cell_on (HZ hbk) g0
            have k1 := cell_on (HZ hbk) g1
            have k2 := cell_on (HZ hbk) g2
            have k3 := cell_on (HZ hbk) g3
            have k4 := cell_on (HZ hbk) g4
            have l2 : ((m : Nat) : Int) < (x.fs.length : Int) := by omega
            have l3 : (0 : Int) ≤ ((m : Nat) : Int) := by omega
            have hmN : ((m : Nat) : Int).toNat = m := by omega
            have HL : Hid (wr.ownsRow (wB.heap.size + 1) 33 5 (.slice la (x.fs.drop (m + 1)).reverse.length lc) (x.fs.drop (m + 1)).reverse.length ((x.fs.drop (m + 1)).reverse.flatMap fldC)) := hR
            have HOB : Hid (wr.heap[wB.heap.size]? = some (.cells #[.string ⟨x.n.toArray⟩, .slice la (x.fs.drop (m + 1)).reverse.length lc] 41)) := hO
            have HDR : Hid ((x.fs.drop m).reverse = (x.fs.drop (m + 1)).reverse ++ [f]) := drop_rev hf
            have hlen : (x.fs.drop (m + 1)).reverse.length + (m + 1) ≤ x.fs.length := by rw [List.length_reverse, List.length_drop]; omega
            have hlb : ((x.fs.drop (m + 1)).reverse.length + 1) * 72 ≤ 140737488355328 := by omega
            have HM : Hid (m ≤ x.fs.length) := by show m ≤ _; omega
            have aq := fun o => cell_on (al1 wr o) q1
            obtain ⟨fn, ft, fw, fs, fi⟩ := f
            simp only at k0 k1 k2 k3 k4
            obtain ⟨ti, hti, hy0, hy1, hy2⟩ := info_parts Tryz.infoFld
            clear hf hO hR hkm
            generalize hq : (x.fs.drop (m + 1)).reverse = D at *
            clear hq
            go_wp2
            go_region_law (first
              | (refine step_append_lies _ (by rfl) (.tmp 41) (.tmp 51) 39 (by rfl) (wB.heap.size + 1) 33 ti _ 5 72 Tryz.underlying39 hti hy0 hy1 hy2 rfl (by decide) (.slice la D.length lc) D.length (D.flatMap fldC) (by rfl) (own_dr (HL.out.alloc _)) ⟨wr.heap.size, 0, none⟩ 1 1 [.string ⟨fn.toArray⟩, .string ⟨ft.toArray⟩, .string ⟨fw.toArray⟩, .bool fs, .string ⟨fi.toArray⟩] (by rfl) rfl (World.news_of_block (show (wr.alloc (.cells #[.string ⟨fn.toArray⟩, .string ⟨ft.toArray⟩, .string ⟨fw.toArray⟩, .bool fs, .string ⟨fi.toArray⟩] 33)).drew.heap[wr.heap.size]? = _ from heap_alloc_new wr _)) (by intro u hu; simp at hu; rcases hu with rfl | rfl | rfl | rfl | rfl <;> rfl) (by decide) (by unfold maxLen; omega) (by omega) (by show _ ≤ (World.alloc _ _).heap.size; rw [World.size_alloc]; omega) _ rfl ?_; intro g8 cp8 w8 own8 gr8 hor8 hlt8; have Y8 : Below wB.heap.size wB w8 := below_grew (show Below wB.heap.size wB (wr.alloc (.cells #[.string ⟨fn.toArray⟩, .string ⟨ft.toArray⟩, .string ⟨fw.toArray⟩, .bool fs, .string ⟨fi.toArray⟩] 33)).drew from (hbi.alloc (by omega) _).drew) gr8 (by show _ ≤ (World.alloc _ _).heap.size; rw [World.size_alloc]; omega) (fun q e => by have := (own_blk HL.out e).1; omega); have hO8 : w8.heap[wB.heap.size]? = some (.cells #[.string ⟨x.n.toArray⟩, .slice la D.length lc] 41) := (gr8.block _ (by show _ < (World.alloc _ _).heap.size; rw [World.size_alloc]; omega) (fun e => by have := (own_blk HL.out e.symm).1; omega)).trans (((al1 wr (.cells #[.string ⟨fn.toArray⟩, .string ⟨ft.toArray⟩, .string ⟨fw.toArray⟩, .bool fs, .string ⟨fi.toArray⟩] 33)).block _ hOlt).trans HOB.out); obtain ⟨c80, c81, f8⟩ := row2 hO8; have HO8 : Hid (w8.heap[wB.heap.size]? = some (.cells #[.string ⟨x.n.toArray⟩, .slice la D.length lc] 41)) := hO8; have OW8 : Hid (w8.ownsRow (wB.heap.size + 1) 33 5 (.slice (some ⟨g8, 0, none⟩) (D.length + 1) cp8) (D.length + 1) (D.flatMap fldC ++ [.string ⟨fn.toArray⟩, .string ⟨ft.toArray⟩, .string ⟨fw.toArray⟩, .bool fs, .string ⟨fi.toArray⟩])) := own8; clear own8 gr8 hor8 hlt8 hO8)
              | fail)
            all_goals
              go_wp2
              refine ⟨⟨(m : Int) - 1, m, .slice (some ⟨g8, 0, none⟩) (D.length + 1) cp8, by simp, by omega, HM.out, set_row1 HO8.out, ?_, Y8.setCell (Nat.le_refl _) _⟩, ?_⟩
              · rw [HDR.out]
                exact row_more OW8.out HO8.out (by decide)
              · simp [RowKit.intOf]
                (try omega)
        | zero =>
          obtain rfl : k = -1 := by omega
          obtain ⟨ti, hti, hy0, hy1, hy2⟩ := info_parts Tryz.infoObj
          obtain ⟨ta, tc, rfl⟩ : ∃ ta tc, tv = .slice ta L.length tc := RowO.slice HL1.out
          have hTr : wr.heap[w.heap.size + 1]? = some (.cells #[.slice ta L.length tc, .slice none 0 0] 25) := (hbi.block _ hTw).trans HT.out
          obtain ⟨v0, v1, vf⟩ := row2 hTr
          have HTr : Hid (wr.heap[w.heap.size + 1]? = some (.cells #[.slice ta L.length tc, .slice none 0 0] 25)) := hTr
          have HOW : Hid (wr.ownsRow w1.heap.size 41 2 (.slice ta L.length tc) L.length (L.flatMap (fun p => nmdC (p.1.n, p.2)))) := HL1.out.on hbi
          have hLl : L.length + (j + 1) = s.os.length := by
            have := congrArg List.length HLM.out
            rw [List.length_map, List.length_reverse, List.length_map, List.length_drop] at this
            omega
          have hLb : (L.length + 1) * 40 ≤ 140737488355328 := by omega
          have HR0 : Hid (RowO wr (wB.heap.size + 1) 33 5 fldC (.slice la (x.fs.drop 0).reverse.length lc) (x.fs.drop 0).reverse) := hR
          have hTS : w.heap.size + 1 < w1.heap.size := lt_of_block HTSO.out
          have av0 := fun o => cell_on (al1 wr o) v0
          have av1 := fun o => cell_on (al1 wr o) v1
          clear hR hO hTr hkm hm
          generalize hq : (x.fs.drop 0).reverse = D at *
          go_wp2_with (first
            | (at_builtin; refine wpList_append_lies _ rfl (.tmp 55) (.tmp 57) 22 rfl w1.heap.size 41 ti _ 2 40 Tryz.underlying22 hti hy0 hy1 hy2 rfl (by decide) (.slice ta L.length tc) L.length (L.flatMap (fun p => nmdC (p.1.n, p.2))) rfl (HOW.out.alloc _) ⟨wr.heap.size, 0, none⟩ 1 1 [.string ⟨x.n.toArray⟩, .slice la D.length lc] rfl rfl (World.news_of_block (heap_alloc_new wr _)) (by intro u hu; simp at hu; rcases hu with rfl | rfl <;> rfl) (by decide) (by unfold maxLen; omega) (by omega) (by rw [World.size_alloc]; omega) _ rfl ?_; intro g8 cp8 w8 own8 gr8 hor8 hlt8; have hT8 : w8.heap[w.heap.size + 1]? = some (.cells #[.slice ta L.length tc, .slice none 0 0] 25) := (gr8.block _ (by rw [World.size_alloc]; omega) (fun e => by have := (own_blk HOW.out e.symm).1; omega)).trans (((al1 wr (.cells #[.string ⟨x.n.toArray⟩, .slice la D.length lc] 41)).block _ (by omega)).trans HTr.out); obtain ⟨c80, c81, f8⟩ := row2 hT8; have HT8 : Hid (w8.heap[w.heap.size + 1]? = some (.cells #[.slice ta L.length tc, .slice none 0 0] 25)) := hT8; have OW8 : Hid (w8.ownsRow w1.heap.size 41 2 (.slice (some ⟨g8, 0, none⟩) (L.length + 1) cp8) (L.length + 1) (L.flatMap (fun p => nmdC (p.1.n, p.2)) ++ [.string ⟨x.n.toArray⟩, .slice la D.length lc])) := own8; have GR8 : Hid ((wr.alloc (.cells #[.string ⟨x.n.toArray⟩, .slice la D.length lc] 41)).grownBy w8 (Value.slice ta L.length tc).ownBlock) := gr8; clear own8 gr8 hor8 hlt8 hT8)
            | fail)
          have KS := (Kp.refl (fun k => k = w.heap.size + 1) w8).set (w.heap.size + 1) 0 (.slice (some ⟨g8, 0, none⟩) (L.length + 1) cp8) (Or.inr rfl)
          have REL : ∃ (i : Int) (j' : Nat) (tv : Value) (L' : List (Ob × Value)), Value.int .i64 ((j : Int) - 1) = .int .i64 i ∧ i + 1 = (j' : Int) ∧ j' ≤ s.os.length ∧ (w8.setCell ⟨w.heap.size + 1, 0, none⟩ (.slice (some ⟨g8, 0, none⟩) (L.length + 1) cp8)).heap[w.heap.size + 1]? = some (.cells #[tv, .slice none 0 0] 25) ∧ RowO (w8.setCell ⟨w.heap.size + 1, 0, none⟩ (.slice (some ⟨g8, 0, none⟩) (L.length + 1) cp8)) w1.heap.size 41 2 (fun p => nmdC (p.1.n, p.2)) tv L' ∧ L'.map (·.1) = ((s.os.drop j').map revO).reverse ∧ (∀ p ∈ L', RowO (w8.setCell ⟨w.heap.size + 1, 0, none⟩ (.slice (some ⟨g8, 0, none⟩) (L.length + 1) cp8)) w1.heap.size 33 5 fldC p.2 p.1.fs) ∧ Kp (fun k => k = w.heap.size + 1) w1 (w8.setCell ⟨w.heap.size + 1, 0, none⟩ (.slice (some ⟨g8, 0, none⟩) (L.length + 1) cp8)) := by
            refine ⟨_, j, _, L ++ [(revO x, .slice la D.length lc)], rfl, by omega, by omega, set_row0 HT8.out, row_more (x := (revO x, Value.slice la D.length lc)) OW8.out HT8.out (by decide), ?_, ?_, ?_⟩
            · rw [List.map_append, HLM.out, map_drop_rev revO HX.out]
              rfl
            · intro p hp
              rcases List.mem_append.1 hp with hp | hp
              · exact ((((HLF.out p hp).on hbi).on (al1 wr _)).grown (HOW.out.alloc _) GR8.out (by decide)).kp KS HT8.out (by decide)
              · rw [List.mem_singleton] at hp
                subst hp
                have hq2 : (revO x).fs = D := hq
                show RowO _ _ _ _ _ (.slice la D.length lc) (revO x).fs
                rw [hq2]
                exact (((HR0.out.base (by omega)).on (al1 wr _)).grown (HOW.out.alloc _) GR8.out (by decide)).kp KS HT8.out (by decide)
            · exact (kp_grew ((HKP.out.trans (Kp.of_below hbi)).alloc _) GR8.out (fun q e => (own_blk HOW.out e).1)).trans KS
          refine ⟨?_, ?_⟩
          · simpa using REL
          · simp [RowKit.intOf]
            (try omega)
    | zero =>
      obtain rfl : i = -1 := by omega
      obtain ⟨ta0, tc0, rfl⟩ : ∃ ta tc, tv = .slice ta L.length tc := RowO.slice hL
      have HTSE : Hid (wr.heap[w.heap.size + 1]? = some (.cells #[.slice ta0 L.length tc0, .slice none 0 0] 25)) := hT
      have HLo : Hid (RowO wr w1.heap.size 41 2 (fun p => nmdC (p.1.n, p.2)) (.slice ta0 L.length tc0) L) := hL
      have HLMo : Hid (L.map (·.1) = ((s.os.drop 0).map revO).reverse) := hLm
      have HLFo : Hid (∀ p ∈ L, RowO wr w1.heap.size 33 5 fldC p.2 p.1.fs) := hLf
      have HBE : ∀ {W : World}, Kp (fun k => k = w.heap.size + 1) wr W → Below w0.heap.size w0 W := fun {W} k => ⟨k.os.trans hbr.os, k.tape.trans hbr.tape, k.output.trans hbr.output, Nat.le_trans hbr.size k.size, fun q hq => (k.block q (Nat.lt_of_lt_of_le hq hbr.size) (fun e => by have e' : q = w.heap.size + 1 := e; have := HZ0.out; omega)).trans (hbr.block q hq)⟩
      clear hT hL hLm hLf hk hij hj
      generalize hLo9 : L = Lo at *
      generalize hwE9 : wr = wE at *
      clear hLo9 hwE9
      go_wp2
      go_loopw [7] (fun iv wr => ∃ (i : Int) (j : Nat) (tv : Value) (L : List (En × Value)), iv = .int .i64 i ∧ i + 1 = (j : Int) ∧ j ≤ s.es.length ∧ wr.heap[w.heap.size + 1]? = some (.cells #[.slice ta0 Lo.length tc0, tv] 25) ∧ RowO wr wE.heap.size 45 2 (fun p => nmdC (p.1.n, p.2)) tv L ∧ L.map (·.1) = ((s.es.drop j).map revE).reverse ∧ (∀ p ∈ L, RowO wr wE.heap.size 9 1 wrdC p.2 p.1.ws) ∧ Kp (fun k => k = w.heap.size + 1) wE wr) (fun iv _ => (RowKit.intOf iv + 1).toNat)
      case atStart => exact ⟨_, s.es.length, .slice none 0 0, [], rfl, by simp, Nat.le_refl _, HTSE.out, ⟨by simp, Or.inl ⟨rfl, rfl⟩⟩, by simp, by simp, Kp.refl _ _⟩
      case round =>
        obtain ⟨i, j, tv, L, rfl, hij, hj, hT, hL, hLm, hLf, hk⟩ := hrel
        have hbr : Below w0.heap.size w0 wr := HBE hk
        have z0 := cell_on hbr r0
        have z1 := cell_on hbr r1
        cases j with
        | succ j =>
          obtain rfl : i = (j : Int) := by omega
          obtain ⟨x, hx⟩ : ∃ x, s.es[j]? = some x := ⟨_, List.getElem?_eq_getElem (by omega)⟩
          obtain ⟨b, o, c0, a1, c1, hv, hbl, _, e0, e1, hfs⟩ := en_cells hes hx
          cases hv
          have f0 := cell_on (HZ hbr) e0
          have f1 := cell_on (HZ hbr) e1
          have l1 : ((j : Nat) : Int) < (s.es.length : Int) := by omega
          have l0 : (0 : Int) ≤ ((j : Nat) : Int) := by omega
          have hjN : ((j : Nat) : Int).toNat = j := by omega
          have HX : Hid (s.es[j]? = some x) := hx
          have hxb : x.ws.length * 16 ≤ 140737488355328 := hB.ws x (List.mem_of_getElem? hx)
          have HT : Hid (wr.heap[w.heap.size + 1]? = some (.cells #[.slice ta0 Lo.length tc0, tv] 25)) := hT
          have HL1 : Hid (RowO wr wE.heap.size 45 2 (fun p => nmdC (p.1.n, p.2)) tv L) := hL
          have HLM : Hid (L.map (·.1) = ((s.es.drop (j + 1)).map revE).reverse) := hLm
          have HLF : Hid (∀ p ∈ L, RowO wr wE.heap.size 9 1 wrdC p.2 p.1.ws) := hLf
          have HKP : Hid (Kp (fun k => k = w.heap.size + 1) wE wr) := hk
          have hTw : w.heap.size + 1 < wr.heap.size := lt_of_block hT
          have hSw := hk.size
          clear hx hT hL hLm hLf hk hij
          generalize hwB : wr = wB at *
          clear hwB
          obtain ⟨w5, hw5⟩ : ∃ w5, w5 = wB.alloc (.cells #[.string ⟨x.n.toArray⟩, .slice none 0 0] 45) := ⟨_, rfl⟩
          have A5 : Below wB.heap.size wB w5 := by rw [hw5]; exact al1 wB _
          have H5 : w5.heap[wB.heap.size]? = some (.cells #[.string ⟨x.n.toArray⟩, .slice none 0 0] 45) := by rw [hw5]; exact heap_alloc_new wB _
          have aw0 := fun o => cell_on (al1 wB o) z0
          have aw1 := fun o => cell_on (al1 wB o) z1
          have af1 := fun o => cell_on (al1 wB o) f1
          go_wp2
          rw [← hw5]
          clear hw5 z0 z1 f0 f1 aw0 aw1 af1
          go_loopw [9] (fun kv wr => ∃ (k : Int) (m : Nat) (lv : Value), kv = .int .i64 k ∧ k + 1 = (m : Int) ∧ m ≤ x.ws.length ∧ wr.heap[wB.heap.size]? = some (.cells #[.string ⟨x.n.toArray⟩, lv] 45) ∧ RowO wr (wB.heap.size + 1) 9 1 wrdC lv (x.ws.drop m).reverse ∧ Below wB.heap.size wB wr) (fun kv _ => (RowKit.intOf kv + 1).toNat)
          case atStart => exact ⟨_, x.ws.length, .slice none 0 0, rfl, by simp, Nat.le_refl _, H5, ⟨by simp, Or.inl ⟨rfl, by simp⟩⟩, A5⟩
          case round =>
            obtain ⟨k, m, lv, rfl, hkm, hm, hO, hR, hbi⟩ := hrel
            have hbk : Below w0.heap.size w0 wr := hbr.trans (hbi.mono hbr.size)
            have z0 := cell_on hbk r0
            have z1 := cell_on hbk r1
            have f1 := cell_on (HZ hbk) e1
            obtain ⟨la, lc, rfl⟩ : ∃ la lc, lv = .slice la (x.ws.drop m).reverse.length lc := RowO.slice hR
            obtain ⟨q0, q1, qf⟩ := row2 hO
            have hOlt : wB.heap.size < wr.heap.size := lt_of_block hO
            cases m with
            | succ m =>
                obtain rfl : k = (m : Int) := by omega
                obtain ⟨f, hf⟩ : ∃ f, x.ws[m]? = some f := ⟨_, List.getElem?_eq_getElem (by omega)⟩
                obtain ⟨b1, o1, rfl, hbl1, g0⟩ := wrd_cells hfs hf
                have k0 := cell_on (HZ hbk) g0
                have l2 : ((m : Nat) : Int) < (x.ws.length : Int) := by omega
                have l3 : (0 : Int) ≤ ((m : Nat) : Int) := by omega
                have hmN : ((m : Nat) : Int).toNat = m := by omega
                have HL : Hid (wr.ownsRow (wB.heap.size + 1) 9 1 (.slice la (x.ws.drop (m + 1)).reverse.length lc) (x.ws.drop (m + 1)).reverse.length ((x.ws.drop (m + 1)).reverse.flatMap wrdC)) := hR
                have HOB : Hid (wr.heap[wB.heap.size]? = some (.cells #[.string ⟨x.n.toArray⟩, .slice la (x.ws.drop (m + 1)).reverse.length lc] 45)) := hO
                have HDR : Hid ((x.ws.drop m).reverse = (x.ws.drop (m + 1)).reverse ++ [f]) := drop_rev hf
                have hlen : (x.ws.drop (m + 1)).reverse.length + (m + 1) ≤ x.ws.length := by rw [List.length_reverse, List.length_drop]; omega
                have hlb : ((x.ws.drop (m + 1)).reverse.length + 1) * 16 ≤ 140737488355328 := by omega
                have HM : Hid (m ≤ x.ws.length) := by show m ≤ _; omega
                have aq := fun o => cell_on (al1 wr o) q1
                clear g0
                obtain ⟨ti, hti, hy0, hy1, hy2⟩ := info_parts Tryz.infoStr
                clear hf hO hR hkm
                generalize hq : (x.ws.drop (m + 1)).reverse = D at *
                clear hq
                go_wp2
                go_region_law (first
                  | (refine step_append_lies _ (by rfl) (.tmp 88) (.tmp 98) 43 (by rfl) (wB.heap.size + 1) 9 ti _ 1 16 Tryz.underlying43 hti hy0 hy1 hy2 rfl (by decide) (.slice la D.length lc) D.length (D.flatMap wrdC) (by rfl) (own_dr (HL.out.alloc _)) ⟨wr.heap.size, 0, none⟩ 1 1 [.string ⟨f.toArray⟩] (by rfl) rfl (World.news_of_block (show (wr.alloc (.cells #[.string ⟨f.toArray⟩] 9)).drew.heap[wr.heap.size]? = _ from heap_alloc_new wr _)) (by intro u hu; simp at hu; subst hu; rfl) (by decide) (by unfold maxLen; omega) (by omega) (by show _ ≤ (World.alloc _ _).heap.size; rw [World.size_alloc]; omega) _ rfl ?_; intro g8 cp8 w8 own8 gr8 hor8 hlt8; have Y8 : Below wB.heap.size wB w8 := below_grew (show Below wB.heap.size wB (wr.alloc (.cells #[.string ⟨f.toArray⟩] 9)).drew from (hbi.alloc (by omega) _).drew) gr8 (by show _ ≤ (World.alloc _ _).heap.size; rw [World.size_alloc]; omega) (fun q e => by have := (own_blk HL.out e).1; omega); have hO8 : w8.heap[wB.heap.size]? = some (.cells #[.string ⟨x.n.toArray⟩, .slice la D.length lc] 45) := (gr8.block _ (by show _ < (World.alloc _ _).heap.size; rw [World.size_alloc]; omega) (fun e => by have := (own_blk HL.out e.symm).1; omega)).trans (((al1 wr (.cells #[.string ⟨f.toArray⟩] 9)).block _ hOlt).trans HOB.out); obtain ⟨c80, c81, f8⟩ := row2 hO8; have HO8 : Hid (w8.heap[wB.heap.size]? = some (.cells #[.string ⟨x.n.toArray⟩, .slice la D.length lc] 45)) := hO8; have OW8 : Hid (w8.ownsRow (wB.heap.size + 1) 9 1 (.slice (some ⟨g8, 0, none⟩) (D.length + 1) cp8) (D.length + 1) (D.flatMap wrdC ++ [.string ⟨f.toArray⟩])) := own8; clear own8 gr8 hor8 hlt8 hO8)
                  | fail)
                all_goals
                  go_wp2
                  refine ⟨⟨(m : Int) - 1, m, .slice (some ⟨g8, 0, none⟩) (D.length + 1) cp8, by simp, by omega, HM.out, set_row1 HO8.out, ?_, Y8.setCell (Nat.le_refl _) _⟩, ?_⟩
                  · rw [HDR.out]
                    exact row_more OW8.out HO8.out (by decide)
                  · simp [RowKit.intOf]
                    (try omega)
            | zero =>
              obtain rfl : k = -1 := by omega
              obtain ⟨ti, hti, hy0, hy1, hy2⟩ := info_parts Tryz.infoEn
              obtain ⟨ta, tc, rfl⟩ : ∃ ta tc, tv = .slice ta L.length tc := RowO.slice HL1.out
              have hTr : wr.heap[w.heap.size + 1]? = some (.cells #[.slice ta0 Lo.length tc0, .slice ta L.length tc] 25) := (hbi.block _ hTw).trans HT.out
              obtain ⟨v0, v1, vf⟩ := row2 hTr
              have HTr : Hid (wr.heap[w.heap.size + 1]? = some (.cells #[.slice ta0 Lo.length tc0, .slice ta L.length tc] 25)) := hTr
              have HOW : Hid (wr.ownsRow wE.heap.size 45 2 (.slice ta L.length tc) L.length (L.flatMap (fun p => nmdC (p.1.n, p.2)))) := HL1.out.on hbi
              have hLl : L.length + (j + 1) = s.es.length := by
                have := congrArg List.length HLM.out
                rw [List.length_map, List.length_reverse, List.length_map, List.length_drop] at this
                omega
              have hLb : (L.length + 1) * 40 ≤ 140737488355328 := by omega
              have HR0 : Hid (RowO wr (wB.heap.size + 1) 9 1 wrdC (.slice la (x.ws.drop 0).reverse.length lc) (x.ws.drop 0).reverse) := hR
              have hTS : w.heap.size + 1 < wE.heap.size := lt_of_block HTSE.out
              have av0 := fun o => cell_on (al1 wr o) v0
              have av1 := fun o => cell_on (al1 wr o) v1
              clear hR hO hTr hkm hm
              generalize hq : (x.ws.drop 0).reverse = D at *
              go_wp2_with (first
                | (at_builtin; refine wpList_append_lies _ rfl (.tmp 102) (.tmp 104) 23 rfl wE.heap.size 45 ti _ 2 40 Tryz.underlying23 hti hy0 hy1 hy2 rfl (by decide) (.slice ta L.length tc) L.length (L.flatMap (fun p => nmdC (p.1.n, p.2))) rfl (HOW.out.alloc _) ⟨wr.heap.size, 0, none⟩ 1 1 [.string ⟨x.n.toArray⟩, .slice la D.length lc] rfl rfl (World.news_of_block (heap_alloc_new wr _)) (by intro u hu; simp at hu; rcases hu with rfl | rfl <;> rfl) (by decide) (by unfold maxLen; omega) (by omega) (by rw [World.size_alloc]; omega) _ rfl ?_; intro g8 cp8 w8 own8 gr8 hor8 hlt8; have hT8 : w8.heap[w.heap.size + 1]? = some (.cells #[.slice ta0 Lo.length tc0, .slice ta L.length tc] 25) := (gr8.block _ (by rw [World.size_alloc]; omega) (fun e => by have := (own_blk HOW.out e.symm).1; omega)).trans (((al1 wr (.cells #[.string ⟨x.n.toArray⟩, .slice la D.length lc] 45)).block _ (by omega)).trans HTr.out); obtain ⟨c80, c81, f8⟩ := row2 hT8; have HT8 : Hid (w8.heap[w.heap.size + 1]? = some (.cells #[.slice ta0 Lo.length tc0, .slice ta L.length tc] 25)) := hT8; have OW8 : Hid (w8.ownsRow wE.heap.size 45 2 (.slice (some ⟨g8, 0, none⟩) (L.length + 1) cp8) (L.length + 1) (L.flatMap (fun p => nmdC (p.1.n, p.2)) ++ [.string ⟨x.n.toArray⟩, .slice la D.length lc])) := own8; have GR8 : Hid ((wr.alloc (.cells #[.string ⟨x.n.toArray⟩, .slice la D.length lc] 45)).grownBy w8 (Value.slice ta L.length tc).ownBlock) := gr8; clear own8 gr8 hor8 hlt8 hT8)
                | fail)
              have KS := (Kp.refl (fun k => k = w.heap.size + 1) w8).set (w.heap.size + 1) 1 (.slice (some ⟨g8, 0, none⟩) (L.length + 1) cp8) (Or.inr rfl)
              have REL : ∃ (i : Int) (j' : Nat) (tv : Value) (L' : List (En × Value)), Value.int .i64 ((j : Int) - 1) = .int .i64 i ∧ i + 1 = (j' : Int) ∧ j' ≤ s.es.length ∧ (w8.setCell ⟨w.heap.size + 1, 1, none⟩ (.slice (some ⟨g8, 0, none⟩) (L.length + 1) cp8)).heap[w.heap.size + 1]? = some (.cells #[.slice ta0 Lo.length tc0, tv] 25) ∧ RowO (w8.setCell ⟨w.heap.size + 1, 1, none⟩ (.slice (some ⟨g8, 0, none⟩) (L.length + 1) cp8)) wE.heap.size 45 2 (fun p => nmdC (p.1.n, p.2)) tv L' ∧ L'.map (·.1) = ((s.es.drop j').map revE).reverse ∧ (∀ p ∈ L', RowO (w8.setCell ⟨w.heap.size + 1, 1, none⟩ (.slice (some ⟨g8, 0, none⟩) (L.length + 1) cp8)) wE.heap.size 9 1 wrdC p.2 p.1.ws) ∧ Kp (fun k => k = w.heap.size + 1) wE (w8.setCell ⟨w.heap.size + 1, 1, none⟩ (.slice (some ⟨g8, 0, none⟩) (L.length + 1) cp8)) := by
                refine ⟨_, j, _, L ++ [(revE x, .slice la D.length lc)], rfl, by omega, by omega, set_row1 HT8.out, row_more (x := (revE x, Value.slice la D.length lc)) OW8.out HT8.out (by decide), ?_, ?_, ?_⟩
                · rw [List.map_append, HLM.out, map_drop_rev revE HX.out]
                  rfl
                · intro p hp
                  rcases List.mem_append.1 hp with hp | hp
                  · exact ((((HLF.out p hp).on hbi).on (al1 wr _)).grown (HOW.out.alloc _) GR8.out (by decide)).kp KS HT8.out (by decide)
                  · rw [List.mem_singleton] at hp
                    subst hp
                    have hq2 : (revE x).ws = D := hq
                    show RowO _ _ _ _ _ (.slice la D.length lc) (revE x).ws
                    rw [hq2]
                    exact (((HR0.out.base (by omega)).on (al1 wr _)).grown (HOW.out.alloc _) GR8.out (by decide)).kp KS HT8.out (by decide)
                · exact (kp_grew ((HKP.out.trans (Kp.of_below hbi)).alloc _) GR8.out (fun q e => (own_blk HOW.out e).1)).trans KS
              refine ⟨?_, ?_⟩
              · simpa using REL
              · simp [RowKit.intOf]
                (try omega)
        | zero =>
          obtain rfl : i = -1 := by omega
          obtain ⟨te, tce, rfl⟩ : ∃ te tce, tv = .slice te L.length tce := RowO.slice hL
          have hLoL : Lo.length ≤ s.os.length := by
            have := congrArg List.length HLMo.out
            rw [List.length_map, List.length_reverse, List.length_map, List.length_drop] at this
            omega
          have hLL : L.length ≤ s.es.length := by
            have := congrArg List.length hLm
            rw [List.length_map, List.length_reverse, List.length_map, List.length_drop] at this
            omega
          have OBr := obs_row (HLo.out.kp hk HTSE.out (by decide)) (by omega) (fun p hp => flds_row ((HLFo.out p hp).kp hk HTSE.out (by decide)) (by
            have hm : p.1 ∈ Lo.map (·.1) := List.mem_map.2 ⟨p, hp, rfl⟩
            rw [HLMo.out, List.mem_reverse] at hm
            obtain ⟨y, hy, e⟩ := List.mem_map.1 hm
            have h1 := hB.fs y (List.mem_of_mem_drop hy)
            have h2 : p.1.fs.length = y.fs.length := by rw [← e]; exact List.length_reverse
            omega))
          have ENr := ens_row hL (by omega) (fun p hp => wds_row (hLf p hp) (by
            have hm : p.1 ∈ L.map (·.1) := List.mem_map.2 ⟨p, hp, rfl⟩
            rw [hLm, List.mem_reverse] at hm
            obtain ⟨y, hy, e⟩ := List.mem_map.1 hm
            have h1 := hB.ws y (List.mem_of_mem_drop hy)
            have h2 : p.1.ws.length = y.ws.length := by rw [← e]; exact List.length_reverse
            omega))
          rw [HLMo.out] at OBr
          rw [hLm] at ENr
          have SA : SchAt wr (.slice ta0 Lo.length tc0) (.slice te L.length tce) (revS s) := ⟨OBr, ENr⟩
          obtain ⟨v0, v1, _⟩ := row2 hT
          have SB : SchAt wr (.slice a s.os.length c) (.slice a' s.es.length c') s := hh.on (HZ hbr)
          have glr := gl.below (HZ hbr) (Nat.le_refl _)
          have C1 := fun {W : World} (bb : Below wr.heap.size wr W) => hcheck_any (SB.on bb) (glr.below bb (Nat.le_refl _))
          have C2 := fun {W : World} (bb : Below wr.heap.size wr W) => hcheck_any (SA.on bb) (glr.below bb (Nat.le_refl _))
          have FX := fun {W : World} (bb : Below wr.heap.size wr W) => lfixed_any W (glr.below bb (Nat.le_refl _))
          have SX : ∀ {W : World}, Below wr.heap.size wr W → (fun w' => w'.cell? ⟨w.heap.size, 0, none⟩ = some (.slice a s.os.length c) ∧ w'.cell? ⟨w.heap.size, 1, none⟩ = some (.slice a' s.es.length c') ∧ w'.cell? ⟨w.heap.size + 1, 0, none⟩ = some (.slice ta0 Lo.length tc0) ∧ w'.cell? ⟨w.heap.size + 1, 1, none⟩ = some (.slice te L.length tce)) W := fun bb => ⟨cell_on bb z0, cell_on bb z1, cell_on bb v0, cell_on bb v1⟩
          have RR : Below wr.heap.size wr wr.drew := ⟨rfl, rfl, rfl, Nat.le_refl _, fun _ _ => rfl⟩
          have HBR : Hid (Below w.heap.size w wr) := HZ hbr
          have ways := order_ways s
          clear OBr ENr hL hLf hLm hk hT
          generalize chkS s = k1 at *
          generalize chkS (revS s) = k2 at *
          go_wp2
          go_region_held3 (fun w' => w'.cell? ⟨w.heap.size, 0, none⟩ = some (.slice a s.os.length c) ∧ w'.cell? ⟨w.heap.size, 1, none⟩ = some (.slice a' s.es.length c') ∧ w'.cell? ⟨w.heap.size + 1, 0, none⟩ = some (.slice ta0 Lo.length tc0) ∧ w'.cell? ⟨w.heap.size + 1, 1, none⟩ = some (.slice te L.length tce)) (first | with_reducible exact SX X2 | with_reducible exact SX X1 | with_reducible exact SX RR) ((first
            | (go_at_call 10; (with_reducible refine (C2 X1).mono ?_); rintro e x2 ⟨rfl, g2⟩; have X2 := X1.trans (g2.mono X1.size); clear g2)
            | (go_at_call 10; (with_reducible refine (C1 RR).mono ?_); rintro e x1 ⟨rfl, g1⟩; have X1 := RR.trans (g1.mono RR.size); clear g1)
            | fail))
          rcases ways with ⟨rfl, rfl⟩ | ⟨(rfl | rfl | rfl), (rfl | rfl | rfl)⟩ | ⟨(rfl | rfl | rfl), (rfl | rfl | rfl)⟩
          all_goals
            go_wp2_with (first
              | (go_at_call 9; (with_reducible refine (FX X2).mono ?_); rintro e x3 ⟨rfl, g3⟩; have X3 := X2.trans (g3.mono X2.size); clear g3)
              | fail)
            go_ret
            exact ⟨rfl, HBR.out.trans (X3.mono HBR.out.size)⟩
end
end Go.Proofs.YtfkgmgnoijokdaaGreatDoor
namespace Go.Proofs.YtfkgmgnoijokdaaGreatDoor
open Go Go.RowKit Go.ChangeShapes Go.WideShapes Go.Deep
/-- Nothing within it is beyond the form's reach. -/
def Wt {H : Type} (t : TypeId) (d : DataW H) : Prop := ∀ n ∈ d.weights Tryz.prog t, n ≤ reachBytes
theorem mem_weightsAll {H : Type} {e : TypeId} {d : DataW H} {n : Nat} (hn : n ∈ d.weights Tryz.prog e) : ∀ {l : List (DataW H)}, d ∈ l → n ∈ DataW.weightsAll Tryz.prog e l
  | x :: r, h => by
    simp only [DataW.weightsAll, List.mem_append]
    rcases List.mem_cons.1 h with rfl | h
    · exact Or.inl hn
    · exact Or.inr (mem_weightsAll hn h)
theorem Wt.elem {H : Type} {t e : TypeId} {el sp : List (DataW H)} (ht : Tryz.prog.underlying t = some (.slice e)) (h : Wt t (.slice el sp)) {d : DataW H} (hd : d ∈ el) : Wt e d := by
  intro n hn
  refine h n ?_
  simp only [DataW.weights, ht, List.mem_cons, List.mem_append]
  exact Or.inr (Or.inl (mem_weightsAll hn hd))
theorem Wt.len {H : Type} {t e : TypeId} {el sp : List (DataW H)} (ht : Tryz.prog.underlying t = some (.slice e)) (h : Wt t (.slice el sp)) (hb : 1 ≤ Tryz.prog.bytesOf e) : el.length ≤ 140737488355328 := by
  have h1 := h ((el.length + sp.length) * Tryz.prog.bytesOf e) (by simp only [DataW.weights, ht, List.mem_cons, true_or])
  have h2 := reachBytes_lt
  have h3 : el.length + sp.length ≤ (el.length + sp.length) * Tryz.prog.bytesOf e := Nat.le_mul_of_pos_right _ hb
  omega
theorem Wt.part {H : Type} {t : TypeId} {fs : Array Field} {parts : List (DataW H)} (ht : Tryz.prog.underlying t = some (.struct fs)) (h : Wt t (.agg parts)) {j : Nat} {u : TypeId} {d : DataW H} (hu : (fs.toList.map (·.type))[j]? = some u) (hd : parts[j]? = some d) : Wt u d := by
  intro n hn
  refine h n ?_
  simp only [DataW.weights, ht]
  exact DataW.weights_mem_each hu hd n hn
section
variable {H : Type} {enc : TypeId × Value → H} {w : World} {base : Nat} {spare : Nat → Bool} {held : Bool}
theorem open_sl {α : Type} {sz : Nat} {t e : TypeId} {p : α → Nat → Nat → Prop} (ht : Tryz.prog.underlying t = some (.slice e)) (hsz : Tryz.prog.cellsOf e = sz) (hs1 : 0 < sz) (hb : 1 ≤ Tryz.prog.bytesOf e) {fuel : Nat} {cs : List Value} {x : DataW H × List MemPlace} (h : DataW.trod enc Tryz.prog w base spare held fuel t cs = some x) (hw : Wt t x.1)
    (each : ∀ (fuel : Nat) (cs : List Value) (y : DataW H × List MemPlace) (b o : Nat), DataW.trod enc Tryz.prog w base spare held fuel e cs = some y → Wt e y.1 → cs.length = sz → (∀ j u, cs[j]? = some u → w.cell? ⟨b, o + j, none⟩ = some u) → ∃ a : α, p a b o) :
    ∃ (v : Value) (l : List α), cs = [v] ∧ Sl w v l.length sz (fun i b o => ∀ a, l[i]? = some a → p a b o) := by
  rcases open_slice ht h with ⟨hcs, _⟩ | ⟨ad, len, cap, m, n, D, Pl, hcs, _, hl, hm, hmm, rfl, hx⟩
  · exact ⟨_, [], hcs, _, 0, rfl, Nat.le_refl _, by simp, fun h => absurd h (by simp)⟩
  · have hlm : len ≤ m := by rw [hmm]; split <;> omega
    rw [hsz] at hx
    have hlen47 : len ≤ 140737488355328 := by
      have := hw.len ht hb
      simpa using this
    by_cases h0 : len = 0
    · subst h0
      exact ⟨_, [], hcs, some ad, cap, rfl, by simp, by simp, fun h => absurd h (by simp)⟩
    · obtain ⟨b, o, sp⟩ := ad
      have cell : ∀ i, i < len → ∃ cs', DataW.trod enc Tryz.prog w base spare held n e cs' = some (D i, Pl i) ∧ cs'.length = sz ∧ ∀ j, j < sz → w.cell? ((⟨b, o, sp⟩ : Addr).add (i * sz + j)) = cs'[j]? := by
        intro i hi
        obtain ⟨cs', h1, h2⟩ := hx i (by omega)
        obtain ⟨_, hlen, hcell⟩ := World.cells?_some h1
        refine ⟨cs', h2, hlen, fun j hj => ?_⟩
        have := hcell j hj
        rw [add_add] at this
        exact this
      obtain ⟨cs0, _, hl0, hc0⟩ := cell 0 (by omega)
      obtain ⟨u0, hu0⟩ : ∃ u, cs0[0]? = some u := ⟨_, List.getElem?_eq_getElem (by omega)⟩
      have hc00 := (hc0 0 hs1).trans hu0
      have hsp : sp = none := by simpa [Addr.add] using World.cell?_spot hc00
      subst hsp
      have hbl : b < w.heap.size := by
        have := World.block_lt_of_cell? w _ hc00
        simpa [Addr.add] using this
      have each' : ∀ i, i < len → ∃ a : α, p a b (o + i * sz) := by
        intro i hi
        obtain ⟨cs', h1, h2, h3⟩ := cell i hi
        refine each n cs' _ b (o + i * sz) h1 (hw.elem ht (List.mem_map.2 ⟨i, List.mem_range.2 hi, rfl⟩)) h2 fun j u hj => ?_
        have hjs : j < sz := by
          have := (List.getElem?_eq_some_iff.1 hj).1
          omega
        have h4 := (h3 j hjs).trans hj
        have e4 : (⟨b, o, none⟩ : Addr).add (i * sz + j) = ⟨b, o + i * sz + j, none⟩ := by simp [Addr.add, Nat.add_assoc]
        rw [e4] at h4
        exact h4
      obtain ⟨a0, _⟩ := each' 0 (by omega)
      haveI : Inhabited α := ⟨a0⟩
      obtain ⟨f, hf⟩ := choose_lt each'
      refine ⟨_, (List.range len).map f, hcs, some ⟨b, o, none⟩, cap, by simp, by simpa using hl, by simpa using hlen47, fun _ => ⟨b, o, rfl, hbl, fun i hi a ha => ?_⟩⟩
      have hi : i < len := by simpa using hi
      have hpf : a = f i := by
        simp [hi] at ha
        exact ha.symm
      subst hpf
      exact hf i hi
theorem Tryz.cStr : Tryz.prog.cellsOf 9 = 1 := by kernel_rfl
theorem Tryz.cFld : Tryz.prog.cellsOf 33 = 5 := by kernel_rfl
theorem Tryz.cRef : Tryz.prog.cellsOf 31 = 2 := by kernel_rfl
theorem Tryz.cBool : Tryz.prog.cellsOf 4 = 1 := by kernel_rfl
theorem Tryz.cOb : Tryz.prog.cellsOf 41 = 2 := by kernel_rfl
theorem Tryz.cEn : Tryz.prog.cellsOf 45 = 2 := by kernel_rfl
theorem Tryz.cSch : Tryz.prog.cellsOf 25 = 2 := by kernel_rfl
theorem Tryz.cFs : Tryz.prog.cellsOf 39 = 1 := by kernel_rfl
theorem Tryz.cWs : Tryz.prog.cellsOf 43 = 1 := by kernel_rfl
theorem Tryz.cOs : Tryz.prog.cellsOf 22 = 1 := by kernel_rfl
theorem Tryz.cEs : Tryz.prog.cellsOf 23 = 1 := by kernel_rfl
theorem open_str {fuel : Nat} {cs : List Value} {x : DataW H × List MemPlace} (h : DataW.trod enc Tryz.prog w base spare held fuel 9 cs = some x) : ∃ b : Bs, cs = [.string ⟨b.toArray⟩] := by
  obtain ⟨t, e, _, _⟩ := DataW.trod_string Tryz.underlying9 h
  exact ⟨t.data.toList, by rw [e]⟩
set_option maxRecDepth 100000 in
theorem open_fld {fuel : Nat} {cs : List Value} {x : DataW H × List MemPlace} (h : DataW.trod enc Tryz.prog w base spare held fuel 33 cs = some x) :
    ∃ f : Fld, cs = [.string ⟨f.n.toArray⟩, .string ⟨f.t.toArray⟩, .string ⟨f.w.toArray⟩, .bool f.s, .string ⟨f.i.toArray⟩] := by
  obtain ⟨xs, n, _, _, hl, hxl, hf⟩ := DataW.trod_struct Tryz.underlying33 h
  rw [Tryz.cFld] at hl
  match xs, hxl, cs, hl with
  | [y0, y1, y2, y3], _, [v0, v1, v2, v3, v4], _ =>
    have g0 := hf 0 _ rfl
    have g1 := hf 1 _ rfl
    have g2 := hf 2 _ rfl
    have g3 := hf 3 _ rfl
    simp [Tryz.cStr, Tryz.cRef, Tryz.cBool] at g0 g1 g2 g3
    obtain ⟨a0, e0⟩ := open_str g0
    obtain ⟨ys, m, _, _, _, hyl, hg⟩ := DataW.trod_struct Tryz.underlying31 g1
    match ys, hyl with
    | [z0, z1], _ =>
      have q0 := hg 0 _ rfl
      have q1 := hg 1 _ rfl
      simp [Tryz.cStr] at q0 q1
      obtain ⟨a1, e1⟩ := open_str q0
      obtain ⟨a2, e2⟩ := open_str q1
      obtain ⟨a3, e3, _, _⟩ := DataW.trod_bool Tryz.underlying4 g2
      obtain ⟨a4, e4⟩ := open_str g3
      simp at e0 e1 e2 e3 e4
      exact ⟨⟨a0, a1, a2, a3, a4⟩, by rw [e0, e1, e2, e3, e4]⟩
theorem open_wds {fuel : Nat} {cs : List Value} {x : DataW H × List MemPlace} (h : DataW.trod enc Tryz.prog w base spare held fuel 43 cs = some x) (hw : Wt 43 x.1) : ∃ (v : Value) (ws : List Bs), cs = [v] ∧ WdsAt w v ws :=
  open_sl Tryz.underlying43 Tryz.cStr (by decide) (of_decide_eq_true (by kernel_rfl)) h hw fun fuel cs y b o hy _ _ hc => by
    obtain ⟨a, rfl⟩ := open_str hy
    exact ⟨a, hc 0 _ rfl⟩
theorem open_flds {fuel : Nat} {cs : List Value} {x : DataW H × List MemPlace} (h : DataW.trod enc Tryz.prog w base spare held fuel 39 cs = some x) (hw : Wt 39 x.1) : ∃ (v : Value) (fs : List Fld), cs = [v] ∧ FldsAt w v fs :=
  open_sl Tryz.underlying39 Tryz.cFld (by decide) (of_decide_eq_true (by kernel_rfl)) h hw fun fuel cs y b o hy _ _ hc => by
    obtain ⟨f, rfl⟩ := open_fld hy
    exact ⟨f, hc 0 _ rfl, hc 1 _ rfl, hc 2 _ rfl, hc 3 _ rfl, hc 4 _ rfl⟩
set_option maxRecDepth 100000 in
theorem open_ob {fuel : Nat} {cs : List Value} {x : DataW H × List MemPlace} (h : DataW.trod enc Tryz.prog w base spare held fuel 41 cs = some x) (hw : Wt 41 x.1) :
    ∃ (o : Ob) (fv : Value), cs = [.string ⟨o.n.toArray⟩, fv] ∧ FldsAt w fv o.fs := by
  obtain ⟨xs, n, _, rfl, hl, hxl, hf⟩ := DataW.trod_struct Tryz.underlying41 h
  rw [Tryz.cOb] at hl
  match xs, hxl, cs, hl with
  | [y0, y1], _, [v0, v1], _ =>
    have g0 := hf 0 _ rfl
    have g1 := hf 1 _ rfl
    simp [Tryz.cStr, Tryz.cFs] at g0 g1
    obtain ⟨a0, e0⟩ := open_str g0
    obtain ⟨fv, fs, e1, hfs⟩ := open_flds g1 (hw.part Tryz.underlying41 (j := 1) rfl rfl)
    simp at e0 e1
    exact ⟨⟨a0, fs⟩, fv, by rw [e0, e1], hfs⟩
set_option maxRecDepth 100000 in
theorem open_en {fuel : Nat} {cs : List Value} {x : DataW H × List MemPlace} (h : DataW.trod enc Tryz.prog w base spare held fuel 45 cs = some x) (hw : Wt 45 x.1) :
    ∃ (o : En) (fv : Value), cs = [.string ⟨o.n.toArray⟩, fv] ∧ WdsAt w fv o.ws := by
  obtain ⟨xs, n, _, rfl, hl, hxl, hf⟩ := DataW.trod_struct Tryz.underlying45 h
  rw [Tryz.cEn] at hl
  match xs, hxl, cs, hl with
  | [y0, y1], _, [v0, v1], _ =>
    have g0 := hf 0 _ rfl
    have g1 := hf 1 _ rfl
    simp [Tryz.cStr, Tryz.cWs] at g0 g1
    obtain ⟨a0, e0⟩ := open_str g0
    obtain ⟨fv, fs, e1, hfs⟩ := open_wds g1 (hw.part Tryz.underlying45 (j := 1) rfl rfl)
    simp at e0 e1
    exact ⟨⟨a0, fs⟩, fv, by rw [e0, e1], hfs⟩
theorem open_obs {fuel : Nat} {cs : List Value} {x : DataW H × List MemPlace} (h : DataW.trod enc Tryz.prog w base spare held fuel 22 cs = some x) (hw : Wt 22 x.1) : ∃ (v : Value) (fs : List Ob), cs = [v] ∧ ObsAt w v fs :=
  open_sl Tryz.underlying22 Tryz.cOb (by decide) (of_decide_eq_true (by kernel_rfl)) h hw fun fuel cs y b o hy hwy _ hc => by
    obtain ⟨f, fv, rfl, hfs⟩ := open_ob hy hwy
    exact ⟨f, hc 0 _ rfl, fv, hc 1 _ rfl, hfs⟩
theorem open_ens {fuel : Nat} {cs : List Value} {x : DataW H × List MemPlace} (h : DataW.trod enc Tryz.prog w base spare held fuel 23 cs = some x) (hw : Wt 23 x.1) : ∃ (v : Value) (fs : List En), cs = [v] ∧ EnsAt w v fs :=
  open_sl Tryz.underlying23 Tryz.cEn (by decide) (of_decide_eq_true (by kernel_rfl)) h hw fun fuel cs y b o hy hwy _ hc => by
    obtain ⟨f, fv, rfl, hfs⟩ := open_en hy hwy
    exact ⟨f, hc 0 _ rfl, fv, hc 1 _ rfl, hfs⟩
set_option maxRecDepth 100000 in
theorem open_sch {fuel : Nat} {cs : List Value} {x : DataW H × List MemPlace} (h : DataW.trod enc Tryz.prog w base spare held fuel 25 cs = some x) (hw : Wt 25 x.1) :
    ∃ (s : Sch) (ov ev : Value), cs = [ov, ev] ∧ SchAt w ov ev s := by
  obtain ⟨xs, n, _, rfl, hl, hxl, hf⟩ := DataW.trod_struct Tryz.underlying25 h
  rw [Tryz.cSch] at hl
  match xs, hxl, cs, hl with
  | [y0, y1], _, [v0, v1], _ =>
    have g0 := hf 0 _ rfl
    have g1 := hf 1 _ rfl
    simp [Tryz.cOs, Tryz.cEs] at g0 g1
    obtain ⟨ov, os, e0, h0⟩ := open_obs g0 (hw.part Tryz.underlying25 (j := 0) rfl rfl)
    obtain ⟨ev, es, e1, h1⟩ := open_ens g1 (hw.part Tryz.underlying25 (j := 1) rfl rfl)
    simp at e0 e1
    exact ⟨⟨os, es⟩, ov, ev, by rw [e0, e1], h0, h1⟩
end
end Go.Proofs.YtfkgmgnoijokdaaGreatDoor
namespace Go.Proofs.YtfkgmgnoijokdaaGreatDoor
open Go Go.RowKit Go.ChangeShapes Go.WideShapes Go.Deep
theorem Wt.lenB {H : Type} {t e : TypeId} {el sp : List (DataW H)} (ht : Tryz.prog.underlying t = some (.slice e)) (h : Wt t (.slice el sp)) {B : Nat} (hB : Tryz.prog.bytesOf e = B) : el.length * B ≤ 140737488355328 := by
  have h1 := h ((el.length + sp.length) * Tryz.prog.bytesOf e) (by simp only [DataW.weights, ht, List.mem_cons, true_or])
  have h2 := reachBytes_lt
  rw [hB] at h1
  have h3 : el.length * B ≤ (el.length + sp.length) * B := Nat.mul_le_mul_right _ (by omega)
  omega
theorem Sl.mem {α : Type} {w : World} {v : Value} {sz : Nat} {l : List α} {p : α → Nat → Nat → Prop} {q : α → Prop} (h : Sl w v l.length sz (fun i b o => ∀ a, l[i]? = some a → p a b o)) (hp : ∀ a b o, p a b o → q a) : ∀ a ∈ l, q a := by
  intro a ha
  obtain ⟨i, hi⟩ := List.mem_iff_getElem?.1 ha
  have hl := (List.getElem?_eq_some_iff.1 hi).1
  obtain ⟨_, _, _, _, _, hr⟩ := h
  obtain ⟨b, o, _, _, hH⟩ := hr (by omega)
  exact hp a b _ (hH i hl a hi)
section
variable {H : Type} {enc : TypeId × Value → H} {w : World} {base : Nat} {spare : Nat → Bool} {held : Bool}
theorem open_slB {α : Type} {sz B : Nat} {t e : TypeId} {p : α → Nat → Nat → Prop} (ht : Tryz.prog.underlying t = some (.slice e)) (hB : Tryz.prog.bytesOf e = B) {fuel : Nat} {cs : List Value} {x : DataW H × List MemPlace} (h : DataW.trod enc Tryz.prog w base spare held fuel t cs = some x) (hw : Wt t x.1)
    {v : Value} {l : List α} (hc : cs = [v]) (hl : Sl w v l.length sz (fun i b o => ∀ a, l[i]? = some a → p a b o)) : l.length * B ≤ 140737488355328 := by
  obtain ⟨a9, c9, hv9, _⟩ := hl
  rcases open_slice ht h with ⟨hcs, _⟩ | ⟨ad, len, cap, m, n, D, Pl, hcs, _, hl, hm, hmm, rfl, hx⟩
  · rw [hc] at hcs
    have e2 : v = .slice none 0 0 := by simpa using hcs
    rw [hv9] at e2
    have : l.length = 0 := by
      injection e2
    rw [this]
    simp
  · have := hw.lenB ht hB
    rw [hc] at hcs
    have e2 : v = .slice (some ad) len cap := by simpa using hcs
    rw [hv9] at e2
    have e3 : l.length = len := by
      injection e2
    rw [e3]
    simpa using this
set_option maxRecDepth 100000 in
theorem open_obB {fuel : Nat} {cs : List Value} {x : DataW H × List MemPlace} (h : DataW.trod enc Tryz.prog w base spare held fuel 41 cs = some x) (hw : Wt 41 x.1) :
    ∃ (o : Ob) (fv : Value), cs = [.string ⟨o.n.toArray⟩, fv] ∧ FldsAt w fv o.fs ∧ o.fs.length * 72 ≤ 140737488355328 := by
  obtain ⟨xs, n, _, rfl, hl, hxl, hf⟩ := DataW.trod_struct Tryz.underlying41 h
  rw [Tryz.cOb] at hl
  match xs, hxl, cs, hl with
  | [y0, y1], _, [v0, v1], _ =>
    have g0 := hf 0 _ rfl
    have g1 := hf 1 _ rfl
    simp [Tryz.cStr, Tryz.cFs] at g0 g1
    obtain ⟨a0, e0⟩ := open_str g0
    have hw1 := hw.part Tryz.underlying41 (j := 1) (u := 39) rfl rfl
    obtain ⟨fv, fs, e1, hfs⟩ := open_flds g1 hw1
    have hb := open_slB (B := 72) Tryz.underlying39 (by kernel_rfl) g1 hw1 e1 hfs
    simp at e0 e1
    exact ⟨⟨a0, fs⟩, fv, by rw [e0, e1], hfs, hb⟩
set_option maxRecDepth 100000 in
theorem open_enB {fuel : Nat} {cs : List Value} {x : DataW H × List MemPlace} (h : DataW.trod enc Tryz.prog w base spare held fuel 45 cs = some x) (hw : Wt 45 x.1) :
    ∃ (o : En) (fv : Value), cs = [.string ⟨o.n.toArray⟩, fv] ∧ WdsAt w fv o.ws ∧ o.ws.length * 16 ≤ 140737488355328 := by
  obtain ⟨xs, n, _, rfl, hl, hxl, hf⟩ := DataW.trod_struct Tryz.underlying45 h
  rw [Tryz.cEn] at hl
  match xs, hxl, cs, hl with
  | [y0, y1], _, [v0, v1], _ =>
    have g0 := hf 0 _ rfl
    have g1 := hf 1 _ rfl
    simp [Tryz.cStr, Tryz.cWs] at g0 g1
    obtain ⟨a0, e0⟩ := open_str g0
    have hw1 := hw.part Tryz.underlying45 (j := 1) (u := 43) rfl rfl
    obtain ⟨fv, fs, e1, hfs⟩ := open_wds g1 hw1
    have hb := open_slB (B := 16) Tryz.underlying43 (by kernel_rfl) g1 hw1 e1 hfs
    simp at e0 e1
    exact ⟨⟨a0, fs⟩, fv, by rw [e0, e1], hfs, hb⟩
theorem open_obsB {fuel : Nat} {cs : List Value} {x : DataW H × List MemPlace} (h : DataW.trod enc Tryz.prog w base spare held fuel 22 cs = some x) (hw : Wt 22 x.1) : ∃ (v : Value) (fs : List Ob), cs = [v] ∧ ObsAt w v fs ∧ fs.length * 40 ≤ 140737488355328 ∧ ∀ o ∈ fs, o.fs.length * 72 ≤ 140737488355328 := by
  obtain ⟨v, l, hc, hl⟩ := open_sl (p := fun a b o => ObAt w a b o ∧ a.fs.length * 72 ≤ 140737488355328) Tryz.underlying22 Tryz.cOb (by decide) (of_decide_eq_true (by kernel_rfl)) h hw fun fuel cs y b o hy hwy _ hc => by
    obtain ⟨f, fv, rfl, hfs, hb⟩ := open_obB hy hwy
    exact ⟨f, ⟨hc 0 _ rfl, fv, hc 1 _ rfl, hfs⟩, hb⟩
  exact ⟨v, l, hc, hl.mono (Nat.le_refl _) fun i b o _ hp a ha => (hp a ha).1, open_slB (B := 40) Tryz.underlying22 (by kernel_rfl) h hw hc hl, hl.mem fun a b o hp => hp.2⟩
theorem open_ensB {fuel : Nat} {cs : List Value} {x : DataW H × List MemPlace} (h : DataW.trod enc Tryz.prog w base spare held fuel 23 cs = some x) (hw : Wt 23 x.1) : ∃ (v : Value) (fs : List En), cs = [v] ∧ EnsAt w v fs ∧ fs.length * 40 ≤ 140737488355328 ∧ ∀ o ∈ fs, o.ws.length * 16 ≤ 140737488355328 := by
  obtain ⟨v, l, hc, hl⟩ := open_sl (p := fun a b o => EnAt w a b o ∧ a.ws.length * 16 ≤ 140737488355328) Tryz.underlying23 Tryz.cEn (by decide) (of_decide_eq_true (by kernel_rfl)) h hw fun fuel cs y b o hy hwy _ hc => by
    obtain ⟨f, fv, rfl, hfs, hb⟩ := open_enB hy hwy
    exact ⟨f, ⟨hc 0 _ rfl, fv, hc 1 _ rfl, hfs⟩, hb⟩
  exact ⟨v, l, hc, hl.mono (Nat.le_refl _) fun i b o _ hp a ha => (hp a ha).1, open_slB (B := 40) Tryz.underlying23 (by kernel_rfl) h hw hc hl, hl.mem fun a b o hp => hp.2⟩
set_option maxRecDepth 100000 in
theorem open_schB {fuel : Nat} {cs : List Value} {x : DataW H × List MemPlace} (h : DataW.trod enc Tryz.prog w base spare held fuel 25 cs = some x) (hw : Wt 25 x.1) :
    ∃ (s : Sch) (ov ev : Value), cs = [ov, ev] ∧ SchAt w ov ev s ∧ SchB s := by
  obtain ⟨xs, n, _, rfl, hl, hxl, hf⟩ := DataW.trod_struct Tryz.underlying25 h
  rw [Tryz.cSch] at hl
  match xs, hxl, cs, hl with
  | [y0, y1], _, [v0, v1], _ =>
    have g0 := hf 0 _ rfl
    have g1 := hf 1 _ rfl
    simp [Tryz.cOs, Tryz.cEs] at g0 g1
    obtain ⟨ov, os, e0, h0, b0, c0⟩ := open_obsB g0 (hw.part Tryz.underlying25 (j := 0) rfl rfl)
    obtain ⟨ev, es, e1, h1, b1, c1⟩ := open_ensB g1 (hw.part Tryz.underlying25 (j := 1) rfl rfl)
    simp at e0 e1
    exact ⟨⟨os, es⟩, ov, ev, by rw [e0, e1], ⟨h0, h1⟩, ⟨b0, c0, b1, c1⟩⟩
end
end Go.Proofs.YtfkgmgnoijokdaaGreatDoor
namespace Go.Proofs.YtfkgmgnoijokdaaGreatDoor
open Go Go.RowKit Go.Lib

def listed : List (String × DataW Unit) := Rows.schemaChecksRow.laid
theorem at_var {w : World} {n : String} {d : DataW Unit} {g t : Nat} (h : VarReads Tryz.prog w n d) (hg : Tryz.prog.globalNamed n = some g) (ht : (Tryz.prog.globals[g]?).map (·.type) = some t) :
    ∃ (cs : Array Value) (fuel : Nat) (p : List MemPlace), w.var? Tryz.prog n = some cs ∧ DataW.trod (fun _ => ()) Tryz.prog w 0 (fun _ => true) false fuel t cs.toList = some (d, p) ∧ ∀ i, w.cell? ⟨g, i, none⟩ = cs.toList[i]? := by
  obtain ⟨g', t', cs, fuel, p, hg', ht', hv, hd⟩ := h
  obtain rfl := Option.some.inj (hg.symm.trans hg')
  obtain rfl := Option.some.inj (ht.symm.trans ht')
  exact ⟨cs, fuel, p, hv, hd, fun i => by rw [World.var?_cell hg hv i, Array.getElem?_toList]⟩
theorem es_laid {w : World} (h : VarReads Tryz.prog w "strconv.ErrSyntax" Rows.laid_strconv_ErrSyntax) : ∃ te pe, w.cell? ⟨3, 0, none⟩ = some (.iface te pe) := by
  obtain ⟨cs, fuel, p, _, hd, hc⟩ := at_var h (g := 3) (t := 140) (by kernel_rfl) (by kernel_rfl)
  cases fuel with
  | zero => simp [DataW.trod] at hd
  | succ n =>
    have hu := Tryz.underlying140
    simp only [DataW.trod, hu, Rows.laid_strconv_ErrSyntax] at hd
    rw [hc]
    split at hd
    all_goals simp_all
theorem max_of {W : World} (h : W.ShapedOpen Tryz.prog) : ∃ m, W.cell? ⟨gM, 0, none⟩ = some (.int .i64 m) :=
  cell_of_shapedOpen_int h (g := 0) (t := 3) (zero := #[.int .i64 0]) (of_decide_eq_true (by kernel_rfl)) (by kernel_rfl) rfl (by kernel_rfl) (by kernel_rfl) Tryz.underlying3
theorem gl_laid {W : World} (hL : laidMet Tryz.prog listed W) (hs : W.ShapedOpen Tryz.prog) : Gl W := by
  obtain ⟨te, pe, he⟩ := es_laid (laidMet.reads hL (.tail _ (.tail _ (.tail _ (.tail _ (.tail _ (.head _)))))))
  exact ⟨max_of hs, ⟨_, he, Or.inr ⟨te, pe, rfl⟩⟩⟩
end Go.Proofs.YtfkgmgnoijokdaaGreatDoor
namespace Go.Proofs.YtfkgmgnoijokdaaGreatDoor
open Go.ChangeShapes Go.WideShapes Go.ChangeAt Go.RowKit
open Go.ChangeMaps (open_string shut_string)

theorem Tryz.own : ownKnob Tryz.prog.godebug = none := by kernel_rfl
theorem Tryz.laidOut : laidOutB Tryz.prog = true := by kernel_rfl

/-- The road from the contract to the row where the contract is handed both what is listed and the world's shape. -/
theorem lifted_by {H : Type} {enc : TypeId × Value → H} {C : Checked} {os : Os} {f : FuncId} {fn : Func} {s : ChangeSpec} {conds : List PathCond} {apart fresh handsOn again : Bool} {X : World → Array Value → Prop}
    (hX : ∀ (w w' : World) (args : Array Value), w.heap = w'.heap → X w args → X w' args)
    (own : ownKnob C.prog.godebug = none) (started : os.Started) (noInit : C.prog.inits.idxOf? f = none) (hfn : C.prog.funcs[f]? = some fn)
    (witness : ∃ (w : World) (tape : Tape) (i : Input), w.os = os ∧ (w.forCall tape i).Shaped C.prog ∧ i.vars = [] ∧ Input.okWide C.prog (w.forCall tape i) .any w.heap.size f i ∧
      ((s.pre enc C.prog fn conds apart (w.forCall tape i).memory i.args ∧ X (w.forCall tape i).memory i.args) ∧ sizedMet enc C.prog fn (OpenSpec.ofChange s) apart (w.forCall tape i).memory i.args) ∧ ({} : Assume).holds C.prog (lone (Frame.enter C.prog f i.args .normal) [] (w.forCall tape i)))
    (contract : ∀ (W : World) (base : Nat) (args : Array Value) (ds gs : List (DataW H)) (before : List MemPlace),
      (∀ (j : Nat) t v, fn.params[j]? = some t → args[j]? = some v → Value.okWide C.prog W .any base t v) →
      DataW.Whole enc C.prog fn.params.toList s.vars apart W args.toList ds gs before →
      (DataW.weightsEach C.prog (fn.params.toList ++ s.plain.varTypes C.prog) (ds ++ gs)).all (· ≤ reachBytes) = true → W.ShapedOpen C.prog → X W args →
      Calls C.prog f args W fun e W' => ∃ v, e = .returned v ∧ s.post enc C.prog fn apart fresh handsOn again W args v W') :
    ReturnsInHanded {} C os f .any (fun w args => (s.pre enc C.prog fn conds apart w args ∧ X w args) ∧ sizedMet enc C.prog fn (OpenSpec.ofChange s) apart w args) (s.post enc C.prog fn apart fresh handsOn again) := by
  refine returnsInHanded_of_calls own started noInit witness ?_
  intro w tape i _ hsh _ hok hpre _
  obtain ⟨_, _, _, fn', hfn', _, _, _, _, hval⟩ := hok
  obtain rfl : fn' = fn := Option.some.inj (hfn'.symm.trans hfn)
  obtain ⟨⟨⟨ds, gs, before, hw, _⟩, hx⟩, hz⟩ := hpre
  refine (contract (w.forCall tape i) w.heap.size i.args ds gs before hval (DataW.Whole.of_heap (w' := w.forCall tape i) (by rfl) hw) (hz.weights hw) hsh (hX _ _ _ (by rfl) hx)).mono fun e W' ⟨v, he, hp⟩ => ?_
  subst he
  exact ChangeSpec.post_blind hp

set_option maxRecDepth 100000 in
theorem schemaOrder_lifted (os : Os) (started : os.Started) (H : Type) (enc : TypeId × Value → H) :
    ReturnsInHanded {} Tryz.checked os 7 .any (fun w args => (Rows.schemaOrderSpec.pre enc Tryz.prog Tryz.f7 Rows.schemaOrderRow.domain false w args ∧ laidMetH Tryz.prog listed w) ∧ sizedMet enc Tryz.prog Tryz.f7 (OpenSpec.ofChange Rows.schemaOrderSpec) false w args)
      (Rows.schemaOrderSpec.post enc Tryz.prog Tryz.f7 false true false false) := by
  refine lifted_by (C := Tryz.checked) (X := fun w _ => laidMetH Tryz.prog listed w) (fun _ _ _ hh h => h.of_heap hh) Tryz.own started (by kernel_rfl) Tryz.func7
    (ChangeSpec.witness_shaped (enc := enc) (C := Tryz.checked) (os := os) (X := fun w _ => laidMetH Tryz.prog listed w) false (World.laidAll Tryz.prog os listed) #[.agg #[.slice none 0 0, .slice none 0 0]] 8 (World.laidAll_os _ _ _)
      (World.shaped_of_ZipB (by kernel_rfl) (by kernel_rfl)) (by kernel_rfl) (by kernel_rfl) (by kernel_rfl)
      (by rw [MakeChecks.laidMetH_plain _ _ _ (by kernel_rfl)]; exact laidMet_laidAll _ (by kernel_rfl) (by kernel_rfl))) ?_
  intro W base args ds gs before hval0 hW hsz hsh hL
  have hval : ∀ (j : Nat) t v, Tryz.f7.params[j]? = some t → args[j]? = some v → Value.okWide Tryz.prog W .any base t v := hval0
  have hW' := hW
  obtain ⟨p, q, hA0, hV, rfl, hfz, hnd⟩ := hW
  have hA : DataW.TrodAll enc Tryz.prog W 0 (fun _ => true) true Tryz.f7.params.toList args.toList ds p := hA0
  rw [Tryz.params7] at hA hval
  obtain ⟨v0, vs0, d0, ds0, p0, q0, hargs, rfl, rfl, h0, r0⟩ := trodAll_cons hA
  obtain ⟨rfl, rfl, rfl⟩ := trodAll_nil r0
  obtain rfl : args = #[v0] := by cases args; simp_all
  obtain ⟨rfl, rfl⟩ := trodVars_none hV
  obtain ⟨c0, rfl, _⟩ := okWide_struct Tryz.underlying25 (hval 0 25 v0 rfl rfl)
  have k0 := h0
  have lt0 : ∀ x ∈ p0, x.block < W.heap.size := by obtain ⟨m, hm⟩ := k0; exact DataW.trod_lt m _ _ _ hm
  have wt0 : Wt 25 d0 := fun n hn => by
    have := List.all_eq_true.1 hsz n (DataW.weights_mem_each (j := 0) rfl rfl n hn)
    simpa using this
  obtain ⟨s0, ov0, ev0, hc0, hS0, hB0⟩ : ∃ (s : Sch) (ov ev : Value), (Value.agg c0).cells.toList = [ov, ev] ∧ SchAt W ov ev s ∧ SchB s := by
    obtain ⟨fuel, hf⟩ := h0
    exact open_schB hf wt0
  obtain rfl : c0 = #[ov0, ev0] := Array.toList_inj.1 hc0
  have hL2 : laidMetH Tryz.prog listed W := hL
  rw [MakeChecks.laidMetH_plain _ _ _ (by kernel_rfl)] at hL2
  have gl := gl_laid hL2 hsh
  clear hA0 hval0 hL hL2 hsz
  have wk := order_any hS0 gl hB0
  refine wk.mono fun e W' ⟨he, bel⟩ => ?_
  subst he
  exact ⟨_, rfl, _, _, _, [], _, [], hW', trodAll_mk1 (shut_bool Tryz.underlying4 _), (trodAll_cons_mk (Below.trod Tryz.laidOut (by kernel_rfl) (of_decide_eq_true (by kernel_rfl)) k0 bel lt0) trodAll_mk0), rfl, bel.frame _, fun h => by cases h⟩

theorem schemaOrder_row : Rows.SchemaOrderSaid :=
  OpenClaim.holds_of_wide 7 Tryz.f7 rfl rfl rfl rfl rfl rfl rfl ⟨rfl, rfl, rfl, rfl, rfl⟩ rfl rfl rfl rfl rfl (by kernel_rfl) Tryz.func7 (by kernel_rfl)
    (of_decide_eq_true (by kernel_rfl)) (by unfold Func.isWrapper; first | (rw [if_pos (by decide +kernel)]; kernel_rfl) | (rw [if_neg (by decide +kernel)]; exact ⟨rfl, rfl⟩))
    (fun os started H enc _ => schemaOrder_lifted os started H enc)

theorem schemaOrder_holds : Rows.SchemaOrderCardSaid :=
  Claim7.holds_tied_plain_at .later [] _ _ _ _ schemaOrder_row (fun _ h => by cases h) (by kernel_rfl) (fun _ h => by cases h) schemaOrder_row_tie rfl ⟨rfl, rfl⟩ (by kernel_rfl) rfl
    (fun f fn hf hfn => by
      obtain rfl : f = 7 := Option.some.inj ((show Tryz.prog.funcNamed "rhizome/rhizomelaw09.SchemaOrder" = some 7 by kernel_rfl).symm.trans hf) |>.symm
      obtain rfl : fn = Tryz.f7 := (Option.some.inj (Tryz.func7.symm.trans hfn)).symm
      exact ⟨by kernel_rfl, fun j t ht => by
        rw [Tryz.params7] at ht
        have hm : t ∈ [25] := by simpa using Array.mem_of_getElem? ht
        have hall : ([25].all fun u => !Tryz.prog.wantsStandIn u) = true := by kernel_rfl
        exact (show Tryz.prog.wantsStandIn t = false by simpa using List.all_eq_true.1 hall t hm)⟩)
    (by kernel_rfl)
#print axioms schemaOrder_holds
end Go.Proofs.YtfkgmgnoijokdaaGreatDoor
