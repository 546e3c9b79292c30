/- Without an object that no field names, a schema that may be may be still, if another object is left: for any schema and any place (within the form's own reach of 2^47 - 4096 bytes); the listed package variables are as the program's text lays them (tied). -/
import Derived.Test.YtfkgmgnoijokdaaGreatDoorC01
import Derived.Deep.AppendLies
import Derived.Deep.DrawnRows
import Derived.Deep.Slices
import Derived.Laws.AppendOwnNone
import Derived.OpenShut
import Derived.ProofKit
import Derived.SizedLaws
import Derived.Test.YtfkgmgnoijokdaaGreatDoorRows
import Derived.Test.YtfkgmgnoijokdaaGreatDoorLxK
import Derived.Lib.LaidU8
import Derived.LaidMore
import Derived.Stop.LaidErr
import Derived.Lay
import Derived.Shelf.Vars
import Derived.Test.YtfkgmgnoijokdaaGreatDoorTie
import Derived.Test.YtfkgmgnoijokdaaGreatDoorCards
import Derived.ShutString
import Derived.ChangeOld
import Derived.SevenTiedAt
import Derived.Stop.Joined
import Derived.Carry
namespace Go.Proofs.YtfkgmgnoijokdaaGreatDoor
open Go Go.RowKit Go.Shelf
/-- Objects with the slices of their fields, cell by cell. -/
def cellsB : List (Ob × Value) → List Value
  | [] => []
  | p :: l => .string ⟨p.1.n.toArray⟩ :: p.2 :: cellsB l
theorem cellsB_app (l m : List (Ob × Value)) : cellsB (l ++ m) = cellsB l ++ cellsB m := by
  induction l with
  | nil => rfl
  | cons x l ih => simp [cellsB, ih]
theorem cellsB_len (l : List (Ob × Value)) : (cellsB l).length = l.length * 2 := by
  induction l with
  | nil => rfl
  | cons x l ih => simp [cellsB, ih]; omega
theorem cellsB_at : ∀ (l : List (Ob × Value)) (i : Nat) (p : Ob × Value), l[i]? = some p → (cellsB l)[i * 2]? = some (.string ⟨p.1.n.toArray⟩) ∧ (cellsB l)[i * 2 + 1]? = some p.2
  | [], _, _, h => by simp at h
  | y :: l, 0, p, h => by
    simp at h
    subst h
    exact ⟨rfl, rfl⟩
  | y :: l, i + 1, p, h => by
    have ih := cellsB_at l i p (by simpa using h)
    have e : (i + 1) * 2 = i * 2 + 1 + 1 := by omega
    rw [e]
    simpa [cellsB] using ih
theorem cellsB_mem {l : List (Ob × Value)} {u : Value} (h : u ∈ cellsB l) : (∃ b : Bs, u = .string ⟨b.toArray⟩) ∨ ∃ p ∈ l, u = p.2 := by
  induction l with
  | nil => simp [cellsB] at h
  | cons x l ih =>
    simp only [cellsB, List.mem_cons] at h
    rcases h with rfl | rfl | h
    · exact Or.inl ⟨_, rfl⟩
    · exact Or.inr ⟨x, by simp, rfl⟩
    · rcases ih h with q | ⟨p, hp, e⟩
      · exact Or.inl q
      · exact Or.inr ⟨p, by simp [hp], e⟩
/-- What a slice of objects holds, cell by cell. -/
theorem obs_pairs {w : World} {v : Value} {os : List Ob} (h : ObsAt w v os) (hn : 0 < os.length) : ∃ (b o c : Nat) (l : List (Ob × Value)), v = .slice (some ⟨b, o, none⟩) os.length c ∧ b < w.heap.size ∧ os.length ≤ c ∧ l.map (·.1) = os ∧ (∀ p ∈ l, FldsAt w p.2 p.1.fs) ∧ ∀ j u, (cellsB l)[j]? = some u → w.cell? ⟨b, o + j, none⟩ = some u := by
  obtain ⟨a, c, rfl, hc, _, hr⟩ := h
  obtain ⟨b, o, rfl, hb, hH⟩ := hr hn
  have each : ∀ i, i < os.length → ∃ fv : Value, ∀ x, os[i]? = some x → w.cell? ⟨b, o + i * 2, none⟩ = some (.string ⟨x.n.toArray⟩) ∧ w.cell? ⟨b, o + i * 2 + 1, none⟩ = some fv ∧ FldsAt w fv x.fs := by
    intro i hi
    obtain ⟨x, hx⟩ : ∃ x, os[i]? = some x := ⟨_, List.getElem?_eq_getElem hi⟩
    obtain ⟨e0, fv, e1, hf⟩ := hH i hi x hx
    refine ⟨fv, fun y hy => ?_⟩
    rw [hx] at hy
    cases hy
    exact ⟨e0, e1, hf⟩
  haveI : Inhabited Value := ⟨undef⟩
  obtain ⟨f, hf⟩ := Deep.choose_lt each
  have hlen : (List.zip os ((List.range os.length).map f)).length = os.length := by simp
  have hat : ∀ i p, (List.zip os ((List.range os.length).map f))[i]? = some p → ∃ x, os[i]? = some x ∧ p = (x, f i) := by
    intro i p hp
    have hi : i < os.length := by
      have := (List.getElem?_eq_some_iff.1 hp).1
      omega
    rw [List.getElem?_zip_eq_some] at hp
    refine ⟨p.1, hp.1, ?_⟩
    have h2 := hp.2
    simp [hi] at h2
    rw [h2]
  refine ⟨b, o, c, List.zip os ((List.range os.length).map f), rfl, hb, hc, List.map_fst_zip (by simp), ?_, ?_⟩
  · intro p hp
    obtain ⟨i, hi⟩ := List.mem_iff_getElem?.1 hp
    obtain ⟨x, hx, rfl⟩ := hat i p hi
    exact (hf i (List.getElem?_eq_some_iff.1 hx).1 x hx).2.2
  · intro j u hj
    have hjl : j < os.length * 2 := by
      have := (List.getElem?_eq_some_iff.1 hj).1
      rw [cellsB_len, hlen] at this
      exact this
    obtain ⟨m, r, hm, hr2⟩ : ∃ m r, j = m * 2 + r ∧ r < 2 := ⟨j / 2, j % 2, by omega, by omega⟩
    obtain ⟨p, hp⟩ : ∃ p, (List.zip os ((List.range os.length).map f))[m]? = some p := ⟨_, List.getElem?_eq_getElem (by omega)⟩
    obtain ⟨q0, q1⟩ := cellsB_at _ _ _ hp
    obtain ⟨x, hx, rfl⟩ := hat _ p hp
    obtain ⟨c0, c1, _⟩ := hf m (by omega) x hx
    subst hm
    rcases (show r = 0 ∨ r = 1 by omega) with rfl | rfl
    · rw [Nat.add_zero, q0] at hj
      cases hj
      exact c0
    · rw [q1] at hj
      cases hj
      rw [← Nat.add_assoc]
      exact c1
theorem obs_own {w : World} {Q E : Nat} {v : Value} {l : List (Ob × Value)} (h : w.ownsRow Q E 2 v l.length (cellsB l)) (hl : l.length ≤ 140737488355328) (hf : ∀ p ∈ l, FldsAt w p.2 p.1.fs) : ObsAt w v (l.map (·.1)) := by
  unfold ObsAt
  rw [List.length_map]
  rcases h.2 with ⟨rfl, h0⟩ | ⟨g, cap, cur, hv, hb, hg, hn, _, _, ht⟩
  · exact ⟨none, 0, by rw [h0], by omega, hl, fun hp => absurd hp (by omega)⟩
  · refine ⟨_, cap, hv, hn, hl, fun _ => ⟨g, 0, rfl, lt_of_block hg, fun i hi x hx => ?_⟩⟩
    rw [List.getElem?_map] at hx
    obtain ⟨p, hp, rfl⟩ := Option.map_eq_some_iff.1 hx
    obtain ⟨q0, q1⟩ := cellsB_at l i p hp
    have f : ∀ k u, (cellsB l)[k]? = some u → w.cell? ⟨g, 0 + k, none⟩ = some u := fun k u hu => by
      rw [← ht, List.getElem?_take] at hu
      rw [Nat.zero_add]
      split at hu
      · unfold World.cell?
        rw [hg]
        simpa using hu
      · cases hu
    exact ⟨f _ _ q0, p.2, f _ _ q1, hf p (List.mem_of_getElem? hp)⟩
end Go.Proofs.YtfkgmgnoijokdaaGreatDoor
namespace Go.Proofs.YtfkgmgnoijokdaaGreatDoor
open Go Go.RowKit Go.Shelf
/-- Without the object at a place. -/
abbrev lessS (s : Sch) (at0 : Nat) : Sch := ⟨s.os.take at0 ++ s.os.drop (at0 + 1), s.es⟩
section less
variable {s : Sch} (h : OkD s) {k : Nat} {x : Ob} (hx : s.os[k]? = some x)
include hx
theorem less_split : s.os = s.os.take k ++ x :: s.os.drop (k + 1) := by
  obtain ⟨hk, e⟩ := List.getElem?_eq_some_iff.1 hx
  have h1 := (List.take_append_drop k s.os).symm
  rw [List.drop_eq_getElem_cons hk, e] at h1
  exact h1
theorem less_mem {o : Ob} (ho : o ∈ s.os) (hn : o.n ≠ x.n) : o ∈ (lessS s k).os := by
  rw [less_split hx] at ho
  rcases List.mem_append.1 ho with ho | ho
  · exact List.mem_append_left _ ho
  · rcases List.mem_cons.1 ho with rfl | ho
    · exact absurd rfl hn
    · exact List.mem_append_right _ ho
omit hx in
theorem less_sub {o : Ob} (ho : o ∈ (lessS s k).os) : o ∈ s.os := by
  rcases List.mem_append.1 ho with ho | ho
  · exact List.mem_of_mem_take ho
  · exact List.mem_of_mem_drop ho
theorem less_len : (lessS s k).os.length + 1 = s.os.length := by
  have h1 := congrArg List.length (less_split hx)
  rw [List.length_append, List.length_cons] at h1
  show (s.os.take k ++ s.os.drop (k + 1)).length + 1 = _
  rw [List.length_append]
  omega
include h
theorem less_nodup : ((lessS s k).os.map (·.n)).Nodup ∧ ¬ x.n ∈ (lessS s k).os.map (·.n) := by
  have h1 := h.u1
  rw [less_split hx, List.map_append, List.map_cons, List.nodup_append, List.nodup_cons] at h1
  obtain ⟨a1, ⟨a2, a3⟩, a4⟩ := h1
  constructor
  · rw [List.map_append, List.nodup_append]
    exact ⟨a1, a3, fun a ha b hb => a4 a ha b (List.mem_cons_of_mem _ hb)⟩
  · rw [List.map_append]
    intro hm
    rcases List.mem_append.1 hm with hm | hm
    · exact a4 _ hm _ (List.mem_cons_self ..) rfl
    · exact a2 hm
omit h in
theorem less_ed {t : Bs} (he : edP s t) (hn : t ≠ x.n) : edP (lessS s k) t := by
  obtain ⟨a, b, c⟩ := he
  refine ⟨a, b, ?_⟩
  obtain ⟨o, ho, e⟩ := List.mem_map.1 c
  exact List.mem_map.2 ⟨o, less_mem hx ho (by rw [e]; exact hn), e⟩
omit hx h in
theorem less_ed' {t : Bs} (he : edP (lessS s k) t) : edP s t := by
  obtain ⟨a, b, c⟩ := he
  refine ⟨a, b, ?_⟩
  obtain ⟨o, ho, e⟩ := List.mem_map.1 c
  exact List.mem_map.2 ⟨o, less_sub ho, e⟩
theorem less_man (h2 : 2 ≤ s.os.length) : manS (lessS s k) = true := by
  obtain ⟨⟨m1, m2⟩, m3, m4, m5⟩ := man_iff.1 h.m
  have hl := less_len hx
  exact man_iff.2 ⟨⟨by omega, by omega⟩, m3, fun o ho => m4 o (less_sub ho), m5⟩
omit hx in
theorem less_nam : (∀ o ∈ (lessS s k).os, frtS o.n = true ∧ ∀ f ∈ o.fs, frfS f.n = true) ∧ ∀ e ∈ (lessS s k).es, frtS e.n = true ∧ ∀ x ∈ e.ws, frwS x = true := ⟨fun o ho => h.no o (less_sub ho), h.ne⟩
theorem less_once : oncS (lessS s k) = true := by
  refine once_iff.2 ⟨(less_nodup h hx).1, h.u2, fun e he hm => ?_, h.u4, fun o ho => h.u5 o (less_sub ho)⟩
  obtain ⟨o, ho, eo⟩ := List.mem_map.1 hm
  exact h.u3 e he (List.mem_map.2 ⟨o, less_sub ho, eo⟩)
omit hx h in
theorem frt_sca {y : Bs} (hy : frtS y = true) : scaS y = false := by
  unfold frtS at hy
  simp only [Bool.and_eq_true, Bool.not_eq_true'] at hy
  exact hy.2.1.1.2
theorem less93 (h2 : 2 ≤ s.os.length) {o : Ob} {f : Fld} (ho : o ∈ (lessS s k).os) (hf : f ∈ o.fs) (hft : f.t = x.n) : chkS (lessS s k) = 93 := by
  refine chk93 (less_man h hx h2) (nam_iff.2 (less_nam h)) (less_once h hx) ?_
  rw [← Bool.not_eq_true, all_sptF (p := fun f => wtyS (lessS s k) f)]
  intro hall
  have hxm := List.mem_of_getElem? hx
  rcases wty_iff.1 (hall o ho f hf) with ⟨g | g, _⟩ | ⟨g, _⟩
  · rw [hft, frt_sca (h.no x hxm).1] at g
    cases g
  · obtain ⟨e, he, een⟩ := List.mem_map.1 g
    exact h.u3 e he (by rw [een, hft]; exact List.mem_map.2 ⟨x, hxm, rfl⟩)
  · have := g.2.2
    rw [hft] at this
    exact (less_nodup h hx).2 this
theorem less0 (h2 : 2 ≤ s.os.length) (hno : ∀ o ∈ (lessS s k).os, ∀ f ∈ o.fs, f.t ≠ x.n) : chkS (lessS s k) = 0 := by
  obtain ⟨u1, u2, u3, u4, u5⟩ := once_iff.1 (less_once h hx)
  have hN := less_nam (k := k) h
  rw [chk_ok]
  refine ⟨less_man h hx h2, hN.1, hN.2, u1, u2, u3, u4, u5, ?_, ?_, ?_⟩
  · intro o ho f hf
    rcases wty_iff.1 (h.ty o (less_sub ho) f hf) with g | g
    · exact wty_iff.2 (Or.inl g)
    · exact wty_iff.2 (Or.inr ⟨less_ed hx g.1 (hno o ho f hf), g.2⟩)
  · intro o ho f hf hs he
    exact h.se o (less_sub ho) f hf hs (less_ed' he)
  · intro o ho f hf hi
    obtain ⟨a, p, hp, e1, g, hg, e2, e3, e4, e5⟩ := h.le o (less_sub ho) f hf hi
    have hpn : p.n ≠ x.n := by rw [e1]; exact hno o ho f hf
    have hpm := less_mem hx hp hpn
    exact ⟨less_ed hx a (hno o ho f hf), p, hpm, e1, g, hg, e2, less_ed hx e3 (hno p hpm g hg), e4, e5⟩
end less
theorem nodup_rev {l : List Bs} : l.reverse.Nodup ↔ l.Nodup := by
  unfold List.Nodup
  rw [List.pairwise_reverse]
  exact ⟨fun h => h.imp Ne.symm, fun h => h.imp Ne.symm⟩
/-- The other way round. -/
def revO (o : Ob) : Ob := ⟨o.n, o.fs.reverse⟩
def revE (e : En) : En := ⟨e.n, e.ws.reverse⟩
def revS (s : Sch) : Sch := ⟨(s.os.map revO).reverse, (s.es.map revE).reverse⟩
theorem rev_rev (s : Sch) : revS (revS s) = s := by
  obtain ⟨os, es⟩ := s
  simp only [revS, List.map_reverse, List.reverse_reverse, List.map_map]
  congr
  · rw [show revO ∘ revO = id from funext fun o => by simp [revO]]
    simp
  · rw [show revE ∘ revE = id from funext fun o => by simp [revE]]
    simp
section order
variable {s : Sch}
theorem rev_os {o : Ob} : o ∈ (revS s).os ↔ ∃ p ∈ s.os, revO p = o := by simp [revS]
theorem rev_es {o : En} : o ∈ (revS s).es ↔ ∃ p ∈ s.es, revE p = o := by simp [revS]
theorem rev_on : (revS s).os.map (·.n) = (s.os.map (·.n)).reverse := by
  simp only [revS, List.map_reverse, List.map_map]
  rfl
theorem rev_en : (revS s).es.map (·.n) = (s.es.map (·.n)).reverse := by
  simp only [revS, List.map_reverse, List.map_map]
  rfl
theorem rev_ed {t : Bs} : edP (revS s) t ↔ edP s t := by
  unfold edP
  rw [rev_on, rev_en, List.mem_reverse, List.mem_reverse]
theorem rev_wty {f : Fld} : wtyS (revS s) f = true ↔ wtyS s f = true := by
  rw [wty_iff, wty_iff, rev_ed, rev_en, List.mem_reverse]
/-- Rules 1 to 3. -/
def Low (s : Sch) : Prop := manS s = true ∧ ((∀ o ∈ s.os, frtS o.n = true ∧ ∀ f ∈ o.fs, frfS f.n = true) ∧ ∀ e ∈ s.es, frtS e.n = true ∧ ∀ x ∈ e.ws, frwS x = true) ∧ oncS s = true
theorem rev_low (h : Low s) : Low (revS s) := by
  obtain ⟨h1, ⟨h2, h3⟩, h4⟩ := h
  obtain ⟨m1, m2, m3, m4⟩ := man_iff.1 h1
  obtain ⟨u1, u2, u3, u4, u5⟩ := once_iff.1 h4
  refine ⟨man_iff.2 ⟨by simpa [revS] using m1, by simpa [revS] using m2, ?_, ?_⟩, ⟨?_, ?_⟩, once_iff.2 ⟨?_, ?_, ?_, ?_, ?_⟩⟩
  · intro o ho
    obtain ⟨p, hp, rfl⟩ := rev_os.1 ho
    simpa [revO] using m3 p hp
  · intro o ho
    obtain ⟨p, hp, rfl⟩ := rev_es.1 ho
    simpa [revE] using m4 p hp
  · intro o ho
    obtain ⟨p, hp, rfl⟩ := rev_os.1 ho
    exact ⟨(h2 p hp).1, fun f hf => (h2 p hp).2 f (List.mem_reverse.1 hf)⟩
  · intro o ho
    obtain ⟨p, hp, rfl⟩ := rev_es.1 ho
    exact ⟨(h3 p hp).1, fun f hf => (h3 p hp).2 f (List.mem_reverse.1 hf)⟩
  · rw [rev_on, nodup_rev]
    exact u1
  · rw [rev_en, nodup_rev]
    exact u2
  · intro e he
    obtain ⟨p, hp, rfl⟩ := rev_es.1 he
    rw [rev_on, List.mem_reverse]
    exact u3 p hp
  · intro e he
    obtain ⟨p, hp, rfl⟩ := rev_es.1 he
    exact nodup_rev.2 (u4 p hp)
  · intro o ho
    obtain ⟨p, hp, rfl⟩ := rev_os.1 ho
    show ((p.fs.reverse).map (·.n)).Nodup
    rw [List.map_reverse, nodup_rev]
    exact u5 p hp
theorem rev_ok (h : OkD s) : OkD (revS s) := by
  obtain ⟨h1, ⟨h2, h3⟩, h4⟩ := rev_low (s := s) ⟨h.m, ⟨h.no, h.ne⟩, h.once⟩
  obtain ⟨u1, u2, u3, u4, u5⟩ := once_iff.1 h4
  refine ⟨h1, h2, h3, u1, u2, u3, u4, u5, ?_, ?_, ?_⟩
  · intro o ho f hf
    obtain ⟨p, hp, rfl⟩ := rev_os.1 ho
    exact rev_wty.2 (h.ty p hp f (List.mem_reverse.1 hf))
  · intro o ho f hf hs
    obtain ⟨p, hp, rfl⟩ := rev_os.1 ho
    rw [rev_ed]
    exact h.se p hp f (List.mem_reverse.1 hf) hs
  · intro o ho f hf hi
    obtain ⟨p, hp, rfl⟩ := rev_os.1 ho
    obtain ⟨a, q, hq, e1, g, hg, e2, e3, e4, e5⟩ := h.le p hp f (List.mem_reverse.1 hf) hi
    exact ⟨rev_ed.2 a, revO q, rev_os.2 ⟨q, hq, rfl⟩, e1, g, List.mem_reverse.2 hg, e2, rev_ed.2 e3, e4, e5⟩
theorem order_ok : chkS (revS s) = 0 ↔ chkS s = 0 := by
  rw [chk_ok, chk_ok]
  refine ⟨fun h => ?_, rev_ok⟩
  have := rev_ok h
  rwa [rev_rev] at this
theorem order_low : (chkS (revS s) = 90 ∨ chkS (revS s) = 91 ∨ chkS (revS s) = 92) ↔ (chkS s = 90 ∨ chkS s = 91 ∨ chkS s = 92) := by
  rw [chk_low, chk_low]
  refine not_congr ⟨fun h => ?_, rev_low⟩
  have := rev_low (s := revS s) h
  rwa [rev_rev] at this
end order
end Go.Proofs.YtfkgmgnoijokdaaGreatDoor
namespace Go.Proofs.YtfkgmgnoijokdaaGreatDoor
open Go Go.RowKit Go.Shelf
theorem step_append_any {P : Program} (w : World) {ops : Array Oper} {o : Oper} {a : Act} {K : Act → World → Prop} {Q : Exit → Act → World → Prop} {E : Prop} (hgd : o.guard = none) (s x : Operand) (t : TypeId)
    (ho : o.op = .call { callee := .builtin .append, args := #[s, x], argTypes := #[t, t] })
    (base : Nat) (e : TypeId) (i : TypeInfo) (z : Value) (size bytes : Nat) (ht : P.underlying t = some (.slice e)) (hi : P.info? e = some i) (hz : i.zero = some z)
    (hsize : i.size = size) (hby : i.bytes = bytes) (hzs : z.cells.size = size) (hsz : 0 < size)
    (v : Value) (n : Nat) (xs : List Value) (hs : a.eval s = v) (hown : w.ownsRow base e size v n xs)
    (ad : Addr) (m c : Nat) (news : List Value) (hx : a.eval x = .slice (some ad) m c) (hl : news.length = m * size) (hnews : ∀ j u, news[j]? = some u → w.cell? (ad.add j) = some u) (h1 : ∀ u ∈ news, u.oneCell' = true)
    (h63 : n + m ≤ maxLen) (hbytes : (n + m) * bytes ≤ 140737488355328) (hbase : base ≤ w.heap.size)
    (h : ∀ v' w', w'.ownsRow base e size v' (n + m) (xs ++ news) → w.grownBy w' v.ownBlock → K (a.put o.dst v') w') :
    if Region.wanted o (yielded ops a.tmps) = true then Oper.wp P o a w K Q else E := by
  have hw : Region.wanted o (yielded ops a.tmps) = true := by simp [Region.wanted, hgd]
  rw [if_pos hw]
  obtain ⟨v', w', hr, h2, h3, _, _⟩ := run_append_own_at (P := P) w base t o.type e i z size bytes ht hi hz hsize hby hzs hsz v n xs hown ad m c news hl hnews h1 h63 hbytes hbase
  unfold Oper.wp execOp
  simp only [ho, resolve, invoke, builtin, Sem.run_bind, Sem.run_pure, Result.andThen_ok, List.map_toArray, List.map_cons, List.map_nil, hs, hx, hr]
  exact h v' w' h2 h3
theorem add_at (b o j : Nat) : (⟨b, o, none⟩ : Addr).add j = ⟨b, o + j, none⟩ := by
  unfold Addr.add
  split <;> simp_all
theorem cellsB_take : ∀ (l : List (Ob × Value)) (k : Nat), cellsB (l.take k) = (cellsB l).take (k * 2)
  | [], k => by simp [cellsB]
  | p :: l, 0 => by simp [cellsB]
  | p :: l, k + 1 => by
    have e : (k + 1) * 2 = k * 2 + 1 + 1 := by omega
    rw [List.take_succ_cons, e]
    simp only [cellsB, List.take_succ_cons]
    rw [cellsB_take l k]
theorem cellsB_drop : ∀ (l : List (Ob × Value)) (k : Nat), cellsB (l.drop k) = (cellsB l).drop (k * 2)
  | [], k => by simp [cellsB]
  | p :: l, 0 => by simp [cellsB]
  | p :: l, k + 1 => by
    have e : (k + 1) * 2 = k * 2 + 1 + 1 := by omega
    rw [List.drop_succ_cons, e]
    simp only [cellsB, List.drop_succ_cons]
    rw [cellsB_drop l k]
theorem cellsB_sub {l m : List (Ob × Value)} (h : ∀ p ∈ m, p ∈ l) (h1 : ∀ p ∈ l, ∃ a n c, p.2 = .slice a n c) : ∀ u ∈ cellsB m, u.oneCell' = true := by
  intro u hu
  rcases cellsB_mem hu with ⟨b, rfl⟩ | ⟨p, hp, rfl⟩
  · rfl
  · obtain ⟨a, n, c, e⟩ := h1 p (h p hp)
    rw [e]
    rfl
end Go.Proofs.YtfkgmgnoijokdaaGreatDoor
namespace Go.Proofs.YtfkgmgnoijokdaaGreatDoor
open Go Go.RowKit Go.Shelf
theorem frf_x : frfS [120] = true := by kernel_rfl
abbrev oneF : Obj := .cells #[.string ⟨#[120]⟩, .string ⟨#[73, 110, 116]⟩, .string ⟨#[]⟩, .bool false, .string ⟨#[]⟩] 33
theorem flds_one {W : World} {fb : Nat} (hF : W.heap[fb]? = some oneF) : FldsAt W (.slice (some ⟨fb, 0, none⟩) 1 1) [⟨[120], [73, 110, 116], [], false, []⟩] := by
  obtain ⟨q0, q1, q2, q3, q4, _⟩ := row5 hF
  refine ⟨_, 1, rfl, Nat.le_refl _, by simp, fun _ => ⟨fb, 0, rfl, lt_of_block hF, fun i hi x hx => ?_⟩⟩
  change i < 1 at hi
  obtain rfl : i = 0 := by omega
  simp only [List.getElem?_cons_zero] at hx
  cases hx
  exact ⟨q0, q1, q2, q3, q4⟩
theorem sch_one {W : World} {fb ob : Nat} {y : Bs} (hF : W.heap[fb]? = some oneF) (hO : W.heap[ob]? = some (.cells #[.string ⟨y.toArray⟩, .slice (some ⟨fb, 0, none⟩) 1 1] 41)) : SchAt W (.slice (some ⟨ob, 0, none⟩) 1 1) (.slice none 0 0) ⟨[oneO y], []⟩ := by
  refine ⟨⟨_, 1, rfl, Nat.le_refl _, by simp, fun _ => ⟨ob, 0, rfl, lt_of_block hO, fun i hi x hx => ?_⟩⟩, ⟨_, 0, rfl, Nat.le_refl _, by simp, fun h => absurd h (by simp)⟩⟩
  change i < 1 at hi
  obtain rfl : i = 0 := by omega
  simp only [List.getElem?_cons_zero] at hx
  cases hx
  obtain ⟨q0, q1, _⟩ := row2 hO
  exact ⟨q0, _, q1, flds_one hF⟩
theorem more_ways {s : Sch} (h : OkD s) (y : Bs) : (8 ≤ s.os.length ∧ chkS (moreS s y) = 90) ∨ (s.os.length < 8 ∧ chkS ⟨[oneO y], []⟩ = 91 ∧ chkS (moreS s y) = 91) ∨ (s.os.length < 8 ∧ chkS ⟨[oneO y], []⟩ = 0 ∧ chkS (moreS s y) = 92 ∧ 0 ≤ objS s y) ∨
    (s.os.length < 8 ∧ chkS ⟨[oneO y], []⟩ = 0 ∧ chkS (moreS s y) = 92 ∧ objS s y < 0 ∧ 0 ≤ enuS s y) ∨ (s.os.length < 8 ∧ chkS ⟨[oneO y], []⟩ = 0 ∧ chkS (moreS s y) = 0 ∧ objS s y < 0 ∧ enuS s y < 0) := by
  by_cases h8 : s.os.length < 8
  · cases hn : frtS y with
    | false => exact Or.inr (Or.inl ⟨h8, alone_no hn, more91 h h8 hn⟩)
    | true =>
      have ha := alone_ok frf_x hn
      by_cases h1 : y ∈ s.os.map (·.n)
      · exact Or.inr (Or.inr (Or.inl ⟨h8, ha, more92 frf_x h h8 hn (Or.inl h1), plB_nonneg.2 h1⟩))
      · by_cases h2 : y ∈ s.es.map (·.n)
        · exact Or.inr (Or.inr (Or.inr (Or.inl ⟨h8, ha, more92 frf_x h h8 hn (Or.inr h2), plB_neg.2 h1, plB_nonneg.2 h2⟩)))
        · exact Or.inr (Or.inr (Or.inr (Or.inr ⟨h8, ha, more0 frf_x h h8 hn h1 h2, plB_neg.2 h1, plB_neg.2 h2⟩)))
  · exact Or.inl ⟨by omega, more90 (by omega)⟩
theorem Tryz.infoOb : (Tryz.prog.info? 41).map (fun i => (i.zero, i.size, i.bytes)) = some (some (.agg #[.string ⟨#[]⟩, .slice none 0 0]), 2, 40) := by kernel_rfl
theorem own_none {W : World} {q B : Nat} (hB : B ≤ q) (h : W.heap[q]? = some (.cells #[] 41)) : W.ownsRow B 41 2 (.slice (some ⟨q, 0, none⟩) 0 0) 0 [] := ⟨rfl, Or.inr ⟨q, 0, #[], rfl, hB, h, Nat.le_refl _, Nat.zero_le _, rfl, rfl⟩⟩
/-- The schema with an object more, once it is stored. -/
theorem sch_more {w x5 W : World} {s : Sch} {ev : Value} {y : Bs} {l : List (Ob × Value)} {fb T g cap : Nat} {V : Value} (hlm : l.map (·.1) = s.os) (hlf : ∀ p ∈ l, FldsAt w p.2 p.1.fs) (hes : EnsAt w ev s.es)
    (hb5 : Below w.heap.size w x5) (hF : x5.heap[fb]? = some oneF) (hT : T < x5.heap.size) (hwT : w.heap.size ≤ T) (hTf : T ≠ fb) (hY : Below x5.heap.size x5 W) (hl : s.os.length ≤ 8)
    (own : W.ownsRow x5.heap.size 41 2 (.slice (some ⟨g, 0, none⟩) (s.os.length + 1) cap) (s.os.length + 1) (cellsB l ++ [.string ⟨y.toArray⟩, .slice (some ⟨fb, 0, none⟩) 1 1])) :
    SchAt (W.setCell ⟨T, 0, none⟩ V) (.slice (some ⟨g, 0, none⟩) (s.os.length + 1) cap) ev (moreS s y) ∧ Below w.heap.size w (W.setCell ⟨T, 0, none⟩ V) := by
  have k := (Kp.refl (fun k => k = T) W).set T 0 V (Or.inr rfl)
  have z5 := hb5.size
  have zY := hY.size
  have bW : Below w.heap.size w W := hb5.trans (hY.mono z5)
  have bT : Below w.heap.size w (W.setCell ⟨T, 0, none⟩ V) := ⟨k.os.trans bW.os, k.tape.trans bW.tape, k.output.trans bW.output, Nat.le_trans bW.size k.size, fun q hq => (k.block q (by omega) (fun e => by have e' : q = T := e; omega)).trans (bW.block q hq)⟩
  have hF2 : (W.setCell ⟨T, 0, none⟩ V).heap[fb]? = some oneF := by
    have hlt := lt_of_block hF
    exact (k.block fb (by omega) (fun e => hTf e.symm)).trans ((hY.block fb hlt).trans hF)
  have own2 : (W.setCell ⟨T, 0, none⟩ V).ownsRow x5.heap.size 41 2 (.slice (some ⟨g, 0, none⟩) (s.os.length + 1) cap) (s.os.length + 1) (cellsB l ++ [.string ⟨y.toArray⟩, .slice (some ⟨fb, 0, none⟩) 1 1]) := by
    refine ownsRow_setCell_other own ?_ V
    intro e
    have := (own_blk own e).1
    have : x5.heap.size ≤ T := this
    omega
  have hll : l.length = s.os.length := by rw [← hlm, List.length_map]
  have ob := obs_own (l := l ++ [(oneO y, .slice (some ⟨fb, 0, none⟩) 1 1)]) (v := .slice (some ⟨g, 0, none⟩) (s.os.length + 1) cap) (w := W.setCell ⟨T, 0, none⟩ V) (Q := x5.heap.size) (E := 41) (by
      rw [List.length_append, cellsB_app, hll]
      exact own2) (by rw [List.length_append, hll]; simp; omega) (by
      intro p hp
      rcases List.mem_append.1 hp with hp | hp
      · exact (hlf p hp).on bT
      · rw [List.mem_singleton] at hp
        subst hp
        exact flds_one hF2)
  rw [List.map_append, hlm] at ob
  exact ⟨⟨ob, hes.on bT⟩, bT⟩
section
variable {w : World} {ov ev : Value} {s : Sch}
set_option maxRecDepth 100000 in
set_option maxHeartbeats 8000000 in
theorem more_any (h : SchAt w ov ev s) (gl : Gl w) (y : Bs) : Calls Tryz.prog 6 #[.agg #[ov, ev], .string ⟨y.toArray⟩] w fun e w' => e = .returned (.bool true) ∧ Below w.heap.size w w' := by
  have hh := h
  have hos := h.os
  have hes := h.es
  obtain ⟨a, c, rfl, _, _⟩ := h.os.slice
  obtain ⟨a', c', rfl, _, _⟩ := h.es.slice
  obtain ⟨w0, hw0⟩ : ∃ w0, w0 = w.alloc (.cells #[.slice a s.os.length c, .slice a' s.es.length c'] 25) := ⟨_, rfl⟩
  have A0 : Below w.heap.size w w0 := by rw [hw0]; exact al1 w _
  have HZ : ∀ {W : World}, Below w0.heap.size w0 W → Below w.heap.size w W := fun b => A0.trans (b.mono A0.size)
  have HS : ∀ {W : World}, Below w0.heap.size w0 W → SchAt W (.slice a s.os.length c) (.slice a' s.es.length c') s := fun b => hh.on (HZ b)
  obtain ⟨r0, r1, _⟩ := row2 (show w0.heap[w.heap.size]? = some (.cells #[.slice a s.os.length c, .slice a' s.es.length c'] 25) by rw [hw0]; exact heap_alloc_new w _)
  have FX0 := fun o => lfixed_any (w.alloc o) (gl.below (al1 w o) (Nat.le_refl _))
  have FX := fun {W : World} (b : Below w0.heap.size w0 W) => lfixed_any W (gl.below (HZ b) (Nat.le_refl _))
  have CK := fun {W : World} (b : Below w0.heap.size w0 W) => hcheck_any (HS b) (gl.below (HZ b) (Nat.le_refl _))
  have HW : Hid (w0 = w.alloc (.cells #[.slice a s.os.length c, .slice a' s.es.length c'] 25)) := hw0
  clear hw0
  by_cases hc0 : chkS s = 0
  · have ok := chk_ok.1 hc0
    rw [hc0] at CK
    have ways := more_ways ok y
    have hn8 := (man_iff.1 ok.m).1
    clear ok hc0
    obtain ⟨b, o, c0, l, hv, hbl, _, hlm, hlf, hlc⟩ := obs_pairs hos (by omega)
    cases hv
    have HWY : Hid ((8 ≤ s.os.length ∧ chkS (moreS s y) = 90) ∨ (s.os.length < 8 ∧ chkS ⟨[oneO y], []⟩ = 91 ∧ chkS (moreS s y) = 91) ∨ (s.os.length < 8 ∧ chkS ⟨[oneO y], []⟩ = 0 ∧ chkS (moreS s y) = 92 ∧ 0 ≤ objS s y) ∨
    (s.os.length < 8 ∧ chkS ⟨[oneO y], []⟩ = 0 ∧ chkS (moreS s y) = 92 ∧ objS s y < 0 ∧ 0 ≤ enuS s y) ∨ (s.os.length < 8 ∧ chkS ⟨[oneO y], []⟩ = 0 ∧ chkS (moreS s y) = 0 ∧ objS s y < 0 ∧ enuS s y < 0)) := ways
    clear ways
    have hll : Hid (l.length = s.os.length) := by show _ = _; rw [← hlm, List.length_map]
    have CA := fun {X : World} (d : Below w0.heap.size w0 X) (o1 : Obj) => hcheck_any (sch_one (W := ((X.alloc oneF).alloc o1).alloc (.cells #[.string ⟨y.toArray⟩, .slice (some ⟨X.heap.size, 0, none⟩) 1 1] 41)) (new31 X oneF o1 _) (new33 X oneF o1 _)) (gl.below ((HZ d).trans ((al3 X _ _ _).mono (HZ d).size)) (Nat.le_refl _))
    go_enter Tryz.func6, Tryz.ntmps6
    go_wp2_with (first
      | (go_at_call 10; (with_reducible refine (CA D2 _).mono ?_); rintro e x4 ⟨rfl, b4⟩; have D4 := D2.trans (((al3 x2 _ _ _).trans (b4.mono (al3 x2 _ _ _).size)).mono D2.size); have p4 := cell_on D4 r0; have q4 := cell_on D4 r1; have hF4 := (b4.block _ (by rw [World.size_alloc, World.size_alloc, World.size_alloc]; omega)).trans (new31 x2 oneF _ _); have hO4 := (b4.block _ (by rw [World.size_alloc, World.size_alloc, World.size_alloc]; omega)).trans (new32 x2 oneF (.cells #[.string ⟨y.toArray⟩, .slice (some ⟨x2.heap.size, 0, none⟩) 1 1] 41) _); have hz4 := b4.size; clear b4)
      | (go_at_call 10; (with_reducible refine (CK D1).mono ?_); rintro e x2 ⟨rfl, b2⟩; have D2 := D1.trans (b2.mono D1.size); have p2 := cell_on D2 r0; have q2 := cell_on D2 r1; clear b2)
      | (go_at_call 9; (with_reducible refine (FX0 _).mono ?_); rintro e x1 ⟨rfl, b1⟩; have D1 : Below w0.heap.size w0 x1 := (by rw [HW.out]; exact b1); have p1 := cell_on D1 r0; have q1 := cell_on D1 r1; clear b1)
      | fail)
    rw [World.size_alloc, World.size_alloc, World.size_alloc] at hz4
    have hz2 := (HZ D2).size
    obtain ⟨x5, hx5⟩ : ∃ x5, x5 = x4.alloc (.cells #[.slice (some ⟨b, o, none⟩) s.os.length c, .slice a' s.es.length c'] 25) := ⟨_, rfl⟩
    have A5 : Below x4.heap.size x4 x5 := by rw [hx5]; exact al1 x4 _
    have D5 : Below w0.heap.size w0 x5 := D4.trans (A5.mono D4.size)
    have z5 : x4.heap.size < x5.heap.size := by rw [hx5, World.size_alloc]; omega
    have hF5 := (A5.block _ (lt_of_block hF4)).trans hF4
    obtain ⟨o0, o1, _⟩ := row2 ((A5.block _ (lt_of_block hO4)).trans hO4)
    have HT5 : Hid (x5.heap[x4.heap.size]? = some (.cells #[.slice (some ⟨b, o, none⟩) s.os.length c, .slice a' s.es.length c'] 25)) := by show x5.heap[x4.heap.size]? = _; rw [hx5]; exact heap_alloc_new x4 _
    obtain ⟨t0, t1, t2⟩ := row2 HT5.out
    rw [← hx5]
    have S6 : ∀ {W : World}, Below x5.heap.size x5 W → (fun w' => w'.cell? ⟨w.heap.size, 0, none⟩ = some (.slice (some ⟨b, o, none⟩) s.os.length c) ∧ w'.cell? ⟨x2.heap.size + 1, 0, none⟩ = some (.string ⟨y.toArray⟩) ∧ w'.cell? ⟨x2.heap.size + 1, 1, none⟩ = some (.slice (some ⟨x2.heap.size, 0, none⟩) 1 1)) W := fun bb => ⟨cell_on bb (cell_on D5 r0), cell_on bb o0, cell_on bb o1⟩
    have DE : ∀ {W : World}, Below x5.heap.size x5 W → Below x5.heap.size x5 W.drew := fun b => ⟨b.os, b.tape, b.output, b.size, b.block⟩
    have R5 : Below x5.heap.size x5 x5 := Below.refl _ _
    obtain ⟨ti, hti, hy0, hy1, hy2⟩ := info_parts Tryz.infoOb
    have newsAt : ∀ {W : World}, Below x5.heap.size x5 W → ∀ j u, (cellsB l)[j]? = some u → W.cell? ((⟨b, o, none⟩ : Addr).add j) = some u := fun {W} bb j u hj => by
      have e : (⟨b, o, none⟩ : Addr).add j = ⟨b, o + j, none⟩ := by
        unfold Addr.add
        split <;> simp_all
      rw [e]
      exact cell_on ((HZ D5).trans (bb.mono (HZ D5).size)) (hlc j u hj)
    clear hx5
    have AL : ∀ {W : World} {o : Obj}, Below x5.heap.size x5 W → Below x5.heap.size x5 (W.alloc o) := fun b => b.alloc b.size _
    have S6S : ∀ {W : World} {v : Value}, Below x5.heap.size x5 W → (fun w' => w'.cell? ⟨w.heap.size, 0, none⟩ = some (.slice (some ⟨b, o, none⟩) s.os.length c) ∧ w'.cell? ⟨x2.heap.size + 1, 0, none⟩ = some (.string ⟨y.toArray⟩) ∧ w'.cell? ⟨x2.heap.size + 1, 1, none⟩ = some (.slice (some ⟨x2.heap.size, 0, none⟩) 1 1)) (W.setCell ⟨x4.heap.size, 0, none⟩ v) := fun {W v} bb => by
      obtain ⟨e0, e1, e2⟩ := S6 bb
      have f : ∀ (k j : Nat) (u : Value), x4.heap.size ≠ k → W.cell? ⟨k, j, none⟩ = some u → (W.setCell ⟨x4.heap.size, 0, none⟩ v).cell? ⟨k, j, none⟩ = some u := fun k j u hk hu => (World.cell?_setCell_far W ⟨x4.heap.size, 0, none⟩ ⟨k, j, none⟩ v hk).trans hu
      exact ⟨f _ _ _ (by omega) e0, f _ _ _ (by omega) e1, f _ _ _ (by omega) e2⟩
    have hcl : (cellsB l).length = s.os.length * 2 := by rw [cellsB_len, hll.out]
    have h1c : ∀ u ∈ cellsB l, u.oneCell' = true := by
      intro u hu
      rcases cellsB_mem hu with ⟨b, rfl⟩ | ⟨p, hp, rfl⟩
      · rfl
      · obtain ⟨_, _, e, _⟩ := hlf p hp
        rw [e]
        rfl
    have FZ : ∀ {W : World}, Below x5.heap.size x5 W → W.frozen? ⟨x4.heap.size, 0, none⟩ = false := fun bb => (World.frozen?_of_block (bb.block _ (by show x4.heap.size < _; omega))).trans (t2 0)
    have CT : ∀ {W : World}, Below x5.heap.size x5 W → W.cell? ⟨x4.heap.size, 0, none⟩ = some (.slice (some ⟨b, o, none⟩) s.os.length c) := fun bb => cell_on bb t0
    go_region_held3 (fun w' => w'.cell? ⟨w.heap.size, 0, none⟩ = some (.slice (some ⟨b, o, none⟩) s.os.length c) ∧ w'.cell? ⟨x2.heap.size + 1, 0, none⟩ = some (.string ⟨y.toArray⟩) ∧ w'.cell? ⟨x2.heap.size + 1, 1, none⟩ = some (.slice (some ⟨x2.heap.size, 0, none⟩) 1 1)) (first | exact S6S Y2 | exact S6 Y2 | exact S6 (AL Y1) | exact S6 Y1 | exact S6 (DE (AL (AL R5))) | exact S6 (DE (AL R5)) | exact S6 (DE R5)) ((first
      | (refine step_append_lies _ (by rfl) (.tmp 30) (.tmp 32) 22 (by rfl) x5.heap.size 41 ti _ 2 40 Tryz.underlying22 hti hy0 hy1 hy2 rfl (by decide) (.slice (some ⟨g1, 0, none⟩) s.os.length cp1) s.os.length (cellsB l) (by rfl) O1.out ⟨x5.heap.size + 1, 0, none⟩ 1 1 [.string ⟨y.toArray⟩, .slice (some ⟨x2.heap.size, 0, none⟩) 1 1] (by rfl) rfl (World.news_of_block hOB) (by intro u hu; simp at hu; rcases hu with rfl | rfl <;> rfl) (by decide) (by unfold maxLen; omega) (by omega) Y1.size _ rfl ?_; intro g2 cp2 w2 own2 gr2 hor2 hlt2; have Y2 := below_grew Y1 gr2 Y1.size (fun k e => (own_blk O1.out e).1); have O2 : Hid (w2.ownsRow x5.heap.size 41 2 (.slice (some ⟨g2, 0, none⟩) (s.os.length + 1) cp2) (s.os.length + 1) (cellsB l ++ [.string ⟨y.toArray⟩, .slice (some ⟨x2.heap.size, 0, none⟩) 1 1])) := own2; clear own2 gr2 hor2 hlt2)
      | (refine step_append_lies _ (by rfl) (.tmp 30) (.tmp 32) 22 (by rfl) x5.heap.size 41 ti _ 2 40 Tryz.underlying22 hti hy0 hy1 hy2 rfl (by decide) (.slice (some ⟨g1, 0, none⟩) s.os.length cp1) s.os.length (cellsB l) (by rfl) O1.out ⟨x5.heap.size, 0, none⟩ 1 1 [.string ⟨y.toArray⟩, .slice (some ⟨x2.heap.size, 0, none⟩) 1 1] (by rfl) rfl (World.news_of_block hOC) (by intro u hu; simp at hu; rcases hu with rfl | rfl <;> rfl) (by decide) (by unfold maxLen; omega) (by omega) Y1.size _ rfl ?_; intro g2 cp2 w2 own2 gr2 hor2 hlt2; have Y2 := below_grew Y1 gr2 Y1.size (fun k e => (own_blk O1.out e).1); have O2 : Hid (w2.ownsRow x5.heap.size 41 2 (.slice (some ⟨g2, 0, none⟩) (s.os.length + 1) cp2) (s.os.length + 1) (cellsB l ++ [.string ⟨y.toArray⟩, .slice (some ⟨x2.heap.size, 0, none⟩) 1 1])) := own2; clear own2 gr2 hor2 hlt2)
      | (refine step_append_lies _ (by rfl) (.tmp 30) (.tmp 32) 22 (by rfl) x5.heap.size 41 ti _ 2 40 Tryz.underlying22 hti hy0 hy1 hy2 rfl (by decide) (.slice (some ⟨g1, 0, none⟩) s.os.length cp1) s.os.length (cellsB l) (by rfl) (O1.out.alloc _) ⟨w1.heap.size, 0, none⟩ 1 1 [.string ⟨y.toArray⟩, .slice (some ⟨x2.heap.size, 0, none⟩) 1 1] (by rfl) rfl (World.news_of_block (heap_alloc_new w1 (.cells #[.string ⟨y.toArray⟩, .slice (some ⟨x2.heap.size, 0, none⟩) 1 1] 41))) (by intro u hu; simp at hu; rcases hu with rfl | rfl <;> rfl) (by decide) (by unfold maxLen; omega) (by omega) (Nat.le_trans Y1.size (al1 w1 _).size) _ rfl ?_; intro g2 cp2 w2 own2 gr2 hor2 hlt2; have Y2 := below_grew (AL Y1) gr2 (Nat.le_trans Y1.size (al1 w1 _).size) (fun k e => (own_blk O1.out e).1); have O2 : Hid (w2.ownsRow x5.heap.size 41 2 (.slice (some ⟨g2, 0, none⟩) (s.os.length + 1) cp2) (s.os.length + 1) (cellsB l ++ [.string ⟨y.toArray⟩, .slice (some ⟨x2.heap.size, 0, none⟩) 1 1])) := own2; clear own2 gr2 hor2 hlt2)
      | (refine step_append_lies _ (by rfl) (.tmp 27) (.tmp 29) 22 (by rfl) x5.heap.size 41 ti _ 2 40 Tryz.underlying22 hti hy0 hy1 hy2 rfl (by decide) (.slice (some ⟨x5.heap.size, 0, none⟩) 0 0) 0 [] (by rfl) (own_none (by omega) (heap_alloc_new x5 (.cells #[] 41))) ⟨b, o, none⟩ s.os.length c (cellsB l) (by rfl) hcl (newsAt (DE (AL R5))) h1c (by omega) (by unfold maxLen; omega) (by omega) (AL R5).size _ rfl ?_; simp only [Nat.zero_add, List.nil_append]; intro g1 cp1 w1 own1 gr1 hor1 hlt1; have Y1 := below_grew (DE (AL R5)) gr1 (AL R5).size (fun k e => by have e' : x5.heap.size = k := Option.some.inj e; omega); have O1 : Hid (w1.ownsRow x5.heap.size 41 2 (.slice (some ⟨g1, 0, none⟩) s.os.length cp1) s.os.length (cellsB l)) := own1; clear own1 gr1 hor1 hlt1)
      | (refine step_append_lies _ (by rfl) (.tmp 27) (.tmp 29) 22 (by rfl) x5.heap.size 41 ti _ 2 40 Tryz.underlying22 hti hy0 hy1 hy2 rfl (by decide) (.slice (some ⟨x5.heap.size, 0, none⟩) 0 0) 0 [] (by rfl) (own_none (by omega) (new1 x5 (.cells #[] 41) (.cells #[.string ⟨y.toArray⟩, .slice (some ⟨x2.heap.size, 0, none⟩) 1 1] 41))) ⟨b, o, none⟩ s.os.length c (cellsB l) (by rfl) hcl (newsAt (DE (AL (AL R5)))) h1c (by omega) (by unfold maxLen; omega) (by omega) (AL (AL R5)).size _ rfl ?_; simp only [Nat.zero_add, List.nil_append]; intro g1 cp1 w1 own1 gr1 hor1 hlt1; have Y1 := below_grew (DE (AL (AL R5))) gr1 (AL (AL R5)).size (fun k e => by have e' : x5.heap.size = k := Option.some.inj e; omega); have O1 : Hid (w1.ownsRow x5.heap.size 41 2 (.slice (some ⟨g1, 0, none⟩) s.os.length cp1) s.os.length (cellsB l)) := own1; have hOB : w1.heap[x5.heap.size + 1]? = some (.cells #[.string ⟨y.toArray⟩, .slice (some ⟨x2.heap.size, 0, none⟩) 1 1] 41) := (gr1.block _ (by show _ < (World.alloc (World.alloc _ _) _).heap.size; rw [World.size_alloc, World.size_alloc]; omega) (fun e => by have e2 : x5.heap.size + 1 = x5.heap.size := Option.some.inj e; omega)).trans (new2 x5 (.cells #[] 41) (.cells #[.string ⟨y.toArray⟩, .slice (some ⟨x2.heap.size, 0, none⟩) 1 1] 41)); clear own1 gr1 hor1 hlt1)
      | (refine step_append_lies _ (by rfl) (.tmp 27) (.tmp 29) 22 (by rfl) x5.heap.size 41 ti _ 2 40 Tryz.underlying22 hti hy0 hy1 hy2 rfl (by decide) (.slice (some ⟨x5.heap.size + 1, 0, none⟩) 0 0) 0 [] (by rfl) (own_none (by omega) (new2 x5 (.cells #[.string ⟨y.toArray⟩, .slice (some ⟨x2.heap.size, 0, none⟩) 1 1] 41) (.cells #[] 41))) ⟨b, o, none⟩ s.os.length c (cellsB l) (by rfl) hcl (newsAt (DE (AL (AL R5)))) h1c (by omega) (by unfold maxLen; omega) (by omega) (AL (AL R5)).size _ rfl ?_; simp only [Nat.zero_add, List.nil_append]; intro g1 cp1 w1 own1 gr1 hor1 hlt1; have Y1 := below_grew (DE (AL (AL R5))) gr1 (AL (AL R5)).size (fun k e => by have e' : x5.heap.size + 1 = k := Option.some.inj e; omega); have O1 : Hid (w1.ownsRow x5.heap.size 41 2 (.slice (some ⟨g1, 0, none⟩) s.os.length cp1) s.os.length (cellsB l)) := own1; have hOC : w1.heap[x5.heap.size]? = some (.cells #[.string ⟨y.toArray⟩, .slice (some ⟨x2.heap.size, 0, none⟩) 1 1] 41) := (gr1.block _ (by show _ < (World.alloc (World.alloc _ _) _).heap.size; rw [World.size_alloc, World.size_alloc]; omega) (fun e => by have e2 : x5.heap.size = x5.heap.size + 1 := Option.some.inj e; omega)).trans (new1 x5 (.cells #[.string ⟨y.toArray⟩, .slice (some ⟨x2.heap.size, 0, none⟩) 1 1] 41) (.cells #[] 41)); clear own1 gr1 hor1 hlt1)
      | fail))
    all_goals
      obtain ⟨SM, BM⟩ := sch_more (V := .slice (some ⟨g2, 0, none⟩) (s.os.length + 1) cp2) hlm hlf hes (HZ D5) hF5 z5 (by omega) (by omega) Y2 hn8.2 O2.out
      obtain ⟨v0, v1, _⟩ := row2 (show (w2.setCell ⟨x4.heap.size, 0, none⟩ (.slice (some ⟨g2, 0, none⟩) (s.os.length + 1) cp2)).heap[x4.heap.size]? = some (.cells #[.slice (some ⟨g2, 0, none⟩) (s.os.length + 1) cp2, .slice a' s.es.length c'] 25) by rw [heap_setCell_same _ _ 0 _ _ _ ((Y2.block _ z5).trans HT5.out)]; rfl)
      have z0 := (S6S (v := .slice (some ⟨g2, 0, none⟩) (s.os.length + 1) cp2) Y2).1
      have z1 := (World.cell?_setCell_far w2 ⟨x4.heap.size, 0, none⟩ ⟨w.heap.size, 1, none⟩ (.slice (some ⟨g2, 0, none⟩) (s.os.length + 1) cp2) (by show x4.heap.size ≠ w.heap.size; omega)).trans (cell_on Y2 (cell_on D5 r1))
      have CM := hcheck_any SM (gl.below BM (Nat.le_refl _))
      have OB := fun {W : World} (b : Below w.heap.size w W) => hobject_any (hh.on b) y
      have EN := fun {W : World} (b : Below w.heap.size w W) => henum_any (hh.on b) y
      have ways := HWY.out
      clear S6 S6S newsAt DE AL FZ CT hcl h1c CK CA FX FX0
      generalize (w2.setCell ⟨x4.heap.size, 0, none⟩ (.slice (some ⟨g2, 0, none⟩) (s.os.length + 1) cp2)) = WW at *
      generalize chkS (moreS s y) = ce at *
      generalize chkS ⟨[oneO y], []⟩ = ca at *
      generalize objS s y = ko at *
      generalize enuS s y = ke at *
      rcases ways with ⟨h8, rfl⟩ | ⟨h8, rfl, rfl⟩ | ⟨h8, rfl, rfl, h9⟩ | ⟨h8, rfl, rfl, h9, h10⟩ | ⟨h8, rfl, rfl, h9, h10⟩
      · have l8 : (8 : Int) ≤ (s.os.length : Int) := by omega
        clear HWY
        go_wp2_with (first
          | (go_at_call 10; (with_reducible refine CM.mono ?_); rintro e x7 ⟨rfl, b7⟩; have D7 := BM.trans (b7.mono BM.size); have z70 := cell_on b7 z0; have z71 := cell_on b7 z1; clear b7)
          | fail)
        go_ret
        exact ⟨rfl, D7⟩
      · have l8 : decide ((8 : Int) ≤ (s.os.length : Int)) = false := by simp; omega
        have l8b : decide (8 ≤ s.os.length) = false := by simp; omega
        clear HWY
        go_wp2_with (first
          | (go_at_call 10; (with_reducible refine CM.mono ?_); rintro e x7 ⟨rfl, b7⟩; have D7 := BM.trans (b7.mono BM.size); have z70 := cell_on b7 z0; have z71 := cell_on b7 z1; clear b7)
          | fail)
        go_ret
        exact ⟨rfl, D7⟩
      · have l8 : decide ((8 : Int) ≤ (s.os.length : Int)) = false := by simp; omega
        have l8b : decide (8 ≤ s.os.length) = false := by simp; omega
        clear HWY
        go_wp2_with (first
          | (go_at_call 12; (with_reducible refine (OB D7).mono ?_); rintro e x8 ⟨rfl, b8⟩; have D8 := D7.trans (b8.mono D7.size); clear b8)
          | (go_at_call 10; (with_reducible refine CM.mono ?_); rintro e x7 ⟨rfl, b7⟩; have D7 := BM.trans (b7.mono BM.size); have z70 := cell_on b7 z0; have z71 := cell_on b7 z1; clear b7)
          | fail)
        go_ret
        exact ⟨rfl, D8⟩
      · have l8 : decide ((8 : Int) ≤ (s.os.length : Int)) = false := by simp; omega
        have l8b : decide (8 ≤ s.os.length) = false := by simp; omega
        have l9 : decide (0 ≤ ko) = false := by simp; omega
        clear HWY
        go_wp2_with (first
          | (go_at_call 14; (with_reducible refine (EN D8).mono ?_); rintro e x9 ⟨rfl, b9⟩; have D9 := D8.trans (b9.mono D8.size); clear b9)
          | (go_at_call 12; (with_reducible refine (OB D7).mono ?_); rintro e x8 ⟨rfl, b8⟩; have D8 := D7.trans (b8.mono D7.size); have z80 := cell_on b8 z70; have z81 := cell_on b8 z71; clear b8)
          | (go_at_call 10; (with_reducible refine CM.mono ?_); rintro e x7 ⟨rfl, b7⟩; have D7 := BM.trans (b7.mono BM.size); have z70 := cell_on b7 z0; have z71 := cell_on b7 z1; clear b7)
          | fail)
        go_ret
        exact ⟨rfl, D9⟩
      · have l8 : decide ((8 : Int) ≤ (s.os.length : Int)) = false := by simp; omega
        have l8b : decide (8 ≤ s.os.length) = false := by simp; omega
        have l9 : decide (0 ≤ ko) = false := by simp; omega
        have l10 : decide (0 ≤ ke) = false := by simp; omega
        clear HWY
        go_wp2_with (first
          | (go_at_call 14; (with_reducible refine (EN D8).mono ?_); rintro e x9 ⟨rfl, b9⟩; have D9 := D8.trans (b9.mono D8.size); clear b9)
          | (go_at_call 12; (with_reducible refine (OB D7).mono ?_); rintro e x8 ⟨rfl, b8⟩; have D8 := D7.trans (b8.mono D7.size); have z80 := cell_on b8 z70; have z81 := cell_on b8 z71; clear b8)
          | (go_at_call 10; (with_reducible refine CM.mono ?_); rintro e x7 ⟨rfl, b7⟩; have D7 := BM.trans (b7.mono BM.size); have z70 := cell_on b7 z0; have z71 := cell_on b7 z1; clear b7)
          | fail)
        go_ret
        exact ⟨rfl, D9⟩
  · have hc1 : (chkS s == 0) = false := by simpa using hc0
    generalize chkS s = ck at *
    clear hc0
    go_enter Tryz.func6, Tryz.ntmps6
    go_wp2_with (first
      | (go_at_call 9; (with_reducible refine (FX D2).mono ?_); rintro e x3 ⟨rfl, b3⟩; have D3 := D2.trans (b3.mono D2.size); clear b3)
      | (go_at_call 10; (with_reducible refine (CK D1).mono ?_); rintro e x2 ⟨rfl, b2⟩; have D2 := D1.trans (b2.mono D1.size); clear b2)
      | (go_at_call 9; (with_reducible refine (FX0 _).mono ?_); rintro e x1 ⟨rfl, b1⟩; have D1 : Below w0.heap.size w0 x1 := (by rw [HW.out]; exact b1); have p1 := cell_on D1 r0; have q1 := cell_on D1 r1; clear b1)
      | fail)
    go_ret
    exact ⟨rfl, HZ D3⟩
end
end Go.Proofs.YtfkgmgnoijokdaaGreatDoor
namespace Go.Proofs.YtfkgmgnoijokdaaGreatDoor
open Go Go.RowKit Go.Shelf
theorem own_ne {W : World} {B n q : Nat} {v : Value} {xs : List Value} {u0 u1 : Value} (h : W.ownsRow B 41 2 v n xs) (hq : W.heap[q]? = some (.cells #[u0, u1] 25)) : v.ownBlock ≠ some q := by
  intro e
  rcases h.2 with ⟨rfl, _⟩ | ⟨g, cap, cur, hv, _, hg, _⟩
  · cases e
  · rw [hv] at e
    have e2 : g = q := by simpa [Value.ownBlock] using e
    subst e2
    rw [hq] at hg
    cases hg
theorem less_set {x2 w2 : World} {TA n : Nat} {v2 ev : Value} {xs : List Value} (Y2 : Below x2.heap.size x2 w2) (hx : x2.heap.size ≤ TA) (hT : w2.heap[TA]? = some (.cells #[.slice none 0 0, .slice none 0 0] 25)) (own : w2.ownsRow x2.heap.size 41 2 v2 n xs) :
    Below x2.heap.size x2 ((w2.setCell ⟨TA, 0, none⟩ v2).setCell ⟨TA, 1, none⟩ ev) ∧ ((w2.setCell ⟨TA, 0, none⟩ v2).setCell ⟨TA, 1, none⟩ ev).heap[TA]? = some (.cells #[v2, ev] 25) ∧ ((w2.setCell ⟨TA, 0, none⟩ v2).setCell ⟨TA, 1, none⟩ ev).ownsRow x2.heap.size 41 2 v2 n xs := by
  have k := ((Kp.refl (fun k => k = TA) w2).set TA 0 v2 (Or.inr rfl)).set TA 1 ev (Or.inr rfl)
  have z := Y2.size
  refine ⟨⟨k.os.trans Y2.os, k.tape.trans Y2.tape, k.output.trans Y2.output, Nat.le_trans Y2.size k.size, fun q hq => (k.block q (by omega) (fun e => by have e' : q = TA := e; omega)).trans (Y2.block q hq)⟩, ?_, ?_⟩
  · rw [heap_setCell_same _ _ 1 _ _ _ (heap_setCell_same _ _ 0 _ _ _ hT)]
    rfl
  · exact ownsRow_setCell_other (ownsRow_setCell_other own (own_ne own hT) v2) (own_ne own hT) ev
theorem less_new {x2 w2 : World} {n : Nat} {v2 ev : Value} {xs : List Value} (Y2 : Below x2.heap.size x2 w2) (own : w2.ownsRow x2.heap.size 41 2 v2 n xs) :
    Below x2.heap.size x2 (w2.alloc (.cells #[v2, ev] 25)) ∧ (w2.alloc (.cells #[v2, ev] 25)).heap[w2.heap.size]? = some (.cells #[v2, ev] 25) ∧ (w2.alloc (.cells #[v2, ev] 25)).ownsRow x2.heap.size 41 2 v2 n xs := ⟨Y2.alloc Y2.size _, heap_alloc_new w2 _, own.alloc _⟩
theorem less_sch {w x2 WF : World} {s : Sch} {K : Nat} {V ev : Value} {l : List (Ob × Value)} (hlm : l.map (·.1) = s.os) (hlf : ∀ p ∈ l, FldsAt w p.2 p.1.fs) (hes : EnsAt w ev s.es) (hb : Below w.heap.size w WF) (hn : s.os.length ≤ 8) (hK : K < s.os.length)
    (own : WF.ownsRow x2.heap.size 41 2 V (K + (s.os.length - (K + 1))) (cellsB (l.take K) ++ cellsB (l.drop (K + 1)))) : SchAt WF V ev (lessS s K) := by
  have hll : l.length = s.os.length := by rw [← hlm, List.length_map]
  have ob := obs_own (l := l.take K ++ l.drop (K + 1)) (v := V) (w := WF) (Q := x2.heap.size) (E := 41) (by
      rw [cellsB_app, List.length_append, List.length_take, List.length_drop, hll, Nat.min_eq_left (by omega)]
      exact own) (by rw [List.length_append, List.length_take, List.length_drop, hll]; omega) (by
      intro p hp
      refine (hlf p ?_).on hb
      rcases List.mem_append.1 hp with hp | hp
      · exact List.mem_of_mem_take hp
      · exact List.mem_of_mem_drop hp)
  rw [List.map_append, List.map_take, List.map_drop, hlm] at ob
  exact ⟨ob, hes.on hb⟩
section
variable {w : World} {ov ev : Value} {s : Sch}
set_option maxRecDepth 100000 in
set_option maxHeartbeats 8000000 in
theorem less_any (h : SchAt w ov ev s) (gl : Gl w) (at0 : Int) : Calls Tryz.prog 8 #[.agg #[ov, ev], .int .i64 at0] w fun e w' => e = .returned (.bool true) ∧ Below w.heap.size w w' := by
  have hh := h
  have hos := h.os
  have hes := h.es
  obtain ⟨a, c, rfl, _, _⟩ := h.os.slice
  obtain ⟨a', c', rfl, _, _⟩ := h.es.slice
  obtain ⟨w0, hw0⟩ : ∃ w0, w0 = w.alloc (.cells #[.slice a s.os.length c, .slice a' s.es.length c'] 25) := ⟨_, rfl⟩
  have A0 : Below w.heap.size w w0 := by rw [hw0]; exact al1 w _
  have HZ : ∀ {W : World}, Below w0.heap.size w0 W → Below w.heap.size w W := fun b => A0.trans (b.mono A0.size)
  have HS : ∀ {W : World}, Below w0.heap.size w0 W → SchAt W (.slice a s.os.length c) (.slice a' s.es.length c') s := fun b => hh.on (HZ b)
  obtain ⟨r0, r1, _⟩ := row2 (show w0.heap[w.heap.size]? = some (.cells #[.slice a s.os.length c, .slice a' s.es.length c'] 25) by rw [hw0]; exact heap_alloc_new w _)
  have FX0 := fun o => lfixed_any (w.alloc o) (gl.below (al1 w o) (Nat.le_refl _))
  have FX := fun {W : World} (b : Below w0.heap.size w0 W) => lfixed_any W (gl.below (HZ b) (Nat.le_refl _))
  have CK := fun {W : World} (b : Below w0.heap.size w0 W) => hcheck_any (HS b) (gl.below (HZ b) (Nat.le_refl _))
  have HW : Hid (w0 = w.alloc (.cells #[.slice a s.os.length c, .slice a' s.es.length c'] 25)) := hw0
  clear hw0
  by_cases hc0 : chkS s = 0
  · have ok := chk_ok.1 hc0
    rw [hc0] at CK
    have hn8 := (man_iff.1 ok.m).1
    clear hc0
    by_cases ha0 : at0 < 0
    · clear ok
      go_enter Tryz.func8, Tryz.ntmps8
      go_wp2_with (first
        | (go_at_call 9; (with_reducible refine (FX D2).mono ?_); rintro e x3 ⟨rfl, b3⟩; have D3 := D2.trans (b3.mono D2.size); clear b3)
        | (go_at_call 10; (with_reducible refine (CK D1).mono ?_); rintro e x2 ⟨rfl, b2⟩; have D2 := D1.trans (b2.mono D1.size); have p2 := cell_on D2 r0; have q2 := cell_on D2 r1; clear b2)
        | (go_at_call 9; (with_reducible refine (FX0 _).mono ?_); rintro e x1 ⟨rfl, b1⟩; have D1 : Below w0.heap.size w0 x1 := (by rw [HW.out]; exact b1); have p1 := cell_on D1 r0; have q1 := cell_on D1 r1; clear b1)
        | fail)
      go_ret
      exact ⟨rfl, HZ D3⟩
    · have ha1 : decide (at0 < 0) = false := by simpa using ha0
      by_cases ha2 : (s.os.length : Int) ≤ at0
      · clear ok ha0
        go_enter Tryz.func8, Tryz.ntmps8
        go_wp2_with (first
          | (go_at_call 9; (with_reducible refine (FX D2).mono ?_); rintro e x3 ⟨rfl, b3⟩; have D3 := D2.trans (b3.mono D2.size); clear b3)
          | (go_at_call 10; (with_reducible refine (CK D1).mono ?_); rintro e x2 ⟨rfl, b2⟩; have D2 := D1.trans (b2.mono D1.size); have p2 := cell_on D2 r0; have q2 := cell_on D2 r1; clear b2)
          | (go_at_call 9; (with_reducible refine (FX0 _).mono ?_); rintro e x1 ⟨rfl, b1⟩; have D1 : Below w0.heap.size w0 x1 := (by rw [HW.out]; exact b1); have p1 := cell_on D1 r0; have q1 := cell_on D1 r1; clear b1)
          | fail)
        go_ret
        exact ⟨rfl, HZ D3⟩
      · have ha3 : decide ((s.os.length : Int) ≤ at0) = false := by simpa using ha2
        by_cases hn2 : (s.os.length : Int) < 2
        · clear ok ha0 ha2
          go_enter Tryz.func8, Tryz.ntmps8
          go_wp2_with (first
            | (go_at_call 9; (with_reducible refine (FX D2).mono ?_); rintro e x3 ⟨rfl, b3⟩; have D3 := D2.trans (b3.mono D2.size); clear b3)
            | (go_at_call 10; (with_reducible refine (CK D1).mono ?_); rintro e x2 ⟨rfl, b2⟩; have D2 := D1.trans (b2.mono D1.size); have p2 := cell_on D2 r0; have q2 := cell_on D2 r1; clear b2)
            | (go_at_call 9; (with_reducible refine (FX0 _).mono ?_); rintro e x1 ⟨rfl, b1⟩; have D1 : Below w0.heap.size w0 x1 := (by rw [HW.out]; exact b1); have p1 := cell_on D1 r0; have q1 := cell_on D1 r1; clear b1)
            | fail)
          go_ret
          exact ⟨rfl, HZ D3⟩
        · have hn3 : decide ((s.os.length : Int) < 2) = false := by simpa using hn2
          have hn4 : decide (s.os.length < 2) = false := by simp; omega
          obtain ⟨K, rfl⟩ : ∃ K : Nat, at0 = (K : Int) := ⟨at0.toNat, by omega⟩
          have hK : K < s.os.length := by omega
          obtain ⟨x, hx⟩ : ∃ x, s.os[K]? = some x := ⟨_, List.getElem?_eq_getElem hK⟩
          obtain ⟨b, o, c0, l, hv, hbl, hcl0, hlm, hlf, hlc⟩ := obs_pairs hos (by omega)
          cases hv
          have hll : Hid (l.length = s.os.length) := by show _ = _; rw [← hlm, List.length_map]
          have HO : Hid (OkD s) := ok
          have HX : Hid (s.os[K]? = some x) := hx
          have hKN : ((K : Nat) : Int).toNat = K := by omega
          have hK3 : decide (s.os.length ≤ K) = false := by simp; omega
          have hb1 : (0 : Int) ≤ (K : Int) := by omega
          have hb2 : (K : Int) ≤ (c : Int) := by omega
          have hb3 : (0 : Int) ≤ (K : Int) + 1 := by omega
          have hb4 : (K : Int) + 1 ≤ (s.os.length : Int) := by omega
          have hb5 : (s.os.length : Int) ≤ (c : Int) := by omega
          have hb6 : IntKind.i64.wrap ((K : Int) + 1) = (K : Int) + 1 := by rw [IntKind.wrap_i64]; omega
          have hb7 : ((K : Int) + 1).toNat = K + 1 := by omega
          obtain ⟨ad2, hp2, hp3⟩ : ∃ ad2 : Nat, (if c = K + 1 then some (⟨b, o, none⟩ : Addr) else some ⟨b, o + (K + 1) * 2, none⟩) = some ⟨b, ad2, none⟩ ∧ (c ≠ K + 1 → ad2 = o + (K + 1) * 2) := by
            by_cases e : c = K + 1
            · exact ⟨o, by rw [if_pos e], fun q => absurd e q⟩
            · exact ⟨_, by rw [if_neg e], fun _ => rfl⟩
          have HP3 : Hid (c ≠ K + 1 → ad2 = o + (K + 1) * 2) := hp3
          clear hp3
          have hn2N : 2 ≤ s.os.length := by omega
          clear ok hx ha0 ha2 hn2
          go_enter Tryz.func8, Tryz.ntmps8
          go_wp2_with (first
            | (go_at_call 10; (with_reducible refine (CK D1).mono ?_); rintro e x2 ⟨rfl, b2⟩; have D2 := D1.trans (b2.mono D1.size); have p2 := cell_on D2 r0; have q2 := cell_on D2 r1; clear b2)
            | (go_at_call 9; (with_reducible refine (FX0 _).mono ?_); rintro e x1 ⟨rfl, b1⟩; have D1 : Below w0.heap.size w0 x1 := (by rw [HW.out]; exact b1); have p1 := cell_on D1 r0; have q1 := cell_on D1 r1; clear b1)
            | fail)
          have S6 : ∀ {W : World}, Below x2.heap.size x2 W → (fun w' => w'.cell? ⟨w.heap.size, 0, none⟩ = some (.slice (some ⟨b, o, none⟩) s.os.length c) ∧ w'.cell? ⟨w.heap.size, 1, none⟩ = some (.slice a' s.es.length c')) W := fun bb => ⟨cell_on bb p2, cell_on bb q2⟩
          have DE : ∀ {W : World}, Below x2.heap.size x2 W → Below x2.heap.size x2 W.drew := fun b => ⟨b.os, b.tape, b.output, b.size, b.block⟩
          have AL : ∀ {W : World} {o : Obj}, Below x2.heap.size x2 W → Below x2.heap.size x2 (W.alloc o) := fun b => b.alloc b.size _
          have R5 : Below x2.heap.size x2 x2 := Below.refl _ _
          have hzx : w.heap.size < x2.heap.size := World.block_lt_of_cell? x2 _ p2
          have S6S : ∀ {W : World} {T : Nat} {u v : Value}, Below x2.heap.size x2 W → x2.heap.size ≤ T → (fun w' => w'.cell? ⟨w.heap.size, 0, none⟩ = some (.slice (some ⟨b, o, none⟩) s.os.length c) ∧ w'.cell? ⟨w.heap.size, 1, none⟩ = some (.slice a' s.es.length c')) ((W.setCell ⟨T, 0, none⟩ u).setCell ⟨T, 1, none⟩ v) := fun {W T u v} bb hT => by
            obtain ⟨e0, e1⟩ := S6 bb
            have f : ∀ (j : Nat) (y : Value), W.cell? ⟨w.heap.size, j, none⟩ = some y → ((W.setCell ⟨T, 0, none⟩ u).setCell ⟨T, 1, none⟩ v).cell? ⟨w.heap.size, j, none⟩ = some y := fun j y hy => (World.cell?_setCell_far _ ⟨T, 1, none⟩ ⟨w.heap.size, j, none⟩ v (by show T ≠ w.heap.size; omega)).trans ((World.cell?_setCell_far _ ⟨T, 0, none⟩ ⟨w.heap.size, j, none⟩ u (by show T ≠ w.heap.size; omega)).trans hy)
            exact ⟨f _ _ e0, f _ _ e1⟩
          obtain ⟨ti, hti, hy0, hy1, hy2⟩ := info_parts Tryz.infoOb
          have HL1 : Hid (∀ p ∈ l, ∃ a n c, p.2 = Value.slice a n c) := by
            intro p hp
            obtain ⟨a1, c1, e, _⟩ := hlf p hp
            exact ⟨_, _, _, e⟩
          have N1 : ∀ {W : World}, Below x2.heap.size x2 W → ∀ j u, (cellsB (l.take K))[j]? = some u → W.cell? ((⟨b, o, none⟩ : Addr).add j) = some u := fun {W} bb j u hj => by
            rw [add_at]
            rw [cellsB_take, List.getElem?_take] at hj
            split at hj
            · exact cell_on ((HZ D2).trans (bb.mono (HZ D2).size)) (hlc j u hj)
            · cases hj
          have N2 : ∀ {W : World}, Below x2.heap.size x2 W → ∀ j u, (cellsB (l.drop (K + 1)))[j]? = some u → W.cell? ((⟨b, ad2, none⟩ : Addr).add j) = some u := fun {W} bb j u hj => by
            rw [add_at]
            have hne : c ≠ K + 1 := by
              intro e
              have hjl := (List.getElem?_eq_some_iff.1 hj).1
              rw [cellsB_len, List.length_drop, hll.out] at hjl
              omega
            rw [HP3.out hne]
            rw [cellsB_drop, List.getElem?_drop] at hj
            have := cell_on ((HZ D2).trans (bb.mono (HZ D2).size)) (hlc _ u hj)
            rw [← Nat.add_assoc] at this
            exact this
          have L1 : (cellsB (l.take K)).length = K * 2 := by rw [cellsB_len, List.length_take, hll.out]; omega
          have L2 : (cellsB (l.drop (K + 1))).length = (s.os.length - (K + 1)) * 2 := by rw [cellsB_len, List.length_drop, hll.out]
          have O1 : ∀ u ∈ cellsB (l.take K), u.oneCell' = true := cellsB_sub (fun p hp => List.mem_of_mem_take hp) HL1.out
          have O2 : ∀ u ∈ cellsB (l.drop (K + 1)), u.oneCell' = true := cellsB_sub (fun p hp => List.mem_of_mem_drop hp) HL1.out
          go_region_held3 (fun w' => w'.cell? ⟨w.heap.size, 0, none⟩ = some (.slice (some ⟨b, o, none⟩) s.os.length c) ∧ w'.cell? ⟨w.heap.size, 1, none⟩ = some (.slice a' s.es.length c')) (first | with_reducible exact S6 Y2 | with_reducible exact S6 Y1 | with_reducible exact S6 (DE R5) | with_reducible exact S6 (DE (AL R5)) | with_reducible exact S6 (DE (AL (AL R5))) | with_reducible exact S6 (AL Y1) | with_reducible exact S6 (AL Y2) | with_reducible exact S6S Y2 (Nat.le_refl _) | with_reducible exact S6S Y2 (Nat.le_succ _) | with_reducible exact S6S Y2 Y1.size) ((first
            | (refine step_append_any _ (by rfl) (.tmp 38) (.tmp 43) 22 (by rfl) x2.heap.size 41 ti _ 2 40 Tryz.underlying22 hti hy0 hy1 hy2 rfl (by decide) v1 K (cellsB (l.take K)) (by rfl) W1.out ⟨b, ad2, none⟩ (s.os.length - (K + 1)) (c - (K + 1)) (cellsB (l.drop (K + 1))) (by rfl) L2 (N2 Y1) O2 (by unfold maxLen; omega) (by omega) Y1.size ?_; intro v2 w2 own2 gr2; have Y2 := below_grew Y1 gr2 Y1.size (fun k e => (own_blk W1.out e).1); obtain ⟨g2, cp2, rfl, _, _⟩ := own2.form (by omega); have W2 : Hid (w2.ownsRow x2.heap.size 41 2 (.slice (some ⟨g2, 0, none⟩) (K + (s.os.length - (K + 1))) cp2) (K + (s.os.length - (K + 1))) (cellsB (l.take K) ++ cellsB (l.drop (K + 1)))) := own2; have hT2 : w2.heap[x2.heap.size + 1]? = some (.cells #[.slice none 0 0, .slice none 0 0] 25) := (gr2.block _ (lt_of_block hTB) (fun e => NEhTB e.symm)).trans hTB; obtain ⟨tc0, tc1, tf⟩ := row2 hT2; have HTB : Hid (w2.heap[x2.heap.size + 1]? = some (.cells #[.slice none 0 0, .slice none 0 0] 25)) := hT2; clear hT2; clear own2 gr2)
            | (refine step_append_any _ (by rfl) (.tmp 38) (.tmp 43) 22 (by rfl) x2.heap.size 41 ti _ 2 40 Tryz.underlying22 hti hy0 hy1 hy2 rfl (by decide) v1 K (cellsB (l.take K)) (by rfl) W1.out ⟨b, ad2, none⟩ (s.os.length - (K + 1)) (c - (K + 1)) (cellsB (l.drop (K + 1))) (by rfl) L2 (N2 Y1) O2 (by unfold maxLen; omega) (by omega) Y1.size ?_; intro v2 w2 own2 gr2; have Y2 := below_grew Y1 gr2 Y1.size (fun k e => (own_blk W1.out e).1); obtain ⟨g2, cp2, rfl, _, _⟩ := own2.form (by omega); have W2 : Hid (w2.ownsRow x2.heap.size 41 2 (.slice (some ⟨g2, 0, none⟩) (K + (s.os.length - (K + 1))) cp2) (K + (s.os.length - (K + 1))) (cellsB (l.take K) ++ cellsB (l.drop (K + 1)))) := own2; have hT2 : w2.heap[x2.heap.size]? = some (.cells #[.slice none 0 0, .slice none 0 0] 25) := (gr2.block _ (lt_of_block hTC) (fun e => NEhTC e.symm)).trans hTC; obtain ⟨tc0, tc1, tf⟩ := row2 hT2; have HTC : Hid (w2.heap[x2.heap.size]? = some (.cells #[.slice none 0 0, .slice none 0 0] 25)) := hT2; clear hT2; clear own2 gr2)
            | (refine step_append_any _ (by rfl) (.tmp 38) (.tmp 43) 22 (by rfl) x2.heap.size 41 ti _ 2 40 Tryz.underlying22 hti hy0 hy1 hy2 rfl (by decide) v1 K (cellsB (l.take K)) (by rfl) (W1.out.alloc _) ⟨b, ad2, none⟩ (s.os.length - (K + 1)) (c - (K + 1)) (cellsB (l.drop (K + 1))) (by rfl) L2 (N2 (AL Y1)) O2 (by unfold maxLen; omega) (by omega) (Nat.le_trans Y1.size (al1 w1 _).size) ?_; intro v2 w2 own2 gr2; have Y2 := below_grew (AL Y1) gr2 (Nat.le_trans Y1.size (al1 w1 _).size) (fun k e => (own_blk W1.out e).1); obtain ⟨g2, cp2, rfl, _, _⟩ := own2.form (by omega); have W2 : Hid (w2.ownsRow x2.heap.size 41 2 (.slice (some ⟨g2, 0, none⟩) (K + (s.os.length - (K + 1))) cp2) (K + (s.os.length - (K + 1))) (cellsB (l.take K) ++ cellsB (l.drop (K + 1)))) := own2; have hT2 : w2.heap[w1.heap.size]? = some (.cells #[.slice none 0 0, .slice none 0 0] 25) := (gr2.block _ (by rw [World.size_alloc]; omega) (fun e => by have := (own_blk W1.out e.symm).2; omega)).trans (heap_alloc_new w1 (.cells #[.slice none 0 0, .slice none 0 0] 25)); obtain ⟨tc0, tc1, tf⟩ := row2 hT2; have HTw : Hid (w2.heap[w1.heap.size]? = some (.cells #[.slice none 0 0, .slice none 0 0] 25)) := hT2; clear hT2; clear own2 gr2)
            | (refine step_append_any _ (by rfl) (.tmp 38) (.tmp 43) 22 (by rfl) x2.heap.size 41 ti _ 2 40 Tryz.underlying22 hti hy0 hy1 hy2 rfl (by decide) v1 K (cellsB (l.take K)) (by rfl) W1.out ⟨b, ad2, none⟩ (s.os.length - (K + 1)) (c - (K + 1)) (cellsB (l.drop (K + 1))) (by rfl) L2 (N2 Y1) O2 (by unfold maxLen; omega) (by omega) Y1.size ?_; intro v2 w2 own2 gr2; have Y2 := below_grew Y1 gr2 Y1.size (fun k e => (own_blk W1.out e).1); obtain ⟨g2, cp2, rfl, _, _⟩ := own2.form (by omega); have W2 : Hid (w2.ownsRow x2.heap.size 41 2 (.slice (some ⟨g2, 0, none⟩) (K + (s.os.length - (K + 1))) cp2) (K + (s.os.length - (K + 1))) (cellsB (l.take K) ++ cellsB (l.drop (K + 1)))) := own2; clear own2 gr2)
            | (refine step_append_any _ (by rfl) (.tmp 33) (.tmp 37) 22 (by rfl) x2.heap.size 41 ti _ 2 40 Tryz.underlying22 hti hy0 hy1 hy2 rfl (by decide) (.slice (some ⟨x2.heap.size, 0, none⟩) 0 0) 0 [] (by rfl) (own_none (by omega) (heap_alloc_new x2 (.cells #[] 41))) ⟨b, o, none⟩ K c (cellsB (l.take K)) (by rfl) L1 (N1 (DE (AL R5))) O1 (by unfold maxLen; omega) (by omega) (AL R5).size ?_; simp only [Nat.zero_add, List.nil_append]; intro v1 w1 own1 gr1; have Y1 := below_grew (DE (AL R5)) gr1 (AL R5).size (fun k e => by have e' : x2.heap.size = k := Option.some.inj e; omega); have W1 : Hid (w1.ownsRow x2.heap.size 41 2 v1 K (cellsB (l.take K))) := own1; clear own1 gr1)
            | (refine step_append_any _ (by rfl) (.tmp 33) (.tmp 37) 22 (by rfl) x2.heap.size 41 ti _ 2 40 Tryz.underlying22 hti hy0 hy1 hy2 rfl (by decide) (.slice (some ⟨x2.heap.size, 0, none⟩) 0 0) 0 [] (by rfl) (own_none (by omega) (new1 x2 (.cells #[] 41) (.cells #[.slice none 0 0, .slice none 0 0] 25))) ⟨b, o, none⟩ K c (cellsB (l.take K)) (by rfl) L1 (N1 (DE (AL (AL R5)))) O1 (by unfold maxLen; omega) (by omega) (AL (AL R5)).size ?_; simp only [Nat.zero_add, List.nil_append]; intro v1 w1 own1 gr1; have Y1 := below_grew (DE (AL (AL R5))) gr1 (AL (AL R5)).size (fun k e => by have e' : x2.heap.size = k := Option.some.inj e; omega); have W1 : Hid (w1.ownsRow x2.heap.size 41 2 v1 K (cellsB (l.take K))) := own1; have hTB : w1.heap[x2.heap.size + 1]? = some (.cells #[.slice none 0 0, .slice none 0 0] 25) := (gr1.block _ (by show _ < (World.alloc (World.alloc _ _) _).heap.size; rw [World.size_alloc, World.size_alloc]; omega) (fun e => by have e2 : x2.heap.size + 1 = x2.heap.size := Option.some.inj e; omega)).trans (new2 x2 (.cells #[] 41) (.cells #[.slice none 0 0, .slice none 0 0] 25)); have NEhTB : v1.ownBlock ≠ some (x2.heap.size + 1) := own_ne own1 hTB; clear own1 gr1)
            | (refine step_append_any _ (by rfl) (.tmp 33) (.tmp 37) 22 (by rfl) x2.heap.size 41 ti _ 2 40 Tryz.underlying22 hti hy0 hy1 hy2 rfl (by decide) (.slice (some ⟨x2.heap.size + 1, 0, none⟩) 0 0) 0 [] (by rfl) (own_none (by omega) (new2 x2 (.cells #[.slice none 0 0, .slice none 0 0] 25) (.cells #[] 41))) ⟨b, o, none⟩ K c (cellsB (l.take K)) (by rfl) L1 (N1 (DE (AL (AL R5)))) O1 (by unfold maxLen; omega) (by omega) (AL (AL R5)).size ?_; simp only [Nat.zero_add, List.nil_append]; intro v1 w1 own1 gr1; have Y1 := below_grew (DE (AL (AL R5))) gr1 (AL (AL R5)).size (fun k e => by have e' : x2.heap.size + 1 = k := Option.some.inj e; omega); have W1 : Hid (w1.ownsRow x2.heap.size 41 2 v1 K (cellsB (l.take K))) := own1; have hTC : w1.heap[x2.heap.size]? = some (.cells #[.slice none 0 0, .slice none 0 0] 25) := (gr1.block _ (by show _ < (World.alloc (World.alloc _ _) _).heap.size; rw [World.size_alloc, World.size_alloc]; omega) (fun e => by have e2 : x2.heap.size = x2.heap.size + 1 := Option.some.inj e; omega)).trans (new1 x2 (.cells #[.slice none 0 0, .slice none 0 0] 25) (.cells #[] 41)); have NEhTC : v1.ownBlock ≠ some x2.heap.size := own_ne own1 hTC; clear own1 gr1)
            | fail))
          all_goals
            first
              | (revert HTw; intro HTw; obtain ⟨BF, RF, OF⟩ := less_set (TA := w1.heap.size) (ev := (.slice a' s.es.length c')) Y2 Y1.size HTw.out W2.out; generalize ((w2.setCell ⟨w1.heap.size, 0, none⟩ (.slice (some ⟨g2, 0, none⟩) (K + (s.os.length - (K + 1))) cp2)).setCell ⟨w1.heap.size, 1, none⟩ (.slice a' s.es.length c')) = WF at BF RF OF ⊢; generalize w1.heap.size = TA at RF ⊢)
              | (revert HTB; intro HTB; obtain ⟨BF, RF, OF⟩ := less_set (TA := x2.heap.size + 1) (ev := (.slice a' s.es.length c')) Y2 (Nat.le_succ _) HTB.out W2.out; generalize ((w2.setCell ⟨x2.heap.size + 1, 0, none⟩ (.slice (some ⟨g2, 0, none⟩) (K + (s.os.length - (K + 1))) cp2)).setCell ⟨x2.heap.size + 1, 1, none⟩ (.slice a' s.es.length c')) = WF at BF RF OF ⊢; generalize x2.heap.size + 1 = TA at RF ⊢)
              | (revert HTC; intro HTC; obtain ⟨BF, RF, OF⟩ := less_set (TA := x2.heap.size) (ev := (.slice a' s.es.length c')) Y2 (Nat.le_refl _) HTC.out W2.out; generalize ((w2.setCell ⟨x2.heap.size, 0, none⟩ (.slice (some ⟨g2, 0, none⟩) (K + (s.os.length - (K + 1))) cp2)).setCell ⟨x2.heap.size, 1, none⟩ (.slice a' s.es.length c')) = WF at BF RF OF ⊢; generalize x2.heap.size = TA at RF ⊢)
              | (obtain ⟨BF, RF, OF⟩ := less_new (ev := (.slice a' s.es.length c')) Y2 W2.out; generalize (w2.alloc (.cells #[.slice (some ⟨g2, 0, none⟩) (K + (s.os.length - (K + 1))) cp2, .slice a' s.es.length c'] 25)) = WF at BF RF OF ⊢; generalize w2.heap.size = TA at RF ⊢)
            generalize (.slice (some ⟨g2, 0, none⟩) (K + (s.os.length - (K + 1))) cp2 : Value) = V2 at RF OF ⊢
            have DF : Below w.heap.size w WF := (HZ D2).trans (BF.mono (HZ D2).size)
            have SF := less_sch hlm hlf hes DF hn8.2 hK OF
            have g0 := cell_on BF p2
            clear W2 Y2 W1 Y1 S6 S6S N1 N2 L1 L2 O1 O2 AL DE OF
            obtain ⟨t, ht⟩ : ∃ t, t = lessS s K := ⟨_, rfl⟩
            rw [← ht] at SF
            have HT : Hid (t = lessS s K) := ht
            clear ht
            have hts := SF.os
            obtain ⟨at2, ct, rfl, _, _⟩ := SF.os.slice
            obtain ⟨t0, t1, _⟩ := row2 RF
            obtain ⟨bx, ox, cx, a1x, c1x, hvx, _, _, ex0, _, _⟩ := ob_cells hos HX.out
            cases hvx
            have CT := fun {W : World} (bb : Below WF.heap.size WF W) => hcheck_any (SF.on bb) (gl.below (DF.trans (bb.mono DF.size)) (Nat.le_refl _))
            have DD : ∀ {W : World}, Below WF.heap.size WF W → Below WF.heap.size WF W.drew := fun b => ⟨b.os, b.tape, b.output, b.size, b.block⟩
            have RR : Below WF.heap.size WF WF := Below.refl _ _
            have hs0 : Hid (s.os.length ≤ 8) := hn8.2
            have ht8 : t.os.length ≤ 8 := by
              have := less_len HX.out
              have e : t.os.length = (lessS s K).os.length := by rw [HT.out]
              rw [e]
              omega
            go_wp2
            go_loopw [6] (fun iv wr => ∃ i : Nat, iv = .int .i64 (i : Int) ∧ i ≤ t.os.length ∧ (∀ (q : Nat) z, q < i → t.os[q]? = some z → ∀ g ∈ z.fs, g.t ≠ x.n) ∧ Below WF.heap.size WF wr) (fun iv _ => t.os.length - (RowKit.intOf iv).toNat)
            case atStart => exact ⟨0, rfl, Nat.zero_le _, fun q z hq => absurd hq (Nat.not_lt_zero _), RR⟩
            case round =>
              obtain ⟨i, rfl, hi, hno, hbr⟩ := hrel
              have z0 := cell_on hbr t0
              have z1 := cell_on hbr t1
              by_cases hlt : i < t.os.length
              · obtain ⟨p, hp⟩ : ∃ p, t.os[i]? = some p := ⟨_, List.getElem?_eq_getElem hlt⟩
                obtain ⟨bt, ot, c0t, a1, c1, hv, hbl9, _, e0, e1, hfs⟩ := ob_cells hts hp
                cases hv
                have l1 : ((i : Nat) : Int) < (t.os.length : Int) := by omega
                have hiN : ((i : Nat) : Int).toNat = i := by omega
                have HI : Hid (i + 1 ≤ t.os.length) := hlt
                have HP : Hid (t.os[i]? = some p) := hp
                have HN : Hid (∀ (q : Nat) z, q < i → t.os[q]? = some z → ∀ g ∈ z.fs, g.t ≠ x.n) := hno
                have h12 : p.fs.length ≤ 12 := by
                  have hm := List.mem_of_getElem? hp
                  rw [HT.out] at hm
                  exact ((man_iff.1 HO.out.m).2.2.1 p (less_sub hm)).2
                clear hp hlt hno z0 z1
                generalize wr = wB at *
                have z0 := cell_on hbr t0
                go_wp2
                go_loopw [7] (fun kv wr => ∃ k : Nat, kv = .int .i64 (k : Int) ∧ k ≤ p.fs.length ∧ (∀ (q : Nat) g, q < k → p.fs[q]? = some g → g.t ≠ x.n) ∧ Below WF.heap.size WF wr) (fun kv _ => p.fs.length - (RowKit.intOf kv).toNat)
                case atStart => exact ⟨0, rfl, Nat.zero_le _, fun q z hq => absurd hq (Nat.not_lt_zero _), hbr⟩
                case round =>
                  obtain ⟨k, rfl, hk, hnk, hbk⟩ := hrel
                  have y0 := cell_on hbk t0
                  have y1 := cell_on hbk t1
                  have y2 := cell_on hbk e1
                  by_cases hkl : k < p.fs.length
                  · obtain ⟨f, hf⟩ : ∃ f, p.fs[k]? = some f := ⟨_, List.getElem?_eq_getElem hkl⟩
                    obtain ⟨b1, o1, rfl, hbl1, _, f0, f1, f2, f3, f4⟩ := fld_cells hfs hf
                    have l2 : ((k : Nat) : Int) < (p.fs.length : Int) := by omega
                    have hkN : ((k : Nat) : Int).toNat = k := by omega
                    have HK : Hid (k + 1 ≤ p.fs.length) := hkl
                    have HF : Hid (p.fs[k]? = some f) := hf
                    have HNK : Hid (∀ (q : Nat) g, q < k → p.fs[q]? = some g → g.t ≠ x.n) := hnk
                    have hbe := bytes_eq f.t x.n
                    have S10 : ∀ {W : World}, Below WF.heap.size WF W → (fun w' => w'.cell? ⟨TA, 0, none⟩ = some (.slice (some ⟨bt, ot, none⟩) t.os.length ct) ∧ w'.cell? ⟨bt, ot + i * 2 + 1, none⟩ = some (.slice (some ⟨b1, o1, none⟩) p.fs.length c1) ∧ w'.cell? ⟨b1, o1 + k * 5 + 1, none⟩ = some (.string ⟨f.t.toArray⟩) ∧ w'.cell? ⟨w.heap.size, 0, none⟩ = some (.slice (some ⟨b, o, none⟩) s.os.length c) ∧ w'.cell? ⟨b, o + K * 2, none⟩ = some (.string ⟨x.n.toArray⟩)) W := fun bb => ⟨cell_on bb t0, cell_on bb e1, cell_on bb f1, cell_on bb g0, cell_on (DF.trans (bb.mono DF.size)) ex0⟩
                    clear hf hkl hnk
                    go_wp2
                    go_region_held3 (fun w' => w'.cell? ⟨TA, 0, none⟩ = some (.slice (some ⟨bt, ot, none⟩) t.os.length ct) ∧ w'.cell? ⟨bt, ot + i * 2 + 1, none⟩ = some (.slice (some ⟨b1, o1, none⟩) p.fs.length c1) ∧ w'.cell? ⟨b1, o1 + k * 5 + 1, none⟩ = some (.string ⟨f.t.toArray⟩) ∧ w'.cell? ⟨w.heap.size, 0, none⟩ = some (.slice (some ⟨b, o, none⟩) s.os.length c) ∧ w'.cell? ⟨b, o + K * 2, none⟩ = some (.string ⟨x.n.toArray⟩)) (exact S10 (DD hbk)) (fail)
                    cases hq : (f.t == x.n) with
                    | true =>
                      have hc93 : chkS t = 93 := by
                        have e : f.t = x.n := by simpa using hq
                        have hm := List.mem_of_getElem? HP.out
                        rw [HT.out] at hm ⊢
                        exact less93 HO.out HX.out hn2N hm (List.mem_of_getElem? HF.out) e
                      rw [hc93] at CT
                      have y0d := cell_on (DD hbk) t0
                      have y1d := cell_on (DD hbk) t1
                      go_wp2_with (first
                        | (go_at_call 10; (with_reducible refine (CT (DD hbk)).mono ?_); rintro e x9 ⟨rfl, b9⟩; have D9 := (DD hbk).trans (b9.mono (DD hbk).size); clear b9)
                        | fail)
                      go_ret
                      exact ⟨rfl, DF.trans (D9.mono DF.size)⟩
                    | false =>
                      have HQ : Hid (∀ (q : Nat) g, q < k + 1 → p.fs[q]? = some g → g.t ≠ x.n) := by
                        intro q g hq1 hg
                        by_cases e : q = k
                        · subst e
                          rw [HF.out] at hg
                          cases hg
                          simpa using hq
                        · exact HNK.out q g (by omega) hg
                      go_wp2
                      refine ⟨⟨k + 1, by simp, HK.out, HQ.out, DD hbk⟩, ?_⟩
                      have := HK.out
                      simp [RowKit.intOf]
                      omega
                  · have l2 : decide (((k : Nat) : Int) < (p.fs.length : Int)) = false := by simp; omega
                    have l3 : decide (k < p.fs.length) = false := by simp; omega
                    have HQ : Hid (∀ (q : Nat) z, q < i + 1 → t.os[q]? = some z → ∀ g ∈ z.fs, g.t ≠ x.n) := by
                      intro q z hq1 hz g hg
                      by_cases e : q = i
                      · subst e
                        rw [HP.out] at hz
                        cases hz
                        obtain ⟨m, hm⟩ := List.mem_iff_getElem?.1 hg
                        have := (List.getElem?_eq_some_iff.1 hm).1
                        exact hnk m g (by omega) hm
                      · exact HN.out q z (by omega) hz g hg
                    clear hkl hk hnk
                    go_wp2
                    refine ⟨⟨i + 1, by simp, HI.out, HQ.out, hbk⟩, ?_⟩
                    have := HI.out
                    simp [RowKit.intOf]
                    omega
              · have l2 : decide (((i : Nat) : Int) < (t.os.length : Int)) = false := by simp; omega
                have l3 : decide (i < t.os.length) = false := by simp; omega
                have hc0t : chkS t = 0 := by
                  rw [HT.out]
                  refine less0 HO.out HX.out hn2N fun z hz g hg => ?_
                  rw [← HT.out] at hz
                  obtain ⟨m, hm⟩ := List.mem_iff_getElem?.1 hz
                  have := (List.getElem?_eq_some_iff.1 hm).1
                  exact hno m z (by omega) hm g hg
                rw [hc0t] at CT
                clear hlt hi hno
                go_wp2_with (first
                  | (go_at_call 10; (with_reducible refine (CT hbr).mono ?_); rintro e x9 ⟨rfl, b9⟩; have D9 := hbr.trans (b9.mono hbr.size); clear b9)
                  | fail)
                go_ret
                exact ⟨rfl, DF.trans (D9.mono DF.size)⟩
  · have hc1 : (chkS s == 0) = false := by simpa using hc0
    generalize chkS s = ck at *
    go_enter Tryz.func8, Tryz.ntmps8
    go_wp2_with (first
      | (go_at_call 9; (with_reducible refine (FX D2).mono ?_); rintro e x3 ⟨rfl, b3⟩; have D3 := D2.trans (b3.mono D2.size); clear b3)
      | (go_at_call 10; (with_reducible refine (CK D1).mono ?_); rintro e x2 ⟨rfl, b2⟩; have D2 := D1.trans (b2.mono D1.size); have p2 := cell_on D2 r0; have q2 := cell_on D2 r1; clear b2)
      | (go_at_call 9; (with_reducible refine (FX0 _).mono ?_); rintro e x1 ⟨rfl, b1⟩; have D1 : Below w0.heap.size w0 x1 := (by rw [HW.out]; exact b1); have p1 := cell_on D1 r0; have q1 := cell_on D1 r1; clear b1)
      | fail)
    go_ret
    exact ⟨rfl, HZ D3⟩
end
end Go.Proofs.YtfkgmgnoijokdaaGreatDoor
namespace Go.Proofs.YtfkgmgnoijokdaaGreatDoor
open Go Go.RowKit Go.ChangeShapes Go.WideShapes Go.Deep
/-- Nothing within it is beyond the form's reach. -/
def Wt {H : Type} (t : TypeId) (d : DataW H) : Prop := ∀ n ∈ d.weights Tryz.prog t, n ≤ reachBytes
theorem mem_weightsAll {H : Type} {e : TypeId} {d : DataW H} {n : Nat} (hn : n ∈ d.weights Tryz.prog e) : ∀ {l : List (DataW H)}, d ∈ l → n ∈ DataW.weightsAll Tryz.prog e l
  | x :: r, h => by
    simp only [DataW.weightsAll, List.mem_append]
    rcases List.mem_cons.1 h with rfl | h
    · exact Or.inl hn
    · exact Or.inr (mem_weightsAll hn h)
theorem Wt.elem {H : Type} {t e : TypeId} {el sp : List (DataW H)} (ht : Tryz.prog.underlying t = some (.slice e)) (h : Wt t (.slice el sp)) {d : DataW H} (hd : d ∈ el) : Wt e d := by
  intro n hn
  refine h n ?_
  simp only [DataW.weights, ht, List.mem_cons, List.mem_append]
  exact Or.inr (Or.inl (mem_weightsAll hn hd))
theorem Wt.len {H : Type} {t e : TypeId} {el sp : List (DataW H)} (ht : Tryz.prog.underlying t = some (.slice e)) (h : Wt t (.slice el sp)) (hb : 1 ≤ Tryz.prog.bytesOf e) : el.length ≤ 140737488355328 := by
  have h1 := h ((el.length + sp.length) * Tryz.prog.bytesOf e) (by simp only [DataW.weights, ht, List.mem_cons, true_or])
  have h2 := reachBytes_lt
  have h3 : el.length + sp.length ≤ (el.length + sp.length) * Tryz.prog.bytesOf e := Nat.le_mul_of_pos_right _ hb
  omega
theorem Wt.part {H : Type} {t : TypeId} {fs : Array Field} {parts : List (DataW H)} (ht : Tryz.prog.underlying t = some (.struct fs)) (h : Wt t (.agg parts)) {j : Nat} {u : TypeId} {d : DataW H} (hu : (fs.toList.map (·.type))[j]? = some u) (hd : parts[j]? = some d) : Wt u d := by
  intro n hn
  refine h n ?_
  simp only [DataW.weights, ht]
  exact DataW.weights_mem_each hu hd n hn
section
variable {H : Type} {enc : TypeId × Value → H} {w : World} {base : Nat} {spare : Nat → Bool} {held : Bool}
theorem open_sl {α : Type} {sz : Nat} {t e : TypeId} {p : α → Nat → Nat → Prop} (ht : Tryz.prog.underlying t = some (.slice e)) (hsz : Tryz.prog.cellsOf e = sz) (hs1 : 0 < sz) (hb : 1 ≤ Tryz.prog.bytesOf e) {fuel : Nat} {cs : List Value} {x : DataW H × List MemPlace} (h : DataW.trod enc Tryz.prog w base spare held fuel t cs = some x) (hw : Wt t x.1)
    (each : ∀ (fuel : Nat) (cs : List Value) (y : DataW H × List MemPlace) (b o : Nat), DataW.trod enc Tryz.prog w base spare held fuel e cs = some y → Wt e y.1 → cs.length = sz → (∀ j u, cs[j]? = some u → w.cell? ⟨b, o + j, none⟩ = some u) → ∃ a : α, p a b o) :
    ∃ (v : Value) (l : List α), cs = [v] ∧ Sl w v l.length sz (fun i b o => ∀ a, l[i]? = some a → p a b o) := by
  rcases open_slice ht h with ⟨hcs, _⟩ | ⟨ad, len, cap, m, n, D, Pl, hcs, _, hl, hm, hmm, rfl, hx⟩
  · exact ⟨_, [], hcs, _, 0, rfl, Nat.le_refl _, by simp, fun h => absurd h (by simp)⟩
  · have hlm : len ≤ m := by rw [hmm]; split <;> omega
    rw [hsz] at hx
    have hlen47 : len ≤ 140737488355328 := by
      have := hw.len ht hb
      simpa using this
    by_cases h0 : len = 0
    · subst h0
      exact ⟨_, [], hcs, some ad, cap, rfl, by simp, by simp, fun h => absurd h (by simp)⟩
    · obtain ⟨b, o, sp⟩ := ad
      have cell : ∀ i, i < len → ∃ cs', DataW.trod enc Tryz.prog w base spare held n e cs' = some (D i, Pl i) ∧ cs'.length = sz ∧ ∀ j, j < sz → w.cell? ((⟨b, o, sp⟩ : Addr).add (i * sz + j)) = cs'[j]? := by
        intro i hi
        obtain ⟨cs', h1, h2⟩ := hx i (by omega)
        obtain ⟨_, hlen, hcell⟩ := World.cells?_some h1
        refine ⟨cs', h2, hlen, fun j hj => ?_⟩
        have := hcell j hj
        rw [add_add] at this
        exact this
      obtain ⟨cs0, _, hl0, hc0⟩ := cell 0 (by omega)
      obtain ⟨u0, hu0⟩ : ∃ u, cs0[0]? = some u := ⟨_, List.getElem?_eq_getElem (by omega)⟩
      have hc00 := (hc0 0 hs1).trans hu0
      have hsp : sp = none := by simpa [Addr.add] using World.cell?_spot hc00
      subst hsp
      have hbl : b < w.heap.size := by
        have := World.block_lt_of_cell? w _ hc00
        simpa [Addr.add] using this
      have each' : ∀ i, i < len → ∃ a : α, p a b (o + i * sz) := by
        intro i hi
        obtain ⟨cs', h1, h2, h3⟩ := cell i hi
        refine each n cs' _ b (o + i * sz) h1 (hw.elem ht (List.mem_map.2 ⟨i, List.mem_range.2 hi, rfl⟩)) h2 fun j u hj => ?_
        have hjs : j < sz := by
          have := (List.getElem?_eq_some_iff.1 hj).1
          omega
        have h4 := (h3 j hjs).trans hj
        have e4 : (⟨b, o, none⟩ : Addr).add (i * sz + j) = ⟨b, o + i * sz + j, none⟩ := by simp [Addr.add, Nat.add_assoc]
        rw [e4] at h4
        exact h4
      obtain ⟨a0, _⟩ := each' 0 (by omega)
      haveI : Inhabited α := ⟨a0⟩
      obtain ⟨f, hf⟩ := choose_lt each'
      refine ⟨_, (List.range len).map f, hcs, some ⟨b, o, none⟩, cap, by simp, by simpa using hl, by simpa using hlen47, fun _ => ⟨b, o, rfl, hbl, fun i hi a ha => ?_⟩⟩
      have hi : i < len := by simpa using hi
      have hpf : a = f i := by
        simp [hi] at ha
        exact ha.symm
      subst hpf
      exact hf i hi
theorem Tryz.cStr : Tryz.prog.cellsOf 9 = 1 := by kernel_rfl
theorem Tryz.cFld : Tryz.prog.cellsOf 33 = 5 := by kernel_rfl
theorem Tryz.cRef : Tryz.prog.cellsOf 31 = 2 := by kernel_rfl
theorem Tryz.cBool : Tryz.prog.cellsOf 4 = 1 := by kernel_rfl
theorem Tryz.cOb : Tryz.prog.cellsOf 41 = 2 := by kernel_rfl
theorem Tryz.cEn : Tryz.prog.cellsOf 45 = 2 := by kernel_rfl
theorem Tryz.cSch : Tryz.prog.cellsOf 25 = 2 := by kernel_rfl
theorem Tryz.cFs : Tryz.prog.cellsOf 39 = 1 := by kernel_rfl
theorem Tryz.cWs : Tryz.prog.cellsOf 43 = 1 := by kernel_rfl
theorem Tryz.cOs : Tryz.prog.cellsOf 22 = 1 := by kernel_rfl
theorem Tryz.cEs : Tryz.prog.cellsOf 23 = 1 := by kernel_rfl
theorem open_str {fuel : Nat} {cs : List Value} {x : DataW H × List MemPlace} (h : DataW.trod enc Tryz.prog w base spare held fuel 9 cs = some x) : ∃ b : Bs, cs = [.string ⟨b.toArray⟩] := by
  obtain ⟨t, e, _, _⟩ := DataW.trod_string Tryz.underlying9 h
  exact ⟨t.data.toList, by rw [e]⟩
set_option maxRecDepth 100000 in
theorem open_fld {fuel : Nat} {cs : List Value} {x : DataW H × List MemPlace} (h : DataW.trod enc Tryz.prog w base spare held fuel 33 cs = some x) :
    ∃ f : Fld, cs = [.string ⟨f.n.toArray⟩, .string ⟨f.t.toArray⟩, .string ⟨f.w.toArray⟩, .bool f.s, .string ⟨f.i.toArray⟩] := by
  obtain ⟨xs, n, _, _, hl, hxl, hf⟩ := DataW.trod_struct Tryz.underlying33 h
  rw [Tryz.cFld] at hl
  match xs, hxl, cs, hl with
  | [y0, y1, y2, y3], _, [v0, v1, v2, v3, v4], _ =>
    have g0 := hf 0 _ rfl
    have g1 := hf 1 _ rfl
    have g2 := hf 2 _ rfl
    have g3 := hf 3 _ rfl
    simp [Tryz.cStr, Tryz.cRef, Tryz.cBool] at g0 g1 g2 g3
    obtain ⟨a0, e0⟩ := open_str g0
    obtain ⟨ys, m, _, _, _, hyl, hg⟩ := DataW.trod_struct Tryz.underlying31 g1
    match ys, hyl with
    | [z0, z1], _ =>
      have q0 := hg 0 _ rfl
      have q1 := hg 1 _ rfl
      simp [Tryz.cStr] at q0 q1
      obtain ⟨a1, e1⟩ := open_str q0
      obtain ⟨a2, e2⟩ := open_str q1
      obtain ⟨a3, e3, _, _⟩ := DataW.trod_bool Tryz.underlying4 g2
      obtain ⟨a4, e4⟩ := open_str g3
      simp at e0 e1 e2 e3 e4
      exact ⟨⟨a0, a1, a2, a3, a4⟩, by rw [e0, e1, e2, e3, e4]⟩
theorem open_wds {fuel : Nat} {cs : List Value} {x : DataW H × List MemPlace} (h : DataW.trod enc Tryz.prog w base spare held fuel 43 cs = some x) (hw : Wt 43 x.1) : ∃ (v : Value) (ws : List Bs), cs = [v] ∧ WdsAt w v ws :=
  open_sl Tryz.underlying43 Tryz.cStr (by decide) (of_decide_eq_true (by kernel_rfl)) h hw fun fuel cs y b o hy _ _ hc => by
    obtain ⟨a, rfl⟩ := open_str hy
    exact ⟨a, hc 0 _ rfl⟩
theorem open_flds {fuel : Nat} {cs : List Value} {x : DataW H × List MemPlace} (h : DataW.trod enc Tryz.prog w base spare held fuel 39 cs = some x) (hw : Wt 39 x.1) : ∃ (v : Value) (fs : List Fld), cs = [v] ∧ FldsAt w v fs :=
  open_sl Tryz.underlying39 Tryz.cFld (by decide) (of_decide_eq_true (by kernel_rfl)) h hw fun fuel cs y b o hy _ _ hc => by
    obtain ⟨f, rfl⟩ := open_fld hy
    exact ⟨f, hc 0 _ rfl, hc 1 _ rfl, hc 2 _ rfl, hc 3 _ rfl, hc 4 _ rfl⟩
set_option maxRecDepth 100000 in
theorem open_ob {fuel : Nat} {cs : List Value} {x : DataW H × List MemPlace} (h : DataW.trod enc Tryz.prog w base spare held fuel 41 cs = some x) (hw : Wt 41 x.1) :
    ∃ (o : Ob) (fv : Value), cs = [.string ⟨o.n.toArray⟩, fv] ∧ FldsAt w fv o.fs := by
  obtain ⟨xs, n, _, rfl, hl, hxl, hf⟩ := DataW.trod_struct Tryz.underlying41 h
  rw [Tryz.cOb] at hl
  match xs, hxl, cs, hl with
  | [y0, y1], _, [v0, v1], _ =>
    have g0 := hf 0 _ rfl
    have g1 := hf 1 _ rfl
    simp [Tryz.cStr, Tryz.cFs] at g0 g1
    obtain ⟨a0, e0⟩ := open_str g0
    obtain ⟨fv, fs, e1, hfs⟩ := open_flds g1 (hw.part Tryz.underlying41 (j := 1) rfl rfl)
    simp at e0 e1
    exact ⟨⟨a0, fs⟩, fv, by rw [e0, e1], hfs⟩
set_option maxRecDepth 100000 in
theorem open_en {fuel : Nat} {cs : List Value} {x : DataW H × List MemPlace} (h : DataW.trod enc Tryz.prog w base spare held fuel 45 cs = some x) (hw : Wt 45 x.1) :
    ∃ (o : En) (fv : Value), cs = [.string ⟨o.n.toArray⟩, fv] ∧ WdsAt w fv o.ws := by
  obtain ⟨xs, n, _, rfl, hl, hxl, hf⟩ := DataW.trod_struct Tryz.underlying45 h
  rw [Tryz.cEn] at hl
  match xs, hxl, cs, hl with
  | [y0, y1], _, [v0, v1], _ =>
    have g0 := hf 0 _ rfl
    have g1 := hf 1 _ rfl
    simp [Tryz.cStr, Tryz.cWs] at g0 g1
    obtain ⟨a0, e0⟩ := open_str g0
    obtain ⟨fv, fs, e1, hfs⟩ := open_wds g1 (hw.part Tryz.underlying45 (j := 1) rfl rfl)
    simp at e0 e1
    exact ⟨⟨a0, fs⟩, fv, by rw [e0, e1], hfs⟩
theorem open_obs {fuel : Nat} {cs : List Value} {x : DataW H × List MemPlace} (h : DataW.trod enc Tryz.prog w base spare held fuel 22 cs = some x) (hw : Wt 22 x.1) : ∃ (v : Value) (fs : List Ob), cs = [v] ∧ ObsAt w v fs :=
  open_sl Tryz.underlying22 Tryz.cOb (by decide) (of_decide_eq_true (by kernel_rfl)) h hw fun fuel cs y b o hy hwy _ hc => by
    obtain ⟨f, fv, rfl, hfs⟩ := open_ob hy hwy
    exact ⟨f, hc 0 _ rfl, fv, hc 1 _ rfl, hfs⟩
theorem open_ens {fuel : Nat} {cs : List Value} {x : DataW H × List MemPlace} (h : DataW.trod enc Tryz.prog w base spare held fuel 23 cs = some x) (hw : Wt 23 x.1) : ∃ (v : Value) (fs : List En), cs = [v] ∧ EnsAt w v fs :=
  open_sl Tryz.underlying23 Tryz.cEn (by decide) (of_decide_eq_true (by kernel_rfl)) h hw fun fuel cs y b o hy hwy _ hc => by
    obtain ⟨f, fv, rfl, hfs⟩ := open_en hy hwy
    exact ⟨f, hc 0 _ rfl, fv, hc 1 _ rfl, hfs⟩
set_option maxRecDepth 100000 in
theorem open_sch {fuel : Nat} {cs : List Value} {x : DataW H × List MemPlace} (h : DataW.trod enc Tryz.prog w base spare held fuel 25 cs = some x) (hw : Wt 25 x.1) :
    ∃ (s : Sch) (ov ev : Value), cs = [ov, ev] ∧ SchAt w ov ev s := by
  obtain ⟨xs, n, _, rfl, hl, hxl, hf⟩ := DataW.trod_struct Tryz.underlying25 h
  rw [Tryz.cSch] at hl
  match xs, hxl, cs, hl with
  | [y0, y1], _, [v0, v1], _ =>
    have g0 := hf 0 _ rfl
    have g1 := hf 1 _ rfl
    simp [Tryz.cOs, Tryz.cEs] at g0 g1
    obtain ⟨ov, os, e0, h0⟩ := open_obs g0 (hw.part Tryz.underlying25 (j := 0) rfl rfl)
    obtain ⟨ev, es, e1, h1⟩ := open_ens g1 (hw.part Tryz.underlying25 (j := 1) rfl rfl)
    simp at e0 e1
    exact ⟨⟨os, es⟩, ov, ev, by rw [e0, e1], h0, h1⟩
end
end Go.Proofs.YtfkgmgnoijokdaaGreatDoor
namespace Go.Proofs.YtfkgmgnoijokdaaGreatDoor
open Go Go.RowKit Go.Lib

def listed : List (String × DataW Unit) := Rows.schemaChecksRow.laid
theorem at_var {w : World} {n : String} {d : DataW Unit} {g t : Nat} (h : VarReads Tryz.prog w n d) (hg : Tryz.prog.globalNamed n = some g) (ht : (Tryz.prog.globals[g]?).map (·.type) = some t) :
    ∃ (cs : Array Value) (fuel : Nat) (p : List MemPlace), w.var? Tryz.prog n = some cs ∧ DataW.trod (fun _ => ()) Tryz.prog w 0 (fun _ => true) false fuel t cs.toList = some (d, p) ∧ ∀ i, w.cell? ⟨g, i, none⟩ = cs.toList[i]? := by
  obtain ⟨g', t', cs, fuel, p, hg', ht', hv, hd⟩ := h
  obtain rfl := Option.some.inj (hg.symm.trans hg')
  obtain rfl := Option.some.inj (ht.symm.trans ht')
  exact ⟨cs, fuel, p, hv, hd, fun i => by rw [World.var?_cell hg hv i, Array.getElem?_toList]⟩
theorem es_laid {w : World} (h : VarReads Tryz.prog w "strconv.ErrSyntax" Rows.laid_strconv_ErrSyntax) : ∃ te pe, w.cell? ⟨3, 0, none⟩ = some (.iface te pe) := by
  obtain ⟨cs, fuel, p, _, hd, hc⟩ := at_var h (g := 3) (t := 140) (by kernel_rfl) (by kernel_rfl)
  cases fuel with
  | zero => simp [DataW.trod] at hd
  | succ n =>
    have hu := Tryz.underlying140
    simp only [DataW.trod, hu, Rows.laid_strconv_ErrSyntax] at hd
    rw [hc]
    split at hd
    all_goals simp_all
theorem max_of {W : World} (h : W.ShapedOpen Tryz.prog) : ∃ m, W.cell? ⟨gM, 0, none⟩ = some (.int .i64 m) :=
  cell_of_shapedOpen_int h (g := 0) (t := 3) (zero := #[.int .i64 0]) (of_decide_eq_true (by kernel_rfl)) (by kernel_rfl) rfl (by kernel_rfl) (by kernel_rfl) Tryz.underlying3
theorem gl_laid {W : World} (hL : laidMet Tryz.prog listed W) (hs : W.ShapedOpen Tryz.prog) : Gl W := by
  obtain ⟨te, pe, he⟩ := es_laid (laidMet.reads hL (.tail _ (.tail _ (.tail _ (.tail _ (.tail _ (.head _)))))))
  exact ⟨max_of hs, ⟨_, he, Or.inr ⟨te, pe, rfl⟩⟩⟩
end Go.Proofs.YtfkgmgnoijokdaaGreatDoor
namespace Go.Proofs.YtfkgmgnoijokdaaGreatDoor
open Go.ChangeShapes Go.WideShapes Go.ChangeAt Go.RowKit
open Go.ChangeMaps (open_string shut_string)

theorem Tryz.own : ownKnob Tryz.prog.godebug = none := by kernel_rfl
theorem Tryz.laidOut : laidOutB Tryz.prog = true := by kernel_rfl

/-- The road from the contract to the row where the contract is handed both what is listed and the world's shape. -/
theorem lifted_by {H : Type} {enc : TypeId × Value → H} {C : Checked} {os : Os} {f : FuncId} {fn : Func} {s : ChangeSpec} {conds : List PathCond} {apart fresh handsOn again : Bool} {X : World → Array Value → Prop}
    (hX : ∀ (w w' : World) (args : Array Value), w.heap = w'.heap → X w args → X w' args)
    (own : ownKnob C.prog.godebug = none) (started : os.Started) (noInit : C.prog.inits.idxOf? f = none) (hfn : C.prog.funcs[f]? = some fn)
    (witness : ∃ (w : World) (tape : Tape) (i : Input), w.os = os ∧ (w.forCall tape i).Shaped C.prog ∧ i.vars = [] ∧ Input.okWide C.prog (w.forCall tape i) .any w.heap.size f i ∧
      ((s.pre enc C.prog fn conds apart (w.forCall tape i).memory i.args ∧ X (w.forCall tape i).memory i.args) ∧ sizedMet enc C.prog fn (OpenSpec.ofChange s) apart (w.forCall tape i).memory i.args) ∧ ({} : Assume).holds C.prog (lone (Frame.enter C.prog f i.args .normal) [] (w.forCall tape i)))
    (contract : ∀ (W : World) (base : Nat) (args : Array Value) (ds gs : List (DataW H)) (before : List MemPlace),
      (∀ (j : Nat) t v, fn.params[j]? = some t → args[j]? = some v → Value.okWide C.prog W .any base t v) →
      DataW.Whole enc C.prog fn.params.toList s.vars apart W args.toList ds gs before →
      (DataW.weightsEach C.prog (fn.params.toList ++ s.plain.varTypes C.prog) (ds ++ gs)).all (· ≤ reachBytes) = true → W.ShapedOpen C.prog → X W args →
      Calls C.prog f args W fun e W' => ∃ v, e = .returned v ∧ s.post enc C.prog fn apart fresh handsOn again W args v W') :
    ReturnsInHanded {} C os f .any (fun w args => (s.pre enc C.prog fn conds apart w args ∧ X w args) ∧ sizedMet enc C.prog fn (OpenSpec.ofChange s) apart w args) (s.post enc C.prog fn apart fresh handsOn again) := by
  refine returnsInHanded_of_calls own started noInit witness ?_
  intro w tape i _ hsh _ hok hpre _
  obtain ⟨_, _, _, fn', hfn', _, _, _, _, hval⟩ := hok
  obtain rfl : fn' = fn := Option.some.inj (hfn'.symm.trans hfn)
  obtain ⟨⟨⟨ds, gs, before, hw, _⟩, hx⟩, hz⟩ := hpre
  refine (contract (w.forCall tape i) w.heap.size i.args ds gs before hval (DataW.Whole.of_heap (w' := w.forCall tape i) (by rfl) hw) (hz.weights hw) hsh (hX _ _ _ (by rfl) hx)).mono fun e W' ⟨v, he, hp⟩ => ?_
  subst he
  exact ChangeSpec.post_blind hp

set_option maxRecDepth 100000 in
theorem schemaLess_lifted (os : Os) (started : os.Started) (H : Type) (enc : TypeId × Value → H) :
    ReturnsInHanded {} Tryz.checked os 8 .any (fun w args => (Rows.schemaLessSpec.pre enc Tryz.prog Tryz.f8 Rows.schemaLessRow.domain false w args ∧ laidMetH Tryz.prog listed w) ∧ sizedMet enc Tryz.prog Tryz.f8 (OpenSpec.ofChange Rows.schemaLessSpec) false w args)
      (Rows.schemaLessSpec.post enc Tryz.prog Tryz.f8 false true false false) := by
  refine lifted_by (C := Tryz.checked) (X := fun w _ => laidMetH Tryz.prog listed w) (fun _ _ _ hh h => h.of_heap hh) Tryz.own started (by kernel_rfl) Tryz.func8
    (ChangeSpec.witness_shaped (enc := enc) (C := Tryz.checked) (os := os) (X := fun w _ => laidMetH Tryz.prog listed w) false (World.laidAll Tryz.prog os listed) #[.agg #[.slice none 0 0, .slice none 0 0], .int .i64 0] 8 (World.laidAll_os _ _ _)
      (World.shaped_of_ZipB (by kernel_rfl) (by kernel_rfl)) (by kernel_rfl) (by kernel_rfl) (by kernel_rfl)
      (by rw [MakeChecks.laidMetH_plain _ _ _ (by kernel_rfl)]; exact laidMet_laidAll _ (by kernel_rfl) (by kernel_rfl))) ?_
  intro W base args ds gs before hval0 hW hsz hsh hL
  have hval : ∀ (j : Nat) t v, Tryz.f8.params[j]? = some t → args[j]? = some v → Value.okWide Tryz.prog W .any base t v := hval0
  have hW' := hW
  obtain ⟨p, q, hA0, hV, rfl, hfz, hnd⟩ := hW
  have hA : DataW.TrodAll enc Tryz.prog W 0 (fun _ => true) true Tryz.f8.params.toList args.toList ds p := hA0
  rw [Tryz.params8] at hA hval
  obtain ⟨v0, vs0, d0, ds0, p0, q0, hargs, rfl, rfl, h0, r0⟩ := trodAll_cons hA
  obtain ⟨v1, vs1, d1, ds1, p1, q1, rfl, rfl, rfl, h1, r1⟩ := trodAll_cons r0
  obtain ⟨rfl, rfl, rfl⟩ := trodAll_nil r1
  obtain rfl : args = #[v0, v1] := by cases args; simp_all
  obtain ⟨rfl, rfl⟩ := trodVars_none hV
  obtain ⟨c0, rfl, _⟩ := okWide_struct Tryz.underlying25 (hval 0 25 v0 rfl rfl)
  have k0 := h0
  have lt0 : ∀ x ∈ p0, x.block < W.heap.size := by obtain ⟨m, hm⟩ := k0; exact DataW.trod_lt m _ _ _ hm
  have wt0 : Wt 25 d0 := fun n hn => by
    have := List.all_eq_true.1 hsz n (DataW.weights_mem_each (j := 0) rfl rfl n hn)
    simpa using this
  obtain ⟨s0, ov0, ev0, hc0, hS0⟩ : ∃ (s : Sch) (ov ev : Value), (Value.agg c0).cells.toList = [ov, ev] ∧ SchAt W ov ev s := by
    obtain ⟨fuel, hf⟩ := h0
    exact open_sch hf wt0
  obtain rfl : c0 = #[ov0, ev0] := Array.toList_inj.1 hc0
  obtain ⟨a1, rfl, rfl, rfl, w1⟩ := open_int Tryz.underlying3 (hval 1 3 v1 rfl rfl) h1
  have hL2 : laidMetH Tryz.prog listed W := hL
  rw [MakeChecks.laidMetH_plain _ _ _ (by kernel_rfl)] at hL2
  have gl := gl_laid hL2 hsh
  clear hA0 hval0 hL hL2 hsz
  have wk := less_any hS0 gl a1
  refine wk.mono fun e W' ⟨he, bel⟩ => ?_
  subst he
  exact ⟨_, rfl, _, _, _, [], _, [], hW', trodAll_mk1 (shut_bool Tryz.underlying4 _), (trodAll_cons_mk (Below.trod Tryz.laidOut (by kernel_rfl) (of_decide_eq_true (by kernel_rfl)) k0 bel lt0) (trodAll_cons_mk (shut_int Tryz.underlying3 w1) trodAll_mk0)), rfl, bel.frame _, fun h => by cases h⟩

theorem schemaLess_row : Rows.SchemaLessSaid :=
  OpenClaim.holds_of_wide 8 Tryz.f8 rfl rfl rfl rfl rfl rfl rfl ⟨rfl, rfl, rfl, rfl, rfl⟩ rfl rfl rfl rfl rfl (by kernel_rfl) Tryz.func8 (by kernel_rfl)
    (of_decide_eq_true (by kernel_rfl)) (by unfold Func.isWrapper; first | (rw [if_pos (by decide +kernel)]; kernel_rfl) | (rw [if_neg (by decide +kernel)]; exact ⟨rfl, rfl⟩))
    (fun os started H enc _ => schemaLess_lifted os started H enc)

theorem schemaLess_holds : Rows.SchemaLessCardSaid :=
  Claim7.holds_tied_plain_at .later [] _ _ _ _ schemaLess_row (fun _ h => by cases h) (by kernel_rfl) (fun _ h => by cases h) schemaLess_row_tie rfl ⟨rfl, rfl⟩ (by kernel_rfl) rfl
    (fun f fn hf hfn => by
      obtain rfl : f = 8 := Option.some.inj ((show Tryz.prog.funcNamed "rhizome/rhizomelaw09.SchemaLess" = some 8 by kernel_rfl).symm.trans hf) |>.symm
      obtain rfl : fn = Tryz.f8 := (Option.some.inj (Tryz.func8.symm.trans hfn)).symm
      exact ⟨by kernel_rfl, fun j t ht => by
        rw [Tryz.params8] at ht
        have hm : t ∈ [25, 3] := by simpa using Array.mem_of_getElem? ht
        have hall : ([25, 3].all fun u => !Tryz.prog.wantsStandIn u) = true := by kernel_rfl
        exact (show Tryz.prog.wantsStandIn t = false by simpa using List.all_eq_true.1 hall t hm)⟩)
    (by kernel_rfl)
#print axioms schemaLess_holds
end Go.Proofs.YtfkgmgnoijokdaaGreatDoor
