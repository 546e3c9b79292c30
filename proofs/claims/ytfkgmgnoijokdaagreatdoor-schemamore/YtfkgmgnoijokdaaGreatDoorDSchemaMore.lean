/- With an object more, of one property and a name of its own, a schema that may be may be still, as long as there are not too many; with one that is there already it may not: for any schema and any string (within the form's own reach of 2^47 - 4096 bytes); the listed package variables are as the program's text lays them (tied). -/
import Derived.Test.YtfkgmgnoijokdaaGreatDoorC01
import Derived.Deep.AppendLies
import Derived.Deep.DrawnRows
import Derived.Deep.Slices
import Derived.Laws.AppendOwnNone
import Derived.OpenShut
import Derived.ProofKit
import Derived.SizedLaws
import Derived.Test.YtfkgmgnoijokdaaGreatDoorRows
import Derived.Test.YtfkgmgnoijokdaaGreatDoorLxK
import Derived.Lib.LaidU8
import Derived.LaidMore
import Derived.Stop.LaidErr
import Derived.Lay
import Derived.Shelf.Vars
import Derived.Test.YtfkgmgnoijokdaaGreatDoorTie
import Derived.Test.YtfkgmgnoijokdaaGreatDoorCards
import Derived.ShutString
import Derived.ChangeOld
import Derived.SevenTiedAt
import Derived.Stop.Joined
import Derived.Carry
namespace Go.Proofs.YtfkgmgnoijokdaaGreatDoor
open Go Go.RowKit Go.Shelf
/-- Objects with the slices of their fields, cell by cell. -/
def cellsB : List (Ob × Value) → List Value
  | [] => []
  | p :: l => .string ⟨p.1.n.toArray⟩ :: p.2 :: cellsB l
theorem cellsB_app (l m : List (Ob × Value)) : cellsB (l ++ m) = cellsB l ++ cellsB m := by
  induction l with
  | nil => rfl
  | cons x l ih => simp [cellsB, ih]
theorem cellsB_len (l : List (Ob × Value)) : (cellsB l).length = l.length * 2 := by
  induction l with
  | nil => rfl
  | cons x l ih => simp [cellsB, ih]; omega
theorem cellsB_at : ∀ (l : List (Ob × Value)) (i : Nat) (p : Ob × Value), l[i]? = some p → (cellsB l)[i * 2]? = some (.string ⟨p.1.n.toArray⟩) ∧ (cellsB l)[i * 2 + 1]? = some p.2
  | [], _, _, h => by simp at h
  | y :: l, 0, p, h => by
    simp at h
    subst h
    exact ⟨rfl, rfl⟩
  | y :: l, i + 1, p, h => by
    have ih := cellsB_at l i p (by simpa using h)
    have e : (i + 1) * 2 = i * 2 + 1 + 1 := by omega
    rw [e]
    simpa [cellsB] using ih
theorem cellsB_mem {l : List (Ob × Value)} {u : Value} (h : u ∈ cellsB l) : (∃ b : Bs, u = .string ⟨b.toArray⟩) ∨ ∃ p ∈ l, u = p.2 := by
  induction l with
  | nil => simp [cellsB] at h
  | cons x l ih =>
    simp only [cellsB, List.mem_cons] at h
    rcases h with rfl | rfl | h
    · exact Or.inl ⟨_, rfl⟩
    · exact Or.inr ⟨x, by simp, rfl⟩
    · rcases ih h with q | ⟨p, hp, e⟩
      · exact Or.inl q
      · exact Or.inr ⟨p, by simp [hp], e⟩
/-- What a slice of objects holds, cell by cell. -/
theorem obs_pairs {w : World} {v : Value} {os : List Ob} (h : ObsAt w v os) (hn : 0 < os.length) : ∃ (b o c : Nat) (l : List (Ob × Value)), v = .slice (some ⟨b, o, none⟩) os.length c ∧ b < w.heap.size ∧ os.length ≤ c ∧ l.map (·.1) = os ∧ (∀ p ∈ l, FldsAt w p.2 p.1.fs) ∧ ∀ j u, (cellsB l)[j]? = some u → w.cell? ⟨b, o + j, none⟩ = some u := by
  obtain ⟨a, c, rfl, hc, _, hr⟩ := h
  obtain ⟨b, o, rfl, hb, hH⟩ := hr hn
  have each : ∀ i, i < os.length → ∃ fv : Value, ∀ x, os[i]? = some x → w.cell? ⟨b, o + i * 2, none⟩ = some (.string ⟨x.n.toArray⟩) ∧ w.cell? ⟨b, o + i * 2 + 1, none⟩ = some fv ∧ FldsAt w fv x.fs := by
    intro i hi
    obtain ⟨x, hx⟩ : ∃ x, os[i]? = some x := ⟨_, List.getElem?_eq_getElem hi⟩
    obtain ⟨e0, fv, e1, hf⟩ := hH i hi x hx
    refine ⟨fv, fun y hy => ?_⟩
    rw [hx] at hy
    cases hy
    exact ⟨e0, e1, hf⟩
  haveI : Inhabited Value := ⟨undef⟩
  obtain ⟨f, hf⟩ := Deep.choose_lt each
  have hlen : (List.zip os ((List.range os.length).map f)).length = os.length := by simp
  have hat : ∀ i p, (List.zip os ((List.range os.length).map f))[i]? = some p → ∃ x, os[i]? = some x ∧ p = (x, f i) := by
    intro i p hp
    have hi : i < os.length := by
      have := (List.getElem?_eq_some_iff.1 hp).1
      omega
    rw [List.getElem?_zip_eq_some] at hp
    refine ⟨p.1, hp.1, ?_⟩
    have h2 := hp.2
    simp [hi] at h2
    rw [h2]
  refine ⟨b, o, c, List.zip os ((List.range os.length).map f), rfl, hb, hc, List.map_fst_zip (by simp), ?_, ?_⟩
  · intro p hp
    obtain ⟨i, hi⟩ := List.mem_iff_getElem?.1 hp
    obtain ⟨x, hx, rfl⟩ := hat i p hi
    exact (hf i (List.getElem?_eq_some_iff.1 hx).1 x hx).2.2
  · intro j u hj
    have hjl : j < os.length * 2 := by
      have := (List.getElem?_eq_some_iff.1 hj).1
      rw [cellsB_len, hlen] at this
      exact this
    obtain ⟨m, r, hm, hr2⟩ : ∃ m r, j = m * 2 + r ∧ r < 2 := ⟨j / 2, j % 2, by omega, by omega⟩
    obtain ⟨p, hp⟩ : ∃ p, (List.zip os ((List.range os.length).map f))[m]? = some p := ⟨_, List.getElem?_eq_getElem (by omega)⟩
    obtain ⟨q0, q1⟩ := cellsB_at _ _ _ hp
    obtain ⟨x, hx, rfl⟩ := hat _ p hp
    obtain ⟨c0, c1, _⟩ := hf m (by omega) x hx
    subst hm
    rcases (show r = 0 ∨ r = 1 by omega) with rfl | rfl
    · rw [Nat.add_zero, q0] at hj
      cases hj
      exact c0
    · rw [q1] at hj
      cases hj
      rw [← Nat.add_assoc]
      exact c1
theorem obs_own {w : World} {Q E : Nat} {v : Value} {l : List (Ob × Value)} (h : w.ownsRow Q E 2 v l.length (cellsB l)) (hl : l.length ≤ 140737488355328) (hf : ∀ p ∈ l, FldsAt w p.2 p.1.fs) : ObsAt w v (l.map (·.1)) := by
  unfold ObsAt
  rw [List.length_map]
  rcases h.2 with ⟨rfl, h0⟩ | ⟨g, cap, cur, hv, hb, hg, hn, _, _, ht⟩
  · exact ⟨none, 0, by rw [h0], by omega, hl, fun hp => absurd hp (by omega)⟩
  · refine ⟨_, cap, hv, hn, hl, fun _ => ⟨g, 0, rfl, lt_of_block hg, fun i hi x hx => ?_⟩⟩
    rw [List.getElem?_map] at hx
    obtain ⟨p, hp, rfl⟩ := Option.map_eq_some_iff.1 hx
    obtain ⟨q0, q1⟩ := cellsB_at l i p hp
    have f : ∀ k u, (cellsB l)[k]? = some u → w.cell? ⟨g, 0 + k, none⟩ = some u := fun k u hu => by
      rw [← ht, List.getElem?_take] at hu
      rw [Nat.zero_add]
      split at hu
      · unfold World.cell?
        rw [hg]
        simpa using hu
      · cases hu
    exact ⟨f _ _ q0, p.2, f _ _ q1, hf p (List.mem_of_getElem? hp)⟩
end Go.Proofs.YtfkgmgnoijokdaaGreatDoor
namespace Go.Proofs.YtfkgmgnoijokdaaGreatDoor
open Go Go.RowKit Go.Shelf
theorem frf_x : frfS [120] = true := by kernel_rfl
abbrev oneF : Obj := .cells #[.string ⟨#[120]⟩, .string ⟨#[73, 110, 116]⟩, .string ⟨#[]⟩, .bool false, .string ⟨#[]⟩] 33
theorem flds_one {W : World} {fb : Nat} (hF : W.heap[fb]? = some oneF) : FldsAt W (.slice (some ⟨fb, 0, none⟩) 1 1) [⟨[120], [73, 110, 116], [], false, []⟩] := by
  obtain ⟨q0, q1, q2, q3, q4, _⟩ := row5 hF
  refine ⟨_, 1, rfl, Nat.le_refl _, by simp, fun _ => ⟨fb, 0, rfl, lt_of_block hF, fun i hi x hx => ?_⟩⟩
  change i < 1 at hi
  obtain rfl : i = 0 := by omega
  simp only [List.getElem?_cons_zero] at hx
  cases hx
  exact ⟨q0, q1, q2, q3, q4⟩
theorem sch_one {W : World} {fb ob : Nat} {y : Bs} (hF : W.heap[fb]? = some oneF) (hO : W.heap[ob]? = some (.cells #[.string ⟨y.toArray⟩, .slice (some ⟨fb, 0, none⟩) 1 1] 41)) : SchAt W (.slice (some ⟨ob, 0, none⟩) 1 1) (.slice none 0 0) ⟨[oneO y], []⟩ := by
  refine ⟨⟨_, 1, rfl, Nat.le_refl _, by simp, fun _ => ⟨ob, 0, rfl, lt_of_block hO, fun i hi x hx => ?_⟩⟩, ⟨_, 0, rfl, Nat.le_refl _, by simp, fun h => absurd h (by simp)⟩⟩
  change i < 1 at hi
  obtain rfl : i = 0 := by omega
  simp only [List.getElem?_cons_zero] at hx
  cases hx
  obtain ⟨q0, q1, _⟩ := row2 hO
  exact ⟨q0, _, q1, flds_one hF⟩
theorem more_ways {s : Sch} (h : OkD s) (y : Bs) : (8 ≤ s.os.length ∧ chkS (moreS s y) = 90) ∨ (s.os.length < 8 ∧ chkS ⟨[oneO y], []⟩ = 91 ∧ chkS (moreS s y) = 91) ∨ (s.os.length < 8 ∧ chkS ⟨[oneO y], []⟩ = 0 ∧ chkS (moreS s y) = 92 ∧ 0 ≤ objS s y) ∨
    (s.os.length < 8 ∧ chkS ⟨[oneO y], []⟩ = 0 ∧ chkS (moreS s y) = 92 ∧ objS s y < 0 ∧ 0 ≤ enuS s y) ∨ (s.os.length < 8 ∧ chkS ⟨[oneO y], []⟩ = 0 ∧ chkS (moreS s y) = 0 ∧ objS s y < 0 ∧ enuS s y < 0) := by
  by_cases h8 : s.os.length < 8
  · cases hn : frtS y with
    | false => exact Or.inr (Or.inl ⟨h8, alone_no hn, more91 h h8 hn⟩)
    | true =>
      have ha := alone_ok frf_x hn
      by_cases h1 : y ∈ s.os.map (·.n)
      · exact Or.inr (Or.inr (Or.inl ⟨h8, ha, more92 frf_x h h8 hn (Or.inl h1), plB_nonneg.2 h1⟩))
      · by_cases h2 : y ∈ s.es.map (·.n)
        · exact Or.inr (Or.inr (Or.inr (Or.inl ⟨h8, ha, more92 frf_x h h8 hn (Or.inr h2), plB_neg.2 h1, plB_nonneg.2 h2⟩)))
        · exact Or.inr (Or.inr (Or.inr (Or.inr ⟨h8, ha, more0 frf_x h h8 hn h1 h2, plB_neg.2 h1, plB_neg.2 h2⟩)))
  · exact Or.inl ⟨by omega, more90 (by omega)⟩
theorem Tryz.infoOb : (Tryz.prog.info? 41).map (fun i => (i.zero, i.size, i.bytes)) = some (some (.agg #[.string ⟨#[]⟩, .slice none 0 0]), 2, 40) := by kernel_rfl
theorem own_none {W : World} {q B : Nat} (hB : B ≤ q) (h : W.heap[q]? = some (.cells #[] 41)) : W.ownsRow B 41 2 (.slice (some ⟨q, 0, none⟩) 0 0) 0 [] := ⟨rfl, Or.inr ⟨q, 0, #[], rfl, hB, h, Nat.le_refl _, Nat.zero_le _, rfl, rfl⟩⟩
/-- The schema with an object more, once it is stored. -/
theorem sch_more {w x5 W : World} {s : Sch} {ev : Value} {y : Bs} {l : List (Ob × Value)} {fb T g cap : Nat} {V : Value} (hlm : l.map (·.1) = s.os) (hlf : ∀ p ∈ l, FldsAt w p.2 p.1.fs) (hes : EnsAt w ev s.es)
    (hb5 : Below w.heap.size w x5) (hF : x5.heap[fb]? = some oneF) (hT : T < x5.heap.size) (hwT : w.heap.size ≤ T) (hTf : T ≠ fb) (hY : Below x5.heap.size x5 W) (hl : s.os.length ≤ 8)
    (own : W.ownsRow x5.heap.size 41 2 (.slice (some ⟨g, 0, none⟩) (s.os.length + 1) cap) (s.os.length + 1) (cellsB l ++ [.string ⟨y.toArray⟩, .slice (some ⟨fb, 0, none⟩) 1 1])) :
    SchAt (W.setCell ⟨T, 0, none⟩ V) (.slice (some ⟨g, 0, none⟩) (s.os.length + 1) cap) ev (moreS s y) ∧ Below w.heap.size w (W.setCell ⟨T, 0, none⟩ V) := by
  have k := (Kp.refl (fun k => k = T) W).set T 0 V (Or.inr rfl)
  have z5 := hb5.size
  have zY := hY.size
  have bW : Below w.heap.size w W := hb5.trans (hY.mono z5)
  have bT : Below w.heap.size w (W.setCell ⟨T, 0, none⟩ V) := ⟨k.os.trans bW.os, k.tape.trans bW.tape, k.output.trans bW.output, Nat.le_trans bW.size k.size, fun q hq => (k.block q (by omega) (fun e => by have e' : q = T := e; omega)).trans (bW.block q hq)⟩
  have hF2 : (W.setCell ⟨T, 0, none⟩ V).heap[fb]? = some oneF := by
    have hlt := lt_of_block hF
    exact (k.block fb (by omega) (fun e => hTf e.symm)).trans ((hY.block fb hlt).trans hF)
  have own2 : (W.setCell ⟨T, 0, none⟩ V).ownsRow x5.heap.size 41 2 (.slice (some ⟨g, 0, none⟩) (s.os.length + 1) cap) (s.os.length + 1) (cellsB l ++ [.string ⟨y.toArray⟩, .slice (some ⟨fb, 0, none⟩) 1 1]) := by
    refine ownsRow_setCell_other own ?_ V
    intro e
    have := (own_blk own e).1
    have : x5.heap.size ≤ T := this
    omega
  have hll : l.length = s.os.length := by rw [← hlm, List.length_map]
  have ob := obs_own (l := l ++ [(oneO y, .slice (some ⟨fb, 0, none⟩) 1 1)]) (v := .slice (some ⟨g, 0, none⟩) (s.os.length + 1) cap) (w := W.setCell ⟨T, 0, none⟩ V) (Q := x5.heap.size) (E := 41) (by
      rw [List.length_append, cellsB_app, hll]
      exact own2) (by rw [List.length_append, hll]; simp; omega) (by
      intro p hp
      rcases List.mem_append.1 hp with hp | hp
      · exact (hlf p hp).on bT
      · rw [List.mem_singleton] at hp
        subst hp
        exact flds_one hF2)
  rw [List.map_append, hlm] at ob
  exact ⟨⟨ob, hes.on bT⟩, bT⟩
section
variable {w : World} {ov ev : Value} {s : Sch}
set_option maxRecDepth 100000 in
set_option maxHeartbeats 8000000 in
theorem more_any (h : SchAt w ov ev s) (gl : Gl w) (y : Bs) : Calls Tryz.prog 6 #[.agg #[ov, ev], .string ⟨y.toArray⟩] w fun e w' => e = .returned (.bool true) ∧ Below w.heap.size w w' := by
  have hh := h
  have hos := h.os
  have hes := h.es
  obtain ⟨a, c, rfl, _, _⟩ := h.os.slice
  obtain ⟨a', c', rfl, _, _⟩ := h.es.slice
  obtain ⟨w0, hw0⟩ : ∃ w0, w0 = w.alloc (.cells #[.slice a s.os.length c, .slice a' s.es.length c'] 25) := ⟨_, rfl⟩
  have A0 : Below w.heap.size w w0 := by rw [hw0]; exact al1 w _
  have HZ : ∀ {W : World}, Below w0.heap.size w0 W → Below w.heap.size w W := fun b => A0.trans (b.mono A0.size)
  have HS : ∀ {W : World}, Below w0.heap.size w0 W → SchAt W (.slice a s.os.length c) (.slice a' s.es.length c') s := fun b => hh.on (HZ b)
  obtain ⟨r0, r1, _⟩ := row2 (show w0.heap[w.heap.size]? = some (.cells #[.slice a s.os.length c, .slice a' s.es.length c'] 25) by rw [hw0]; exact heap_alloc_new w _)
  have FX0 := fun o => lfixed_any (w.alloc o) (gl.below (al1 w o) (Nat.le_refl _))
  have FX := fun {W : World} (b : Below w0.heap.size w0 W) => lfixed_any W (gl.below (HZ b) (Nat.le_refl _))
  have CK := fun {W : World} (b : Below w0.heap.size w0 W) => hcheck_any (HS b) (gl.below (HZ b) (Nat.le_refl _))
  have HW : Hid (w0 = w.alloc (.cells #[.slice a s.os.length c, .slice a' s.es.length c'] 25)) := hw0
  clear hw0
  by_cases hc0 : chkS s = 0
  · have ok := chk_ok.1 hc0
    rw [hc0] at CK
    have ways := more_ways ok y
    have hn8 := (man_iff.1 ok.m).1
    clear ok hc0
    obtain ⟨b, o, c0, l, hv, hbl, _, hlm, hlf, hlc⟩ := obs_pairs hos (by omega)
    cases hv
    have HWY : Hid ((8 ≤ s.os.length ∧ chkS (moreS s y) = 90) ∨ (s.os.length < 8 ∧ chkS ⟨[oneO y], []⟩ = 91 ∧ chkS (moreS s y) = 91) ∨ (s.os.length < 8 ∧ chkS ⟨[oneO y], []⟩ = 0 ∧ chkS (moreS s y) = 92 ∧ 0 ≤ objS s y) ∨
    (s.os.length < 8 ∧ chkS ⟨[oneO y], []⟩ = 0 ∧ chkS (moreS s y) = 92 ∧ objS s y < 0 ∧ 0 ≤ enuS s y) ∨ (s.os.length < 8 ∧ chkS ⟨[oneO y], []⟩ = 0 ∧ chkS (moreS s y) = 0 ∧ objS s y < 0 ∧ enuS s y < 0)) := ways
    clear ways
    have hll : Hid (l.length = s.os.length) := by show _ = _; rw [← hlm, List.length_map]
    have CA := fun {X : World} (d : Below w0.heap.size w0 X) (o1 : Obj) => hcheck_any (sch_one (W := ((X.alloc oneF).alloc o1).alloc (.cells #[.string ⟨y.toArray⟩, .slice (some ⟨X.heap.size, 0, none⟩) 1 1] 41)) (new31 X oneF o1 _) (new33 X oneF o1 _)) (gl.below ((HZ d).trans ((al3 X _ _ _).mono (HZ d).size)) (Nat.le_refl _))
    go_enter Tryz.func6, Tryz.ntmps6
    go_wp2_with (first
      | (go_at_call 10; (with_reducible refine (CA D2 _).mono ?_); rintro e x4 ⟨rfl, b4⟩; have D4 := D2.trans (((al3 x2 _ _ _).trans (b4.mono (al3 x2 _ _ _).size)).mono D2.size); have p4 := cell_on D4 r0; have q4 := cell_on D4 r1; have hF4 := (b4.block _ (by rw [World.size_alloc, World.size_alloc, World.size_alloc]; omega)).trans (new31 x2 oneF _ _); have hO4 := (b4.block _ (by rw [World.size_alloc, World.size_alloc, World.size_alloc]; omega)).trans (new32 x2 oneF (.cells #[.string ⟨y.toArray⟩, .slice (some ⟨x2.heap.size, 0, none⟩) 1 1] 41) _); have hz4 := b4.size; clear b4)
      | (go_at_call 10; (with_reducible refine (CK D1).mono ?_); rintro e x2 ⟨rfl, b2⟩; have D2 := D1.trans (b2.mono D1.size); have p2 := cell_on D2 r0; have q2 := cell_on D2 r1; clear b2)
      | (go_at_call 9; (with_reducible refine (FX0 _).mono ?_); rintro e x1 ⟨rfl, b1⟩; have D1 : Below w0.heap.size w0 x1 := (by rw [HW.out]; exact b1); have p1 := cell_on D1 r0; have q1 := cell_on D1 r1; clear b1)
      | fail)
    rw [World.size_alloc, World.size_alloc, World.size_alloc] at hz4
    have hz2 := (HZ D2).size
    obtain ⟨x5, hx5⟩ : ∃ x5, x5 = x4.alloc (.cells #[.slice (some ⟨b, o, none⟩) s.os.length c, .slice a' s.es.length c'] 25) := ⟨_, rfl⟩
    have A5 : Below x4.heap.size x4 x5 := by rw [hx5]; exact al1 x4 _
    have D5 : Below w0.heap.size w0 x5 := D4.trans (A5.mono D4.size)
    have z5 : x4.heap.size < x5.heap.size := by rw [hx5, World.size_alloc]; omega
    have hF5 := (A5.block _ (lt_of_block hF4)).trans hF4
    obtain ⟨o0, o1, _⟩ := row2 ((A5.block _ (lt_of_block hO4)).trans hO4)
    have HT5 : Hid (x5.heap[x4.heap.size]? = some (.cells #[.slice (some ⟨b, o, none⟩) s.os.length c, .slice a' s.es.length c'] 25)) := by show x5.heap[x4.heap.size]? = _; rw [hx5]; exact heap_alloc_new x4 _
    obtain ⟨t0, t1, t2⟩ := row2 HT5.out
    rw [← hx5]
    have S6 : ∀ {W : World}, Below x5.heap.size x5 W → (fun w' => w'.cell? ⟨w.heap.size, 0, none⟩ = some (.slice (some ⟨b, o, none⟩) s.os.length c) ∧ w'.cell? ⟨x2.heap.size + 1, 0, none⟩ = some (.string ⟨y.toArray⟩) ∧ w'.cell? ⟨x2.heap.size + 1, 1, none⟩ = some (.slice (some ⟨x2.heap.size, 0, none⟩) 1 1)) W := fun bb => ⟨cell_on bb (cell_on D5 r0), cell_on bb o0, cell_on bb o1⟩
    have DE : ∀ {W : World}, Below x5.heap.size x5 W → Below x5.heap.size x5 W.drew := fun b => ⟨b.os, b.tape, b.output, b.size, b.block⟩
    have R5 : Below x5.heap.size x5 x5 := Below.refl _ _
    obtain ⟨ti, hti, hy0, hy1, hy2⟩ := info_parts Tryz.infoOb
    have newsAt : ∀ {W : World}, Below x5.heap.size x5 W → ∀ j u, (cellsB l)[j]? = some u → W.cell? ((⟨b, o, none⟩ : Addr).add j) = some u := fun {W} bb j u hj => by
      have e : (⟨b, o, none⟩ : Addr).add j = ⟨b, o + j, none⟩ := by
        unfold Addr.add
        split <;> simp_all
      rw [e]
      exact cell_on ((HZ D5).trans (bb.mono (HZ D5).size)) (hlc j u hj)
    clear hx5
    have AL : ∀ {W : World} {o : Obj}, Below x5.heap.size x5 W → Below x5.heap.size x5 (W.alloc o) := fun b => b.alloc b.size _
    have S6S : ∀ {W : World} {v : Value}, Below x5.heap.size x5 W → (fun w' => w'.cell? ⟨w.heap.size, 0, none⟩ = some (.slice (some ⟨b, o, none⟩) s.os.length c) ∧ w'.cell? ⟨x2.heap.size + 1, 0, none⟩ = some (.string ⟨y.toArray⟩) ∧ w'.cell? ⟨x2.heap.size + 1, 1, none⟩ = some (.slice (some ⟨x2.heap.size, 0, none⟩) 1 1)) (W.setCell ⟨x4.heap.size, 0, none⟩ v) := fun {W v} bb => by
      obtain ⟨e0, e1, e2⟩ := S6 bb
      have f : ∀ (k j : Nat) (u : Value), x4.heap.size ≠ k → W.cell? ⟨k, j, none⟩ = some u → (W.setCell ⟨x4.heap.size, 0, none⟩ v).cell? ⟨k, j, none⟩ = some u := fun k j u hk hu => (World.cell?_setCell_far W ⟨x4.heap.size, 0, none⟩ ⟨k, j, none⟩ v hk).trans hu
      exact ⟨f _ _ _ (by omega) e0, f _ _ _ (by omega) e1, f _ _ _ (by omega) e2⟩
    have hcl : (cellsB l).length = s.os.length * 2 := by rw [cellsB_len, hll.out]
    have h1c : ∀ u ∈ cellsB l, u.oneCell' = true := by
      intro u hu
      rcases cellsB_mem hu with ⟨b, rfl⟩ | ⟨p, hp, rfl⟩
      · rfl
      · obtain ⟨_, _, e, _⟩ := hlf p hp
        rw [e]
        rfl
    have FZ : ∀ {W : World}, Below x5.heap.size x5 W → W.frozen? ⟨x4.heap.size, 0, none⟩ = false := fun bb => (World.frozen?_of_block (bb.block _ (by show x4.heap.size < _; omega))).trans (t2 0)
    have CT : ∀ {W : World}, Below x5.heap.size x5 W → W.cell? ⟨x4.heap.size, 0, none⟩ = some (.slice (some ⟨b, o, none⟩) s.os.length c) := fun bb => cell_on bb t0
    go_region_held3 (fun w' => w'.cell? ⟨w.heap.size, 0, none⟩ = some (.slice (some ⟨b, o, none⟩) s.os.length c) ∧ w'.cell? ⟨x2.heap.size + 1, 0, none⟩ = some (.string ⟨y.toArray⟩) ∧ w'.cell? ⟨x2.heap.size + 1, 1, none⟩ = some (.slice (some ⟨x2.heap.size, 0, none⟩) 1 1)) (first | exact S6S Y2 | exact S6 Y2 | exact S6 (AL Y1) | exact S6 Y1 | exact S6 (DE (AL (AL R5))) | exact S6 (DE (AL R5)) | exact S6 (DE R5)) ((first
      | (refine step_append_lies _ (by rfl) (.tmp 30) (.tmp 32) 22 (by rfl) x5.heap.size 41 ti _ 2 40 Tryz.underlying22 hti hy0 hy1 hy2 rfl (by decide) (.slice (some ⟨g1, 0, none⟩) s.os.length cp1) s.os.length (cellsB l) (by rfl) O1.out ⟨x5.heap.size + 1, 0, none⟩ 1 1 [.string ⟨y.toArray⟩, .slice (some ⟨x2.heap.size, 0, none⟩) 1 1] (by rfl) rfl (World.news_of_block hOB) (by intro u hu; simp at hu; rcases hu with rfl | rfl <;> rfl) (by decide) (by unfold maxLen; omega) (by omega) Y1.size _ rfl ?_; intro g2 cp2 w2 own2 gr2 hor2 hlt2; have Y2 := below_grew Y1 gr2 Y1.size (fun k e => (own_blk O1.out e).1); have O2 : Hid (w2.ownsRow x5.heap.size 41 2 (.slice (some ⟨g2, 0, none⟩) (s.os.length + 1) cp2) (s.os.length + 1) (cellsB l ++ [.string ⟨y.toArray⟩, .slice (some ⟨x2.heap.size, 0, none⟩) 1 1])) := own2; clear own2 gr2 hor2 hlt2)
      | (refine step_append_lies _ (by rfl) (.tmp 30) (.tmp 32) 22 (by rfl) x5.heap.size 41 ti _ 2 40 Tryz.underlying22 hti hy0 hy1 hy2 rfl (by decide) (.slice (some ⟨g1, 0, none⟩) s.os.length cp1) s.os.length (cellsB l) (by rfl) O1.out ⟨x5.heap.size, 0, none⟩ 1 1 [.string ⟨y.toArray⟩, .slice (some ⟨x2.heap.size, 0, none⟩) 1 1] (by rfl) rfl (World.news_of_block hOC) (by intro u hu; simp at hu; rcases hu with rfl | rfl <;> rfl) (by decide) (by unfold maxLen; omega) (by omega) Y1.size _ rfl ?_; intro g2 cp2 w2 own2 gr2 hor2 hlt2; have Y2 := below_grew Y1 gr2 Y1.size (fun k e => (own_blk O1.out e).1); have O2 : Hid (w2.ownsRow x5.heap.size 41 2 (.slice (some ⟨g2, 0, none⟩) (s.os.length + 1) cp2) (s.os.length + 1) (cellsB l ++ [.string ⟨y.toArray⟩, .slice (some ⟨x2.heap.size, 0, none⟩) 1 1])) := own2; clear own2 gr2 hor2 hlt2)
      | (refine step_append_lies _ (by rfl) (.tmp 30) (.tmp 32) 22 (by rfl) x5.heap.size 41 ti _ 2 40 Tryz.underlying22 hti hy0 hy1 hy2 rfl (by decide) (.slice (some ⟨g1, 0, none⟩) s.os.length cp1) s.os.length (cellsB l) (by rfl) (O1.out.alloc _) ⟨w1.heap.size, 0, none⟩ 1 1 [.string ⟨y.toArray⟩, .slice (some ⟨x2.heap.size, 0, none⟩) 1 1] (by rfl) rfl (World.news_of_block (heap_alloc_new w1 (.cells #[.string ⟨y.toArray⟩, .slice (some ⟨x2.heap.size, 0, none⟩) 1 1] 41))) (by intro u hu; simp at hu; rcases hu with rfl | rfl <;> rfl) (by decide) (by unfold maxLen; omega) (by omega) (Nat.le_trans Y1.size (al1 w1 _).size) _ rfl ?_; intro g2 cp2 w2 own2 gr2 hor2 hlt2; have Y2 := below_grew (AL Y1) gr2 (Nat.le_trans Y1.size (al1 w1 _).size) (fun k e => (own_blk O1.out e).1); have O2 : Hid (w2.ownsRow x5.heap.size 41 2 (.slice (some ⟨g2, 0, none⟩) (s.os.length + 1) cp2) (s.os.length + 1) (cellsB l ++ [.string ⟨y.toArray⟩, .slice (some ⟨x2.heap.size, 0, none⟩) 1 1])) := own2; clear own2 gr2 hor2 hlt2)
      | (refine step_append_lies _ (by rfl) (.tmp 27) (.tmp 29) 22 (by rfl) x5.heap.size 41 ti _ 2 40 Tryz.underlying22 hti hy0 hy1 hy2 rfl (by decide) (.slice (some ⟨x5.heap.size, 0, none⟩) 0 0) 0 [] (by rfl) (own_none (by omega) (heap_alloc_new x5 (.cells #[] 41))) ⟨b, o, none⟩ s.os.length c (cellsB l) (by rfl) hcl (newsAt (DE (AL R5))) h1c (by omega) (by unfold maxLen; omega) (by omega) (AL R5).size _ rfl ?_; simp only [Nat.zero_add, List.nil_append]; intro g1 cp1 w1 own1 gr1 hor1 hlt1; have Y1 := below_grew (DE (AL R5)) gr1 (AL R5).size (fun k e => by have e' : x5.heap.size = k := Option.some.inj e; omega); have O1 : Hid (w1.ownsRow x5.heap.size 41 2 (.slice (some ⟨g1, 0, none⟩) s.os.length cp1) s.os.length (cellsB l)) := own1; clear own1 gr1 hor1 hlt1)
      | (refine step_append_lies _ (by rfl) (.tmp 27) (.tmp 29) 22 (by rfl) x5.heap.size 41 ti _ 2 40 Tryz.underlying22 hti hy0 hy1 hy2 rfl (by decide) (.slice (some ⟨x5.heap.size, 0, none⟩) 0 0) 0 [] (by rfl) (own_none (by omega) (new1 x5 (.cells #[] 41) (.cells #[.string ⟨y.toArray⟩, .slice (some ⟨x2.heap.size, 0, none⟩) 1 1] 41))) ⟨b, o, none⟩ s.os.length c (cellsB l) (by rfl) hcl (newsAt (DE (AL (AL R5)))) h1c (by omega) (by unfold maxLen; omega) (by omega) (AL (AL R5)).size _ rfl ?_; simp only [Nat.zero_add, List.nil_append]; intro g1 cp1 w1 own1 gr1 hor1 hlt1; have Y1 := below_grew (DE (AL (AL R5))) gr1 (AL (AL R5)).size (fun k e => by have e' : x5.heap.size = k := Option.some.inj e; omega); have O1 : Hid (w1.ownsRow x5.heap.size 41 2 (.slice (some ⟨g1, 0, none⟩) s.os.length cp1) s.os.length (cellsB l)) := own1; have hOB : w1.heap[x5.heap.size + 1]? = some (.cells #[.string ⟨y.toArray⟩, .slice (some ⟨x2.heap.size, 0, none⟩) 1 1] 41) := (gr1.block _ (by show _ < (World.alloc (World.alloc _ _) _).heap.size; rw [World.size_alloc, World.size_alloc]; omega) (fun e => by have e2 : x5.heap.size + 1 = x5.heap.size := Option.some.inj e; omega)).trans (new2 x5 (.cells #[] 41) (.cells #[.string ⟨y.toArray⟩, .slice (some ⟨x2.heap.size, 0, none⟩) 1 1] 41)); clear own1 gr1 hor1 hlt1)
      | (refine step_append_lies _ (by rfl) (.tmp 27) (.tmp 29) 22 (by rfl) x5.heap.size 41 ti _ 2 40 Tryz.underlying22 hti hy0 hy1 hy2 rfl (by decide) (.slice (some ⟨x5.heap.size + 1, 0, none⟩) 0 0) 0 [] (by rfl) (own_none (by omega) (new2 x5 (.cells #[.string ⟨y.toArray⟩, .slice (some ⟨x2.heap.size, 0, none⟩) 1 1] 41) (.cells #[] 41))) ⟨b, o, none⟩ s.os.length c (cellsB l) (by rfl) hcl (newsAt (DE (AL (AL R5)))) h1c (by omega) (by unfold maxLen; omega) (by omega) (AL (AL R5)).size _ rfl ?_; simp only [Nat.zero_add, List.nil_append]; intro g1 cp1 w1 own1 gr1 hor1 hlt1; have Y1 := below_grew (DE (AL (AL R5))) gr1 (AL (AL R5)).size (fun k e => by have e' : x5.heap.size + 1 = k := Option.some.inj e; omega); have O1 : Hid (w1.ownsRow x5.heap.size 41 2 (.slice (some ⟨g1, 0, none⟩) s.os.length cp1) s.os.length (cellsB l)) := own1; have hOC : w1.heap[x5.heap.size]? = some (.cells #[.string ⟨y.toArray⟩, .slice (some ⟨x2.heap.size, 0, none⟩) 1 1] 41) := (gr1.block _ (by show _ < (World.alloc (World.alloc _ _) _).heap.size; rw [World.size_alloc, World.size_alloc]; omega) (fun e => by have e2 : x5.heap.size = x5.heap.size + 1 := Option.some.inj e; omega)).trans (new1 x5 (.cells #[.string ⟨y.toArray⟩, .slice (some ⟨x2.heap.size, 0, none⟩) 1 1] 41) (.cells #[] 41)); clear own1 gr1 hor1 hlt1)
      | fail))
    all_goals
      obtain ⟨SM, BM⟩ := sch_more (V := .slice (some ⟨g2, 0, none⟩) (s.os.length + 1) cp2) hlm hlf hes (HZ D5) hF5 z5 (by omega) (by omega) Y2 hn8.2 O2.out
      obtain ⟨v0, v1, _⟩ := row2 (show (w2.setCell ⟨x4.heap.size, 0, none⟩ (.slice (some ⟨g2, 0, none⟩) (s.os.length + 1) cp2)).heap[x4.heap.size]? = some (.cells #[.slice (some ⟨g2, 0, none⟩) (s.os.length + 1) cp2, .slice a' s.es.length c'] 25) by rw [heap_setCell_same _ _ 0 _ _ _ ((Y2.block _ z5).trans HT5.out)]; rfl)
      have z0 := (S6S (v := .slice (some ⟨g2, 0, none⟩) (s.os.length + 1) cp2) Y2).1
      have z1 := (World.cell?_setCell_far w2 ⟨x4.heap.size, 0, none⟩ ⟨w.heap.size, 1, none⟩ (.slice (some ⟨g2, 0, none⟩) (s.os.length + 1) cp2) (by show x4.heap.size ≠ w.heap.size; omega)).trans (cell_on Y2 (cell_on D5 r1))
      have CM := hcheck_any SM (gl.below BM (Nat.le_refl _))
      have OB := fun {W : World} (b : Below w.heap.size w W) => hobject_any (hh.on b) y
      have EN := fun {W : World} (b : Below w.heap.size w W) => henum_any (hh.on b) y
      have ways := HWY.out
      clear S6 S6S newsAt DE AL FZ CT hcl h1c CK CA FX FX0
      generalize (w2.setCell ⟨x4.heap.size, 0, none⟩ (.slice (some ⟨g2, 0, none⟩) (s.os.length + 1) cp2)) = WW at *
      generalize chkS (moreS s y) = ce at *
      generalize chkS ⟨[oneO y], []⟩ = ca at *
      generalize objS s y = ko at *
      generalize enuS s y = ke at *
      rcases ways with ⟨h8, rfl⟩ | ⟨h8, rfl, rfl⟩ | ⟨h8, rfl, rfl, h9⟩ | ⟨h8, rfl, rfl, h9, h10⟩ | ⟨h8, rfl, rfl, h9, h10⟩
      · have l8 : (8 : Int) ≤ (s.os.length : Int) := by omega
        clear HWY
        go_wp2_with (first
          | (go_at_call 10; (with_reducible refine CM.mono ?_); rintro e x7 ⟨rfl, b7⟩; have D7 := BM.trans (b7.mono BM.size); have z70 := cell_on b7 z0; have z71 := cell_on b7 z1; clear b7)
          | fail)
        go_ret
        exact ⟨rfl, D7⟩
      · have l8 : decide ((8 : Int) ≤ (s.os.length : Int)) = false := by simp; omega
        have l8b : decide (8 ≤ s.os.length) = false := by simp; omega
        clear HWY
        go_wp2_with (first
          | (go_at_call 10; (with_reducible refine CM.mono ?_); rintro e x7 ⟨rfl, b7⟩; have D7 := BM.trans (b7.mono BM.size); have z70 := cell_on b7 z0; have z71 := cell_on b7 z1; clear b7)
          | fail)
        go_ret
        exact ⟨rfl, D7⟩
      · have l8 : decide ((8 : Int) ≤ (s.os.length : Int)) = false := by simp; omega
        have l8b : decide (8 ≤ s.os.length) = false := by simp; omega
        clear HWY
        go_wp2_with (first
          | (go_at_call 12; (with_reducible refine (OB D7).mono ?_); rintro e x8 ⟨rfl, b8⟩; have D8 := D7.trans (b8.mono D7.size); clear b8)
          | (go_at_call 10; (with_reducible refine CM.mono ?_); rintro e x7 ⟨rfl, b7⟩; have D7 := BM.trans (b7.mono BM.size); have z70 := cell_on b7 z0; have z71 := cell_on b7 z1; clear b7)
          | fail)
        go_ret
        exact ⟨rfl, D8⟩
      · have l8 : decide ((8 : Int) ≤ (s.os.length : Int)) = false := by simp; omega
        have l8b : decide (8 ≤ s.os.length) = false := by simp; omega
        have l9 : decide (0 ≤ ko) = false := by simp; omega
        clear HWY
        go_wp2_with (first
          | (go_at_call 14; (with_reducible refine (EN D8).mono ?_); rintro e x9 ⟨rfl, b9⟩; have D9 := D8.trans (b9.mono D8.size); clear b9)
          | (go_at_call 12; (with_reducible refine (OB D7).mono ?_); rintro e x8 ⟨rfl, b8⟩; have D8 := D7.trans (b8.mono D7.size); have z80 := cell_on b8 z70; have z81 := cell_on b8 z71; clear b8)
          | (go_at_call 10; (with_reducible refine CM.mono ?_); rintro e x7 ⟨rfl, b7⟩; have D7 := BM.trans (b7.mono BM.size); have z70 := cell_on b7 z0; have z71 := cell_on b7 z1; clear b7)
          | fail)
        go_ret
        exact ⟨rfl, D9⟩
      · have l8 : decide ((8 : Int) ≤ (s.os.length : Int)) = false := by simp; omega
        have l8b : decide (8 ≤ s.os.length) = false := by simp; omega
        have l9 : decide (0 ≤ ko) = false := by simp; omega
        have l10 : decide (0 ≤ ke) = false := by simp; omega
        clear HWY
        go_wp2_with (first
          | (go_at_call 14; (with_reducible refine (EN D8).mono ?_); rintro e x9 ⟨rfl, b9⟩; have D9 := D8.trans (b9.mono D8.size); clear b9)
          | (go_at_call 12; (with_reducible refine (OB D7).mono ?_); rintro e x8 ⟨rfl, b8⟩; have D8 := D7.trans (b8.mono D7.size); have z80 := cell_on b8 z70; have z81 := cell_on b8 z71; clear b8)
          | (go_at_call 10; (with_reducible refine CM.mono ?_); rintro e x7 ⟨rfl, b7⟩; have D7 := BM.trans (b7.mono BM.size); have z70 := cell_on b7 z0; have z71 := cell_on b7 z1; clear b7)
          | fail)
        go_ret
        exact ⟨rfl, D9⟩
  · have hc1 : (chkS s == 0) = false := by simpa using hc0
    generalize chkS s = ck at *
    clear hc0
    go_enter Tryz.func6, Tryz.ntmps6
    go_wp2_with (first
      | (go_at_call 9; (with_reducible refine (FX D2).mono ?_); rintro e x3 ⟨rfl, b3⟩; have D3 := D2.trans (b3.mono D2.size); clear b3)
      | (go_at_call 10; (with_reducible refine (CK D1).mono ?_); rintro e x2 ⟨rfl, b2⟩; have D2 := D1.trans (b2.mono D1.size); clear b2)
      | (go_at_call 9; (with_reducible refine (FX0 _).mono ?_); rintro e x1 ⟨rfl, b1⟩; have D1 : Below w0.heap.size w0 x1 := (by rw [HW.out]; exact b1); have p1 := cell_on D1 r0; have q1 := cell_on D1 r1; clear b1)
      | fail)
    go_ret
    exact ⟨rfl, HZ D3⟩
end
end Go.Proofs.YtfkgmgnoijokdaaGreatDoor
namespace Go.Proofs.YtfkgmgnoijokdaaGreatDoor
open Go Go.RowKit Go.ChangeShapes Go.WideShapes Go.Deep
/-- Nothing within it is beyond the form's reach. -/
def Wt {H : Type} (t : TypeId) (d : DataW H) : Prop := ∀ n ∈ d.weights Tryz.prog t, n ≤ reachBytes
theorem mem_weightsAll {H : Type} {e : TypeId} {d : DataW H} {n : Nat} (hn : n ∈ d.weights Tryz.prog e) : ∀ {l : List (DataW H)}, d ∈ l → n ∈ DataW.weightsAll Tryz.prog e l
  | x :: r, h => by
    simp only [DataW.weightsAll, List.mem_append]
    rcases List.mem_cons.1 h with rfl | h
    · exact Or.inl hn
    · exact Or.inr (mem_weightsAll hn h)
theorem Wt.elem {H : Type} {t e : TypeId} {el sp : List (DataW H)} (ht : Tryz.prog.underlying t = some (.slice e)) (h : Wt t (.slice el sp)) {d : DataW H} (hd : d ∈ el) : Wt e d := by
  intro n hn
  refine h n ?_
  simp only [DataW.weights, ht, List.mem_cons, List.mem_append]
  exact Or.inr (Or.inl (mem_weightsAll hn hd))
theorem Wt.len {H : Type} {t e : TypeId} {el sp : List (DataW H)} (ht : Tryz.prog.underlying t = some (.slice e)) (h : Wt t (.slice el sp)) (hb : 1 ≤ Tryz.prog.bytesOf e) : el.length ≤ 140737488355328 := by
  have h1 := h ((el.length + sp.length) * Tryz.prog.bytesOf e) (by simp only [DataW.weights, ht, List.mem_cons, true_or])
  have h2 := reachBytes_lt
  have h3 : el.length + sp.length ≤ (el.length + sp.length) * Tryz.prog.bytesOf e := Nat.le_mul_of_pos_right _ hb
  omega
theorem Wt.part {H : Type} {t : TypeId} {fs : Array Field} {parts : List (DataW H)} (ht : Tryz.prog.underlying t = some (.struct fs)) (h : Wt t (.agg parts)) {j : Nat} {u : TypeId} {d : DataW H} (hu : (fs.toList.map (·.type))[j]? = some u) (hd : parts[j]? = some d) : Wt u d := by
  intro n hn
  refine h n ?_
  simp only [DataW.weights, ht]
  exact DataW.weights_mem_each hu hd n hn
section
variable {H : Type} {enc : TypeId × Value → H} {w : World} {base : Nat} {spare : Nat → Bool} {held : Bool}
theorem open_sl {α : Type} {sz : Nat} {t e : TypeId} {p : α → Nat → Nat → Prop} (ht : Tryz.prog.underlying t = some (.slice e)) (hsz : Tryz.prog.cellsOf e = sz) (hs1 : 0 < sz) (hb : 1 ≤ Tryz.prog.bytesOf e) {fuel : Nat} {cs : List Value} {x : DataW H × List MemPlace} (h : DataW.trod enc Tryz.prog w base spare held fuel t cs = some x) (hw : Wt t x.1)
    (each : ∀ (fuel : Nat) (cs : List Value) (y : DataW H × List MemPlace) (b o : Nat), DataW.trod enc Tryz.prog w base spare held fuel e cs = some y → Wt e y.1 → cs.length = sz → (∀ j u, cs[j]? = some u → w.cell? ⟨b, o + j, none⟩ = some u) → ∃ a : α, p a b o) :
    ∃ (v : Value) (l : List α), cs = [v] ∧ Sl w v l.length sz (fun i b o => ∀ a, l[i]? = some a → p a b o) := by
  rcases open_slice ht h with ⟨hcs, _⟩ | ⟨ad, len, cap, m, n, D, Pl, hcs, _, hl, hm, hmm, rfl, hx⟩
  · exact ⟨_, [], hcs, _, 0, rfl, Nat.le_refl _, by simp, fun h => absurd h (by simp)⟩
  · have hlm : len ≤ m := by rw [hmm]; split <;> omega
    rw [hsz] at hx
    have hlen47 : len ≤ 140737488355328 := by
      have := hw.len ht hb
      simpa using this
    by_cases h0 : len = 0
    · subst h0
      exact ⟨_, [], hcs, some ad, cap, rfl, by simp, by simp, fun h => absurd h (by simp)⟩
    · obtain ⟨b, o, sp⟩ := ad
      have cell : ∀ i, i < len → ∃ cs', DataW.trod enc Tryz.prog w base spare held n e cs' = some (D i, Pl i) ∧ cs'.length = sz ∧ ∀ j, j < sz → w.cell? ((⟨b, o, sp⟩ : Addr).add (i * sz + j)) = cs'[j]? := by
        intro i hi
        obtain ⟨cs', h1, h2⟩ := hx i (by omega)
        obtain ⟨_, hlen, hcell⟩ := World.cells?_some h1
        refine ⟨cs', h2, hlen, fun j hj => ?_⟩
        have := hcell j hj
        rw [add_add] at this
        exact this
      obtain ⟨cs0, _, hl0, hc0⟩ := cell 0 (by omega)
      obtain ⟨u0, hu0⟩ : ∃ u, cs0[0]? = some u := ⟨_, List.getElem?_eq_getElem (by omega)⟩
      have hc00 := (hc0 0 hs1).trans hu0
      have hsp : sp = none := by simpa [Addr.add] using World.cell?_spot hc00
      subst hsp
      have hbl : b < w.heap.size := by
        have := World.block_lt_of_cell? w _ hc00
        simpa [Addr.add] using this
      have each' : ∀ i, i < len → ∃ a : α, p a b (o + i * sz) := by
        intro i hi
        obtain ⟨cs', h1, h2, h3⟩ := cell i hi
        refine each n cs' _ b (o + i * sz) h1 (hw.elem ht (List.mem_map.2 ⟨i, List.mem_range.2 hi, rfl⟩)) h2 fun j u hj => ?_
        have hjs : j < sz := by
          have := (List.getElem?_eq_some_iff.1 hj).1
          omega
        have h4 := (h3 j hjs).trans hj
        have e4 : (⟨b, o, none⟩ : Addr).add (i * sz + j) = ⟨b, o + i * sz + j, none⟩ := by simp [Addr.add, Nat.add_assoc]
        rw [e4] at h4
        exact h4
      obtain ⟨a0, _⟩ := each' 0 (by omega)
      haveI : Inhabited α := ⟨a0⟩
      obtain ⟨f, hf⟩ := choose_lt each'
      refine ⟨_, (List.range len).map f, hcs, some ⟨b, o, none⟩, cap, by simp, by simpa using hl, by simpa using hlen47, fun _ => ⟨b, o, rfl, hbl, fun i hi a ha => ?_⟩⟩
      have hi : i < len := by simpa using hi
      have hpf : a = f i := by
        simp [hi] at ha
        exact ha.symm
      subst hpf
      exact hf i hi
theorem Tryz.cStr : Tryz.prog.cellsOf 9 = 1 := by kernel_rfl
theorem Tryz.cFld : Tryz.prog.cellsOf 33 = 5 := by kernel_rfl
theorem Tryz.cRef : Tryz.prog.cellsOf 31 = 2 := by kernel_rfl
theorem Tryz.cBool : Tryz.prog.cellsOf 4 = 1 := by kernel_rfl
theorem Tryz.cOb : Tryz.prog.cellsOf 41 = 2 := by kernel_rfl
theorem Tryz.cEn : Tryz.prog.cellsOf 45 = 2 := by kernel_rfl
theorem Tryz.cSch : Tryz.prog.cellsOf 25 = 2 := by kernel_rfl
theorem Tryz.cFs : Tryz.prog.cellsOf 39 = 1 := by kernel_rfl
theorem Tryz.cWs : Tryz.prog.cellsOf 43 = 1 := by kernel_rfl
theorem Tryz.cOs : Tryz.prog.cellsOf 22 = 1 := by kernel_rfl
theorem Tryz.cEs : Tryz.prog.cellsOf 23 = 1 := by kernel_rfl
theorem open_str {fuel : Nat} {cs : List Value} {x : DataW H × List MemPlace} (h : DataW.trod enc Tryz.prog w base spare held fuel 9 cs = some x) : ∃ b : Bs, cs = [.string ⟨b.toArray⟩] := by
  obtain ⟨t, e, _, _⟩ := DataW.trod_string Tryz.underlying9 h
  exact ⟨t.data.toList, by rw [e]⟩
set_option maxRecDepth 100000 in
theorem open_fld {fuel : Nat} {cs : List Value} {x : DataW H × List MemPlace} (h : DataW.trod enc Tryz.prog w base spare held fuel 33 cs = some x) :
    ∃ f : Fld, cs = [.string ⟨f.n.toArray⟩, .string ⟨f.t.toArray⟩, .string ⟨f.w.toArray⟩, .bool f.s, .string ⟨f.i.toArray⟩] := by
  obtain ⟨xs, n, _, _, hl, hxl, hf⟩ := DataW.trod_struct Tryz.underlying33 h
  rw [Tryz.cFld] at hl
  match xs, hxl, cs, hl with
  | [y0, y1, y2, y3], _, [v0, v1, v2, v3, v4], _ =>
    have g0 := hf 0 _ rfl
    have g1 := hf 1 _ rfl
    have g2 := hf 2 _ rfl
    have g3 := hf 3 _ rfl
    simp [Tryz.cStr, Tryz.cRef, Tryz.cBool] at g0 g1 g2 g3
    obtain ⟨a0, e0⟩ := open_str g0
    obtain ⟨ys, m, _, _, _, hyl, hg⟩ := DataW.trod_struct Tryz.underlying31 g1
    match ys, hyl with
    | [z0, z1], _ =>
      have q0 := hg 0 _ rfl
      have q1 := hg 1 _ rfl
      simp [Tryz.cStr] at q0 q1
      obtain ⟨a1, e1⟩ := open_str q0
      obtain ⟨a2, e2⟩ := open_str q1
      obtain ⟨a3, e3, _, _⟩ := DataW.trod_bool Tryz.underlying4 g2
      obtain ⟨a4, e4⟩ := open_str g3
      simp at e0 e1 e2 e3 e4
      exact ⟨⟨a0, a1, a2, a3, a4⟩, by rw [e0, e1, e2, e3, e4]⟩
theorem open_wds {fuel : Nat} {cs : List Value} {x : DataW H × List MemPlace} (h : DataW.trod enc Tryz.prog w base spare held fuel 43 cs = some x) (hw : Wt 43 x.1) : ∃ (v : Value) (ws : List Bs), cs = [v] ∧ WdsAt w v ws :=
  open_sl Tryz.underlying43 Tryz.cStr (by decide) (of_decide_eq_true (by kernel_rfl)) h hw fun fuel cs y b o hy _ _ hc => by
    obtain ⟨a, rfl⟩ := open_str hy
    exact ⟨a, hc 0 _ rfl⟩
theorem open_flds {fuel : Nat} {cs : List Value} {x : DataW H × List MemPlace} (h : DataW.trod enc Tryz.prog w base spare held fuel 39 cs = some x) (hw : Wt 39 x.1) : ∃ (v : Value) (fs : List Fld), cs = [v] ∧ FldsAt w v fs :=
  open_sl Tryz.underlying39 Tryz.cFld (by decide) (of_decide_eq_true (by kernel_rfl)) h hw fun fuel cs y b o hy _ _ hc => by
    obtain ⟨f, rfl⟩ := open_fld hy
    exact ⟨f, hc 0 _ rfl, hc 1 _ rfl, hc 2 _ rfl, hc 3 _ rfl, hc 4 _ rfl⟩
set_option maxRecDepth 100000 in
theorem open_ob {fuel : Nat} {cs : List Value} {x : DataW H × List MemPlace} (h : DataW.trod enc Tryz.prog w base spare held fuel 41 cs = some x) (hw : Wt 41 x.1) :
    ∃ (o : Ob) (fv : Value), cs = [.string ⟨o.n.toArray⟩, fv] ∧ FldsAt w fv o.fs := by
  obtain ⟨xs, n, _, rfl, hl, hxl, hf⟩ := DataW.trod_struct Tryz.underlying41 h
  rw [Tryz.cOb] at hl
  match xs, hxl, cs, hl with
  | [y0, y1], _, [v0, v1], _ =>
    have g0 := hf 0 _ rfl
    have g1 := hf 1 _ rfl
    simp [Tryz.cStr, Tryz.cFs] at g0 g1
    obtain ⟨a0, e0⟩ := open_str g0
    obtain ⟨fv, fs, e1, hfs⟩ := open_flds g1 (hw.part Tryz.underlying41 (j := 1) rfl rfl)
    simp at e0 e1
    exact ⟨⟨a0, fs⟩, fv, by rw [e0, e1], hfs⟩
set_option maxRecDepth 100000 in
theorem open_en {fuel : Nat} {cs : List Value} {x : DataW H × List MemPlace} (h : DataW.trod enc Tryz.prog w base spare held fuel 45 cs = some x) (hw : Wt 45 x.1) :
    ∃ (o : En) (fv : Value), cs = [.string ⟨o.n.toArray⟩, fv] ∧ WdsAt w fv o.ws := by
  obtain ⟨xs, n, _, rfl, hl, hxl, hf⟩ := DataW.trod_struct Tryz.underlying45 h
  rw [Tryz.cEn] at hl
  match xs, hxl, cs, hl with
  | [y0, y1], _, [v0, v1], _ =>
    have g0 := hf 0 _ rfl
    have g1 := hf 1 _ rfl
    simp [Tryz.cStr, Tryz.cWs] at g0 g1
    obtain ⟨a0, e0⟩ := open_str g0
    obtain ⟨fv, fs, e1, hfs⟩ := open_wds g1 (hw.part Tryz.underlying45 (j := 1) rfl rfl)
    simp at e0 e1
    exact ⟨⟨a0, fs⟩, fv, by rw [e0, e1], hfs⟩
theorem open_obs {fuel : Nat} {cs : List Value} {x : DataW H × List MemPlace} (h : DataW.trod enc Tryz.prog w base spare held fuel 22 cs = some x) (hw : Wt 22 x.1) : ∃ (v : Value) (fs : List Ob), cs = [v] ∧ ObsAt w v fs :=
  open_sl Tryz.underlying22 Tryz.cOb (by decide) (of_decide_eq_true (by kernel_rfl)) h hw fun fuel cs y b o hy hwy _ hc => by
    obtain ⟨f, fv, rfl, hfs⟩ := open_ob hy hwy
    exact ⟨f, hc 0 _ rfl, fv, hc 1 _ rfl, hfs⟩
theorem open_ens {fuel : Nat} {cs : List Value} {x : DataW H × List MemPlace} (h : DataW.trod enc Tryz.prog w base spare held fuel 23 cs = some x) (hw : Wt 23 x.1) : ∃ (v : Value) (fs : List En), cs = [v] ∧ EnsAt w v fs :=
  open_sl Tryz.underlying23 Tryz.cEn (by decide) (of_decide_eq_true (by kernel_rfl)) h hw fun fuel cs y b o hy hwy _ hc => by
    obtain ⟨f, fv, rfl, hfs⟩ := open_en hy hwy
    exact ⟨f, hc 0 _ rfl, fv, hc 1 _ rfl, hfs⟩
set_option maxRecDepth 100000 in
theorem open_sch {fuel : Nat} {cs : List Value} {x : DataW H × List MemPlace} (h : DataW.trod enc Tryz.prog w base spare held fuel 25 cs = some x) (hw : Wt 25 x.1) :
    ∃ (s : Sch) (ov ev : Value), cs = [ov, ev] ∧ SchAt w ov ev s := by
  obtain ⟨xs, n, _, rfl, hl, hxl, hf⟩ := DataW.trod_struct Tryz.underlying25 h
  rw [Tryz.cSch] at hl
  match xs, hxl, cs, hl with
  | [y0, y1], _, [v0, v1], _ =>
    have g0 := hf 0 _ rfl
    have g1 := hf 1 _ rfl
    simp [Tryz.cOs, Tryz.cEs] at g0 g1
    obtain ⟨ov, os, e0, h0⟩ := open_obs g0 (hw.part Tryz.underlying25 (j := 0) rfl rfl)
    obtain ⟨ev, es, e1, h1⟩ := open_ens g1 (hw.part Tryz.underlying25 (j := 1) rfl rfl)
    simp at e0 e1
    exact ⟨⟨os, es⟩, ov, ev, by rw [e0, e1], h0, h1⟩
end
end Go.Proofs.YtfkgmgnoijokdaaGreatDoor
namespace Go.Proofs.YtfkgmgnoijokdaaGreatDoor
open Go Go.RowKit Go.Lib

def listed : List (String × DataW Unit) := Rows.schemaChecksRow.laid
theorem at_var {w : World} {n : String} {d : DataW Unit} {g t : Nat} (h : VarReads Tryz.prog w n d) (hg : Tryz.prog.globalNamed n = some g) (ht : (Tryz.prog.globals[g]?).map (·.type) = some t) :
    ∃ (cs : Array Value) (fuel : Nat) (p : List MemPlace), w.var? Tryz.prog n = some cs ∧ DataW.trod (fun _ => ()) Tryz.prog w 0 (fun _ => true) false fuel t cs.toList = some (d, p) ∧ ∀ i, w.cell? ⟨g, i, none⟩ = cs.toList[i]? := by
  obtain ⟨g', t', cs, fuel, p, hg', ht', hv, hd⟩ := h
  obtain rfl := Option.some.inj (hg.symm.trans hg')
  obtain rfl := Option.some.inj (ht.symm.trans ht')
  exact ⟨cs, fuel, p, hv, hd, fun i => by rw [World.var?_cell hg hv i, Array.getElem?_toList]⟩
theorem es_laid {w : World} (h : VarReads Tryz.prog w "strconv.ErrSyntax" Rows.laid_strconv_ErrSyntax) : ∃ te pe, w.cell? ⟨3, 0, none⟩ = some (.iface te pe) := by
  obtain ⟨cs, fuel, p, _, hd, hc⟩ := at_var h (g := 3) (t := 140) (by kernel_rfl) (by kernel_rfl)
  cases fuel with
  | zero => simp [DataW.trod] at hd
  | succ n =>
    have hu := Tryz.underlying140
    simp only [DataW.trod, hu, Rows.laid_strconv_ErrSyntax] at hd
    rw [hc]
    split at hd
    all_goals simp_all
theorem max_of {W : World} (h : W.ShapedOpen Tryz.prog) : ∃ m, W.cell? ⟨gM, 0, none⟩ = some (.int .i64 m) :=
  cell_of_shapedOpen_int h (g := 0) (t := 3) (zero := #[.int .i64 0]) (of_decide_eq_true (by kernel_rfl)) (by kernel_rfl) rfl (by kernel_rfl) (by kernel_rfl) Tryz.underlying3
theorem gl_laid {W : World} (hL : laidMet Tryz.prog listed W) (hs : W.ShapedOpen Tryz.prog) : Gl W := by
  obtain ⟨te, pe, he⟩ := es_laid (laidMet.reads hL (.tail _ (.tail _ (.tail _ (.tail _ (.tail _ (.head _)))))))
  exact ⟨max_of hs, ⟨_, he, Or.inr ⟨te, pe, rfl⟩⟩⟩
end Go.Proofs.YtfkgmgnoijokdaaGreatDoor
namespace Go.Proofs.YtfkgmgnoijokdaaGreatDoor
open Go.ChangeShapes Go.WideShapes Go.ChangeAt Go.RowKit
open Go.ChangeMaps (open_string shut_string)

theorem Tryz.own : ownKnob Tryz.prog.godebug = none := by kernel_rfl
theorem Tryz.laidOut : laidOutB Tryz.prog = true := by kernel_rfl

/-- The road from the contract to the row where the contract is handed both what is listed and the world's shape. -/
theorem lifted_by {H : Type} {enc : TypeId × Value → H} {C : Checked} {os : Os} {f : FuncId} {fn : Func} {s : ChangeSpec} {conds : List PathCond} {apart fresh handsOn again : Bool} {X : World → Array Value → Prop}
    (hX : ∀ (w w' : World) (args : Array Value), w.heap = w'.heap → X w args → X w' args)
    (own : ownKnob C.prog.godebug = none) (started : os.Started) (noInit : C.prog.inits.idxOf? f = none) (hfn : C.prog.funcs[f]? = some fn)
    (witness : ∃ (w : World) (tape : Tape) (i : Input), w.os = os ∧ (w.forCall tape i).Shaped C.prog ∧ i.vars = [] ∧ Input.okWide C.prog (w.forCall tape i) .any w.heap.size f i ∧
      ((s.pre enc C.prog fn conds apart (w.forCall tape i).memory i.args ∧ X (w.forCall tape i).memory i.args) ∧ sizedMet enc C.prog fn (OpenSpec.ofChange s) apart (w.forCall tape i).memory i.args) ∧ ({} : Assume).holds C.prog (lone (Frame.enter C.prog f i.args .normal) [] (w.forCall tape i)))
    (contract : ∀ (W : World) (base : Nat) (args : Array Value) (ds gs : List (DataW H)) (before : List MemPlace),
      (∀ (j : Nat) t v, fn.params[j]? = some t → args[j]? = some v → Value.okWide C.prog W .any base t v) →
      DataW.Whole enc C.prog fn.params.toList s.vars apart W args.toList ds gs before →
      (DataW.weightsEach C.prog (fn.params.toList ++ s.plain.varTypes C.prog) (ds ++ gs)).all (· ≤ reachBytes) = true → W.ShapedOpen C.prog → X W args →
      Calls C.prog f args W fun e W' => ∃ v, e = .returned v ∧ s.post enc C.prog fn apart fresh handsOn again W args v W') :
    ReturnsInHanded {} C os f .any (fun w args => (s.pre enc C.prog fn conds apart w args ∧ X w args) ∧ sizedMet enc C.prog fn (OpenSpec.ofChange s) apart w args) (s.post enc C.prog fn apart fresh handsOn again) := by
  refine returnsInHanded_of_calls own started noInit witness ?_
  intro w tape i _ hsh _ hok hpre _
  obtain ⟨_, _, _, fn', hfn', _, _, _, _, hval⟩ := hok
  obtain rfl : fn' = fn := Option.some.inj (hfn'.symm.trans hfn)
  obtain ⟨⟨⟨ds, gs, before, hw, _⟩, hx⟩, hz⟩ := hpre
  refine (contract (w.forCall tape i) w.heap.size i.args ds gs before hval (DataW.Whole.of_heap (w' := w.forCall tape i) (by rfl) hw) (hz.weights hw) hsh (hX _ _ _ (by rfl) hx)).mono fun e W' ⟨v, he, hp⟩ => ?_
  subst he
  exact ChangeSpec.post_blind hp

set_option maxRecDepth 100000 in
theorem schemaMore_lifted (os : Os) (started : os.Started) (H : Type) (enc : TypeId × Value → H) :
    ReturnsInHanded {} Tryz.checked os 6 .any (fun w args => (Rows.schemaMoreSpec.pre enc Tryz.prog Tryz.f6 Rows.schemaMoreRow.domain false w args ∧ laidMetH Tryz.prog listed w) ∧ sizedMet enc Tryz.prog Tryz.f6 (OpenSpec.ofChange Rows.schemaMoreSpec) false w args)
      (Rows.schemaMoreSpec.post enc Tryz.prog Tryz.f6 false true false false) := by
  refine lifted_by (C := Tryz.checked) (X := fun w _ => laidMetH Tryz.prog listed w) (fun _ _ _ hh h => h.of_heap hh) Tryz.own started (by kernel_rfl) Tryz.func6
    (ChangeSpec.witness_shaped (enc := enc) (C := Tryz.checked) (os := os) (X := fun w _ => laidMetH Tryz.prog listed w) false (World.laidAll Tryz.prog os listed) #[.agg #[.slice none 0 0, .slice none 0 0], .string ByteArray.empty] 8 (World.laidAll_os _ _ _)
      (World.shaped_of_ZipB (by kernel_rfl) (by kernel_rfl)) (by kernel_rfl) (by kernel_rfl) (by kernel_rfl)
      (by rw [MakeChecks.laidMetH_plain _ _ _ (by kernel_rfl)]; exact laidMet_laidAll _ (by kernel_rfl) (by kernel_rfl))) ?_
  intro W base args ds gs before hval0 hW hsz hsh hL
  have hval : ∀ (j : Nat) t v, Tryz.f6.params[j]? = some t → args[j]? = some v → Value.okWide Tryz.prog W .any base t v := hval0
  have hW' := hW
  obtain ⟨p, q, hA0, hV, rfl, hfz, hnd⟩ := hW
  have hA : DataW.TrodAll enc Tryz.prog W 0 (fun _ => true) true Tryz.f6.params.toList args.toList ds p := hA0
  rw [Tryz.params6] at hA hval
  obtain ⟨v0, vs0, d0, ds0, p0, q0, hargs, rfl, rfl, h0, r0⟩ := trodAll_cons hA
  obtain ⟨v1, vs1, d1, ds1, p1, q1, rfl, rfl, rfl, h1, r1⟩ := trodAll_cons r0
  obtain ⟨rfl, rfl, rfl⟩ := trodAll_nil r1
  obtain rfl : args = #[v0, v1] := by cases args; simp_all
  obtain ⟨rfl, rfl⟩ := trodVars_none hV
  obtain ⟨c0, rfl, _⟩ := okWide_struct Tryz.underlying25 (hval 0 25 v0 rfl rfl)
  have k0 := h0
  have lt0 : ∀ x ∈ p0, x.block < W.heap.size := by obtain ⟨m, hm⟩ := k0; exact DataW.trod_lt m _ _ _ hm
  have wt0 : Wt 25 d0 := fun n hn => by
    have := List.all_eq_true.1 hsz n (DataW.weights_mem_each (j := 0) rfl rfl n hn)
    simpa using this
  obtain ⟨s0, ov0, ev0, hc0, hS0⟩ : ∃ (s : Sch) (ov ev : Value), (Value.agg c0).cells.toList = [ov, ev] ∧ SchAt W ov ev s := by
    obtain ⟨fuel, hf⟩ := h0
    exact open_sch hf wt0
  obtain rfl : c0 = #[ov0, ev0] := Array.toList_inj.1 hc0
  obtain ⟨a1, rfl, rfl, rfl, w1⟩ := open_string Tryz.underlying9 (hval 1 9 v1 rfl rfl) h1
  have hL2 : laidMetH Tryz.prog listed W := hL
  rw [MakeChecks.laidMetH_plain _ _ _ (by kernel_rfl)] at hL2
  have gl := gl_laid hL2 hsh
  clear hA0 hval0 hL hL2 hsz
  have wk := more_any hS0 gl a1.data.toList
  refine wk.mono fun e W' ⟨he, bel⟩ => ?_
  subst he
  exact ⟨_, rfl, _, _, _, [], _, [], hW', trodAll_mk1 (shut_bool Tryz.underlying4 _), (trodAll_cons_mk (Below.trod Tryz.laidOut (by kernel_rfl) (of_decide_eq_true (by kernel_rfl)) k0 bel lt0) (trodAll_cons_mk (shut_string Tryz.underlying9 w1) trodAll_mk0)), rfl, bel.frame _, fun h => by cases h⟩

theorem schemaMore_row : Rows.SchemaMoreSaid :=
  OpenClaim.holds_of_wide 6 Tryz.f6 rfl rfl rfl rfl rfl rfl rfl ⟨rfl, rfl, rfl, rfl, rfl⟩ rfl rfl rfl rfl rfl (by kernel_rfl) Tryz.func6 (by kernel_rfl)
    (of_decide_eq_true (by kernel_rfl)) (by unfold Func.isWrapper; first | (rw [if_pos (by decide +kernel)]; kernel_rfl) | (rw [if_neg (by decide +kernel)]; exact ⟨rfl, rfl⟩))
    (fun os started H enc _ => schemaMore_lifted os started H enc)

theorem schemaMore_holds : Rows.SchemaMoreCardSaid :=
  Claim7.holds_tied_plain_at .later [] _ _ _ _ schemaMore_row (fun _ h => by cases h) (by kernel_rfl) (fun _ h => by cases h) schemaMore_row_tie rfl ⟨rfl, rfl⟩ (by kernel_rfl) rfl
    (fun f fn hf hfn => by
      obtain rfl : f = 6 := Option.some.inj ((show Tryz.prog.funcNamed "rhizome/rhizomelaw09.SchemaMore" = some 6 by kernel_rfl).symm.trans hf) |>.symm
      obtain rfl : fn = Tryz.f6 := (Option.some.inj (Tryz.func6.symm.trans hfn)).symm
      exact ⟨by kernel_rfl, fun j t ht => by
        rw [Tryz.params6] at ht
        have hm : t ∈ [25, 9] := by simpa using Array.mem_of_getElem? ht
        have hall : ([25, 9].all fun u => !Tryz.prog.wantsStandIn u) = true := by kernel_rfl
        exact (show Tryz.prog.wantsStandIn t = false by simpa using List.all_eq_true.1 hall t hm)⟩)
    (by kernel_rfl)
#print axioms schemaMore_holds
end Go.Proofs.YtfkgmgnoijokdaaGreatDoor
