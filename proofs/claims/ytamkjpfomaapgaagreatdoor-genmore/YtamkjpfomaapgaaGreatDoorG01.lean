/- What the API's theorem asks of a definition: of all. -/
import Derived.Test.YtamkjpfomaapgaaGreatDoorC02
namespace Go.Proofs.YtamkjpfomaapgaaGreatDoor
open Go Go.RowKit Go.Shelf
/-- The API's definitions as plain data. -/
structure Inn where
  n : Bs
  t : Bs
  w : Bs
structure Ot where
  n : Bs
  t : Bs
  w : Bs
  ar : List Inn
structure Df where
  n : Bs
  k : Int
  ws : List Bs
  is : List Inn
  os : List Ot
abbrev cID : Bs := [73, 68]
abbrev cFilter : Bs := [70, 105, 108, 116, 101, 114]
abbrev cOrder : Bs := [79, 114, 100, 101, 114]
abbrev cOrderable : Bs := [79, 114, 100, 101, 114, 97, 98, 108, 101]
abbrev cAdd : Bs := [65, 100, 100]
abbrev cPatch : Bs := [80, 97, 116, 99, 104]
abbrev cQuery : Bs := [81, 117, 101, 114, 121]
abbrev cMutation : Bs := [77, 117, 116, 97, 116, 105, 111, 110]
/-- Names of types that a schema may have: none of the API's own, none that the API makes of another's. -/
structure Fre (x : Bs) : Prop where
  sca : scaS x = false
  id : x ≠ cID
  qu : x ≠ cQuery
  mu : x ≠ cMutation
  add : ¬ cAdd <+: x
  pat : ¬ cPatch <+: x
  fil : ¬ cFilter <:+ x
  ord : ¬ cOrder <:+ x
  oab : ¬ cOrderable <:+ x
theorem frt_fre {x : Bs} (h : frtS x = true) : Fre x := by
  unfold frtS at h
  simp only [Bool.and_eq_true, Bool.not_eq_true', Bool.or_eq_false_iff, List.all_cons, List.all_nil, beq_eq_false_iff_ne, Lib.hasPrefix, Lib.hasSuffix] at h
  obtain ⟨⟨⟨⟨h1, h2⟩, h3⟩, h4⟩, ⟨⟨⟨_, h5⟩, h6, h7, _⟩, h8, h9, h10, _⟩⟩ := h
  have pf : ∀ {p : Bs}, p.isPrefixOf x = false → ¬ p <+: x := fun q e => by
    rw [← List.isPrefixOf_iff_prefix, q] at e
    cases e
  have sf : ∀ {p : Bs}, p.isSuffixOf x = false → ¬ p <:+ x := fun q e => by
    rw [← List.isSuffixOf_iff_suffix, q] at e
    cases e
  exact ⟨h5, h4, h1, h2, pf h6, pf h7, sf h8, sf h9, sf h10⟩
/-- Two ends of unlike kinds are never the same text. -/
theorem suf_ne {x y p q : Bs} (h : p.reverse.zip q.reverse |>.any (fun c => c.1 != c.2)) : x ++ p ≠ y ++ q := by
  intro e
  have e2 := congrArg List.reverse e
  rw [List.reverse_append, List.reverse_append] at e2
  revert h e2
  generalize p.reverse = a
  generalize q.reverse = b
  generalize x.reverse = u
  generalize y.reverse = v
  intro h e2
  induction a generalizing b with
  | nil => simp at h
  | cons c a ih =>
    cases b with
    | nil => simp at h
    | cons d b =>
      rw [List.cons_append, List.cons_append, List.cons.injEq] at e2
      simp only [List.zip_cons_cons, List.any_cons, Bool.or_eq_true] at h
      rcases h with h | h
      · rw [e2.1] at h
        simp at h
      · exact ih b h e2.2
/-- What begins with p and is x with q behind it, where no beginning of p has q's first sign behind it: x begins with p. -/
theorem pre_of {p x q r : Bs} (h : p ++ r = x ++ q) (hq : ∀ k, k < p.length → ¬ (q <+: p.drop k ∨ p.drop k <+: q)) : p <+: x := by
  rcases Nat.lt_or_ge x.length p.length with hl | hl
  · exfalso
    have e1 : p.take x.length = x := by
      have := congrArg (List.take x.length) h
      rw [List.take_append_of_le_length (by omega), List.take_append_of_le_length (Nat.le_refl _), List.take_length] at this
      exact this
    have e2 : p.drop x.length ++ r = q := by
      have := congrArg (List.drop x.length) h
      rw [List.drop_append_of_le_length (by omega), List.drop_append_of_le_length (Nat.le_refl _), List.drop_length, List.nil_append] at this
      exact this
    exact hq x.length hl (Or.inr ⟨r, e2⟩)
  · refine ⟨x.drop p.length, ?_⟩
    have e1 : x.take p.length = p := by
      have := congrArg (List.take p.length) h
      rw [List.take_append_of_le_length (Nat.le_refl _), List.take_length, List.take_append_of_le_length hl] at this
      exact this.symm
    have := List.take_append_drop p.length x
    rw [e1] at this
    exact this
/-- How the API's names are made. -/
inductive Tg where
  | pl (x : Bs)
  | oab (x : Bs)
  | ord (x : Bs)
  | fil (x : Bs)
  | add (x : Bs)
  | pat (x : Bs)
def Tg.b : Tg → Bs
  | .pl x => x
  | .oab x => x
  | .ord x => x
  | .fil x => x
  | .add x => x
  | .pat x => x
def Tg.tx : Tg → Bs
  | .pl x => x
  | .oab x => x ++ cOrderable
  | .ord x => x ++ cOrder
  | .fil x => x ++ cFilter
  | .add x => cAdd ++ x
  | .pat x => cPatch ++ x
/-- No name of the API's making. -/
structure Pln (x : Bs) : Prop where
  add : ¬ cAdd <+: x
  pat : ¬ cPatch <+: x
  fil : ¬ cFilter <:+ x
  ord : ¬ cOrder <:+ x
  oab : ¬ cOrderable <:+ x
theorem Fre.pln {x : Bs} (h : Fre x) : Pln x := ⟨h.add, h.pat, h.fil, h.ord, h.oab⟩
theorem add_end {x y q : Bs} (hy : Pln y) (hq : q = cOrderable ∨ q = cOrder ∨ q = cFilter) : cAdd ++ x ≠ y ++ q := by
  intro e
  refine hy.add (pre_of e ?_)
  intro k hk
  have : k = 0 ∨ k = 1 ∨ k = 2 := by
    have : k < 3 := hk
    omega
  rcases hq with rfl | rfl | rfl <;> rcases this with rfl | rfl | rfl <;> simp [← List.isPrefixOf_iff_prefix, List.isPrefixOf]
theorem pat_end {x y q : Bs} (hy : Pln y) (hq : q = cOrderable ∨ q = cOrder ∨ q = cFilter) : cPatch ++ x ≠ y ++ q := by
  intro e
  refine hy.pat (pre_of e ?_)
  intro k hk
  have : k = 0 ∨ k = 1 ∨ k = 2 ∨ k = 3 ∨ k = 4 := by
    have : k < 5 := hk
    omega
  rcases hq with rfl | rfl | rfl <;> rcases this with rfl | rfl | rfl | rfl | rfl <;> simp [← List.isPrefixOf_iff_prefix, List.isPrefixOf]
theorem tx_inj {a b : Tg} (ha : Pln a.b) (hb : Pln b.b) (h : a.tx = b.tx) : a = b := by
  have key : ∀ {x y : Bs}, x ++ cOrderable ≠ y ++ cOrder := suf_ne (by decide)
  have key2 : ∀ {x y : Bs}, x ++ cOrderable ≠ y ++ cFilter := suf_ne (by decide)
  have key3 : ∀ {x y : Bs}, x ++ cOrder ≠ y ++ cFilter := suf_ne (by decide)
  have key4 : ∀ {x y : Bs}, cAdd ++ x ≠ cPatch ++ y := fun e => by simp [cAdd, cPatch] at e
  cases a with
  | pl x =>
    cases b with
    | pl y =>
      simp only [Tg.tx, Tg.b] at h ha hb
      rw [h]
    | oab y =>
      simp only [Tg.tx, Tg.b] at h ha hb
      exact (ha.oab ⟨_, h.symm⟩).elim
    | ord y =>
      simp only [Tg.tx, Tg.b] at h ha hb
      exact (ha.ord ⟨_, h.symm⟩).elim
    | fil y =>
      simp only [Tg.tx, Tg.b] at h ha hb
      exact (ha.fil ⟨_, h.symm⟩).elim
    | add y =>
      simp only [Tg.tx, Tg.b] at h ha hb
      exact (ha.add ⟨_, h.symm⟩).elim
    | pat y =>
      simp only [Tg.tx, Tg.b] at h ha hb
      exact (ha.pat ⟨_, h.symm⟩).elim
  | oab x =>
    cases b with
    | pl y =>
      simp only [Tg.tx, Tg.b] at h ha hb
      exact (hb.oab ⟨_, h⟩).elim
    | oab y =>
      simp only [Tg.tx, Tg.b] at h ha hb
      exact congrArg _ (List.append_cancel_right h)
    | ord y =>
      simp only [Tg.tx, Tg.b] at h ha hb
      exact (key h).elim
    | fil y =>
      simp only [Tg.tx, Tg.b] at h ha hb
      exact (key2 h).elim
    | add y =>
      simp only [Tg.tx, Tg.b] at h ha hb
      exact (add_end ha (by simp) h.symm).elim
    | pat y =>
      simp only [Tg.tx, Tg.b] at h ha hb
      exact (pat_end ha (by simp) h.symm).elim
  | ord x =>
    cases b with
    | pl y =>
      simp only [Tg.tx, Tg.b] at h ha hb
      exact (hb.ord ⟨_, h⟩).elim
    | oab y =>
      simp only [Tg.tx, Tg.b] at h ha hb
      exact (key h.symm).elim
    | ord y =>
      simp only [Tg.tx, Tg.b] at h ha hb
      exact congrArg _ (List.append_cancel_right h)
    | fil y =>
      simp only [Tg.tx, Tg.b] at h ha hb
      exact (key3 h).elim
    | add y =>
      simp only [Tg.tx, Tg.b] at h ha hb
      exact (add_end ha (by simp) h.symm).elim
    | pat y =>
      simp only [Tg.tx, Tg.b] at h ha hb
      exact (pat_end ha (by simp) h.symm).elim
  | fil x =>
    cases b with
    | pl y =>
      simp only [Tg.tx, Tg.b] at h ha hb
      exact (hb.fil ⟨_, h⟩).elim
    | oab y =>
      simp only [Tg.tx, Tg.b] at h ha hb
      exact (key2 h.symm).elim
    | ord y =>
      simp only [Tg.tx, Tg.b] at h ha hb
      exact (key3 h.symm).elim
    | fil y =>
      simp only [Tg.tx, Tg.b] at h ha hb
      exact congrArg _ (List.append_cancel_right h)
    | add y =>
      simp only [Tg.tx, Tg.b] at h ha hb
      exact (add_end ha (by simp) h.symm).elim
    | pat y =>
      simp only [Tg.tx, Tg.b] at h ha hb
      exact (pat_end ha (by simp) h.symm).elim
  | add x =>
    cases b with
    | pl y =>
      simp only [Tg.tx, Tg.b] at h ha hb
      exact (hb.add ⟨_, h⟩).elim
    | oab y =>
      simp only [Tg.tx, Tg.b] at h ha hb
      exact (add_end hb (by simp) h).elim
    | ord y =>
      simp only [Tg.tx, Tg.b] at h ha hb
      exact (add_end hb (by simp) h).elim
    | fil y =>
      simp only [Tg.tx, Tg.b] at h ha hb
      exact (add_end hb (by simp) h).elim
    | add y =>
      simp only [Tg.tx, Tg.b] at h ha hb
      exact congrArg _ (List.append_cancel_left h)
    | pat y =>
      simp only [Tg.tx, Tg.b] at h ha hb
      exact (key4 h).elim
  | pat x =>
    cases b with
    | pl y =>
      simp only [Tg.tx, Tg.b] at h ha hb
      exact (hb.pat ⟨_, h⟩).elim
    | oab y =>
      simp only [Tg.tx, Tg.b] at h ha hb
      exact (pat_end hb (by simp) h).elim
    | ord y =>
      simp only [Tg.tx, Tg.b] at h ha hb
      exact (pat_end hb (by simp) h).elim
    | fil y =>
      simp only [Tg.tx, Tg.b] at h ha hb
      exact (pat_end hb (by simp) h).elim
    | add y =>
      simp only [Tg.tx, Tg.b] at h ha hb
      exact (key4 h.symm).elim
    | pat y =>
      simp only [Tg.tx, Tg.b] at h ha hb
      exact congrArg _ (List.append_cancel_left h)
abbrev sixT (o : Ob) : List Tg := [.pl o.n, .oab o.n, .ord o.n, .fil o.n, .add o.n, .pat o.n]
/-- All names of a schema's API, in their order. -/
def tagsS (s : Sch) : List Tg := [.pl cID, .pl intB, .pl floB, .pl strB, .pl booB] ++ (s.es.map (fun e => Tg.pl e.n) ++ (s.os.flatMap sixT ++ ([.fil intB, .fil floB, .fil strB, .fil booB] ++ (s.es.map (fun e => Tg.fil e.n) ++ [.pl cQuery, .pl cMutation]))))
theorem pln_lit : Pln cID ∧ Pln intB ∧ Pln floB ∧ Pln strB ∧ Pln booB ∧ Pln cQuery ∧ Pln cMutation := by
  refine ⟨?_, ?_, ?_, ?_, ?_, ?_, ?_⟩ <;> refine ⟨?_, ?_, ?_, ?_, ?_⟩ <;> first | (rw [← List.isPrefixOf_iff_prefix]; decide) | (rw [← List.isSuffixOf_iff_suffix]; decide)
theorem tags_mem {s : Sch} {t : Tg} (h : t ∈ tagsS s) : (∃ x, (x = cID ∨ x = intB ∨ x = floB ∨ x = strB ∨ x = booB ∨ x = cQuery ∨ x = cMutation) ∧ t.b = x) ∨ (∃ e ∈ s.es, t.b = e.n) ∨ ∃ o ∈ s.os, t.b = o.n := by
  unfold tagsS at h
  simp only [List.mem_append, List.mem_cons, List.not_mem_nil, or_false, List.mem_map, List.mem_flatMap] at h
  rcases h with (rfl | rfl | rfl | rfl | rfl) | ⟨e, he, rfl⟩ | ⟨o, ho, (rfl | rfl | rfl | rfl | rfl | rfl)⟩ | (rfl | rfl | rfl | rfl) | ⟨e, he, rfl⟩ | (rfl | rfl)
  · refine Or.inl ⟨_, ?_, rfl⟩
    simp [Tg.b]
  · refine Or.inl ⟨_, ?_, rfl⟩
    simp [Tg.b]
  · refine Or.inl ⟨_, ?_, rfl⟩
    simp [Tg.b]
  · refine Or.inl ⟨_, ?_, rfl⟩
    simp [Tg.b]
  · refine Or.inl ⟨_, ?_, rfl⟩
    simp [Tg.b]
  · exact Or.inr (Or.inl ⟨e, he, rfl⟩)
  · exact Or.inr (Or.inr ⟨o, ho, rfl⟩)
  · exact Or.inr (Or.inr ⟨o, ho, rfl⟩)
  · exact Or.inr (Or.inr ⟨o, ho, rfl⟩)
  · exact Or.inr (Or.inr ⟨o, ho, rfl⟩)
  · exact Or.inr (Or.inr ⟨o, ho, rfl⟩)
  · exact Or.inr (Or.inr ⟨o, ho, rfl⟩)
  · refine Or.inl ⟨_, ?_, rfl⟩
    simp [Tg.b]
  · refine Or.inl ⟨_, ?_, rfl⟩
    simp [Tg.b]
  · refine Or.inl ⟨_, ?_, rfl⟩
    simp [Tg.b]
  · refine Or.inl ⟨_, ?_, rfl⟩
    simp [Tg.b]
  · exact Or.inr (Or.inl ⟨e, he, rfl⟩)
  · refine Or.inl ⟨_, ?_, rfl⟩
    simp [Tg.b]
  · refine Or.inl ⟨_, ?_, rfl⟩
    simp [Tg.b]
theorem tags_pln {s : Sch} (h : OkD s) {t : Tg} (ht : t ∈ tagsS s) : Pln t.b := by
  obtain ⟨l1, l2, l3, l4, l5, l6, l7⟩ := pln_lit
  rcases tags_mem ht with ⟨x, hx, e⟩ | ⟨e, he, ee⟩ | ⟨o, ho, eo⟩
  · rw [e]
    rcases hx with rfl | rfl | rfl | rfl | rfl | rfl | rfl <;> assumption
  · rw [ee]
    exact (frt_fre (h.ne e he).1).pln
  · rw [eo]
    exact (frt_fre (h.no o ho).1).pln
theorem sca_ne {x : Bs} (h : scaS x = false) : x ≠ intB ∧ x ≠ floB ∧ x ≠ strB ∧ x ≠ booB := by
  unfold scaS at h
  simp only [Bool.or_eq_false_iff, beq_eq_false_iff_ne] at h
  exact ⟨h.1.1.1, h.1.1.2, h.1.2, h.2⟩
theorem tags_nodup {s : Sch} (h : OkD s) : (tagsS s).Nodup := by
  have fe : ∀ e ∈ s.es, Fre e.n := fun e he => frt_fre (h.ne e he).1
  have fo : ∀ o ∈ s.os, Fre o.n := fun o ho => frt_fre (h.no o ho).1
  have eo : ∀ e ∈ s.es, ∀ o ∈ s.os, e.n ≠ o.n := fun e he o ho q => h.u3 e he (List.mem_map.2 ⟨o, ho, q.symm⟩)
  have u1 : s.os.Pairwise (fun a b => a.n ≠ b.n) := by
    have := h.u1
    rw [List.Nodup, List.pairwise_map] at this
    exact this
  have u2 : s.es.Pairwise (fun a b => a.n ≠ b.n) := by
    have := h.u2
    rw [List.Nodup, List.pairwise_map] at this
    exact this
  unfold tagsS
  rw [List.nodup_append]
  refine ⟨?_, ?_, ?_⟩
  · simp [List.Nodup]
  · rw [List.nodup_append]
    refine ⟨?_, ?_, ?_⟩
    · rw [List.Nodup, List.pairwise_map]
      exact u2.imp fun hne e => by
        injection e with e
        exact hne e
    · rw [List.nodup_append]
      refine ⟨?_, ?_, ?_⟩
      · rw [List.Nodup, List.pairwise_flatMap]
        refine ⟨fun o _ => by simp, u1.imp fun hne x hx y hy e => ?_⟩
        subst e
        simp only [List.mem_cons, List.not_mem_nil, or_false] at hx hy
        apply hne
        rcases hx with rfl | rfl | rfl | rfl | rfl | rfl <;> rcases hy with q | q | q | q | q | q <;> injection q
      · rw [List.nodup_append]
        refine ⟨by simp [List.Nodup], ?_, ?_⟩
        · rw [List.nodup_append]
          refine ⟨?_, by simp [List.Nodup], ?_⟩
          · rw [List.Nodup, List.pairwise_map]
            exact u2.imp fun hne e => by
              injection e with e
              exact hne e
          · intro x hx y hy e
            subst e
            obtain ⟨z, hz, rfl⟩ := List.mem_map.1 hx
            simp at hy
        · intro x hx y hy e
          subst e
          rcases List.mem_append.1 hy with hy | hy
          · obtain ⟨z, hz, rfl⟩ := List.mem_map.1 hy
            have := sca_ne (fe z hz).sca
            simp at hx
            rcases hx with q | q | q | q <;> simp_all
          · simp at hx hy
            rcases hx with rfl | rfl | rfl | rfl <;> simp at hy
      · intro x hx y hy e
        subst e
        obtain ⟨o, ho, hx⟩ := List.mem_flatMap.1 hx
        have f := fo o ho
        have fs := sca_ne f.sca
        have f1 := f.qu
        have f2 := f.mu
        simp only [List.mem_cons, List.not_mem_nil, or_false] at hx
        simp only [List.mem_append, List.mem_cons, List.not_mem_nil, or_false, List.mem_map] at hy
        rcases hy with (rfl | rfl | rfl | rfl) | ⟨z, hz, rfl⟩ | (rfl | rfl)
        · simp at hx; exact fs.1 hx.symm
        · simp at hx; exact fs.2.1 hx.symm
        · simp at hx; exact fs.2.2.1 hx.symm
        · simp at hx; exact fs.2.2.2 hx.symm
        · simp at hx; exact eo z hz o ho hx
        · simp at hx; exact f1 hx.symm
        · simp at hx; exact f2 hx.symm
    · intro x hx y hy e
      subst e
      obtain ⟨z, hz, rfl⟩ := List.mem_map.1 hx
      have f := fe z hz
      simp only [List.mem_append, List.mem_cons, List.not_mem_nil, or_false, List.mem_map, List.mem_flatMap] at hy
      rcases hy with ⟨o, ho, hy⟩ | hy | ⟨z2, _, hy⟩ | hy
      · simp at hy
        exact eo z hz o ho hy
      · simp at hy
      · simp at hy
      · simp at hy
        rcases hy with hy | hy
        · exact f.qu hy
        · exact f.mu hy
  · intro x hx y hy e
    subst e
    simp only [List.mem_append, List.mem_cons, List.not_mem_nil, or_false, List.mem_map, List.mem_flatMap] at hx hy
    rcases hy with ⟨z, hz, rfl⟩ | ⟨o, ho, hy⟩ | hy | ⟨z, hz, rfl⟩ | hy
    · have f := fe z hz
      have fs := sca_ne f.sca
      have f1 := f.id
      simp at hx
      rcases hx with q | q | q | q | q
      · exact f1 q
      · exact fs.1 q
      · exact fs.2.1 q
      · exact fs.2.2.1 q
      · exact fs.2.2.2 q
    · have f := fo o ho
      have fs := sca_ne f.sca
      have f1 := f.id
      rcases hx with rfl | rfl | rfl | rfl | rfl <;> simp at hy
      · exact f1 hy.symm
      · exact fs.1 hy.symm
      · exact fs.2.1 hy.symm
      · exact fs.2.2.1 hy.symm
      · exact fs.2.2.2 hy.symm
    · rcases hx with rfl | rfl | rfl | rfl | rfl <;> simp at hy
    · simp at hx
    · rcases hx with rfl | rfl | rfl | rfl | rfl <;> simp at hy
/-- No two definitions have the same name. -/
theorem names_nodup {s : Sch} (h : OkD s) : ((tagsS s).map Tg.tx).Nodup := by
  rw [List.Nodup, List.pairwise_map]
  have h1 := tags_nodup h
  rw [List.Nodup, List.pairwise_iff_forall_sublist] at h1
  rw [List.pairwise_iff_forall_sublist]
  intro a b hab e
  have ha : a ∈ tagsS s := hab.subset (by simp)
  have hb : b ∈ tagsS s := hab.subset (by simp)
  exact h1 hab (tx_inj (tags_pln h ha) (tags_pln h hb) e)
abbrev wMust : Bs := [33]
abbrev wSome : Bs := [33, 91]
abbrev wAll : Bs := [33, 91, 33]
abbrev nId : Bs := [105, 100]
/-- The arguments of a field that tells many. -/
def argT (t : Bs) : List Inn := [⟨[102, 105, 108, 116, 101, 114], t ++ cFilter, []⟩, ⟨[111, 114, 100, 101, 114], t ++ cOrder, []⟩, ⟨[102, 105, 114, 115, 116], intB, []⟩, ⟨[111, 102, 102, 115, 101, 116], intB, []⟩]
/-- A field as an object tells it. -/
def fldT (f : Fld) : Ot := if f.w = wAll then ⟨f.n, f.t, wAll, argT f.t⟩ else ⟨f.n, f.t, f.w, []⟩
/-- A field as an input takes it. -/
def givT (s : Sch) (f : Fld) (w : Bs) : Inn := if edgS s f < 0 then ⟨f.n, f.t, w⟩ else if f.w = wAll then ⟨f.n, cID, wSome⟩ else ⟨f.n, cID, []⟩
/-- An object's own six definitions. -/
def objT (s : Sch) (o : Ob) : List Df :=
  [⟨o.n, 2, [], [], ⟨nId, cID, wMust, []⟩ :: o.fs.map fldT⟩,
   ⟨o.n ++ cOrderable, 1, nId :: (o.fs.filter (fun f => decide (edgS s f < 0))).map (·.n), [], []⟩,
   ⟨o.n ++ cOrder, 3, [], [⟨[97, 115, 99], o.n ++ cOrderable, []⟩, ⟨[100, 101, 115, 99], o.n ++ cOrderable, []⟩, ⟨[116, 104, 101, 110], o.n ++ cOrder, []⟩], []⟩,
   ⟨o.n ++ cFilter, 3, [], [⟨[97, 110, 100], o.n ++ cFilter, wSome⟩, ⟨[111, 114], o.n ++ cFilter, wSome⟩, ⟨[110, 111, 116], o.n ++ cFilter, []⟩, ⟨nId, cID, wSome⟩] ++ (o.fs.filter (fun f => decide (edgS s f < 0))).map (fun f => ⟨f.n, f.t ++ cFilter, []⟩), []⟩,
   ⟨cAdd ++ o.n, 3, [], o.fs.map (fun f => givT s f f.w), []⟩,
   ⟨cPatch ++ o.n, 3, [], o.fs.map (fun f => givT s f []), []⟩]
def cmpT (x : Bs) : List Inn := [⟨[101, 113], x, []⟩, ⟨[108, 116], x, []⟩, ⟨[108, 101], x, []⟩, ⟨[103, 116], x, []⟩, ⟨[103, 101], x, []⟩, ⟨[105, 110], x, wSome⟩]
def scaT (x : Bs) : Df := ⟨x, 0, [], [], []⟩
def filT (s : Sch) : List Df :=
  [⟨intB ++ cFilter, 3, [], cmpT intB, []⟩, ⟨floB ++ cFilter, 3, [], cmpT floB, []⟩, ⟨strB ++ cFilter, 3, [], cmpT strB ++ [⟨[98, 101, 103, 105, 110, 115], strB, []⟩], []⟩, ⟨booB ++ cFilter, 3, [], [⟨[101, 113], booB, []⟩], []⟩] ++ s.es.map (fun e => ⟨e.n ++ cFilter, 3, [], [⟨[101, 113], e.n, []⟩, ⟨[105, 110], e.n, wSome⟩], []⟩)
def qryT (s : Sch) : Df := ⟨cQuery, 2, [], [], s.os.flatMap fun o => [⟨[103, 101, 116] ++ o.n, o.n, [], [⟨nId, cID, wMust⟩]⟩, ⟨[113, 117, 101, 114, 121] ++ o.n, o.n, wAll, argT o.n⟩]⟩
def mutT (s : Sch) : Df := ⟨cMutation, 2, [], [], s.os.flatMap fun o => [⟨[97, 100, 100] ++ o.n, o.n, wAll, [⟨[105, 110, 112, 117, 116], cAdd ++ o.n, wAll⟩]⟩, ⟨[117, 112, 100, 97, 116, 101] ++ o.n, o.n, wAll, [⟨[102, 105, 108, 116, 101, 114], o.n ++ cFilter, wMust⟩, ⟨[115, 101, 116], cPatch ++ o.n, wMust⟩]⟩, ⟨[100, 101, 108, 101, 116, 101] ++ o.n, intB, wMust, [⟨[102, 105, 108, 116, 101, 114], o.n ++ cFilter, wMust⟩]⟩]⟩
/-- The definitions of a schema's API. -/
def defT (s : Sch) : List Df := [scaT cID, scaT intB, scaT floB, scaT strB, scaT booB] ++ (s.es.map (fun e => ⟨e.n, 1, e.ws, [], []⟩) ++ (s.os.flatMap (objT s) ++ (filT s ++ [qryT s, mutT s])))
theorem def_names (s : Sch) : (defT s).map (·.n) = (tagsS s).map Tg.tx := by
  have ho : (s.os.flatMap (objT s)).map (·.n) = (s.os.flatMap sixT).map Tg.tx := by
    rw [List.map_flatMap, List.map_flatMap]
    rfl
  unfold defT tagsS filT
  simp only [List.map_append, ho, List.map_map]
  rfl
theorem def_unlike {s : Sch} (h : OkD s) : ((defT s).map (·.n)).Nodup := by
  rw [def_names]
  exact names_nodup h
/-- The place of a definition. -/
def fndT (l : List Df) (x : Bs) : Int := plB x (l.map (·.n))
theorem fnd_at {s : Sch} (h : OkD s) {i : Nat} {d : Df} (hd : (defT s)[i]? = some d) : fndT (defT s) d.n = (i : Int) := plB_at (def_unlike h) (by rw [List.getElem?_map, hd]; rfl)
theorem fnd_mem {l : List Df} {x : Bs} : 0 ≤ fndT l x ↔ ∃ d ∈ l, d.n = x := by
  unfold fndT
  rw [plB_nonneg, List.mem_map]
end Go.Proofs.YtamkjpfomaapgaaGreatDoor
namespace Go.Proofs.YtamkjpfomaapgaaGreatDoor
open Go Go.RowKit Go.Shelf
/-- There is a definition of a name and a kind. -/
def Has (s : Sch) (x : Bs) (k : Int) : Prop := ∃ d ∈ defT s, d.n = x ∧ d.k = k
section has
variable {s : Sch}
theorem has_id : Has s cID 0 := ⟨scaT cID, by simp [defT], rfl, rfl⟩
theorem has_sca {x : Bs} (h : scaS x = true) : Has s x 0 := by
  unfold scaS at h
  simp only [Bool.or_eq_true, beq_iff_eq] at h
  rcases h with ((rfl | rfl) | rfl) | rfl
  · exact ⟨scaT intB, by simp [defT], rfl, rfl⟩
  · exact ⟨scaT floB, by simp [defT], rfl, rfl⟩
  · exact ⟨scaT strB, by simp [defT], rfl, rfl⟩
  · exact ⟨scaT booB, by simp [defT], rfl, rfl⟩
theorem has_int : Has s intB 0 := has_sca rfl
theorem has_en {e : En} (h : e ∈ s.es) : Has s e.n 1 := ⟨⟨e.n, 1, e.ws, [], []⟩, by
  unfold defT
  exact List.mem_append_right _ (List.mem_append_left _ (List.mem_map.2 ⟨e, h, rfl⟩)), rfl, rfl⟩
theorem mem_obj {o : Ob} {d : Df} (h : o ∈ s.os) (hd : d ∈ objT s o) : d ∈ defT s := by
  unfold defT
  exact List.mem_append_right _ (List.mem_append_right _ (List.mem_append_left _ (List.mem_flatMap.2 ⟨o, h, hd⟩)))
theorem mem_fil {d : Df} (hd : d ∈ filT s) : d ∈ defT s := by
  unfold defT
  exact List.mem_append_right _ (List.mem_append_right _ (List.mem_append_right _ (List.mem_append_left _ hd)))
theorem has_ob {o : Ob} (h : o ∈ s.os) : Has s o.n 2 := ⟨_, mem_obj h (List.mem_cons_self ..), rfl, rfl⟩
theorem has_oab {o : Ob} (h : o ∈ s.os) : Has s (o.n ++ cOrderable) 1 := ⟨_, mem_obj h (List.mem_cons_of_mem _ (List.mem_cons_self ..)), rfl, rfl⟩
theorem has_ord {o : Ob} (h : o ∈ s.os) : Has s (o.n ++ cOrder) 3 := ⟨_, mem_obj h (List.mem_cons_of_mem _ (List.mem_cons_of_mem _ (List.mem_cons_self ..))), rfl, rfl⟩
theorem has_fil {o : Ob} (h : o ∈ s.os) : Has s (o.n ++ cFilter) 3 := ⟨_, mem_obj h (List.mem_cons_of_mem _ (List.mem_cons_of_mem _ (List.mem_cons_of_mem _ (List.mem_cons_self ..)))), rfl, rfl⟩
theorem has_add {o : Ob} (h : o ∈ s.os) : Has s (cAdd ++ o.n) 3 := ⟨_, mem_obj h (List.mem_cons_of_mem _ (List.mem_cons_of_mem _ (List.mem_cons_of_mem _ (List.mem_cons_of_mem _ (List.mem_cons_self ..))))), rfl, rfl⟩
theorem has_pat {o : Ob} (h : o ∈ s.os) : Has s (cPatch ++ o.n) 3 := ⟨_, mem_obj h (List.mem_cons_of_mem _ (List.mem_cons_of_mem _ (List.mem_cons_of_mem _ (List.mem_cons_of_mem _ (List.mem_cons_of_mem _ (List.mem_cons_self ..)))))), rfl, rfl⟩
theorem has_fsca {x : Bs} (h : scaS x = true) : Has s (x ++ cFilter) 3 := by
  unfold scaS at h
  simp only [Bool.or_eq_true, beq_iff_eq] at h
  rcases h with ((rfl | rfl) | rfl) | rfl
  · exact ⟨_, mem_fil (List.mem_append_left _ (List.mem_cons_self ..)), rfl, rfl⟩
  · exact ⟨_, mem_fil (List.mem_append_left _ (List.mem_cons_of_mem _ (List.mem_cons_self ..))), rfl, rfl⟩
  · exact ⟨_, mem_fil (List.mem_append_left _ (List.mem_cons_of_mem _ (List.mem_cons_of_mem _ (List.mem_cons_self ..)))), rfl, rfl⟩
  · exact ⟨_, mem_fil (List.mem_append_left _ (List.mem_cons_of_mem _ (List.mem_cons_of_mem _ (List.mem_cons_of_mem _ (List.mem_cons_self ..))))), rfl, rfl⟩
theorem has_fen {e : En} (h : e ∈ s.es) : Has s (e.n ++ cFilter) 3 := ⟨_, mem_fil (List.mem_append_right _ (List.mem_map.2 ⟨e, h, rfl⟩)), rfl, rfl⟩
/-- What may go in, under names that are unlike. -/
def GoIn (s : Sch) (l : List Inn) : Prop := (∀ i ∈ l, ∃ k, k ≠ 2 ∧ Has s i.t k) ∧ (l.map (·.n)).Nodup
theorem arg_in {o : Ob} (h : o ∈ s.os) : GoIn s (argT o.n) := by
  refine ⟨fun i hi => ?_, by simp [argT]⟩
  unfold argT at hi
  simp only [List.mem_cons, List.not_mem_nil, or_false] at hi
  rcases hi with rfl | rfl | rfl | rfl
  · exact ⟨3, by decide, has_fil h⟩
  · exact ⟨3, by decide, has_ord h⟩
  · exact ⟨0, by decide, has_int⟩
  · exact ⟨0, by decide, has_int⟩
variable (h : OkD s) {o : Ob} (ho : o ∈ s.os) {f : Fld} (hf : f ∈ o.fs)
include h ho hf
theorem fld_ways : (edgS s f < 0 ∧ (f.w = [] ∨ f.w = [33]) ∧ ((scaS f.t = true) ∨ ∃ e ∈ s.es, e.n = f.t)) ∨ (¬ edgS s f < 0 ∧ (f.w = [] ∨ f.w = wAll) ∧ ∃ p ∈ s.os, p.n = f.t) := by
  rcases wty_iff.1 (h.ty o ho f hf) with ⟨g1, g2⟩ | ⟨g1, g2⟩
  · refine Or.inl ⟨?_, g2, ?_⟩
    · unfold edgS
      rw [if_pos (prp_iff.2 g1)]
      decide
    · rcases g1 with g1 | g1
      · exact Or.inl g1
      · obtain ⟨e, he, ee⟩ := List.mem_map.1 g1
        exact Or.inr ⟨e, he, ee⟩
  · refine Or.inr ⟨?_, g2, ?_⟩
    · have := edg_iff.2 g1
      omega
    · obtain ⟨p, hp, e⟩ := List.mem_map.1 g1.2.2
      exact ⟨p, hp, e⟩
theorem fldT_ok : (∃ k, k ≠ 3 ∧ Has s (fldT f).t k) ∧ GoIn s (fldT f).ar := by
  unfold fldT
  rcases fld_ways h ho hf with ⟨_, hw, ht⟩ | ⟨_, hw, p, hp, e⟩
  · rw [if_neg (by rcases hw with q | q <;> rw [q] <;> decide)]
    refine ⟨?_, by simp [GoIn]⟩
    rcases ht with q | ⟨e, he, ee⟩
    · exact ⟨0, by decide, has_sca q⟩
    · exact ⟨1, by decide, by rw [← ee]; exact has_en he⟩
  · rw [← e]
    split
    · exact ⟨⟨2, by decide, has_ob hp⟩, arg_in hp⟩
    · exact ⟨⟨2, by decide, has_ob hp⟩, by simp [GoIn]⟩
theorem givT_ok (w : Bs) : ∃ k, k ≠ 2 ∧ Has s (givT s f w).t k := by
  unfold givT
  rcases fld_ways h ho hf with ⟨hk, _, ht⟩ | ⟨hk, _, _⟩
  · rw [if_pos hk]
    rcases ht with q | ⟨e, he, ee⟩
    · exact ⟨0, by decide, has_sca q⟩
    · exact ⟨1, by decide, by rw [← ee]; exact has_en he⟩
  · rw [if_neg hk]
    split <;> exact ⟨0, by decide, has_id⟩
theorem fil_ok (hk : edgS s f < 0) : Has s (f.t ++ cFilter) 3 := by
  rcases fld_ways h ho hf with ⟨_, _, ht⟩ | ⟨hk2, _, _⟩
  · rcases ht with q | ⟨e, he, ee⟩
    · exact has_fsca q
    · rw [← ee]
      exact has_fen he
  · exact absurd hk hk2
end has
end Go.Proofs.YtamkjpfomaapgaaGreatDoor
namespace Go.Proofs.YtamkjpfomaapgaaGreatDoor
open Go Go.RowKit Go.Shelf
/-- What the API's theorem asks of a definition. -/
structure ClD (s : Sch) (d : Df) : Prop where
  os : ∀ o ∈ d.os, (∃ k, k ≠ 3 ∧ Has s o.t k) ∧ GoIn s o.ar
  is : GoIn s d.is
  nd : (d.ws ++ (d.os.map (·.n) ++ d.is.map (·.n))).Nodup
  k0 : 0 ≤ d.k ∧ d.k < 4
  kw : d.k = 1 ↔ d.ws ≠ []
  ko : d.k = 2 ↔ d.os ≠ []
  ki : d.k = 3 ↔ d.is ≠ []
theorem frf_four {x : Bs} (h : frfS x = true) : x ≠ nId ∧ x ≠ [97, 110, 100] ∧ x ≠ [111, 114] ∧ x ≠ [110, 111, 116] := by
  unfold frfS at h
  simp only [Bool.and_eq_true, Bool.not_eq_true', Bool.or_eq_false_iff, beq_eq_false_iff_ne] at h
  exact ⟨h.1.1.1.1, h.1.1.1.2, h.1.1.2, h.1.2⟩
theorem scaT_cl (s : Sch) (x : Bs) : ClD s (scaT x) := ⟨by simp [scaT], by simp [scaT, GoIn], by simp [scaT], by simp [scaT], by simp [scaT], by simp [scaT], by simp [scaT]⟩
section cl
variable {s : Sch} (h : OkD s)
include h
theorem obj_cl {o : Ob} (ho : o ∈ s.os) {d : Df} (hd : d ∈ objT s o) : ClD s d := by
  have hn : (o.fs.map (·.n)).Nodup := h.u5 o ho
  have h4 : ∀ f ∈ o.fs, f.n ≠ nId ∧ f.n ≠ [97, 110, 100] ∧ f.n ≠ [111, 114] ∧ f.n ≠ [110, 111, 116] := fun f hf => frf_four ((h.no o ho).2 f hf)
  have hne : o.fs ≠ [] := by
    have := ((man_iff.1 h.m).2.2.1 o ho).1
    intro e
    rw [e] at this
    simp at this
  have hsub : ((o.fs.filter (fun f => decide (edgS s f < 0))).map (·.n)).Nodup := List.Pairwise.sublist (List.Sublist.map _ List.filter_sublist) hn
  have hmem : ∀ x ∈ (o.fs.filter (fun f => decide (edgS s f < 0))).map (·.n), ∃ f ∈ o.fs, f.n = x ∧ edgS s f < 0 := by
    intro x hx
    obtain ⟨f, hf, e⟩ := List.mem_map.1 hx
    obtain ⟨h1, h2⟩ := List.mem_filter.1 hf
    exact ⟨f, h1, e, by simpa using h2⟩
  unfold objT at hd
  simp only [List.mem_cons, List.not_mem_nil, or_false] at hd
  rcases hd with rfl | rfl | rfl | rfl | rfl | rfl
  · refine ⟨?_, by simp [GoIn], ?_, by simp, by simp, by simp, by simp⟩
    · intro x hx
      rcases List.mem_cons.1 hx with rfl | hx
      · exact ⟨⟨0, by decide, has_id⟩, by simp [GoIn]⟩
      · obtain ⟨f, hf, rfl⟩ := List.mem_map.1 hx
        exact fldT_ok h ho hf
    · have e : (o.fs.map fldT).map (·.n) = o.fs.map (·.n) := by
        rw [List.map_map]
        refine List.map_congr_left fun f _ => ?_
        show (fldT f).n = f.n
        unfold fldT
        split <;> rfl
      simp only [List.nil_append, List.map_nil, List.append_nil, List.map_cons, e]
      rw [List.nodup_cons]
      refine ⟨fun hm => ?_, hn⟩
      obtain ⟨f, hf, ef⟩ := List.mem_map.1 hm
      exact (h4 f hf).1 ef
  · refine ⟨by simp, by simp [GoIn], ?_, by simp, by simp, by simp, by simp⟩
    simp only [List.map_nil, List.append_nil]
    rw [List.nodup_cons]
    refine ⟨fun hm => ?_, hsub⟩
    obtain ⟨f, hf, ef, _⟩ := hmem _ hm
    exact (h4 f hf).1 ef
  · refine ⟨by simp, ⟨fun i hi => ?_, by simp⟩, by simp, by simp, by simp, by simp, by simp⟩
    simp only [List.mem_cons, List.not_mem_nil, or_false] at hi
    rcases hi with rfl | rfl | rfl
    · exact ⟨1, by decide, has_oab ho⟩
    · exact ⟨1, by decide, has_oab ho⟩
    · exact ⟨3, by decide, has_ord ho⟩
  · have nd : ((([⟨[97, 110, 100], o.n ++ cFilter, wSome⟩, ⟨[111, 114], o.n ++ cFilter, wSome⟩, ⟨[110, 111, 116], o.n ++ cFilter, []⟩, ⟨nId, cID, wSome⟩] : List Inn) ++ (o.fs.filter (fun f => decide (edgS s f < 0))).map (fun f => (⟨f.n, f.t ++ cFilter, []⟩ : Inn))).map (·.n)).Nodup := by
      rw [List.map_append, List.map_map, List.nodup_append]
      refine ⟨by simp, hsub, ?_⟩
      intro x hx y hy e
      subst e
      obtain ⟨f, hf, ef, _⟩ := hmem x hy
      have q := h4 f hf
      rw [ef] at q
      simp at hx
      rcases hx with rfl | rfl | rfl | rfl
      · exact q.2.1 rfl
      · exact q.2.2.1 rfl
      · exact q.2.2.2 rfl
      · exact q.1 rfl
    refine ⟨by simp, ⟨fun i hi => ?_, nd⟩, by simpa using nd, by simp, by simp, by simp, by simp⟩
    rcases List.mem_append.1 hi with hi | hi
    · simp only [List.mem_cons, List.not_mem_nil, or_false] at hi
      rcases hi with rfl | rfl | rfl | rfl
      · exact ⟨3, by decide, has_fil ho⟩
      · exact ⟨3, by decide, has_fil ho⟩
      · exact ⟨3, by decide, has_fil ho⟩
      · exact ⟨0, by decide, has_id⟩
    · obtain ⟨f, hf, rfl⟩ := List.mem_map.1 hi
      obtain ⟨h1, h2⟩ := List.mem_filter.1 hf
      exact ⟨3, by decide, fil_ok h ho h1 (by simpa using h2)⟩
  · have e : (o.fs.map (fun f => givT s f f.w)).map (·.n) = o.fs.map (·.n) := by
      rw [List.map_map]
      refine List.map_congr_left fun f _ => ?_
      show (givT s f f.w).n = f.n
      unfold givT
      split
      · rfl
      · split <;> rfl
    refine ⟨by simp, ⟨fun i hi => ?_, by rw [e]; exact hn⟩, by simp only [List.map_nil, List.nil_append]; rw [e]; exact hn, by simp, by simp, by simp, by simp [hne]⟩
    obtain ⟨f, hf, rfl⟩ := List.mem_map.1 hi
    exact givT_ok h ho hf _
  · have e : (o.fs.map (fun f => givT s f [])).map (·.n) = o.fs.map (·.n) := by
      rw [List.map_map]
      refine List.map_congr_left fun f _ => ?_
      show (givT s f []).n = f.n
      unfold givT
      split
      · rfl
      · split <;> rfl
    refine ⟨by simp, ⟨fun i hi => ?_, by rw [e]; exact hn⟩, by simp only [List.map_nil, List.nil_append]; rw [e]; exact hn, by simp, by simp, by simp, by simp [hne]⟩
    obtain ⟨f, hf, rfl⟩ := List.mem_map.1 hi
    exact givT_ok h ho hf _
end cl
end Go.Proofs.YtamkjpfomaapgaaGreatDoor
namespace Go.Proofs.YtamkjpfomaapgaaGreatDoor
open Go Go.RowKit Go.Shelf
theorem nodup_flat {α : Type} {l : List α} {n : α → Bs} {g : α → List Bs} (h1 : ∀ a ∈ l, (g a).Nodup) (hn : (l.map n).Nodup) (h2 : ∀ a b x, x ∈ g a → x ∈ g b → n a = n b) : (l.flatMap g).Nodup := by
  unfold List.Nodup
  rw [List.pairwise_flatMap]
  refine ⟨h1, ?_⟩
  refine List.Pairwise.imp ?_ (List.pairwise_map.1 hn)
  intro a b hab x hx y hy e
  subst e
  exact hab (h2 a b x hx hy)
theorem cmp_in {s : Sch} {x : Bs} (hx : scaS x = true) : GoIn s (cmpT x) := by
  refine ⟨fun i hi => ⟨0, by decide, ?_⟩, by simp [cmpT]⟩
  have : i.t = x := by
    simp only [cmpT, List.mem_cons, List.not_mem_nil, or_false] at hi
    rcases hi with rfl | rfl | rfl | rfl | rfl | rfl <;> rfl
  rw [this]
  exact has_sca hx
theorem fil_cl {s : Sch} {d : Df} (hd : d ∈ filT s) : ClD s d := by
  unfold filT at hd
  simp only [List.mem_append, List.mem_cons, List.not_mem_nil, or_false, List.mem_map] at hd
  rcases hd with (rfl | rfl | rfl | rfl) | ⟨e, he, rfl⟩
  · exact ⟨by simp, cmp_in rfl, by simpa using (cmp_in (s := s) (x := intB) rfl).2, by simp, by simp, by simp, by simp [cmpT]⟩
  · exact ⟨by simp, cmp_in rfl, by simpa using (cmp_in (s := s) (x := floB) rfl).2, by simp, by simp, by simp, by simp [cmpT]⟩
  · have q : GoIn s (cmpT strB ++ [⟨[98, 101, 103, 105, 110, 115], strB, []⟩]) := by
      refine ⟨fun i hi => ?_, by simp [cmpT]⟩
      rcases List.mem_append.1 hi with hi | hi
      · exact (cmp_in (x := strB) rfl).1 i hi
      · rw [List.mem_singleton.1 hi]
        exact ⟨0, by decide, has_sca rfl⟩
    exact ⟨by simp, q, by simpa using q.2, by simp, by simp, by simp, by simp [cmpT]⟩
  · refine ⟨by simp, ⟨fun i hi => ?_, by simp⟩, by simp, by simp, by simp, by simp, by simp⟩
    rw [List.mem_singleton.1 hi]
    exact ⟨0, by decide, has_sca rfl⟩
  · refine ⟨by simp, ⟨fun i hi => ?_, by simp⟩, by simp, by simp, by simp, by simp, by simp⟩
    simp only [List.mem_cons, List.not_mem_nil, or_false] at hi
    rcases hi with rfl | rfl
    · exact ⟨1, by decide, has_en he⟩
    · exact ⟨1, by decide, has_en he⟩
section cl
variable {s : Sch} (h : OkD s)
include h
theorem en_cl {e : En} (he : e ∈ s.es) : ClD s ⟨e.n, 1, e.ws, [], []⟩ := by
  have hne : e.ws ≠ [] := by
    have := ((man_iff.1 h.m).2.2.2 e he).1
    intro q
    rw [q] at this
    simp at this
  exact ⟨by simp, by simp [GoIn], by simpa using h.u4 e he, by simp, by simp [hne], by simp, by simp⟩
theorem os_ne : s.os ≠ [] := by
  intro e
  have := (man_iff.1 h.m).1
  rw [e] at this
  simp at this
theorem qry_cl : ClD s (qryT s) := by
  have hne := os_ne h
  refine ⟨fun x hx => ?_, by simp [qryT, GoIn], ?_, by simp [qryT], by simp [qryT], ?_, by simp [qryT]⟩
  · unfold qryT at hx
    obtain ⟨o, ho, hx⟩ := List.mem_flatMap.1 hx
    simp only [List.mem_cons, List.not_mem_nil, or_false] at hx
    rcases hx with rfl | rfl
    · refine ⟨⟨2, by decide, has_ob ho⟩, fun i hi => ?_, by simp⟩
      rw [List.mem_singleton.1 hi]
      exact ⟨0, by decide, has_id⟩
    · exact ⟨⟨2, by decide, has_ob ho⟩, arg_in ho⟩
  · simp only [qryT, List.map_nil, List.append_nil, List.nil_append, List.map_flatMap]
    refine nodup_flat (n := Ob.n) ?_ h.u1 ?_
    · intro o _
      simp
    · intro a b x hx hy
      simp only [List.map_cons, List.map_nil, List.mem_cons, List.not_mem_nil, or_false] at hx hy
      rcases hx with rfl | rfl <;> rcases hy with e | e <;> simp at e <;> exact e
  · obtain ⟨o, l, e⟩ := List.exists_cons_of_ne_nil hne
    simp [qryT, e]
theorem mut_cl : ClD s (mutT s) := by
  have hne := os_ne h
  refine ⟨fun x hx => ?_, by simp [mutT, GoIn], ?_, by simp [mutT], by simp [mutT], ?_, by simp [mutT]⟩
  · unfold mutT at hx
    obtain ⟨o, ho, hx⟩ := List.mem_flatMap.1 hx
    simp only [List.mem_cons, List.not_mem_nil, or_false] at hx
    rcases hx with rfl | rfl | rfl
    · refine ⟨⟨2, by decide, has_ob ho⟩, fun i hi => ?_, by simp⟩
      rw [List.mem_singleton.1 hi]
      exact ⟨3, by decide, has_add ho⟩
    · refine ⟨⟨2, by decide, has_ob ho⟩, fun i hi => ?_, by simp⟩
      simp only [List.mem_cons, List.not_mem_nil, or_false] at hi
      rcases hi with rfl | rfl
      · exact ⟨3, by decide, has_fil ho⟩
      · exact ⟨3, by decide, has_pat ho⟩
    · refine ⟨⟨0, by decide, has_int⟩, fun i hi => ?_, by simp⟩
      rw [List.mem_singleton.1 hi]
      exact ⟨3, by decide, has_fil ho⟩
  · simp only [mutT, List.map_nil, List.append_nil, List.nil_append, List.map_flatMap]
    refine nodup_flat (n := Ob.n) ?_ h.u1 ?_
    · intro o _
      simp
    · intro a b x hx hy
      simp only [List.map_cons, List.map_nil, List.mem_cons, List.not_mem_nil, or_false] at hx hy
      rcases hx with rfl | rfl | rfl <;> rcases hy with e | e | e <;> simp at e <;> exact e
  · obtain ⟨o, l, e⟩ := List.exists_cons_of_ne_nil hne
    simp [mutT, e]
theorem def_cl {d : Df} (hd : d ∈ defT s) : ClD s d := by
  unfold defT at hd
  simp only [List.mem_append, List.mem_map, List.mem_flatMap] at hd
  rcases hd with hd | ⟨e, he, rfl⟩ | ⟨o, ho, hd⟩ | hd | hd
  · simp only [List.mem_cons, List.not_mem_nil, or_false] at hd
    rcases hd with rfl | rfl | rfl | rfl | rfl <;> exact scaT_cl s _
  · exact en_cl h he
  · exact obj_cl h ho hd
  · exact fil_cl hd
  · simp only [List.mem_cons, List.not_mem_nil, or_false] at hd
    rcases hd with rfl | rfl
    · exact qry_cl h
    · exact mut_cl h
end cl
end Go.Proofs.YtamkjpfomaapgaaGreatDoor
