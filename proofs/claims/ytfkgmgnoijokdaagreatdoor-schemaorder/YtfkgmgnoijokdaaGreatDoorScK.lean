/- Schemas: no two of the same name; which types there may be. -/
import Derived.Test.YtfkgmgnoijokdaaGreatDoorScJ
namespace Go.Proofs.YtfkgmgnoijokdaaGreatDoor
open Go Go.RowKit Go.Shelf
section
variable {w : World} {ov ev : Value} {s : Sch}
set_option maxRecDepth 100000 in
set_option maxHeartbeats 2000000 in
theorem honce1_any (x : En) (a1 : Option Addr) (c1 P : Nat) (h : SchAt w ov ev s) (h0 : w.cell? ⟨P, 0, none⟩ = some ov) (h1 : w.cell? ⟨P, 1, none⟩ = some ev) (hw : WdsAt w (.slice a1 x.ws.length c1) x.ws) : Calls Tryz.prog 64 (#[.agg #[.string ⟨x.n.toArray⟩, .slice a1 x.ws.length c1]] ++ #[.pointer (some ⟨P, 0, none⟩)]) w fun e w' => e = .returned (.bool (decide (objS s x.n < 0) && uniB x.ws)) ∧ Below w.heap.size w w' := by
  have OB := fun o => hobject_any (h.on (al1 w o)) x.n
  have UN := fun W (b : Below w.heap.size w W) => unlike_string W (hw.on b)
  obtain ⟨a, c, rfl, _, _⟩ := h.os.slice
  obtain ⟨a', c', rfl, _, _⟩ := h.es.slice
  show Calls Tryz.prog 64 #[.agg #[.string ⟨x.n.toArray⟩, .slice a1 x.ws.length c1], .pointer (some ⟨P, 0, none⟩)] w _
  have g0 := fun o => cell_on (al1 w o) h0
  have g1 := fun o => cell_on (al1 w o) h1
  generalize uniB x.ws = b2 at *
  generalize objS s x.n = k at *
  by_cases hk : k < 0
  · have hd : decide (k < 0) = true := by simpa using hk
    rw [hd]
    go_enter Tryz.func64, Tryz.ntmps64
    go_wp2_with (first
      | (go_at_call 65; (with_reducible refine (UN _ B2).mono ?_); rintro e w3 ⟨rfl, b3⟩)
      | (go_at_call 12; (with_reducible refine (OB _).mono ?_); rintro e w2 ⟨rfl, b2⟩; have B2 := (al1 w _).trans (b2.mono (al1 w _).size); obtain ⟨q0, q1, fq⟩ := row2 ((b2.block _ (by simp)).trans (heap_alloc_new w (.cells #[.string ⟨x.n.toArray⟩, .slice a1 x.ws.length c1] 45))))
      | fail)
    go_ret
    exact ⟨by simp, B2.trans (b3.mono B2.size)⟩
  · have hd : decide (k < 0) = false := by simpa using hk
    rw [hd]
    clear hk
    go_enter Tryz.func64, Tryz.ntmps64
    go_wp2_with (first
      | (go_at_call 12; (with_reducible refine (OB _).mono ?_); rintro e w2 ⟨rfl, b2⟩; have B2 := (al1 w _).trans (b2.mono (al1 w _).size))
      | fail)
    go_ret
    exact ⟨by simp, B2⟩
set_option maxRecDepth 100000 in
theorem honce2_any (x : Ob) (a1 : Option Addr) (c1 : Nat) (w : World) (hf : FldsAt w (.slice a1 x.fs.length c1) x.fs) : Calls Tryz.prog 67 (#[.agg #[.string ⟨x.n.toArray⟩, .slice a1 x.fs.length c1]] ++ #[]) w fun e w' => e = .returned (.bool (uniB (x.fs.map (·.n)))) ∧ Below w.heap.size w w' := by
  have UN := fun o => unlike_Field (w.alloc o) (hf.on (al1 w o))
  show Calls Tryz.prog 67 #[.agg #[.string ⟨x.n.toArray⟩, .slice a1 x.fs.length c1]] w _
  go_enter Tryz.func67, Tryz.ntmps67
  go_wp2_with (first
    | (go_at_call 68; (with_reducible refine (UN _).mono ?_); rintro e w2 ⟨rfl, b2⟩)
    | fail)
  go_ret
  exact ⟨rfl, (al1 w _).trans (b2.mono (al1 w _).size)⟩
def oncS (s : Sch) : Bool := uniB (s.os.map (·.n)) && uniB (s.es.map (·.n)) && s.es.all (fun x => decide (objS s x.n < 0) && uniB x.ws) && s.os.all (fun x => uniB (x.fs.map (·.n)))
set_option maxRecDepth 100000 in
set_option maxHeartbeats 4000000 in
theorem hnamedOnce_any (h : SchAt w ov ev s) : Calls Tryz.prog 29 #[.agg #[ov, ev]] w fun e w' => e = .returned (.bool (oncS s)) ∧ Below w.heap.size w w' := by
  have U1 := fun o => unlike_Object (w.alloc o) (h.os.on (al1 w o))
  have U2 := fun W (b : Below w.heap.size w W) => unlike_Enum W (h.es.on b)
  have hh := h
  obtain ⟨a, c, rfl, _, _⟩ := h.os.slice
  obtain ⟨a', c', rfl, _, _⟩ := h.es.slice
  have E3 := fun W (b : Below (w.alloc (.cells #[.slice a s.os.length c, .slice a' s.es.length c'] 25)).heap.size (w.alloc (.cells #[.slice a s.os.length c, .slice a' s.es.length c'] 25)) W) => every_Enum 64 #[.pointer (some ⟨w.heap.size, 0, none⟩)] (fun x => decide (objS s x.n < 0) && uniB x.ws) W ((hh.es.on (al1 w (.cells #[.slice a s.os.length c, .slice a' s.es.length c'] 25))).on b) (fun _ _ => rfl) (fun x a1 c1 W2 _ b2 hw => honce1_any x a1 c1 w.heap.size (((hh.on (al1 w (.cells #[.slice a s.os.length c, .slice a' s.es.length c'] 25))).on b).on b2) (cell_on b2 (cell_on b (row2 (heap_alloc_new w _)).1)) (cell_on b2 (cell_on b (row2 (heap_alloc_new w _)).2.1)) hw)
  have E4 := fun W (b : Below w.heap.size w W) => every_Object 67 #[] (fun x => uniB (x.fs.map (·.n))) W (hh.os.on b) (fun _ _ => rfl) (fun x a1 c1 W2 _ _ hf => honce2_any x a1 c1 W2 hf)
  have hmf := Tryz.makeFn
  unfold oncS
  generalize uniB (s.os.map (·.n)) = b1 at *
  generalize uniB (s.es.map (·.n)) = b2 at *
  generalize s.es.all (fun x => decide (objS s x.n < 0) && uniB x.ws) = b3 at *
  generalize s.os.all (fun x => uniB (x.fs.map (·.n))) = b4 at *
  cases b1 with
  | false =>
    go_enter Tryz.func29, Tryz.ntmps29
    go_wp2_with (first
      | (go_at_call 62; (with_reducible refine (U1 _).mono ?_); rintro e w2 ⟨rfl, b2⟩; have B2 := (al1 w _).trans (b2.mono (al1 w _).size); obtain ⟨q0, q1, fq⟩ := row2 ((b2.block _ (by simp)).trans (heap_alloc_new w (.cells #[.slice a s.os.length c, .slice a' s.es.length c'] 25))); have C2 := b2)
      | fail)
    go_ret
    exact ⟨by simp, B2⟩
  | true =>
    cases b2 with
    | false =>
      go_enter Tryz.func29, Tryz.ntmps29
      go_wp2_with (first
        | (go_at_call 63; (with_reducible refine (U2 _ B2).mono ?_); rintro e w3 ⟨rfl, b3⟩; have B3 := B2.trans (b3.mono B2.size); have C3 := C2.trans (b3.mono C2.size); obtain ⟨r0, r1, fr⟩ := row2 ((C3.block _ (by simp)).trans (heap_alloc_new w (.cells #[.slice a s.os.length c, .slice a' s.es.length c'] 25))))
        | (go_at_call 62; (with_reducible refine (U1 _).mono ?_); rintro e w2 ⟨rfl, b2⟩; have B2 := (al1 w _).trans (b2.mono (al1 w _).size); obtain ⟨q0, q1, fq⟩ := row2 ((b2.block _ (by simp)).trans (heap_alloc_new w (.cells #[.slice a s.os.length c, .slice a' s.es.length c'] 25))); have C2 := b2)
        | fail)
      go_ret
      exact ⟨by simp, B3⟩
    | true =>
      cases b3 with
      | false =>
        go_enter Tryz.func29, Tryz.ntmps29
        go_wp2_with (first
          | (go_at_call 54; (with_reducible refine (E3 _ C3).mono ?_); rintro e w4 ⟨rfl, b4⟩; have B4 := B3.trans (b4.mono B3.size); have C4 := C3.trans (b4.mono C3.size); obtain ⟨s0, s1, fs⟩ := row2 ((C4.block _ (by simp)).trans (heap_alloc_new w (.cells #[.slice a s.os.length c, .slice a' s.es.length c'] 25))))
          | (go_at_call 63; (with_reducible refine (U2 _ B2).mono ?_); rintro e w3 ⟨rfl, b3⟩; have B3 := B2.trans (b3.mono B2.size); have C3 := C2.trans (b3.mono C2.size); obtain ⟨r0, r1, fr⟩ := row2 ((C3.block _ (by simp)).trans (heap_alloc_new w (.cells #[.slice a s.os.length c, .slice a' s.es.length c'] 25))))
          | (go_at_call 62; (with_reducible refine (U1 _).mono ?_); rintro e w2 ⟨rfl, b2⟩; have B2 := (al1 w _).trans (b2.mono (al1 w _).size); obtain ⟨q0, q1, fq⟩ := row2 ((b2.block _ (by simp)).trans (heap_alloc_new w (.cells #[.slice a s.os.length c, .slice a' s.es.length c'] 25))); have C2 := b2)
          | fail)
        go_ret
        exact ⟨by simp, B4⟩
      | true =>
        go_enter Tryz.func29, Tryz.ntmps29
        go_wp2_with (first
          | (go_at_call 52; (with_reducible refine (E4 _ B4).mono ?_); rintro e w5 ⟨rfl, b5⟩)
          | (go_at_call 54; (with_reducible refine (E3 _ C3).mono ?_); rintro e w4 ⟨rfl, b4⟩; have B4 := B3.trans (b4.mono B3.size); have C4 := C3.trans (b4.mono C3.size); obtain ⟨s0, s1, fs⟩ := row2 ((C4.block _ (by simp)).trans (heap_alloc_new w (.cells #[.slice a s.os.length c, .slice a' s.es.length c'] 25))))
          | (go_at_call 63; (with_reducible refine (U2 _ B2).mono ?_); rintro e w3 ⟨rfl, b3⟩; have B3 := B2.trans (b3.mono B2.size); have C3 := C2.trans (b3.mono C2.size); obtain ⟨r0, r1, fr⟩ := row2 ((C3.block _ (by simp)).trans (heap_alloc_new w (.cells #[.slice a s.os.length c, .slice a' s.es.length c'] 25))))
          | (go_at_call 62; (with_reducible refine (U1 _).mono ?_); rintro e w2 ⟨rfl, b2⟩; have B2 := (al1 w _).trans (b2.mono (al1 w _).size); obtain ⟨q0, q1, fq⟩ := row2 ((b2.block _ (by simp)).trans (heap_alloc_new w (.cells #[.slice a s.os.length c, .slice a' s.es.length c'] 25))); have C2 := b2)
          | fail)
        go_ret
        exact ⟨by simp, B4.trans (b5.mono B4.size)⟩
def wtyS (s : Sch) (f : Fld) : Bool := if prpS s f then (f.w == [] || f.w == [33]) else if 0 ≤ edgS s f then (f.w == [] || f.w == [33, 91, 33]) else false
set_option maxRecDepth 100000 in
set_option maxHeartbeats 4000000 in
theorem hwellTyped_any (h : SchAt w ov ev s) (f : Fld) : Calls Tryz.prog 31 #[.agg #[ov, ev], fldV f] w fun e w' => e = .returned (.bool (wtyS s f)) ∧ Below w.heap.size w w' := by
  have PR := fun o o' => hproperty_any (h.on (al2 w o o')) f
  have ED := fun W (b : Below w.heap.size w W) => hedge_any (h.on b) f
  obtain ⟨a, c, rfl, _, _⟩ := h.os.slice
  obtain ⟨a', c', rfl, _, _⟩ := h.es.slice
  unfold wtyS
  generalize hed : edgS s f = k at *
  clear hed
  obtain ⟨fn, ft, fw, fs, fi⟩ := f
  simp only at *
  cases hs : prpS s ⟨fn, ft, fw, fs, fi⟩ with
  | true =>
    simp only [hs] at PR
    rw [if_pos rfl]
    by_cases h0 : fw = []
    · subst h0
      go_enter Tryz.func31, Tryz.ntmps31
      go_wp2_with (first
        | (go_at_call 44; (with_reducible refine (PR _ _).mono ?_); rintro e w2 ⟨rfl, b2⟩; have B2 := (al2 w _ _).trans (b2.mono (al2 w _ _).size); obtain ⟨m0, m1, fm⟩ := row2 ((b2.block _ (by rw [World.size_alloc, World.size_alloc]; omega)).trans (new1 w (.cells #[.slice a s.os.length c, .slice a' s.es.length c'] 25) (.cells #[.string ⟨fn.toArray⟩, .string ⟨ft.toArray⟩, .string ⟨#[]⟩, .bool fs, .string ⟨fi.toArray⟩] 33))); obtain ⟨n0, n1, n2, n3, n4, fn5⟩ := row5 ((b2.block _ (by rw [World.size_alloc, World.size_alloc]; omega)).trans (new2 w (.cells #[.slice a s.os.length c, .slice a' s.es.length c'] 25) (.cells #[.string ⟨fn.toArray⟩, .string ⟨ft.toArray⟩, .string ⟨#[]⟩, .bool fs, .string ⟨fi.toArray⟩] 33))); have C2 := b2)
        | fail)
      go_ret
      exact ⟨by simp, B2⟩
    · have h1 : (fw == []) = false := by simpa using h0
      rw [h1]
      go_enter Tryz.func31, Tryz.ntmps31
      go_wp2_with (first
        | (go_at_call 44; (with_reducible refine (PR _ _).mono ?_); rintro e w2 ⟨rfl, b2⟩; have B2 := (al2 w _ _).trans (b2.mono (al2 w _ _).size); obtain ⟨m0, m1, fm⟩ := row2 ((b2.block _ (by rw [World.size_alloc, World.size_alloc]; omega)).trans (new1 w (.cells #[.slice a s.os.length c, .slice a' s.es.length c'] 25) (.cells #[.string ⟨fn.toArray⟩, .string ⟨ft.toArray⟩, .string ⟨fw.toArray⟩, .bool fs, .string ⟨fi.toArray⟩] 33))); obtain ⟨n0, n1, n2, n3, n4, fn5⟩ := row5 ((b2.block _ (by rw [World.size_alloc, World.size_alloc]; omega)).trans (new2 w (.cells #[.slice a s.os.length c, .slice a' s.es.length c'] 25) (.cells #[.string ⟨fn.toArray⟩, .string ⟨ft.toArray⟩, .string ⟨fw.toArray⟩, .bool fs, .string ⟨fi.toArray⟩] 33))); have C2 := b2)
        | fail)
      go_ret
      exact ⟨by simp, B2⟩
  | false =>
    simp only [hs] at PR
    rw [if_neg (by decide)]
    by_cases hk : 0 ≤ k
    · rw [if_pos hk]
      by_cases h0 : fw = []
      · subst h0
        go_enter Tryz.func31, Tryz.ntmps31
        go_wp2_with (first
          | (go_at_call 18; (with_reducible refine (ED _ B2).mono ?_); rintro e w3 ⟨rfl, b3⟩; have B3 := B2.trans (b3.mono B2.size); have C3 := C2.trans (b3.mono C2.size); obtain ⟨p0, p1, p2, p3, p4, fp5⟩ := row5 ((C3.block _ (by rw [World.size_alloc, World.size_alloc]; omega)).trans (new2 w (.cells #[.slice a s.os.length c, .slice a' s.es.length c'] 25) (.cells #[.string ⟨fn.toArray⟩, .string ⟨ft.toArray⟩, .string ⟨#[]⟩, .bool fs, .string ⟨fi.toArray⟩] 33))))
          | (go_at_call 44; (with_reducible refine (PR _ _).mono ?_); rintro e w2 ⟨rfl, b2⟩; have B2 := (al2 w _ _).trans (b2.mono (al2 w _ _).size); obtain ⟨m0, m1, fm⟩ := row2 ((b2.block _ (by rw [World.size_alloc, World.size_alloc]; omega)).trans (new1 w (.cells #[.slice a s.os.length c, .slice a' s.es.length c'] 25) (.cells #[.string ⟨fn.toArray⟩, .string ⟨ft.toArray⟩, .string ⟨#[]⟩, .bool fs, .string ⟨fi.toArray⟩] 33))); obtain ⟨n0, n1, n2, n3, n4, fn5⟩ := row5 ((b2.block _ (by rw [World.size_alloc, World.size_alloc]; omega)).trans (new2 w (.cells #[.slice a s.os.length c, .slice a' s.es.length c'] 25) (.cells #[.string ⟨fn.toArray⟩, .string ⟨ft.toArray⟩, .string ⟨#[]⟩, .bool fs, .string ⟨fi.toArray⟩] 33))); have C2 := b2)
          | fail)
        go_ret
        exact ⟨by simp, B3⟩
      · have h1 : (fw == []) = false := by simpa using h0
        rw [h1]
        go_enter Tryz.func31, Tryz.ntmps31
        go_wp2_with (first
          | (go_at_call 18; (with_reducible refine (ED _ B2).mono ?_); rintro e w3 ⟨rfl, b3⟩; have B3 := B2.trans (b3.mono B2.size); have C3 := C2.trans (b3.mono C2.size); obtain ⟨p0, p1, p2, p3, p4, fp5⟩ := row5 ((C3.block _ (by rw [World.size_alloc, World.size_alloc]; omega)).trans (new2 w (.cells #[.slice a s.os.length c, .slice a' s.es.length c'] 25) (.cells #[.string ⟨fn.toArray⟩, .string ⟨ft.toArray⟩, .string ⟨fw.toArray⟩, .bool fs, .string ⟨fi.toArray⟩] 33))))
          | (go_at_call 44; (with_reducible refine (PR _ _).mono ?_); rintro e w2 ⟨rfl, b2⟩; have B2 := (al2 w _ _).trans (b2.mono (al2 w _ _).size); obtain ⟨m0, m1, fm⟩ := row2 ((b2.block _ (by rw [World.size_alloc, World.size_alloc]; omega)).trans (new1 w (.cells #[.slice a s.os.length c, .slice a' s.es.length c'] 25) (.cells #[.string ⟨fn.toArray⟩, .string ⟨ft.toArray⟩, .string ⟨fw.toArray⟩, .bool fs, .string ⟨fi.toArray⟩] 33))); obtain ⟨n0, n1, n2, n3, n4, fn5⟩ := row5 ((b2.block _ (by rw [World.size_alloc, World.size_alloc]; omega)).trans (new2 w (.cells #[.slice a s.os.length c, .slice a' s.es.length c'] 25) (.cells #[.string ⟨fn.toArray⟩, .string ⟨ft.toArray⟩, .string ⟨fw.toArray⟩, .bool fs, .string ⟨fi.toArray⟩] 33))); have C2 := b2)
          | fail)
        go_ret
        exact ⟨by simp, B3⟩
    · rw [if_neg hk]
      have hd : decide (0 ≤ k) = false := by simpa using hk
      clear hk
      go_enter Tryz.func31, Tryz.ntmps31
      go_wp2_with (first
        | (go_at_call 18; (with_reducible refine (ED _ B2).mono ?_); rintro e w3 ⟨rfl, b3⟩; have B3 := B2.trans (b3.mono B2.size); have C3 := C2.trans (b3.mono C2.size); obtain ⟨p0, p1, p2, p3, p4, fp5⟩ := row5 ((C3.block _ (by rw [World.size_alloc, World.size_alloc]; omega)).trans (new2 w (.cells #[.slice a s.os.length c, .slice a' s.es.length c'] 25) (.cells #[.string ⟨fn.toArray⟩, .string ⟨ft.toArray⟩, .string ⟨fw.toArray⟩, .bool fs, .string ⟨fi.toArray⟩] 33))))
        | (go_at_call 44; (with_reducible refine (PR _ _).mono ?_); rintro e w2 ⟨rfl, b2⟩; have B2 := (al2 w _ _).trans (b2.mono (al2 w _ _).size); obtain ⟨m0, m1, fm⟩ := row2 ((b2.block _ (by rw [World.size_alloc, World.size_alloc]; omega)).trans (new1 w (.cells #[.slice a s.os.length c, .slice a' s.es.length c'] 25) (.cells #[.string ⟨fn.toArray⟩, .string ⟨ft.toArray⟩, .string ⟨fw.toArray⟩, .bool fs, .string ⟨fi.toArray⟩] 33))); obtain ⟨n0, n1, n2, n3, n4, fn5⟩ := row5 ((b2.block _ (by rw [World.size_alloc, World.size_alloc]; omega)).trans (new2 w (.cells #[.slice a s.os.length c, .slice a' s.es.length c'] 25) (.cells #[.string ⟨fn.toArray⟩, .string ⟨ft.toArray⟩, .string ⟨fw.toArray⟩, .bool fs, .string ⟨fi.toArray⟩] 33))); have C2 := b2)
        | fail)
      go_ret
      exact ⟨by simp, B3⟩
end
end Go.Proofs.YtfkgmgnoijokdaaGreatDoor
