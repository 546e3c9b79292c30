/- Schemas: where a name stands, where a field leads, what leads back. -/
import Derived.Test.YtamkjpfomaapgaaGreatDoorScC
namespace Go.Proofs.YtamkjpfomaapgaaGreatDoor
open Go Go.RowKit Go.Shelf
theorem al2 (w : World) (o o' : Obj) : Below w.heap.size w ((w.alloc o).alloc o') := (al1 w o).alloc (by simp) _
theorem new2 (w : World) (o o' : Obj) : ((w.alloc o).alloc o').heap[w.heap.size + 1]? = some o' := by
  have := heap_alloc_new (w.alloc o) o'
  rwa [World.size_alloc] at this
theorem new1 (w : World) (o o' : Obj) : ((w.alloc o).alloc o').heap[w.heap.size]? = some o := ((al1 (w.alloc o) o').block _ (by simp)).trans (heap_alloc_new w o)
theorem Sl.slice {w : World} {v : Value} {n sz : Nat} {p : Nat → Nat → Nat → Prop} (h : Sl w v n sz p) : ∃ a c, v = .slice a n c ∧ n ≤ c ∧ n ≤ 140737488355328 := by
  obtain ⟨a, c, h1, h2, h3, _⟩ := h
  exact ⟨a, c, h1, h2, h3⟩
set_option maxRecDepth 100000 in
theorem place_Object {os : List Ob} {v : Value} (y : Bs) (w : World) (h : ObsAt w v os) : Calls Tryz.prog 111 #[v, .func (.func 86) #[] #[], .string ⟨y.toArray⟩] w fun e w' => e = .returned (.int .i64 (plB y (os.map (·.n)))) ∧ Below w.heap.size w w' := by
  have IX := fun o o' h0 h1 => idx_Object y w.heap.size (w.heap.size + 1) ((w.alloc o).alloc o') (h.on (al2 w o o')) h0 h1
  obtain ⟨a, c, rfl, _, _⟩ := h.slice
  have hmf := Tryz.makeFn
  go_enter Tryz.func111, Tryz.ntmps111
  go_wp2_with (first
    | (go_at_call 124; (with_reducible refine (IX _ _ (row1 (new1 w _ _)).1 (row1 (new2 w _ _)).1).mono ?_); rintro e w2 ⟨rfl, b2⟩)
    | fail)
  go_ret
  exact ⟨rfl, (al2 w _ _).trans (b2.mono (al2 w _ _).size)⟩
set_option maxRecDepth 100000 in
theorem place_Enum {es : List En} {v : Value} (y : Bs) (w : World) (h : EnsAt w v es) : Calls Tryz.prog 112 #[v, .func (.func 88) #[] #[], .string ⟨y.toArray⟩] w fun e w' => e = .returned (.int .i64 (plB y (es.map (·.n)))) ∧ Below w.heap.size w w' := by
  have IX := fun o o' h0 h1 => idx_Enum y w.heap.size (w.heap.size + 1) ((w.alloc o).alloc o') (h.on (al2 w o o')) h0 h1
  obtain ⟨a, c, rfl, _, _⟩ := h.slice
  have hmf := Tryz.makeFn
  go_enter Tryz.func112, Tryz.ntmps112
  go_wp2_with (first
    | (go_at_call 126; (with_reducible refine (IX _ _ (row1 (new1 w _ _)).1 (row1 (new2 w _ _)).1).mono ?_); rintro e w2 ⟨rfl, b2⟩)
    | fail)
  go_ret
  exact ⟨rfl, (al2 w _ _).trans (b2.mono (al2 w _ _).size)⟩
set_option maxRecDepth 100000 in
theorem place_Field {fs : List Fld} {v : Value} (y : Bs) (w : World) (h : FldsAt w v fs) : Calls Tryz.prog 114 #[v, .func (.func 95) #[] #[], .string ⟨y.toArray⟩] w fun e w' => e = .returned (.int .i64 (plB y (fs.map (·.n)))) ∧ Below w.heap.size w w' := by
  have IX := fun o o' h0 h1 => idx_Field y w.heap.size (w.heap.size + 1) ((w.alloc o).alloc o') (h.on (al2 w o o')) h0 h1
  obtain ⟨a, c, rfl, _, _⟩ := h.slice
  have hmf := Tryz.makeFn
  go_enter Tryz.func114, Tryz.ntmps114
  go_wp2_with (first
    | (go_at_call 130; (with_reducible refine (IX _ _ (row1 (new1 w _ _)).1 (row1 (new2 w _ _)).1).mono ?_); rintro e w2 ⟨rfl, b2⟩)
    | fail)
  go_ret
  exact ⟨rfl, (al2 w _ _).trans (b2.mono (al2 w _ _).size)⟩
set_option maxRecDepth 100000 in
theorem place_string {ws : List Bs} {v : Value} (y : Bs) (w : World) (h : WdsAt w v ws) : Calls Tryz.prog 113 #[v, .func (.func 92) #[] #[], .string ⟨y.toArray⟩] w fun e w' => e = .returned (.int .i64 (plB y ws)) ∧ Below w.heap.size w w' := by
  have IX := fun o o' h0 h1 => idx_string y w.heap.size (w.heap.size + 1) ((w.alloc o).alloc o') (h.on (al2 w o o')) h0 h1
  obtain ⟨a, c, rfl, _, _⟩ := h.slice
  have hmf := Tryz.makeFn
  go_enter Tryz.func113, Tryz.ntmps113
  go_wp2_with (first
    | (go_at_call 128; (with_reducible refine (IX _ _ (row1 (new1 w _ _)).1 (row1 (new2 w _ _)).1).mono ?_); rintro e w2 ⟨rfl, b2⟩)
    | fail)
  go_ret
  exact ⟨rfl, (al2 w _ _).trans (b2.mono (al2 w _ _).size)⟩
def objS (s : Sch) (y : Bs) : Int := plB y (s.os.map (·.n))
def enuS (s : Sch) (y : Bs) : Int := plB y (s.es.map (·.n))
def prpS (s : Sch) (f : Fld) : Bool := scaS f.t || decide (0 ≤ enuS s f.t)
def edgS (s : Sch) (f : Fld) : Int := if prpS s f then -1 else objS s f.t
abbrev fldV (f : Fld) : Value := .agg #[.string ⟨f.n.toArray⟩, .string ⟨f.t.toArray⟩, .string ⟨f.w.toArray⟩, .bool f.s, .string ⟨f.i.toArray⟩]
section
variable {w : World} {ov ev : Value} {s : Sch}
set_option maxRecDepth 100000 in
theorem hobject_any (h : SchAt w ov ev s) (y : Bs) : Calls Tryz.prog 90 #[.agg #[ov, ev], .string ⟨y.toArray⟩] w fun e w' => e = .returned (.int .i64 (objS s y)) ∧ Below w.heap.size w w' := by
  have PL := fun o => place_Object y (w.alloc o) (h.os.on (al1 w o))
  obtain ⟨a, c, rfl, _, _⟩ := h.os.slice
  obtain ⟨a', c', rfl, _, _⟩ := h.es.slice
  unfold objS
  go_enter Tryz.func90, Tryz.ntmps90
  go_wp2_with (first
    | (go_at_call 111; (with_reducible refine (PL _).mono ?_); rintro e w2 ⟨rfl, b2⟩)
    | fail)
  go_ret
  exact ⟨rfl, (al1 w _).trans (b2.mono (al1 w _).size)⟩
set_option maxRecDepth 100000 in
theorem henum_any (h : SchAt w ov ev s) (y : Bs) : Calls Tryz.prog 115 #[.agg #[ov, ev], .string ⟨y.toArray⟩] w fun e w' => e = .returned (.int .i64 (enuS s y)) ∧ Below w.heap.size w w' := by
  have PL := fun o => place_Enum y (w.alloc o) (h.es.on (al1 w o))
  obtain ⟨a, c, rfl, _, _⟩ := h.os.slice
  obtain ⟨a', c', rfl, _, _⟩ := h.es.slice
  unfold enuS
  go_enter Tryz.func115, Tryz.ntmps115
  go_wp2_with (first
    | (go_at_call 112; (with_reducible refine (PL _).mono ?_); rintro e w2 ⟨rfl, b2⟩)
    | fail)
  go_ret
  exact ⟨rfl, (al1 w _).trans (b2.mono (al1 w _).size)⟩
set_option maxRecDepth 100000 in
theorem hproperty_any (h : SchAt w ov ev s) (f : Fld) : Calls Tryz.prog 96 #[.agg #[ov, ev], fldV f] w fun e w' => e = .returned (.bool (prpS s f)) ∧ Below w.heap.size w w' := by
  have PL := fun o o' => henum_any (h.on (al2 w o o')) f.t
  have SC := fun w1 => hscalar_any f.t w1
  obtain ⟨a, c, rfl, _, _⟩ := h.os.slice
  obtain ⟨a', c', rfl, _, _⟩ := h.es.slice
  unfold prpS
  obtain ⟨fn, ft, fw, fs, fi⟩ := f
  cases hs : scaS ft with
  | true =>
    simp only [hs] at SC
    go_enter Tryz.func96, Tryz.ntmps96
    go_wp2_with (first
      | (go_at_call 105; (with_reducible refine (SC _).mono ?_); rintro e w2 ⟨rfl, rfl⟩)
      | fail)
    go_ret
    exact ⟨rfl, al2 w _ _⟩
  | false =>
    simp only [hs] at SC
    generalize enuS s ft = k at *
    go_enter Tryz.func96, Tryz.ntmps96
    go_wp2_with (first
      | (go_at_call 115; (with_reducible refine (PL _ _).mono ?_); rintro e w3 ⟨rfl, b3⟩)
      | (go_at_call 105; (with_reducible refine (SC _).mono ?_); rintro e w2 ⟨rfl, rfl⟩)
      | fail)
    go_ret
    exact ⟨by simp, (al2 w _ _).trans (b3.mono (al2 w _ _).size)⟩
set_option maxRecDepth 100000 in
theorem hedge_any (h : SchAt w ov ev s) (f : Fld) : Calls Tryz.prog 48 #[.agg #[ov, ev], fldV f] w fun e w' => e = .returned (.int .i64 (edgS s f)) ∧ Below w.heap.size w w' := by
  have PR := fun o o' => hproperty_any (h.on (al2 w o o')) f
  have OB := fun w2 (b : Below w.heap.size w w2) => hobject_any (h.on b) f.t
  obtain ⟨a, c, rfl, _, _⟩ := h.os.slice
  obtain ⟨a', c', rfl, _, _⟩ := h.es.slice
  unfold edgS
  obtain ⟨fn, ft, fw, fs, fi⟩ := f
  cases hs : prpS s ⟨fn, ft, fw, fs, fi⟩ with
  | true =>
    simp only [hs] at PR
    go_enter Tryz.func48, Tryz.ntmps48
    go_wp2_with (first
      | (go_at_call 96; (with_reducible refine (PR _ _).mono ?_); rintro e w2 ⟨rfl, b2⟩)
      | fail)
    go_ret
    exact ⟨rfl, (al2 w _ _).trans (b2.mono (al2 w _ _).size)⟩
  | false =>
    simp only [hs] at PR
    go_enter Tryz.func48, Tryz.ntmps48
    go_wp2_with (first
      | (go_at_call 90; (with_reducible refine (OB _ B2).mono ?_); rintro e w3 ⟨rfl, b3⟩)
      | (go_at_call 96; (with_reducible refine (PR _ _).mono ?_); rintro e w2 ⟨rfl, b2⟩; have B2 := (al2 w _ _).trans (b2.mono (al2 w _ _).size); obtain ⟨m0, m1, fm⟩ := row2 ((b2.block _ (by rw [World.size_alloc, World.size_alloc]; omega)).trans (new1 w (.cells #[.slice a s.os.length c, .slice a' s.es.length c'] 25) (.cells #[.string ⟨fn.toArray⟩, .string ⟨ft.toArray⟩, .string ⟨fw.toArray⟩, .bool fs, .string ⟨fi.toArray⟩] 56))); obtain ⟨n0, n1, n2, n3, n4, fn5⟩ := row5 ((b2.block _ (by rw [World.size_alloc, World.size_alloc]; omega)).trans (new2 w (.cells #[.slice a s.os.length c, .slice a' s.es.length c'] 25) (.cells #[.string ⟨fn.toArray⟩, .string ⟨ft.toArray⟩, .string ⟨fw.toArray⟩, .bool fs, .string ⟨fi.toArray⟩] 56))))
      | fail)
    go_ret
    exact ⟨by simp, B2.trans (b3.mono B2.size)⟩
end
end Go.Proofs.YtamkjpfomaapgaaGreatDoor
