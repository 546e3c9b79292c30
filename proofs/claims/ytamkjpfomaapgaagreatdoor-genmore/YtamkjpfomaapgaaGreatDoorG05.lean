/- An object's own six definitions. -/
import Derived.Test.YtamkjpfomaapgaaGreatDoorG02
namespace Go.Proofs.YtamkjpfomaapgaaGreatDoor
open Go Go.RowKit Go.Shelf
abbrev o24 : Obj := (.cells #[.string ⟨#[105, 100]⟩, .string ⟨#[73, 68]⟩, .string ⟨#[33]⟩, .slice none 0 0] 41)
abbrev o30 : Obj := (.cells #[.string ⟨#[105, 100]⟩] 9)
abbrev o43 (on : Bs) : Obj := .cells #[.string ⟨#[97, 115, 99]⟩, .string (⟨on.toArray⟩ ++ ⟨#[79, 114, 100, 101, 114, 97, 98, 108, 101]⟩), .string ⟨#[]⟩, .string ⟨#[100, 101, 115, 99]⟩, .string (⟨on.toArray⟩ ++ ⟨#[79, 114, 100, 101, 114, 97, 98, 108, 101]⟩), .string ⟨#[]⟩, .string ⟨#[116, 104, 101, 110]⟩, .string (⟨on.toArray⟩ ++ ⟨#[79, 114, 100, 101, 114]⟩), .string ⟨#[]⟩] 39
abbrev o53 (on : Bs) : Obj := .cells #[.string ⟨#[97, 110, 100]⟩, .string (⟨on.toArray⟩ ++ ⟨#[70, 105, 108, 116, 101, 114]⟩), .string ⟨#[33, 91]⟩, .string ⟨#[111, 114]⟩, .string (⟨on.toArray⟩ ++ ⟨#[70, 105, 108, 116, 101, 114]⟩), .string ⟨#[33, 91]⟩, .string ⟨#[110, 111, 116]⟩, .string (⟨on.toArray⟩ ++ ⟨#[70, 105, 108, 116, 101, 114]⟩), .string ⟨#[]⟩, .string ⟨#[105, 100]⟩, .string ⟨#[73, 68]⟩, .string ⟨#[33, 91]⟩] 39
abbrev l43 (on : Bs) : List Inn := [⟨[97, 115, 99], on ++ cOrderable, []⟩, ⟨[100, 101, 115, 99], on ++ cOrderable, []⟩, ⟨[116, 104, 101, 110], on ++ cOrder, []⟩]
abbrev l53 (on : Bs) : List Inn := [⟨[97, 110, 100], on ++ cFilter, wSome⟩, ⟨[111, 114], on ++ cFilter, wSome⟩, ⟨[110, 111, 116], on ++ cFilter, []⟩, ⟨nId, cID, wSome⟩]
abbrev l24 : List Ot := [⟨nId, cID, wMust, []⟩]
theorem row43 {X : World} {on : Bs} {B g : Nat} (hB : B ≤ g) (h : X.heap[g]? = some (o43 on)) : InR X B (.slice (some ⟨g, 0, none⟩) 3 3) (l43 on) :=
  RowO.lit (fun _ => rfl) hB h (by simp [List.flatMap_cons, ← bytes_add]) rfl (by decide)
theorem row53 {X : World} {on : Bs} {B g : Nat} (hB : B ≤ g) (h : X.heap[g]? = some (o53 on)) : InR X B (.slice (some ⟨g, 0, none⟩) 4 4) (l53 on) :=
  RowO.lit (fun _ => rfl) hB h (by simp [List.flatMap_cons, ← bytes_add]) rfl (by decide)
theorem row30 {X : World} {B g : Nat} (hB : B ≤ g) (h : X.heap[g]? = some o30) : WdR X B (.slice (some ⟨g, 0, none⟩) 1 1) [nId] :=
  RowO.lit (fun _ => rfl) hB h (by simp [List.flatMap_cons]) rfl (by decide)
theorem row24 {X : World} {B g : Nat} (hB : B ≤ g) (h : X.heap[g]? = some o24) : OtR X B (.slice (some ⟨g, 0, none⟩) 1 1) l24 :=
  ⟨[(⟨nId, cID, wMust, []⟩, .slice none 0 0)], rfl, RowO.lit (fun _ => rfl) hB h (by simp [List.flatMap_cons]) rfl (by decide), fun p hp => by
    rw [List.mem_singleton] at hp
    subst hp
    exact RowO.none⟩
theorem OtR.slice {w : World} {B : Nat} {v : Value} {l : List Ot} (h : OtR w B v l) : ∃ p m, v = .slice p l.length m := by
  obtain ⟨lp, rfl, h2, _⟩ := h
  obtain ⟨p, m, e⟩ := h2.slice
  exact ⟨p, m, by rw [e, List.length_map]⟩
theorem OtR.slc {w : World} {B : Nat} {v : Value} {l : List Ot} (h : OtR w B v l) : ∃ p n m, v = .slice p n m := by
  obtain ⟨p, m, e⟩ := h.slice
  exact ⟨p, _, m, e⟩
theorem RowO.slc {α : Type} {f : α → List Value} {sz : Nat} {w : World} {B E : Nat} {v : Value} {l : List α} (h : RowO w B E sz f v l) : ∃ p n m, v = .slice p n m := by
  obtain ⟨p, m, e⟩ := h.slice
  exact ⟨p, _, m, e⟩
def mk3 (s : Sch) (f : Fld) : Bs × Bool := (f.n, decide (edgS s f < 0))
def mk4 (s : Sch) (f : Fld) : Inn × Bool := (⟨f.n, f.t ++ cFilter, []⟩, decide (edgS s f < 0))
def mk5 (s : Sch) (f : Fld) : Inn × Bool := (givP (decide (edgS s f < 0)) f f.w, true)
def mk6 (s : Sch) (f : Fld) : Inn × Bool := (givP (decide (edgS s f < 0)) f [], true)
section
variable {W0 : World} {ov ev : Value} {s : Sch} {S P : Nat} {fs : List Fld}
theorem cl3 (h : Pv W0 ov ev s S P) (f : Fld) (W : World) (_ : f ∈ fs) (b : Below W0.heap.size W0 W) : Calls Tryz.prog 64 (#[fldV f] ++ #[.pointer (some ⟨P, 0, none⟩)]) W fun e W' => e = .returned (.tuple #[.string ⟨(mk3 s f).1.toArray⟩, .bool (mk3 s f).2]) ∧ Below W.heap.size W W' := gof3_any (h.on b) f
theorem cl4 (h : Pv W0 ov ev s S P) (ht : ∀ f ∈ fs, f.t.length ≤ 1000) (f : Fld) (W : World) (hm : f ∈ fs) (b : Below W0.heap.size W0 W) : Calls Tryz.prog 68 (#[fldV f] ++ #[.pointer (some ⟨P, 0, none⟩)]) W fun e W' => e = .returned (.tuple #[innV (mk4 s f).1, .bool (mk4 s f).2]) ∧ Below W.heap.size W W' := gof4_any (h.on b) f (ht f hm)
theorem cl5 (h : Pv W0 ov ev s S P) (f : Fld) (W : World) (_ : f ∈ fs) (b : Below W0.heap.size W0 W) : Calls Tryz.prog 69 (#[fldV f] ++ #[.pointer (some ⟨P, 0, none⟩)]) W fun e W' => e = .returned (.tuple #[innV (mk5 s f).1, .bool (mk5 s f).2]) ∧ Below W.heap.size W W' := gof5_any (h.on b) f
theorem cl6 (h : Pv W0 ov ev s S P) (f : Fld) (W : World) (_ : f ∈ fs) (b : Below W0.heap.size W0 W) : Calls Tryz.prog 71 (#[fldV f] ++ #[.pointer (some ⟨P, 0, none⟩)]) W fun e W' => e = .returned (.tuple #[innV (mk6 s f).1, .bool (mk6 s f).2]) ∧ Below W.heap.size W W' := gof6_any (h.on b) f
end
theorem of_end {z : World} {B : Nat} {s : Sch} {on : Bs} {ofs : List Fld} {v27 v34 v57 v64 v71 v43 : Value} (hB : B ≤ z.heap.size)
    (O27 : OtR z B v27 (l24 ++ ofs.map fldT)) (O34 : WdR z B v34 ([nId] ++ (ofs.filter (fun f => (mk3 s f).2)).map (fun f => (mk3 s f).1))) (O43 : InR z B v43 (l43 on))
    (O57 : InR z B v57 (l53 on ++ (ofs.filter (fun f => (mk4 s f).2)).map (fun f => (mk4 s f).1))) (O64' : InR z B v64 ([] ++ (ofs.filter (fun f => (mk5 s f).2)).map (fun f => (mk5 s f).1))) (O71' : InR z B v71 ([] ++ (ofs.filter (fun f => (mk6 s f).2)).map (fun f => (mk6 s f).1))) :
    DfR (z.alloc (.cells #[.string ⟨on.toArray⟩, .int .i64 2, .slice none 0 0, v27, .slice none 0 0, .string (⟨on.toArray⟩ ++ ⟨#[79, 114, 100, 101, 114, 97, 98, 108, 101]⟩), .int .i64 1, v34, .slice none 0 0, .slice none 0 0, .string (⟨on.toArray⟩ ++ ⟨#[79, 114, 100, 101, 114]⟩), .int .i64 3, .slice none 0 0, .slice none 0 0, v43, .string (⟨on.toArray⟩ ++ ⟨#[70, 105, 108, 116, 101, 114]⟩), .int .i64 3, .slice none 0 0, .slice none 0 0, v57, .string (⟨#[65, 100, 100]⟩ ++ ⟨on.toArray⟩), .int .i64 3, .slice none 0 0, .slice none 0 0, v64, .string (⟨#[80, 97, 116, 99, 104]⟩ ++ ⟨on.toArray⟩), .int .i64 3, .slice none 0 0, .slice none 0 0, v71] 35)) B (.slice (some ⟨z.heap.size, 0, none⟩) 6 6) (objT s ⟨on, ofs⟩) := by
  have eg : ∀ (f : Fld) (c : Bs), givT s f c = givP (decide (edgS s f < 0)) f c := fun f c => by
    unfold givT givP
    by_cases hq : edgS s f < 0 <;> simp [hq]
  have bA := fun o => al1 z o
  have ft : ofs.filter (fun _ => true) = ofs := List.filter_eq_self.2 (fun _ _ => rfl)
  have O64 : InR z B v64 (ofs.map (fun f => givP (decide (edgS s f < 0)) f f.w)) := by
    have q := O64'
    simp only [mk5, ft, List.nil_append] at q
    exact q
  have O71 : InR z B v71 (ofs.map (fun f => givP (decide (edgS s f < 0)) f [])) := by
    have q := O71'
    simp only [mk6, ft, List.nil_append] at q
    exact q
  refine ⟨[(⟨on, 2, [], [], l24 ++ ofs.map fldT⟩, .slice none 0 0, v27, .slice none 0 0), (⟨on ++ cOrderable, 1, [nId] ++ (ofs.filter (fun f => decide (edgS s f < 0))).map (·.n), [], []⟩, v34, .slice none 0 0, .slice none 0 0), (⟨on ++ cOrder, 3, [], l43 on, []⟩, .slice none 0 0, .slice none 0 0, v43), (⟨on ++ cFilter, 3, [], l53 on ++ (ofs.filter (fun f => decide (edgS s f < 0))).map (fun f => ⟨f.n, f.t ++ cFilter, []⟩), []⟩, .slice none 0 0, .slice none 0 0, v57), (⟨cAdd ++ on, 3, [], ofs.map (fun f => givP (decide (edgS s f < 0)) f f.w), []⟩, .slice none 0 0, .slice none 0 0, v64), (⟨cPatch ++ on, 3, [], ofs.map (fun f => givP (decide (edgS s f < 0)) f []), []⟩, .slice none 0 0, .slice none 0 0, v71)], ?_, ?_, ?_⟩
  · unfold objT
    simp only [eg]
    rfl
  · exact RowO.lit (fun _ => rfl) hB (heap_alloc_new z _) (by simp [List.flatMap_cons, ← bytes_add]; exact ⟨bytes_add [65, 100, 100] on, bytes_add [80, 97, 116, 99, 104] on⟩) rfl (by decide)
  · intro p hp
    simp only [List.mem_cons, List.not_mem_nil, or_false] at hp
    rcases hp with rfl | rfl | rfl | rfl | rfl | rfl
    · exact ⟨RowO.none, O27.on (bA _), RowO.none⟩
    · exact ⟨O34.on (bA _), OtR.none, RowO.none⟩
    · exact ⟨RowO.none, OtR.none, O43.on (bA _)⟩
    · exact ⟨RowO.none, OtR.none, O57.on (bA _)⟩
    · exact ⟨RowO.none, OtR.none, O64.on (bA _)⟩
    · exact ⟨RowO.none, OtR.none, O71.on (bA _)⟩
section
variable {w : World} {ov ev : Value} {s : Sch}
set_option maxRecDepth 100000 in
set_option maxHeartbeats 20000000 in
theorem gof_any (h : SchAt w ov ev s) (o : Ob) (a1 : Option Addr) (c1 : Nat) (hf : FldsAt w (.slice a1 o.fs.length c1) o.fs) (hn : o.n.length ≤ 1000) (hl : o.fs.length ≤ 100) (ht : ∀ f ∈ o.fs, f.t.length ≤ 1000) : Calls Tryz.prog 28 #[.agg #[ov, ev], .agg #[.string ⟨o.n.toArray⟩, .slice a1 o.fs.length c1]] w fun e w' => ∃ v, e = .returned v ∧ DfR w' w.heap.size v (objT s o) ∧ Below w.heap.size w w' := by
  obtain ⟨a, c, rfl, _, _⟩ := h.os.slice
  obtain ⟨a', c', rfl, _, _⟩ := h.es.slice
  have h9 : ¬ (9223372036854775807 < o.n.length + 9) := by omega
  have h5 : ¬ (9223372036854775807 < o.n.length + 5) := by omega
  have h6 : ¬ (9223372036854775807 < o.n.length + 6) := by omega
  have h3 : ¬ (9223372036854775807 < 3 + o.n.length) := by omega
  have h5' : ¬ (9223372036854775807 < 5 + o.n.length) := by omega
  obtain ⟨on, ofs⟩ := o
  simp only at *
  have hmf := Tryz.makeFn
  have hsf : ∀ (w : World) (a : Addr) (m : Mode) (fn : Fn) (first cap : Array Value), (store a (.func fn first cap) m).run Tryz.prog w = stored Tryz.prog w a (.func fn first cap) m := fun w a m _ _ _ => run_store Tryz.prog w a _ m rfl
  obtain ⟨W0, hW0⟩ : ∃ W0, W0 = ((w.alloc (.cells #[.slice a s.os.length c, .slice a' s.es.length c'] 25)).alloc (.cells #[.string ⟨on.toArray⟩, .slice a1 ofs.length c1] 54)).alloc (.cells #[prpF w.heap.size] 86) := ⟨_, rfl⟩
  have A0 : Below w.heap.size w W0 := by
    rw [hW0]
    exact (al2 w _ _).trans ((al1 _ _).mono (al2 w _ _).size)
  have Z0 : W0.heap.size = w.heap.size + 3 := by rw [hW0, World.size_alloc, World.size_alloc, World.size_alloc]
  have N1 : W0.heap[w.heap.size]? = some (.cells #[.slice a s.os.length c, .slice a' s.es.length c'] 25) := by
    rw [hW0]
    exact ((al1 _ _).block _ (by simp; omega)).trans (((al1 _ _).block _ (by simp)).trans (heap_alloc_new w _))
  have N2 : W0.heap[w.heap.size + 1]? = some (.cells #[.string ⟨on.toArray⟩, .slice a1 ofs.length c1] 54) := by
    rw [hW0]
    exact ((al1 _ _).block _ (by simp)).trans (new2 w _ _)
  have N3 : W0.heap[w.heap.size + 1 + 1]? = some (.cells #[prpF w.heap.size] 86) := by
    rw [hW0]
    have q := new2 (w.alloc (.cells #[.slice a s.os.length c, .slice a' s.es.length c'] 25)) (.cells #[.string ⟨on.toArray⟩, .slice a1 ofs.length c1] 54) (.cells #[prpF w.heap.size] 86)
    rw [World.size_alloc] at q
    exact q
  obtain ⟨y0, y1, _⟩ := row2 N1
  obtain ⟨x0, x1, _⟩ := row2 N2
  obtain ⟨z0, _⟩ := row1 N3
  have pv : Pv W0 (.slice a s.os.length c) (.slice a' s.es.length c') s w.heap.size (w.heap.size + 1 + 1) := ⟨h.on A0, y0, y1, z0⟩
  have hf0 := hf.on A0
  have nx : ∀ {X Y : World}, Below W0.heap.size W0 X → Below X.heap.size X Y → Below W0.heap.size W0 Y := fun p q => p.trans (q.mono p.size)
  have al : ∀ {X : World} {o : Obj}, Below W0.heap.size W0 X → Below W0.heap.size W0 (X.alloc o) := fun p => p.alloc p.size _
  have DW : Below W0.heap.size W0 W0.drew.drew := bel_dr (bel_dr (Below.refl _ _))
  have XF : ∀ {X : World}, Below W0.heap.size W0 X → (fun w' => w'.cell? ⟨w.heap.size + 1, 1, none⟩ = some (.slice a1 ofs.length c1)) X := fun d => cell_on d x1
  have hl1 : l24.length + ofs.length ≤ 1000 := by simp; omega
  have hl2 : [nId].length + ofs.length ≤ 1000 := by simp; omega
  have hl3 : (l53 on).length + ofs.length ≤ 1000 := by simp; omega
  have hl4 : ([] : List Inn).length + ofs.length ≤ 1000 := by simp; omega
  have HW : Hid (W0 = ((w.alloc (.cells #[.slice a s.os.length c, .slice a' s.es.length c'] 25)).alloc (.cells #[.string ⟨on.toArray⟩, .slice a1 ofs.length c1] 54)).alloc (.cells #[prpF w.heap.size] 86)) := hW0
  have HT : Hid (∀ f ∈ ofs, f.t.length ≤ 1000) := ht
  have ZD : Hid (W0.drew.drew.heap.size = W0.heap.size) := rfl
  have HF : Hid (FldsAt W0 (.slice a1 ofs.length c1) ofs) := hf0
  have HP : Hid (Pv W0 (.slice a s.os.length c) (.slice a' s.es.length c') s w.heap.size (w.heap.size + 1 + 1)) := pv
  have HL : Hid (l24.length + ofs.length ≤ 1000 ∧ [nId].length + ofs.length ≤ 1000 ∧ (l53 on).length + ofs.length ≤ 1000 ∧ ([] : List Inn).length + ofs.length ≤ 1000) := ⟨hl1, hl2, hl3, hl4⟩
  clear Z0 hW0 y0 y1 z0 N1 N2 N3 ht hf h hf0 pv hl1 hl2 hl3 hl4 hl hn
  go_enter Tryz.func28, Tryz.ntmps28
  go_wp2
  rw [← HW.out]
  go_region_held3 (fun w' => w'.cell? ⟨w.heap.size + 1, 0, none⟩ = some (.string ⟨on.toArray⟩)) (go_keep) (fail)
  go_wp2
  refine wp_region_held_drew (S := fun w' => w'.cell? ⟨w.heap.size + 1, 1, none⟩ = some (.slice a1 ofs.length c1)) (by kernel_rfl) ?_ (fun hHeld => ?_)
  · exact XF DW
  refine wpAnyH_take (i := 0) (oi := ⟨some 22, _, _, _, _, _⟩) (v := ?_) rfl (by kernel_rfl) (by kernel_rfl) (by kernel_rfl) (fun _ _ _ h => h) (Or.inl ⟨by rfl, ?_⟩) (by assumption) ?_
  rotate_left
  · intro w' hSw
    (try dsimp only at hSw)
    go_simp
    (try with_reducible rfl)
  try simp only [Act.put, List.setIfInBounds_toArray, List.set_cons_zero, List.set_cons_succ]
  refine wpAnyH_take (i := 3) (oi := ⟨some 25, _, _, _, _, _⟩) (v := ?_) rfl (by kernel_rfl) (by kernel_rfl) (by kernel_rfl) (fun _ _ _ h => h) (Or.inl ⟨by rfl, ?_⟩) (by assumption) ?_
  rotate_left
  · intro w' hSw
    (try dsimp only at hSw)
    go_simp
    (try with_reducible rfl)
  try simp only [Act.put, List.setIfInBounds_toArray, List.set_cons_zero, List.set_cons_succ]
  refine wpAnyH_take (i := 4) (oi := ⟨some 26, _, _, _, _, _⟩) (v := ?_) rfl (by kernel_rfl) (by kernel_rfl) (by kernel_rfl) (fun _ _ _ h => h) (Or.inl ⟨by rfl, ?_⟩) (by assumption) ?_
  rotate_left
  · intro w' hSw
    (try dsimp only at hSw)
    go_simp
    (try with_reducible rfl)
  try simp only [Act.put, List.setIfInBounds_toArray, List.set_cons_zero, List.set_cons_succ]
  refine wpAnyH_take (i := 7) (oi := ⟨some 29, _, _, _, _, _⟩) (v := ?_) rfl (by kernel_rfl) (by kernel_rfl) (by kernel_rfl) (fun _ _ _ h => h) (Or.inl ⟨by rfl, ?_⟩) (by assumption) ?_
  rotate_left
  · intro w' hSw
    (try dsimp only at hSw)
    go_simp
    (try with_reducible rfl)
  try simp only [Act.put, List.setIfInBounds_toArray, List.set_cons_zero, List.set_cons_succ]
  refine wpAnyH_take (i := 9) (oi := ⟨some 31, _, _, _, _, _⟩) (v := ?_) rfl (by kernel_rfl) (by kernel_rfl) (by kernel_rfl) (fun _ _ _ h => h) (Or.inl ⟨by rfl, ?_⟩) (by assumption) ?_
  rotate_left
  · intro w' hSw
    (try dsimp only at hSw)
    go_simp
    (try with_reducible rfl)
  try simp only [Act.put, List.setIfInBounds_toArray, List.set_cons_zero, List.set_cons_succ]
  refine wpAnyH_take (i := 10) (oi := ⟨some 32, _, _, _, _, _⟩) (v := ?_) rfl (by kernel_rfl) (by kernel_rfl) (by kernel_rfl) (fun _ _ _ h => h) (Or.inl ⟨by rfl, ?_⟩) (by assumption) ?_
  rotate_left
  · intro w' hSw
    (try dsimp only at hSw)
    go_simp
    (try with_reducible rfl)
  try simp only [Act.put, List.setIfInBounds_toArray, List.set_cons_zero, List.set_cons_succ]
  refine wpAnyH_take (i := 11) (oi := ⟨some 33, _, _, _, _, _⟩) (v := ?_) rfl (by kernel_rfl) (by kernel_rfl) (by kernel_rfl) (fun _ _ _ h => h) (Or.inl ⟨by rfl, ?_⟩) (by assumption) ?_
  rotate_left
  · intro w' hSw
    (try dsimp only at hSw)
    go_simp
    (try with_reducible rfl)
  try simp only [Act.put, List.setIfInBounds_toArray, List.set_cons_zero, List.set_cons_succ]
  refine wpAnyH_take (i := 14) (oi := ⟨some 36, _, _, _, _, _⟩) (v := ?_) rfl (by kernel_rfl) (by kernel_rfl) (by kernel_rfl) (fun _ _ _ h => h) (Or.inl ⟨by rfl, ?_⟩) (by assumption) ?_
  rotate_left
  · intro w' hSw
    (try dsimp only at hSw)
    go_simp
    (try with_reducible rfl)
  try simp only [Act.put, List.setIfInBounds_toArray, List.set_cons_zero, List.set_cons_succ]
  refine wpAnyH_take (i := 15) (oi := ⟨some 37, _, _, _, _, _⟩) (v := ?_) rfl (by kernel_rfl) (by kernel_rfl) (by kernel_rfl) (fun _ _ _ h => h) (Or.inl ⟨by rfl, ?_⟩) (by assumption) ?_
  rotate_left
  · intro w' hSw
    (try dsimp only at hSw)
    go_simp
    (try with_reducible rfl)
  try simp only [Act.put, List.setIfInBounds_toArray, List.set_cons_zero, List.set_cons_succ]
  refine wpAnyH_take (i := 17) (oi := ⟨some 39, _, _, _, _, _⟩) (v := ?_) rfl (by kernel_rfl) (by kernel_rfl) (by kernel_rfl) (fun _ _ _ h => h) (Or.inl ⟨by rfl, ?_⟩) (by assumption) ?_
  rotate_left
  · intro w' hSw
    (try dsimp only at hSw)
    go_simp
    (try with_reducible rfl)
  try simp only [Act.put, List.setIfInBounds_toArray, List.set_cons_zero, List.set_cons_succ]
  refine wpAnyH_take (i := 19) (oi := ⟨some 41, _, _, _, _, _⟩) (v := ?_) rfl (by kernel_rfl) (by kernel_rfl) (by kernel_rfl) (fun _ _ _ h => h) (Or.inl ⟨by rfl, ?_⟩) (by assumption) ?_
  rotate_left
  · intro w' hSw
    (try dsimp only at hSw)
    go_simp
    (try with_reducible rfl)
  try simp only [Act.put, List.setIfInBounds_toArray, List.set_cons_zero, List.set_cons_succ]
  refine wpAnyH_take (i := 23) (oi := ⟨some 45, _, _, _, _, _⟩) (v := ?_) rfl (by kernel_rfl) (by kernel_rfl) (by kernel_rfl) (fun _ _ _ h => h) (Or.inl ⟨by rfl, ?_⟩) (by assumption) ?_
  rotate_left
  · intro w' hSw
    (try dsimp only at hSw)
    go_simp
    (try with_reducible rfl)
  try simp only [Act.put, List.setIfInBounds_toArray, List.set_cons_zero, List.set_cons_succ]
  refine wpAnyH_take (i := 24) (oi := ⟨some 46, _, _, _, _, _⟩) (v := ?_) rfl (by kernel_rfl) (by kernel_rfl) (by kernel_rfl) (fun _ _ _ h => h) (Or.inl ⟨by rfl, ?_⟩) (by assumption) ?_
  rotate_left
  · intro w' hSw
    (try dsimp only at hSw)
    go_simp
    (try with_reducible rfl)
  try simp only [Act.put, List.setIfInBounds_toArray, List.set_cons_zero, List.set_cons_succ]
  refine wpAnyH_take (i := 26) (oi := ⟨some 48, _, _, _, _, _⟩) (v := ?_) rfl (by kernel_rfl) (by kernel_rfl) (by kernel_rfl) (fun _ _ _ h => h) (Or.inl ⟨by rfl, ?_⟩) (by assumption) ?_
  rotate_left
  · intro w' hSw
    (try dsimp only at hSw)
    go_simp
    (try with_reducible rfl)
  try simp only [Act.put, List.setIfInBounds_toArray, List.set_cons_zero, List.set_cons_succ]
  refine wpAnyH_take (i := 28) (oi := ⟨some 50, _, _, _, _, _⟩) (v := ?_) rfl (by kernel_rfl) (by kernel_rfl) (by kernel_rfl) (fun _ _ _ h => h) (Or.inl ⟨by rfl, ?_⟩) (by assumption) ?_
  rotate_left
  · intro w' hSw
    (try dsimp only at hSw)
    go_simp
    (try with_reducible rfl)
  try simp only [Act.put, List.setIfInBounds_toArray, List.set_cons_zero, List.set_cons_succ]
  refine wpAnyH_take (i := 32) (oi := ⟨some 54, _, _, _, _, _⟩) (v := ?_) rfl (by kernel_rfl) (by kernel_rfl) (by kernel_rfl) (fun _ _ _ h => h) (Or.inl ⟨by rfl, ?_⟩) (by assumption) ?_
  rotate_left
  · intro w' hSw
    (try dsimp only at hSw)
    go_simp
    (try with_reducible rfl)
  try simp only [Act.put, List.setIfInBounds_toArray, List.set_cons_zero, List.set_cons_succ]
  refine wpAnyH_take (i := 33) (oi := ⟨some 55, _, _, _, _, _⟩) (v := ?_) rfl (by kernel_rfl) (by kernel_rfl) (by kernel_rfl) (fun _ _ _ h => h) (Or.inl ⟨by rfl, ?_⟩) (by assumption) ?_
  rotate_left
  · intro w' hSw
    (try dsimp only at hSw)
    go_simp
    (try with_reducible rfl)
  try simp only [Act.put, List.setIfInBounds_toArray, List.set_cons_zero, List.set_cons_succ]
  refine wpAnyH_take (i := 34) (oi := ⟨some 56, _, _, _, _, _⟩) (v := ?_) rfl (by kernel_rfl) (by kernel_rfl) (by kernel_rfl) (fun _ _ _ h => h) (Or.inl ⟨by rfl, ?_⟩) (by assumption) ?_
  rotate_left
  · intro w' hSw
    (try dsimp only at hSw)
    go_simp
    (try with_reducible rfl)
  try simp only [Act.put, List.setIfInBounds_toArray, List.set_cons_zero, List.set_cons_succ]
  refine wpAnyH_take (i := 37) (oi := ⟨some 59, _, _, _, _, _⟩) (v := ?_) rfl (by kernel_rfl) (by kernel_rfl) (by kernel_rfl) (fun _ _ _ h => h) (Or.inl ⟨by rfl, ?_⟩) (by assumption) ?_
  rotate_left
  · intro w' hSw
    (try dsimp only at hSw)
    go_simp
    (try with_reducible rfl)
  try simp only [Act.put, List.setIfInBounds_toArray, List.set_cons_zero, List.set_cons_succ]
  refine wpAnyH_take (i := 38) (oi := ⟨some 60, _, _, _, _, _⟩) (v := ?_) rfl (by kernel_rfl) (by kernel_rfl) (by kernel_rfl) (fun _ _ _ h => h) (Or.inl ⟨by rfl, ?_⟩) (by assumption) ?_
  rotate_left
  · intro w' hSw
    (try dsimp only at hSw)
    go_simp
    (try with_reducible rfl)
  try simp only [Act.put, List.setIfInBounds_toArray, List.set_cons_zero, List.set_cons_succ]
  refine wpAnyH_take (i := 39) (oi := ⟨some 61, _, _, _, _, _⟩) (v := ?_) rfl (by kernel_rfl) (by kernel_rfl) (by kernel_rfl) (fun _ _ _ h => h) (Or.inl ⟨by rfl, ?_⟩) (by assumption) ?_
  rotate_left
  · intro w' hSw
    (try dsimp only at hSw)
    go_simp
    (try with_reducible rfl)
  try simp only [Act.put, List.setIfInBounds_toArray, List.set_cons_zero, List.set_cons_succ]
  refine wpAnyH_take (i := 40) (oi := ⟨some 62, _, _, _, _, _⟩) (v := ?_) rfl (by kernel_rfl) (by kernel_rfl) (by kernel_rfl) (fun _ _ _ h => h) (Or.inl ⟨by rfl, ?_⟩) (by assumption) ?_
  rotate_left
  · intro w' hSw
    (try dsimp only at hSw)
    go_simp
    (try with_reducible rfl)
  try simp only [Act.put, List.setIfInBounds_toArray, List.set_cons_zero, List.set_cons_succ]
  refine wpAnyH_take (i := 41) (oi := ⟨some 63, _, _, _, _, _⟩) (v := ?_) rfl (by kernel_rfl) (by kernel_rfl) (by kernel_rfl) (fun _ _ _ h => h) (Or.inl ⟨by rfl, ?_⟩) (by assumption) ?_
  rotate_left
  · intro w' hSw
    (try dsimp only at hSw)
    go_simp
    (try with_reducible rfl)
  try simp only [Act.put, List.setIfInBounds_toArray, List.set_cons_zero, List.set_cons_succ]
  refine wpAnyH_take (i := 44) (oi := ⟨some 66, _, _, _, _, _⟩) (v := ?_) rfl (by kernel_rfl) (by kernel_rfl) (by kernel_rfl) (fun _ _ _ h => h) (Or.inl ⟨by rfl, ?_⟩) (by assumption) ?_
  rotate_left
  · intro w' hSw
    (try dsimp only at hSw)
    go_simp
    (try with_reducible rfl)
  try simp only [Act.put, List.setIfInBounds_toArray, List.set_cons_zero, List.set_cons_succ]
  refine wpAnyH_take (i := 45) (oi := ⟨some 67, _, _, _, _, _⟩) (v := ?_) rfl (by kernel_rfl) (by kernel_rfl) (by kernel_rfl) (fun _ _ _ h => h) (Or.inl ⟨by rfl, ?_⟩) (by assumption) ?_
  rotate_left
  · intro w' hSw
    (try dsimp only at hSw)
    go_simp
    (try with_reducible rfl)
  try simp only [Act.put, List.setIfInBounds_toArray, List.set_cons_zero, List.set_cons_succ]
  refine wpAnyH_take (i := 46) (oi := ⟨some 68, _, _, _, _, _⟩) (v := ?_) rfl (by kernel_rfl) (by kernel_rfl) (by kernel_rfl) (fun _ _ _ h => h) (Or.inl ⟨by rfl, ?_⟩) (by assumption) ?_
  rotate_left
  · intro w' hSw
    (try dsimp only at hSw)
    go_simp
    (try with_reducible rfl)
  try simp only [Act.put, List.setIfInBounds_toArray, List.set_cons_zero, List.set_cons_succ]
  refine wpAnyH_take (i := 47) (oi := ⟨some 69, _, _, _, _, _⟩) (v := ?_) rfl (by kernel_rfl) (by kernel_rfl) (by kernel_rfl) (fun _ _ _ h => h) (Or.inl ⟨by rfl, ?_⟩) (by assumption) ?_
  rotate_left
  · intro w' hSw
    (try dsimp only at hSw)
    go_simp
    (try with_reducible rfl)
  try simp only [Act.put, List.setIfInBounds_toArray, List.set_cons_zero, List.set_cons_succ]
  refine wpAnyH_take (i := 48) (oi := ⟨some 70, _, _, _, _, _⟩) (v := ?_) rfl (by kernel_rfl) (by kernel_rfl) (by kernel_rfl) (fun _ _ _ h => h) (Or.inl ⟨by rfl, ?_⟩) (by assumption) ?_
  rotate_left
  · intro w' hSw
    (try dsimp only at hSw)
    go_simp
    (try with_reducible rfl)
  try simp only [Act.put, List.setIfInBounds_toArray, List.set_cons_zero, List.set_cons_succ]
  refine wpAnyH_ready (rs := [1, 8]) (by kernel_rfl) (by simp) ?_
  refine AllReadyH.cons (o := ⟨some 23, _, _, _, _, _⟩) rfl (fun K hK => ?_) ?_
  · skip
    go_simp
    go_at_call 34
    (with_reducible refine (gout_any _ _ _ _ _ _ _).mono ?_)
    rintro e y1 ⟨rfl, b1⟩
    have D := nx DW b1
    clear b1
    refine hK.out _ _ ?_ (fun hHeld => ?_)
    · exact XF D
    clear hK K
    try simp only [Act.put, List.setIfInBounds_toArray, List.set_cons_zero, List.set_cons_succ]
    refine wpAnyH_ready (rs := [2, 8]) (by kernel_rfl) (by simp) ?_
    refine AllReadyH.cons (o := ⟨some 24, _, _, _, _, _⟩) rfl (fun K hK => ?_) ?_
    · skip
      go_simp
      refine hK.out _ _ ?_ (fun hHeld => ?_)
      · exact XF (al D)
      clear hK K
      try simp only [Act.put, List.setIfInBounds_toArray, List.set_cons_zero, List.set_cons_succ]
      refine wpAnyH_ready (rs := [5, 8]) (by kernel_rfl) (by simp) ?_
      refine AllReadyH.cons (o := ⟨some 27, _, _, _, _, _⟩) rfl (fun K hK => ?_) ?_
      · skip
        go_simp
        go_at_call 60
        (with_reducible refine (over_Out (B := y1.heap.size) (nx D (al1 _ _)) D.size (al1 _ _).size HF.out HL.out.1 HT.out (row24 (Nat.le_refl _) (heap_alloc_new _ _))).mono ?_)
        rintro e y2 ⟨v27, rfl, O27, G2⟩
        have D2 := (al D).trans ((G2.below (al1 _ _).size).mono D.size)
        replace O27 := O27.base D.size
        replace D := D2
        clear D2 G2
        obtain ⟨p27, n27, m27, rfl⟩ := O27.slc
        refine hK.out _ _ ?_ (fun hHeld => ?_)
        · exact XF D
        clear hK K
        try simp only [Act.put, List.setIfInBounds_toArray, List.set_cons_zero, List.set_cons_succ]
        refine wpAnyH_ready (rs := [6, 8]) (by kernel_rfl) (by simp) ?_
        refine AllReadyH.cons (o := ⟨some 28, _, _, _, _, _⟩) rfl (fun K hK => ?_) ?_
        · skip
          go_simp
          go_at_call 59
          (with_reducible refine (gouts_any _ _ _ _ _).mono ?_)
          rintro e y3 ⟨rfl, b3⟩
          replace O27 := O27.on b3
          replace D := nx D b3
          clear b3
          refine hK.out _ _ ?_ (fun hHeld => ?_)
          · exact XF D
          clear hK K
          try simp only [Act.put, List.setIfInBounds_toArray, List.set_cons_zero, List.set_cons_succ]
          refine wpAnyH_ready (rs := [8]) (by kernel_rfl) (by simp) ?_
          refine AllReadyH.cons (o := ⟨some 30, _, _, _, _, _⟩) rfl (fun K hK => ?_) AllReadyH.nil
          go_simp
          refine hK.out _ _ ?_ (fun hHeld => ?_)
          · exact XF (al D)
          clear hK K
          try simp only [Act.put, List.setIfInBounds_toArray, List.set_cons_zero, List.set_cons_succ]
          refine wpAnyH_ready (rs := [12]) (by kernel_rfl) (by simp) ?_
          refine AllReadyH.cons (o := ⟨some 34, _, _, _, _, _⟩) rfl (fun K hK => ?_) AllReadyH.nil
          go_simp
          go_at_call 63
          (with_reducible refine (over_string 64 #[.pointer (some ⟨w.heap.size + 1 + 1, 0, none⟩)] (mk3 s) (al D) (Nat.le_refl _) (al D).size HF.out HL.out.2.1 (row30 D.size (heap_alloc_new _ o30)) (fun _ _ => rfl) (cl3 HP.out)).mono ?_)
          rintro e y4 ⟨v34, rfl, O34, G4⟩
          replace O27 := (O27.on (al1 _ _)).gt G4 (by decide) (by decide)
          replace D := (al D).trans (G4.below (al D).size)
          clear G4
          obtain ⟨p34, n34, m34, rfl⟩ := RowO.slc O34
          refine hK.out _ _ ?_ (fun hHeld => ?_)
          · exact XF D
          clear hK K
          try simp only [Act.put, List.setIfInBounds_toArray, List.set_cons_zero, List.set_cons_succ]
          refine wpAnyH_ready (rs := [13]) (by kernel_rfl) (by simp) ?_
          refine AllReadyH.cons (o := ⟨some 35, _, _, _, _, _⟩) rfl (fun K hK => ?_) AllReadyH.nil
          go_simp
          go_at_call 26
          (with_reducible refine (gwords_any _ _ _ _ _).mono ?_)
          rintro e y5 ⟨rfl, b5⟩
          replace D := nx D b5
          replace O27 := OtR.on O27 b5
          replace O34 := RowO.on O34 b5
          clear b5
          refine hK.out _ _ ?_ (fun hHeld => ?_)
          · exact XF D
          clear hK K
          try simp only [Act.put, List.setIfInBounds_toArray, List.set_cons_zero, List.set_cons_succ]
          refine wpAnyH_ready (rs := [16]) (by kernel_rfl) (by simp) ?_
          refine AllReadyH.cons (o := ⟨some 38, _, _, _, _, _⟩) rfl (fun K hK => ?_) AllReadyH.nil
          go_simp
          go_at_call 66
          (with_reducible refine (gin_any _ _ _ _).mono ?_)
          rintro e y5 ⟨rfl, b5⟩
          replace D := nx D b5
          replace O27 := OtR.on O27 b5
          replace O34 := RowO.on O34 b5
          clear b5
          refine hK.out _ _ ?_ (fun hHeld => ?_)
          · exact XF D
          clear hK K
          try simp only [Act.put, List.setIfInBounds_toArray, List.set_cons_zero, List.set_cons_succ]
          refine wpAnyH_ready (rs := [18]) (by kernel_rfl) (by simp) ?_
          refine AllReadyH.cons (o := ⟨some 40, _, _, _, _, _⟩) rfl (fun K hK => ?_) AllReadyH.nil
          go_simp
          go_at_call 66
          (with_reducible refine (gin_any _ _ _ _).mono ?_)
          rintro e y5 ⟨rfl, b5⟩
          replace D := nx D b5
          replace O27 := OtR.on O27 b5
          replace O34 := RowO.on O34 b5
          clear b5
          refine hK.out _ _ ?_ (fun hHeld => ?_)
          · exact XF D
          clear hK K
          try simp only [Act.put, List.setIfInBounds_toArray, List.set_cons_zero, List.set_cons_succ]
          refine wpAnyH_ready (rs := [20]) (by kernel_rfl) (by simp) ?_
          refine AllReadyH.cons (o := ⟨some 42, _, _, _, _, _⟩) rfl (fun K hK => ?_) AllReadyH.nil
          go_simp
          go_at_call 66
          (with_reducible refine (gin_any _ _ _ _).mono ?_)
          rintro e y5 ⟨rfl, b5⟩
          replace D := nx D b5
          replace O27 := OtR.on O27 b5
          replace O34 := RowO.on O34 b5
          clear b5
          refine hK.out _ _ ?_ (fun hHeld => ?_)
          · exact XF D
          clear hK K
          try simp only [Act.put, List.setIfInBounds_toArray, List.set_cons_zero, List.set_cons_succ]
          refine wpAnyH_ready (rs := [21]) (by kernel_rfl) (by simp) ?_
          refine AllReadyH.cons (o := ⟨some 43, _, _, _, _, _⟩) rfl (fun K hK => ?_) AllReadyH.nil
          go_simp
          refine hK.out _ _ ?_ (fun hHeld => ?_)
          · exact XF (al D)
          clear hK K
          try simp only [Act.put, List.setIfInBounds_toArray, List.set_cons_zero, List.set_cons_succ]
          refine wpAnyH_ready (rs := [22]) (by kernel_rfl) (by simp) ?_
          refine AllReadyH.cons (o := ⟨some 44, _, _, _, _, _⟩) rfl (fun K hK => ?_) AllReadyH.nil
          go_simp
          go_at_call 65
          (with_reducible refine (gins_any _ _ _ _ _).mono ?_)
          rintro e y7 ⟨rfl, b7⟩
          have O43 := row43 D.size (new_on (o := o43 on) b7)
          replace O27 := OtR.on (OtR.on O27 (al1 _ _)) b7
          replace O34 := RowO.on (RowO.on O34 (al1 _ _)) b7
          replace D := nx (al D) b7
          clear b7
          refine hK.out _ _ ?_ (fun hHeld => ?_)
          · exact XF D
          clear hK K
          try simp only [Act.put, List.setIfInBounds_toArray, List.set_cons_zero, List.set_cons_succ]
          refine wpAnyH_ready (rs := [25]) (by kernel_rfl) (by simp) ?_
          refine AllReadyH.cons (o := ⟨some 47, _, _, _, _, _⟩) rfl (fun K hK => ?_) AllReadyH.nil
          go_simp
          go_at_call 66
          (with_reducible refine (gin_any _ _ _ _).mono ?_)
          rintro e y5 ⟨rfl, b5⟩
          replace D := nx D b5
          replace O27 := OtR.on O27 b5
          replace O34 := RowO.on O34 b5
          replace O43 := RowO.on O43 b5
          clear b5
          refine hK.out _ _ ?_ (fun hHeld => ?_)
          · exact XF D
          clear hK K
          try simp only [Act.put, List.setIfInBounds_toArray, List.set_cons_zero, List.set_cons_succ]
          refine wpAnyH_ready (rs := [27]) (by kernel_rfl) (by simp) ?_
          refine AllReadyH.cons (o := ⟨some 49, _, _, _, _, _⟩) rfl (fun K hK => ?_) AllReadyH.nil
          go_simp
          go_at_call 66
          (with_reducible refine (gin_any _ _ _ _).mono ?_)
          rintro e y5 ⟨rfl, b5⟩
          replace D := nx D b5
          replace O27 := OtR.on O27 b5
          replace O34 := RowO.on O34 b5
          replace O43 := RowO.on O43 b5
          clear b5
          refine hK.out _ _ ?_ (fun hHeld => ?_)
          · exact XF D
          clear hK K
          try simp only [Act.put, List.setIfInBounds_toArray, List.set_cons_zero, List.set_cons_succ]
          refine wpAnyH_ready (rs := [29]) (by kernel_rfl) (by simp) ?_
          refine AllReadyH.cons (o := ⟨some 51, _, _, _, _, _⟩) rfl (fun K hK => ?_) AllReadyH.nil
          go_simp
          go_at_call 66
          (with_reducible refine (gin_any _ _ _ _).mono ?_)
          rintro e y5 ⟨rfl, b5⟩
          replace D := nx D b5
          replace O27 := OtR.on O27 b5
          replace O34 := RowO.on O34 b5
          replace O43 := RowO.on O43 b5
          clear b5
          refine hK.out _ _ ?_ (fun hHeld => ?_)
          · exact XF D
          clear hK K
          try simp only [Act.put, List.setIfInBounds_toArray, List.set_cons_zero, List.set_cons_succ]
          refine wpAnyH_ready (rs := [30]) (by kernel_rfl) (by simp) ?_
          refine AllReadyH.cons (o := ⟨some 52, _, _, _, _, _⟩) rfl (fun K hK => ?_) AllReadyH.nil
          go_simp
          go_at_call 66
          (with_reducible refine (gin_any _ _ _ _).mono ?_)
          rintro e y5 ⟨rfl, b5⟩
          replace D := nx D b5
          replace O27 := OtR.on O27 b5
          replace O34 := RowO.on O34 b5
          replace O43 := RowO.on O43 b5
          clear b5
          refine hK.out _ _ ?_ (fun hHeld => ?_)
          · exact XF D
          clear hK K
          try simp only [Act.put, List.setIfInBounds_toArray, List.set_cons_zero, List.set_cons_succ]
          refine wpAnyH_ready (rs := [31]) (by kernel_rfl) (by simp) ?_
          refine AllReadyH.cons (o := ⟨some 53, _, _, _, _, _⟩) rfl (fun K hK => ?_) AllReadyH.nil
          go_simp
          refine hK.out _ _ ?_ (fun hHeld => ?_)
          · exact XF (al D)
          clear hK K
          try simp only [Act.put, List.setIfInBounds_toArray, List.set_cons_zero, List.set_cons_succ]
          refine wpAnyH_ready (rs := [35]) (by kernel_rfl) (by simp) ?_
          refine AllReadyH.cons (o := ⟨some 57, _, _, _, _, _⟩) rfl (fun K hK => ?_) AllReadyH.nil
          go_simp
          go_at_call 67
          (with_reducible refine (over_In 68 #[.pointer (some ⟨w.heap.size + 1 + 1, 0, none⟩)] (mk4 s) (al (o := o53 on) D) D.size (al1 _ (o53 on)).size HF.out HL.out.2.2.1 (row53 (Nat.le_refl _) (heap_alloc_new _ (o53 on))) (fun _ _ => rfl) (cl4 HP.out HT.out)).mono ?_)
          rintro e y6 ⟨v57, rfl, O57, G6⟩
          have b6 := (al1 _ _).trans (G6.below (al1 _ _).size)
          replace O57 := RowO.base O57 D.size
          obtain ⟨p57, n57, m57, rfl⟩ := RowO.slc O57
          replace O27 := OtR.on O27 b6
          replace O34 := RowO.on O34 b6
          replace O43 := RowO.on O43 b6
          replace D := nx D b6
          clear b6 G6
          refine hK.out _ _ ?_ (fun hHeld => ?_)
          · exact XF D
          clear hK K
          try simp only [Act.put, List.setIfInBounds_toArray, List.set_cons_zero, List.set_cons_succ]
          refine wpAnyH_ready (rs := [36]) (by kernel_rfl) (by simp) ?_
          refine AllReadyH.cons (o := ⟨some 58, _, _, _, _, _⟩) rfl (fun K hK => ?_) AllReadyH.nil
          go_simp
          go_at_call 65
          (with_reducible refine (gins_any _ _ _ _ _).mono ?_)
          rintro e y7 ⟨rfl, b7⟩
          replace O27 := OtR.on O27 b7
          replace O34 := RowO.on O34 b7
          replace O43 := RowO.on O43 b7
          replace O57 := RowO.on O57 b7
          replace D := nx D b7
          clear b7
          refine hK.out _ _ ?_ (fun hHeld => ?_)
          · exact XF D
          clear hK K
          try simp only [Act.put, List.setIfInBounds_toArray, List.set_cons_zero, List.set_cons_succ]
          refine wpAnyH_ready (rs := [42]) (by kernel_rfl) (by simp) ?_
          refine AllReadyH.cons (o := ⟨some 64, _, _, _, _, _⟩) rfl (fun K hK => ?_) AllReadyH.nil
          go_simp
          go_at_call 67
          (with_reducible refine (over_In 69 #[.pointer (some ⟨w.heap.size + 1 + 1, 0, none⟩)] (mk5 s) D D.size (Nat.le_refl _) HF.out HL.out.2.2.2 RowO.none (fun _ _ => rfl) (cl5 HP.out)).mono ?_)
          rintro e y6 ⟨v64, rfl, O64, G6⟩
          have b6 := G6.below (Nat.le_refl _)
          replace O64 := RowO.base O64 D.size
          obtain ⟨p64, n64, m64, rfl⟩ := RowO.slc O64
          replace O27 := OtR.on O27 b6
          replace O34 := RowO.on O34 b6
          replace O43 := RowO.on O43 b6
          replace O57 := RowO.on O57 b6
          replace D := nx D b6
          clear b6 G6
          refine hK.out _ _ ?_ (fun hHeld => ?_)
          · exact XF D
          clear hK K
          try simp only [Act.put, List.setIfInBounds_toArray, List.set_cons_zero, List.set_cons_succ]
          refine wpAnyH_ready (rs := [43]) (by kernel_rfl) (by simp) ?_
          refine AllReadyH.cons (o := ⟨some 65, _, _, _, _, _⟩) rfl (fun K hK => ?_) AllReadyH.nil
          go_simp
          go_at_call 65
          (with_reducible refine (gins_any _ _ _ _ _).mono ?_)
          rintro e y7 ⟨rfl, b7⟩
          replace O27 := OtR.on O27 b7
          replace O34 := RowO.on O34 b7
          replace O43 := RowO.on O43 b7
          replace O57 := RowO.on O57 b7
          replace O64 := RowO.on O64 b7
          replace D := nx D b7
          clear b7
          refine hK.out _ _ ?_ (fun hHeld => ?_)
          · exact XF D
          clear hK K
          try simp only [Act.put, List.setIfInBounds_toArray, List.set_cons_zero, List.set_cons_succ]
          refine wpAnyH_ready (rs := [49]) (by kernel_rfl) (by simp) ?_
          refine AllReadyH.cons (o := ⟨some 71, _, _, _, _, _⟩) rfl (fun K hK => ?_) AllReadyH.nil
          go_simp
          go_at_call 67
          (with_reducible refine (over_In 71 #[.pointer (some ⟨w.heap.size + 1 + 1, 0, none⟩)] (mk6 s) D D.size (Nat.le_refl _) HF.out HL.out.2.2.2 RowO.none (fun _ _ => rfl) (cl6 HP.out)).mono ?_)
          rintro e y6 ⟨v71, rfl, O71, G6⟩
          have b6 := G6.below (Nat.le_refl _)
          replace O71 := RowO.base O71 D.size
          obtain ⟨p71, n71, m71, rfl⟩ := RowO.slc O71
          replace O27 := OtR.on O27 b6
          replace O34 := RowO.on O34 b6
          replace O43 := RowO.on O43 b6
          replace O57 := RowO.on O57 b6
          replace O64 := RowO.on O64 b6
          replace D := nx D b6
          clear b6 G6
          refine hK.out _ _ ?_ (fun hHeld => ?_)
          · exact XF D
          clear hK K
          try simp only [Act.put, List.setIfInBounds_toArray, List.set_cons_zero, List.set_cons_succ]
          refine wpAnyH_ready (rs := [50]) (by kernel_rfl) (by simp) ?_
          refine AllReadyH.cons (o := ⟨some 72, _, _, _, _, _⟩) rfl (fun K hK => ?_) AllReadyH.nil
          go_simp
          go_at_call 65
          (with_reducible refine (gins_any _ _ _ _ _).mono ?_)
          rintro e y7 ⟨rfl, b7⟩
          replace O27 := OtR.on O27 b7
          replace O34 := RowO.on O34 b7
          replace O43 := RowO.on O43 b7
          replace O57 := RowO.on O57 b7
          replace O64 := RowO.on O64 b7
          replace O71 := RowO.on O71 b7
          replace D := nx D b7
          clear b7
          refine hK.out _ _ ?_ (fun hHeld => ?_)
          · exact XF D
          clear hK K
          try simp only [Act.put, List.setIfInBounds_toArray, List.set_cons_zero, List.set_cons_succ]
          refine wpAnyH_ready (rs := [51]) (by kernel_rfl) (by simp) ?_
          refine AllReadyH.cons (o := ⟨some 73, _, _, _, _, _⟩) rfl (fun K hK => ?_) AllReadyH.nil
          go_simp
          refine hK.out _ _ ?_ (fun hHeld => ?_)
          · exact XF (al D)
          clear hK K
          try simp only [Act.put, List.setIfInBounds_toArray, List.set_cons_zero, List.set_cons_succ]
          refine wpAnyH_take (i := 52) (oi := ⟨some 4, _, _, _, _, _⟩) (v := ?_) rfl (by kernel_rfl) (by kernel_rfl) (by kernel_rfl) (fun _ _ _ h => h) (Or.inl ⟨by rfl, ?_⟩) (by assumption) ?_
          rotate_left
          · intro w' hSw
            (try dsimp only at hSw)
            go_simp
            (try with_reducible rfl)
          try simp only [Act.put, List.setIfInBounds_toArray, List.set_cons_zero, List.set_cons_succ]
          refine wpAnyH_done (by kernel_rfl) ?_ _
          go_wp2
          have hZ := Nat.le_trans A0.size D.size
          refine bodyPost_ret (v := .slice (some ⟨y7.heap.size, 0, none⟩) 6 6) (by simp [results, Tryz.results28, go_sem]) rfl ⟨_, rfl, DfR.base (of_end D.size O27 O34 O43 O57 O64 O71) A0.size, A0.trans ((al D).mono A0.size)⟩
        refine AllReadyH.cons (o := ⟨some 30, _, _, _, _, _⟩) rfl (fun K hK => ?_) AllReadyH.nil
        go_simp
        refine hK.out _ _ ?_ (fun hHeld => ?_)
        · exact XF (al D)
        clear hK K
        try simp only [Act.put, List.setIfInBounds_toArray, List.set_cons_zero, List.set_cons_succ]
        refine wpAnyH_ready (rs := [6]) (by kernel_rfl) (by simp) ?_
        refine AllReadyH.cons (o := ⟨some 28, _, _, _, _, _⟩) rfl (fun K hK => ?_) AllReadyH.nil
        go_simp
        go_at_call 59
        (with_reducible refine (gouts_any _ _ _ _ _).mono ?_)
        rintro e y3 ⟨rfl, b3⟩
        have H30 := (b3.block _ (by simp)).trans (heap_alloc_new _ o30)
        have S30 : Hid (W0.heap.size ≤ y2.heap.size) := D.size
        replace O27 := (O27.on (al1 _ _)).on b3
        replace D := nx (al D) b3
        clear b3
        refine hK.out _ _ ?_ (fun hHeld => ?_)
        · exact XF D
        clear hK K
        try simp only [Act.put, List.setIfInBounds_toArray, List.set_cons_zero, List.set_cons_succ]
        refine wpAnyH_ready (rs := [12]) (by kernel_rfl) (by simp) ?_
        refine AllReadyH.cons (o := ⟨some 34, _, _, _, _, _⟩) rfl (fun K hK => ?_) AllReadyH.nil
        go_simp
        go_at_call 63
        (with_reducible refine (over_string 64 #[.pointer (some ⟨w.heap.size + 1 + 1, 0, none⟩)] (mk3 s) D (Nat.le_refl _) D.size HF.out HL.out.2.1 (row30 S30.out H30) (fun _ _ => rfl) (cl3 HP.out)).mono ?_)
        rintro e y4 ⟨v34, rfl, O34, G4⟩
        replace O27 := O27.gt G4 (by decide) (by decide)
        replace D := D.trans (G4.below D.size)
        clear G4
        obtain ⟨p34, n34, m34, rfl⟩ := RowO.slc O34
        refine hK.out _ _ ?_ (fun hHeld => ?_)
        · exact XF D
        clear hK K
        try simp only [Act.put, List.setIfInBounds_toArray, List.set_cons_zero, List.set_cons_succ]
        refine wpAnyH_ready (rs := [13]) (by kernel_rfl) (by simp) ?_
        refine AllReadyH.cons (o := ⟨some 35, _, _, _, _, _⟩) rfl (fun K hK => ?_) AllReadyH.nil
        go_simp
        go_at_call 26
        (with_reducible refine (gwords_any _ _ _ _ _).mono ?_)
        rintro e y5 ⟨rfl, b5⟩
        replace D := nx D b5
        replace O27 := OtR.on O27 b5
        replace O34 := RowO.on O34 b5
        clear b5
        refine hK.out _ _ ?_ (fun hHeld => ?_)
        · exact XF D
        clear hK K
        try simp only [Act.put, List.setIfInBounds_toArray, List.set_cons_zero, List.set_cons_succ]
        refine wpAnyH_ready (rs := [16]) (by kernel_rfl) (by simp) ?_
        refine AllReadyH.cons (o := ⟨some 38, _, _, _, _, _⟩) rfl (fun K hK => ?_) AllReadyH.nil
        go_simp
        go_at_call 66
        (with_reducible refine (gin_any _ _ _ _).mono ?_)
        rintro e y5 ⟨rfl, b5⟩
        replace D := nx D b5
        replace O27 := OtR.on O27 b5
        replace O34 := RowO.on O34 b5
        clear b5
        refine hK.out _ _ ?_ (fun hHeld => ?_)
        · exact XF D
        clear hK K
        try simp only [Act.put, List.setIfInBounds_toArray, List.set_cons_zero, List.set_cons_succ]
        refine wpAnyH_ready (rs := [18]) (by kernel_rfl) (by simp) ?_
        refine AllReadyH.cons (o := ⟨some 40, _, _, _, _, _⟩) rfl (fun K hK => ?_) AllReadyH.nil
        go_simp
        go_at_call 66
        (with_reducible refine (gin_any _ _ _ _).mono ?_)
        rintro e y5 ⟨rfl, b5⟩
        replace D := nx D b5
        replace O27 := OtR.on O27 b5
        replace O34 := RowO.on O34 b5
        clear b5
        refine hK.out _ _ ?_ (fun hHeld => ?_)
        · exact XF D
        clear hK K
        try simp only [Act.put, List.setIfInBounds_toArray, List.set_cons_zero, List.set_cons_succ]
        refine wpAnyH_ready (rs := [20]) (by kernel_rfl) (by simp) ?_
        refine AllReadyH.cons (o := ⟨some 42, _, _, _, _, _⟩) rfl (fun K hK => ?_) AllReadyH.nil
        go_simp
        go_at_call 66
        (with_reducible refine (gin_any _ _ _ _).mono ?_)
        rintro e y5 ⟨rfl, b5⟩
        replace D := nx D b5
        replace O27 := OtR.on O27 b5
        replace O34 := RowO.on O34 b5
        clear b5
        refine hK.out _ _ ?_ (fun hHeld => ?_)
        · exact XF D
        clear hK K
        try simp only [Act.put, List.setIfInBounds_toArray, List.set_cons_zero, List.set_cons_succ]
        refine wpAnyH_ready (rs := [21]) (by kernel_rfl) (by simp) ?_
        refine AllReadyH.cons (o := ⟨some 43, _, _, _, _, _⟩) rfl (fun K hK => ?_) AllReadyH.nil
        go_simp
        refine hK.out _ _ ?_ (fun hHeld => ?_)
        · exact XF (al D)
        clear hK K
        try simp only [Act.put, List.setIfInBounds_toArray, List.set_cons_zero, List.set_cons_succ]
        refine wpAnyH_ready (rs := [22]) (by kernel_rfl) (by simp) ?_
        refine AllReadyH.cons (o := ⟨some 44, _, _, _, _, _⟩) rfl (fun K hK => ?_) AllReadyH.nil
        go_simp
        go_at_call 65
        (with_reducible refine (gins_any _ _ _ _ _).mono ?_)
        rintro e y7 ⟨rfl, b7⟩
        have O43 := row43 D.size (new_on (o := o43 on) b7)
        replace O27 := OtR.on (OtR.on O27 (al1 _ _)) b7
        replace O34 := RowO.on (RowO.on O34 (al1 _ _)) b7
        replace D := nx (al D) b7
        clear b7
        refine hK.out _ _ ?_ (fun hHeld => ?_)
        · exact XF D
        clear hK K
        try simp only [Act.put, List.setIfInBounds_toArray, List.set_cons_zero, List.set_cons_succ]
        refine wpAnyH_ready (rs := [25]) (by kernel_rfl) (by simp) ?_
        refine AllReadyH.cons (o := ⟨some 47, _, _, _, _, _⟩) rfl (fun K hK => ?_) AllReadyH.nil
        go_simp
        go_at_call 66
        (with_reducible refine (gin_any _ _ _ _).mono ?_)
        rintro e y5 ⟨rfl, b5⟩
        replace D := nx D b5
        replace O27 := OtR.on O27 b5
        replace O34 := RowO.on O34 b5
        replace O43 := RowO.on O43 b5
        clear b5
        refine hK.out _ _ ?_ (fun hHeld => ?_)
        · exact XF D
        clear hK K
        try simp only [Act.put, List.setIfInBounds_toArray, List.set_cons_zero, List.set_cons_succ]
        refine wpAnyH_ready (rs := [27]) (by kernel_rfl) (by simp) ?_
        refine AllReadyH.cons (o := ⟨some 49, _, _, _, _, _⟩) rfl (fun K hK => ?_) AllReadyH.nil
        go_simp
        go_at_call 66
        (with_reducible refine (gin_any _ _ _ _).mono ?_)
        rintro e y5 ⟨rfl, b5⟩
        replace D := nx D b5
        replace O27 := OtR.on O27 b5
        replace O34 := RowO.on O34 b5
        replace O43 := RowO.on O43 b5
        clear b5
        refine hK.out _ _ ?_ (fun hHeld => ?_)
        · exact XF D
        clear hK K
        try simp only [Act.put, List.setIfInBounds_toArray, List.set_cons_zero, List.set_cons_succ]
        refine wpAnyH_ready (rs := [29]) (by kernel_rfl) (by simp) ?_
        refine AllReadyH.cons (o := ⟨some 51, _, _, _, _, _⟩) rfl (fun K hK => ?_) AllReadyH.nil
        go_simp
        go_at_call 66
        (with_reducible refine (gin_any _ _ _ _).mono ?_)
        rintro e y5 ⟨rfl, b5⟩
        replace D := nx D b5
        replace O27 := OtR.on O27 b5
        replace O34 := RowO.on O34 b5
        replace O43 := RowO.on O43 b5
        clear b5
        refine hK.out _ _ ?_ (fun hHeld => ?_)
        · exact XF D
        clear hK K
        try simp only [Act.put, List.setIfInBounds_toArray, List.set_cons_zero, List.set_cons_succ]
        refine wpAnyH_ready (rs := [30]) (by kernel_rfl) (by simp) ?_
        refine AllReadyH.cons (o := ⟨some 52, _, _, _, _, _⟩) rfl (fun K hK => ?_) AllReadyH.nil
        go_simp
        go_at_call 66
        (with_reducible refine (gin_any _ _ _ _).mono ?_)
        rintro e y5 ⟨rfl, b5⟩
        replace D := nx D b5
        replace O27 := OtR.on O27 b5
        replace O34 := RowO.on O34 b5
        replace O43 := RowO.on O43 b5
        clear b5
        refine hK.out _ _ ?_ (fun hHeld => ?_)
        · exact XF D
        clear hK K
        try simp only [Act.put, List.setIfInBounds_toArray, List.set_cons_zero, List.set_cons_succ]
        refine wpAnyH_ready (rs := [31]) (by kernel_rfl) (by simp) ?_
        refine AllReadyH.cons (o := ⟨some 53, _, _, _, _, _⟩) rfl (fun K hK => ?_) AllReadyH.nil
        go_simp
        refine hK.out _ _ ?_ (fun hHeld => ?_)
        · exact XF (al D)
        clear hK K
        try simp only [Act.put, List.setIfInBounds_toArray, List.set_cons_zero, List.set_cons_succ]
        refine wpAnyH_ready (rs := [35]) (by kernel_rfl) (by simp) ?_
        refine AllReadyH.cons (o := ⟨some 57, _, _, _, _, _⟩) rfl (fun K hK => ?_) AllReadyH.nil
        go_simp
        go_at_call 67
        (with_reducible refine (over_In 68 #[.pointer (some ⟨w.heap.size + 1 + 1, 0, none⟩)] (mk4 s) (al (o := o53 on) D) D.size (al1 _ (o53 on)).size HF.out HL.out.2.2.1 (row53 (Nat.le_refl _) (heap_alloc_new _ (o53 on))) (fun _ _ => rfl) (cl4 HP.out HT.out)).mono ?_)
        rintro e y6 ⟨v57, rfl, O57, G6⟩
        have b6 := (al1 _ _).trans (G6.below (al1 _ _).size)
        replace O57 := RowO.base O57 D.size
        obtain ⟨p57, n57, m57, rfl⟩ := RowO.slc O57
        replace O27 := OtR.on O27 b6
        replace O34 := RowO.on O34 b6
        replace O43 := RowO.on O43 b6
        replace D := nx D b6
        clear b6 G6
        refine hK.out _ _ ?_ (fun hHeld => ?_)
        · exact XF D
        clear hK K
        try simp only [Act.put, List.setIfInBounds_toArray, List.set_cons_zero, List.set_cons_succ]
        refine wpAnyH_ready (rs := [36]) (by kernel_rfl) (by simp) ?_
        refine AllReadyH.cons (o := ⟨some 58, _, _, _, _, _⟩) rfl (fun K hK => ?_) AllReadyH.nil
        go_simp
        go_at_call 65
        (with_reducible refine (gins_any _ _ _ _ _).mono ?_)
        rintro e y7 ⟨rfl, b7⟩
        replace O27 := OtR.on O27 b7
        replace O34 := RowO.on O34 b7
        replace O43 := RowO.on O43 b7
        replace O57 := RowO.on O57 b7
        replace D := nx D b7
        clear b7
        refine hK.out _ _ ?_ (fun hHeld => ?_)
        · exact XF D
        clear hK K
        try simp only [Act.put, List.setIfInBounds_toArray, List.set_cons_zero, List.set_cons_succ]
        refine wpAnyH_ready (rs := [42]) (by kernel_rfl) (by simp) ?_
        refine AllReadyH.cons (o := ⟨some 64, _, _, _, _, _⟩) rfl (fun K hK => ?_) AllReadyH.nil
        go_simp
        go_at_call 67
        (with_reducible refine (over_In 69 #[.pointer (some ⟨w.heap.size + 1 + 1, 0, none⟩)] (mk5 s) D D.size (Nat.le_refl _) HF.out HL.out.2.2.2 RowO.none (fun _ _ => rfl) (cl5 HP.out)).mono ?_)
        rintro e y6 ⟨v64, rfl, O64, G6⟩
        have b6 := G6.below (Nat.le_refl _)
        replace O64 := RowO.base O64 D.size
        obtain ⟨p64, n64, m64, rfl⟩ := RowO.slc O64
        replace O27 := OtR.on O27 b6
        replace O34 := RowO.on O34 b6
        replace O43 := RowO.on O43 b6
        replace O57 := RowO.on O57 b6
        replace D := nx D b6
        clear b6 G6
        refine hK.out _ _ ?_ (fun hHeld => ?_)
        · exact XF D
        clear hK K
        try simp only [Act.put, List.setIfInBounds_toArray, List.set_cons_zero, List.set_cons_succ]
        refine wpAnyH_ready (rs := [43]) (by kernel_rfl) (by simp) ?_
        refine AllReadyH.cons (o := ⟨some 65, _, _, _, _, _⟩) rfl (fun K hK => ?_) AllReadyH.nil
        go_simp
        go_at_call 65
        (with_reducible refine (gins_any _ _ _ _ _).mono ?_)
        rintro e y7 ⟨rfl, b7⟩
        replace O27 := OtR.on O27 b7
        replace O34 := RowO.on O34 b7
        replace O43 := RowO.on O43 b7
        replace O57 := RowO.on O57 b7
        replace O64 := RowO.on O64 b7
        replace D := nx D b7
        clear b7
        refine hK.out _ _ ?_ (fun hHeld => ?_)
        · exact XF D
        clear hK K
        try simp only [Act.put, List.setIfInBounds_toArray, List.set_cons_zero, List.set_cons_succ]
        refine wpAnyH_ready (rs := [49]) (by kernel_rfl) (by simp) ?_
        refine AllReadyH.cons (o := ⟨some 71, _, _, _, _, _⟩) rfl (fun K hK => ?_) AllReadyH.nil
        go_simp
        go_at_call 67
        (with_reducible refine (over_In 71 #[.pointer (some ⟨w.heap.size + 1 + 1, 0, none⟩)] (mk6 s) D D.size (Nat.le_refl _) HF.out HL.out.2.2.2 RowO.none (fun _ _ => rfl) (cl6 HP.out)).mono ?_)
        rintro e y6 ⟨v71, rfl, O71, G6⟩
        have b6 := G6.below (Nat.le_refl _)
        replace O71 := RowO.base O71 D.size
        obtain ⟨p71, n71, m71, rfl⟩ := RowO.slc O71
        replace O27 := OtR.on O27 b6
        replace O34 := RowO.on O34 b6
        replace O43 := RowO.on O43 b6
        replace O57 := RowO.on O57 b6
        replace O64 := RowO.on O64 b6
        replace D := nx D b6
        clear b6 G6
        refine hK.out _ _ ?_ (fun hHeld => ?_)
        · exact XF D
        clear hK K
        try simp only [Act.put, List.setIfInBounds_toArray, List.set_cons_zero, List.set_cons_succ]
        refine wpAnyH_ready (rs := [50]) (by kernel_rfl) (by simp) ?_
        refine AllReadyH.cons (o := ⟨some 72, _, _, _, _, _⟩) rfl (fun K hK => ?_) AllReadyH.nil
        go_simp
        go_at_call 65
        (with_reducible refine (gins_any _ _ _ _ _).mono ?_)
        rintro e y7 ⟨rfl, b7⟩
        replace O27 := OtR.on O27 b7
        replace O34 := RowO.on O34 b7
        replace O43 := RowO.on O43 b7
        replace O57 := RowO.on O57 b7
        replace O64 := RowO.on O64 b7
        replace O71 := RowO.on O71 b7
        replace D := nx D b7
        clear b7
        refine hK.out _ _ ?_ (fun hHeld => ?_)
        · exact XF D
        clear hK K
        try simp only [Act.put, List.setIfInBounds_toArray, List.set_cons_zero, List.set_cons_succ]
        refine wpAnyH_ready (rs := [51]) (by kernel_rfl) (by simp) ?_
        refine AllReadyH.cons (o := ⟨some 73, _, _, _, _, _⟩) rfl (fun K hK => ?_) AllReadyH.nil
        go_simp
        refine hK.out _ _ ?_ (fun hHeld => ?_)
        · exact XF (al D)
        clear hK K
        try simp only [Act.put, List.setIfInBounds_toArray, List.set_cons_zero, List.set_cons_succ]
        refine wpAnyH_take (i := 52) (oi := ⟨some 4, _, _, _, _, _⟩) (v := ?_) rfl (by kernel_rfl) (by kernel_rfl) (by kernel_rfl) (fun _ _ _ h => h) (Or.inl ⟨by rfl, ?_⟩) (by assumption) ?_
        rotate_left
        · intro w' hSw
          (try dsimp only at hSw)
          go_simp
          (try with_reducible rfl)
        try simp only [Act.put, List.setIfInBounds_toArray, List.set_cons_zero, List.set_cons_succ]
        refine wpAnyH_done (by kernel_rfl) ?_ _
        go_wp2
        have hZ := Nat.le_trans A0.size D.size
        refine bodyPost_ret (v := .slice (some ⟨y7.heap.size, 0, none⟩) 6 6) (by simp [results, Tryz.results28, go_sem]) rfl ⟨_, rfl, DfR.base (of_end D.size O27 O34 O43 O57 O64 O71) A0.size, A0.trans ((al D).mono A0.size)⟩
      refine AllReadyH.cons (o := ⟨some 30, _, _, _, _, _⟩) rfl (fun K hK => ?_) AllReadyH.nil
      go_simp
      refine hK.out _ _ ?_ (fun hHeld => ?_)
      · exact XF (al (al D))
      clear hK K
      try simp only [Act.put, List.setIfInBounds_toArray, List.set_cons_zero, List.set_cons_succ]
      refine wpAnyH_ready (rs := [5]) (by kernel_rfl) (by simp) ?_
      refine AllReadyH.cons (o := ⟨some 27, _, _, _, _, _⟩) rfl (fun K hK => ?_) AllReadyH.nil
      go_simp
      go_at_call 60
      (with_reducible refine (over_Out (B := y1.heap.size) (nx D (al2 y1 o24 o30)) D.size (al2 y1 o24 o30).size HF.out HL.out.1 HT.out (row24 (Nat.le_refl _) (((al1 _ _).block _ (by simp)).trans (heap_alloc_new y1 o24)))).mono ?_)
      rintro e y2 ⟨v27, rfl, O27, G2⟩
      have H30 := G2.block (y1.heap.size + 1) o30 (new2 y1 o24 o30) (Or.inr (by simp))
      have S30 : Hid (W0.heap.size ≤ y1.heap.size + 1) := Nat.le_succ_of_le D.size
      have D2 := (al (al D)).trans ((G2.below (al2 y1 o24 o30).size).mono D.size)
      replace O27 := O27.base D.size
      replace D := D2
      clear D2 G2
      obtain ⟨p27, n27, m27, rfl⟩ := O27.slc
      refine hK.out _ _ ?_ (fun hHeld => ?_)
      · exact XF D
      clear hK K
      try simp only [Act.put, List.setIfInBounds_toArray, List.set_cons_zero, List.set_cons_succ]
      refine wpAnyH_ready (rs := [6]) (by kernel_rfl) (by simp) ?_
      refine AllReadyH.cons (o := ⟨some 28, _, _, _, _, _⟩) rfl (fun K hK => ?_) AllReadyH.nil
      go_simp
      go_at_call 59
      (with_reducible refine (gouts_any _ _ _ _ _).mono ?_)
      rintro e y3 ⟨rfl, b3⟩
      replace H30 := (b3.block _ (lt_of_block H30)).trans H30
      replace O27 := O27.on b3
      replace D := nx D b3
      clear b3
      refine hK.out _ _ ?_ (fun hHeld => ?_)
      · exact XF D
      clear hK K
      try simp only [Act.put, List.setIfInBounds_toArray, List.set_cons_zero, List.set_cons_succ]
      refine wpAnyH_ready (rs := [12]) (by kernel_rfl) (by simp) ?_
      refine AllReadyH.cons (o := ⟨some 34, _, _, _, _, _⟩) rfl (fun K hK => ?_) AllReadyH.nil
      go_simp
      go_at_call 63
      (with_reducible refine (over_string 64 #[.pointer (some ⟨w.heap.size + 1 + 1, 0, none⟩)] (mk3 s) D (Nat.le_refl _) D.size HF.out HL.out.2.1 (row30 S30.out H30) (fun _ _ => rfl) (cl3 HP.out)).mono ?_)
      rintro e y4 ⟨v34, rfl, O34, G4⟩
      replace O27 := O27.gt G4 (by decide) (by decide)
      replace D := D.trans (G4.below D.size)
      clear G4
      obtain ⟨p34, n34, m34, rfl⟩ := RowO.slc O34
      refine hK.out _ _ ?_ (fun hHeld => ?_)
      · exact XF D
      clear hK K
      try simp only [Act.put, List.setIfInBounds_toArray, List.set_cons_zero, List.set_cons_succ]
      refine wpAnyH_ready (rs := [13]) (by kernel_rfl) (by simp) ?_
      refine AllReadyH.cons (o := ⟨some 35, _, _, _, _, _⟩) rfl (fun K hK => ?_) AllReadyH.nil
      go_simp
      go_at_call 26
      (with_reducible refine (gwords_any _ _ _ _ _).mono ?_)
      rintro e y5 ⟨rfl, b5⟩
      replace D := nx D b5
      replace O27 := OtR.on O27 b5
      replace O34 := RowO.on O34 b5
      clear b5
      refine hK.out _ _ ?_ (fun hHeld => ?_)
      · exact XF D
      clear hK K
      try simp only [Act.put, List.setIfInBounds_toArray, List.set_cons_zero, List.set_cons_succ]
      refine wpAnyH_ready (rs := [16]) (by kernel_rfl) (by simp) ?_
      refine AllReadyH.cons (o := ⟨some 38, _, _, _, _, _⟩) rfl (fun K hK => ?_) AllReadyH.nil
      go_simp
      go_at_call 66
      (with_reducible refine (gin_any _ _ _ _).mono ?_)
      rintro e y5 ⟨rfl, b5⟩
      replace D := nx D b5
      replace O27 := OtR.on O27 b5
      replace O34 := RowO.on O34 b5
      clear b5
      refine hK.out _ _ ?_ (fun hHeld => ?_)
      · exact XF D
      clear hK K
      try simp only [Act.put, List.setIfInBounds_toArray, List.set_cons_zero, List.set_cons_succ]
      refine wpAnyH_ready (rs := [18]) (by kernel_rfl) (by simp) ?_
      refine AllReadyH.cons (o := ⟨some 40, _, _, _, _, _⟩) rfl (fun K hK => ?_) AllReadyH.nil
      go_simp
      go_at_call 66
      (with_reducible refine (gin_any _ _ _ _).mono ?_)
      rintro e y5 ⟨rfl, b5⟩
      replace D := nx D b5
      replace O27 := OtR.on O27 b5
      replace O34 := RowO.on O34 b5
      clear b5
      refine hK.out _ _ ?_ (fun hHeld => ?_)
      · exact XF D
      clear hK K
      try simp only [Act.put, List.setIfInBounds_toArray, List.set_cons_zero, List.set_cons_succ]
      refine wpAnyH_ready (rs := [20]) (by kernel_rfl) (by simp) ?_
      refine AllReadyH.cons (o := ⟨some 42, _, _, _, _, _⟩) rfl (fun K hK => ?_) AllReadyH.nil
      go_simp
      go_at_call 66
      (with_reducible refine (gin_any _ _ _ _).mono ?_)
      rintro e y5 ⟨rfl, b5⟩
      replace D := nx D b5
      replace O27 := OtR.on O27 b5
      replace O34 := RowO.on O34 b5
      clear b5
      refine hK.out _ _ ?_ (fun hHeld => ?_)
      · exact XF D
      clear hK K
      try simp only [Act.put, List.setIfInBounds_toArray, List.set_cons_zero, List.set_cons_succ]
      refine wpAnyH_ready (rs := [21]) (by kernel_rfl) (by simp) ?_
      refine AllReadyH.cons (o := ⟨some 43, _, _, _, _, _⟩) rfl (fun K hK => ?_) AllReadyH.nil
      go_simp
      refine hK.out _ _ ?_ (fun hHeld => ?_)
      · exact XF (al D)
      clear hK K
      try simp only [Act.put, List.setIfInBounds_toArray, List.set_cons_zero, List.set_cons_succ]
      refine wpAnyH_ready (rs := [22]) (by kernel_rfl) (by simp) ?_
      refine AllReadyH.cons (o := ⟨some 44, _, _, _, _, _⟩) rfl (fun K hK => ?_) AllReadyH.nil
      go_simp
      go_at_call 65
      (with_reducible refine (gins_any _ _ _ _ _).mono ?_)
      rintro e y7 ⟨rfl, b7⟩
      have O43 := row43 D.size (new_on (o := o43 on) b7)
      replace O27 := OtR.on (OtR.on O27 (al1 _ _)) b7
      replace O34 := RowO.on (RowO.on O34 (al1 _ _)) b7
      replace D := nx (al D) b7
      clear b7
      refine hK.out _ _ ?_ (fun hHeld => ?_)
      · exact XF D
      clear hK K
      try simp only [Act.put, List.setIfInBounds_toArray, List.set_cons_zero, List.set_cons_succ]
      refine wpAnyH_ready (rs := [25]) (by kernel_rfl) (by simp) ?_
      refine AllReadyH.cons (o := ⟨some 47, _, _, _, _, _⟩) rfl (fun K hK => ?_) AllReadyH.nil
      go_simp
      go_at_call 66
      (with_reducible refine (gin_any _ _ _ _).mono ?_)
      rintro e y5 ⟨rfl, b5⟩
      replace D := nx D b5
      replace O27 := OtR.on O27 b5
      replace O34 := RowO.on O34 b5
      replace O43 := RowO.on O43 b5
      clear b5
      refine hK.out _ _ ?_ (fun hHeld => ?_)
      · exact XF D
      clear hK K
      try simp only [Act.put, List.setIfInBounds_toArray, List.set_cons_zero, List.set_cons_succ]
      refine wpAnyH_ready (rs := [27]) (by kernel_rfl) (by simp) ?_
      refine AllReadyH.cons (o := ⟨some 49, _, _, _, _, _⟩) rfl (fun K hK => ?_) AllReadyH.nil
      go_simp
      go_at_call 66
      (with_reducible refine (gin_any _ _ _ _).mono ?_)
      rintro e y5 ⟨rfl, b5⟩
      replace D := nx D b5
      replace O27 := OtR.on O27 b5
      replace O34 := RowO.on O34 b5
      replace O43 := RowO.on O43 b5
      clear b5
      refine hK.out _ _ ?_ (fun hHeld => ?_)
      · exact XF D
      clear hK K
      try simp only [Act.put, List.setIfInBounds_toArray, List.set_cons_zero, List.set_cons_succ]
      refine wpAnyH_ready (rs := [29]) (by kernel_rfl) (by simp) ?_
      refine AllReadyH.cons (o := ⟨some 51, _, _, _, _, _⟩) rfl (fun K hK => ?_) AllReadyH.nil
      go_simp
      go_at_call 66
      (with_reducible refine (gin_any _ _ _ _).mono ?_)
      rintro e y5 ⟨rfl, b5⟩
      replace D := nx D b5
      replace O27 := OtR.on O27 b5
      replace O34 := RowO.on O34 b5
      replace O43 := RowO.on O43 b5
      clear b5
      refine hK.out _ _ ?_ (fun hHeld => ?_)
      · exact XF D
      clear hK K
      try simp only [Act.put, List.setIfInBounds_toArray, List.set_cons_zero, List.set_cons_succ]
      refine wpAnyH_ready (rs := [30]) (by kernel_rfl) (by simp) ?_
      refine AllReadyH.cons (o := ⟨some 52, _, _, _, _, _⟩) rfl (fun K hK => ?_) AllReadyH.nil
      go_simp
      go_at_call 66
      (with_reducible refine (gin_any _ _ _ _).mono ?_)
      rintro e y5 ⟨rfl, b5⟩
      replace D := nx D b5
      replace O27 := OtR.on O27 b5
      replace O34 := RowO.on O34 b5
      replace O43 := RowO.on O43 b5
      clear b5
      refine hK.out _ _ ?_ (fun hHeld => ?_)
      · exact XF D
      clear hK K
      try simp only [Act.put, List.setIfInBounds_toArray, List.set_cons_zero, List.set_cons_succ]
      refine wpAnyH_ready (rs := [31]) (by kernel_rfl) (by simp) ?_
      refine AllReadyH.cons (o := ⟨some 53, _, _, _, _, _⟩) rfl (fun K hK => ?_) AllReadyH.nil
      go_simp
      refine hK.out _ _ ?_ (fun hHeld => ?_)
      · exact XF (al D)
      clear hK K
      try simp only [Act.put, List.setIfInBounds_toArray, List.set_cons_zero, List.set_cons_succ]
      refine wpAnyH_ready (rs := [35]) (by kernel_rfl) (by simp) ?_
      refine AllReadyH.cons (o := ⟨some 57, _, _, _, _, _⟩) rfl (fun K hK => ?_) AllReadyH.nil
      go_simp
      go_at_call 67
      (with_reducible refine (over_In 68 #[.pointer (some ⟨w.heap.size + 1 + 1, 0, none⟩)] (mk4 s) (al (o := o53 on) D) D.size (al1 _ (o53 on)).size HF.out HL.out.2.2.1 (row53 (Nat.le_refl _) (heap_alloc_new _ (o53 on))) (fun _ _ => rfl) (cl4 HP.out HT.out)).mono ?_)
      rintro e y6 ⟨v57, rfl, O57, G6⟩
      have b6 := (al1 _ _).trans (G6.below (al1 _ _).size)
      replace O57 := RowO.base O57 D.size
      obtain ⟨p57, n57, m57, rfl⟩ := RowO.slc O57
      replace O27 := OtR.on O27 b6
      replace O34 := RowO.on O34 b6
      replace O43 := RowO.on O43 b6
      replace D := nx D b6
      clear b6 G6
      refine hK.out _ _ ?_ (fun hHeld => ?_)
      · exact XF D
      clear hK K
      try simp only [Act.put, List.setIfInBounds_toArray, List.set_cons_zero, List.set_cons_succ]
      refine wpAnyH_ready (rs := [36]) (by kernel_rfl) (by simp) ?_
      refine AllReadyH.cons (o := ⟨some 58, _, _, _, _, _⟩) rfl (fun K hK => ?_) AllReadyH.nil
      go_simp
      go_at_call 65
      (with_reducible refine (gins_any _ _ _ _ _).mono ?_)
      rintro e y7 ⟨rfl, b7⟩
      replace O27 := OtR.on O27 b7
      replace O34 := RowO.on O34 b7
      replace O43 := RowO.on O43 b7
      replace O57 := RowO.on O57 b7
      replace D := nx D b7
      clear b7
      refine hK.out _ _ ?_ (fun hHeld => ?_)
      · exact XF D
      clear hK K
      try simp only [Act.put, List.setIfInBounds_toArray, List.set_cons_zero, List.set_cons_succ]
      refine wpAnyH_ready (rs := [42]) (by kernel_rfl) (by simp) ?_
      refine AllReadyH.cons (o := ⟨some 64, _, _, _, _, _⟩) rfl (fun K hK => ?_) AllReadyH.nil
      go_simp
      go_at_call 67
      (with_reducible refine (over_In 69 #[.pointer (some ⟨w.heap.size + 1 + 1, 0, none⟩)] (mk5 s) D D.size (Nat.le_refl _) HF.out HL.out.2.2.2 RowO.none (fun _ _ => rfl) (cl5 HP.out)).mono ?_)
      rintro e y6 ⟨v64, rfl, O64, G6⟩
      have b6 := G6.below (Nat.le_refl _)
      replace O64 := RowO.base O64 D.size
      obtain ⟨p64, n64, m64, rfl⟩ := RowO.slc O64
      replace O27 := OtR.on O27 b6
      replace O34 := RowO.on O34 b6
      replace O43 := RowO.on O43 b6
      replace O57 := RowO.on O57 b6
      replace D := nx D b6
      clear b6 G6
      refine hK.out _ _ ?_ (fun hHeld => ?_)
      · exact XF D
      clear hK K
      try simp only [Act.put, List.setIfInBounds_toArray, List.set_cons_zero, List.set_cons_succ]
      refine wpAnyH_ready (rs := [43]) (by kernel_rfl) (by simp) ?_
      refine AllReadyH.cons (o := ⟨some 65, _, _, _, _, _⟩) rfl (fun K hK => ?_) AllReadyH.nil
      go_simp
      go_at_call 65
      (with_reducible refine (gins_any _ _ _ _ _).mono ?_)
      rintro e y7 ⟨rfl, b7⟩
      replace O27 := OtR.on O27 b7
      replace O34 := RowO.on O34 b7
      replace O43 := RowO.on O43 b7
      replace O57 := RowO.on O57 b7
      replace O64 := RowO.on O64 b7
      replace D := nx D b7
      clear b7
      refine hK.out _ _ ?_ (fun hHeld => ?_)
      · exact XF D
      clear hK K
      try simp only [Act.put, List.setIfInBounds_toArray, List.set_cons_zero, List.set_cons_succ]
      refine wpAnyH_ready (rs := [49]) (by kernel_rfl) (by simp) ?_
      refine AllReadyH.cons (o := ⟨some 71, _, _, _, _, _⟩) rfl (fun K hK => ?_) AllReadyH.nil
      go_simp
      go_at_call 67
      (with_reducible refine (over_In 71 #[.pointer (some ⟨w.heap.size + 1 + 1, 0, none⟩)] (mk6 s) D D.size (Nat.le_refl _) HF.out HL.out.2.2.2 RowO.none (fun _ _ => rfl) (cl6 HP.out)).mono ?_)
      rintro e y6 ⟨v71, rfl, O71, G6⟩
      have b6 := G6.below (Nat.le_refl _)
      replace O71 := RowO.base O71 D.size
      obtain ⟨p71, n71, m71, rfl⟩ := RowO.slc O71
      replace O27 := OtR.on O27 b6
      replace O34 := RowO.on O34 b6
      replace O43 := RowO.on O43 b6
      replace O57 := RowO.on O57 b6
      replace O64 := RowO.on O64 b6
      replace D := nx D b6
      clear b6 G6
      refine hK.out _ _ ?_ (fun hHeld => ?_)
      · exact XF D
      clear hK K
      try simp only [Act.put, List.setIfInBounds_toArray, List.set_cons_zero, List.set_cons_succ]
      refine wpAnyH_ready (rs := [50]) (by kernel_rfl) (by simp) ?_
      refine AllReadyH.cons (o := ⟨some 72, _, _, _, _, _⟩) rfl (fun K hK => ?_) AllReadyH.nil
      go_simp
      go_at_call 65
      (with_reducible refine (gins_any _ _ _ _ _).mono ?_)
      rintro e y7 ⟨rfl, b7⟩
      replace O27 := OtR.on O27 b7
      replace O34 := RowO.on O34 b7
      replace O43 := RowO.on O43 b7
      replace O57 := RowO.on O57 b7
      replace O64 := RowO.on O64 b7
      replace O71 := RowO.on O71 b7
      replace D := nx D b7
      clear b7
      refine hK.out _ _ ?_ (fun hHeld => ?_)
      · exact XF D
      clear hK K
      try simp only [Act.put, List.setIfInBounds_toArray, List.set_cons_zero, List.set_cons_succ]
      refine wpAnyH_ready (rs := [51]) (by kernel_rfl) (by simp) ?_
      refine AllReadyH.cons (o := ⟨some 73, _, _, _, _, _⟩) rfl (fun K hK => ?_) AllReadyH.nil
      go_simp
      refine hK.out _ _ ?_ (fun hHeld => ?_)
      · exact XF (al D)
      clear hK K
      try simp only [Act.put, List.setIfInBounds_toArray, List.set_cons_zero, List.set_cons_succ]
      refine wpAnyH_take (i := 52) (oi := ⟨some 4, _, _, _, _, _⟩) (v := ?_) rfl (by kernel_rfl) (by kernel_rfl) (by kernel_rfl) (fun _ _ _ h => h) (Or.inl ⟨by rfl, ?_⟩) (by assumption) ?_
      rotate_left
      · intro w' hSw
        (try dsimp only at hSw)
        go_simp
        (try with_reducible rfl)
      try simp only [Act.put, List.setIfInBounds_toArray, List.set_cons_zero, List.set_cons_succ]
      refine wpAnyH_done (by kernel_rfl) ?_ _
      go_wp2
      have hZ := Nat.le_trans A0.size D.size
      refine bodyPost_ret (v := .slice (some ⟨y7.heap.size, 0, none⟩) 6 6) (by simp [results, Tryz.results28, go_sem]) rfl ⟨_, rfl, DfR.base (of_end D.size O27 O34 O43 O57 O64 O71) A0.size, A0.trans ((al D).mono A0.size)⟩
    refine AllReadyH.cons (o := ⟨some 30, _, _, _, _, _⟩) rfl (fun K hK => ?_) AllReadyH.nil
    go_simp
    refine hK.out _ _ ?_ (fun hHeld => ?_)
    · exact XF (al D)
    clear hK K
    try simp only [Act.put, List.setIfInBounds_toArray, List.set_cons_zero, List.set_cons_succ]
    refine wpAnyH_ready (rs := [2]) (by kernel_rfl) (by simp) ?_
    refine AllReadyH.cons (o := ⟨some 24, _, _, _, _, _⟩) rfl (fun K hK => ?_) AllReadyH.nil
    go_simp
    refine hK.out _ _ ?_ (fun hHeld => ?_)
    · exact XF (al (al D))
    clear hK K
    try simp only [Act.put, List.setIfInBounds_toArray, List.set_cons_zero, List.set_cons_succ]
    refine wpAnyH_ready (rs := [5]) (by kernel_rfl) (by simp) ?_
    refine AllReadyH.cons (o := ⟨some 27, _, _, _, _, _⟩) rfl (fun K hK => ?_) AllReadyH.nil
    go_simp
    go_at_call 60
    (with_reducible refine (over_Out (B := y1.heap.size) (nx D (al2 y1 o30 o24)) D.size (al2 y1 o30 o24).size HF.out HL.out.1 HT.out (row24 (Nat.le_succ _) (new2 y1 o30 o24))).mono ?_)
    rintro e y2 ⟨v27, rfl, O27, G2⟩
    have H30 := G2.block y1.heap.size o30 (((al1 _ _).block _ (by simp)).trans (heap_alloc_new y1 o30)) (Or.inr (by simp))
    have S30 : Hid (W0.heap.size ≤ y1.heap.size) := D.size
    have D2 := (al (al D)).trans ((G2.below (al2 y1 o30 o24).size).mono D.size)
    replace O27 := O27.base D.size
    replace D := D2
    clear D2 G2
    obtain ⟨p27, n27, m27, rfl⟩ := O27.slc
    refine hK.out _ _ ?_ (fun hHeld => ?_)
    · exact XF D
    clear hK K
    try simp only [Act.put, List.setIfInBounds_toArray, List.set_cons_zero, List.set_cons_succ]
    refine wpAnyH_ready (rs := [6]) (by kernel_rfl) (by simp) ?_
    refine AllReadyH.cons (o := ⟨some 28, _, _, _, _, _⟩) rfl (fun K hK => ?_) AllReadyH.nil
    go_simp
    go_at_call 59
    (with_reducible refine (gouts_any _ _ _ _ _).mono ?_)
    rintro e y3 ⟨rfl, b3⟩
    replace H30 := (b3.block _ (lt_of_block H30)).trans H30
    replace O27 := O27.on b3
    replace D := nx D b3
    clear b3
    refine hK.out _ _ ?_ (fun hHeld => ?_)
    · exact XF D
    clear hK K
    try simp only [Act.put, List.setIfInBounds_toArray, List.set_cons_zero, List.set_cons_succ]
    refine wpAnyH_ready (rs := [12]) (by kernel_rfl) (by simp) ?_
    refine AllReadyH.cons (o := ⟨some 34, _, _, _, _, _⟩) rfl (fun K hK => ?_) AllReadyH.nil
    go_simp
    go_at_call 63
    (with_reducible refine (over_string 64 #[.pointer (some ⟨w.heap.size + 1 + 1, 0, none⟩)] (mk3 s) D (Nat.le_refl _) D.size HF.out HL.out.2.1 (row30 S30.out H30) (fun _ _ => rfl) (cl3 HP.out)).mono ?_)
    rintro e y4 ⟨v34, rfl, O34, G4⟩
    replace O27 := O27.gt G4 (by decide) (by decide)
    replace D := D.trans (G4.below D.size)
    clear G4
    obtain ⟨p34, n34, m34, rfl⟩ := RowO.slc O34
    refine hK.out _ _ ?_ (fun hHeld => ?_)
    · exact XF D
    clear hK K
    try simp only [Act.put, List.setIfInBounds_toArray, List.set_cons_zero, List.set_cons_succ]
    refine wpAnyH_ready (rs := [13]) (by kernel_rfl) (by simp) ?_
    refine AllReadyH.cons (o := ⟨some 35, _, _, _, _, _⟩) rfl (fun K hK => ?_) AllReadyH.nil
    go_simp
    go_at_call 26
    (with_reducible refine (gwords_any _ _ _ _ _).mono ?_)
    rintro e y5 ⟨rfl, b5⟩
    replace D := nx D b5
    replace O27 := OtR.on O27 b5
    replace O34 := RowO.on O34 b5
    clear b5
    refine hK.out _ _ ?_ (fun hHeld => ?_)
    · exact XF D
    clear hK K
    try simp only [Act.put, List.setIfInBounds_toArray, List.set_cons_zero, List.set_cons_succ]
    refine wpAnyH_ready (rs := [16]) (by kernel_rfl) (by simp) ?_
    refine AllReadyH.cons (o := ⟨some 38, _, _, _, _, _⟩) rfl (fun K hK => ?_) AllReadyH.nil
    go_simp
    go_at_call 66
    (with_reducible refine (gin_any _ _ _ _).mono ?_)
    rintro e y5 ⟨rfl, b5⟩
    replace D := nx D b5
    replace O27 := OtR.on O27 b5
    replace O34 := RowO.on O34 b5
    clear b5
    refine hK.out _ _ ?_ (fun hHeld => ?_)
    · exact XF D
    clear hK K
    try simp only [Act.put, List.setIfInBounds_toArray, List.set_cons_zero, List.set_cons_succ]
    refine wpAnyH_ready (rs := [18]) (by kernel_rfl) (by simp) ?_
    refine AllReadyH.cons (o := ⟨some 40, _, _, _, _, _⟩) rfl (fun K hK => ?_) AllReadyH.nil
    go_simp
    go_at_call 66
    (with_reducible refine (gin_any _ _ _ _).mono ?_)
    rintro e y5 ⟨rfl, b5⟩
    replace D := nx D b5
    replace O27 := OtR.on O27 b5
    replace O34 := RowO.on O34 b5
    clear b5
    refine hK.out _ _ ?_ (fun hHeld => ?_)
    · exact XF D
    clear hK K
    try simp only [Act.put, List.setIfInBounds_toArray, List.set_cons_zero, List.set_cons_succ]
    refine wpAnyH_ready (rs := [20]) (by kernel_rfl) (by simp) ?_
    refine AllReadyH.cons (o := ⟨some 42, _, _, _, _, _⟩) rfl (fun K hK => ?_) AllReadyH.nil
    go_simp
    go_at_call 66
    (with_reducible refine (gin_any _ _ _ _).mono ?_)
    rintro e y5 ⟨rfl, b5⟩
    replace D := nx D b5
    replace O27 := OtR.on O27 b5
    replace O34 := RowO.on O34 b5
    clear b5
    refine hK.out _ _ ?_ (fun hHeld => ?_)
    · exact XF D
    clear hK K
    try simp only [Act.put, List.setIfInBounds_toArray, List.set_cons_zero, List.set_cons_succ]
    refine wpAnyH_ready (rs := [21]) (by kernel_rfl) (by simp) ?_
    refine AllReadyH.cons (o := ⟨some 43, _, _, _, _, _⟩) rfl (fun K hK => ?_) AllReadyH.nil
    go_simp
    refine hK.out _ _ ?_ (fun hHeld => ?_)
    · exact XF (al D)
    clear hK K
    try simp only [Act.put, List.setIfInBounds_toArray, List.set_cons_zero, List.set_cons_succ]
    refine wpAnyH_ready (rs := [22]) (by kernel_rfl) (by simp) ?_
    refine AllReadyH.cons (o := ⟨some 44, _, _, _, _, _⟩) rfl (fun K hK => ?_) AllReadyH.nil
    go_simp
    go_at_call 65
    (with_reducible refine (gins_any _ _ _ _ _).mono ?_)
    rintro e y7 ⟨rfl, b7⟩
    have O43 := row43 D.size (new_on (o := o43 on) b7)
    replace O27 := OtR.on (OtR.on O27 (al1 _ _)) b7
    replace O34 := RowO.on (RowO.on O34 (al1 _ _)) b7
    replace D := nx (al D) b7
    clear b7
    refine hK.out _ _ ?_ (fun hHeld => ?_)
    · exact XF D
    clear hK K
    try simp only [Act.put, List.setIfInBounds_toArray, List.set_cons_zero, List.set_cons_succ]
    refine wpAnyH_ready (rs := [25]) (by kernel_rfl) (by simp) ?_
    refine AllReadyH.cons (o := ⟨some 47, _, _, _, _, _⟩) rfl (fun K hK => ?_) AllReadyH.nil
    go_simp
    go_at_call 66
    (with_reducible refine (gin_any _ _ _ _).mono ?_)
    rintro e y5 ⟨rfl, b5⟩
    replace D := nx D b5
    replace O27 := OtR.on O27 b5
    replace O34 := RowO.on O34 b5
    replace O43 := RowO.on O43 b5
    clear b5
    refine hK.out _ _ ?_ (fun hHeld => ?_)
    · exact XF D
    clear hK K
    try simp only [Act.put, List.setIfInBounds_toArray, List.set_cons_zero, List.set_cons_succ]
    refine wpAnyH_ready (rs := [27]) (by kernel_rfl) (by simp) ?_
    refine AllReadyH.cons (o := ⟨some 49, _, _, _, _, _⟩) rfl (fun K hK => ?_) AllReadyH.nil
    go_simp
    go_at_call 66
    (with_reducible refine (gin_any _ _ _ _).mono ?_)
    rintro e y5 ⟨rfl, b5⟩
    replace D := nx D b5
    replace O27 := OtR.on O27 b5
    replace O34 := RowO.on O34 b5
    replace O43 := RowO.on O43 b5
    clear b5
    refine hK.out _ _ ?_ (fun hHeld => ?_)
    · exact XF D
    clear hK K
    try simp only [Act.put, List.setIfInBounds_toArray, List.set_cons_zero, List.set_cons_succ]
    refine wpAnyH_ready (rs := [29]) (by kernel_rfl) (by simp) ?_
    refine AllReadyH.cons (o := ⟨some 51, _, _, _, _, _⟩) rfl (fun K hK => ?_) AllReadyH.nil
    go_simp
    go_at_call 66
    (with_reducible refine (gin_any _ _ _ _).mono ?_)
    rintro e y5 ⟨rfl, b5⟩
    replace D := nx D b5
    replace O27 := OtR.on O27 b5
    replace O34 := RowO.on O34 b5
    replace O43 := RowO.on O43 b5
    clear b5
    refine hK.out _ _ ?_ (fun hHeld => ?_)
    · exact XF D
    clear hK K
    try simp only [Act.put, List.setIfInBounds_toArray, List.set_cons_zero, List.set_cons_succ]
    refine wpAnyH_ready (rs := [30]) (by kernel_rfl) (by simp) ?_
    refine AllReadyH.cons (o := ⟨some 52, _, _, _, _, _⟩) rfl (fun K hK => ?_) AllReadyH.nil
    go_simp
    go_at_call 66
    (with_reducible refine (gin_any _ _ _ _).mono ?_)
    rintro e y5 ⟨rfl, b5⟩
    replace D := nx D b5
    replace O27 := OtR.on O27 b5
    replace O34 := RowO.on O34 b5
    replace O43 := RowO.on O43 b5
    clear b5
    refine hK.out _ _ ?_ (fun hHeld => ?_)
    · exact XF D
    clear hK K
    try simp only [Act.put, List.setIfInBounds_toArray, List.set_cons_zero, List.set_cons_succ]
    refine wpAnyH_ready (rs := [31]) (by kernel_rfl) (by simp) ?_
    refine AllReadyH.cons (o := ⟨some 53, _, _, _, _, _⟩) rfl (fun K hK => ?_) AllReadyH.nil
    go_simp
    refine hK.out _ _ ?_ (fun hHeld => ?_)
    · exact XF (al D)
    clear hK K
    try simp only [Act.put, List.setIfInBounds_toArray, List.set_cons_zero, List.set_cons_succ]
    refine wpAnyH_ready (rs := [35]) (by kernel_rfl) (by simp) ?_
    refine AllReadyH.cons (o := ⟨some 57, _, _, _, _, _⟩) rfl (fun K hK => ?_) AllReadyH.nil
    go_simp
    go_at_call 67
    (with_reducible refine (over_In 68 #[.pointer (some ⟨w.heap.size + 1 + 1, 0, none⟩)] (mk4 s) (al (o := o53 on) D) D.size (al1 _ (o53 on)).size HF.out HL.out.2.2.1 (row53 (Nat.le_refl _) (heap_alloc_new _ (o53 on))) (fun _ _ => rfl) (cl4 HP.out HT.out)).mono ?_)
    rintro e y6 ⟨v57, rfl, O57, G6⟩
    have b6 := (al1 _ _).trans (G6.below (al1 _ _).size)
    replace O57 := RowO.base O57 D.size
    obtain ⟨p57, n57, m57, rfl⟩ := RowO.slc O57
    replace O27 := OtR.on O27 b6
    replace O34 := RowO.on O34 b6
    replace O43 := RowO.on O43 b6
    replace D := nx D b6
    clear b6 G6
    refine hK.out _ _ ?_ (fun hHeld => ?_)
    · exact XF D
    clear hK K
    try simp only [Act.put, List.setIfInBounds_toArray, List.set_cons_zero, List.set_cons_succ]
    refine wpAnyH_ready (rs := [36]) (by kernel_rfl) (by simp) ?_
    refine AllReadyH.cons (o := ⟨some 58, _, _, _, _, _⟩) rfl (fun K hK => ?_) AllReadyH.nil
    go_simp
    go_at_call 65
    (with_reducible refine (gins_any _ _ _ _ _).mono ?_)
    rintro e y7 ⟨rfl, b7⟩
    replace O27 := OtR.on O27 b7
    replace O34 := RowO.on O34 b7
    replace O43 := RowO.on O43 b7
    replace O57 := RowO.on O57 b7
    replace D := nx D b7
    clear b7
    refine hK.out _ _ ?_ (fun hHeld => ?_)
    · exact XF D
    clear hK K
    try simp only [Act.put, List.setIfInBounds_toArray, List.set_cons_zero, List.set_cons_succ]
    refine wpAnyH_ready (rs := [42]) (by kernel_rfl) (by simp) ?_
    refine AllReadyH.cons (o := ⟨some 64, _, _, _, _, _⟩) rfl (fun K hK => ?_) AllReadyH.nil
    go_simp
    go_at_call 67
    (with_reducible refine (over_In 69 #[.pointer (some ⟨w.heap.size + 1 + 1, 0, none⟩)] (mk5 s) D D.size (Nat.le_refl _) HF.out HL.out.2.2.2 RowO.none (fun _ _ => rfl) (cl5 HP.out)).mono ?_)
    rintro e y6 ⟨v64, rfl, O64, G6⟩
    have b6 := G6.below (Nat.le_refl _)
    replace O64 := RowO.base O64 D.size
    obtain ⟨p64, n64, m64, rfl⟩ := RowO.slc O64
    replace O27 := OtR.on O27 b6
    replace O34 := RowO.on O34 b6
    replace O43 := RowO.on O43 b6
    replace O57 := RowO.on O57 b6
    replace D := nx D b6
    clear b6 G6
    refine hK.out _ _ ?_ (fun hHeld => ?_)
    · exact XF D
    clear hK K
    try simp only [Act.put, List.setIfInBounds_toArray, List.set_cons_zero, List.set_cons_succ]
    refine wpAnyH_ready (rs := [43]) (by kernel_rfl) (by simp) ?_
    refine AllReadyH.cons (o := ⟨some 65, _, _, _, _, _⟩) rfl (fun K hK => ?_) AllReadyH.nil
    go_simp
    go_at_call 65
    (with_reducible refine (gins_any _ _ _ _ _).mono ?_)
    rintro e y7 ⟨rfl, b7⟩
    replace O27 := OtR.on O27 b7
    replace O34 := RowO.on O34 b7
    replace O43 := RowO.on O43 b7
    replace O57 := RowO.on O57 b7
    replace O64 := RowO.on O64 b7
    replace D := nx D b7
    clear b7
    refine hK.out _ _ ?_ (fun hHeld => ?_)
    · exact XF D
    clear hK K
    try simp only [Act.put, List.setIfInBounds_toArray, List.set_cons_zero, List.set_cons_succ]
    refine wpAnyH_ready (rs := [49]) (by kernel_rfl) (by simp) ?_
    refine AllReadyH.cons (o := ⟨some 71, _, _, _, _, _⟩) rfl (fun K hK => ?_) AllReadyH.nil
    go_simp
    go_at_call 67
    (with_reducible refine (over_In 71 #[.pointer (some ⟨w.heap.size + 1 + 1, 0, none⟩)] (mk6 s) D D.size (Nat.le_refl _) HF.out HL.out.2.2.2 RowO.none (fun _ _ => rfl) (cl6 HP.out)).mono ?_)
    rintro e y6 ⟨v71, rfl, O71, G6⟩
    have b6 := G6.below (Nat.le_refl _)
    replace O71 := RowO.base O71 D.size
    obtain ⟨p71, n71, m71, rfl⟩ := RowO.slc O71
    replace O27 := OtR.on O27 b6
    replace O34 := RowO.on O34 b6
    replace O43 := RowO.on O43 b6
    replace O57 := RowO.on O57 b6
    replace O64 := RowO.on O64 b6
    replace D := nx D b6
    clear b6 G6
    refine hK.out _ _ ?_ (fun hHeld => ?_)
    · exact XF D
    clear hK K
    try simp only [Act.put, List.setIfInBounds_toArray, List.set_cons_zero, List.set_cons_succ]
    refine wpAnyH_ready (rs := [50]) (by kernel_rfl) (by simp) ?_
    refine AllReadyH.cons (o := ⟨some 72, _, _, _, _, _⟩) rfl (fun K hK => ?_) AllReadyH.nil
    go_simp
    go_at_call 65
    (with_reducible refine (gins_any _ _ _ _ _).mono ?_)
    rintro e y7 ⟨rfl, b7⟩
    replace O27 := OtR.on O27 b7
    replace O34 := RowO.on O34 b7
    replace O43 := RowO.on O43 b7
    replace O57 := RowO.on O57 b7
    replace O64 := RowO.on O64 b7
    replace O71 := RowO.on O71 b7
    replace D := nx D b7
    clear b7
    refine hK.out _ _ ?_ (fun hHeld => ?_)
    · exact XF D
    clear hK K
    try simp only [Act.put, List.setIfInBounds_toArray, List.set_cons_zero, List.set_cons_succ]
    refine wpAnyH_ready (rs := [51]) (by kernel_rfl) (by simp) ?_
    refine AllReadyH.cons (o := ⟨some 73, _, _, _, _, _⟩) rfl (fun K hK => ?_) AllReadyH.nil
    go_simp
    refine hK.out _ _ ?_ (fun hHeld => ?_)
    · exact XF (al D)
    clear hK K
    try simp only [Act.put, List.setIfInBounds_toArray, List.set_cons_zero, List.set_cons_succ]
    refine wpAnyH_take (i := 52) (oi := ⟨some 4, _, _, _, _, _⟩) (v := ?_) rfl (by kernel_rfl) (by kernel_rfl) (by kernel_rfl) (fun _ _ _ h => h) (Or.inl ⟨by rfl, ?_⟩) (by assumption) ?_
    rotate_left
    · intro w' hSw
      (try dsimp only at hSw)
      go_simp
      (try with_reducible rfl)
    try simp only [Act.put, List.setIfInBounds_toArray, List.set_cons_zero, List.set_cons_succ]
    refine wpAnyH_done (by kernel_rfl) ?_ _
    go_wp2
    have hZ := Nat.le_trans A0.size D.size
    refine bodyPost_ret (v := .slice (some ⟨y7.heap.size, 0, none⟩) 6 6) (by simp [results, Tryz.results28, go_sem]) rfl ⟨_, rfl, DfR.base (of_end D.size O27 O34 O43 O57 O64 O71) A0.size, A0.trans ((al D).mono A0.size)⟩
  refine AllReadyH.cons (o := ⟨some 30, _, _, _, _, _⟩) rfl (fun K hK => ?_) AllReadyH.nil
  go_simp
  refine hK.out _ _ ?_ (fun hHeld => ?_)
  · exact XF (al DW)
  clear hK K
  try simp only [Act.put, List.setIfInBounds_toArray, List.set_cons_zero, List.set_cons_succ]
  refine wpAnyH_ready (rs := [1]) (by kernel_rfl) (by simp) ?_
  refine AllReadyH.cons (o := ⟨some 23, _, _, _, _, _⟩) rfl (fun K hK => ?_) AllReadyH.nil
  go_simp
  go_at_call 34
  (with_reducible refine (gout_any _ _ _ _ _ _ _).mono ?_)
  rintro e y1 ⟨rfl, b1⟩
  have H30 : y1.heap[W0.heap.size]? = some o30 := (b1.block W0.heap.size (by show W0.heap.size < (World.alloc W0.drew.drew _).heap.size; rw [World.size_alloc]; exact Nat.lt_succ_self _)).trans (heap_alloc_new W0.drew.drew o30)
  have S30 : Hid (W0.heap.size ≤ W0.heap.size) := Nat.le_refl W0.heap.size
  have D := nx (al DW) b1
  clear b1
  refine hK.out _ _ ?_ (fun hHeld => ?_)
  · exact XF D
  clear hK K
  try simp only [Act.put, List.setIfInBounds_toArray, List.set_cons_zero, List.set_cons_succ]
  refine wpAnyH_ready (rs := [2]) (by kernel_rfl) (by simp) ?_
  refine AllReadyH.cons (o := ⟨some 24, _, _, _, _, _⟩) rfl (fun K hK => ?_) AllReadyH.nil
  go_simp
  refine hK.out _ _ ?_ (fun hHeld => ?_)
  · exact XF (al D)
  clear hK K
  try simp only [Act.put, List.setIfInBounds_toArray, List.set_cons_zero, List.set_cons_succ]
  refine wpAnyH_ready (rs := [5]) (by kernel_rfl) (by simp) ?_
  refine AllReadyH.cons (o := ⟨some 27, _, _, _, _, _⟩) rfl (fun K hK => ?_) AllReadyH.nil
  go_simp
  go_at_call 60
  (with_reducible refine (over_Out (B := y1.heap.size) (nx D (al1 _ _)) D.size (al1 _ _).size HF.out HL.out.1 HT.out (row24 (Nat.le_refl _) (heap_alloc_new _ _))).mono ?_)
  rintro e y2 ⟨v27, rfl, O27, G2⟩
  replace H30 := G2.block _ _ (((al1 y1 o24).block _ (lt_of_block H30)).trans H30) (Or.inr (by simp))
  have D2 := (al D).trans ((G2.below (al1 _ _).size).mono D.size)
  replace O27 := O27.base D.size
  replace D := D2
  clear D2 G2
  obtain ⟨p27, n27, m27, rfl⟩ := O27.slc
  refine hK.out _ _ ?_ (fun hHeld => ?_)
  · exact XF D
  clear hK K
  try simp only [Act.put, List.setIfInBounds_toArray, List.set_cons_zero, List.set_cons_succ]
  refine wpAnyH_ready (rs := [6]) (by kernel_rfl) (by simp) ?_
  refine AllReadyH.cons (o := ⟨some 28, _, _, _, _, _⟩) rfl (fun K hK => ?_) AllReadyH.nil
  go_simp
  go_at_call 59
  (with_reducible refine (gouts_any _ _ _ _ _).mono ?_)
  rintro e y3 ⟨rfl, b3⟩
  replace H30 := (b3.block _ (lt_of_block H30)).trans H30
  replace O27 := O27.on b3
  replace D := nx D b3
  clear b3
  refine hK.out _ _ ?_ (fun hHeld => ?_)
  · exact XF D
  clear hK K
  try simp only [Act.put, List.setIfInBounds_toArray, List.set_cons_zero, List.set_cons_succ]
  refine wpAnyH_ready (rs := [12]) (by kernel_rfl) (by simp) ?_
  refine AllReadyH.cons (o := ⟨some 34, _, _, _, _, _⟩) rfl (fun K hK => ?_) AllReadyH.nil
  go_simp
  go_at_call 63
  (with_reducible refine (over_string 64 #[.pointer (some ⟨w.heap.size + 1 + 1, 0, none⟩)] (mk3 s) D (Nat.le_refl _) D.size HF.out HL.out.2.1 (row30 S30.out H30) (fun _ _ => rfl) (cl3 HP.out)).mono ?_)
  rintro e y4 ⟨v34, rfl, O34, G4⟩
  replace O27 := O27.gt G4 (by decide) (by decide)
  replace D := D.trans (G4.below D.size)
  clear G4
  obtain ⟨p34, n34, m34, rfl⟩ := RowO.slc O34
  refine hK.out _ _ ?_ (fun hHeld => ?_)
  · exact XF D
  clear hK K
  try simp only [Act.put, List.setIfInBounds_toArray, List.set_cons_zero, List.set_cons_succ]
  refine wpAnyH_ready (rs := [13]) (by kernel_rfl) (by simp) ?_
  refine AllReadyH.cons (o := ⟨some 35, _, _, _, _, _⟩) rfl (fun K hK => ?_) AllReadyH.nil
  go_simp
  go_at_call 26
  (with_reducible refine (gwords_any _ _ _ _ _).mono ?_)
  rintro e y5 ⟨rfl, b5⟩
  replace D := nx D b5
  replace O27 := OtR.on O27 b5
  replace O34 := RowO.on O34 b5
  clear b5
  refine hK.out _ _ ?_ (fun hHeld => ?_)
  · exact XF D
  clear hK K
  try simp only [Act.put, List.setIfInBounds_toArray, List.set_cons_zero, List.set_cons_succ]
  refine wpAnyH_ready (rs := [16]) (by kernel_rfl) (by simp) ?_
  refine AllReadyH.cons (o := ⟨some 38, _, _, _, _, _⟩) rfl (fun K hK => ?_) AllReadyH.nil
  go_simp
  go_at_call 66
  (with_reducible refine (gin_any _ _ _ _).mono ?_)
  rintro e y5 ⟨rfl, b5⟩
  replace D := nx D b5
  replace O27 := OtR.on O27 b5
  replace O34 := RowO.on O34 b5
  clear b5
  refine hK.out _ _ ?_ (fun hHeld => ?_)
  · exact XF D
  clear hK K
  try simp only [Act.put, List.setIfInBounds_toArray, List.set_cons_zero, List.set_cons_succ]
  refine wpAnyH_ready (rs := [18]) (by kernel_rfl) (by simp) ?_
  refine AllReadyH.cons (o := ⟨some 40, _, _, _, _, _⟩) rfl (fun K hK => ?_) AllReadyH.nil
  go_simp
  go_at_call 66
  (with_reducible refine (gin_any _ _ _ _).mono ?_)
  rintro e y5 ⟨rfl, b5⟩
  replace D := nx D b5
  replace O27 := OtR.on O27 b5
  replace O34 := RowO.on O34 b5
  clear b5
  refine hK.out _ _ ?_ (fun hHeld => ?_)
  · exact XF D
  clear hK K
  try simp only [Act.put, List.setIfInBounds_toArray, List.set_cons_zero, List.set_cons_succ]
  refine wpAnyH_ready (rs := [20]) (by kernel_rfl) (by simp) ?_
  refine AllReadyH.cons (o := ⟨some 42, _, _, _, _, _⟩) rfl (fun K hK => ?_) AllReadyH.nil
  go_simp
  go_at_call 66
  (with_reducible refine (gin_any _ _ _ _).mono ?_)
  rintro e y5 ⟨rfl, b5⟩
  replace D := nx D b5
  replace O27 := OtR.on O27 b5
  replace O34 := RowO.on O34 b5
  clear b5
  refine hK.out _ _ ?_ (fun hHeld => ?_)
  · exact XF D
  clear hK K
  try simp only [Act.put, List.setIfInBounds_toArray, List.set_cons_zero, List.set_cons_succ]
  refine wpAnyH_ready (rs := [21]) (by kernel_rfl) (by simp) ?_
  refine AllReadyH.cons (o := ⟨some 43, _, _, _, _, _⟩) rfl (fun K hK => ?_) AllReadyH.nil
  go_simp
  refine hK.out _ _ ?_ (fun hHeld => ?_)
  · exact XF (al D)
  clear hK K
  try simp only [Act.put, List.setIfInBounds_toArray, List.set_cons_zero, List.set_cons_succ]
  refine wpAnyH_ready (rs := [22]) (by kernel_rfl) (by simp) ?_
  refine AllReadyH.cons (o := ⟨some 44, _, _, _, _, _⟩) rfl (fun K hK => ?_) AllReadyH.nil
  go_simp
  go_at_call 65
  (with_reducible refine (gins_any _ _ _ _ _).mono ?_)
  rintro e y7 ⟨rfl, b7⟩
  have O43 := row43 D.size (new_on (o := o43 on) b7)
  replace O27 := OtR.on (OtR.on O27 (al1 _ _)) b7
  replace O34 := RowO.on (RowO.on O34 (al1 _ _)) b7
  replace D := nx (al D) b7
  clear b7
  refine hK.out _ _ ?_ (fun hHeld => ?_)
  · exact XF D
  clear hK K
  try simp only [Act.put, List.setIfInBounds_toArray, List.set_cons_zero, List.set_cons_succ]
  refine wpAnyH_ready (rs := [25]) (by kernel_rfl) (by simp) ?_
  refine AllReadyH.cons (o := ⟨some 47, _, _, _, _, _⟩) rfl (fun K hK => ?_) AllReadyH.nil
  go_simp
  go_at_call 66
  (with_reducible refine (gin_any _ _ _ _).mono ?_)
  rintro e y5 ⟨rfl, b5⟩
  replace D := nx D b5
  replace O27 := OtR.on O27 b5
  replace O34 := RowO.on O34 b5
  replace O43 := RowO.on O43 b5
  clear b5
  refine hK.out _ _ ?_ (fun hHeld => ?_)
  · exact XF D
  clear hK K
  try simp only [Act.put, List.setIfInBounds_toArray, List.set_cons_zero, List.set_cons_succ]
  refine wpAnyH_ready (rs := [27]) (by kernel_rfl) (by simp) ?_
  refine AllReadyH.cons (o := ⟨some 49, _, _, _, _, _⟩) rfl (fun K hK => ?_) AllReadyH.nil
  go_simp
  go_at_call 66
  (with_reducible refine (gin_any _ _ _ _).mono ?_)
  rintro e y5 ⟨rfl, b5⟩
  replace D := nx D b5
  replace O27 := OtR.on O27 b5
  replace O34 := RowO.on O34 b5
  replace O43 := RowO.on O43 b5
  clear b5
  refine hK.out _ _ ?_ (fun hHeld => ?_)
  · exact XF D
  clear hK K
  try simp only [Act.put, List.setIfInBounds_toArray, List.set_cons_zero, List.set_cons_succ]
  refine wpAnyH_ready (rs := [29]) (by kernel_rfl) (by simp) ?_
  refine AllReadyH.cons (o := ⟨some 51, _, _, _, _, _⟩) rfl (fun K hK => ?_) AllReadyH.nil
  go_simp
  go_at_call 66
  (with_reducible refine (gin_any _ _ _ _).mono ?_)
  rintro e y5 ⟨rfl, b5⟩
  replace D := nx D b5
  replace O27 := OtR.on O27 b5
  replace O34 := RowO.on O34 b5
  replace O43 := RowO.on O43 b5
  clear b5
  refine hK.out _ _ ?_ (fun hHeld => ?_)
  · exact XF D
  clear hK K
  try simp only [Act.put, List.setIfInBounds_toArray, List.set_cons_zero, List.set_cons_succ]
  refine wpAnyH_ready (rs := [30]) (by kernel_rfl) (by simp) ?_
  refine AllReadyH.cons (o := ⟨some 52, _, _, _, _, _⟩) rfl (fun K hK => ?_) AllReadyH.nil
  go_simp
  go_at_call 66
  (with_reducible refine (gin_any _ _ _ _).mono ?_)
  rintro e y5 ⟨rfl, b5⟩
  replace D := nx D b5
  replace O27 := OtR.on O27 b5
  replace O34 := RowO.on O34 b5
  replace O43 := RowO.on O43 b5
  clear b5
  refine hK.out _ _ ?_ (fun hHeld => ?_)
  · exact XF D
  clear hK K
  try simp only [Act.put, List.setIfInBounds_toArray, List.set_cons_zero, List.set_cons_succ]
  refine wpAnyH_ready (rs := [31]) (by kernel_rfl) (by simp) ?_
  refine AllReadyH.cons (o := ⟨some 53, _, _, _, _, _⟩) rfl (fun K hK => ?_) AllReadyH.nil
  go_simp
  refine hK.out _ _ ?_ (fun hHeld => ?_)
  · exact XF (al D)
  clear hK K
  try simp only [Act.put, List.setIfInBounds_toArray, List.set_cons_zero, List.set_cons_succ]
  refine wpAnyH_ready (rs := [35]) (by kernel_rfl) (by simp) ?_
  refine AllReadyH.cons (o := ⟨some 57, _, _, _, _, _⟩) rfl (fun K hK => ?_) AllReadyH.nil
  go_simp
  go_at_call 67
  (with_reducible refine (over_In 68 #[.pointer (some ⟨w.heap.size + 1 + 1, 0, none⟩)] (mk4 s) (al (o := o53 on) D) D.size (al1 _ (o53 on)).size HF.out HL.out.2.2.1 (row53 (Nat.le_refl _) (heap_alloc_new _ (o53 on))) (fun _ _ => rfl) (cl4 HP.out HT.out)).mono ?_)
  rintro e y6 ⟨v57, rfl, O57, G6⟩
  have b6 := (al1 _ _).trans (G6.below (al1 _ _).size)
  replace O57 := RowO.base O57 D.size
  obtain ⟨p57, n57, m57, rfl⟩ := RowO.slc O57
  replace O27 := OtR.on O27 b6
  replace O34 := RowO.on O34 b6
  replace O43 := RowO.on O43 b6
  replace D := nx D b6
  clear b6 G6
  refine hK.out _ _ ?_ (fun hHeld => ?_)
  · exact XF D
  clear hK K
  try simp only [Act.put, List.setIfInBounds_toArray, List.set_cons_zero, List.set_cons_succ]
  refine wpAnyH_ready (rs := [36]) (by kernel_rfl) (by simp) ?_
  refine AllReadyH.cons (o := ⟨some 58, _, _, _, _, _⟩) rfl (fun K hK => ?_) AllReadyH.nil
  go_simp
  go_at_call 65
  (with_reducible refine (gins_any _ _ _ _ _).mono ?_)
  rintro e y7 ⟨rfl, b7⟩
  replace O27 := OtR.on O27 b7
  replace O34 := RowO.on O34 b7
  replace O43 := RowO.on O43 b7
  replace O57 := RowO.on O57 b7
  replace D := nx D b7
  clear b7
  refine hK.out _ _ ?_ (fun hHeld => ?_)
  · exact XF D
  clear hK K
  try simp only [Act.put, List.setIfInBounds_toArray, List.set_cons_zero, List.set_cons_succ]
  refine wpAnyH_ready (rs := [42]) (by kernel_rfl) (by simp) ?_
  refine AllReadyH.cons (o := ⟨some 64, _, _, _, _, _⟩) rfl (fun K hK => ?_) AllReadyH.nil
  go_simp
  go_at_call 67
  (with_reducible refine (over_In 69 #[.pointer (some ⟨w.heap.size + 1 + 1, 0, none⟩)] (mk5 s) D D.size (Nat.le_refl _) HF.out HL.out.2.2.2 RowO.none (fun _ _ => rfl) (cl5 HP.out)).mono ?_)
  rintro e y6 ⟨v64, rfl, O64, G6⟩
  have b6 := G6.below (Nat.le_refl _)
  replace O64 := RowO.base O64 D.size
  obtain ⟨p64, n64, m64, rfl⟩ := RowO.slc O64
  replace O27 := OtR.on O27 b6
  replace O34 := RowO.on O34 b6
  replace O43 := RowO.on O43 b6
  replace O57 := RowO.on O57 b6
  replace D := nx D b6
  clear b6 G6
  refine hK.out _ _ ?_ (fun hHeld => ?_)
  · exact XF D
  clear hK K
  try simp only [Act.put, List.setIfInBounds_toArray, List.set_cons_zero, List.set_cons_succ]
  refine wpAnyH_ready (rs := [43]) (by kernel_rfl) (by simp) ?_
  refine AllReadyH.cons (o := ⟨some 65, _, _, _, _, _⟩) rfl (fun K hK => ?_) AllReadyH.nil
  go_simp
  go_at_call 65
  (with_reducible refine (gins_any _ _ _ _ _).mono ?_)
  rintro e y7 ⟨rfl, b7⟩
  replace O27 := OtR.on O27 b7
  replace O34 := RowO.on O34 b7
  replace O43 := RowO.on O43 b7
  replace O57 := RowO.on O57 b7
  replace O64 := RowO.on O64 b7
  replace D := nx D b7
  clear b7
  refine hK.out _ _ ?_ (fun hHeld => ?_)
  · exact XF D
  clear hK K
  try simp only [Act.put, List.setIfInBounds_toArray, List.set_cons_zero, List.set_cons_succ]
  refine wpAnyH_ready (rs := [49]) (by kernel_rfl) (by simp) ?_
  refine AllReadyH.cons (o := ⟨some 71, _, _, _, _, _⟩) rfl (fun K hK => ?_) AllReadyH.nil
  go_simp
  go_at_call 67
  (with_reducible refine (over_In 71 #[.pointer (some ⟨w.heap.size + 1 + 1, 0, none⟩)] (mk6 s) D D.size (Nat.le_refl _) HF.out HL.out.2.2.2 RowO.none (fun _ _ => rfl) (cl6 HP.out)).mono ?_)
  rintro e y6 ⟨v71, rfl, O71, G6⟩
  have b6 := G6.below (Nat.le_refl _)
  replace O71 := RowO.base O71 D.size
  obtain ⟨p71, n71, m71, rfl⟩ := RowO.slc O71
  replace O27 := OtR.on O27 b6
  replace O34 := RowO.on O34 b6
  replace O43 := RowO.on O43 b6
  replace O57 := RowO.on O57 b6
  replace O64 := RowO.on O64 b6
  replace D := nx D b6
  clear b6 G6
  refine hK.out _ _ ?_ (fun hHeld => ?_)
  · exact XF D
  clear hK K
  try simp only [Act.put, List.setIfInBounds_toArray, List.set_cons_zero, List.set_cons_succ]
  refine wpAnyH_ready (rs := [50]) (by kernel_rfl) (by simp) ?_
  refine AllReadyH.cons (o := ⟨some 72, _, _, _, _, _⟩) rfl (fun K hK => ?_) AllReadyH.nil
  go_simp
  go_at_call 65
  (with_reducible refine (gins_any _ _ _ _ _).mono ?_)
  rintro e y7 ⟨rfl, b7⟩
  replace O27 := OtR.on O27 b7
  replace O34 := RowO.on O34 b7
  replace O43 := RowO.on O43 b7
  replace O57 := RowO.on O57 b7
  replace O64 := RowO.on O64 b7
  replace O71 := RowO.on O71 b7
  replace D := nx D b7
  clear b7
  refine hK.out _ _ ?_ (fun hHeld => ?_)
  · exact XF D
  clear hK K
  try simp only [Act.put, List.setIfInBounds_toArray, List.set_cons_zero, List.set_cons_succ]
  refine wpAnyH_ready (rs := [51]) (by kernel_rfl) (by simp) ?_
  refine AllReadyH.cons (o := ⟨some 73, _, _, _, _, _⟩) rfl (fun K hK => ?_) AllReadyH.nil
  go_simp
  refine hK.out _ _ ?_ (fun hHeld => ?_)
  · exact XF (al D)
  clear hK K
  try simp only [Act.put, List.setIfInBounds_toArray, List.set_cons_zero, List.set_cons_succ]
  refine wpAnyH_take (i := 52) (oi := ⟨some 4, _, _, _, _, _⟩) (v := ?_) rfl (by kernel_rfl) (by kernel_rfl) (by kernel_rfl) (fun _ _ _ h => h) (Or.inl ⟨by rfl, ?_⟩) (by assumption) ?_
  rotate_left
  · intro w' hSw
    (try dsimp only at hSw)
    go_simp
    (try with_reducible rfl)
  try simp only [Act.put, List.setIfInBounds_toArray, List.set_cons_zero, List.set_cons_succ]
  refine wpAnyH_done (by kernel_rfl) ?_ _
  go_wp2
  have hZ := Nat.le_trans A0.size D.size
  refine bodyPost_ret (v := .slice (some ⟨y7.heap.size, 0, none⟩) 6 6) (by simp [results, Tryz.results28, go_sem]) rfl ⟨_, rfl, DfR.base (of_end D.size O27 O34 O43 O57 O64 O71) A0.size, A0.trans ((al D).mono A0.size)⟩
end
end Go.Proofs.YtamkjpfomaapgaaGreatDoor
