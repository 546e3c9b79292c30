/- Schemas: Check. -/
import Derived.Test.YtamkjpfomaapgaaGreatDoorScF
namespace Go.Proofs.YtamkjpfomaapgaaGreatDoor
open Go Go.RowKit Go.Shelf
structure Spt where
  o : Nat
  k : Nat
  f : Fld
def SptAt (w : World) (x : Spt) (b o : Nat) : Prop := w.cell? ⟨b, o, none⟩ = some (.int .i64 (x.o : Int)) ∧ w.cell? ⟨b, o + 1, none⟩ = some (.int .i64 (x.k : Int)) ∧ w.cell? ⟨b, o + 2, none⟩ = some (.string ⟨x.f.n.toArray⟩) ∧ w.cell? ⟨b, o + 3, none⟩ = some (.string ⟨x.f.t.toArray⟩) ∧ w.cell? ⟨b, o + 4, none⟩ = some (.string ⟨x.f.w.toArray⟩) ∧ w.cell? ⟨b, o + 5, none⟩ = some (.bool x.f.s) ∧ w.cell? ⟨b, o + 6, none⟩ = some (.string ⟨x.f.i.toArray⟩)
def SptsAt (w : World) (v : Value) (l : List Spt) : Prop := Sl w v l.length 7 fun i b o => ∀ x, l[i]? = some x → SptAt w x b o
theorem SptsAt.on {w w' : World} (hb : Below w.heap.size w w') {v : Value} {l : List Spt} (h : SptsAt w v l) : SptsAt w' v l := h.mono hb.size fun _ _ _ _ hp f hf => by
  obtain ⟨h0, h1, h2, h3, h4, h5, h6⟩ := hp f hf
  exact ⟨cell_on hb h0, cell_on hb h1, cell_on hb h2, cell_on hb h3, cell_on hb h4, cell_on hb h5, cell_on hb h6⟩
theorem all_true {α : Type} {l : List α} {p : α → Bool} (h : ∀ (i : Nat) x, i < l.length → l[i]? = some x → p x = true) : l.all p = true := by
  rw [List.all_eq_true]
  intro x hx
  obtain ⟨i, hi, he⟩ := List.mem_iff_getElem.1 hx
  exact h i x hi (by rw [List.getElem?_eq_getElem hi, he])
theorem all_false {α : Type} {l : List α} {p : α → Bool} {i : Nat} {x : α} (hx : l[i]? = some x) (h : p x = false) : l.all p = false := by
  rw [List.all_eq_false]
  exact ⟨x, List.mem_of_getElem? hx, by rw [h]; decide⟩
set_option maxRecDepth 100000 in
set_option maxHeartbeats 2000000 in
theorem every_Object {l : List Ob} {v : Value} (K : Nat) (caps : Array Value) (p : Ob → Bool) (w : World) (h : ObsAt w v l) (hK : ∀ args W, Sem.run Tryz.prog (callFunc K args) W = .ok (.enter K args) W)
    (H : ∀ (x : Ob) (a1 : Option Addr) (c1 : Nat) (W : World), x ∈ l → Below w.heap.size w W → FldsAt W (.slice a1 x.fs.length c1) x.fs → Calls Tryz.prog K (#[.agg #[.string ⟨x.n.toArray⟩, .slice a1 x.fs.length c1]] ++ caps) W fun e W' => e = .returned (.bool (p x)) ∧ Below W.heap.size W W') :
    Calls Tryz.prog 75 #[v, .func (.func K) #[] caps] w fun e w' => e = .returned (.bool (l.all p)) ∧ Below w.heap.size w w' := by
  obtain ⟨a0, cap, rfl, hc, hn, hr⟩ := h
  go_enter Tryz.func75, Tryz.ntmps75
  go_wp2
  go_loopw [9] (fun i wr => ∃ j : Nat, i = .int .i64 (j : Int) ∧ j ≤ l.length ∧ (∀ (q : Nat) z, q < j → l[q]? = some z → p z = true) ∧ Below w.heap.size w wr) (fun i _ => l.length - (RowKit.intOf i).toNat)
  case atStart => exact ⟨0, rfl, Nat.zero_le _, fun q z hq => absurd hq (Nat.not_lt_zero _), Below.refl _ _⟩
  case round =>
    obtain ⟨j, rfl, hj, hno, hbr⟩ := hrel
    by_cases hlt : j < l.length
    · obtain ⟨b, o, rfl, hbl, hH⟩ := hr (by omega)
      obtain ⟨x, hx⟩ : ∃ x, l[j]? = some x := ⟨_, List.getElem?_eq_getElem hlt⟩
      obtain ⟨e0, fv, e1, hf⟩ := hH j hlt x hx
      obtain ⟨a1, c1, rfl, _, _⟩ := hf.slice
      have f0 := cell_on hbr e0
      have f1 := cell_on hbr e1
      have b0 : Below wr.heap.size wr (wr.alloc (.cells #[.string ⟨x.n.toArray⟩, .slice a1 x.fs.length c1] 54)) := al1 wr _
      have CL := H x a1 c1 (wr.alloc (.cells #[.string ⟨x.n.toArray⟩, .slice a1 x.fs.length c1] 54)) (List.mem_of_getElem? hx) (hbr.trans (b0.mono hbr.size)) ((hf.on hbr).on b0)
      have l1 : ((j : Nat) : Int) < (l.length : Int) := by omega
      have hjN : ((j : Nat) : Int).toNat = j := by omega
      have hz : Hid (j + 1 ≤ l.length) := hlt
      have HN : Hid (∀ (q : Nat) z, q < j → l[q]? = some z → p z = true) := hno
      have HM : Hid (l[j]? = some x) := hx
      clear hno hH hr hx e0 e1 hlt H
      cases hq : p x with
      | false =>
        rw [hq] at CL
        have HP : Hid (l.all p = false) := all_false HM.out hq
        clear hq
        go_wp2
        refine Calls.mono CL ?_
        rintro e w2 ⟨rfl, b2⟩
        go_wp2
        go_ret
        exact ⟨by rw [HP.out]; rfl, (hbr.trans (b0.mono hbr.size)).trans (b2.mono (hbr.trans (b0.mono hbr.size)).size)⟩
      | true =>
        rw [hq] at CL
        have hno2 : Hid (∀ (q : Nat) z, q < j + 1 → l[q]? = some z → p z = true) := by
          intro q z hq1 hz1
          by_cases e : q = j
          · subst e
            rw [HM.out] at hz1
            cases hz1
            exact hq
          · exact HN.out q z (by omega) hz1
        clear hq
        go_wp2
        refine Calls.mono CL ?_
        rintro e w2 ⟨rfl, b2⟩
        go_wp2
        refine ⟨⟨j + 1, by simp, hz.out, hno2.out, (hbr.trans (b0.mono hbr.size)).trans (b2.mono (hbr.trans (b0.mono hbr.size)).size)⟩, ?_⟩
        have := hz.out
        simp [RowKit.intOf]
        omega
    · have l2 : decide (((j : Nat) : Int) < (l.length : Int)) = false := by simp; omega
      have l3 : decide (j < l.length) = false := by simp; omega
      have HP : Hid (l.all p = true) := all_true fun q z hq hz => hno q z (by omega) hz
      clear hno hr hlt hj H
      go_wp2
      go_ret
      exact ⟨by rw [HP.out]; rfl, hbr⟩
set_option maxRecDepth 100000 in
set_option maxHeartbeats 2000000 in
theorem every_Enum {l : List En} {v : Value} (K : Nat) (caps : Array Value) (p : En → Bool) (w : World) (h : EnsAt w v l) (hK : ∀ args W, Sem.run Tryz.prog (callFunc K args) W = .ok (.enter K args) W)
    (H : ∀ (x : En) (a1 : Option Addr) (c1 : Nat) (W : World), x ∈ l → Below w.heap.size w W → WdsAt W (.slice a1 x.ws.length c1) x.ws → Calls Tryz.prog K (#[.agg #[.string ⟨x.n.toArray⟩, .slice a1 x.ws.length c1]] ++ caps) W fun e W' => e = .returned (.bool (p x)) ∧ Below W.heap.size W W') :
    Calls Tryz.prog 77 #[v, .func (.func K) #[] caps] w fun e w' => e = .returned (.bool (l.all p)) ∧ Below w.heap.size w w' := by
  obtain ⟨a0, cap, rfl, hc, hn, hr⟩ := h
  go_enter Tryz.func77, Tryz.ntmps77
  go_wp2
  go_loopw [9] (fun i wr => ∃ j : Nat, i = .int .i64 (j : Int) ∧ j ≤ l.length ∧ (∀ (q : Nat) z, q < j → l[q]? = some z → p z = true) ∧ Below w.heap.size w wr) (fun i _ => l.length - (RowKit.intOf i).toNat)
  case atStart => exact ⟨0, rfl, Nat.zero_le _, fun q z hq => absurd hq (Nat.not_lt_zero _), Below.refl _ _⟩
  case round =>
    obtain ⟨j, rfl, hj, hno, hbr⟩ := hrel
    by_cases hlt : j < l.length
    · obtain ⟨b, o, rfl, hbl, hH⟩ := hr (by omega)
      obtain ⟨x, hx⟩ : ∃ x, l[j]? = some x := ⟨_, List.getElem?_eq_getElem hlt⟩
      obtain ⟨e0, fv, e1, hf⟩ := hH j hlt x hx
      obtain ⟨a1, c1, rfl, _, _⟩ := hf.slice
      have f0 := cell_on hbr e0
      have f1 := cell_on hbr e1
      have b0 : Below wr.heap.size wr (wr.alloc (.cells #[.string ⟨x.n.toArray⟩, .slice a1 x.ws.length c1] 59)) := al1 wr _
      have CL := H x a1 c1 (wr.alloc (.cells #[.string ⟨x.n.toArray⟩, .slice a1 x.ws.length c1] 59)) (List.mem_of_getElem? hx) (hbr.trans (b0.mono hbr.size)) ((hf.on hbr).on b0)
      have l1 : ((j : Nat) : Int) < (l.length : Int) := by omega
      have hjN : ((j : Nat) : Int).toNat = j := by omega
      have hz : Hid (j + 1 ≤ l.length) := hlt
      have HN : Hid (∀ (q : Nat) z, q < j → l[q]? = some z → p z = true) := hno
      have HM : Hid (l[j]? = some x) := hx
      clear hno hH hr hx e0 e1 hlt H
      cases hq : p x with
      | false =>
        rw [hq] at CL
        have HP : Hid (l.all p = false) := all_false HM.out hq
        clear hq
        go_wp2
        refine Calls.mono CL ?_
        rintro e w2 ⟨rfl, b2⟩
        go_wp2
        go_ret
        exact ⟨by rw [HP.out]; rfl, (hbr.trans (b0.mono hbr.size)).trans (b2.mono (hbr.trans (b0.mono hbr.size)).size)⟩
      | true =>
        rw [hq] at CL
        have hno2 : Hid (∀ (q : Nat) z, q < j + 1 → l[q]? = some z → p z = true) := by
          intro q z hq1 hz1
          by_cases e : q = j
          · subst e
            rw [HM.out] at hz1
            cases hz1
            exact hq
          · exact HN.out q z (by omega) hz1
        clear hq
        go_wp2
        refine Calls.mono CL ?_
        rintro e w2 ⟨rfl, b2⟩
        go_wp2
        refine ⟨⟨j + 1, by simp, hz.out, hno2.out, (hbr.trans (b0.mono hbr.size)).trans (b2.mono (hbr.trans (b0.mono hbr.size)).size)⟩, ?_⟩
        have := hz.out
        simp [RowKit.intOf]
        omega
    · have l2 : decide (((j : Nat) : Int) < (l.length : Int)) = false := by simp; omega
      have l3 : decide (j < l.length) = false := by simp; omega
      have HP : Hid (l.all p = true) := all_true fun q z hq hz => hno q z (by omega) hz
      clear hno hr hlt hj H
      go_wp2
      go_ret
      exact ⟨by rw [HP.out]; rfl, hbr⟩
set_option maxRecDepth 100000 in
set_option maxHeartbeats 2000000 in
theorem every_string {l : List Bs} {v : Value} (K : Nat) (caps : Array Value) (p : Bs → Bool) (w : World) (h : WdsAt w v l) (hK : ∀ args W, Sem.run Tryz.prog (callFunc K args) W = .ok (.enter K args) W)
    (H : ∀ (x : Bs)  (W : World), x ∈ l → Below w.heap.size w W → Calls Tryz.prog K (#[.string ⟨x.toArray⟩] ++ caps) W fun e W' => e = .returned (.bool (p x)) ∧ Below W.heap.size W W') :
    Calls Tryz.prog 82 #[v, .func (.func K) #[] caps] w fun e w' => e = .returned (.bool (l.all p)) ∧ Below w.heap.size w w' := by
  obtain ⟨a0, cap, rfl, hc, hn, hr⟩ := h
  go_enter Tryz.func82, Tryz.ntmps82
  go_wp2
  go_loopw [9] (fun i wr => ∃ j : Nat, i = .int .i64 (j : Int) ∧ j ≤ l.length ∧ (∀ (q : Nat) z, q < j → l[q]? = some z → p z = true) ∧ Below w.heap.size w wr) (fun i _ => l.length - (RowKit.intOf i).toNat)
  case atStart => exact ⟨0, rfl, Nat.zero_le _, fun q z hq => absurd hq (Nat.not_lt_zero _), Below.refl _ _⟩
  case round =>
    obtain ⟨j, rfl, hj, hno, hbr⟩ := hrel
    by_cases hlt : j < l.length
    · obtain ⟨b, o, rfl, hbl, hH⟩ := hr (by omega)
      obtain ⟨x, hx⟩ : ∃ x, l[j]? = some x := ⟨_, List.getElem?_eq_getElem hlt⟩
      have e0 := hH j hlt x hx
      have f0 := cell_on hbr e0
      rw [Nat.mul_one] at f0
      have b0 : Below wr.heap.size wr wr := Below.refl _ _
      have CL := H x wr (List.mem_of_getElem? hx) (hbr.trans (b0.mono hbr.size)) 
      have l1 : ((j : Nat) : Int) < (l.length : Int) := by omega
      have hjN : ((j : Nat) : Int).toNat = j := by omega
      have hz : Hid (j + 1 ≤ l.length) := hlt
      have HN : Hid (∀ (q : Nat) z, q < j → l[q]? = some z → p z = true) := hno
      have HM : Hid (l[j]? = some x) := hx
      clear hno hH hr hx e0 hlt H
      cases hq : p x with
      | false =>
        rw [hq] at CL
        have HP : Hid (l.all p = false) := all_false HM.out hq
        clear hq
        go_wp2
        refine Calls.mono CL ?_
        rintro e w2 ⟨rfl, b2⟩
        go_wp2
        go_ret
        exact ⟨by rw [HP.out]; rfl, (hbr.trans (b0.mono hbr.size)).trans (b2.mono (hbr.trans (b0.mono hbr.size)).size)⟩
      | true =>
        rw [hq] at CL
        have hno2 : Hid (∀ (q : Nat) z, q < j + 1 → l[q]? = some z → p z = true) := by
          intro q z hq1 hz1
          by_cases e : q = j
          · subst e
            rw [HM.out] at hz1
            cases hz1
            exact hq
          · exact HN.out q z (by omega) hz1
        clear hq
        go_wp2
        refine Calls.mono CL ?_
        rintro e w2 ⟨rfl, b2⟩
        go_wp2
        refine ⟨⟨j + 1, by simp, hz.out, hno2.out, (hbr.trans (b0.mono hbr.size)).trans (b2.mono (hbr.trans (b0.mono hbr.size)).size)⟩, ?_⟩
        have := hz.out
        simp [RowKit.intOf]
        omega
    · have l2 : decide (((j : Nat) : Int) < (l.length : Int)) = false := by simp; omega
      have l3 : decide (j < l.length) = false := by simp; omega
      have HP : Hid (l.all p = true) := all_true fun q z hq hz => hno q z (by omega) hz
      clear hno hr hlt hj H
      go_wp2
      go_ret
      exact ⟨by rw [HP.out]; rfl, hbr⟩
set_option maxRecDepth 100000 in
set_option maxHeartbeats 2000000 in
theorem every_spot {l : List Spt} {v : Value} (K : Nat) (caps : Array Value) (p : Spt → Bool) (w : World) (h : SptsAt w v l) (hK : ∀ args W, Sem.run Tryz.prog (callFunc K args) W = .ok (.enter K args) W)
    (H : ∀ (x : Spt)  (W : World), x ∈ l → Below w.heap.size w W → Calls Tryz.prog K (#[.agg #[.int .i64 (x.o : Int), .int .i64 (x.k : Int), .string ⟨x.f.n.toArray⟩, .string ⟨x.f.t.toArray⟩, .string ⟨x.f.w.toArray⟩, .bool x.f.s, .string ⟨x.f.i.toArray⟩]] ++ caps) W fun e W' => e = .returned (.bool (p x)) ∧ Below W.heap.size W W') :
    Calls Tryz.prog 41 #[v, .func (.func K) #[] caps] w fun e w' => e = .returned (.bool (l.all p)) ∧ Below w.heap.size w w' := by
  obtain ⟨a0, cap, rfl, hc, hn, hr⟩ := h
  go_enter Tryz.func41, Tryz.ntmps41
  go_wp2
  go_loopw [9] (fun i wr => ∃ j : Nat, i = .int .i64 (j : Int) ∧ j ≤ l.length ∧ (∀ (q : Nat) z, q < j → l[q]? = some z → p z = true) ∧ Below w.heap.size w wr) (fun i _ => l.length - (RowKit.intOf i).toNat)
  case atStart => exact ⟨0, rfl, Nat.zero_le _, fun q z hq => absurd hq (Nat.not_lt_zero _), Below.refl _ _⟩
  case round =>
    obtain ⟨j, rfl, hj, hno, hbr⟩ := hrel
    by_cases hlt : j < l.length
    · obtain ⟨b, o, rfl, hbl, hH⟩ := hr (by omega)
      obtain ⟨x, hx⟩ : ∃ x, l[j]? = some x := ⟨_, List.getElem?_eq_getElem hlt⟩
      obtain ⟨e0, e1, e2, e3, e4, e5, e6⟩ := hH j hlt x hx
      have f0 := cell_on hbr e0
      have f1 := cell_on hbr e1
      have f2 := cell_on hbr e2
      have f3 := cell_on hbr e3
      have f4 := cell_on hbr e4
      have f5 := cell_on hbr e5
      have f6 := cell_on hbr e6
      have b0 : Below wr.heap.size wr (wr.alloc (.cells #[.int .i64 (x.o : Int), .int .i64 (x.k : Int), .string ⟨x.f.n.toArray⟩, .string ⟨x.f.t.toArray⟩, .string ⟨x.f.w.toArray⟩, .bool x.f.s, .string ⟨x.f.i.toArray⟩] 79)) := al1 wr _
      have CL := H x (wr.alloc (.cells #[.int .i64 (x.o : Int), .int .i64 (x.k : Int), .string ⟨x.f.n.toArray⟩, .string ⟨x.f.t.toArray⟩, .string ⟨x.f.w.toArray⟩, .bool x.f.s, .string ⟨x.f.i.toArray⟩] 79)) (List.mem_of_getElem? hx) (hbr.trans (b0.mono hbr.size)) 
      have l1 : ((j : Nat) : Int) < (l.length : Int) := by omega
      have hjN : ((j : Nat) : Int).toNat = j := by omega
      have hz : Hid (j + 1 ≤ l.length) := hlt
      have HN : Hid (∀ (q : Nat) z, q < j → l[q]? = some z → p z = true) := hno
      have HM : Hid (l[j]? = some x) := hx
      clear hno hH hr hx e0 e1 e2 e3 e4 e5 e6 hlt H
      cases hq : p x with
      | false =>
        rw [hq] at CL
        have HP : Hid (l.all p = false) := all_false HM.out hq
        clear hq
        go_wp2
        refine Calls.mono CL ?_
        rintro e w2 ⟨rfl, b2⟩
        go_wp2
        go_ret
        exact ⟨by rw [HP.out]; rfl, (hbr.trans (b0.mono hbr.size)).trans (b2.mono (hbr.trans (b0.mono hbr.size)).size)⟩
      | true =>
        rw [hq] at CL
        have hno2 : Hid (∀ (q : Nat) z, q < j + 1 → l[q]? = some z → p z = true) := by
          intro q z hq1 hz1
          by_cases e : q = j
          · subst e
            rw [HM.out] at hz1
            cases hz1
            exact hq
          · exact HN.out q z (by omega) hz1
        clear hq
        go_wp2
        refine Calls.mono CL ?_
        rintro e w2 ⟨rfl, b2⟩
        go_wp2
        refine ⟨⟨j + 1, by simp, hz.out, hno2.out, (hbr.trans (b0.mono hbr.size)).trans (b2.mono (hbr.trans (b0.mono hbr.size)).size)⟩, ?_⟩
        have := hz.out
        simp [RowKit.intOf]
        omega
    · have l2 : decide (((j : Nat) : Int) < (l.length : Int)) = false := by simp; omega
      have l3 : decide (j < l.length) = false := by simp; omega
      have HP : Hid (l.all p = true) := all_true fun q z hq hz => hno q z (by omega) hz
      clear hno hr hlt hj H
      go_wp2
      go_ret
      exact ⟨by rw [HP.out]; rfl, hbr⟩
end Go.Proofs.YtamkjpfomaapgaaGreatDoor
namespace Go.Proofs.YtamkjpfomaapgaaGreatDoor
open Go Go.RowKit Go.Shelf
def betS (n a b : Int) : Bool := decide (a ≤ n) && decide (n ≤ b)
set_option maxRecDepth 100000 in
theorem hbetween_any (n a b : Int) (w : World) : Calls Tryz.prog 74 #[.int .i64 n, .int .i64 a, .int .i64 b] w fun e w' => e = .returned (.bool (betS n a b)) ∧ w' = w := by
  unfold betS
  cases h1 : decide (a ≤ n) with
  | true =>
    go_enter Tryz.func74, Tryz.ntmps74
    go_wp2
    go_ret
    exact ⟨by simp, rfl⟩
  | false =>
    go_enter Tryz.func74, Tryz.ntmps74
    go_wp2
    go_ret
    exact ⟨rfl, rfl⟩
set_option maxRecDepth 100000 in
theorem hmany1_any (x : Ob) (a1 : Option Addr) (c1 : Nat) (w : World) : Calls Tryz.prog 76 (#[.agg #[.string ⟨x.n.toArray⟩, .slice a1 x.fs.length c1]] ++ #[]) w fun e w' => e = .returned (.bool (betS x.fs.length 1 12)) ∧ Below w.heap.size w w' := by
  have BT := fun w1 => hbetween_any x.fs.length 1 12 w1
  show Calls Tryz.prog 76 #[.agg #[.string ⟨x.n.toArray⟩, .slice a1 x.fs.length c1]] w _
  go_enter Tryz.func76, Tryz.ntmps76
  go_wp2_with (first
    | (go_at_call 74; (with_reducible refine (BT _).mono ?_); rintro e w2 ⟨rfl, rfl⟩)
    | fail)
  go_ret
  exact ⟨rfl, al1 w _⟩
set_option maxRecDepth 100000 in
theorem hmany2_any (x : En) (a1 : Option Addr) (c1 : Nat) (w : World) : Calls Tryz.prog 78 (#[.agg #[.string ⟨x.n.toArray⟩, .slice a1 x.ws.length c1]] ++ #[]) w fun e w' => e = .returned (.bool (betS x.ws.length 1 16)) ∧ Below w.heap.size w w' := by
  have BT := fun w1 => hbetween_any x.ws.length 1 16 w1
  show Calls Tryz.prog 78 #[.agg #[.string ⟨x.n.toArray⟩, .slice a1 x.ws.length c1]] w _
  go_enter Tryz.func78, Tryz.ntmps78
  go_wp2_with (first
    | (go_at_call 74; (with_reducible refine (BT _).mono ?_); rintro e w2 ⟨rfl, rfl⟩)
    | fail)
  go_ret
  exact ⟨rfl, al1 w _⟩
def manS (s : Sch) : Bool := betS s.os.length 1 8 && decide ((s.es.length : Int) ≤ 8) && s.os.all (fun x => betS x.fs.length 1 12) && s.es.all (fun x => betS x.ws.length 1 16)
section
variable {w : World} {ov ev : Value} {s : Sch}
set_option maxRecDepth 100000 in
set_option maxHeartbeats 2000000 in
theorem hmany_any (h : SchAt w ov ev s) : Calls Tryz.prog 38 #[.agg #[ov, ev]] w fun e w' => e = .returned (.bool (manS s)) ∧ Below w.heap.size w w' := by
  have BT := fun w1 => hbetween_any s.os.length 1 8 w1
  have E1 := fun o => every_Object 76 #[] (fun x => betS x.fs.length 1 12) (w.alloc o) (h.os.on (al1 w o)) (fun _ _ => rfl) (fun x a1 c1 W _ _ _ => hmany1_any x a1 c1 W)
  have E2 := fun W (b : Below w.heap.size w W) => every_Enum 78 #[] (fun x => betS x.ws.length 1 16) W (h.es.on b) (fun _ _ => rfl) (fun x a1 c1 W _ _ _ => hmany2_any x a1 c1 W)
  obtain ⟨a, c, rfl, _, _⟩ := h.os.slice
  obtain ⟨a', c', rfl, _, _⟩ := h.es.slice
  unfold manS
  generalize s.os.all (fun x => betS x.fs.length 1 12) = b3 at *
  generalize s.es.all (fun x => betS x.ws.length 1 16) = b4 at *
  cases h1 : betS s.os.length 1 8 with
  | false =>
    rw [h1] at BT
    clear h1
    go_enter Tryz.func38, Tryz.ntmps38
    go_wp2_with (first
      | (go_at_call 74; (with_reducible refine (BT _).mono ?_); rintro e w2 ⟨rfl, rfl⟩)
      | fail)
    go_ret
    exact ⟨by simp, al1 w _⟩
  | true =>
    rw [h1] at BT
    clear h1
    cases h2 : decide ((s.es.length : Int) ≤ 8) with
    | false =>
      go_enter Tryz.func38, Tryz.ntmps38
      go_wp2_with (first
        | (go_at_call 74; (with_reducible refine (BT _).mono ?_); rintro e w2 ⟨rfl, rfl⟩)
        | fail)
      go_ret
      exact ⟨by simp, al1 w _⟩
    | true =>
      cases b3 with
      | false =>
        go_enter Tryz.func38, Tryz.ntmps38
        go_wp2_with (first
          | (go_at_call 75; (with_reducible refine (E1 _).mono ?_); rintro e w3 ⟨rfl, b3⟩)
          | (go_at_call 74; (with_reducible refine (BT _).mono ?_); rintro e w2 ⟨rfl, rfl⟩)
          | fail)
        go_ret
        exact ⟨by simp, (al1 w _).trans (b3.mono (al1 w _).size)⟩
      | true =>
        go_enter Tryz.func38, Tryz.ntmps38
        go_wp2_with (first
          | (go_at_call 77; (with_reducible refine (E2 _ B3).mono ?_); rintro e w4 ⟨rfl, b4⟩)
          | (go_at_call 75; (with_reducible refine (E1 _).mono ?_); rintro e w3 ⟨rfl, b3⟩; have B3 := (al1 w _).trans (b3.mono (al1 w _).size); obtain ⟨q0, q1, fq⟩ := row2 ((b3.block _ (by simp)).trans (heap_alloc_new w (.cells #[.slice a s.os.length c, .slice a' s.es.length c'] 25))))
          | (go_at_call 74; (with_reducible refine (BT _).mono ?_); rintro e w2 ⟨rfl, rfl⟩)
          | fail)
        go_ret
        exact ⟨by simp, B3.trans (b4.mono B3.size)⟩
end
def shoS (x : Bs) : Bool := decide ((x.length : Int) ≤ 24) && nameK x && !Lib.hasPrefix x [95, 95]
set_option maxRecDepth 100000 in
theorem hshort_any (x : Bs) (w : World) (gl : Gl w) : Calls Tryz.prog 84 #[.string ⟨x.toArray⟩] w fun e w' => e = .returned (.bool (shoS x)) ∧ Below w.heap.size w w' := by
  have NM := yname_any x w gl
  have PF := fun w1 => Tryz.strings_HasPrefix ⟨x.toArray⟩ ⟨#[95, 95]⟩ w1
  have hsz := size_of x
  unfold shoS
  have e : (Lib.hasPrefix (ByteArray.mk x.toArray).data.toList (ByteArray.mk #[95, 95]).data.toList) = Lib.hasPrefix x [95, 95] := rfl
  rw [e] at PF
  generalize Lib.hasPrefix x [95, 95] = b3 at *
  generalize nameK x = b2 at *
  cases h1 : decide ((x.length : Int) ≤ 24) with
  | false =>
    go_enter Tryz.func84, Tryz.ntmps84
    go_wp2
    go_ret
    exact ⟨by simp, Below.refl _ _⟩
  | true =>
    cases b2 with
    | false =>
      go_enter Tryz.func84, Tryz.ntmps84
      go_wp2_with (first
        | (go_at_call 110; (with_reducible refine NM.mono ?_); rintro e w2 ⟨rfl, b2⟩)
        | fail)
      go_ret
      exact ⟨by simp, b2⟩
    | true =>
      go_enter Tryz.func84, Tryz.ntmps84
      go_wp2_with (first
        | (go_at_call 107; (with_reducible refine (PF _).mono ?_); rintro e w3 ⟨rfl, rfl⟩)
        | (go_at_call 110; (with_reducible refine NM.mono ?_); rintro e w2 ⟨rfl, b2⟩)
        | fail)
      go_ret
      exact ⟨by simp, b2⟩
def frfS (x : Bs) : Bool := !(x == [105, 100] || x == [97, 110, 100] || x == [111, 114] || x == [110, 111, 116]) && shoS x
set_option maxRecDepth 100000 in
theorem hfreeField_any (x : Bs) (w : World) (gl : Gl w) : Calls Tryz.prog 43 #[.string ⟨x.toArray⟩] w fun e w' => e = .returned (.bool (frfS x)) ∧ Below w.heap.size w w' := by
  have SH := hshort_any x w gl
  unfold frfS
  generalize shoS x = b at *
  cases c4 : (x == [105, 100]) with
  | true =>
    go_enter Tryz.func43, Tryz.ntmps43
    go_wp2
    go_ret
    exact ⟨by simp, Below.refl _ _⟩
  | false =>
    cases c3 : (x == [97, 110, 100]) with
    | true =>
      go_enter Tryz.func43, Tryz.ntmps43
      go_wp2
      go_ret
      exact ⟨by simp, Below.refl _ _⟩
    | false =>
      cases c2 : (x == [111, 114]) with
      | true =>
        go_enter Tryz.func43, Tryz.ntmps43
        go_wp2
        go_ret
        exact ⟨by simp, Below.refl _ _⟩
      | false =>
        cases c1 : (x == [110, 111, 116]) with
        | true =>
          go_enter Tryz.func43, Tryz.ntmps43
          go_wp2
          go_ret
          exact ⟨by simp, Below.refl _ _⟩
        | false =>
          go_enter Tryz.func43, Tryz.ntmps43
          go_wp2_with (first
            | (go_at_call 84; (with_reducible refine SH.mono ?_); rintro e w2 ⟨rfl, b2⟩)
            | fail)
          go_ret
          exact ⟨by simp, b2⟩
def frwS (x : Bs) : Bool := !(x == [116, 114, 117, 101] || x == [102, 97, 108, 115, 101] || x == [110, 117, 108, 108]) && shoS x
set_option maxRecDepth 100000 in
theorem hfreeWord_any (x : Bs) (w : World) (gl : Gl w) : Calls Tryz.prog 83 #[.string ⟨x.toArray⟩] w fun e w' => e = .returned (.bool (frwS x)) ∧ Below w.heap.size w w' := by
  have SH := hshort_any x w gl
  unfold frwS
  generalize shoS x = b at *
  cases c3 : (x == [116, 114, 117, 101]) with
  | true =>
    go_enter Tryz.func83, Tryz.ntmps83
    go_wp2
    go_ret
    exact ⟨by simp, Below.refl _ _⟩
  | false =>
    cases c2 : (x == [102, 97, 108, 115, 101]) with
    | true =>
      go_enter Tryz.func83, Tryz.ntmps83
      go_wp2
      go_ret
      exact ⟨by simp, Below.refl _ _⟩
    | false =>
      cases c1 : (x == [110, 117, 108, 108]) with
      | true =>
        go_enter Tryz.func83, Tryz.ntmps83
        go_wp2
        go_ret
        exact ⟨by simp, Below.refl _ _⟩
      | false =>
        go_enter Tryz.func83, Tryz.ntmps83
        go_wp2_with (first
          | (go_at_call 84; (with_reducible refine SH.mono ?_); rintro e w2 ⟨rfl, b2⟩)
          | fail)
        go_ret
        exact ⟨by simp, b2⟩
end Go.Proofs.YtamkjpfomaapgaaGreatDoor
namespace Go.Proofs.YtamkjpfomaapgaaGreatDoor
open Go Go.RowKit Go.Shelf
set_option maxRecDepth 100000 in
theorem hfreeType1_any (x p : Bs) (P : Nat) (w : World) (h : w.cell? ⟨P, 0, none⟩ = some (.string ⟨x.toArray⟩)) : Calls Tryz.prog 106 (#[.string ⟨p.toArray⟩] ++ #[.pointer (some ⟨P, 0, none⟩)]) w fun e w' => e = .returned (.bool (!Lib.hasPrefix x p)) ∧ Below w.heap.size w w' := by
  have PF := fun w1 => Tryz.strings_HasPrefix ⟨x.toArray⟩ ⟨p.toArray⟩ w1
  have e : (Lib.hasPrefix (ByteArray.mk x.toArray).data.toList (ByteArray.mk p.toArray).data.toList) = Lib.hasPrefix x p := rfl
  rw [e] at PF
  show Calls Tryz.prog 106 #[.string ⟨p.toArray⟩, .pointer (some ⟨P, 0, none⟩)] w _
  go_enter Tryz.func106, Tryz.ntmps106
  go_wp2_with (first
    | (go_at_call 107; (with_reducible refine (PF _).mono ?_); rintro e w3 ⟨rfl, rfl⟩)
    | fail)
  go_ret
  exact ⟨rfl, Below.refl _ _⟩
set_option maxRecDepth 100000 in
theorem hfreeType2_any (x p : Bs) (P : Nat) (w : World) (hx : x.length ≤ 24) (h : w.cell? ⟨P, 0, none⟩ = some (.string ⟨x.toArray⟩)) : Calls Tryz.prog 108 (#[.string ⟨p.toArray⟩] ++ #[.pointer (some ⟨P, 0, none⟩)]) w fun e w' => e = .returned (.bool (!Lib.hasSuffix x p)) ∧ Below w.heap.size w w' := by
  have PF := fun w1 => Tryz.strings_HasSuffix ⟨x.toArray⟩ ⟨p.toArray⟩ w1 (by rw [size_of]; omega)
  have e : (Lib.hasSuffix (ByteArray.mk x.toArray).data.toList (ByteArray.mk p.toArray).data.toList) = Lib.hasSuffix x p := rfl
  rw [e] at PF
  show Calls Tryz.prog 108 #[.string ⟨p.toArray⟩, .pointer (some ⟨P, 0, none⟩)] w _
  go_enter Tryz.func108, Tryz.ntmps108
  go_wp2_with (first
    | (go_at_call 109; (with_reducible refine (PF _).mono ?_); rintro e w3 ⟨rfl, rfl⟩)
    | fail)
  go_ret
  exact ⟨rfl, Below.refl _ _⟩
def frtS (x : Bs) : Bool := !(x == [81, 117, 101, 114, 121] || x == [77, 117, 116, 97, 116, 105, 111, 110] || x == [83, 117, 98, 115, 99, 114, 105, 112, 116, 105, 111, 110] || x == [73, 68]) && (shoS x && !scaS x && ([[65, 100, 100], [80, 97, 116, 99, 104]] : List Bs).all (fun p => !Lib.hasPrefix x p) && ([[70, 105, 108, 116, 101, 114], [79, 114, 100, 101, 114], [79, 114, 100, 101, 114, 97, 98, 108, 101]] : List Bs).all (fun p => !Lib.hasSuffix x p))
theorem wds_pr {w : World} {q : Nat} (h : w.heap[q]? = some (.cells #[.string ⟨#[65, 100, 100]⟩, .string ⟨#[80, 97, 116, 99, 104]⟩] 9)) : WdsAt w (.slice (some ⟨q, 0, none⟩) 2 2) [[65, 100, 100], [80, 97, 116, 99, 104]] := by
  refine ⟨_, 2, rfl, Nat.le_refl _, by decide, fun _ => ⟨q, 0, rfl, lt_of_block h, fun i hi x hx => ?_⟩⟩
  change i < 2 at hi
  rcases (show i = 0 ∨ i = 1 by omega) with rfl | rfl <;> (simp only [List.getElem?_cons_zero, List.getElem?_cons_succ] at hx; cases hx; simp [World.cell?, h])
theorem wds_su {w : World} {q : Nat} (h : w.heap[q]? = some (.cells #[.string ⟨#[70, 105, 108, 116, 101, 114]⟩, .string ⟨#[79, 114, 100, 101, 114]⟩, .string ⟨#[79, 114, 100, 101, 114, 97, 98, 108, 101]⟩] 9)) : WdsAt w (.slice (some ⟨q, 0, none⟩) 3 3) [[70, 105, 108, 116, 101, 114], [79, 114, 100, 101, 114], [79, 114, 100, 101, 114, 97, 98, 108, 101]] := by
  refine ⟨_, 3, rfl, Nat.le_refl _, by decide, fun _ => ⟨q, 0, rfl, lt_of_block h, fun i hi x hx => ?_⟩⟩
  change i < 3 at hi
  rcases (show i = 0 ∨ i = 1 ∨ i = 2 by omega) with rfl | rfl | rfl <;> (simp only [List.getElem?_cons_zero, List.getElem?_cons_succ] at hx; cases hx; simp [World.cell?, h])
theorem sho_len {x : Bs} (h : shoS x = true) : x.length ≤ 24 := by
  unfold shoS at h
  simp only [Bool.and_eq_true, decide_eq_true_eq] at h
  have := h.1.1
  omega
set_option maxRecDepth 100000 in
set_option maxHeartbeats 4000000 in
theorem hfreeType_any (x : Bs) (w : World) (gl : Gl w) : Calls Tryz.prog 80 #[.string ⟨x.toArray⟩] w fun e w' => e = .returned (.bool (frtS x)) ∧ Below w.heap.size w w' := by
  have SH := fun o => hshort_any x (w.alloc o) (gl.below (al1 w o) (Nat.le_refl _))
  have SC := fun w1 => hscalar_any x w1
  have hmf := Tryz.makeFn
  have E1 := fun W (b : Below (w.alloc (.cells #[.string ⟨x.toArray⟩] 9)).heap.size (w.alloc (.cells #[.string ⟨x.toArray⟩] 9)) W) => every_string 106 #[.pointer (some ⟨w.heap.size, 0, none⟩)] (fun p => !Lib.hasPrefix x p) (W.alloc (.cells #[.string ⟨#[65, 100, 100]⟩, .string ⟨#[80, 97, 116, 99, 104]⟩] 9)) (wds_pr (heap_alloc_new W _)) (fun _ _ => rfl) (fun p W2 _ b2 => hfreeType1_any x p w.heap.size W2 (cell_on b2 (cell_on (al1 W _) (cell_on b (row1 (heap_alloc_new w _)).1))))
  have E2 := fun (hx : x.length ≤ 24) W (b : Below (w.alloc (.cells #[.string ⟨x.toArray⟩] 9)).heap.size (w.alloc (.cells #[.string ⟨x.toArray⟩] 9)) W) => every_string 108 #[.pointer (some ⟨w.heap.size, 0, none⟩)] (fun p => !Lib.hasSuffix x p) (W.alloc (.cells #[.string ⟨#[70, 105, 108, 116, 101, 114]⟩, .string ⟨#[79, 114, 100, 101, 114]⟩, .string ⟨#[79, 114, 100, 101, 114, 97, 98, 108, 101]⟩] 9)) (wds_su (heap_alloc_new W _)) (fun _ _ => rfl) (fun p W2 _ b2 => hfreeType2_any x p w.heap.size W2 hx (cell_on b2 (cell_on (al1 W _) (cell_on b (row1 (heap_alloc_new w _)).1))))
  have hln := sho_len (x := x)
  unfold frtS
  generalize ([[65, 100, 100], [80, 97, 116, 99, 104]] : List Bs).all (fun p => !Lib.hasPrefix x p) = b3 at *
  generalize ([[70, 105, 108, 116, 101, 114], [79, 114, 100, 101, 114], [79, 114, 100, 101, 114, 97, 98, 108, 101]] : List Bs).all (fun p => !Lib.hasSuffix x p) = b4 at *
  generalize shoS x = b1 at *
  generalize scaS x = b2 at *
  have B0 := al1 w (.cells #[.string ⟨x.toArray⟩] 9)
  cases c4 : (x == [81, 117, 101, 114, 121]) with
  | true =>
    go_enter Tryz.func80, Tryz.ntmps80
    go_wp2
    go_ret
    exact ⟨by simp, B0⟩
  | false =>
    cases c3 : (x == [77, 117, 116, 97, 116, 105, 111, 110]) with
    | true =>
      go_enter Tryz.func80, Tryz.ntmps80
      go_wp2
      go_ret
      exact ⟨by simp, B0⟩
    | false =>
      cases c2 : (x == [83, 117, 98, 115, 99, 114, 105, 112, 116, 105, 111, 110]) with
      | true =>
        go_enter Tryz.func80, Tryz.ntmps80
        go_wp2
        go_ret
        exact ⟨by simp, B0⟩
      | false =>
        cases c1 : (x == [73, 68]) with
        | true =>
          go_enter Tryz.func80, Tryz.ntmps80
          go_wp2
          go_ret
          exact ⟨by simp, B0⟩
        | false =>
          cases b1 with
          | false =>
            go_enter Tryz.func80, Tryz.ntmps80
            go_wp2_with (first
              | (go_at_call 84; (with_reducible refine (SH _).mono ?_); rintro e w2 ⟨rfl, b2⟩; obtain ⟨q0, fq⟩ := row1 ((b2.block _ (by simp)).trans (heap_alloc_new w (.cells #[.string ⟨x.toArray⟩] 9))))
              | fail)
            go_ret
            exact ⟨by simp, B0.trans (b2.mono B0.size)⟩
          | true =>
            have E3 := E2 (hln rfl)
            clear E2 hln
            cases b2 with
            | true =>
              go_enter Tryz.func80, Tryz.ntmps80
              go_wp2_with (first
                | (go_at_call 105; (with_reducible refine (SC _).mono ?_); rintro e w3 ⟨rfl, rfl⟩)
                | (go_at_call 84; (with_reducible refine (SH _).mono ?_); rintro e w2 ⟨rfl, b2⟩; obtain ⟨q0, fq⟩ := row1 ((b2.block _ (by simp)).trans (heap_alloc_new w (.cells #[.string ⟨x.toArray⟩] 9))))
                | fail)
              go_ret
              exact ⟨by simp, B0.trans (b2.mono B0.size)⟩
            | false =>
              cases b3 with
              | false =>
                go_enter Tryz.func80, Tryz.ntmps80
                go_wp2_with (first
                  | (go_at_call 82; (with_reducible refine (E1 _ b2).mono ?_); rintro e w4 ⟨rfl, b4⟩; have C4 := b2.trans (((al1 _ _).trans (b4.mono (al1 _ _).size)).mono b2.size); obtain ⟨r0, fr⟩ := row1 ((C4.block _ (by simp)).trans (heap_alloc_new w (.cells #[.string ⟨x.toArray⟩] 9))))
                  | (go_at_call 105; (with_reducible refine (SC _).mono ?_); rintro e w3 ⟨rfl, rfl⟩)
                  | (go_at_call 84; (with_reducible refine (SH _).mono ?_); rintro e w2 ⟨rfl, b2⟩; obtain ⟨q0, fq⟩ := row1 ((b2.block _ (by simp)).trans (heap_alloc_new w (.cells #[.string ⟨x.toArray⟩] 9))))
                  | fail)
                go_ret
                exact ⟨by simp, B0.trans (C4.mono B0.size)⟩
              | true =>
                go_enter Tryz.func80, Tryz.ntmps80
                go_wp2_with (first
                  | (go_at_call 82; (with_reducible refine (E3 _ C4).mono ?_); rintro e w5 ⟨rfl, b5⟩)
                  | (go_at_call 82; (with_reducible refine (E1 _ b2).mono ?_); rintro e w4 ⟨rfl, b4⟩; have C4 := b2.trans (((al1 _ _).trans (b4.mono (al1 _ _).size)).mono b2.size); obtain ⟨r0, fr⟩ := row1 ((C4.block _ (by simp)).trans (heap_alloc_new w (.cells #[.string ⟨x.toArray⟩] 9))))
                  | (go_at_call 105; (with_reducible refine (SC _).mono ?_); rintro e w3 ⟨rfl, rfl⟩)
                  | (go_at_call 84; (with_reducible refine (SH _).mono ?_); rintro e w2 ⟨rfl, b2⟩; obtain ⟨q0, fq⟩ := row1 ((b2.block _ (by simp)).trans (heap_alloc_new w (.cells #[.string ⟨x.toArray⟩] 9))))
                  | fail)
                go_ret
                exact ⟨by simp, B0.trans ((C4.trans (((al1 w4 _).trans (b5.mono (al1 w4 _).size)).mono C4.size)).mono B0.size)⟩
end Go.Proofs.YtamkjpfomaapgaaGreatDoor
namespace Go.Proofs.YtamkjpfomaapgaaGreatDoor
open Go Go.RowKit Go.Shelf
/-- No name stands ahead of itself. -/
def uniB (l : List Bs) : Bool := (List.range l.length).all fun i => decide ((i : Int) ≤ plB (l.getD i []) l)
theorem uniB_true {l : List Bs} (h : ∀ (i : Nat) x, i < l.length → l[i]? = some x → (i : Int) ≤ plB x l) : uniB l = true := by
  unfold uniB
  rw [List.all_eq_true]
  intro i hi
  have hi := List.mem_range.1 hi
  simp only [decide_eq_true_eq]
  exact h i _ hi (by rw [List.getD_eq_getElem?_getD, List.getElem?_eq_getElem hi]; rfl)
theorem uniB_false {l : List Bs} {i : Nat} {x : Bs} (hx : l[i]? = some x) (h : plB x l < (i : Int)) : uniB l = false := by
  unfold uniB
  rw [List.all_eq_false]
  obtain ⟨hi, he⟩ := List.getElem?_eq_some_iff.1 hx
  refine ⟨i, List.mem_range.2 hi, ?_⟩
  have e : l.getD i [] = x := by rw [List.getD_eq_getElem?_getD, hx]; rfl
  rw [e]
  simp
  omega
set_option maxRecDepth 100000 in
set_option maxHeartbeats 2000000 in
theorem unlike_Object {os : List Ob} {v : Value} (w : World) (h : ObsAt w v os) : Calls Tryz.prog 85 #[v, .func (.func 86) #[] #[]] w fun e w' => e = .returned (.bool (uniB (os.map (·.n)))) ∧ Below w.heap.size w w' := by
  have PL := fun y W (b : Below w.heap.size w W) => place_Object y W (h.on b)
  obtain ⟨a0, cap, rfl, hc, hn, hr⟩ := h
  go_enter Tryz.func85, Tryz.ntmps85
  go_wp2
  go_loopw [9] (fun i wr => ∃ j : Nat, i = .int .i64 (j : Int) ∧ j ≤ os.length ∧ (∀ (q : Nat) z, q < j → (os.map (·.n))[q]? = some z → (q : Int) ≤ plB z (os.map (·.n))) ∧ Below w.heap.size w wr) (fun i _ => os.length - (RowKit.intOf i).toNat)
  case atStart => exact ⟨0, rfl, Nat.zero_le _, fun q z hq => absurd hq (Nat.not_lt_zero _), Below.refl _ _⟩
  case round =>
    obtain ⟨j, rfl, hj, hno, hbr⟩ := hrel
    by_cases hlt : j < os.length
    · obtain ⟨b, o, rfl, hbl, hH⟩ := hr (by omega)
      obtain ⟨x, hx⟩ : ∃ x, os[j]? = some x := ⟨_, List.getElem?_eq_getElem hlt⟩
      obtain ⟨e0, fv, e1, a1, c1, rfl, _⟩ := hH j hlt x hx
      have f0 := cell_on hbr e0
      have f1 := cell_on hbr e1
      have b0 : Below wr.heap.size wr (wr.alloc (.cells #[.string ⟨x.n.toArray⟩, .slice a1 x.fs.length c1] 54)) := al1 wr _
      have B0 := hbr.trans (b0.mono hbr.size)
      have NM := hobjectName_any x a1 x.fs.length c1 (wr.alloc (.cells #[.string ⟨x.n.toArray⟩, .slice a1 x.fs.length c1] 54))
      have PX := fun W (b2 : Below (wr.alloc (.cells #[.string ⟨x.n.toArray⟩, .slice a1 x.fs.length c1] 54)).heap.size (wr.alloc (.cells #[.string ⟨x.n.toArray⟩, .slice a1 x.fs.length c1] 54)) W) => PL x.n W (B0.trans (b2.mono B0.size))
      have l1 : ((j : Nat) : Int) < (os.length : Int) := by omega
      have hjN : ((j : Nat) : Int).toNat = j := by omega
      have hz : Hid (j + 1 ≤ os.length) := hlt
      have HN : Hid (∀ (q : Nat) z, q < j → (os.map (·.n))[q]? = some z → (q : Int) ≤ plB z (os.map (·.n))) := hno
      have HM : Hid ((os.map (·.n))[j]? = some x.n) := (by rw [List.getElem?_map, hx]; rfl)
      have HR := plB_range x.n (os.map (·.n))
      have HU1 : Hid (plB x.n (os.map (·.n)) < (j : Int) → uniB (os.map (·.n)) = false) := fun hq => uniB_false HM.out hq
      have HU2 : Hid (¬ plB x.n (os.map (·.n)) < (j : Int) → ∀ (q : Nat) z, q < j + 1 → (os.map (·.n))[q]? = some z → (q : Int) ≤ plB z (os.map (·.n))) := by
        intro hq q z hq1 hz1
        by_cases e : q = j
        · subst e
          rw [HM.out] at hz1
          cases hz1
          omega
        · exact HN.out q z (by omega) hz1
      clear hno hH hr hx e0 e1 hlt HN HM PL
      generalize plB x.n (os.map (·.n)) = kp at *
      by_cases hq : kp < (j : Int)
      · have HP : Hid (uniB (os.map (·.n)) = false) := HU1.out hq
        clear HU1 HU2 HR
        go_wp2_with (first
          | (go_at_call 111; (with_reducible refine (PX _ b2).mono ?_); rintro e w3 ⟨rfl, b3⟩)
          | (go_at_call 86; (with_reducible refine NM.mono ?_); rintro e w2 ⟨rfl, b2⟩)
          | fail)
        go_ret
        exact ⟨by rw [HP.out]; rfl, (B0.trans (b2.mono B0.size)).trans (b3.mono (B0.trans (b2.mono B0.size)).size)⟩
      · have hqd : decide (kp < (j : Int)) = false := by simp; omega
        have HP := HU2.out hq
        have hno2 : Hid (∀ (q : Nat) z, q < j + 1 → (os.map (·.n))[q]? = some z → (q : Int) ≤ plB z (os.map (·.n))) := HP
        clear HU1 HU2 HR HP hq
        go_wp2_with (first
          | (go_at_call 111; (with_reducible refine (PX _ b2).mono ?_); rintro e w3 ⟨rfl, b3⟩)
          | (go_at_call 86; (with_reducible refine NM.mono ?_); rintro e w2 ⟨rfl, b2⟩)
          | fail)
        refine ⟨⟨j + 1, by simp, hz.out, hno2.out, (B0.trans (b2.mono B0.size)).trans (b3.mono (B0.trans (b2.mono B0.size)).size)⟩, ?_⟩
        have := hz.out
        simp [RowKit.intOf]
        omega
    · have l2 : decide (((j : Nat) : Int) < (os.length : Int)) = false := by simp; omega
      have l3 : decide (j < os.length) = false := by simp; omega
      have HP : Hid (uniB (os.map (·.n)) = true) := uniB_true fun q z hq hz => hno q z (by
        rw [List.length_map] at hq
        omega) hz
      clear hno hr hlt hj PL
      go_wp2
      go_ret
      exact ⟨by rw [HP.out]; rfl, hbr⟩
set_option maxRecDepth 100000 in
set_option maxHeartbeats 2000000 in
theorem unlike_Enum {es : List En} {v : Value} (w : World) (h : EnsAt w v es) : Calls Tryz.prog 87 #[v, .func (.func 88) #[] #[]] w fun e w' => e = .returned (.bool (uniB (es.map (·.n)))) ∧ Below w.heap.size w w' := by
  have PL := fun y W (b : Below w.heap.size w W) => place_Enum y W (h.on b)
  obtain ⟨a0, cap, rfl, hc, hn, hr⟩ := h
  go_enter Tryz.func87, Tryz.ntmps87
  go_wp2
  go_loopw [9] (fun i wr => ∃ j : Nat, i = .int .i64 (j : Int) ∧ j ≤ es.length ∧ (∀ (q : Nat) z, q < j → (es.map (·.n))[q]? = some z → (q : Int) ≤ plB z (es.map (·.n))) ∧ Below w.heap.size w wr) (fun i _ => es.length - (RowKit.intOf i).toNat)
  case atStart => exact ⟨0, rfl, Nat.zero_le _, fun q z hq => absurd hq (Nat.not_lt_zero _), Below.refl _ _⟩
  case round =>
    obtain ⟨j, rfl, hj, hno, hbr⟩ := hrel
    by_cases hlt : j < es.length
    · obtain ⟨b, o, rfl, hbl, hH⟩ := hr (by omega)
      obtain ⟨x, hx⟩ : ∃ x, es[j]? = some x := ⟨_, List.getElem?_eq_getElem hlt⟩
      obtain ⟨e0, fv, e1, a1, c1, rfl, _⟩ := hH j hlt x hx
      have f0 := cell_on hbr e0
      have f1 := cell_on hbr e1
      have b0 : Below wr.heap.size wr (wr.alloc (.cells #[.string ⟨x.n.toArray⟩, .slice a1 x.ws.length c1] 59)) := al1 wr _
      have B0 := hbr.trans (b0.mono hbr.size)
      have NM := henumName_any x a1 x.ws.length c1 (wr.alloc (.cells #[.string ⟨x.n.toArray⟩, .slice a1 x.ws.length c1] 59))
      have PX := fun W (b2 : Below (wr.alloc (.cells #[.string ⟨x.n.toArray⟩, .slice a1 x.ws.length c1] 59)).heap.size (wr.alloc (.cells #[.string ⟨x.n.toArray⟩, .slice a1 x.ws.length c1] 59)) W) => PL x.n W (B0.trans (b2.mono B0.size))
      have l1 : ((j : Nat) : Int) < (es.length : Int) := by omega
      have hjN : ((j : Nat) : Int).toNat = j := by omega
      have hz : Hid (j + 1 ≤ es.length) := hlt
      have HN : Hid (∀ (q : Nat) z, q < j → (es.map (·.n))[q]? = some z → (q : Int) ≤ plB z (es.map (·.n))) := hno
      have HM : Hid ((es.map (·.n))[j]? = some x.n) := (by rw [List.getElem?_map, hx]; rfl)
      have HR := plB_range x.n (es.map (·.n))
      have HU1 : Hid (plB x.n (es.map (·.n)) < (j : Int) → uniB (es.map (·.n)) = false) := fun hq => uniB_false HM.out hq
      have HU2 : Hid (¬ plB x.n (es.map (·.n)) < (j : Int) → ∀ (q : Nat) z, q < j + 1 → (es.map (·.n))[q]? = some z → (q : Int) ≤ plB z (es.map (·.n))) := by
        intro hq q z hq1 hz1
        by_cases e : q = j
        · subst e
          rw [HM.out] at hz1
          cases hz1
          omega
        · exact HN.out q z (by omega) hz1
      clear hno hH hr hx e0 e1 hlt HN HM PL
      generalize plB x.n (es.map (·.n)) = kp at *
      by_cases hq : kp < (j : Int)
      · have HP : Hid (uniB (es.map (·.n)) = false) := HU1.out hq
        clear HU1 HU2 HR
        go_wp2_with (first
          | (go_at_call 112; (with_reducible refine (PX _ b2).mono ?_); rintro e w3 ⟨rfl, b3⟩)
          | (go_at_call 88; (with_reducible refine NM.mono ?_); rintro e w2 ⟨rfl, b2⟩)
          | fail)
        go_ret
        exact ⟨by rw [HP.out]; rfl, (B0.trans (b2.mono B0.size)).trans (b3.mono (B0.trans (b2.mono B0.size)).size)⟩
      · have hqd : decide (kp < (j : Int)) = false := by simp; omega
        have HP := HU2.out hq
        have hno2 : Hid (∀ (q : Nat) z, q < j + 1 → (es.map (·.n))[q]? = some z → (q : Int) ≤ plB z (es.map (·.n))) := HP
        clear HU1 HU2 HR HP hq
        go_wp2_with (first
          | (go_at_call 112; (with_reducible refine (PX _ b2).mono ?_); rintro e w3 ⟨rfl, b3⟩)
          | (go_at_call 88; (with_reducible refine NM.mono ?_); rintro e w2 ⟨rfl, b2⟩)
          | fail)
        refine ⟨⟨j + 1, by simp, hz.out, hno2.out, (B0.trans (b2.mono B0.size)).trans (b3.mono (B0.trans (b2.mono B0.size)).size)⟩, ?_⟩
        have := hz.out
        simp [RowKit.intOf]
        omega
    · have l2 : decide (((j : Nat) : Int) < (es.length : Int)) = false := by simp; omega
      have l3 : decide (j < es.length) = false := by simp; omega
      have HP : Hid (uniB (es.map (·.n)) = true) := uniB_true fun q z hq hz => hno q z (by
        rw [List.length_map] at hq
        omega) hz
      clear hno hr hlt hj PL
      go_wp2
      go_ret
      exact ⟨by rw [HP.out]; rfl, hbr⟩
set_option maxRecDepth 100000 in
set_option maxHeartbeats 2000000 in
theorem unlike_Field {fs : List Fld} {v : Value} (w : World) (h : FldsAt w v fs) : Calls Tryz.prog 94 #[v, .func (.func 95) #[] #[]] w fun e w' => e = .returned (.bool (uniB (fs.map (·.n)))) ∧ Below w.heap.size w w' := by
  have PL := fun y W (b : Below w.heap.size w W) => place_Field y W (h.on b)
  obtain ⟨a0, cap, rfl, hc, hn, hr⟩ := h
  go_enter Tryz.func94, Tryz.ntmps94
  go_wp2
  go_loopw [9] (fun i wr => ∃ j : Nat, i = .int .i64 (j : Int) ∧ j ≤ fs.length ∧ (∀ (q : Nat) z, q < j → (fs.map (·.n))[q]? = some z → (q : Int) ≤ plB z (fs.map (·.n))) ∧ Below w.heap.size w wr) (fun i _ => fs.length - (RowKit.intOf i).toNat)
  case atStart => exact ⟨0, rfl, Nat.zero_le _, fun q z hq => absurd hq (Nat.not_lt_zero _), Below.refl _ _⟩
  case round =>
    obtain ⟨j, rfl, hj, hno, hbr⟩ := hrel
    by_cases hlt : j < fs.length
    · obtain ⟨b, o, rfl, hbl, hH⟩ := hr (by omega)
      obtain ⟨x, hx⟩ : ∃ x, fs[j]? = some x := ⟨_, List.getElem?_eq_getElem hlt⟩
      obtain ⟨e0, e1, e2, e3, e4⟩ := hH j hlt x hx
      have f0 := cell_on hbr e0
      have f1 := cell_on hbr e1
      have f2 := cell_on hbr e2
      have f3 := cell_on hbr e3
      have f4 := cell_on hbr e4
      have b0 : Below wr.heap.size wr (wr.alloc (.cells #[.string ⟨x.n.toArray⟩, .string ⟨x.t.toArray⟩, .string ⟨x.w.toArray⟩, .bool x.s, .string ⟨x.i.toArray⟩] 56)) := al1 wr _
      have B0 := hbr.trans (b0.mono hbr.size)
      have NM := hfieldName_any x (wr.alloc (.cells #[.string ⟨x.n.toArray⟩, .string ⟨x.t.toArray⟩, .string ⟨x.w.toArray⟩, .bool x.s, .string ⟨x.i.toArray⟩] 56))
      have PX := fun W (b2 : Below (wr.alloc (.cells #[.string ⟨x.n.toArray⟩, .string ⟨x.t.toArray⟩, .string ⟨x.w.toArray⟩, .bool x.s, .string ⟨x.i.toArray⟩] 56)).heap.size (wr.alloc (.cells #[.string ⟨x.n.toArray⟩, .string ⟨x.t.toArray⟩, .string ⟨x.w.toArray⟩, .bool x.s, .string ⟨x.i.toArray⟩] 56)) W) => PL x.n W (B0.trans (b2.mono B0.size))
      have l1 : ((j : Nat) : Int) < (fs.length : Int) := by omega
      have hjN : ((j : Nat) : Int).toNat = j := by omega
      have hz : Hid (j + 1 ≤ fs.length) := hlt
      have HN : Hid (∀ (q : Nat) z, q < j → (fs.map (·.n))[q]? = some z → (q : Int) ≤ plB z (fs.map (·.n))) := hno
      have HM : Hid ((fs.map (·.n))[j]? = some x.n) := (by rw [List.getElem?_map, hx]; rfl)
      have HR := plB_range x.n (fs.map (·.n))
      have HU1 : Hid (plB x.n (fs.map (·.n)) < (j : Int) → uniB (fs.map (·.n)) = false) := fun hq => uniB_false HM.out hq
      have HU2 : Hid (¬ plB x.n (fs.map (·.n)) < (j : Int) → ∀ (q : Nat) z, q < j + 1 → (fs.map (·.n))[q]? = some z → (q : Int) ≤ plB z (fs.map (·.n))) := by
        intro hq q z hq1 hz1
        by_cases e : q = j
        · subst e
          rw [HM.out] at hz1
          cases hz1
          omega
        · exact HN.out q z (by omega) hz1
      clear hno hH hr hx e0 e1 e2 e3 e4 hlt HN HM PL
      generalize plB x.n (fs.map (·.n)) = kp at *
      by_cases hq : kp < (j : Int)
      · have HP : Hid (uniB (fs.map (·.n)) = false) := HU1.out hq
        clear HU1 HU2 HR
        go_wp2_with (first
          | (go_at_call 114; (with_reducible refine (PX _ b2).mono ?_); rintro e w3 ⟨rfl, b3⟩)
          | (go_at_call 95; (with_reducible refine NM.mono ?_); rintro e w2 ⟨rfl, b2⟩)
          | fail)
        go_ret
        exact ⟨by rw [HP.out]; rfl, (B0.trans (b2.mono B0.size)).trans (b3.mono (B0.trans (b2.mono B0.size)).size)⟩
      · have hqd : decide (kp < (j : Int)) = false := by simp; omega
        have HP := HU2.out hq
        have hno2 : Hid (∀ (q : Nat) z, q < j + 1 → (fs.map (·.n))[q]? = some z → (q : Int) ≤ plB z (fs.map (·.n))) := HP
        clear HU1 HU2 HR HP hq
        go_wp2_with (first
          | (go_at_call 114; (with_reducible refine (PX _ b2).mono ?_); rintro e w3 ⟨rfl, b3⟩)
          | (go_at_call 95; (with_reducible refine NM.mono ?_); rintro e w2 ⟨rfl, b2⟩)
          | fail)
        refine ⟨⟨j + 1, by simp, hz.out, hno2.out, (B0.trans (b2.mono B0.size)).trans (b3.mono (B0.trans (b2.mono B0.size)).size)⟩, ?_⟩
        have := hz.out
        simp [RowKit.intOf]
        omega
    · have l2 : decide (((j : Nat) : Int) < (fs.length : Int)) = false := by simp; omega
      have l3 : decide (j < fs.length) = false := by simp; omega
      have HP : Hid (uniB (fs.map (·.n)) = true) := uniB_true fun q z hq hz => hno q z (by
        rw [List.length_map] at hq
        omega) hz
      clear hno hr hlt hj PL
      go_wp2
      go_ret
      exact ⟨by rw [HP.out]; rfl, hbr⟩
set_option maxRecDepth 100000 in
set_option maxHeartbeats 2000000 in
theorem unlike_string {ws : List Bs} {v : Value} (w : World) (h : WdsAt w v ws) : Calls Tryz.prog 91 #[v, .func (.func 92) #[] #[]] w fun e w' => e = .returned (.bool (uniB ws)) ∧ Below w.heap.size w w' := by
  have PL := fun y W (b : Below w.heap.size w W) => place_string y W (h.on b)
  obtain ⟨a0, cap, rfl, hc, hn, hr⟩ := h
  go_enter Tryz.func91, Tryz.ntmps91
  go_wp2
  go_loopw [9] (fun i wr => ∃ j : Nat, i = .int .i64 (j : Int) ∧ j ≤ ws.length ∧ (∀ (q : Nat) z, q < j → ws[q]? = some z → (q : Int) ≤ plB z ws) ∧ Below w.heap.size w wr) (fun i _ => ws.length - (RowKit.intOf i).toNat)
  case atStart => exact ⟨0, rfl, Nat.zero_le _, fun q z hq => absurd hq (Nat.not_lt_zero _), Below.refl _ _⟩
  case round =>
    obtain ⟨j, rfl, hj, hno, hbr⟩ := hrel
    by_cases hlt : j < ws.length
    · obtain ⟨b, o, rfl, hbl, hH⟩ := hr (by omega)
      obtain ⟨x, hx⟩ : ∃ x, ws[j]? = some x := ⟨_, List.getElem?_eq_getElem hlt⟩
      have e0 := hH j hlt x hx
      have f0 := cell_on hbr e0
      rw [Nat.mul_one] at f0
      have b0 : Below wr.heap.size wr wr := Below.refl _ _
      have B0 := hbr.trans (b0.mono hbr.size)
      have NM := hwordName_any x wr
      have PX := fun W (b2 : Below wr.heap.size wr W) => PL x W (B0.trans (b2.mono B0.size))
      have l1 : ((j : Nat) : Int) < (ws.length : Int) := by omega
      have hjN : ((j : Nat) : Int).toNat = j := by omega
      have hz : Hid (j + 1 ≤ ws.length) := hlt
      have HN : Hid (∀ (q : Nat) z, q < j → ws[q]? = some z → (q : Int) ≤ plB z ws) := hno
      have HM : Hid (ws[j]? = some x) := hx
      have HR := plB_range x ws
      have HU1 : Hid (plB x ws < (j : Int) → uniB ws = false) := fun hq => uniB_false HM.out hq
      have HU2 : Hid (¬ plB x ws < (j : Int) → ∀ (q : Nat) z, q < j + 1 → ws[q]? = some z → (q : Int) ≤ plB z ws) := by
        intro hq q z hq1 hz1
        by_cases e : q = j
        · subst e
          rw [HM.out] at hz1
          cases hz1
          omega
        · exact HN.out q z (by omega) hz1
      clear hno hH hr hx e0 hlt HN HM PL
      generalize plB x ws = kp at *
      by_cases hq : kp < (j : Int)
      · have HP : Hid (uniB ws = false) := HU1.out hq
        clear HU1 HU2 HR
        go_wp2_with (first
          | (go_at_call 113; (with_reducible refine (PX _ b2).mono ?_); rintro e w3 ⟨rfl, b3⟩)
          | (go_at_call 92; (with_reducible refine NM.mono ?_); rintro e w2 ⟨rfl, b2⟩)
          | fail)
        go_ret
        exact ⟨by rw [HP.out]; rfl, (B0.trans (b2.mono B0.size)).trans (b3.mono (B0.trans (b2.mono B0.size)).size)⟩
      · have hqd : decide (kp < (j : Int)) = false := by simp; omega
        have HP := HU2.out hq
        have hno2 : Hid (∀ (q : Nat) z, q < j + 1 → ws[q]? = some z → (q : Int) ≤ plB z ws) := HP
        clear HU1 HU2 HR HP hq
        go_wp2_with (first
          | (go_at_call 113; (with_reducible refine (PX _ b2).mono ?_); rintro e w3 ⟨rfl, b3⟩)
          | (go_at_call 92; (with_reducible refine NM.mono ?_); rintro e w2 ⟨rfl, b2⟩)
          | fail)
        refine ⟨⟨j + 1, by simp, hz.out, hno2.out, (B0.trans (b2.mono B0.size)).trans (b3.mono (B0.trans (b2.mono B0.size)).size)⟩, ?_⟩
        have := hz.out
        simp [RowKit.intOf]
        omega
    · have l2 : decide (((j : Nat) : Int) < (ws.length : Int)) = false := by simp; omega
      have l3 : decide (j < ws.length) = false := by simp; omega
      have HP : Hid (uniB ws = true) := uniB_true fun q z hq hz => hno q z (by
        omega) hz
      clear hno hr hlt hj PL
      go_wp2
      go_ret
      exact ⟨by rw [HP.out]; rfl, hbr⟩
set_option maxRecDepth 100000 in
theorem hwell1_any (x : Ob) (a1 : Option Addr) (c1 : Nat) (w : World) (gl : Gl w) : Calls Tryz.prog 79 (#[.agg #[.string ⟨x.n.toArray⟩, .slice a1 x.fs.length c1]] ++ #[]) w fun e w' => e = .returned (.bool (frtS x.n)) ∧ Below w.heap.size w w' := by
  have FT := fun o => hfreeType_any x.n (w.alloc o) (gl.below (al1 w o) (Nat.le_refl _))
  show Calls Tryz.prog 79 #[.agg #[.string ⟨x.n.toArray⟩, .slice a1 x.fs.length c1]] w _
  go_enter Tryz.func79, Tryz.ntmps79
  go_wp2_with (first
    | (go_at_call 80; (with_reducible refine (FT _).mono ?_); rintro e w2 ⟨rfl, b2⟩)
    | fail)
  go_ret
  exact ⟨rfl, (al1 w _).trans (b2.mono (al1 w _).size)⟩
set_option maxRecDepth 100000 in
set_option maxHeartbeats 2000000 in
theorem hwell2_any (x : En) (a1 : Option Addr) (c1 : Nat) (w : World) (gl : Gl w) (hw : WdsAt w (.slice a1 x.ws.length c1) x.ws) : Calls Tryz.prog 81 (#[.agg #[.string ⟨x.n.toArray⟩, .slice a1 x.ws.length c1]] ++ #[]) w fun e w' => e = .returned (.bool (frtS x.n && x.ws.all frwS)) ∧ Below w.heap.size w w' := by
  have FT := fun o => hfreeType_any x.n (w.alloc o) (gl.below (al1 w o) (Nat.le_refl _))
  have EV := fun W (b : Below w.heap.size w W) => every_string 83 #[] frwS W (hw.on b) (fun _ _ => rfl) (fun y W2 _ b2 => hfreeWord_any y W2 ((gl.below b (Nat.le_refl _)).below b2 (Nat.le_refl _)))
  show Calls Tryz.prog 81 #[.agg #[.string ⟨x.n.toArray⟩, .slice a1 x.ws.length c1]] w _
  generalize frtS x.n = b1 at *
  generalize x.ws.all frwS = b2 at *
  cases b1 with
  | false =>
    go_enter Tryz.func81, Tryz.ntmps81
    go_wp2_with (first
      | (go_at_call 80; (with_reducible refine (FT _).mono ?_); rintro e w2 ⟨rfl, b2⟩)
      | fail)
    go_ret
    exact ⟨by simp, (al1 w _).trans (b2.mono (al1 w _).size)⟩
  | true =>
    go_enter Tryz.func81, Tryz.ntmps81
    go_wp2_with (first
      | (go_at_call 82; (with_reducible refine (EV _ B2).mono ?_); rintro e w3 ⟨rfl, b3⟩)
      | (go_at_call 80; (with_reducible refine (FT _).mono ?_); rintro e w2 ⟨rfl, b2⟩; have B2 := (al1 w _).trans (b2.mono (al1 w _).size); obtain ⟨q0, q1, fq⟩ := row2 ((b2.block _ (by simp)).trans (heap_alloc_new w (.cells #[.string ⟨x.n.toArray⟩, .slice a1 x.ws.length c1] 59))))
      | fail)
    go_ret
    exact ⟨by simp, B2.trans (b3.mono B2.size)⟩
def namS (s : Sch) : Bool := s.os.all (fun x => frtS x.n) && s.es.all (fun x => frtS x.n && x.ws.all frwS)
section
variable {w : World} {ov ev : Value} {s : Sch}
set_option maxRecDepth 100000 in
set_option maxHeartbeats 2000000 in
theorem hwellNamed_any (h : SchAt w ov ev s) (gl : Gl w) : Calls Tryz.prog 40 #[.agg #[ov, ev]] w fun e w' => e = .returned (.bool (namS s)) ∧ Below w.heap.size w w' := by
  have E1 := fun o => every_Object 79 #[] (fun x => frtS x.n) (w.alloc o) (h.os.on (al1 w o)) (fun _ _ => rfl) (fun x a1 c1 W _ b2 _ => hwell1_any x a1 c1 W ((gl.below (al1 w o) (Nat.le_refl _)).below b2 (Nat.le_refl _)))
  have E2 := fun W (b : Below w.heap.size w W) => every_Enum 81 #[] (fun x => frtS x.n && x.ws.all frwS) W (h.es.on b) (fun _ _ => rfl) (fun x a1 c1 W2 _ b2 hw => hwell2_any x a1 c1 W2 ((gl.below b (Nat.le_refl _)).below b2 (Nat.le_refl _)) hw)
  obtain ⟨a, c, rfl, _, _⟩ := h.os.slice
  obtain ⟨a', c', rfl, _, _⟩ := h.es.slice
  unfold namS
  generalize s.os.all (fun x => frtS x.n) = b1 at *
  generalize s.es.all (fun x => frtS x.n && x.ws.all frwS) = b2 at *
  cases b1 with
  | false =>
    go_enter Tryz.func40, Tryz.ntmps40
    go_wp2_with (first
      | (go_at_call 75; (with_reducible refine (E1 _).mono ?_); rintro e w3 ⟨rfl, b3⟩)
      | fail)
    go_ret
    exact ⟨by simp, (al1 w _).trans (b3.mono (al1 w _).size)⟩
  | true =>
    go_enter Tryz.func40, Tryz.ntmps40
    go_wp2_with (first
      | (go_at_call 77; (with_reducible refine (E2 _ B3).mono ?_); rintro e w4 ⟨rfl, b4⟩)
      | (go_at_call 75; (with_reducible refine (E1 _).mono ?_); rintro e w3 ⟨rfl, b3⟩; have B3 := (al1 w _).trans (b3.mono (al1 w _).size); obtain ⟨q0, q1, fq⟩ := row2 ((b3.block _ (by simp)).trans (heap_alloc_new w (.cells #[.slice a s.os.length c, .slice a' s.es.length c'] 25))))
      | fail)
    go_ret
    exact ⟨by simp, B3.trans (b4.mono B3.size)⟩
end
end Go.Proofs.YtamkjpfomaapgaaGreatDoor
namespace Go.Proofs.YtamkjpfomaapgaaGreatDoor
open Go Go.RowKit Go.Shelf
section
variable {w : World} {ov ev : Value} {s : Sch}
set_option maxRecDepth 100000 in
set_option maxHeartbeats 2000000 in
theorem honce1_any (x : En) (a1 : Option Addr) (c1 P : Nat) (h : SchAt w ov ev s) (h0 : w.cell? ⟨P, 0, none⟩ = some ov) (h1 : w.cell? ⟨P, 1, none⟩ = some ev) (hw : WdsAt w (.slice a1 x.ws.length c1) x.ws) : Calls Tryz.prog 89 (#[.agg #[.string ⟨x.n.toArray⟩, .slice a1 x.ws.length c1]] ++ #[.pointer (some ⟨P, 0, none⟩)]) w fun e w' => e = .returned (.bool (decide (objS s x.n < 0) && uniB x.ws)) ∧ Below w.heap.size w w' := by
  have OB := fun o => hobject_any (h.on (al1 w o)) x.n
  have UN := fun W (b : Below w.heap.size w W) => unlike_string W (hw.on b)
  obtain ⟨a, c, rfl, _, _⟩ := h.os.slice
  obtain ⟨a', c', rfl, _, _⟩ := h.es.slice
  show Calls Tryz.prog 89 #[.agg #[.string ⟨x.n.toArray⟩, .slice a1 x.ws.length c1], .pointer (some ⟨P, 0, none⟩)] w _
  have g0 := fun o => cell_on (al1 w o) h0
  have g1 := fun o => cell_on (al1 w o) h1
  generalize uniB x.ws = b2 at *
  generalize objS s x.n = k at *
  by_cases hk : k < 0
  · have hd : decide (k < 0) = true := by simpa using hk
    rw [hd]
    go_enter Tryz.func89, Tryz.ntmps89
    go_wp2_with (first
      | (go_at_call 91; (with_reducible refine (UN _ B2).mono ?_); rintro e w3 ⟨rfl, b3⟩)
      | (go_at_call 90; (with_reducible refine (OB _).mono ?_); rintro e w2 ⟨rfl, b2⟩; have B2 := (al1 w _).trans (b2.mono (al1 w _).size); obtain ⟨q0, q1, fq⟩ := row2 ((b2.block _ (by simp)).trans (heap_alloc_new w (.cells #[.string ⟨x.n.toArray⟩, .slice a1 x.ws.length c1] 59))))
      | fail)
    go_ret
    exact ⟨by simp, B2.trans (b3.mono B2.size)⟩
  · have hd : decide (k < 0) = false := by simpa using hk
    rw [hd]
    clear hk
    go_enter Tryz.func89, Tryz.ntmps89
    go_wp2_with (first
      | (go_at_call 90; (with_reducible refine (OB _).mono ?_); rintro e w2 ⟨rfl, b2⟩; have B2 := (al1 w _).trans (b2.mono (al1 w _).size))
      | fail)
    go_ret
    exact ⟨by simp, B2⟩
set_option maxRecDepth 100000 in
theorem honce2_any (x : Ob) (a1 : Option Addr) (c1 : Nat) (w : World) (hf : FldsAt w (.slice a1 x.fs.length c1) x.fs) : Calls Tryz.prog 93 (#[.agg #[.string ⟨x.n.toArray⟩, .slice a1 x.fs.length c1]] ++ #[]) w fun e w' => e = .returned (.bool (uniB (x.fs.map (·.n)))) ∧ Below w.heap.size w w' := by
  have UN := fun o => unlike_Field (w.alloc o) (hf.on (al1 w o))
  show Calls Tryz.prog 93 #[.agg #[.string ⟨x.n.toArray⟩, .slice a1 x.fs.length c1]] w _
  go_enter Tryz.func93, Tryz.ntmps93
  go_wp2_with (first
    | (go_at_call 94; (with_reducible refine (UN _).mono ?_); rintro e w2 ⟨rfl, b2⟩)
    | fail)
  go_ret
  exact ⟨rfl, (al1 w _).trans (b2.mono (al1 w _).size)⟩
def oncS (s : Sch) : Bool := uniB (s.os.map (·.n)) && uniB (s.es.map (·.n)) && s.es.all (fun x => decide (objS s x.n < 0) && uniB x.ws) && s.os.all (fun x => uniB (x.fs.map (·.n)))
set_option maxRecDepth 100000 in
set_option maxHeartbeats 4000000 in
theorem hnamedOnce_any (h : SchAt w ov ev s) : Calls Tryz.prog 44 #[.agg #[ov, ev]] w fun e w' => e = .returned (.bool (oncS s)) ∧ Below w.heap.size w w' := by
  have U1 := fun o => unlike_Object (w.alloc o) (h.os.on (al1 w o))
  have U2 := fun W (b : Below w.heap.size w W) => unlike_Enum W (h.es.on b)
  have hh := h
  obtain ⟨a, c, rfl, _, _⟩ := h.os.slice
  obtain ⟨a', c', rfl, _, _⟩ := h.es.slice
  have E3 := fun W (b : Below (w.alloc (.cells #[.slice a s.os.length c, .slice a' s.es.length c'] 25)).heap.size (w.alloc (.cells #[.slice a s.os.length c, .slice a' s.es.length c'] 25)) W) => every_Enum 89 #[.pointer (some ⟨w.heap.size, 0, none⟩)] (fun x => decide (objS s x.n < 0) && uniB x.ws) W ((hh.es.on (al1 w (.cells #[.slice a s.os.length c, .slice a' s.es.length c'] 25))).on b) (fun _ _ => rfl) (fun x a1 c1 W2 _ b2 hw => honce1_any x a1 c1 w.heap.size (((hh.on (al1 w (.cells #[.slice a s.os.length c, .slice a' s.es.length c'] 25))).on b).on b2) (cell_on b2 (cell_on b (row2 (heap_alloc_new w _)).1)) (cell_on b2 (cell_on b (row2 (heap_alloc_new w _)).2.1)) hw)
  have E4 := fun W (b : Below w.heap.size w W) => every_Object 93 #[] (fun x => uniB (x.fs.map (·.n))) W (hh.os.on b) (fun _ _ => rfl) (fun x a1 c1 W2 _ _ hf => honce2_any x a1 c1 W2 hf)
  have hmf := Tryz.makeFn
  unfold oncS
  generalize uniB (s.os.map (·.n)) = b1 at *
  generalize uniB (s.es.map (·.n)) = b2 at *
  generalize s.es.all (fun x => decide (objS s x.n < 0) && uniB x.ws) = b3 at *
  generalize s.os.all (fun x => uniB (x.fs.map (·.n))) = b4 at *
  cases b1 with
  | false =>
    go_enter Tryz.func44, Tryz.ntmps44
    go_wp2_with (first
      | (go_at_call 85; (with_reducible refine (U1 _).mono ?_); rintro e w2 ⟨rfl, b2⟩; have B2 := (al1 w _).trans (b2.mono (al1 w _).size); obtain ⟨q0, q1, fq⟩ := row2 ((b2.block _ (by simp)).trans (heap_alloc_new w (.cells #[.slice a s.os.length c, .slice a' s.es.length c'] 25))); have C2 := b2)
      | fail)
    go_ret
    exact ⟨by simp, B2⟩
  | true =>
    cases b2 with
    | false =>
      go_enter Tryz.func44, Tryz.ntmps44
      go_wp2_with (first
        | (go_at_call 87; (with_reducible refine (U2 _ B2).mono ?_); rintro e w3 ⟨rfl, b3⟩; have B3 := B2.trans (b3.mono B2.size); have C3 := C2.trans (b3.mono C2.size); obtain ⟨r0, r1, fr⟩ := row2 ((C3.block _ (by simp)).trans (heap_alloc_new w (.cells #[.slice a s.os.length c, .slice a' s.es.length c'] 25))))
        | (go_at_call 85; (with_reducible refine (U1 _).mono ?_); rintro e w2 ⟨rfl, b2⟩; have B2 := (al1 w _).trans (b2.mono (al1 w _).size); obtain ⟨q0, q1, fq⟩ := row2 ((b2.block _ (by simp)).trans (heap_alloc_new w (.cells #[.slice a s.os.length c, .slice a' s.es.length c'] 25))); have C2 := b2)
        | fail)
      go_ret
      exact ⟨by simp, B3⟩
    | true =>
      cases b3 with
      | false =>
        go_enter Tryz.func44, Tryz.ntmps44
        go_wp2_with (first
          | (go_at_call 77; (with_reducible refine (E3 _ C3).mono ?_); rintro e w4 ⟨rfl, b4⟩; have B4 := B3.trans (b4.mono B3.size); have C4 := C3.trans (b4.mono C3.size); obtain ⟨s0, s1, fs⟩ := row2 ((C4.block _ (by simp)).trans (heap_alloc_new w (.cells #[.slice a s.os.length c, .slice a' s.es.length c'] 25))))
          | (go_at_call 87; (with_reducible refine (U2 _ B2).mono ?_); rintro e w3 ⟨rfl, b3⟩; have B3 := B2.trans (b3.mono B2.size); have C3 := C2.trans (b3.mono C2.size); obtain ⟨r0, r1, fr⟩ := row2 ((C3.block _ (by simp)).trans (heap_alloc_new w (.cells #[.slice a s.os.length c, .slice a' s.es.length c'] 25))))
          | (go_at_call 85; (with_reducible refine (U1 _).mono ?_); rintro e w2 ⟨rfl, b2⟩; have B2 := (al1 w _).trans (b2.mono (al1 w _).size); obtain ⟨q0, q1, fq⟩ := row2 ((b2.block _ (by simp)).trans (heap_alloc_new w (.cells #[.slice a s.os.length c, .slice a' s.es.length c'] 25))); have C2 := b2)
          | fail)
        go_ret
        exact ⟨by simp, B4⟩
      | true =>
        go_enter Tryz.func44, Tryz.ntmps44
        go_wp2_with (first
          | (go_at_call 75; (with_reducible refine (E4 _ B4).mono ?_); rintro e w5 ⟨rfl, b5⟩)
          | (go_at_call 77; (with_reducible refine (E3 _ C3).mono ?_); rintro e w4 ⟨rfl, b4⟩; have B4 := B3.trans (b4.mono B3.size); have C4 := C3.trans (b4.mono C3.size); obtain ⟨s0, s1, fs⟩ := row2 ((C4.block _ (by simp)).trans (heap_alloc_new w (.cells #[.slice a s.os.length c, .slice a' s.es.length c'] 25))))
          | (go_at_call 87; (with_reducible refine (U2 _ B2).mono ?_); rintro e w3 ⟨rfl, b3⟩; have B3 := B2.trans (b3.mono B2.size); have C3 := C2.trans (b3.mono C2.size); obtain ⟨r0, r1, fr⟩ := row2 ((C3.block _ (by simp)).trans (heap_alloc_new w (.cells #[.slice a s.os.length c, .slice a' s.es.length c'] 25))))
          | (go_at_call 85; (with_reducible refine (U1 _).mono ?_); rintro e w2 ⟨rfl, b2⟩; have B2 := (al1 w _).trans (b2.mono (al1 w _).size); obtain ⟨q0, q1, fq⟩ := row2 ((b2.block _ (by simp)).trans (heap_alloc_new w (.cells #[.slice a s.os.length c, .slice a' s.es.length c'] 25))); have C2 := b2)
          | fail)
        go_ret
        exact ⟨by simp, B4.trans (b5.mono B4.size)⟩
def wtyS (s : Sch) (f : Fld) : Bool := if prpS s f then (f.w == [] || f.w == [33]) else if 0 ≤ edgS s f then (f.w == [] || f.w == [33, 91, 33]) else false
set_option maxRecDepth 100000 in
set_option maxHeartbeats 4000000 in
theorem hwellTyped_any (h : SchAt w ov ev s) (f : Fld) : Calls Tryz.prog 46 #[.agg #[ov, ev], fldV f] w fun e w' => e = .returned (.bool (wtyS s f)) ∧ Below w.heap.size w w' := by
  have PR := fun o o' => hproperty_any (h.on (al2 w o o')) f
  have ED := fun W (b : Below w.heap.size w W) => hedge_any (h.on b) f
  obtain ⟨a, c, rfl, _, _⟩ := h.os.slice
  obtain ⟨a', c', rfl, _, _⟩ := h.es.slice
  unfold wtyS
  generalize hed : edgS s f = k at *
  clear hed
  obtain ⟨fn, ft, fw, fs, fi⟩ := f
  simp only at *
  cases hs : prpS s ⟨fn, ft, fw, fs, fi⟩ with
  | true =>
    simp only [hs] at PR
    rw [if_pos rfl]
    by_cases h0 : fw = []
    · subst h0
      go_enter Tryz.func46, Tryz.ntmps46
      go_wp2_with (first
        | (go_at_call 96; (with_reducible refine (PR _ _).mono ?_); rintro e w2 ⟨rfl, b2⟩; have B2 := (al2 w _ _).trans (b2.mono (al2 w _ _).size); obtain ⟨m0, m1, fm⟩ := row2 ((b2.block _ (by rw [World.size_alloc, World.size_alloc]; omega)).trans (new1 w (.cells #[.slice a s.os.length c, .slice a' s.es.length c'] 25) (.cells #[.string ⟨fn.toArray⟩, .string ⟨ft.toArray⟩, .string ⟨#[]⟩, .bool fs, .string ⟨fi.toArray⟩] 56))); obtain ⟨n0, n1, n2, n3, n4, fn5⟩ := row5 ((b2.block _ (by rw [World.size_alloc, World.size_alloc]; omega)).trans (new2 w (.cells #[.slice a s.os.length c, .slice a' s.es.length c'] 25) (.cells #[.string ⟨fn.toArray⟩, .string ⟨ft.toArray⟩, .string ⟨#[]⟩, .bool fs, .string ⟨fi.toArray⟩] 56))); have C2 := b2)
        | fail)
      go_ret
      exact ⟨by simp, B2⟩
    · have h1 : (fw == []) = false := by simpa using h0
      rw [h1]
      go_enter Tryz.func46, Tryz.ntmps46
      go_wp2_with (first
        | (go_at_call 96; (with_reducible refine (PR _ _).mono ?_); rintro e w2 ⟨rfl, b2⟩; have B2 := (al2 w _ _).trans (b2.mono (al2 w _ _).size); obtain ⟨m0, m1, fm⟩ := row2 ((b2.block _ (by rw [World.size_alloc, World.size_alloc]; omega)).trans (new1 w (.cells #[.slice a s.os.length c, .slice a' s.es.length c'] 25) (.cells #[.string ⟨fn.toArray⟩, .string ⟨ft.toArray⟩, .string ⟨fw.toArray⟩, .bool fs, .string ⟨fi.toArray⟩] 56))); obtain ⟨n0, n1, n2, n3, n4, fn5⟩ := row5 ((b2.block _ (by rw [World.size_alloc, World.size_alloc]; omega)).trans (new2 w (.cells #[.slice a s.os.length c, .slice a' s.es.length c'] 25) (.cells #[.string ⟨fn.toArray⟩, .string ⟨ft.toArray⟩, .string ⟨fw.toArray⟩, .bool fs, .string ⟨fi.toArray⟩] 56))); have C2 := b2)
        | fail)
      go_ret
      exact ⟨by simp, B2⟩
  | false =>
    simp only [hs] at PR
    rw [if_neg (by decide)]
    by_cases hk : 0 ≤ k
    · rw [if_pos hk]
      by_cases h0 : fw = []
      · subst h0
        go_enter Tryz.func46, Tryz.ntmps46
        go_wp2_with (first
          | (go_at_call 48; (with_reducible refine (ED _ B2).mono ?_); rintro e w3 ⟨rfl, b3⟩; have B3 := B2.trans (b3.mono B2.size); have C3 := C2.trans (b3.mono C2.size); obtain ⟨p0, p1, p2, p3, p4, fp5⟩ := row5 ((C3.block _ (by rw [World.size_alloc, World.size_alloc]; omega)).trans (new2 w (.cells #[.slice a s.os.length c, .slice a' s.es.length c'] 25) (.cells #[.string ⟨fn.toArray⟩, .string ⟨ft.toArray⟩, .string ⟨#[]⟩, .bool fs, .string ⟨fi.toArray⟩] 56))))
          | (go_at_call 96; (with_reducible refine (PR _ _).mono ?_); rintro e w2 ⟨rfl, b2⟩; have B2 := (al2 w _ _).trans (b2.mono (al2 w _ _).size); obtain ⟨m0, m1, fm⟩ := row2 ((b2.block _ (by rw [World.size_alloc, World.size_alloc]; omega)).trans (new1 w (.cells #[.slice a s.os.length c, .slice a' s.es.length c'] 25) (.cells #[.string ⟨fn.toArray⟩, .string ⟨ft.toArray⟩, .string ⟨#[]⟩, .bool fs, .string ⟨fi.toArray⟩] 56))); obtain ⟨n0, n1, n2, n3, n4, fn5⟩ := row5 ((b2.block _ (by rw [World.size_alloc, World.size_alloc]; omega)).trans (new2 w (.cells #[.slice a s.os.length c, .slice a' s.es.length c'] 25) (.cells #[.string ⟨fn.toArray⟩, .string ⟨ft.toArray⟩, .string ⟨#[]⟩, .bool fs, .string ⟨fi.toArray⟩] 56))); have C2 := b2)
          | fail)
        go_ret
        exact ⟨by simp, B3⟩
      · have h1 : (fw == []) = false := by simpa using h0
        rw [h1]
        go_enter Tryz.func46, Tryz.ntmps46
        go_wp2_with (first
          | (go_at_call 48; (with_reducible refine (ED _ B2).mono ?_); rintro e w3 ⟨rfl, b3⟩; have B3 := B2.trans (b3.mono B2.size); have C3 := C2.trans (b3.mono C2.size); obtain ⟨p0, p1, p2, p3, p4, fp5⟩ := row5 ((C3.block _ (by rw [World.size_alloc, World.size_alloc]; omega)).trans (new2 w (.cells #[.slice a s.os.length c, .slice a' s.es.length c'] 25) (.cells #[.string ⟨fn.toArray⟩, .string ⟨ft.toArray⟩, .string ⟨fw.toArray⟩, .bool fs, .string ⟨fi.toArray⟩] 56))))
          | (go_at_call 96; (with_reducible refine (PR _ _).mono ?_); rintro e w2 ⟨rfl, b2⟩; have B2 := (al2 w _ _).trans (b2.mono (al2 w _ _).size); obtain ⟨m0, m1, fm⟩ := row2 ((b2.block _ (by rw [World.size_alloc, World.size_alloc]; omega)).trans (new1 w (.cells #[.slice a s.os.length c, .slice a' s.es.length c'] 25) (.cells #[.string ⟨fn.toArray⟩, .string ⟨ft.toArray⟩, .string ⟨fw.toArray⟩, .bool fs, .string ⟨fi.toArray⟩] 56))); obtain ⟨n0, n1, n2, n3, n4, fn5⟩ := row5 ((b2.block _ (by rw [World.size_alloc, World.size_alloc]; omega)).trans (new2 w (.cells #[.slice a s.os.length c, .slice a' s.es.length c'] 25) (.cells #[.string ⟨fn.toArray⟩, .string ⟨ft.toArray⟩, .string ⟨fw.toArray⟩, .bool fs, .string ⟨fi.toArray⟩] 56))); have C2 := b2)
          | fail)
        go_ret
        exact ⟨by simp, B3⟩
    · rw [if_neg hk]
      have hd : decide (0 ≤ k) = false := by simpa using hk
      clear hk
      go_enter Tryz.func46, Tryz.ntmps46
      go_wp2_with (first
        | (go_at_call 48; (with_reducible refine (ED _ B2).mono ?_); rintro e w3 ⟨rfl, b3⟩; have B3 := B2.trans (b3.mono B2.size); have C3 := C2.trans (b3.mono C2.size); obtain ⟨p0, p1, p2, p3, p4, fp5⟩ := row5 ((C3.block _ (by rw [World.size_alloc, World.size_alloc]; omega)).trans (new2 w (.cells #[.slice a s.os.length c, .slice a' s.es.length c'] 25) (.cells #[.string ⟨fn.toArray⟩, .string ⟨ft.toArray⟩, .string ⟨fw.toArray⟩, .bool fs, .string ⟨fi.toArray⟩] 56))))
        | (go_at_call 96; (with_reducible refine (PR _ _).mono ?_); rintro e w2 ⟨rfl, b2⟩; have B2 := (al2 w _ _).trans (b2.mono (al2 w _ _).size); obtain ⟨m0, m1, fm⟩ := row2 ((b2.block _ (by rw [World.size_alloc, World.size_alloc]; omega)).trans (new1 w (.cells #[.slice a s.os.length c, .slice a' s.es.length c'] 25) (.cells #[.string ⟨fn.toArray⟩, .string ⟨ft.toArray⟩, .string ⟨fw.toArray⟩, .bool fs, .string ⟨fi.toArray⟩] 56))); obtain ⟨n0, n1, n2, n3, n4, fn5⟩ := row5 ((b2.block _ (by rw [World.size_alloc, World.size_alloc]; omega)).trans (new2 w (.cells #[.slice a s.os.length c, .slice a' s.es.length c'] 25) (.cells #[.string ⟨fn.toArray⟩, .string ⟨ft.toArray⟩, .string ⟨fw.toArray⟩, .bool fs, .string ⟨fi.toArray⟩] 56))); have C2 := b2)
        | fail)
      go_ret
      exact ⟨by simp, B3⟩
end
end Go.Proofs.YtamkjpfomaapgaaGreatDoor
namespace Go.Proofs.YtamkjpfomaapgaaGreatDoor
open Go Go.RowKit Go.Shelf
abbrev sptC (x : Spt) : List Value := [.int .i64 (x.o : Int), .int .i64 (x.k : Int), .string ⟨x.f.n.toArray⟩, .string ⟨x.f.t.toArray⟩, .string ⟨x.f.w.toArray⟩, .bool x.f.s, .string ⟨x.f.i.toArray⟩]
def cellsS : List Spt → List Value
  | [] => []
  | x :: l => sptC x ++ cellsS l
theorem cellsS_app (l m : List Spt) : cellsS (l ++ m) = cellsS l ++ cellsS m := by
  induction l with
  | nil => rfl
  | cons x l ih => simp [cellsS, ih]
theorem cellsS_len (l : List Spt) : (cellsS l).length = l.length * 7 := by
  induction l with
  | nil => rfl
  | cons x l ih => simp [cellsS, ih]; omega
theorem cellsS_at : ∀ (l : List Spt) (i : Nat) (x : Spt), l[i]? = some x → ∀ j, j < 7 → (cellsS l)[i * 7 + j]? = (sptC x)[j]?
  | [], _, _, h, _, _ => by simp at h
  | y :: l, 0, x, h, j, hj => by
    simp at h
    subst h
    rw [Nat.zero_mul, Nat.zero_add]
    exact List.getElem?_append_left (by simpa using hj)
  | y :: l, i + 1, x, h, j, hj => by
    have ih := cellsS_at l i x (by simpa using h) j hj
    rw [← ih]
    show (sptC y ++ cellsS l)[(i + 1) * 7 + j]? = _
    rw [List.getElem?_append_right (by simp; omega)]
    congr 1
    simp
    omega
theorem spts_own {w : World} {Q E : Nat} {v : Value} {l : List Spt} (h : w.ownsRow Q E 7 v l.length (cellsS l)) (hl : l.length ≤ 140737488355328) : SptsAt w v l := by
  rcases h.2 with ⟨rfl, h0⟩ | ⟨g, cap, cur, hv, hb, hg, hn, _, _, ht⟩
  · exact ⟨none, 0, by rw [h0], by omega, hl, fun hp => absurd hp (by omega)⟩
  · refine ⟨_, cap, hv, hn, hl, fun _ => ⟨g, 0, rfl, lt_of_block hg, fun i hi x hx => ?_⟩⟩
    have f : ∀ j, j < 7 → ∀ u, (sptC x)[j]? = some u → w.cell? ⟨g, 0 + i * 7 + j, none⟩ = some u := fun j hj u hu => by
      rw [← cellsS_at l i x hx j hj, ← ht, List.getElem?_take] at hu
      rw [Nat.zero_add]
      split at hu
      · unfold World.cell?
        rw [hg]
        simpa using hu
      · cases hu
    exact ⟨f 0 (by decide) _ rfl, f 1 (by decide) _ rfl, f 2 (by decide) _ rfl, f 3 (by decide) _ rfl, f 4 (by decide) _ rfl, f 5 (by decide) _ rfl, f 6 (by decide) _ rfl⟩
def fldsSp (i : Nat) : Nat → List Fld → List Spt
  | _, [] => []
  | k, f :: r => ⟨i, k, f⟩ :: fldsSp i (k + 1) r
def obsSp : Nat → List Ob → List Spt
  | _, [] => []
  | i, x :: r => fldsSp i 0 x.fs ++ obsSp (i + 1) r
def sptS (s : Sch) : List Spt := obsSp 0 s.os
theorem obsSp_step {os : List Ob} {j : Nat} {x : Ob} (h : os[j]? = some x) : obsSp j (os.drop j) = fldsSp j 0 x.fs ++ obsSp (j + 1) (os.drop (j + 1)) := by
  obtain ⟨hj, he⟩ := List.getElem?_eq_some_iff.1 h
  rw [List.drop_eq_getElem_cons hj, he]
  rfl
theorem fldsSp_step {fs : List Fld} {i k : Nat} {f : Fld} (h : fs[k]? = some f) : fldsSp i k (fs.drop k) = ⟨i, k, f⟩ :: fldsSp i (k + 1) (fs.drop (k + 1)) := by
  obtain ⟨hk, he⟩ := List.getElem?_eq_some_iff.1 h
  rw [List.drop_eq_getElem_cons hk, he]
  rfl
theorem below_grew {n : Nat} {w W w8 : World} {ob : Option Nat} (h : Below n w W) (g : W.grownBy w8 ob) (hn : n ≤ W.heap.size) (ho : ∀ k, ob = some k → n ≤ k) : Below n w w8 :=
  ⟨g.os.trans h.os, g.tape.trans h.tape, g.output.trans h.output, Nat.le_trans h.size g.size, fun k hk => (g.block k (by omega) (fun e => by have := ho k e.symm; omega)).trans (h.block k hk)⟩
theorem own_blk {w : World} {B E sz n : Nat} {v : Value} {xs : List Value} (h : w.ownsRow B E sz v n xs) {q : Nat} (hq : v.ownBlock = some q) : B ≤ q ∧ q < w.heap.size := by
  rcases h.2 with ⟨rfl, _⟩ | ⟨q', cp, cur, hv, hb, hg, _⟩
  · cases hq
  · rw [hv] at hq
    have e : q' = q := by simpa [Value.ownBlock] using hq
    subst e
    exact ⟨hb, lt_of_block hg⟩
theorem Tryz.infoSpot : (Tryz.prog.info? 79).map (fun i => (i.zero, i.size, i.bytes)) = some (some (.agg #[.int .i64 0, .int .i64 0, .string ⟨#[]⟩, .string ⟨#[]⟩, .string ⟨#[]⟩, .bool false, .string ⟨#[]⟩]), 7, 88) := by kernel_rfl
section
variable {w : World} {ov ev : Value} {s : Sch}
set_option maxRecDepth 100000 in
set_option maxHeartbeats 8000000 in
theorem hspots_any (h : SchAt w ov ev s) (h8 : s.os.length ≤ 8) (h12 : ∀ x ∈ s.os, x.fs.length ≤ 12) : Calls Tryz.prog 39 #[.agg #[ov, ev]] w fun e w' => ∃ v, e = .returned v ∧ SptsAt w' v (sptS s) ∧ Below w.heap.size w w' := by
  have hos := h.os
  obtain ⟨a', c', rfl, _, _⟩ := h.es.slice
  obtain ⟨a, c, rfl, hc, hn⟩ := h.os.slice
  obtain ⟨ti, hti, hy0, hy1, hy2⟩ := info_parts Tryz.infoSpot
  unfold sptS
  go_enter Tryz.func39, Tryz.ntmps39
  go_wp2
  go_loopw [3, 11] (fun lz iv wr => ∃ (lv : Value) (j : Nat) (sf : List Spt), lv = lz ∧ iv = .int .i64 (j : Int) ∧ j ≤ s.os.length ∧ wr.ownsRow (w.heap.size + 1) 79 7 lv sf.length (cellsS sf) ∧ sf ++ obsSp j (s.os.drop j) = obsSp 0 s.os ∧ sf.length ≤ 12 * j ∧ Below w.heap.size w wr ∧ w.heap.size + 1 ≤ wr.heap.size) (fun _ iv _ => s.os.length - (RowKit.intOf iv).toNat)
  case atStart => exact ⟨_, 0, [], rfl, rfl, Nat.zero_le _, ⟨by simp [cellsS], Or.inl ⟨rfl, rfl⟩⟩, rfl, Nat.zero_le _, al1 w _, by simp⟩
  case round =>
    obtain ⟨lv0, j, sf, rfl, rfl, hj, hown, hrel, hlen, hbr, hzr⟩ := hrel
    by_cases hlt : j < s.os.length
    · obtain ⟨x, hx⟩ : ∃ x, s.os[j]? = some x := ⟨_, List.getElem?_eq_getElem hlt⟩
      have hx12 := h12 x (List.mem_of_getElem? hx)
      obtain ⟨b, o, c0, a1, c1, hv, hbl, _, e0, e1, hfs⟩ := ob_cells hos hx
      cases hv
      have f0 := cell_on hbr e0
      have f1 := cell_on hbr e1
      have l1 : ((j : Nat) : Int) < (s.os.length : Int) := by omega
      have hjN : ((j : Nat) : Int).toNat = j := by omega
      have hst := obsSp_step hx
      have HR : Hid (sf ++ (fldsSp j 0 x.fs ++ obsSp (j + 1) (s.os.drop (j + 1))) = obsSp 0 s.os) := by rw [← hst]; exact hrel
      clear hrel hst hx hlt
      have hown1 := hown.alloc (.cells #[.string ⟨x.n.toArray⟩, .slice a1 x.fs.length c1] 54)
      have hbr1 := hbr.trans ((al1 wr (.cells #[.string ⟨x.n.toArray⟩, .slice a1 x.fs.length c1] 54)).mono hbr.size)
      have HJ : Hid (j + 1 ≤ s.os.length) := by show j + 1 ≤ _; omega
      generalize hwB : wr = wB at *
      clear hwB
      go_wp2
      go_loopw [3, 19] (fun lz kv wr => ∃ (lv : Value) (k : Nat) (sg : List Spt), lv = lz ∧ kv = .int .i64 (k : Int) ∧ k ≤ x.fs.length ∧ wr.ownsRow (w.heap.size + 1) 79 7 lv sg.length (cellsS sg) ∧ sg ++ fldsSp j k (x.fs.drop k) = sf ++ fldsSp j 0 x.fs ∧ sg.length ≤ 12 * j + k ∧ Below w.heap.size w wr ∧ w.heap.size + 1 ≤ wr.heap.size) (fun _ kv _ => x.fs.length - (RowKit.intOf kv).toNat)
      case atStart => exact ⟨_, 0, sf, rfl, rfl, Nat.zero_le _, hown1, rfl, by omega, hbr1, by rw [World.size_alloc]; omega⟩
      case round =>
        obtain ⟨lv, k, sg, rfl, rfl, hk, hog, hrg, hlg, hbg, hzg⟩ := hrel
        by_cases hkl : k < x.fs.length
        · obtain ⟨f, hf⟩ : ∃ f, x.fs[k]? = some f := ⟨_, List.getElem?_eq_getElem hkl⟩
          obtain ⟨b1, o1, rfl, hbl1, _, g0, g1, g2, g3, g4⟩ := fld_cells hfs hf
          have k0 := cell_on hbg g0
          have k1 := cell_on hbg g1
          have k2 := cell_on hbg g2
          have k3 := cell_on hbg g3
          have k4 := cell_on hbg g4
          have l2 : ((k : Nat) : Int) < (x.fs.length : Int) := by omega
          have hkN : ((k : Nat) : Int).toNat = k := by omega
          have HG : Hid ((sg ++ [⟨j, k, f⟩]) ++ fldsSp j (k + 1) (x.fs.drop (k + 1)) = sf ++ fldsSp j 0 x.fs) := by
            show _ = _
            rw [← hrg, fldsSp_step hf, List.append_assoc]
            rfl
          have HK : Hid (k + 1 ≤ x.fs.length) := hkl
          obtain ⟨fn, ft, fw, fs, fi⟩ := f
          simp only at k0 k1 k2 k3 k4
          have hslv : ∃ lo lc, lv = .slice lo sg.length lc := by
            rcases hog.2 with ⟨h1, h2⟩ | ⟨q, cp, cu, hv, _⟩
            · exact ⟨_, _, by rw [h1, h2]⟩
            · exact ⟨_, _, hv⟩
          obtain ⟨lo, lc, rfl⟩ := hslv
          have hog1 := hog.alloc (.cells #[.string ⟨fn.toArray⟩, .string ⟨ft.toArray⟩, .string ⟨fw.toArray⟩, .bool fs, .string ⟨fi.toArray⟩] 56)
          have hLo := fun q (e : (Value.slice lo sg.length lc).ownBlock = some q) => own_blk hog e
          clear hrg hf hkl HR
          go_wp2_with (first
            | (at_builtin; refine wpList_append_lies _ rfl (.tmp 24) (.tmp 29) 75 rfl (w.heap.size + 1) 79 ti _ 7 88 Tryz.underlying75 hti hy0 hy1 hy2 rfl (by decide) (.slice lo sg.length lc) sg.length (cellsS sg) rfl (hog1.alloc _) ⟨wr.heap.size + 1, 0, none⟩ 1 1 [.int .i64 (j : Int), .int .i64 (k : Int), .string ⟨fn.toArray⟩, .string ⟨ft.toArray⟩, .string ⟨fw.toArray⟩, .bool fs, .string ⟨fi.toArray⟩] rfl rfl (World.news_of_block (new2 wr _ _)) (by intro u hu; simp at hu; rcases hu with rfl | rfl | rfl | rfl | rfl | rfl | rfl <;> rfl) (by decide) (by unfold maxLen; omega) (by omega) (by rw [World.size_alloc, World.size_alloc]; omega) _ rfl ?_; intro q8 cp8 w8 own8 gr8 hor8 hlt8)
            | fail)
          have hb8 := below_grew ((hbg.trans ((al2 wr _ _).mono hbg.size))) gr8 (by rw [World.size_alloc, World.size_alloc]; omega) (fun q e => by have := (hLo q e).1; omega)
          have hz8 := gr8.size
          rw [World.size_alloc, World.size_alloc] at hz8
          refine ⟨⟨_, k + 1, sg ++ [⟨j, k, ⟨fn, ft, fw, fs, fi⟩⟩], rfl, by simp, HK.out, ?_, HG.out, ?_, hb8, by omega⟩, ?_⟩
          · rw [List.length_append, cellsS_app]
            exact own8
          · rw [List.length_append]
            simp only [List.length_cons, List.length_nil]
            omega
          · have := HK.out
            simp [RowKit.intOf]
            omega
        · have l2 : decide (((k : Nat) : Int) < (x.fs.length : Int)) = false := by simp; omega
          have l3 : decide (k < x.fs.length) = false := by simp; omega
          have hke : k = x.fs.length := by omega
          have hsg : Hid (sg = sf ++ fldsSp j 0 x.fs) := by
            show sg = _
            rw [hke, List.drop_length] at hrg
            simpa [fldsSp] using hrg
          have hl12 : Hid (sg.length ≤ 12 * (j + 1)) := by show sg.length ≤ 12 * (j + 1); omega
          clear hke hkl hrg hk hlg
          go_wp2
          refine ⟨⟨_, j + 1, sg, rfl, by simp, HJ.out, hog, ?_, hl12.out, hbg, hzg⟩, ?_⟩
          · rw [hsg.out, List.append_assoc]
            exact HR.out
          · have := HJ.out
            simp [RowKit.intOf]
            omega
    · have l2 : decide (((j : Nat) : Int) < (s.os.length : Int)) = false := by simp; omega
      have l3 : decide (j < s.os.length) = false := by simp; omega
      have hje : j = s.os.length := by omega
      have HS : Hid (sf = obsSp 0 s.os) := by
        show sf = _
        rw [hje, List.drop_length] at hrel
        simpa [obsSp] using hrel
      have HL : Hid (sf.length ≤ 140737488355328) := by show sf.length ≤ _; omega
      clear hje hlt hrel hj hlen
      go_wp2
      refine bodyPost_ret (v := lv0) (by simp [results, Tryz.results39, go_sem]) rfl ⟨_, rfl, ?_, hbr⟩
      rw [← HS.out]
      exact spts_own hown HL.out
end
end Go.Proofs.YtamkjpfomaapgaaGreatDoor
namespace Go.Proofs.YtamkjpfomaapgaaGreatDoor
open Go Go.RowKit Go.Shelf
abbrev sptV (x : Spt) : Value := .agg #[.int .i64 (x.o : Int), .int .i64 (x.k : Int), .string ⟨x.f.n.toArray⟩, .string ⟨x.f.t.toArray⟩, .string ⟨x.f.w.toArray⟩, .bool x.f.s, .string ⟨x.f.i.toArray⟩]
abbrev sptO (x : Spt) : Obj := .cells #[.int .i64 (x.o : Int), .int .i64 (x.k : Int), .string ⟨x.f.n.toArray⟩, .string ⟨x.f.t.toArray⟩, .string ⟨x.f.w.toArray⟩, .bool x.f.s, .string ⟨x.f.i.toArray⟩] 79
section
variable {w : World} {ov ev : Value} {s : Sch}
set_option maxRecDepth 100000 in
theorem hcheck1_any (x : Spt) (w : World) (gl : Gl w) : Calls Tryz.prog 42 (#[sptV x] ++ #[]) w fun e w' => e = .returned (.bool (frfS x.f.n)) ∧ Below w.heap.size w w' := by
  have FT := fun o => hfreeField_any x.f.n (w.alloc o) (gl.below (al1 w o) (Nat.le_refl _))
  show Calls Tryz.prog 42 #[sptV x] w _
  obtain ⟨xo, xk, fn, ft, fw, fs, fi⟩ := x
  go_enter Tryz.func42, Tryz.ntmps42
  go_wp2_with (first
    | (go_at_call 43; (with_reducible refine (FT _).mono ?_); rintro e w2 ⟨rfl, b2⟩)
    | fail)
  go_ret
  exact ⟨rfl, (al1 w _).trans (b2.mono (al1 w _).size)⟩
set_option maxRecDepth 100000 in
theorem hcheck2_any (x : Spt) (P : Nat) (h : SchAt w ov ev s) (h0 : w.cell? ⟨P, 0, none⟩ = some ov) (h1 : w.cell? ⟨P, 1, none⟩ = some ev) : Calls Tryz.prog 45 (#[sptV x] ++ #[.pointer (some ⟨P, 0, none⟩)]) w fun e w' => e = .returned (.bool (wtyS s x.f)) ∧ Below w.heap.size w w' := by
  have FT := fun o => hwellTyped_any (h.on (al1 w o)) x.f
  obtain ⟨a, c, rfl, _, _⟩ := h.os.slice
  obtain ⟨a', c', rfl, _, _⟩ := h.es.slice
  have g0 := fun o => cell_on (al1 w o) h0
  have g1 := fun o => cell_on (al1 w o) h1
  show Calls Tryz.prog 45 #[sptV x, .pointer (some ⟨P, 0, none⟩)] w _
  obtain ⟨xo, xk, fn, ft, fw, fs, fi⟩ := x
  go_enter Tryz.func45, Tryz.ntmps45
  go_wp2_with (first
    | (go_at_call 46; (with_reducible refine (FT _).mono ?_); rintro e w2 ⟨rfl, b2⟩)
    | fail)
  go_ret
  exact ⟨rfl, (al1 w _).trans (b2.mono (al1 w _).size)⟩
set_option maxRecDepth 100000 in
theorem hcheck3_any (x : Spt) (P : Nat) (h : SchAt w ov ev s) (h0 : w.cell? ⟨P, 0, none⟩ = some ov) (h1 : w.cell? ⟨P, 1, none⟩ = some ev) : Calls Tryz.prog 47 (#[sptV x] ++ #[.pointer (some ⟨P, 0, none⟩)]) w fun e w' => e = .returned (.bool (!x.f.s || decide (edgS s x.f < 0))) ∧ Below w.heap.size w w' := by
  have FT := fun o => hedge_any (h.on (al1 w o)) x.f
  obtain ⟨a, c, rfl, _, _⟩ := h.os.slice
  obtain ⟨a', c', rfl, _, _⟩ := h.es.slice
  have g0 := fun o => cell_on (al1 w o) h0
  have g1 := fun o => cell_on (al1 w o) h1
  show Calls Tryz.prog 47 #[sptV x, .pointer (some ⟨P, 0, none⟩)] w _
  obtain ⟨xo, xk, fn, ft, fw, fs, fi⟩ := x
  simp only at *
  generalize edgS s ⟨fn, ft, fw, fs, fi⟩ = k at *
  cases fs with
  | false =>
    go_enter Tryz.func47, Tryz.ntmps47
    go_wp2
    go_ret
    exact ⟨by simp, al1 w _⟩
  | true =>
    go_enter Tryz.func47, Tryz.ntmps47
    go_wp2_with (first
      | (go_at_call 48; (with_reducible refine (FT _).mono ?_); rintro e w2 ⟨rfl, b2⟩)
      | fail)
    go_ret
    exact ⟨by simp, (al1 w _).trans (b2.mono (al1 w _).size)⟩
def ledS (s : Sch) (x : Spt) : Bool := if backS s x.o x.k < 0 then false else match atI s.os (edgS s x.f) with
  | none => false
  | some p => match atI p.fs (backS s x.o x.k) with
    | none => false
    | some g => decide (edgS s g = (x.o : Int)) && (g.i == x.f.n)
end
end Go.Proofs.YtamkjpfomaapgaaGreatDoor
namespace Go.Proofs.YtamkjpfomaapgaaGreatDoor
open Go Go.RowKit Go.Shelf
theorem bel_drew9 (w : World) (o : Obj) : Below w.heap.size w (w.alloc o).drew := ⟨(al1 w o).os, (al1 w o).tape, (al1 w o).output, (al1 w o).size, (al1 w o).block⟩
theorem led_yes {s : Sch} {x : Spt} {o : Ob} (h1 : s.os[x.o]? = some o) (h2 : o.fs[x.k]? = some x.f) (h : ¬ backS s x.o x.k < 0) : ∃ (Tn An : Nat) (p : Ob) (g : Fld), edgS s x.f = (Tn : Int) ∧ backS s x.o x.k = (An : Int) ∧ s.os[Tn]? = some p ∧ p.fs[An]? = some g ∧ ledS s x = (decide (edgS s g = (x.o : Int)) && (g.i == x.f.n)) := by
  have e0 : backS s x.o x.k = if edgS s x.f < 0 ∨ x.f.i = [] then -1 else match atI s.os (edgS s x.f) with
      | none => -1
      | some p => plB x.f.i (p.fs.map (·.n)) := by
    unfold backS
    simp only [atI_some h1, atI_some h2]
    rfl
  have hr := edg_range s x.f
  by_cases hc : edgS s x.f < 0 ∨ x.f.i = []
  · rw [if_pos hc] at e0
    rw [e0] at h
    exact absurd (by decide) h
  · rw [if_neg hc] at e0
    have hge : 0 ≤ edgS s x.f := by
      rcases Int.lt_or_le (edgS s x.f) 0 with q | q
      · exact absurd (Or.inl q) hc
      · exact q
    obtain ⟨Tn, hT⟩ : ∃ Tn : Nat, edgS s x.f = (Tn : Int) := ⟨(edgS s x.f).toNat, by omega⟩
    obtain ⟨p, hp⟩ : ∃ p, s.os[Tn]? = some p := ⟨_, List.getElem?_eq_getElem (by omega)⟩
    rw [hT, atI_some hp] at e0
    simp only at e0
    have hpr := plB_range x.f.i (p.fs.map (·.n))
    rw [← e0] at hpr
    obtain ⟨An, hA⟩ : ∃ An : Nat, backS s x.o x.k = (An : Int) := ⟨(backS s x.o x.k).toNat, by omega⟩
    rw [hA, List.length_map] at hpr
    obtain ⟨g, hg⟩ : ∃ g, p.fs[An]? = some g := ⟨_, List.getElem?_eq_getElem (by omega)⟩
    refine ⟨Tn, An, p, g, hT, hA, hp, hg, ?_⟩
    unfold ledS
    rw [if_neg h, hT, atI_some hp]
    simp only
    rw [hA, atI_some hg]
section
variable {w : World} {ov ev : Value} {s : Sch}
set_option maxRecDepth 100000 in
set_option maxHeartbeats 8000000 in
theorem hledBack_any (h : SchAt w ov ev s) (x : Spt) (o : Ob) (h1 : s.os[x.o]? = some o) (h2 : o.fs[x.k]? = some x.f) : Calls Tryz.prog 50 #[.agg #[ov, ev], sptV x] w fun e w' => e = .returned (.bool (ledS s x)) ∧ Below w.heap.size w w' := by
  have BK := fun o o' => hback_any (h.on (al2 w o o')) (x.o : Int) (x.k : Int)
  have hh := h
  have hos := h.os
  obtain ⟨a, c, rfl, _, _⟩ := h.os.slice
  obtain ⟨a', c', rfl, _, _⟩ := h.es.slice
  by_cases hb : backS s x.o x.k < 0
  · have HL : Hid (ledS s x = false) := by
      show _ = _
      unfold ledS
      rw [if_pos hb]
    generalize backS s x.o x.k = k at *
    obtain ⟨xo, xk, fn, ft, fw, fs, fi⟩ := x
    go_enter Tryz.func50, Tryz.ntmps50
    go_wp2_with (first
      | (go_at_call 97; (with_reducible refine (BK _ _).mono ?_); rintro e w2 ⟨rfl, b2⟩)
      | fail)
    go_ret
    exact ⟨by rw [HL.out]; rfl, (al2 w _ _).trans (b2.mono (al2 w _ _).size)⟩
  · obtain ⟨Tn, An, p, g, hT, hA, hp, hg, hL⟩ := led_yes h1 h2 hb
    obtain ⟨b, o', c0, a1, c1, hv, hbl, _, e0, e1, hfs⟩ := ob_cells hos hp
    cases hv
    obtain ⟨b1, o1, rfl, hbl1, _, g0, g1, g2, g3, g4⟩ := fld_cells hfs hg
    have ED := fun W (bb : Below w.heap.size w W) => hedge_any (hh.on bb) x.f
    have EG := fun W (bb : Below w.heap.size w W) => hedge_any (hh.on bb) g
    rw [hA] at BK
    rw [hT] at ED
    have HL : Hid (ledS s x = (decide (edgS s g = (x.o : Int)) && (g.i == x.f.n))) := hL
    generalize edgS s g = kg at *
    have l1 : ((Tn : Nat) : Int) < (s.os.length : Int) := by have := (List.getElem?_eq_some_iff.1 hp).1; omega
    have l2 : ((An : Nat) : Int) < (p.fs.length : Int) := by have := (List.getElem?_eq_some_iff.1 hg).1; omega
    have hTn : ((Tn : Nat) : Int).toNat = Tn := by omega
    have hAn : ((An : Nat) : Int).toNat = An := by omega
    have hAd : decide (((An : Nat) : Int) < 0) = false := by rw [decide_eq_false_iff_not]; omega
    clear hb hT hA hL hp hg h1 h2
    obtain ⟨xo, xk, fn, ft, fw, fs, fi⟩ := x
    obtain ⟨gn, gt, gw, gs, gi⟩ := g
    simp only at *
    show Calls Tryz.prog 50 #[.agg #[.slice (some ⟨b, o', none⟩) s.os.length c, .slice a' s.es.length c'], .agg #[.int .i64 (xo : Int), .int .i64 (xk : Int), .string ⟨fn.toArray⟩, .string ⟨ft.toArray⟩, .string ⟨fw.toArray⟩, .bool fs, .string ⟨fi.toArray⟩]] w fun e w' => e = .returned (.bool (ledS s ⟨xo, xk, fn, ft, fw, fs, fi⟩)) ∧ Below w.heap.size w w'
    generalize ledS s ⟨xo, xk, fn, ft, fw, fs, fi⟩ = LB at *
    generalize ((xo : Nat) : Int) = X at *
    go_enter Tryz.func50, Tryz.ntmps50
    go_wp2_with (first
      | (go_at_call 97; (with_reducible refine (BK _ _).mono ?_); rintro e w2 ⟨rfl, b2⟩; have B2 := (al2 w _ _).trans (b2.mono (al2 w _ _).size); obtain ⟨q0, q1, fq⟩ := row2 ((b2.block _ (by rw [World.size_alloc, World.size_alloc]; omega)).trans (new1 w (.cells #[.slice (some ⟨b, o', none⟩) s.os.length c, .slice a' s.es.length c'] 25) (.cells #[.int .i64 X, .int .i64 (xk : Int), .string ⟨fn.toArray⟩, .string ⟨ft.toArray⟩, .string ⟨fw.toArray⟩, .bool fs, .string ⟨fi.toArray⟩] 79))); obtain ⟨n0, n1, n2, n3, n4, n5, n6, fn7⟩ := row7 ((b2.block _ (by rw [World.size_alloc, World.size_alloc]; omega)).trans (new2 w (.cells #[.slice (some ⟨b, o', none⟩) s.os.length c, .slice a' s.es.length c'] 25) (.cells #[.int .i64 X, .int .i64 (xk : Int), .string ⟨fn.toArray⟩, .string ⟨ft.toArray⟩, .string ⟨fw.toArray⟩, .bool fs, .string ⟨fi.toArray⟩] 79))); have r1 := cell_on B2 e1; have k0 := cell_on B2 g0; have k1 := cell_on B2 g1; have k2 := cell_on B2 g2; have k3 := cell_on B2 g3; have k4 := cell_on B2 g4)
      | fail)
    have bd2 : Below w2.heap.size w2 w2.drew := ⟨rfl, rfl, rfl, Nat.le_refl _, fun _ _ => rfl⟩
    have bd3 : Below w2.heap.size w2 (w2.alloc (.cells #[.string ⟨#[]⟩, .string ⟨#[]⟩, .string ⟨#[]⟩, .bool false, .string ⟨#[]⟩] 56)).drew := bel_drew9 w2 _
    have ne_q0 := World.new_ne w2 _ q0
    have ne_q1 := World.new_ne w2 _ q1
    have ne_n2 := World.new_ne w2 _ n2
    have ne_n3 := World.new_ne w2 _ n3
    have ne_n4 := World.new_ne w2 _ n4
    have ne_n5 := World.new_ne w2 _ n5
    have ne_n6 := World.new_ne w2 _ n6
    have ne_r1 := World.new_ne w2 _ r1
    have ne_k0 := World.new_ne w2 _ k0
    have ne_k1 := World.new_ne w2 _ k1
    have ne_k2 := World.new_ne w2 _ k2
    have ne_k3 := World.new_ne w2 _ k3
    have ne_k4 := World.new_ne w2 _ k4
    go_region_held3 (fun w' => w'.cell? ⟨w.heap.size, 0, none⟩ = some (.slice (some ⟨b, o', none⟩) s.os.length c) ∧ w'.cell? ⟨w.heap.size, 1, none⟩ = some (.slice a' s.es.length c') ∧ w'.cell? ⟨w.heap.size + 1, 2, none⟩ = some (.string ⟨fn.toArray⟩) ∧ w'.cell? ⟨w.heap.size + 1, 3, none⟩ = some (.string ⟨ft.toArray⟩) ∧ w'.cell? ⟨w.heap.size + 1, 4, none⟩ = some (.string ⟨fw.toArray⟩) ∧ w'.cell? ⟨w.heap.size + 1, 5, none⟩ = some (.bool fs) ∧ w'.cell? ⟨w.heap.size + 1, 6, none⟩ = some (.string ⟨fi.toArray⟩) ∧ w'.cell? ⟨b, o' + Tn * 2 + 1, none⟩ = some (.slice (some ⟨b1, o1, none⟩) p.fs.length c1) ∧ w'.cell? ⟨b1, o1 + An * 5, none⟩ = some (.string ⟨gn.toArray⟩) ∧ w'.cell? ⟨b1, o1 + An * 5 + 1, none⟩ = some (.string ⟨gt.toArray⟩) ∧ w'.cell? ⟨b1, o1 + An * 5 + 2, none⟩ = some (.string ⟨gw.toArray⟩) ∧ w'.cell? ⟨b1, o1 + An * 5 + 3, none⟩ = some (.bool gs) ∧ w'.cell? ⟨b1, o1 + An * 5 + 4, none⟩ = some (.string ⟨gi.toArray⟩)) (go_keep) ((first
      | (go_at_call 48; (with_reducible refine (ED _ (B2.trans (bd2.mono B2.size))).mono ?_); rintro e w3 ⟨rfl, b3⟩; have s0 := cell_on b3 q0; have s1 := cell_on b3 q1; have s2 := cell_on b3 n2; have s3 := cell_on b3 n3; have s4 := cell_on b3 n4; have s5 := cell_on b3 n5; have s6 := cell_on b3 n6; have t1 := cell_on b3 r1; have t2 := cell_on b3 k0; have t3 := cell_on b3 k1; have t4 := cell_on b3 k2; have t5 := cell_on b3 k3; have t6 := cell_on b3 k4)
      | (go_at_call 48; (with_reducible refine (ED _ (B2.trans (bd3.mono B2.size))).mono ?_); rintro e w3 ⟨rfl, b3⟩; have s0 := cell_on b3 (cell_on (al1 w2 (.cells #[.string ⟨#[]⟩, .string ⟨#[]⟩, .string ⟨#[]⟩, .bool false, .string ⟨#[]⟩] 56)) q0); have s1 := cell_on b3 (cell_on (al1 w2 (.cells #[.string ⟨#[]⟩, .string ⟨#[]⟩, .string ⟨#[]⟩, .bool false, .string ⟨#[]⟩] 56)) q1); have s2 := cell_on b3 (cell_on (al1 w2 (.cells #[.string ⟨#[]⟩, .string ⟨#[]⟩, .string ⟨#[]⟩, .bool false, .string ⟨#[]⟩] 56)) n2); have s3 := cell_on b3 (cell_on (al1 w2 (.cells #[.string ⟨#[]⟩, .string ⟨#[]⟩, .string ⟨#[]⟩, .bool false, .string ⟨#[]⟩] 56)) n3); have s4 := cell_on b3 (cell_on (al1 w2 (.cells #[.string ⟨#[]⟩, .string ⟨#[]⟩, .string ⟨#[]⟩, .bool false, .string ⟨#[]⟩] 56)) n4); have s5 := cell_on b3 (cell_on (al1 w2 (.cells #[.string ⟨#[]⟩, .string ⟨#[]⟩, .string ⟨#[]⟩, .bool false, .string ⟨#[]⟩] 56)) n5); have s6 := cell_on b3 (cell_on (al1 w2 (.cells #[.string ⟨#[]⟩, .string ⟨#[]⟩, .string ⟨#[]⟩, .bool false, .string ⟨#[]⟩] 56)) n6); have t1 := cell_on b3 (cell_on (al1 w2 (.cells #[.string ⟨#[]⟩, .string ⟨#[]⟩, .string ⟨#[]⟩, .bool false, .string ⟨#[]⟩] 56)) r1); have t2 := cell_on b3 (cell_on (al1 w2 (.cells #[.string ⟨#[]⟩, .string ⟨#[]⟩, .string ⟨#[]⟩, .bool false, .string ⟨#[]⟩] 56)) k0); have t3 := cell_on b3 (cell_on (al1 w2 (.cells #[.string ⟨#[]⟩, .string ⟨#[]⟩, .string ⟨#[]⟩, .bool false, .string ⟨#[]⟩] 56)) k1); have t4 := cell_on b3 (cell_on (al1 w2 (.cells #[.string ⟨#[]⟩, .string ⟨#[]⟩, .string ⟨#[]⟩, .bool false, .string ⟨#[]⟩] 56)) k2); have t5 := cell_on b3 (cell_on (al1 w2 (.cells #[.string ⟨#[]⟩, .string ⟨#[]⟩, .string ⟨#[]⟩, .bool false, .string ⟨#[]⟩] 56)) k3); have t6 := cell_on b3 (cell_on (al1 w2 (.cells #[.string ⟨#[]⟩, .string ⟨#[]⟩, .string ⟨#[]⟩, .bool false, .string ⟨#[]⟩] 56)) k4); obtain ⟨z0, z1, z2, z3, z4, fz⟩ := row5 ((b3.block _ (by show w2.heap.size < (World.alloc _ _).heap.size; rw [World.size_alloc]; omega)).trans (heap_alloc_new w2 (.cells #[.string ⟨#[]⟩, .string ⟨#[]⟩, .string ⟨#[]⟩, .bool false, .string ⟨#[]⟩] 56))))
      | fail))
    · have W1c := al1 w3 (.cells #[.string ⟨gn.toArray⟩, .string ⟨gt.toArray⟩, .string ⟨gw.toArray⟩, .bool gs, .string ⟨gi.toArray⟩] 56)
      have B3 := B2.trans (((bel_drew0 b3)).mono B2.size)
      have BW := B3.trans (W1c.mono B3.size)
      obtain ⟨m0, m1, m2, m3, m4, fm⟩ := row5 (heap_alloc_new w3 (.cells #[.string ⟨gn.toArray⟩, .string ⟨gt.toArray⟩, .string ⟨gw.toArray⟩, .bool gs, .string ⟨gi.toArray⟩] 56))
      have v0 := cell_on W1c s0
      have v1 := cell_on W1c s1
      have y0 := cell_on W1c (cell_on b3 n0)
      have y2 := cell_on W1c s2
      generalize hF : w3.heap.size = F9 at *
      clear hF
      generalize (w3.alloc (.cells #[.string ⟨gn.toArray⟩, .string ⟨gt.toArray⟩, .string ⟨gw.toArray⟩, .bool gs, .string ⟨gi.toArray⟩] 56)) = W9 at *
      have bdW : Below W9.heap.size W9 W9.drew := ⟨rfl, rfl, rfl, Nat.le_refl _, fun _ _ => rfl⟩
      cases hkd : (kg == X) with
      | true =>
        go_wp2
        go_region_held3 (fun w' => w'.cell? ⟨w.heap.size, 0, none⟩ = some (.slice (some ⟨b, o', none⟩) s.os.length c) ∧ w'.cell? ⟨w.heap.size, 1, none⟩ = some (.slice a' s.es.length c') ∧ w'.cell? ⟨F9, 0, none⟩ = some (.string ⟨gn.toArray⟩) ∧ w'.cell? ⟨F9, 1, none⟩ = some (.string ⟨gt.toArray⟩) ∧ w'.cell? ⟨F9, 2, none⟩ = some (.string ⟨gw.toArray⟩) ∧ w'.cell? ⟨F9, 3, none⟩ = some (.bool gs) ∧ w'.cell? ⟨F9, 4, none⟩ = some (.string ⟨gi.toArray⟩) ∧ w'.cell? ⟨w.heap.size + 1, 0, none⟩ = some (.int .i64 X) ∧ w'.cell? ⟨w.heap.size + 1, 2, none⟩ = some (.string ⟨fn.toArray⟩)) (go_keep) ((go_at_call 48; (with_reducible refine (EG _ (BW.trans (bdW.mono BW.size))).mono ?_); rintro e w5 ⟨rfl, b5⟩; have p0 := cell_on b5 v0; have p1 := cell_on b5 v1; have p2 := cell_on b5 m0; have p3 := cell_on b5 m1; have p4 := cell_on b5 m2; have p5 := cell_on b5 m3; have p6 := cell_on b5 m4; have p7 := cell_on b5 y0; have p8 := cell_on b5 y2))
        all_goals
          go_wp2
          go_ret
          exact ⟨by (rw [HL.out]; (try simp at hkd); simp [hkd]), BW.trans ((bel_drew0 b5).mono BW.size)⟩
      | false =>
        go_wp2
        refine wp_region_held_drew (S := (fun w' => w'.cell? ⟨w.heap.size, 0, none⟩ = some (.slice (some ⟨b, o', none⟩) s.os.length c) ∧ w'.cell? ⟨w.heap.size, 1, none⟩ = some (.slice a' s.es.length c') ∧ w'.cell? ⟨F9, 0, none⟩ = some (.string ⟨gn.toArray⟩) ∧ w'.cell? ⟨F9, 1, none⟩ = some (.string ⟨gt.toArray⟩) ∧ w'.cell? ⟨F9, 2, none⟩ = some (.string ⟨gw.toArray⟩) ∧ w'.cell? ⟨F9, 3, none⟩ = some (.bool gs) ∧ w'.cell? ⟨F9, 4, none⟩ = some (.string ⟨gi.toArray⟩) ∧ w'.cell? ⟨w.heap.size + 1, 0, none⟩ = some (.int .i64 X) ∧ w'.cell? ⟨w.heap.size + 1, 2, none⟩ = some (.string ⟨fn.toArray⟩))) (by kernel_rfl) ?_ (fun hHeld => ?_)
        · go_keep
        refine wpAnyH_take (i := 0) (oi := ⟨some 27, _, _, _, _, _⟩) (v := ?_) rfl (by kernel_rfl) (by kernel_rfl) (by kernel_rfl) (fun _ _ _ h => h) (Or.inl ⟨by rfl, ?_⟩) (by assumption) ?_
        rotate_left
        · intro w' hSw
          (try dsimp only at hSw)
          go_simp
          (try with_reducible rfl)
        simp only [Act.put, List.setIfInBounds_toArray, List.set_cons_zero, List.set_cons_succ]
        refine wpAnyH_take (i := 1) (oi := ⟨some 28, _, _, _, _, _⟩) (v := ?_) rfl (by kernel_rfl) (by kernel_rfl) (by kernel_rfl) (fun _ _ _ h => h) (Or.inl ⟨by rfl, ?_⟩) (by assumption) ?_
        rotate_left
        · intro w' hSw
          (try dsimp only at hSw)
          go_simp
          (try with_reducible rfl)
        simp only [Act.put, List.setIfInBounds_toArray, List.set_cons_zero, List.set_cons_succ]
        refine wpAnyH_take (i := 3) (oi := ⟨some 30, _, _, _, _, _⟩) (v := ?_) rfl (by kernel_rfl) (by kernel_rfl) (by kernel_rfl) (fun _ _ _ h => h) (Or.inl ⟨by rfl, ?_⟩) (by assumption) ?_
        rotate_left
        · intro w' hSw
          (try dsimp only at hSw)
          go_simp
          (try with_reducible rfl)
        simp only [Act.put, List.setIfInBounds_toArray, List.set_cons_zero, List.set_cons_succ]
        refine wpAnyH_take (i := 4) (oi := ⟨some 31, _, _, _, _, _⟩) (v := ?_) rfl (by kernel_rfl) (by kernel_rfl) (by kernel_rfl) (fun _ _ _ h => h) (Or.inl ⟨by rfl, ?_⟩) (by assumption) ?_
        rotate_left
        · intro w' hSw
          (try dsimp only at hSw)
          go_simp
          (try with_reducible rfl)
        simp only [Act.put, List.setIfInBounds_toArray, List.set_cons_zero, List.set_cons_succ]
        refine wpAnyH_ready (rs := [2]) (by kernel_rfl) (by simp) ?_
        refine AllReadyH.cons (o := ⟨some 29, _, _, _, _, _⟩) rfl (fun K hK => ?_) AllReadyH.nil
        go_simp
        (go_at_call 48; (with_reducible refine (EG _ (BW.trans (bdW.mono BW.size))).mono ?_); rintro e w5 ⟨rfl, b5⟩; have p0 := cell_on b5 v0; have p1 := cell_on b5 v1; have p2 := cell_on b5 m0; have p3 := cell_on b5 m1; have p4 := cell_on b5 m2; have p5 := cell_on b5 m3; have p6 := cell_on b5 m4; have p7 := cell_on b5 y0; have p8 := cell_on b5 y2)
        refine hK.out _ _ ?_ (fun hHeld => ?_)
        · go_keep
        clear hK K
        refine wpAnyH_take (i := 5) (oi := ⟨some 32, _, _, _, _, _⟩) (v := ?_) rfl (by kernel_rfl) (by kernel_rfl) (by kernel_rfl) (fun _ _ _ h => h) (Or.inl ⟨by rfl, ?_⟩) (by assumption) ?_
        rotate_left
        · intro w' hSw
          (try dsimp only at hSw)
          go_simp
          (try with_reducible rfl)
        simp only [Act.put, List.setIfInBounds_toArray, List.set_cons_zero, List.set_cons_succ]
        refine wpAnyH_take (i := 6) (oi := ⟨some 33, _, _, _, _, _⟩) (v := ?_) rfl (by kernel_rfl) (by kernel_rfl) (by kernel_rfl) (fun _ _ _ h => h) (Or.inl ⟨by rfl, ?_⟩) (by assumption) ?_
        rotate_left
        · intro w' hSw
          (try dsimp only at hSw)
          go_simp
          (try with_reducible rfl)
        simp only [Act.put, List.setIfInBounds_toArray, List.set_cons_zero, List.set_cons_succ]
        refine wpAnyH_take (i := 7) (oi := ⟨some 34, _, _, _, _, _⟩) (v := undef) rfl (by kernel_rfl) (by kernel_rfl) (by kernel_rfl) (fun _ _ _ h => h) (Or.inr ⟨by rfl, rfl⟩) (by assumption) ?_
        simp only [Act.put, List.setIfInBounds_toArray, List.set_cons_zero, List.set_cons_succ]
        refine wpAnyH_take (i := 8) (oi := ⟨some 35, _, _, _, _, _⟩) (v := undef) rfl (by kernel_rfl) (by kernel_rfl) (by kernel_rfl) (fun _ _ _ h => h) (Or.inr ⟨by rfl, rfl⟩) (by assumption) ?_
        simp only [Act.put, List.setIfInBounds_toArray, List.set_cons_zero, List.set_cons_succ]
        refine wpAnyH_take (i := 9) (oi := ⟨some 36, _, _, _, _, _⟩) (v := undef) rfl (by kernel_rfl) (by kernel_rfl) (by kernel_rfl) (fun _ _ _ h => h) (Or.inr ⟨by rfl, rfl⟩) (by assumption) ?_
        simp only [Act.put, List.setIfInBounds_toArray, List.set_cons_zero, List.set_cons_succ]
        refine wpAnyH_take (i := 10) (oi := ⟨some 37, _, _, _, _, _⟩) (v := undef) rfl (by kernel_rfl) (by kernel_rfl) (by kernel_rfl) (fun _ _ _ h => h) (Or.inr ⟨by rfl, rfl⟩) (by assumption) ?_
        simp only [Act.put, List.setIfInBounds_toArray, List.set_cons_zero, List.set_cons_succ]
        refine wpAnyH_take (i := 11) (oi := ⟨some 38, _, _, _, _, _⟩) (v := undef) rfl (by kernel_rfl) (by kernel_rfl) (by kernel_rfl) (fun _ _ _ h => h) (Or.inr ⟨by rfl, rfl⟩) (by assumption) ?_
        simp only [Act.put, List.setIfInBounds_toArray, List.set_cons_zero, List.set_cons_succ]
        refine wpAnyH_take (i := 12) (oi := ⟨some 39, _, _, _, _, _⟩) (v := undef) rfl (by kernel_rfl) (by kernel_rfl) (by kernel_rfl) (fun _ _ _ h => h) (Or.inr ⟨by rfl, rfl⟩) (by assumption) ?_
        simp only [Act.put, List.setIfInBounds_toArray, List.set_cons_zero, List.set_cons_succ]
        refine wpAnyH_take (i := 13) (oi := ⟨some 40, _, _, _, _, _⟩) (v := ?_) rfl (by kernel_rfl) (by kernel_rfl) (by kernel_rfl) (fun _ _ _ h => h) (Or.inl ⟨by rfl, ?_⟩) (by assumption) ?_
        rotate_left
        · intro w' hSw
          (try dsimp only at hSw)
          go_simp
          (try with_reducible rfl)
        simp only [Act.put, List.setIfInBounds_toArray, List.set_cons_zero, List.set_cons_succ]
        refine wpAnyH_take (i := 14) (oi := ⟨some 4, _, _, _, _, _⟩) (v := ?_) rfl (by kernel_rfl) (by kernel_rfl) (by kernel_rfl) (fun _ _ _ h => h) (Or.inl ⟨by rfl, ?_⟩) (by assumption) ?_
        rotate_left
        · intro w' hSw
          (try dsimp only at hSw)
          go_simp
          (try with_reducible rfl)
        simp only [Act.put, List.setIfInBounds_toArray, List.set_cons_zero, List.set_cons_succ]
        refine wpAnyH_done (by kernel_rfl) ?_ _
        all_goals
          go_wp2
          go_ret
          exact ⟨by (rw [HL.out]; (try simp at hkd); simp [hkd]), BW.trans ((bel_drew0 b5).mono BW.size)⟩
    · have hzb := (b3.block w2.heap.size (by show w2.heap.size < (World.alloc _ _).heap.size; rw [World.size_alloc]; omega)).trans (heap_alloc_new w2 (.cells #[.string ⟨#[]⟩, .string ⟨#[]⟩, .string ⟨#[]⟩, .bool false, .string ⟨#[]⟩] 56))
      have KW : Kp (fun k => k = w2.heap.size) w3 (((((w3.setCell ⟨w2.heap.size, 0, none⟩ (.string ⟨gn.toArray⟩)).setCell ⟨w2.heap.size, 1, none⟩ (.string ⟨gt.toArray⟩)).setCell ⟨w2.heap.size, 2, none⟩ (.string ⟨gw.toArray⟩)).setCell ⟨w2.heap.size, 3, none⟩ (.bool gs)).setCell ⟨w2.heap.size, 4, none⟩ (.string ⟨gi.toArray⟩)) := (((((Kp.refl (fun k => k = w2.heap.size) w3).set w2.heap.size 0 _ (Or.inr rfl)).set w2.heap.size 1 _ (Or.inr rfl)).set w2.heap.size 2 _ (Or.inr rfl)).set w2.heap.size 3 _ (Or.inr rfl)).set w2.heap.size 4 _ (Or.inr rfl)
      have hF9 : (((((w3.setCell ⟨w2.heap.size, 0, none⟩ (.string ⟨gn.toArray⟩)).setCell ⟨w2.heap.size, 1, none⟩ (.string ⟨gt.toArray⟩)).setCell ⟨w2.heap.size, 2, none⟩ (.string ⟨gw.toArray⟩)).setCell ⟨w2.heap.size, 3, none⟩ (.bool gs)).setCell ⟨w2.heap.size, 4, none⟩ (.string ⟨gi.toArray⟩)).heap[w2.heap.size]? = some (.cells #[.string ⟨gn.toArray⟩, .string ⟨gt.toArray⟩, .string ⟨gw.toArray⟩, .bool gs, .string ⟨gi.toArray⟩] 56) := by
        rw [heap_setCell_same _ _ 4 _ _ _ (heap_setCell_same _ _ 3 _ _ _ (heap_setCell_same _ _ 2 _ _ _ (heap_setCell_same _ _ 1 _ _ _ (heap_setCell_same _ _ 0 _ _ _ hzb))))]
        simp
      obtain ⟨m0, m1, m2, m3, m4, fm⟩ := row5 hF9
      have kc : ∀ {q j : Nat} {u : Value}, w3.cell? ⟨q, j, none⟩ = some u → w2.heap.size ≠ q → (((((w3.setCell ⟨w2.heap.size, 0, none⟩ (.string ⟨gn.toArray⟩)).setCell ⟨w2.heap.size, 1, none⟩ (.string ⟨gt.toArray⟩)).setCell ⟨w2.heap.size, 2, none⟩ (.string ⟨gw.toArray⟩)).setCell ⟨w2.heap.size, 3, none⟩ (.bool gs)).setCell ⟨w2.heap.size, 4, none⟩ (.string ⟨gi.toArray⟩)).cell? ⟨q, j, none⟩ = some u := fun hq hne => (World.cell?_of_block (KW.block _ (World.block_lt_of_cell? w3 _ hq) (fun e => hne e.symm))).trans hq
      have v0 := kc s0 ne_q0
      have v1 := kc s1 ne_q1
      have y0 := kc (cell_on b3 (cell_on (al1 w2 (.cells #[.string ⟨#[]⟩, .string ⟨#[]⟩, .string ⟨#[]⟩, .bool false, .string ⟨#[]⟩] 56)) n0)) ne_n2
      have y2 := kc s2 ne_n2
      have B3 := B2.trans (bel_drew b3 |>.mono B2.size)
      have hz2 := B2.size
      have BW : Below w.heap.size w (((((w3.setCell ⟨w2.heap.size, 0, none⟩ (.string ⟨gn.toArray⟩)).setCell ⟨w2.heap.size, 1, none⟩ (.string ⟨gt.toArray⟩)).setCell ⟨w2.heap.size, 2, none⟩ (.string ⟨gw.toArray⟩)).setCell ⟨w2.heap.size, 3, none⟩ (.bool gs)).setCell ⟨w2.heap.size, 4, none⟩ (.string ⟨gi.toArray⟩)) := ⟨KW.os.trans B3.os, KW.tape.trans B3.tape, KW.output.trans B3.output, Nat.le_trans B3.size KW.size, fun q hq => (KW.block q (by have := B3.size; omega) (fun e => by have e' : q = w2.heap.size := e; omega)).trans (B3.block q hq)⟩
      generalize (((((w3.setCell ⟨w2.heap.size, 0, none⟩ (.string ⟨gn.toArray⟩)).setCell ⟨w2.heap.size, 1, none⟩ (.string ⟨gt.toArray⟩)).setCell ⟨w2.heap.size, 2, none⟩ (.string ⟨gw.toArray⟩)).setCell ⟨w2.heap.size, 3, none⟩ (.bool gs)).setCell ⟨w2.heap.size, 4, none⟩ (.string ⟨gi.toArray⟩)) = W9 at *
      have bdW : Below W9.heap.size W9 W9.drew := ⟨rfl, rfl, rfl, Nat.le_refl _, fun _ _ => rfl⟩
      cases hkd : (kg == X) with
      | true =>
        go_wp2
        go_region_held3 (fun w' => w'.cell? ⟨w.heap.size, 0, none⟩ = some (.slice (some ⟨b, o', none⟩) s.os.length c) ∧ w'.cell? ⟨w.heap.size, 1, none⟩ = some (.slice a' s.es.length c') ∧ w'.cell? ⟨w2.heap.size, 0, none⟩ = some (.string ⟨gn.toArray⟩) ∧ w'.cell? ⟨w2.heap.size, 1, none⟩ = some (.string ⟨gt.toArray⟩) ∧ w'.cell? ⟨w2.heap.size, 2, none⟩ = some (.string ⟨gw.toArray⟩) ∧ w'.cell? ⟨w2.heap.size, 3, none⟩ = some (.bool gs) ∧ w'.cell? ⟨w2.heap.size, 4, none⟩ = some (.string ⟨gi.toArray⟩) ∧ w'.cell? ⟨w.heap.size + 1, 0, none⟩ = some (.int .i64 X) ∧ w'.cell? ⟨w.heap.size + 1, 2, none⟩ = some (.string ⟨fn.toArray⟩)) (go_keep) ((go_at_call 48; (with_reducible refine (EG _ (BW.trans (bdW.mono BW.size))).mono ?_); rintro e w5 ⟨rfl, b5⟩; have p0 := cell_on b5 v0; have p1 := cell_on b5 v1; have p2 := cell_on b5 m0; have p3 := cell_on b5 m1; have p4 := cell_on b5 m2; have p5 := cell_on b5 m3; have p6 := cell_on b5 m4; have p7 := cell_on b5 y0; have p8 := cell_on b5 y2))
        all_goals
          go_wp2
          go_ret
          exact ⟨by (rw [HL.out]; (try simp at hkd); simp [hkd]), BW.trans ((bel_drew0 b5).mono BW.size)⟩
      | false =>
        go_wp2
        refine wp_region_held_drew (S := (fun w' => w'.cell? ⟨w.heap.size, 0, none⟩ = some (.slice (some ⟨b, o', none⟩) s.os.length c) ∧ w'.cell? ⟨w.heap.size, 1, none⟩ = some (.slice a' s.es.length c') ∧ w'.cell? ⟨w2.heap.size, 0, none⟩ = some (.string ⟨gn.toArray⟩) ∧ w'.cell? ⟨w2.heap.size, 1, none⟩ = some (.string ⟨gt.toArray⟩) ∧ w'.cell? ⟨w2.heap.size, 2, none⟩ = some (.string ⟨gw.toArray⟩) ∧ w'.cell? ⟨w2.heap.size, 3, none⟩ = some (.bool gs) ∧ w'.cell? ⟨w2.heap.size, 4, none⟩ = some (.string ⟨gi.toArray⟩) ∧ w'.cell? ⟨w.heap.size + 1, 0, none⟩ = some (.int .i64 X) ∧ w'.cell? ⟨w.heap.size + 1, 2, none⟩ = some (.string ⟨fn.toArray⟩))) (by kernel_rfl) ?_ (fun hHeld => ?_)
        · go_keep
        refine wpAnyH_take (i := 0) (oi := ⟨some 27, _, _, _, _, _⟩) (v := ?_) rfl (by kernel_rfl) (by kernel_rfl) (by kernel_rfl) (fun _ _ _ h => h) (Or.inl ⟨by rfl, ?_⟩) (by assumption) ?_
        rotate_left
        · intro w' hSw
          (try dsimp only at hSw)
          go_simp
          (try with_reducible rfl)
        simp only [Act.put, List.setIfInBounds_toArray, List.set_cons_zero, List.set_cons_succ]
        refine wpAnyH_take (i := 1) (oi := ⟨some 28, _, _, _, _, _⟩) (v := ?_) rfl (by kernel_rfl) (by kernel_rfl) (by kernel_rfl) (fun _ _ _ h => h) (Or.inl ⟨by rfl, ?_⟩) (by assumption) ?_
        rotate_left
        · intro w' hSw
          (try dsimp only at hSw)
          go_simp
          (try with_reducible rfl)
        simp only [Act.put, List.setIfInBounds_toArray, List.set_cons_zero, List.set_cons_succ]
        refine wpAnyH_take (i := 3) (oi := ⟨some 30, _, _, _, _, _⟩) (v := ?_) rfl (by kernel_rfl) (by kernel_rfl) (by kernel_rfl) (fun _ _ _ h => h) (Or.inl ⟨by rfl, ?_⟩) (by assumption) ?_
        rotate_left
        · intro w' hSw
          (try dsimp only at hSw)
          go_simp
          (try with_reducible rfl)
        simp only [Act.put, List.setIfInBounds_toArray, List.set_cons_zero, List.set_cons_succ]
        refine wpAnyH_take (i := 4) (oi := ⟨some 31, _, _, _, _, _⟩) (v := ?_) rfl (by kernel_rfl) (by kernel_rfl) (by kernel_rfl) (fun _ _ _ h => h) (Or.inl ⟨by rfl, ?_⟩) (by assumption) ?_
        rotate_left
        · intro w' hSw
          (try dsimp only at hSw)
          go_simp
          (try with_reducible rfl)
        simp only [Act.put, List.setIfInBounds_toArray, List.set_cons_zero, List.set_cons_succ]
        refine wpAnyH_ready (rs := [2]) (by kernel_rfl) (by simp) ?_
        refine AllReadyH.cons (o := ⟨some 29, _, _, _, _, _⟩) rfl (fun K hK => ?_) AllReadyH.nil
        go_simp
        (go_at_call 48; (with_reducible refine (EG _ (BW.trans (bdW.mono BW.size))).mono ?_); rintro e w5 ⟨rfl, b5⟩; have p0 := cell_on b5 v0; have p1 := cell_on b5 v1; have p2 := cell_on b5 m0; have p3 := cell_on b5 m1; have p4 := cell_on b5 m2; have p5 := cell_on b5 m3; have p6 := cell_on b5 m4; have p7 := cell_on b5 y0; have p8 := cell_on b5 y2)
        refine hK.out _ _ ?_ (fun hHeld => ?_)
        · go_keep
        clear hK K
        refine wpAnyH_take (i := 5) (oi := ⟨some 32, _, _, _, _, _⟩) (v := ?_) rfl (by kernel_rfl) (by kernel_rfl) (by kernel_rfl) (fun _ _ _ h => h) (Or.inl ⟨by rfl, ?_⟩) (by assumption) ?_
        rotate_left
        · intro w' hSw
          (try dsimp only at hSw)
          go_simp
          (try with_reducible rfl)
        simp only [Act.put, List.setIfInBounds_toArray, List.set_cons_zero, List.set_cons_succ]
        refine wpAnyH_take (i := 6) (oi := ⟨some 33, _, _, _, _, _⟩) (v := ?_) rfl (by kernel_rfl) (by kernel_rfl) (by kernel_rfl) (fun _ _ _ h => h) (Or.inl ⟨by rfl, ?_⟩) (by assumption) ?_
        rotate_left
        · intro w' hSw
          (try dsimp only at hSw)
          go_simp
          (try with_reducible rfl)
        simp only [Act.put, List.setIfInBounds_toArray, List.set_cons_zero, List.set_cons_succ]
        refine wpAnyH_take (i := 7) (oi := ⟨some 34, _, _, _, _, _⟩) (v := undef) rfl (by kernel_rfl) (by kernel_rfl) (by kernel_rfl) (fun _ _ _ h => h) (Or.inr ⟨by rfl, rfl⟩) (by assumption) ?_
        simp only [Act.put, List.setIfInBounds_toArray, List.set_cons_zero, List.set_cons_succ]
        refine wpAnyH_take (i := 8) (oi := ⟨some 35, _, _, _, _, _⟩) (v := undef) rfl (by kernel_rfl) (by kernel_rfl) (by kernel_rfl) (fun _ _ _ h => h) (Or.inr ⟨by rfl, rfl⟩) (by assumption) ?_
        simp only [Act.put, List.setIfInBounds_toArray, List.set_cons_zero, List.set_cons_succ]
        refine wpAnyH_take (i := 9) (oi := ⟨some 36, _, _, _, _, _⟩) (v := undef) rfl (by kernel_rfl) (by kernel_rfl) (by kernel_rfl) (fun _ _ _ h => h) (Or.inr ⟨by rfl, rfl⟩) (by assumption) ?_
        simp only [Act.put, List.setIfInBounds_toArray, List.set_cons_zero, List.set_cons_succ]
        refine wpAnyH_take (i := 10) (oi := ⟨some 37, _, _, _, _, _⟩) (v := undef) rfl (by kernel_rfl) (by kernel_rfl) (by kernel_rfl) (fun _ _ _ h => h) (Or.inr ⟨by rfl, rfl⟩) (by assumption) ?_
        simp only [Act.put, List.setIfInBounds_toArray, List.set_cons_zero, List.set_cons_succ]
        refine wpAnyH_take (i := 11) (oi := ⟨some 38, _, _, _, _, _⟩) (v := undef) rfl (by kernel_rfl) (by kernel_rfl) (by kernel_rfl) (fun _ _ _ h => h) (Or.inr ⟨by rfl, rfl⟩) (by assumption) ?_
        simp only [Act.put, List.setIfInBounds_toArray, List.set_cons_zero, List.set_cons_succ]
        refine wpAnyH_take (i := 12) (oi := ⟨some 39, _, _, _, _, _⟩) (v := undef) rfl (by kernel_rfl) (by kernel_rfl) (by kernel_rfl) (fun _ _ _ h => h) (Or.inr ⟨by rfl, rfl⟩) (by assumption) ?_
        simp only [Act.put, List.setIfInBounds_toArray, List.set_cons_zero, List.set_cons_succ]
        refine wpAnyH_take (i := 13) (oi := ⟨some 40, _, _, _, _, _⟩) (v := ?_) rfl (by kernel_rfl) (by kernel_rfl) (by kernel_rfl) (fun _ _ _ h => h) (Or.inl ⟨by rfl, ?_⟩) (by assumption) ?_
        rotate_left
        · intro w' hSw
          (try dsimp only at hSw)
          go_simp
          (try with_reducible rfl)
        simp only [Act.put, List.setIfInBounds_toArray, List.set_cons_zero, List.set_cons_succ]
        refine wpAnyH_take (i := 14) (oi := ⟨some 4, _, _, _, _, _⟩) (v := ?_) rfl (by kernel_rfl) (by kernel_rfl) (by kernel_rfl) (fun _ _ _ h => h) (Or.inl ⟨by rfl, ?_⟩) (by assumption) ?_
        rotate_left
        · intro w' hSw
          (try dsimp only at hSw)
          go_simp
          (try with_reducible rfl)
        simp only [Act.put, List.setIfInBounds_toArray, List.set_cons_zero, List.set_cons_succ]
        refine wpAnyH_done (by kernel_rfl) ?_ _
        all_goals
          go_wp2
          go_ret
          exact ⟨by (rw [HL.out]; (try simp at hkd); simp [hkd]), BW.trans ((bel_drew0 b5).mono BW.size)⟩
end
end Go.Proofs.YtamkjpfomaapgaaGreatDoor
namespace Go.Proofs.YtamkjpfomaapgaaGreatDoor
open Go Go.RowKit Go.Shelf
/-- What schema.Check tells. -/
def chkS (s : Sch) : Int := if !manS s then 90 else if !(namS s && (sptS s).all (fun x => frfS x.f.n)) then 91 else if !oncS s then 92 else if !(sptS s).all (fun x => wtyS s x.f) then 93 else if !(sptS s).all (fun x => !x.f.s || decide (edgS s x.f < 0)) then 94 else if !(sptS s).all (fun x => (x.f.i == []) || ledS s x) then 95 else 0
theorem mem_fldsSp (i : Nat) (x : Spt) : ∀ (l : List Fld) (k : Nat), x ∈ fldsSp i k l ↔ x.o = i ∧ k ≤ x.k ∧ l[x.k - k]? = some x.f
  | [], k => by simp [fldsSp]
  | f :: r, k => by
    obtain ⟨xo, xk, xf⟩ := x
    simp only [fldsSp, List.mem_cons, mem_fldsSp i ⟨xo, xk, xf⟩ r (k + 1)]
    constructor
    · rintro (h | ⟨h1, h2, h3⟩)
      · cases h
        exact ⟨rfl, Nat.le_refl _, by simp⟩
      · refine ⟨h1, by omega, ?_⟩
        have e : xk - k = (xk - (k + 1)) + 1 := by omega
        rw [e, List.getElem?_cons_succ]
        exact h3
    · rintro ⟨h1, h2, h3⟩
      by_cases hk : xk = k
      · subst hk
        simp at h3
        exact Or.inl (by rw [h1, h3])
      · refine Or.inr ⟨h1, by omega, ?_⟩
        have e : xk - k = (xk - (k + 1)) + 1 := by omega
        rw [e, List.getElem?_cons_succ] at h3
        exact h3
theorem mem_obsSp (x : Spt) : ∀ (l : List Ob) (i : Nat), x ∈ obsSp i l ↔ i ≤ x.o ∧ ∃ o, l[x.o - i]? = some o ∧ o.fs[x.k]? = some x.f
  | [], i => by simp [obsSp]
  | y :: r, i => by
    obtain ⟨xo, xk, xf⟩ := x
    simp only [obsSp, List.mem_append, mem_obsSp ⟨xo, xk, xf⟩ r (i + 1), mem_fldsSp]
    constructor
    · rintro (⟨h1, _, h3⟩ | ⟨h1, o, h2, h3⟩)
      · refine ⟨by omega, y, ?_, by simpa using h3⟩
        simp [h1]
      · refine ⟨by omega, o, ?_, h3⟩
        have e : xo - i = (xo - (i + 1)) + 1 := by omega
        rw [e, List.getElem?_cons_succ]
        exact h2
    · rintro ⟨h1, o, h2, h3⟩
      by_cases hk : xo = i
      · subst hk
        simp at h2
        subst h2
        exact Or.inl ⟨rfl, Nat.zero_le _, by simpa using h3⟩
      · have e : xo - i = (xo - (i + 1)) + 1 := by omega
        rw [e, List.getElem?_cons_succ] at h2
        exact Or.inr ⟨by omega, o, h2, h3⟩
theorem mem_spt {s : Sch} {x : Spt} : x ∈ sptS s ↔ ∃ o, s.os[x.o]? = some o ∧ o.fs[x.k]? = some x.f := by
  unfold sptS
  rw [mem_obsSp]
  simp
theorem all_spt {s : Sch} {p : Spt → Bool} : (sptS s).all p = true ↔ ∀ (i : Nat) (o : Ob) (k : Nat) (f : Fld), s.os[i]? = some o → o.fs[k]? = some f → p ⟨i, k, f⟩ = true := by
  rw [List.all_eq_true]
  constructor
  · intro h i o k f h1 h2
    exact h _ (mem_spt.2 ⟨o, h1, h2⟩)
  · rintro h ⟨i, k, f⟩ hx
    obtain ⟨o, h1, h2⟩ := mem_spt.1 hx
    exact h i o k f h1 h2
theorem all_sptF {s : Sch} {p : Fld → Bool} : (sptS s).all (fun x => p x.f) = true ↔ ∀ o ∈ s.os, ∀ f ∈ o.fs, p f = true := by
  rw [all_spt]
  constructor
  · intro h o ho f hf
    obtain ⟨i, hi⟩ := List.mem_iff_getElem?.1 ho
    obtain ⟨k, hk⟩ := List.mem_iff_getElem?.1 hf
    exact h i o k f hi hk
  · intro h i o k f h1 h2
    exact h o (List.mem_of_getElem? h1) f (List.mem_of_getElem? h2)
theorem plB_nonneg {y : Bs} {l : List Bs} : 0 ≤ plB y l ↔ y ∈ l := by
  unfold plB
  split <;> simp_all
theorem plB_neg {y : Bs} {l : List Bs} : plB y l < 0 ↔ ¬ y ∈ l := by
  rw [← plB_nonneg]
  omega
/-- Of unlike names each stands where it stands. -/
theorem plB_at {l : List Bs} (h : l.Nodup) {i : Nat} {y : Bs} (hy : l[i]? = some y) : plB y l = (i : Int) := by
  refine plB_hit hy fun j z hj hz => ?_
  rw [beq_eq_false_iff_ne]
  rintro rfl
  obtain ⟨hi, e1⟩ := List.getElem?_eq_some_iff.1 hy
  obtain ⟨hj', e2⟩ := List.getElem?_eq_some_iff.1 hz
  have := List.pairwise_iff_getElem.1 h j i hj' hi hj
  exact this (e2.trans e1.symm)
theorem uni_iff {l : List Bs} : uniB l = true ↔ l.Nodup := by
  constructor
  · intro h
    unfold uniB at h
    rw [List.all_eq_true] at h
    rw [List.Nodup, List.pairwise_iff_getElem]
    intro i j hi hj hij e
    have h1 := h j (List.mem_range.2 hj)
    simp only [decide_eq_true_eq] at h1
    have e1 : l.getD j [] = l[j] := by rw [List.getD_eq_getElem?_getD, List.getElem?_eq_getElem hj]; rfl
    rw [e1] at h1
    have hm : l[j] ∈ l := List.getElem_mem hj
    unfold plB at h1
    rw [if_pos hm] at h1
    have hlt := List.idxOf_lt_length_iff.2 hm
    have hn := List.not_of_lt_findIdx (p := (· == l[j])) (xs := l) (i := i) (by
      show i < l.idxOf l[j]
      omega)
    simp [e] at hn
  · intro h
    refine uniB_true fun i x _ hx => ?_
    rw [plB_at h hx]
    exact Int.le_refl _
/-- Does a name lead to an object? -/
def edP (s : Sch) (t : Bs) : Prop := scaS t = false ∧ ¬ t ∈ s.es.map (·.n) ∧ t ∈ s.os.map (·.n)
theorem prp_iff {s : Sch} {f : Fld} : prpS s f = true ↔ scaS f.t = true ∨ f.t ∈ s.es.map (·.n) := by
  unfold prpS enuS
  rw [Bool.or_eq_true, decide_eq_true_eq, plB_nonneg]
theorem edg_iff {s : Sch} {f : Fld} : 0 ≤ edgS s f ↔ edP s f.t := by
  unfold edgS edP
  split
  · rename_i h
    rw [prp_iff] at h
    constructor
    · intro h; exact absurd h (by decide)
    · rintro ⟨h1, h2, _⟩
      rcases h with h | h
      · simp [h] at h1
      · exact absurd h h2
  · rename_i h
    rw [prp_iff] at h
    unfold objS
    rw [plB_nonneg]
    constructor
    · intro h3
      refine ⟨?_, fun h4 => h (Or.inr h4), h3⟩
      cases e : scaS f.t
      · rfl
      · exact absurd (Or.inl e) h
    · exact fun h => h.2.2
theorem edg_at {s : Sch} {f : Fld} (h : edP s f.t) : edgS s f = objS s f.t := by
  unfold edgS
  rw [if_neg]
  rw [prp_iff]
  rintro (h1 | h1)
  · rw [h.1] at h1; cases h1
  · exact h.2.1 h1
theorem once_iff {s : Sch} : oncS s = true ↔ (s.os.map (·.n)).Nodup ∧ (s.es.map (·.n)).Nodup ∧ (∀ e ∈ s.es, ¬ e.n ∈ s.os.map (·.n)) ∧ (∀ e ∈ s.es, e.ws.Nodup) ∧ ∀ o ∈ s.os, (o.fs.map (·.n)).Nodup := by
  unfold oncS
  simp only [Bool.and_eq_true, List.all_eq_true, uni_iff, decide_eq_true_eq, objS, plB_neg]
  constructor
  · rintro ⟨⟨⟨h1, h2⟩, h3⟩, h4⟩
    exact ⟨h1, h2, fun e he => (h3 e he).1, fun e he => (h3 e he).2, h4⟩
  · rintro ⟨h1, h2, h3, h4, h5⟩
    exact ⟨⟨⟨h1, h2⟩, fun e he => ⟨h3 e he, h4 e he⟩⟩, h5⟩
theorem wty_iff {s : Sch} {f : Fld} : wtyS s f = true ↔ ((scaS f.t = true ∨ f.t ∈ s.es.map (·.n)) ∧ (f.w = [] ∨ f.w = [33])) ∨ (edP s f.t ∧ (f.w = [] ∨ f.w = [33, 91, 33])) := by
  unfold wtyS
  by_cases h : prpS s f = true
  · rw [if_pos h, ← prp_iff]
    have h2 : ¬ edP s f.t := by
      rw [← edg_iff]
      unfold edgS
      rw [if_pos h]
      decide
    simp [h, h2]
  · rw [if_neg h, ← prp_iff, ← edg_iff]
    by_cases h2 : 0 ≤ edgS s f
    · simp [h, h2]
    · simp [h, h2]
/-- The one of a name. -/
theorem obj_of {s : Sch} (h : (s.os.map (·.n)).Nodup) {i : Nat} {o : Ob} (ho : s.os[i]? = some o) : objS s o.n = (i : Int) := plB_at h (by rw [List.getElem?_map, ho]; rfl)
theorem led_iff {s : Sch} {i k : Nat} {o : Ob} {f : Fld} (h : oncS s = true) (ho : s.os[i]? = some o) (hf : o.fs[k]? = some f) (hi : f.i ≠ []) : ledS s ⟨i, k, f⟩ = true ↔ edP s f.t ∧ ∃ p ∈ s.os, p.n = f.t ∧ ∃ g ∈ p.fs, g.n = f.i ∧ edP s g.t ∧ g.t = o.n ∧ g.i = f.n := by
  obtain ⟨u1, u2, u3, u4, u5⟩ := once_iff.1 h
  have e0 : backS s i k = if edgS s f < 0 ∨ f.i = [] then -1 else match atI s.os (edgS s f) with
      | none => -1
      | some p => plB f.i (p.fs.map (·.n)) := by
    unfold backS
    simp only [atI_some ho, atI_some hf]
    (try rfl)
  constructor
  · intro hl
    by_cases hb : backS s i k < 0
    · unfold ledS at hl
      rw [if_pos hb] at hl
      cases hl
    · obtain ⟨T, A, p, g, hT, hA, hp, hg, hL⟩ := led_yes (x := ⟨i, k, f⟩) ho hf hb
      rw [hl] at hL
      have hL := hL.symm
      simp only [Bool.and_eq_true, decide_eq_true_eq, beq_iff_eq] at hL
      have hT' : edgS s f = (T : Int) := hT
      have hA' : backS s i k = (A : Int) := hA
      have ed : edP s f.t := edg_iff.1 (by omega)
      have hn : ¬ (edgS s f < 0 ∨ f.i = []) := by
        rintro (h | h)
        · omega
        · exact hi h
      rw [if_neg hn, hT', atI_some hp] at e0
      simp only at e0
      rw [hA'] at e0
      refine ⟨ed, p, List.mem_of_getElem? hp, ?_, g, List.mem_of_getElem? hg, ?_, edg_iff.1 (by omega), ?_, hL.2⟩
      · have h1 := edg_at ed
        rw [hT'] at h1
        have h2 := plB_range f.t (s.os.map (·.n))
        have h3 : plB f.t (s.os.map (·.n)) = (T : Int) := h1.symm
        rw [h3] at h2
        have h4 := h2.2.2 (by omega)
        rw [Int.toNat_natCast, List.getElem?_map, hp] at h4
        simpa using h4
      · have h2 := plB_range f.i (p.fs.map (·.n))
        rw [← e0] at h2
        have h4 := h2.2.2 (by omega)
        rw [Int.toNat_natCast, List.getElem?_map, hg] at h4
        simpa using h4
      · have eg : edP s g.t := edg_iff.1 (by omega)
        have h1 := edg_at eg
        rw [hL.1] at h1
        have h2 := plB_range g.t (s.os.map (·.n))
        have h3 : plB g.t (s.os.map (·.n)) = (i : Int) := h1.symm
        rw [h3] at h2
        have h4 := h2.2.2 (by omega)
        rw [Int.toNat_natCast, List.getElem?_map, ho] at h4
        simpa using h4.symm
  · rintro ⟨ed, p, hp, hpn, g, hg, hgn, eg, hgo, hgi⟩
    obtain ⟨T, hT⟩ := List.mem_iff_getElem?.1 hp
    obtain ⟨A, hA⟩ := List.mem_iff_getElem?.1 hg
    have h1 : edgS s f = (T : Int) := by rw [edg_at ed, ← hpn]; exact obj_of u1 hT
    have h2 : plB f.i (p.fs.map (·.n)) = (A : Int) := by
      rw [← hgn]
      exact plB_at (u5 p hp) (by rw [List.getElem?_map, hA]; rfl)
    have hn : ¬ (edgS s f < 0 ∨ f.i = []) := by
      rintro (h | h)
      · omega
      · exact hi h
    rw [if_neg hn, h1, atI_some hT] at e0
    simp only at e0
    rw [h2] at e0
    have h3 : edgS s g = (i : Int) := by rw [edg_at eg, hgo]; exact obj_of u1 ho
    unfold ledS
    rw [if_neg (by show ¬ backS s i k < 0; omega)]
    show (match atI s.os (edgS s f) with
      | none => false
      | some p => match atI p.fs (backS s i k) with
        | none => false
        | some g => decide (edgS s g = (i : Int)) && (g.i == f.n)) = true
    rw [h1, atI_some hT]
    simp only
    rw [e0, atI_some hA]
    simp [h3, hgi]
/-- A schema that may be, rule by rule. -/
structure OkD (s : Sch) : Prop where
  m : manS s = true
  no : ∀ o ∈ s.os, frtS o.n = true ∧ ∀ f ∈ o.fs, frfS f.n = true
  ne : ∀ e ∈ s.es, frtS e.n = true ∧ ∀ x ∈ e.ws, frwS x = true
  u1 : (s.os.map (·.n)).Nodup
  u2 : (s.es.map (·.n)).Nodup
  u3 : ∀ e ∈ s.es, ¬ e.n ∈ s.os.map (·.n)
  u4 : ∀ e ∈ s.es, e.ws.Nodup
  u5 : ∀ o ∈ s.os, (o.fs.map (·.n)).Nodup
  ty : ∀ o ∈ s.os, ∀ f ∈ o.fs, wtyS s f = true
  se : ∀ o ∈ s.os, ∀ f ∈ o.fs, f.s = true → ¬ edP s f.t
  le : ∀ o ∈ s.os, ∀ f ∈ o.fs, f.i ≠ [] → edP s f.t ∧ ∃ p ∈ s.os, p.n = f.t ∧ ∃ g ∈ p.fs, g.n = f.i ∧ edP s g.t ∧ g.t = o.n ∧ g.i = f.n
theorem OkD.once {s : Sch} (h : OkD s) : oncS s = true := once_iff.2 ⟨h.u1, h.u2, h.u3, h.u4, h.u5⟩
theorem nam_iff {s : Sch} : (namS s && (sptS s).all (fun x => frfS x.f.n)) = true ↔ (∀ o ∈ s.os, frtS o.n = true ∧ ∀ f ∈ o.fs, frfS f.n = true) ∧ ∀ e ∈ s.es, frtS e.n = true ∧ ∀ x ∈ e.ws, frwS x = true := by
  rw [Bool.and_eq_true, all_sptF (p := fun f => frfS f.n)]
  unfold namS
  simp only [Bool.and_eq_true, List.all_eq_true]
  constructor
  · rintro ⟨⟨h1, h2⟩, h3⟩
    exact ⟨fun o ho => ⟨h1 o ho, h3 o ho⟩, h2⟩
  · rintro ⟨h1, h2⟩
    exact ⟨⟨fun o ho => (h1 o ho).1, h2⟩, fun o ho => (h1 o ho).2⟩
theorem sea_iff {s : Sch} : (sptS s).all (fun x => !x.f.s || decide (edgS s x.f < 0)) = true ↔ ∀ o ∈ s.os, ∀ f ∈ o.fs, f.s = true → ¬ edP s f.t := by
  rw [all_sptF (p := fun f => !f.s || decide (edgS s f < 0))]
  have e : ∀ f, (!f.s || decide (edgS s f < 0)) = true ↔ (f.s = true → ¬ edP s f.t) := by
    intro f
    rw [← edg_iff]
    cases f.s <;> simp
  constructor
  · exact fun h o ho f hf => (e f).1 (h o ho f hf)
  · exact fun h o ho f hf => (e f).2 (h o ho f hf)
theorem inv_iff {s : Sch} (h : oncS s = true) : (sptS s).all (fun x => (x.f.i == []) || ledS s x) = true ↔ ∀ o ∈ s.os, ∀ f ∈ o.fs, f.i ≠ [] → edP s f.t ∧ ∃ p ∈ s.os, p.n = f.t ∧ ∃ g ∈ p.fs, g.n = f.i ∧ edP s g.t ∧ g.t = o.n ∧ g.i = f.n := by
  rw [all_spt]
  constructor
  · intro hh o ho f hf hi
    obtain ⟨i, h1⟩ := List.mem_iff_getElem?.1 ho
    obtain ⟨k, h2⟩ := List.mem_iff_getElem?.1 hf
    refine (led_iff h h1 h2 hi).1 ?_
    have h3 := hh i o k f h1 h2
    have e : (f.i == ([] : Bs)) = false := by simpa using hi
    simpa [e] using h3
  · intro hh i o k f h1 h2
    by_cases hi : f.i = []
    · simp [hi]
    · have h3 := (led_iff h h1 h2 hi).2 (hh o (List.mem_of_getElem? h1) f (List.mem_of_getElem? h2) hi)
      simp [h3]
theorem chk_ok {s : Sch} : chkS s = 0 ↔ OkD s := by
  constructor
  · intro h
    unfold chkS at h
    split at h
    · cases h
    split at h
    · cases h
    split at h
    · cases h
    split at h
    · cases h
    split at h
    · cases h
    split at h
    · cases h
    rename_i h1 h2 h3 h4 h5 h6
    simp only [Bool.not_eq_true', Bool.not_eq_false] at h1 h2 h3 h4 h5 h6
    have hn := nam_iff.1 h2
    have hu := once_iff.1 h3
    exact ⟨h1, hn.1, hn.2, hu.1, hu.2.1, hu.2.2.1, hu.2.2.2.1, hu.2.2.2.2, all_sptF.1 h4, sea_iff.1 h5, (inv_iff h3).1 h6⟩
  · intro h
    have h2 := nam_iff.2 ⟨h.no, h.ne⟩
    have h4 := (all_sptF (p := fun f => wtyS s f)).2 h.ty
    have h5 := sea_iff.2 h.se
    have h6 := (inv_iff h.once).2 h.le
    unfold chkS
    simp only [h.m, h2, h.once, h4, h5, h6, Bool.not_true, Bool.false_eq_true, if_false]
theorem chk_cases (s : Sch) : chkS s = 90 ∨ chkS s = 91 ∨ chkS s = 92 ∨ chkS s = 93 ∨ chkS s = 94 ∨ chkS s = 95 ∨ chkS s = 0 := by
  unfold chkS
  split
  · simp
  split
  · simp
  split
  · simp
  split
  · simp
  split
  · simp
  split <;> simp
/-- Rules 1 to 3 hold. -/
theorem chk_low {s : Sch} : (chkS s = 90 ∨ chkS s = 91 ∨ chkS s = 92) ↔ ¬ (manS s = true ∧ ((∀ o ∈ s.os, frtS o.n = true ∧ ∀ f ∈ o.fs, frfS f.n = true) ∧ ∀ e ∈ s.es, frtS e.n = true ∧ ∀ x ∈ e.ws, frwS x = true) ∧ oncS s = true) := by
  rw [← nam_iff]
  unfold chkS
  by_cases h1 : manS s = true
  · by_cases h2 : (namS s && (sptS s).all (fun x => frfS x.f.n)) = true
    · by_cases h3 : oncS s = true
      · simp only [h1, h2, h3, Bool.not_true, Bool.false_eq_true, if_false]
        refine ⟨fun h => ?_, fun h => absurd ⟨trivial, trivial, trivial⟩ h⟩
        exfalso
        revert h
        split
        · simp
        split
        · simp
        split <;> simp
      · have h3' : oncS s = false := by simpa using h3
        simp only [h1, h2, h3', Bool.not_true, Bool.not_false, Bool.false_eq_true, if_false, if_true]
        simp
    · have h2' : (namS s && (sptS s).all (fun x => frfS x.f.n)) = false := by simpa using h2
      simp only [h1, h2', Bool.not_true, Bool.not_false, Bool.false_eq_true, if_false, if_true]
      simp
  · have h1' : manS s = false := by simpa using h1
    simp only [h1', Bool.not_false, if_true]
    simp
section back
variable {s : Sch} (h : OkD s) {i k : Nat} {o : Ob} {f : Fld} (ho : s.os[i]? = some o) (hf : o.fs[k]? = some f)
include h ho hf
theorem ok_prop : prpS s f = decide (edgS s f < 0) := by
  have ht := h.ty o (List.mem_of_getElem? ho) f (List.mem_of_getElem? hf)
  cases e : prpS s f with
  | true =>
    unfold edgS
    rw [if_pos e]
    rfl
  | false =>
    unfold wtyS at ht
    rw [e] at ht
    simp only [Bool.false_eq_true, if_false] at ht
    split at ht
    · symm
      rw [decide_eq_false_iff_not]
      omega
    · cases ht
omit h in
theorem back_at : backS s i k = if edgS s f < 0 ∨ f.i = [] then -1 else match atI s.os (edgS s f) with
      | none => -1
      | some p => plB f.i (p.fs.map (·.n)) := by
  unfold backS
  simp only [atI_some ho, atI_some hf]
  (try rfl)
omit h in
theorem ok_back0 (hi : f.i = []) : backS s i k = -1 := by
  rw [back_at ho hf, if_pos (Or.inr hi)]
theorem ok_back (hi : f.i ≠ []) (hne : ∀ x, frfS x = true → x ≠ []) : ∃ T A : Nat, edgS s f = (T : Int) ∧ backS s i k = (A : Int) ∧ backS s T A = (k : Int) ∧ prpS s f = false := by
  obtain ⟨ed, p, hp, hpn, g, hg, hgn, eg, hgo, hgi⟩ := h.le o (List.mem_of_getElem? ho) f (List.mem_of_getElem? hf) hi
  obtain ⟨T, hT⟩ := List.mem_iff_getElem?.1 hp
  obtain ⟨A, hA⟩ := List.mem_iff_getElem?.1 hg
  have h1 : edgS s f = (T : Int) := by rw [edg_at ed, ← hpn]; exact obj_of h.u1 hT
  have h2 : plB f.i (p.fs.map (·.n)) = (A : Int) := by
    rw [← hgn]
    exact plB_at (h.u5 p hp) (by rw [List.getElem?_map, hA]; rfl)
  have h3 : edgS s g = (i : Int) := by rw [edg_at eg, hgo]; exact obj_of h.u1 ho
  have h4 : plB g.i (o.fs.map (·.n)) = (k : Int) := by
    rw [hgi]
    exact plB_at (h.u5 o (List.mem_of_getElem? ho)) (by rw [List.getElem?_map, hf]; rfl)
  have hn : ¬ (edgS s f < 0 ∨ f.i = []) := by
    rintro (q | q)
    · omega
    · exact hi q
  have hgn0 : g.i ≠ [] := by
    rw [hgi]
    exact hne _ ((h.no o (List.mem_of_getElem? ho)).2 f (List.mem_of_getElem? hf))
  have hn2 : ¬ (edgS s g < 0 ∨ g.i = []) := by
    rintro (q | q)
    · omega
    · exact hgn0 q
  refine ⟨T, A, h1, ?_, ?_, ?_⟩
  · rw [back_at ho hf, if_neg hn, h1, atI_some hT]
    exact h2
  · rw [back_at hT hA, if_neg hn2, h3, atI_some ho]
    exact h4
  · rw [ok_prop h ho hf, h1]
    simp
end back
theorem chk90 {s : Sch} (h1 : manS s = false) : chkS s = 90 := by
  unfold chkS
  simp [h1]
theorem chk91 {s : Sch} (h1 : manS s = true) (h2 : (namS s && (sptS s).all (fun x => frfS x.f.n)) = false) : chkS s = 91 := by
  unfold chkS
  simp only [h1, h2, Bool.not_true, Bool.not_false, Bool.false_eq_true, if_false, if_true]
theorem chk92 {s : Sch} (h1 : manS s = true) (h2 : (namS s && (sptS s).all (fun x => frfS x.f.n)) = true) (h3 : oncS s = false) : chkS s = 92 := by
  unfold chkS
  simp only [h1, h2, h3, Bool.not_true, Bool.not_false, Bool.false_eq_true, if_false, if_true]
theorem chk93 {s : Sch} (h1 : manS s = true) (h2 : (namS s && (sptS s).all (fun x => frfS x.f.n)) = true) (h3 : oncS s = true) (h4 : (sptS s).all (fun x => wtyS s x.f) = false) : chkS s = 93 := by
  unfold chkS
  simp only [h1, h2, h3, h4, Bool.not_true, Bool.not_false, Bool.false_eq_true, if_false, if_true]
theorem man_iff {s : Sch} : manS s = true ↔ (1 ≤ s.os.length ∧ s.os.length ≤ 8) ∧ s.es.length ≤ 8 ∧ (∀ o ∈ s.os, 1 ≤ o.fs.length ∧ o.fs.length ≤ 12) ∧ ∀ e ∈ s.es, 1 ≤ e.ws.length ∧ e.ws.length ≤ 16 := by
  unfold manS betS
  simp only [Bool.and_eq_true, List.all_eq_true, decide_eq_true_eq]
  constructor
  · rintro ⟨⟨⟨⟨h1, h2⟩, h3⟩, h4⟩, h5⟩
    exact ⟨⟨by omega, by omega⟩, by omega, fun o ho => ⟨by have := h4 o ho; omega, by have := h4 o ho; omega⟩, fun e he => ⟨by have := h5 e he; omega, by have := h5 e he; omega⟩⟩
  · rintro ⟨⟨h1, h2⟩, h3, h4, h5⟩
    exact ⟨⟨⟨⟨by omega, by omega⟩, by omega⟩, fun o ho => ⟨by have := h4 o ho; omega, by have := h4 o ho; omega⟩⟩, fun e he => ⟨by have := h5 e he; omega, by have := h5 e he; omega⟩⟩
/-- An object of one property. -/
abbrev oneO (n : Bs) : Ob := ⟨n, [⟨[120], [73, 110, 116], [], false, []⟩]⟩
abbrev moreS (s : Sch) (n : Bs) : Sch := ⟨s.os ++ [oneO n], s.es⟩
theorem sca_int : scaS [73, 110, 116] = true := rfl
section more
variable (hx : frfS [120] = true)
include hx
theorem alone_ok {n : Bs} (h : frtS n = true) : chkS ⟨[oneO n], []⟩ = 0 := by
  rw [chk_ok]
  refine ⟨?_, ?_, ?_, ?_, ?_, ?_, ?_, ?_, ?_, ?_, ?_⟩
  · rw [man_iff]; simp
  · intro o ho
    rw [List.mem_singleton] at ho
    subst ho
    exact ⟨h, fun f hf => by rw [List.mem_singleton] at hf; subst hf; exact hx⟩
  · intro e he; simp at he
  · simp
  · simp
  · intro e he; simp at he
  · intro e he; simp at he
  · intro o ho
    rw [List.mem_singleton] at ho
    subst ho
    simp
  · intro o ho f hf
    rw [List.mem_singleton] at ho
    subst ho
    rw [List.mem_singleton] at hf
    subst hf
    exact wty_iff.2 (Or.inl ⟨Or.inl sca_int, Or.inl rfl⟩)
  · intro o ho f hf
    rw [List.mem_singleton] at ho
    subst ho
    rw [List.mem_singleton] at hf
    subst hf
    intro h; cases h
  · intro o ho f hf
    rw [List.mem_singleton] at ho
    subst ho
    rw [List.mem_singleton] at hf
    subst hf
    intro h; exact absurd rfl h
omit hx in
theorem alone_no {n : Bs} (h : frtS n = false) : chkS ⟨[oneO n], []⟩ = 91 := by
  refine chk91 (by rw [man_iff]; simp) ?_
  rw [← Bool.not_eq_true, nam_iff]
  rintro ⟨h1, _⟩
  have := (h1 (oneO n) (by simp)).1
  rw [show (oneO n).n = n from rfl, h] at this
  cases this
omit hx in
theorem more90 {s : Sch} {n : Bs} (h8 : 8 ≤ s.os.length) : chkS (moreS s n) = 90 := by
  refine chk90 ?_
  rw [← Bool.not_eq_true, man_iff]
  rintro ⟨⟨_, h⟩, _⟩
  rw [List.length_append] at h
  simp at h
  omega
omit hx in
theorem more_man {s : Sch} {n : Bs} (h : OkD s) (h8 : s.os.length < 8) : manS (moreS s n) = true := by
  obtain ⟨h1, h2, h3, h4⟩ := man_iff.1 h.m
  rw [man_iff]
  refine ⟨⟨by simp, by simp; omega⟩, h2, fun o ho => ?_, h4⟩
  rcases List.mem_append.1 ho with ho | ho
  · exact h3 o ho
  · rw [List.mem_singleton] at ho
    subst ho
    simp
omit hx in
theorem more91 {s : Sch} {n : Bs} (h : OkD s) (h8 : s.os.length < 8) (hn : frtS n = false) : chkS (moreS s n) = 91 := by
  refine chk91 (more_man h h8) ?_
  rw [← Bool.not_eq_true, nam_iff]
  rintro ⟨h1, _⟩
  have := (h1 (oneO n) (by simp)).1
  rw [show (oneO n).n = n from rfl, hn] at this
  cases this
theorem more_nam {s : Sch} {n : Bs} (h : OkD s) (hn : frtS n = true) : (∀ o ∈ (moreS s n).os, frtS o.n = true ∧ ∀ f ∈ o.fs, frfS f.n = true) ∧ ∀ e ∈ (moreS s n).es, frtS e.n = true ∧ ∀ x ∈ e.ws, frwS x = true := by
  refine ⟨fun o ho => ?_, h.ne⟩
  rcases List.mem_append.1 ho with ho | ho
  · exact h.no o ho
  · rw [List.mem_singleton] at ho
    subst ho
    exact ⟨hn, fun f hf => by rw [List.mem_singleton] at hf; subst hf; exact hx⟩
theorem more92 {s : Sch} {n : Bs} (h : OkD s) (h8 : s.os.length < 8) (hn : frtS n = true) (hm : n ∈ s.os.map (·.n) ∨ n ∈ s.es.map (·.n)) : chkS (moreS s n) = 92 := by
  refine chk92 (more_man h h8) (nam_iff.2 (more_nam hx h hn)) ?_
  rw [← Bool.not_eq_true, once_iff]
  rintro ⟨h1, _, h3, _⟩
  rcases hm with hm | hm
  · rw [List.map_append, List.nodup_append] at h1
    exact h1.2.2 n hm n (by simp) rfl
  · obtain ⟨e, he, hen⟩ := List.mem_map.1 hm
    exact h3 e he (by rw [hen]; simp)
theorem more0 {s : Sch} {n : Bs} (h : OkD s) (h8 : s.os.length < 8) (hn : frtS n = true) (h1 : ¬ n ∈ s.os.map (·.n)) (h2 : ¬ n ∈ s.es.map (·.n)) : chkS (moreS s n) = 0 := by
  have hN := more_nam hx h hn
  have ed : ∀ {t : Bs}, edP s t → edP (moreS s n) t := fun ⟨a, b, c⟩ => ⟨a, b, by rw [List.map_append]; exact List.mem_append_left _ c⟩
  have one : ∀ {o : Ob} {f : Fld}, o ∈ (moreS s n).os → f ∈ o.fs → (o ∈ s.os) ∨ f = ⟨[120], [73, 110, 116], [], false, []⟩ := by
    intro o f ho hf
    rcases List.mem_append.1 ho with ho | ho
    · exact Or.inl ho
    · rw [List.mem_singleton] at ho
      subst ho
      rw [List.mem_singleton] at hf
      exact Or.inr hf
  rw [chk_ok]
  refine ⟨more_man h h8, hN.1, hN.2, ?_, h.u2, ?_, h.u4, ?_, ?_, ?_, ?_⟩
  · rw [List.map_append, List.nodup_append]
    refine ⟨h.u1, by simp, fun a ha b hb e => ?_⟩
    simp at hb
    subst hb
    subst e
    exact h1 ha
  · intro e he hm
    rw [List.map_append] at hm
    rcases List.mem_append.1 hm with hm | hm
    · exact h.u3 e he hm
    · simp at hm
      exact h2 (List.mem_map.2 ⟨e, he, hm⟩)
  · intro o ho
    rcases List.mem_append.1 ho with ho | ho
    · exact h.u5 o ho
    · rw [List.mem_singleton] at ho
      subst ho
      simp
  · intro o ho f hf
    rcases one ho hf with q | q
    · rcases wty_iff.1 (h.ty o q f hf) with g | g
      · exact wty_iff.2 (Or.inl g)
      · exact wty_iff.2 (Or.inr ⟨ed g.1, g.2⟩)
    · subst q
      exact wty_iff.2 (Or.inl ⟨Or.inl sca_int, Or.inl rfl⟩)
  · intro o ho f hf hs
    rcases one ho hf with q | q
    · have h3 := h.se o q f hf hs
      rcases wty_iff.1 (h.ty o q f hf) with g | g
      · rintro ⟨a, b, _⟩
        rcases g.1 with g | g
        · rw [a] at g; cases g
        · exact b g
      · exact absurd g.1 h3
    · subst q; cases hs
  · intro o ho f hf hi
    rcases one ho hf with q | q
    · obtain ⟨a, p, hp, e1, g, hg, e2, e3, e4, e5⟩ := h.le o q f hf hi
      exact ⟨ed a, p, List.mem_append_left _ hp, e1, g, hg, e2, ed e3, e4, e5⟩
    · subst q; exact absurd rfl hi
end more
end Go.Proofs.YtamkjpfomaapgaaGreatDoor
namespace Go.Proofs.YtamkjpfomaapgaaGreatDoor
open Go Go.RowKit Go.Shelf
section
variable {w : World} {ov ev : Value} {s : Sch}
set_option maxRecDepth 100000 in
theorem hcheck4_any (x : Spt) (P : Nat) (hx : x ∈ sptS s) (h : SchAt w ov ev s) (h0 : w.cell? ⟨P, 0, none⟩ = some ov) (h1 : w.cell? ⟨P, 1, none⟩ = some ev) : Calls Tryz.prog 49 (#[sptV x] ++ #[.pointer (some ⟨P, 0, none⟩)]) w fun e w' => e = .returned (.bool ((x.f.i == []) || ledS s x)) ∧ Below w.heap.size w w' := by
  obtain ⟨o, hx1, hx2⟩ := mem_spt.1 hx
  have FT := fun o' => hledBack_any (h.on (al1 w o')) x o hx1 hx2
  obtain ⟨a, c, rfl, _, _⟩ := h.os.slice
  obtain ⟨a', c', rfl, _, _⟩ := h.es.slice
  have g0 := fun o => cell_on (al1 w o) h0
  have g1 := fun o => cell_on (al1 w o) h1
  clear hx hx1 hx2
  show Calls Tryz.prog 49 #[sptV x, .pointer (some ⟨P, 0, none⟩)] w _
  obtain ⟨xo, xk, fn, ft, fw, fs, fi⟩ := x
  simp only at *
  generalize ledS s ⟨xo, xk, fn, ft, fw, fs, fi⟩ = k at *
  cases hi : (fi == []) with
  | true =>
    go_enter Tryz.func49, Tryz.ntmps49
    go_wp2
    go_ret
    exact ⟨by simp, al1 w _⟩
  | false =>
    go_enter Tryz.func49, Tryz.ntmps49
    go_wp2_with (first
      | (go_at_call 50; (with_reducible refine (FT _).mono ?_); rintro e w2 ⟨rfl, b2⟩)
      | fail)
    go_ret
    exact ⟨by simp, (al1 w _).trans (b2.mono (al1 w _).size)⟩
set_option maxRecDepth 100000 in
set_option maxHeartbeats 8000000 in
theorem hcheck_any (h : SchAt w ov ev s) (gl : Gl w) : Calls Tryz.prog 17 #[.agg #[ov, ev]] w fun e w' => e = .returned (.int .i64 (chkS s)) ∧ Below w.heap.size w w' := by
  have hm8 : manS s = true → s.os.length ≤ 8 ∧ ∀ x ∈ s.os, x.fs.length ≤ 12 := fun hm => by
    have q := man_iff.1 hm
    exact ⟨q.1.2, fun x hx => (q.2.2.1 x hx).2⟩
  have hh := h
  have hmf := Tryz.makeFn
  obtain ⟨a, c, rfl, _, _⟩ := h.os.slice
  obtain ⟨a', c', rfl, _, _⟩ := h.es.slice
  obtain ⟨w0, hw0⟩ : ∃ w0, w0 = w.alloc (.cells #[.slice a s.os.length c, .slice a' s.es.length c'] 25) := ⟨_, rfl⟩
  have A0 : Below w.heap.size w w0 := by rw [hw0]; exact al1 w _
  have Z0 : w0.heap.size = w.heap.size + 1 := by rw [hw0, World.size_alloc]
  have HZ : ∀ {W : World}, Below w0.heap.size w0 W → Below w.heap.size w W := fun b => A0.trans (b.mono A0.size)
  have r0 : w0.cell? ⟨w.heap.size, 0, none⟩ = some (.slice a s.os.length c) := by rw [hw0]; exact (row2 (heap_alloc_new w _)).1
  have r1 : w0.cell? ⟨w.heap.size, 1, none⟩ = some (.slice a' s.es.length c') := by rw [hw0]; exact (row2 (heap_alloc_new w _)).2.1
  have M1 := fun o => hmany_any (hh.on (al1 w o))
  have M2 := fun (hm : manS s = true) W (b : Below w0.heap.size w0 W) => hspots_any (hh.on (HZ b)) (hm8 hm).1 (hm8 hm).2
  have M3 := fun W (b : Below w0.heap.size w0 W) => hwellNamed_any (hh.on (HZ b)) (gl.below (HZ b) (Nat.le_refl _))
  have M4 := fun (v : Value) W (b : Below w0.heap.size w0 W) (hv : SptsAt W v (sptS s)) => every_spot 42 #[] (fun x => frfS x.f.n) W hv (fun _ _ => rfl) (fun x W2 _ b2 => hcheck1_any x W2 ((gl.below (HZ b) (Nat.le_refl _)).below b2 (Nat.le_refl _)))
  have M5 := fun W (b : Below w0.heap.size w0 W) => hnamedOnce_any (hh.on (HZ b))
  have M6 := fun (v : Value) W (b : Below w0.heap.size w0 W) (hv : SptsAt W v (sptS s)) => every_spot 45 #[.pointer (some ⟨w.heap.size, 0, none⟩)] (fun x => wtyS s x.f) W hv (fun _ _ => rfl) (fun x W2 _ b2 => hcheck2_any x w.heap.size ((hh.on (HZ b)).on b2) (cell_on b2 (cell_on b r0)) (cell_on b2 (cell_on b r1)))
  have M7 := fun (v : Value) W (b : Below w0.heap.size w0 W) (hv : SptsAt W v (sptS s)) => every_spot 47 #[.pointer (some ⟨w.heap.size, 0, none⟩)] (fun x => !x.f.s || decide (edgS s x.f < 0)) W hv (fun _ _ => rfl) (fun x W2 _ b2 => hcheck3_any x w.heap.size ((hh.on (HZ b)).on b2) (cell_on b2 (cell_on b r0)) (cell_on b2 (cell_on b r1)))
  have M8 := fun (v : Value) W (b : Below w0.heap.size w0 W) (hv : SptsAt W v (sptS s)) => every_spot 49 #[.pointer (some ⟨w.heap.size, 0, none⟩)] (fun x => (x.f.i == []) || ledS s x) W hv (fun _ _ => rfl) (fun x W2 hx b2 => hcheck4_any x w.heap.size hx ((hh.on (HZ b)).on b2) (cell_on b2 (cell_on b r0)) (cell_on b2 (cell_on b r1)))
  have HW : Hid (w0 = w.alloc (.cells #[.slice a s.os.length c, .slice a' s.es.length c'] 25)) := hw0
  clear hw0 Z0
  unfold chkS
  clear hm8 h
  generalize manS s = k1 at *
  generalize namS s = k2 at *
  generalize (sptS s).all (fun x => frfS x.f.n) = k3 at *
  generalize oncS s = k4 at *
  generalize (sptS s).all (fun x => wtyS s x.f) = k5 at *
  generalize (sptS s).all (fun x => !x.f.s || decide (edgS s x.f < 0)) = k6 at *
  generalize (sptS s).all (fun x => (x.f.i == []) || ledS s x) = k7 at *
  cases k1 with
  | false =>
    go_enter Tryz.func17, Tryz.ntmps17
    go_wp2_with (first
      | (go_at_call 38; (with_reducible refine (M1 _).mono ?_); rintro e w1 ⟨rfl, b1⟩; have D1 : Below w0.heap.size w0 w1 := (by rw [HW.out]; exact b1); have p1 := cell_on D1 r0; have q1 := cell_on D1 r1)
      | fail)
    go_ret
    exact ⟨by simp, HZ D1⟩
  | true =>
    cases k2 with
    | false =>
      go_enter Tryz.func17, Tryz.ntmps17
      go_wp2_with (first
        | (go_at_call 40; (with_reducible refine (M3 _ D2).mono ?_); rintro e w3 ⟨rfl, b3⟩; have D3 := D2.trans (b3.mono D2.size); have p3 := cell_on D3 r0; have q3 := cell_on D3 r1; have hv3 := SptsAt.on b3 hv2)
        | (go_at_call 39; (with_reducible refine (M2 (by trivial) _ D1).mono ?_); rintro e w2 ⟨v, rfl, hv2, b2⟩; have D2 := D1.trans (b2.mono D1.size); have p2 := cell_on D2 r0; have q2 := cell_on D2 r1)
        | (go_at_call 38; (with_reducible refine (M1 _).mono ?_); rintro e w1 ⟨rfl, b1⟩; have D1 : Below w0.heap.size w0 w1 := (by rw [HW.out]; exact b1); have p1 := cell_on D1 r0; have q1 := cell_on D1 r1)
        | fail)
      go_ret
      exact ⟨by simp, HZ D3⟩
    | true =>
      cases k3 with
      | false =>
        go_enter Tryz.func17, Tryz.ntmps17
        go_wp2_with (first
          | (go_at_call 41; (with_reducible refine (M4 v _ D3 hv3).mono ?_); rintro e w4 ⟨rfl, b4⟩; have D4 := D3.trans (b4.mono D3.size); have p4 := cell_on D4 r0; have q4 := cell_on D4 r1; have hv4 := SptsAt.on b4 hv3)
          | (go_at_call 40; (with_reducible refine (M3 _ D2).mono ?_); rintro e w3 ⟨rfl, b3⟩; have D3 := D2.trans (b3.mono D2.size); have p3 := cell_on D3 r0; have q3 := cell_on D3 r1; have hv3 := SptsAt.on b3 hv2)
          | (go_at_call 39; (with_reducible refine (M2 (by trivial) _ D1).mono ?_); rintro e w2 ⟨v, rfl, hv2, b2⟩; have D2 := D1.trans (b2.mono D1.size); have p2 := cell_on D2 r0; have q2 := cell_on D2 r1)
          | (go_at_call 38; (with_reducible refine (M1 _).mono ?_); rintro e w1 ⟨rfl, b1⟩; have D1 : Below w0.heap.size w0 w1 := (by rw [HW.out]; exact b1); have p1 := cell_on D1 r0; have q1 := cell_on D1 r1)
          | fail)
        go_ret
        exact ⟨by simp, HZ D4⟩
      | true =>
        cases k4 with
        | false =>
          go_enter Tryz.func17, Tryz.ntmps17
          go_wp2_with (first
            | (go_at_call 44; (with_reducible refine (M5 _ D4).mono ?_); rintro e w5 ⟨rfl, b5⟩; have D5 := D4.trans (b5.mono D4.size); have p5 := cell_on D5 r0; have q5 := cell_on D5 r1; have hv5 := SptsAt.on b5 hv4)
            | (go_at_call 41; (with_reducible refine (M4 v _ D3 hv3).mono ?_); rintro e w4 ⟨rfl, b4⟩; have D4 := D3.trans (b4.mono D3.size); have p4 := cell_on D4 r0; have q4 := cell_on D4 r1; have hv4 := SptsAt.on b4 hv3)
            | (go_at_call 40; (with_reducible refine (M3 _ D2).mono ?_); rintro e w3 ⟨rfl, b3⟩; have D3 := D2.trans (b3.mono D2.size); have p3 := cell_on D3 r0; have q3 := cell_on D3 r1; have hv3 := SptsAt.on b3 hv2)
            | (go_at_call 39; (with_reducible refine (M2 (by trivial) _ D1).mono ?_); rintro e w2 ⟨v, rfl, hv2, b2⟩; have D2 := D1.trans (b2.mono D1.size); have p2 := cell_on D2 r0; have q2 := cell_on D2 r1)
            | (go_at_call 38; (with_reducible refine (M1 _).mono ?_); rintro e w1 ⟨rfl, b1⟩; have D1 : Below w0.heap.size w0 w1 := (by rw [HW.out]; exact b1); have p1 := cell_on D1 r0; have q1 := cell_on D1 r1)
            | fail)
          go_ret
          exact ⟨by simp, HZ D5⟩
        | true =>
          cases k5 with
          | false =>
            go_enter Tryz.func17, Tryz.ntmps17
            go_wp2_with (first
              | (go_at_call 41; (with_reducible refine (M6 v _ D5 hv5).mono ?_); rintro e w6 ⟨rfl, b6⟩; have D6 := D5.trans (b6.mono D5.size); have p6 := cell_on D6 r0; have q6 := cell_on D6 r1; have hv6 := SptsAt.on b6 hv5)
              | (go_at_call 44; (with_reducible refine (M5 _ D4).mono ?_); rintro e w5 ⟨rfl, b5⟩; have D5 := D4.trans (b5.mono D4.size); have p5 := cell_on D5 r0; have q5 := cell_on D5 r1; have hv5 := SptsAt.on b5 hv4)
              | (go_at_call 41; (with_reducible refine (M4 v _ D3 hv3).mono ?_); rintro e w4 ⟨rfl, b4⟩; have D4 := D3.trans (b4.mono D3.size); have p4 := cell_on D4 r0; have q4 := cell_on D4 r1; have hv4 := SptsAt.on b4 hv3)
              | (go_at_call 40; (with_reducible refine (M3 _ D2).mono ?_); rintro e w3 ⟨rfl, b3⟩; have D3 := D2.trans (b3.mono D2.size); have p3 := cell_on D3 r0; have q3 := cell_on D3 r1; have hv3 := SptsAt.on b3 hv2)
              | (go_at_call 39; (with_reducible refine (M2 (by trivial) _ D1).mono ?_); rintro e w2 ⟨v, rfl, hv2, b2⟩; have D2 := D1.trans (b2.mono D1.size); have p2 := cell_on D2 r0; have q2 := cell_on D2 r1)
              | (go_at_call 38; (with_reducible refine (M1 _).mono ?_); rintro e w1 ⟨rfl, b1⟩; have D1 : Below w0.heap.size w0 w1 := (by rw [HW.out]; exact b1); have p1 := cell_on D1 r0; have q1 := cell_on D1 r1)
              | fail)
            go_ret
            exact ⟨by simp, HZ D6⟩
          | true =>
            cases k6 with
            | false =>
              go_enter Tryz.func17, Tryz.ntmps17
              go_wp2_with (first
                | (go_at_call 41; (with_reducible refine (M7 v _ D6 hv6).mono ?_); rintro e w7 ⟨rfl, b7⟩; have D7 := D6.trans (b7.mono D6.size); have p7 := cell_on D7 r0; have q7 := cell_on D7 r1; have hv7 := SptsAt.on b7 hv6)
                | (go_at_call 41; (with_reducible refine (M6 v _ D5 hv5).mono ?_); rintro e w6 ⟨rfl, b6⟩; have D6 := D5.trans (b6.mono D5.size); have p6 := cell_on D6 r0; have q6 := cell_on D6 r1; have hv6 := SptsAt.on b6 hv5)
                | (go_at_call 44; (with_reducible refine (M5 _ D4).mono ?_); rintro e w5 ⟨rfl, b5⟩; have D5 := D4.trans (b5.mono D4.size); have p5 := cell_on D5 r0; have q5 := cell_on D5 r1; have hv5 := SptsAt.on b5 hv4)
                | (go_at_call 41; (with_reducible refine (M4 v _ D3 hv3).mono ?_); rintro e w4 ⟨rfl, b4⟩; have D4 := D3.trans (b4.mono D3.size); have p4 := cell_on D4 r0; have q4 := cell_on D4 r1; have hv4 := SptsAt.on b4 hv3)
                | (go_at_call 40; (with_reducible refine (M3 _ D2).mono ?_); rintro e w3 ⟨rfl, b3⟩; have D3 := D2.trans (b3.mono D2.size); have p3 := cell_on D3 r0; have q3 := cell_on D3 r1; have hv3 := SptsAt.on b3 hv2)
                | (go_at_call 39; (with_reducible refine (M2 (by trivial) _ D1).mono ?_); rintro e w2 ⟨v, rfl, hv2, b2⟩; have D2 := D1.trans (b2.mono D1.size); have p2 := cell_on D2 r0; have q2 := cell_on D2 r1)
                | (go_at_call 38; (with_reducible refine (M1 _).mono ?_); rintro e w1 ⟨rfl, b1⟩; have D1 : Below w0.heap.size w0 w1 := (by rw [HW.out]; exact b1); have p1 := cell_on D1 r0; have q1 := cell_on D1 r1)
                | fail)
              go_ret
              exact ⟨by simp, HZ D7⟩
            | true =>
              cases k7 with
              | false =>
                go_enter Tryz.func17, Tryz.ntmps17
                go_wp2_with (first
                  | (go_at_call 41; (with_reducible refine (M8 v _ D7 hv7).mono ?_); rintro e w8 ⟨rfl, b8⟩; have D8 := D7.trans (b8.mono D7.size); have p8 := cell_on D8 r0; have q8 := cell_on D8 r1; have hv8 := SptsAt.on b8 hv7)
                  | (go_at_call 41; (with_reducible refine (M7 v _ D6 hv6).mono ?_); rintro e w7 ⟨rfl, b7⟩; have D7 := D6.trans (b7.mono D6.size); have p7 := cell_on D7 r0; have q7 := cell_on D7 r1; have hv7 := SptsAt.on b7 hv6)
                  | (go_at_call 41; (with_reducible refine (M6 v _ D5 hv5).mono ?_); rintro e w6 ⟨rfl, b6⟩; have D6 := D5.trans (b6.mono D5.size); have p6 := cell_on D6 r0; have q6 := cell_on D6 r1; have hv6 := SptsAt.on b6 hv5)
                  | (go_at_call 44; (with_reducible refine (M5 _ D4).mono ?_); rintro e w5 ⟨rfl, b5⟩; have D5 := D4.trans (b5.mono D4.size); have p5 := cell_on D5 r0; have q5 := cell_on D5 r1; have hv5 := SptsAt.on b5 hv4)
                  | (go_at_call 41; (with_reducible refine (M4 v _ D3 hv3).mono ?_); rintro e w4 ⟨rfl, b4⟩; have D4 := D3.trans (b4.mono D3.size); have p4 := cell_on D4 r0; have q4 := cell_on D4 r1; have hv4 := SptsAt.on b4 hv3)
                  | (go_at_call 40; (with_reducible refine (M3 _ D2).mono ?_); rintro e w3 ⟨rfl, b3⟩; have D3 := D2.trans (b3.mono D2.size); have p3 := cell_on D3 r0; have q3 := cell_on D3 r1; have hv3 := SptsAt.on b3 hv2)
                  | (go_at_call 39; (with_reducible refine (M2 (by trivial) _ D1).mono ?_); rintro e w2 ⟨v, rfl, hv2, b2⟩; have D2 := D1.trans (b2.mono D1.size); have p2 := cell_on D2 r0; have q2 := cell_on D2 r1)
                  | (go_at_call 38; (with_reducible refine (M1 _).mono ?_); rintro e w1 ⟨rfl, b1⟩; have D1 : Below w0.heap.size w0 w1 := (by rw [HW.out]; exact b1); have p1 := cell_on D1 r0; have q1 := cell_on D1 r1)
                  | fail)
                go_ret
                exact ⟨by simp, HZ D8⟩
              | true =>
                go_enter Tryz.func17, Tryz.ntmps17
                go_wp2_with (first
                  | (go_at_call 41; (with_reducible refine (M8 v _ D7 hv7).mono ?_); rintro e w8 ⟨rfl, b8⟩; have D8 := D7.trans (b8.mono D7.size); have p8 := cell_on D8 r0; have q8 := cell_on D8 r1; have hv8 := SptsAt.on b8 hv7)
                  | (go_at_call 41; (with_reducible refine (M7 v _ D6 hv6).mono ?_); rintro e w7 ⟨rfl, b7⟩; have D7 := D6.trans (b7.mono D6.size); have p7 := cell_on D7 r0; have q7 := cell_on D7 r1; have hv7 := SptsAt.on b7 hv6)
                  | (go_at_call 41; (with_reducible refine (M6 v _ D5 hv5).mono ?_); rintro e w6 ⟨rfl, b6⟩; have D6 := D5.trans (b6.mono D5.size); have p6 := cell_on D6 r0; have q6 := cell_on D6 r1; have hv6 := SptsAt.on b6 hv5)
                  | (go_at_call 44; (with_reducible refine (M5 _ D4).mono ?_); rintro e w5 ⟨rfl, b5⟩; have D5 := D4.trans (b5.mono D4.size); have p5 := cell_on D5 r0; have q5 := cell_on D5 r1; have hv5 := SptsAt.on b5 hv4)
                  | (go_at_call 41; (with_reducible refine (M4 v _ D3 hv3).mono ?_); rintro e w4 ⟨rfl, b4⟩; have D4 := D3.trans (b4.mono D3.size); have p4 := cell_on D4 r0; have q4 := cell_on D4 r1; have hv4 := SptsAt.on b4 hv3)
                  | (go_at_call 40; (with_reducible refine (M3 _ D2).mono ?_); rintro e w3 ⟨rfl, b3⟩; have D3 := D2.trans (b3.mono D2.size); have p3 := cell_on D3 r0; have q3 := cell_on D3 r1; have hv3 := SptsAt.on b3 hv2)
                  | (go_at_call 39; (with_reducible refine (M2 (by trivial) _ D1).mono ?_); rintro e w2 ⟨v, rfl, hv2, b2⟩; have D2 := D1.trans (b2.mono D1.size); have p2 := cell_on D2 r0; have q2 := cell_on D2 r1)
                  | (go_at_call 38; (with_reducible refine (M1 _).mono ?_); rintro e w1 ⟨rfl, b1⟩; have D1 : Below w0.heap.size w0 w1 := (by rw [HW.out]; exact b1); have p1 := cell_on D1 r0; have q1 := cell_on D1 r1)
                  | fail)
                go_ret
                exact ⟨by simp, HZ D8⟩
end
end Go.Proofs.YtamkjpfomaapgaaGreatDoor
