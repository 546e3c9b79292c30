/- Schemas: whether something holds of each of a list. -/
import Derived.Test.YtfkgmgnoijokdaaGreatDoorScF
namespace Go.Proofs.YtfkgmgnoijokdaaGreatDoor
open Go Go.RowKit Go.Shelf
structure Spt where
  o : Nat
  k : Nat
  f : Fld
def SptAt (w : World) (x : Spt) (b o : Nat) : Prop := w.cell? ⟨b, o, none⟩ = some (.int .i64 (x.o : Int)) ∧ w.cell? ⟨b, o + 1, none⟩ = some (.int .i64 (x.k : Int)) ∧ w.cell? ⟨b, o + 2, none⟩ = some (.string ⟨x.f.n.toArray⟩) ∧ w.cell? ⟨b, o + 3, none⟩ = some (.string ⟨x.f.t.toArray⟩) ∧ w.cell? ⟨b, o + 4, none⟩ = some (.string ⟨x.f.w.toArray⟩) ∧ w.cell? ⟨b, o + 5, none⟩ = some (.bool x.f.s) ∧ w.cell? ⟨b, o + 6, none⟩ = some (.string ⟨x.f.i.toArray⟩)
def SptsAt (w : World) (v : Value) (l : List Spt) : Prop := Sl w v l.length 7 fun i b o => ∀ x, l[i]? = some x → SptAt w x b o
theorem SptsAt.on {w w' : World} (hb : Below w.heap.size w w') {v : Value} {l : List Spt} (h : SptsAt w v l) : SptsAt w' v l := h.mono hb.size fun _ _ _ _ hp f hf => by
  obtain ⟨h0, h1, h2, h3, h4, h5, h6⟩ := hp f hf
  exact ⟨cell_on hb h0, cell_on hb h1, cell_on hb h2, cell_on hb h3, cell_on hb h4, cell_on hb h5, cell_on hb h6⟩
theorem all_true {α : Type} {l : List α} {p : α → Bool} (h : ∀ (i : Nat) x, i < l.length → l[i]? = some x → p x = true) : l.all p = true := by
  rw [List.all_eq_true]
  intro x hx
  obtain ⟨i, hi, he⟩ := List.mem_iff_getElem.1 hx
  exact h i x hi (by rw [List.getElem?_eq_getElem hi, he])
theorem all_false {α : Type} {l : List α} {p : α → Bool} {i : Nat} {x : α} (hx : l[i]? = some x) (h : p x = false) : l.all p = false := by
  rw [List.all_eq_false]
  exact ⟨x, List.mem_of_getElem? hx, by rw [h]; decide⟩
set_option maxRecDepth 100000 in
set_option maxHeartbeats 2000000 in
theorem every_Object {l : List Ob} {v : Value} (K : Nat) (caps : Array Value) (p : Ob → Bool) (w : World) (h : ObsAt w v l) (hK : ∀ args W, Sem.run Tryz.prog (callFunc K args) W = .ok (.enter K args) W)
    (H : ∀ (x : Ob) (a1 : Option Addr) (c1 : Nat) (W : World), x ∈ l → Below w.heap.size w W → FldsAt W (.slice a1 x.fs.length c1) x.fs → Calls Tryz.prog K (#[.agg #[.string ⟨x.n.toArray⟩, .slice a1 x.fs.length c1]] ++ caps) W fun e W' => e = .returned (.bool (p x)) ∧ Below W.heap.size W W') :
    Calls Tryz.prog 52 #[v, .func (.func K) #[] caps] w fun e w' => e = .returned (.bool (l.all p)) ∧ Below w.heap.size w w' := by
  obtain ⟨a0, cap, rfl, hc, hn, hr⟩ := h
  go_enter Tryz.func52, Tryz.ntmps52
  go_wp2
  go_loopw [9] (fun i wr => ∃ j : Nat, i = .int .i64 (j : Int) ∧ j ≤ l.length ∧ (∀ (q : Nat) z, q < j → l[q]? = some z → p z = true) ∧ Below w.heap.size w wr) (fun i _ => l.length - (RowKit.intOf i).toNat)
  case atStart => exact ⟨0, rfl, Nat.zero_le _, fun q z hq => absurd hq (Nat.not_lt_zero _), Below.refl _ _⟩
  case round =>
    obtain ⟨j, rfl, hj, hno, hbr⟩ := hrel
    by_cases hlt : j < l.length
    · obtain ⟨b, o, rfl, hbl, hH⟩ := hr (by omega)
      obtain ⟨x, hx⟩ : ∃ x, l[j]? = some x := ⟨_, List.getElem?_eq_getElem hlt⟩
      obtain ⟨e0, fv, e1, hf⟩ := hH j hlt x hx
      obtain ⟨a1, c1, rfl, _, _⟩ := hf.slice
      have f0 := cell_on hbr e0
      have f1 := cell_on hbr e1
      have b0 : Below wr.heap.size wr (wr.alloc (.cells #[.string ⟨x.n.toArray⟩, .slice a1 x.fs.length c1] 41)) := al1 wr _
      have CL := H x a1 c1 (wr.alloc (.cells #[.string ⟨x.n.toArray⟩, .slice a1 x.fs.length c1] 41)) (List.mem_of_getElem? hx) (hbr.trans (b0.mono hbr.size)) ((hf.on hbr).on b0)
      have l1 : ((j : Nat) : Int) < (l.length : Int) := by omega
      have hjN : ((j : Nat) : Int).toNat = j := by omega
      have hz : Hid (j + 1 ≤ l.length) := hlt
      have HN : Hid (∀ (q : Nat) z, q < j → l[q]? = some z → p z = true) := hno
      have HM : Hid (l[j]? = some x) := hx
      clear hno hH hr hx e0 e1 hlt H
      cases hq : p x with
      | false =>
        rw [hq] at CL
        have HP : Hid (l.all p = false) := all_false HM.out hq
        clear hq
        go_wp2
        refine Calls.mono CL ?_
        rintro e w2 ⟨rfl, b2⟩
        go_wp2
        go_ret
        exact ⟨by rw [HP.out]; rfl, (hbr.trans (b0.mono hbr.size)).trans (b2.mono (hbr.trans (b0.mono hbr.size)).size)⟩
      | true =>
        rw [hq] at CL
        have hno2 : Hid (∀ (q : Nat) z, q < j + 1 → l[q]? = some z → p z = true) := by
          intro q z hq1 hz1
          by_cases e : q = j
          · subst e
            rw [HM.out] at hz1
            cases hz1
            exact hq
          · exact HN.out q z (by omega) hz1
        clear hq
        go_wp2
        refine Calls.mono CL ?_
        rintro e w2 ⟨rfl, b2⟩
        go_wp2
        refine ⟨⟨j + 1, by simp, hz.out, hno2.out, (hbr.trans (b0.mono hbr.size)).trans (b2.mono (hbr.trans (b0.mono hbr.size)).size)⟩, ?_⟩
        have := hz.out
        simp [RowKit.intOf]
        omega
    · have l2 : decide (((j : Nat) : Int) < (l.length : Int)) = false := by simp; omega
      have l3 : decide (j < l.length) = false := by simp; omega
      have HP : Hid (l.all p = true) := all_true fun q z hq hz => hno q z (by omega) hz
      clear hno hr hlt hj H
      go_wp2
      go_ret
      exact ⟨by rw [HP.out]; rfl, hbr⟩
set_option maxRecDepth 100000 in
set_option maxHeartbeats 2000000 in
theorem every_Enum {l : List En} {v : Value} (K : Nat) (caps : Array Value) (p : En → Bool) (w : World) (h : EnsAt w v l) (hK : ∀ args W, Sem.run Tryz.prog (callFunc K args) W = .ok (.enter K args) W)
    (H : ∀ (x : En) (a1 : Option Addr) (c1 : Nat) (W : World), x ∈ l → Below w.heap.size w W → WdsAt W (.slice a1 x.ws.length c1) x.ws → Calls Tryz.prog K (#[.agg #[.string ⟨x.n.toArray⟩, .slice a1 x.ws.length c1]] ++ caps) W fun e W' => e = .returned (.bool (p x)) ∧ Below W.heap.size W W') :
    Calls Tryz.prog 54 #[v, .func (.func K) #[] caps] w fun e w' => e = .returned (.bool (l.all p)) ∧ Below w.heap.size w w' := by
  obtain ⟨a0, cap, rfl, hc, hn, hr⟩ := h
  go_enter Tryz.func54, Tryz.ntmps54
  go_wp2
  go_loopw [9] (fun i wr => ∃ j : Nat, i = .int .i64 (j : Int) ∧ j ≤ l.length ∧ (∀ (q : Nat) z, q < j → l[q]? = some z → p z = true) ∧ Below w.heap.size w wr) (fun i _ => l.length - (RowKit.intOf i).toNat)
  case atStart => exact ⟨0, rfl, Nat.zero_le _, fun q z hq => absurd hq (Nat.not_lt_zero _), Below.refl _ _⟩
  case round =>
    obtain ⟨j, rfl, hj, hno, hbr⟩ := hrel
    by_cases hlt : j < l.length
    · obtain ⟨b, o, rfl, hbl, hH⟩ := hr (by omega)
      obtain ⟨x, hx⟩ : ∃ x, l[j]? = some x := ⟨_, List.getElem?_eq_getElem hlt⟩
      obtain ⟨e0, fv, e1, hf⟩ := hH j hlt x hx
      obtain ⟨a1, c1, rfl, _, _⟩ := hf.slice
      have f0 := cell_on hbr e0
      have f1 := cell_on hbr e1
      have b0 : Below wr.heap.size wr (wr.alloc (.cells #[.string ⟨x.n.toArray⟩, .slice a1 x.ws.length c1] 45)) := al1 wr _
      have CL := H x a1 c1 (wr.alloc (.cells #[.string ⟨x.n.toArray⟩, .slice a1 x.ws.length c1] 45)) (List.mem_of_getElem? hx) (hbr.trans (b0.mono hbr.size)) ((hf.on hbr).on b0)
      have l1 : ((j : Nat) : Int) < (l.length : Int) := by omega
      have hjN : ((j : Nat) : Int).toNat = j := by omega
      have hz : Hid (j + 1 ≤ l.length) := hlt
      have HN : Hid (∀ (q : Nat) z, q < j → l[q]? = some z → p z = true) := hno
      have HM : Hid (l[j]? = some x) := hx
      clear hno hH hr hx e0 e1 hlt H
      cases hq : p x with
      | false =>
        rw [hq] at CL
        have HP : Hid (l.all p = false) := all_false HM.out hq
        clear hq
        go_wp2
        refine Calls.mono CL ?_
        rintro e w2 ⟨rfl, b2⟩
        go_wp2
        go_ret
        exact ⟨by rw [HP.out]; rfl, (hbr.trans (b0.mono hbr.size)).trans (b2.mono (hbr.trans (b0.mono hbr.size)).size)⟩
      | true =>
        rw [hq] at CL
        have hno2 : Hid (∀ (q : Nat) z, q < j + 1 → l[q]? = some z → p z = true) := by
          intro q z hq1 hz1
          by_cases e : q = j
          · subst e
            rw [HM.out] at hz1
            cases hz1
            exact hq
          · exact HN.out q z (by omega) hz1
        clear hq
        go_wp2
        refine Calls.mono CL ?_
        rintro e w2 ⟨rfl, b2⟩
        go_wp2
        refine ⟨⟨j + 1, by simp, hz.out, hno2.out, (hbr.trans (b0.mono hbr.size)).trans (b2.mono (hbr.trans (b0.mono hbr.size)).size)⟩, ?_⟩
        have := hz.out
        simp [RowKit.intOf]
        omega
    · have l2 : decide (((j : Nat) : Int) < (l.length : Int)) = false := by simp; omega
      have l3 : decide (j < l.length) = false := by simp; omega
      have HP : Hid (l.all p = true) := all_true fun q z hq hz => hno q z (by omega) hz
      clear hno hr hlt hj H
      go_wp2
      go_ret
      exact ⟨by rw [HP.out]; rfl, hbr⟩
set_option maxRecDepth 100000 in
set_option maxHeartbeats 2000000 in
theorem every_string {l : List Bs} {v : Value} (K : Nat) (caps : Array Value) (p : Bs → Bool) (w : World) (h : WdsAt w v l) (hK : ∀ args W, Sem.run Tryz.prog (callFunc K args) W = .ok (.enter K args) W)
    (H : ∀ (x : Bs)  (W : World), x ∈ l → Below w.heap.size w W → Calls Tryz.prog K (#[.string ⟨x.toArray⟩] ++ caps) W fun e W' => e = .returned (.bool (p x)) ∧ Below W.heap.size W W') :
    Calls Tryz.prog 59 #[v, .func (.func K) #[] caps] w fun e w' => e = .returned (.bool (l.all p)) ∧ Below w.heap.size w w' := by
  obtain ⟨a0, cap, rfl, hc, hn, hr⟩ := h
  go_enter Tryz.func59, Tryz.ntmps59
  go_wp2
  go_loopw [9] (fun i wr => ∃ j : Nat, i = .int .i64 (j : Int) ∧ j ≤ l.length ∧ (∀ (q : Nat) z, q < j → l[q]? = some z → p z = true) ∧ Below w.heap.size w wr) (fun i _ => l.length - (RowKit.intOf i).toNat)
  case atStart => exact ⟨0, rfl, Nat.zero_le _, fun q z hq => absurd hq (Nat.not_lt_zero _), Below.refl _ _⟩
  case round =>
    obtain ⟨j, rfl, hj, hno, hbr⟩ := hrel
    by_cases hlt : j < l.length
    · obtain ⟨b, o, rfl, hbl, hH⟩ := hr (by omega)
      obtain ⟨x, hx⟩ : ∃ x, l[j]? = some x := ⟨_, List.getElem?_eq_getElem hlt⟩
      have e0 := hH j hlt x hx
      have f0 := cell_on hbr e0
      rw [Nat.mul_one] at f0
      have b0 : Below wr.heap.size wr wr := Below.refl _ _
      have CL := H x wr (List.mem_of_getElem? hx) (hbr.trans (b0.mono hbr.size)) 
      have l1 : ((j : Nat) : Int) < (l.length : Int) := by omega
      have hjN : ((j : Nat) : Int).toNat = j := by omega
      have hz : Hid (j + 1 ≤ l.length) := hlt
      have HN : Hid (∀ (q : Nat) z, q < j → l[q]? = some z → p z = true) := hno
      have HM : Hid (l[j]? = some x) := hx
      clear hno hH hr hx e0 hlt H
      cases hq : p x with
      | false =>
        rw [hq] at CL
        have HP : Hid (l.all p = false) := all_false HM.out hq
        clear hq
        go_wp2
        refine Calls.mono CL ?_
        rintro e w2 ⟨rfl, b2⟩
        go_wp2
        go_ret
        exact ⟨by rw [HP.out]; rfl, (hbr.trans (b0.mono hbr.size)).trans (b2.mono (hbr.trans (b0.mono hbr.size)).size)⟩
      | true =>
        rw [hq] at CL
        have hno2 : Hid (∀ (q : Nat) z, q < j + 1 → l[q]? = some z → p z = true) := by
          intro q z hq1 hz1
          by_cases e : q = j
          · subst e
            rw [HM.out] at hz1
            cases hz1
            exact hq
          · exact HN.out q z (by omega) hz1
        clear hq
        go_wp2
        refine Calls.mono CL ?_
        rintro e w2 ⟨rfl, b2⟩
        go_wp2
        refine ⟨⟨j + 1, by simp, hz.out, hno2.out, (hbr.trans (b0.mono hbr.size)).trans (b2.mono (hbr.trans (b0.mono hbr.size)).size)⟩, ?_⟩
        have := hz.out
        simp [RowKit.intOf]
        omega
    · have l2 : decide (((j : Nat) : Int) < (l.length : Int)) = false := by simp; omega
      have l3 : decide (j < l.length) = false := by simp; omega
      have HP : Hid (l.all p = true) := all_true fun q z hq hz => hno q z (by omega) hz
      clear hno hr hlt hj H
      go_wp2
      go_ret
      exact ⟨by rw [HP.out]; rfl, hbr⟩
set_option maxRecDepth 100000 in
set_option maxHeartbeats 2000000 in
theorem every_spot {l : List Spt} {v : Value} (K : Nat) (caps : Array Value) (p : Spt → Bool) (w : World) (h : SptsAt w v l) (hK : ∀ args W, Sem.run Tryz.prog (callFunc K args) W = .ok (.enter K args) W)
    (H : ∀ (x : Spt)  (W : World), x ∈ l → Below w.heap.size w W → Calls Tryz.prog K (#[.agg #[.int .i64 (x.o : Int), .int .i64 (x.k : Int), .string ⟨x.f.n.toArray⟩, .string ⟨x.f.t.toArray⟩, .string ⟨x.f.w.toArray⟩, .bool x.f.s, .string ⟨x.f.i.toArray⟩]] ++ caps) W fun e W' => e = .returned (.bool (p x)) ∧ Below W.heap.size W W') :
    Calls Tryz.prog 26 #[v, .func (.func K) #[] caps] w fun e w' => e = .returned (.bool (l.all p)) ∧ Below w.heap.size w w' := by
  obtain ⟨a0, cap, rfl, hc, hn, hr⟩ := h
  go_enter Tryz.func26, Tryz.ntmps26
  go_wp2
  go_loopw [9] (fun i wr => ∃ j : Nat, i = .int .i64 (j : Int) ∧ j ≤ l.length ∧ (∀ (q : Nat) z, q < j → l[q]? = some z → p z = true) ∧ Below w.heap.size w wr) (fun i _ => l.length - (RowKit.intOf i).toNat)
  case atStart => exact ⟨0, rfl, Nat.zero_le _, fun q z hq => absurd hq (Nat.not_lt_zero _), Below.refl _ _⟩
  case round =>
    obtain ⟨j, rfl, hj, hno, hbr⟩ := hrel
    by_cases hlt : j < l.length
    · obtain ⟨b, o, rfl, hbl, hH⟩ := hr (by omega)
      obtain ⟨x, hx⟩ : ∃ x, l[j]? = some x := ⟨_, List.getElem?_eq_getElem hlt⟩
      obtain ⟨e0, e1, e2, e3, e4, e5, e6⟩ := hH j hlt x hx
      have f0 := cell_on hbr e0
      have f1 := cell_on hbr e1
      have f2 := cell_on hbr e2
      have f3 := cell_on hbr e3
      have f4 := cell_on hbr e4
      have f5 := cell_on hbr e5
      have f6 := cell_on hbr e6
      have b0 : Below wr.heap.size wr (wr.alloc (.cells #[.int .i64 (x.o : Int), .int .i64 (x.k : Int), .string ⟨x.f.n.toArray⟩, .string ⟨x.f.t.toArray⟩, .string ⟨x.f.w.toArray⟩, .bool x.f.s, .string ⟨x.f.i.toArray⟩] 52)) := al1 wr _
      have CL := H x (wr.alloc (.cells #[.int .i64 (x.o : Int), .int .i64 (x.k : Int), .string ⟨x.f.n.toArray⟩, .string ⟨x.f.t.toArray⟩, .string ⟨x.f.w.toArray⟩, .bool x.f.s, .string ⟨x.f.i.toArray⟩] 52)) (List.mem_of_getElem? hx) (hbr.trans (b0.mono hbr.size)) 
      have l1 : ((j : Nat) : Int) < (l.length : Int) := by omega
      have hjN : ((j : Nat) : Int).toNat = j := by omega
      have hz : Hid (j + 1 ≤ l.length) := hlt
      have HN : Hid (∀ (q : Nat) z, q < j → l[q]? = some z → p z = true) := hno
      have HM : Hid (l[j]? = some x) := hx
      clear hno hH hr hx e0 e1 e2 e3 e4 e5 e6 hlt H
      cases hq : p x with
      | false =>
        rw [hq] at CL
        have HP : Hid (l.all p = false) := all_false HM.out hq
        clear hq
        go_wp2
        refine Calls.mono CL ?_
        rintro e w2 ⟨rfl, b2⟩
        go_wp2
        go_ret
        exact ⟨by rw [HP.out]; rfl, (hbr.trans (b0.mono hbr.size)).trans (b2.mono (hbr.trans (b0.mono hbr.size)).size)⟩
      | true =>
        rw [hq] at CL
        have hno2 : Hid (∀ (q : Nat) z, q < j + 1 → l[q]? = some z → p z = true) := by
          intro q z hq1 hz1
          by_cases e : q = j
          · subst e
            rw [HM.out] at hz1
            cases hz1
            exact hq
          · exact HN.out q z (by omega) hz1
        clear hq
        go_wp2
        refine Calls.mono CL ?_
        rintro e w2 ⟨rfl, b2⟩
        go_wp2
        refine ⟨⟨j + 1, by simp, hz.out, hno2.out, (hbr.trans (b0.mono hbr.size)).trans (b2.mono (hbr.trans (b0.mono hbr.size)).size)⟩, ?_⟩
        have := hz.out
        simp [RowKit.intOf]
        omega
    · have l2 : decide (((j : Nat) : Int) < (l.length : Int)) = false := by simp; omega
      have l3 : decide (j < l.length) = false := by simp; omega
      have HP : Hid (l.all p = true) := all_true fun q z hq hz => hno q z (by omega) hz
      clear hno hr hlt hj H
      go_wp2
      go_ret
      exact ⟨by rw [HP.out]; rfl, hbr⟩
end Go.Proofs.YtfkgmgnoijokdaaGreatDoor
