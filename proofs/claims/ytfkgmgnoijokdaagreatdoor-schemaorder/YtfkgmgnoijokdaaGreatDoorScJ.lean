/- Schemas: no two of the same name. -/
import Derived.Test.YtfkgmgnoijokdaaGreatDoorScI
namespace Go.Proofs.YtfkgmgnoijokdaaGreatDoor
open Go Go.RowKit Go.Shelf
/-- No name stands ahead of itself. -/
def uniB (l : List Bs) : Bool := (List.range l.length).all fun i => decide ((i : Int) ≤ plB (l.getD i []) l)
theorem uniB_true {l : List Bs} (h : ∀ (i : Nat) x, i < l.length → l[i]? = some x → (i : Int) ≤ plB x l) : uniB l = true := by
  unfold uniB
  rw [List.all_eq_true]
  intro i hi
  have hi := List.mem_range.1 hi
  simp only [decide_eq_true_eq]
  exact h i _ hi (by rw [List.getD_eq_getElem?_getD, List.getElem?_eq_getElem hi]; rfl)
theorem uniB_false {l : List Bs} {i : Nat} {x : Bs} (hx : l[i]? = some x) (h : plB x l < (i : Int)) : uniB l = false := by
  unfold uniB
  rw [List.all_eq_false]
  obtain ⟨hi, he⟩ := List.getElem?_eq_some_iff.1 hx
  refine ⟨i, List.mem_range.2 hi, ?_⟩
  have e : l.getD i [] = x := by rw [List.getD_eq_getElem?_getD, hx]; rfl
  rw [e]
  simp
  omega
set_option maxRecDepth 100000 in
set_option maxHeartbeats 2000000 in
theorem unlike_Object {os : List Ob} {v : Value} (w : World) (h : ObsAt w v os) : Calls Tryz.prog 62 #[v, .func (.func 41) #[] #[]] w fun e w' => e = .returned (.bool (uniB (os.map (·.n)))) ∧ Below w.heap.size w w' := by
  have PL := fun y W (b : Below w.heap.size w W) => place_Object y W (h.on b)
  obtain ⟨a0, cap, rfl, hc, hn, hr⟩ := h
  go_enter Tryz.func62, Tryz.ntmps62
  go_wp2
  go_loopw [9] (fun i wr => ∃ j : Nat, i = .int .i64 (j : Int) ∧ j ≤ os.length ∧ (∀ (q : Nat) z, q < j → (os.map (·.n))[q]? = some z → (q : Int) ≤ plB z (os.map (·.n))) ∧ Below w.heap.size w wr) (fun i _ => os.length - (RowKit.intOf i).toNat)
  case atStart => exact ⟨0, rfl, Nat.zero_le _, fun q z hq => absurd hq (Nat.not_lt_zero _), Below.refl _ _⟩
  case round =>
    obtain ⟨j, rfl, hj, hno, hbr⟩ := hrel
    by_cases hlt : j < os.length
    · obtain ⟨b, o, rfl, hbl, hH⟩ := hr (by omega)
      obtain ⟨x, hx⟩ : ∃ x, os[j]? = some x := ⟨_, List.getElem?_eq_getElem hlt⟩
      obtain ⟨e0, fv, e1, a1, c1, rfl, _⟩ := hH j hlt x hx
      have f0 := cell_on hbr e0
      have f1 := cell_on hbr e1
      have b0 : Below wr.heap.size wr (wr.alloc (.cells #[.string ⟨x.n.toArray⟩, .slice a1 x.fs.length c1] 41)) := al1 wr _
      have B0 := hbr.trans (b0.mono hbr.size)
      have NM := hobjectName_any x a1 x.fs.length c1 (wr.alloc (.cells #[.string ⟨x.n.toArray⟩, .slice a1 x.fs.length c1] 41))
      have PX := fun W (b2 : Below (wr.alloc (.cells #[.string ⟨x.n.toArray⟩, .slice a1 x.fs.length c1] 41)).heap.size (wr.alloc (.cells #[.string ⟨x.n.toArray⟩, .slice a1 x.fs.length c1] 41)) W) => PL x.n W (B0.trans (b2.mono B0.size))
      have l1 : ((j : Nat) : Int) < (os.length : Int) := by omega
      have hjN : ((j : Nat) : Int).toNat = j := by omega
      have hz : Hid (j + 1 ≤ os.length) := hlt
      have HN : Hid (∀ (q : Nat) z, q < j → (os.map (·.n))[q]? = some z → (q : Int) ≤ plB z (os.map (·.n))) := hno
      have HM : Hid ((os.map (·.n))[j]? = some x.n) := (by rw [List.getElem?_map, hx]; rfl)
      have HR := plB_range x.n (os.map (·.n))
      have HU1 : Hid (plB x.n (os.map (·.n)) < (j : Int) → uniB (os.map (·.n)) = false) := fun hq => uniB_false HM.out hq
      have HU2 : Hid (¬ plB x.n (os.map (·.n)) < (j : Int) → ∀ (q : Nat) z, q < j + 1 → (os.map (·.n))[q]? = some z → (q : Int) ≤ plB z (os.map (·.n))) := by
        intro hq q z hq1 hz1
        by_cases e : q = j
        · subst e
          rw [HM.out] at hz1
          cases hz1
          omega
        · exact HN.out q z (by omega) hz1
      clear hno hH hr hx e0 e1 hlt HN HM PL
      generalize plB x.n (os.map (·.n)) = kp at *
      by_cases hq : kp < (j : Int)
      · have HP : Hid (uniB (os.map (·.n)) = false) := HU1.out hq
        clear HU1 HU2 HR
        go_wp2_with (first
          | (go_at_call 40; (with_reducible refine (PX _ b2).mono ?_); rintro e w3 ⟨rfl, b3⟩)
          | (go_at_call 41; (with_reducible refine NM.mono ?_); rintro e w2 ⟨rfl, b2⟩)
          | fail)
        go_ret
        exact ⟨by rw [HP.out]; rfl, (B0.trans (b2.mono B0.size)).trans (b3.mono (B0.trans (b2.mono B0.size)).size)⟩
      · have hqd : decide (kp < (j : Int)) = false := by simp; omega
        have HP := HU2.out hq
        have hno2 : Hid (∀ (q : Nat) z, q < j + 1 → (os.map (·.n))[q]? = some z → (q : Int) ≤ plB z (os.map (·.n))) := HP
        clear HU1 HU2 HR HP hq
        go_wp2_with (first
          | (go_at_call 40; (with_reducible refine (PX _ b2).mono ?_); rintro e w3 ⟨rfl, b3⟩)
          | (go_at_call 41; (with_reducible refine NM.mono ?_); rintro e w2 ⟨rfl, b2⟩)
          | fail)
        refine ⟨⟨j + 1, by simp, hz.out, hno2.out, (B0.trans (b2.mono B0.size)).trans (b3.mono (B0.trans (b2.mono B0.size)).size)⟩, ?_⟩
        have := hz.out
        simp [RowKit.intOf]
        omega
    · have l2 : decide (((j : Nat) : Int) < (os.length : Int)) = false := by simp; omega
      have l3 : decide (j < os.length) = false := by simp; omega
      have HP : Hid (uniB (os.map (·.n)) = true) := uniB_true fun q z hq hz => hno q z (by
        rw [List.length_map] at hq
        omega) hz
      clear hno hr hlt hj PL
      go_wp2
      go_ret
      exact ⟨by rw [HP.out]; rfl, hbr⟩
set_option maxRecDepth 100000 in
set_option maxHeartbeats 2000000 in
theorem unlike_Enum {es : List En} {v : Value} (w : World) (h : EnsAt w v es) : Calls Tryz.prog 63 #[v, .func (.func 43) #[] #[]] w fun e w' => e = .returned (.bool (uniB (es.map (·.n)))) ∧ Below w.heap.size w w' := by
  have PL := fun y W (b : Below w.heap.size w W) => place_Enum y W (h.on b)
  obtain ⟨a0, cap, rfl, hc, hn, hr⟩ := h
  go_enter Tryz.func63, Tryz.ntmps63
  go_wp2
  go_loopw [9] (fun i wr => ∃ j : Nat, i = .int .i64 (j : Int) ∧ j ≤ es.length ∧ (∀ (q : Nat) z, q < j → (es.map (·.n))[q]? = some z → (q : Int) ≤ plB z (es.map (·.n))) ∧ Below w.heap.size w wr) (fun i _ => es.length - (RowKit.intOf i).toNat)
  case atStart => exact ⟨0, rfl, Nat.zero_le _, fun q z hq => absurd hq (Nat.not_lt_zero _), Below.refl _ _⟩
  case round =>
    obtain ⟨j, rfl, hj, hno, hbr⟩ := hrel
    by_cases hlt : j < es.length
    · obtain ⟨b, o, rfl, hbl, hH⟩ := hr (by omega)
      obtain ⟨x, hx⟩ : ∃ x, es[j]? = some x := ⟨_, List.getElem?_eq_getElem hlt⟩
      obtain ⟨e0, fv, e1, a1, c1, rfl, _⟩ := hH j hlt x hx
      have f0 := cell_on hbr e0
      have f1 := cell_on hbr e1
      have b0 : Below wr.heap.size wr (wr.alloc (.cells #[.string ⟨x.n.toArray⟩, .slice a1 x.ws.length c1] 45)) := al1 wr _
      have B0 := hbr.trans (b0.mono hbr.size)
      have NM := henumName_any x a1 x.ws.length c1 (wr.alloc (.cells #[.string ⟨x.n.toArray⟩, .slice a1 x.ws.length c1] 45))
      have PX := fun W (b2 : Below (wr.alloc (.cells #[.string ⟨x.n.toArray⟩, .slice a1 x.ws.length c1] 45)).heap.size (wr.alloc (.cells #[.string ⟨x.n.toArray⟩, .slice a1 x.ws.length c1] 45)) W) => PL x.n W (B0.trans (b2.mono B0.size))
      have l1 : ((j : Nat) : Int) < (es.length : Int) := by omega
      have hjN : ((j : Nat) : Int).toNat = j := by omega
      have hz : Hid (j + 1 ≤ es.length) := hlt
      have HN : Hid (∀ (q : Nat) z, q < j → (es.map (·.n))[q]? = some z → (q : Int) ≤ plB z (es.map (·.n))) := hno
      have HM : Hid ((es.map (·.n))[j]? = some x.n) := (by rw [List.getElem?_map, hx]; rfl)
      have HR := plB_range x.n (es.map (·.n))
      have HU1 : Hid (plB x.n (es.map (·.n)) < (j : Int) → uniB (es.map (·.n)) = false) := fun hq => uniB_false HM.out hq
      have HU2 : Hid (¬ plB x.n (es.map (·.n)) < (j : Int) → ∀ (q : Nat) z, q < j + 1 → (es.map (·.n))[q]? = some z → (q : Int) ≤ plB z (es.map (·.n))) := by
        intro hq q z hq1 hz1
        by_cases e : q = j
        · subst e
          rw [HM.out] at hz1
          cases hz1
          omega
        · exact HN.out q z (by omega) hz1
      clear hno hH hr hx e0 e1 hlt HN HM PL
      generalize plB x.n (es.map (·.n)) = kp at *
      by_cases hq : kp < (j : Int)
      · have HP : Hid (uniB (es.map (·.n)) = false) := HU1.out hq
        clear HU1 HU2 HR
        go_wp2_with (first
          | (go_at_call 42; (with_reducible refine (PX _ b2).mono ?_); rintro e w3 ⟨rfl, b3⟩)
          | (go_at_call 43; (with_reducible refine NM.mono ?_); rintro e w2 ⟨rfl, b2⟩)
          | fail)
        go_ret
        exact ⟨by rw [HP.out]; rfl, (B0.trans (b2.mono B0.size)).trans (b3.mono (B0.trans (b2.mono B0.size)).size)⟩
      · have hqd : decide (kp < (j : Int)) = false := by simp; omega
        have HP := HU2.out hq
        have hno2 : Hid (∀ (q : Nat) z, q < j + 1 → (es.map (·.n))[q]? = some z → (q : Int) ≤ plB z (es.map (·.n))) := HP
        clear HU1 HU2 HR HP hq
        go_wp2_with (first
          | (go_at_call 42; (with_reducible refine (PX _ b2).mono ?_); rintro e w3 ⟨rfl, b3⟩)
          | (go_at_call 43; (with_reducible refine NM.mono ?_); rintro e w2 ⟨rfl, b2⟩)
          | fail)
        refine ⟨⟨j + 1, by simp, hz.out, hno2.out, (B0.trans (b2.mono B0.size)).trans (b3.mono (B0.trans (b2.mono B0.size)).size)⟩, ?_⟩
        have := hz.out
        simp [RowKit.intOf]
        omega
    · have l2 : decide (((j : Nat) : Int) < (es.length : Int)) = false := by simp; omega
      have l3 : decide (j < es.length) = false := by simp; omega
      have HP : Hid (uniB (es.map (·.n)) = true) := uniB_true fun q z hq hz => hno q z (by
        rw [List.length_map] at hq
        omega) hz
      clear hno hr hlt hj PL
      go_wp2
      go_ret
      exact ⟨by rw [HP.out]; rfl, hbr⟩
set_option maxRecDepth 100000 in
set_option maxHeartbeats 2000000 in
theorem unlike_Field {fs : List Fld} {v : Value} (w : World) (h : FldsAt w v fs) : Calls Tryz.prog 68 #[v, .func (.func 49) #[] #[]] w fun e w' => e = .returned (.bool (uniB (fs.map (·.n)))) ∧ Below w.heap.size w w' := by
  have PL := fun y W (b : Below w.heap.size w W) => place_Field y W (h.on b)
  obtain ⟨a0, cap, rfl, hc, hn, hr⟩ := h
  go_enter Tryz.func68, Tryz.ntmps68
  go_wp2
  go_loopw [9] (fun i wr => ∃ j : Nat, i = .int .i64 (j : Int) ∧ j ≤ fs.length ∧ (∀ (q : Nat) z, q < j → (fs.map (·.n))[q]? = some z → (q : Int) ≤ plB z (fs.map (·.n))) ∧ Below w.heap.size w wr) (fun i _ => fs.length - (RowKit.intOf i).toNat)
  case atStart => exact ⟨0, rfl, Nat.zero_le _, fun q z hq => absurd hq (Nat.not_lt_zero _), Below.refl _ _⟩
  case round =>
    obtain ⟨j, rfl, hj, hno, hbr⟩ := hrel
    by_cases hlt : j < fs.length
    · obtain ⟨b, o, rfl, hbl, hH⟩ := hr (by omega)
      obtain ⟨x, hx⟩ : ∃ x, fs[j]? = some x := ⟨_, List.getElem?_eq_getElem hlt⟩
      obtain ⟨e0, e1, e2, e3, e4⟩ := hH j hlt x hx
      have f0 := cell_on hbr e0
      have f1 := cell_on hbr e1
      have f2 := cell_on hbr e2
      have f3 := cell_on hbr e3
      have f4 := cell_on hbr e4
      have b0 : Below wr.heap.size wr (wr.alloc (.cells #[.string ⟨x.n.toArray⟩, .string ⟨x.t.toArray⟩, .string ⟨x.w.toArray⟩, .bool x.s, .string ⟨x.i.toArray⟩] 33)) := al1 wr _
      have B0 := hbr.trans (b0.mono hbr.size)
      have NM := hfieldName_any x (wr.alloc (.cells #[.string ⟨x.n.toArray⟩, .string ⟨x.t.toArray⟩, .string ⟨x.w.toArray⟩, .bool x.s, .string ⟨x.i.toArray⟩] 33))
      have PX := fun W (b2 : Below (wr.alloc (.cells #[.string ⟨x.n.toArray⟩, .string ⟨x.t.toArray⟩, .string ⟨x.w.toArray⟩, .bool x.s, .string ⟨x.i.toArray⟩] 33)).heap.size (wr.alloc (.cells #[.string ⟨x.n.toArray⟩, .string ⟨x.t.toArray⟩, .string ⟨x.w.toArray⟩, .bool x.s, .string ⟨x.i.toArray⟩] 33)) W) => PL x.n W (B0.trans (b2.mono B0.size))
      have l1 : ((j : Nat) : Int) < (fs.length : Int) := by omega
      have hjN : ((j : Nat) : Int).toNat = j := by omega
      have hz : Hid (j + 1 ≤ fs.length) := hlt
      have HN : Hid (∀ (q : Nat) z, q < j → (fs.map (·.n))[q]? = some z → (q : Int) ≤ plB z (fs.map (·.n))) := hno
      have HM : Hid ((fs.map (·.n))[j]? = some x.n) := (by rw [List.getElem?_map, hx]; rfl)
      have HR := plB_range x.n (fs.map (·.n))
      have HU1 : Hid (plB x.n (fs.map (·.n)) < (j : Int) → uniB (fs.map (·.n)) = false) := fun hq => uniB_false HM.out hq
      have HU2 : Hid (¬ plB x.n (fs.map (·.n)) < (j : Int) → ∀ (q : Nat) z, q < j + 1 → (fs.map (·.n))[q]? = some z → (q : Int) ≤ plB z (fs.map (·.n))) := by
        intro hq q z hq1 hz1
        by_cases e : q = j
        · subst e
          rw [HM.out] at hz1
          cases hz1
          omega
        · exact HN.out q z (by omega) hz1
      clear hno hH hr hx e0 e1 e2 e3 e4 hlt HN HM PL
      generalize plB x.n (fs.map (·.n)) = kp at *
      by_cases hq : kp < (j : Int)
      · have HP : Hid (uniB (fs.map (·.n)) = false) := HU1.out hq
        clear HU1 HU2 HR
        go_wp2_with (first
          | (go_at_call 48; (with_reducible refine (PX _ b2).mono ?_); rintro e w3 ⟨rfl, b3⟩)
          | (go_at_call 49; (with_reducible refine NM.mono ?_); rintro e w2 ⟨rfl, b2⟩)
          | fail)
        go_ret
        exact ⟨by rw [HP.out]; rfl, (B0.trans (b2.mono B0.size)).trans (b3.mono (B0.trans (b2.mono B0.size)).size)⟩
      · have hqd : decide (kp < (j : Int)) = false := by simp; omega
        have HP := HU2.out hq
        have hno2 : Hid (∀ (q : Nat) z, q < j + 1 → (fs.map (·.n))[q]? = some z → (q : Int) ≤ plB z (fs.map (·.n))) := HP
        clear HU1 HU2 HR HP hq
        go_wp2_with (first
          | (go_at_call 48; (with_reducible refine (PX _ b2).mono ?_); rintro e w3 ⟨rfl, b3⟩)
          | (go_at_call 49; (with_reducible refine NM.mono ?_); rintro e w2 ⟨rfl, b2⟩)
          | fail)
        refine ⟨⟨j + 1, by simp, hz.out, hno2.out, (B0.trans (b2.mono B0.size)).trans (b3.mono (B0.trans (b2.mono B0.size)).size)⟩, ?_⟩
        have := hz.out
        simp [RowKit.intOf]
        omega
    · have l2 : decide (((j : Nat) : Int) < (fs.length : Int)) = false := by simp; omega
      have l3 : decide (j < fs.length) = false := by simp; omega
      have HP : Hid (uniB (fs.map (·.n)) = true) := uniB_true fun q z hq hz => hno q z (by
        rw [List.length_map] at hq
        omega) hz
      clear hno hr hlt hj PL
      go_wp2
      go_ret
      exact ⟨by rw [HP.out]; rfl, hbr⟩
set_option maxRecDepth 100000 in
set_option maxHeartbeats 2000000 in
theorem unlike_string {ws : List Bs} {v : Value} (w : World) (h : WdsAt w v ws) : Calls Tryz.prog 65 #[v, .func (.func 66) #[] #[]] w fun e w' => e = .returned (.bool (uniB ws)) ∧ Below w.heap.size w w' := by
  have PL := fun y W (b : Below w.heap.size w W) => place_string y W (h.on b)
  obtain ⟨a0, cap, rfl, hc, hn, hr⟩ := h
  go_enter Tryz.func65, Tryz.ntmps65
  go_wp2
  go_loopw [9] (fun i wr => ∃ j : Nat, i = .int .i64 (j : Int) ∧ j ≤ ws.length ∧ (∀ (q : Nat) z, q < j → ws[q]? = some z → (q : Int) ≤ plB z ws) ∧ Below w.heap.size w wr) (fun i _ => ws.length - (RowKit.intOf i).toNat)
  case atStart => exact ⟨0, rfl, Nat.zero_le _, fun q z hq => absurd hq (Nat.not_lt_zero _), Below.refl _ _⟩
  case round =>
    obtain ⟨j, rfl, hj, hno, hbr⟩ := hrel
    by_cases hlt : j < ws.length
    · obtain ⟨b, o, rfl, hbl, hH⟩ := hr (by omega)
      obtain ⟨x, hx⟩ : ∃ x, ws[j]? = some x := ⟨_, List.getElem?_eq_getElem hlt⟩
      have e0 := hH j hlt x hx
      have f0 := cell_on hbr e0
      rw [Nat.mul_one] at f0
      have b0 : Below wr.heap.size wr wr := Below.refl _ _
      have B0 := hbr.trans (b0.mono hbr.size)
      have NM := hwordName_any x wr
      have PX := fun W (b2 : Below wr.heap.size wr W) => PL x W (B0.trans (b2.mono B0.size))
      have l1 : ((j : Nat) : Int) < (ws.length : Int) := by omega
      have hjN : ((j : Nat) : Int).toNat = j := by omega
      have hz : Hid (j + 1 ≤ ws.length) := hlt
      have HN : Hid (∀ (q : Nat) z, q < j → ws[q]? = some z → (q : Int) ≤ plB z ws) := hno
      have HM : Hid (ws[j]? = some x) := hx
      have HR := plB_range x ws
      have HU1 : Hid (plB x ws < (j : Int) → uniB ws = false) := fun hq => uniB_false HM.out hq
      have HU2 : Hid (¬ plB x ws < (j : Int) → ∀ (q : Nat) z, q < j + 1 → ws[q]? = some z → (q : Int) ≤ plB z ws) := by
        intro hq q z hq1 hz1
        by_cases e : q = j
        · subst e
          rw [HM.out] at hz1
          cases hz1
          omega
        · exact HN.out q z (by omega) hz1
      clear hno hH hr hx e0 hlt HN HM PL
      generalize plB x ws = kp at *
      by_cases hq : kp < (j : Int)
      · have HP : Hid (uniB ws = false) := HU1.out hq
        clear HU1 HU2 HR
        go_wp2_with (first
          | (go_at_call 83; (with_reducible refine (PX _ b2).mono ?_); rintro e w3 ⟨rfl, b3⟩)
          | (go_at_call 66; (with_reducible refine NM.mono ?_); rintro e w2 ⟨rfl, b2⟩)
          | fail)
        go_ret
        exact ⟨by rw [HP.out]; rfl, (B0.trans (b2.mono B0.size)).trans (b3.mono (B0.trans (b2.mono B0.size)).size)⟩
      · have hqd : decide (kp < (j : Int)) = false := by simp; omega
        have HP := HU2.out hq
        have hno2 : Hid (∀ (q : Nat) z, q < j + 1 → ws[q]? = some z → (q : Int) ≤ plB z ws) := HP
        clear HU1 HU2 HR HP hq
        go_wp2_with (first
          | (go_at_call 83; (with_reducible refine (PX _ b2).mono ?_); rintro e w3 ⟨rfl, b3⟩)
          | (go_at_call 66; (with_reducible refine NM.mono ?_); rintro e w2 ⟨rfl, b2⟩)
          | fail)
        refine ⟨⟨j + 1, by simp, hz.out, hno2.out, (B0.trans (b2.mono B0.size)).trans (b3.mono (B0.trans (b2.mono B0.size)).size)⟩, ?_⟩
        have := hz.out
        simp [RowKit.intOf]
        omega
    · have l2 : decide (((j : Nat) : Int) < (ws.length : Int)) = false := by simp; omega
      have l3 : decide (j < ws.length) = false := by simp; omega
      have HP : Hid (uniB ws = true) := uniB_true fun q z hq hz => hno q z (by
        omega) hz
      clear hno hr hlt hj PL
      go_wp2
      go_ret
      exact ⟨by rw [HP.out]; rfl, hbr⟩
set_option maxRecDepth 100000 in
theorem hwell1_any (x : Ob) (a1 : Option Addr) (c1 : Nat) (w : World) (gl : Gl w) : Calls Tryz.prog 56 (#[.agg #[.string ⟨x.n.toArray⟩, .slice a1 x.fs.length c1]] ++ #[]) w fun e w' => e = .returned (.bool (frtS x.n)) ∧ Below w.heap.size w w' := by
  have FT := fun o => hfreeType_any x.n (w.alloc o) (gl.below (al1 w o) (Nat.le_refl _))
  show Calls Tryz.prog 56 #[.agg #[.string ⟨x.n.toArray⟩, .slice a1 x.fs.length c1]] w _
  go_enter Tryz.func56, Tryz.ntmps56
  go_wp2_with (first
    | (go_at_call 57; (with_reducible refine (FT _).mono ?_); rintro e w2 ⟨rfl, b2⟩)
    | fail)
  go_ret
  exact ⟨rfl, (al1 w _).trans (b2.mono (al1 w _).size)⟩
set_option maxRecDepth 100000 in
set_option maxHeartbeats 2000000 in
theorem hwell2_any (x : En) (a1 : Option Addr) (c1 : Nat) (w : World) (gl : Gl w) (hw : WdsAt w (.slice a1 x.ws.length c1) x.ws) : Calls Tryz.prog 58 (#[.agg #[.string ⟨x.n.toArray⟩, .slice a1 x.ws.length c1]] ++ #[]) w fun e w' => e = .returned (.bool (frtS x.n && x.ws.all frwS)) ∧ Below w.heap.size w w' := by
  have FT := fun o => hfreeType_any x.n (w.alloc o) (gl.below (al1 w o) (Nat.le_refl _))
  have EV := fun W (b : Below w.heap.size w W) => every_string 60 #[] frwS W (hw.on b) (fun _ _ => rfl) (fun y W2 _ b2 => hfreeWord_any y W2 ((gl.below b (Nat.le_refl _)).below b2 (Nat.le_refl _)))
  show Calls Tryz.prog 58 #[.agg #[.string ⟨x.n.toArray⟩, .slice a1 x.ws.length c1]] w _
  generalize frtS x.n = b1 at *
  generalize x.ws.all frwS = b2 at *
  cases b1 with
  | false =>
    go_enter Tryz.func58, Tryz.ntmps58
    go_wp2_with (first
      | (go_at_call 57; (with_reducible refine (FT _).mono ?_); rintro e w2 ⟨rfl, b2⟩)
      | fail)
    go_ret
    exact ⟨by simp, (al1 w _).trans (b2.mono (al1 w _).size)⟩
  | true =>
    go_enter Tryz.func58, Tryz.ntmps58
    go_wp2_with (first
      | (go_at_call 59; (with_reducible refine (EV _ B2).mono ?_); rintro e w3 ⟨rfl, b3⟩)
      | (go_at_call 57; (with_reducible refine (FT _).mono ?_); rintro e w2 ⟨rfl, b2⟩; have B2 := (al1 w _).trans (b2.mono (al1 w _).size); obtain ⟨q0, q1, fq⟩ := row2 ((b2.block _ (by simp)).trans (heap_alloc_new w (.cells #[.string ⟨x.n.toArray⟩, .slice a1 x.ws.length c1] 45))))
      | fail)
    go_ret
    exact ⟨by simp, B2.trans (b3.mono B2.size)⟩
def namS (s : Sch) : Bool := s.os.all (fun x => frtS x.n) && s.es.all (fun x => frtS x.n && x.ws.all frwS)
section
variable {w : World} {ov ev : Value} {s : Sch}
set_option maxRecDepth 100000 in
set_option maxHeartbeats 2000000 in
theorem hwellNamed_any (h : SchAt w ov ev s) (gl : Gl w) : Calls Tryz.prog 25 #[.agg #[ov, ev]] w fun e w' => e = .returned (.bool (namS s)) ∧ Below w.heap.size w w' := by
  have E1 := fun o => every_Object 56 #[] (fun x => frtS x.n) (w.alloc o) (h.os.on (al1 w o)) (fun _ _ => rfl) (fun x a1 c1 W _ b2 _ => hwell1_any x a1 c1 W ((gl.below (al1 w o) (Nat.le_refl _)).below b2 (Nat.le_refl _)))
  have E2 := fun W (b : Below w.heap.size w W) => every_Enum 58 #[] (fun x => frtS x.n && x.ws.all frwS) W (h.es.on b) (fun _ _ => rfl) (fun x a1 c1 W2 _ b2 hw => hwell2_any x a1 c1 W2 ((gl.below b (Nat.le_refl _)).below b2 (Nat.le_refl _)) hw)
  obtain ⟨a, c, rfl, _, _⟩ := h.os.slice
  obtain ⟨a', c', rfl, _, _⟩ := h.es.slice
  unfold namS
  generalize s.os.all (fun x => frtS x.n) = b1 at *
  generalize s.es.all (fun x => frtS x.n && x.ws.all frwS) = b2 at *
  cases b1 with
  | false =>
    go_enter Tryz.func25, Tryz.ntmps25
    go_wp2_with (first
      | (go_at_call 52; (with_reducible refine (E1 _).mono ?_); rintro e w3 ⟨rfl, b3⟩)
      | fail)
    go_ret
    exact ⟨by simp, (al1 w _).trans (b3.mono (al1 w _).size)⟩
  | true =>
    go_enter Tryz.func25, Tryz.ntmps25
    go_wp2_with (first
      | (go_at_call 54; (with_reducible refine (E2 _ B3).mono ?_); rintro e w4 ⟨rfl, b4⟩)
      | (go_at_call 52; (with_reducible refine (E1 _).mono ?_); rintro e w3 ⟨rfl, b3⟩; have B3 := (al1 w _).trans (b3.mono (al1 w _).size); obtain ⟨q0, q1, fq⟩ := row2 ((b3.block _ (by simp)).trans (heap_alloc_new w (.cells #[.slice a s.os.length c, .slice a' s.es.length c'] 25))))
      | fail)
    go_ret
    exact ⟨by simp, B3.trans (b4.mono B3.size)⟩
end
end Go.Proofs.YtfkgmgnoijokdaaGreatDoor
