/- Where any name stands in any schema, where any field leads, and what leads back, is as the document says: for any schema, any string, any field (within the form's own reach of 2^47 - 4096 bytes); the listed package variables are as the program's text lays them (tied). -/
import Derived.Test.YtfkgmgnoijokdaaGreatDoorC01
import Derived.Deep.Slices
import Derived.OpenShut
import Derived.ProofKit
import Derived.SizedLaws
import Derived.Test.YtfkgmgnoijokdaaGreatDoorRows
import Derived.Test.YtfkgmgnoijokdaaGreatDoorLxK
import Derived.Lib.LaidU8
import Derived.LaidMore
import Derived.Stop.LaidErr
import Derived.Lay
import Derived.Shelf.Vars
import Derived.Test.YtfkgmgnoijokdaaGreatDoorTie
import Derived.Test.YtfkgmgnoijokdaaGreatDoorCards
import Derived.ShutString
import Derived.ChangeOld
import Derived.SevenTiedAt
import Derived.Stop.Joined
import Derived.Carry
namespace Go.Proofs.YtfkgmgnoijokdaaGreatDoor
open Go Go.RowKit Go.Shelf
set_option maxRecDepth 100000 in
theorem iscalar_any (x : Bs) (w : World) : Calls Tryz.prog 17 #[.string ⟨x.toArray⟩] w fun e w' => e = .returned (.bool (scaS x)) ∧ w' = w := by
  show Calls Tryz.prog 17 #[.string ⟨x.toArray⟩] w fun e w' => e = .returned (.bool (x == [73, 110, 116] || x == [70, 108, 111, 97, 116] || x == [83, 116, 114, 105, 110, 103] || x == [66, 111, 111, 108, 101, 97, 110])) ∧ w' = w
  cases c_intB : (x == [73, 110, 116]) with
  | true =>
    go_enter Tryz.func17, Tryz.ntmps17
    go_wp2
    go_ret
    exact ⟨rfl, rfl⟩
  | false =>
    cases c_floB : (x == [70, 108, 111, 97, 116]) with
    | true =>
      go_enter Tryz.func17, Tryz.ntmps17
      go_wp2
      go_ret
      exact ⟨rfl, rfl⟩
    | false =>
      cases c_strB : (x == [83, 116, 114, 105, 110, 103]) with
      | true =>
        go_enter Tryz.func17, Tryz.ntmps17
        go_wp2
        go_ret
        exact ⟨rfl, rfl⟩
      | false =>
        cases c_booB : (x == [66, 111, 111, 108, 101, 97, 110]) with
        | true =>
          go_enter Tryz.func17, Tryz.ntmps17
          go_wp2
          go_ret
          exact ⟨rfl, rfl⟩
        | false =>
          go_enter Tryz.func17, Tryz.ntmps17
          go_wp2
          go_ret
          exact ⟨rfl, rfl⟩
section
variable {w : World} {ov ev : Value} {s : Sch}
set_option maxRecDepth 100000 in
set_option maxHeartbeats 2000000 in
theorem iobject_any (h : SchAt w ov ev s) (y : Bs) : Calls Tryz.prog 13 #[.agg #[ov, ev], .string ⟨y.toArray⟩] w fun e w' => e = .returned (.int .i64 (objS s y)) ∧ Below w.heap.size w w' := by
  obtain ⟨a', c', rfl, _, _⟩ := h.es.slice
  obtain ⟨a, c, rfl, hc, hn, hr⟩ := h.os
  have A1 := al1 w (.cells #[.slice a s.os.length c, .slice a' s.es.length c'] 25)
  obtain ⟨m0, m1, fm⟩ := row2 (heap_alloc_new w (.cells #[.slice a s.os.length c, .slice a' s.es.length c'] 25))
  go_enter Tryz.func13, Tryz.ntmps13
  go_wp2
  go_loopw [5] (fun i wr => ∃ j : Nat, i = .int .i64 (j : Int) ∧ j ≤ (s.os).length ∧ (∀ (q : Nat) z, q < j → ((s.os).map (·.n))[q]? = some z → (z == y) = false) ∧ Below (w.alloc (.cells #[.slice a s.os.length c, .slice a' s.es.length c'] 25)).heap.size (w.alloc (.cells #[.slice a s.os.length c, .slice a' s.es.length c'] 25)) wr) (fun i _ => (s.os).length - (RowKit.intOf i).toNat)
  case atStart => exact ⟨0, rfl, Nat.zero_le _, fun q z hq => absurd hq (Nat.not_lt_zero _), Below.refl _ _⟩
  case round =>
    obtain ⟨j, rfl, hj, hno, hbr⟩ := hrel
    have p0 := cell_on hbr m0
    have p1 := cell_on hbr m1
    have HB : Hid (Below w.heap.size w wr) := A1.trans (hbr.mono A1.size)
    by_cases hlt : j < (s.os).length
    · obtain ⟨b, o, rfl, hbl, hH⟩ := hr (by omega)
      obtain ⟨x, hx⟩ : ∃ x, (s.os)[j]? = some x := ⟨_, List.getElem?_eq_getElem hlt⟩
      have e0 := (hH j hlt x hx).1
      have f0 := cell_on HB.out e0
      have hbe := bytes_eq x.n y
      have l1 : ((j : Nat) : Int) < ((s.os).length : Int) := by omega
      have hjN : ((j : Nat) : Int).toNat = j := by omega
      have hz : Hid (j + 1 ≤ (s.os).length) := hlt
      have HN : Hid (∀ (q : Nat) z, q < j → ((s.os).map (·.n))[q]? = some z → (z == y) = false) := hno
      have HM : Hid (((s.os).map (·.n))[j]? = some x.n) := (by rw [List.getElem?_map, hx]; rfl)
      clear hno hH hr hx e0 hlt
      cases hq : (x.n == y) with
      | true =>
        have HP : Hid (objS s y = (j : Int)) := by
          have e : x.n = y := by simpa using hq
          have h2 := HM.out
          rw [e] at h2
          exact plB_hit h2 HN.out
        go_wp2
        go_ret
        exact ⟨by rw [HP.out]; rfl, HB.out⟩
      | false =>
        have hno2 : Hid (∀ (q : Nat) z, q < j + 1 → ((s.os).map (·.n))[q]? = some z → (z == y) = false) := by
          intro q z hq1 hz1
          by_cases e : q = j
          · subst e
            rw [HM.out] at hz1
            cases hz1
            exact hq
          · exact HN.out q z (by omega) hz1
        go_wp2
        refine ⟨⟨j + 1, by simp, hz.out, hno2.out, hbr⟩, ?_⟩
        have := hz.out
        simp [RowKit.intOf]
        omega
    · have l2 : decide (((j : Nat) : Int) < ((s.os).length : Int)) = false := by simp; omega
      have l3 : decide (j < (s.os).length) = false := by simp; omega
      have HP : Hid (objS s y = -1) := plB_none fun q z hz => hno q z (by
        have := (List.getElem?_eq_some_iff.1 hz).1
        rw [List.length_map] at this
        omega) hz
      clear hno hr hlt hj
      go_wp2
      go_ret
      exact ⟨by rw [HP.out]; rfl, HB.out⟩
set_option maxRecDepth 100000 in
set_option maxHeartbeats 2000000 in
theorem ienum_any (h : SchAt w ov ev s) (y : Bs) : Calls Tryz.prog 15 #[.agg #[ov, ev], .string ⟨y.toArray⟩] w fun e w' => e = .returned (.int .i64 (enuS s y)) ∧ Below w.heap.size w w' := by
  obtain ⟨a, c, rfl, _, _⟩ := h.os.slice
  obtain ⟨a', c', rfl, hc, hn, hr⟩ := h.es
  have A1 := al1 w (.cells #[.slice a s.os.length c, .slice a' s.es.length c'] 25)
  obtain ⟨m0, m1, fm⟩ := row2 (heap_alloc_new w (.cells #[.slice a s.os.length c, .slice a' s.es.length c'] 25))
  go_enter Tryz.func15, Tryz.ntmps15
  go_wp2
  go_loopw [5] (fun i wr => ∃ j : Nat, i = .int .i64 (j : Int) ∧ j ≤ (s.es).length ∧ (∀ (q : Nat) z, q < j → ((s.es).map (·.n))[q]? = some z → (z == y) = false) ∧ Below (w.alloc (.cells #[.slice a s.os.length c, .slice a' s.es.length c'] 25)).heap.size (w.alloc (.cells #[.slice a s.os.length c, .slice a' s.es.length c'] 25)) wr) (fun i _ => (s.es).length - (RowKit.intOf i).toNat)
  case atStart => exact ⟨0, rfl, Nat.zero_le _, fun q z hq => absurd hq (Nat.not_lt_zero _), Below.refl _ _⟩
  case round =>
    obtain ⟨j, rfl, hj, hno, hbr⟩ := hrel
    have p0 := cell_on hbr m0
    have p1 := cell_on hbr m1
    have HB : Hid (Below w.heap.size w wr) := A1.trans (hbr.mono A1.size)
    by_cases hlt : j < (s.es).length
    · obtain ⟨b, o, rfl, hbl, hH⟩ := hr (by omega)
      obtain ⟨x, hx⟩ : ∃ x, (s.es)[j]? = some x := ⟨_, List.getElem?_eq_getElem hlt⟩
      have e0 := (hH j hlt x hx).1
      have f0 := cell_on HB.out e0
      have hbe := bytes_eq x.n y
      have l1 : ((j : Nat) : Int) < ((s.es).length : Int) := by omega
      have hjN : ((j : Nat) : Int).toNat = j := by omega
      have hz : Hid (j + 1 ≤ (s.es).length) := hlt
      have HN : Hid (∀ (q : Nat) z, q < j → ((s.es).map (·.n))[q]? = some z → (z == y) = false) := hno
      have HM : Hid (((s.es).map (·.n))[j]? = some x.n) := (by rw [List.getElem?_map, hx]; rfl)
      clear hno hH hr hx e0 hlt
      cases hq : (x.n == y) with
      | true =>
        have HP : Hid (enuS s y = (j : Int)) := by
          have e : x.n = y := by simpa using hq
          have h2 := HM.out
          rw [e] at h2
          exact plB_hit h2 HN.out
        go_wp2
        go_ret
        exact ⟨by rw [HP.out]; rfl, HB.out⟩
      | false =>
        have hno2 : Hid (∀ (q : Nat) z, q < j + 1 → ((s.es).map (·.n))[q]? = some z → (z == y) = false) := by
          intro q z hq1 hz1
          by_cases e : q = j
          · subst e
            rw [HM.out] at hz1
            cases hz1
            exact hq
          · exact HN.out q z (by omega) hz1
        go_wp2
        refine ⟨⟨j + 1, by simp, hz.out, hno2.out, hbr⟩, ?_⟩
        have := hz.out
        simp [RowKit.intOf]
        omega
    · have l2 : decide (((j : Nat) : Int) < ((s.es).length : Int)) = false := by simp; omega
      have l3 : decide (j < (s.es).length) = false := by simp; omega
      have HP : Hid (enuS s y = -1) := plB_none fun q z hz => hno q z (by
        have := (List.getElem?_eq_some_iff.1 hz).1
        rw [List.length_map] at this
        omega) hz
      clear hno hr hlt hj
      go_wp2
      go_ret
      exact ⟨by rw [HP.out]; rfl, HB.out⟩
set_option maxRecDepth 100000 in
set_option maxHeartbeats 2000000 in
theorem ifield_any (p : Ob) {fv : Value} (h : FldsAt w fv p.fs) (y : Bs) : Calls Tryz.prog 50 #[.agg #[.string ⟨p.n.toArray⟩, fv], .string ⟨y.toArray⟩] w fun e w' => e = .returned (.int .i64 (plB y (p.fs.map (·.n)))) ∧ Below w.heap.size w w' := by
  obtain ⟨a, c, rfl, hc, hn, hr⟩ := h
  have A1 := al1 w (.cells #[.string ⟨p.n.toArray⟩, .slice a p.fs.length c] 41)
  obtain ⟨m0, m1, fm⟩ := row2 (heap_alloc_new w (.cells #[.string ⟨p.n.toArray⟩, .slice a p.fs.length c] 41))
  go_enter Tryz.func50, Tryz.ntmps50
  go_wp2
  go_loopw [5] (fun i wr => ∃ j : Nat, i = .int .i64 (j : Int) ∧ j ≤ (p.fs).length ∧ (∀ (q : Nat) z, q < j → ((p.fs).map (·.n))[q]? = some z → (z == y) = false) ∧ Below (w.alloc (.cells #[.string ⟨p.n.toArray⟩, .slice a p.fs.length c] 41)).heap.size (w.alloc (.cells #[.string ⟨p.n.toArray⟩, .slice a p.fs.length c] 41)) wr) (fun i _ => (p.fs).length - (RowKit.intOf i).toNat)
  case atStart => exact ⟨0, rfl, Nat.zero_le _, fun q z hq => absurd hq (Nat.not_lt_zero _), Below.refl _ _⟩
  case round =>
    obtain ⟨j, rfl, hj, hno, hbr⟩ := hrel
    have p0 := cell_on hbr m0
    have p1 := cell_on hbr m1
    have HB : Hid (Below w.heap.size w wr) := A1.trans (hbr.mono A1.size)
    by_cases hlt : j < (p.fs).length
    · obtain ⟨b, o, rfl, hbl, hH⟩ := hr (by omega)
      obtain ⟨x, hx⟩ : ∃ x, (p.fs)[j]? = some x := ⟨_, List.getElem?_eq_getElem hlt⟩
      have e0 := (hH j hlt x hx).1
      have f0 := cell_on HB.out e0
      have hbe := bytes_eq x.n y
      have l1 : ((j : Nat) : Int) < ((p.fs).length : Int) := by omega
      have hjN : ((j : Nat) : Int).toNat = j := by omega
      have hz : Hid (j + 1 ≤ (p.fs).length) := hlt
      have HN : Hid (∀ (q : Nat) z, q < j → ((p.fs).map (·.n))[q]? = some z → (z == y) = false) := hno
      have HM : Hid (((p.fs).map (·.n))[j]? = some x.n) := (by rw [List.getElem?_map, hx]; rfl)
      clear hno hH hr hx e0 hlt
      cases hq : (x.n == y) with
      | true =>
        have HP : Hid (plB y (p.fs.map (·.n)) = (j : Int)) := by
          have e : x.n = y := by simpa using hq
          have h2 := HM.out
          rw [e] at h2
          exact plB_hit h2 HN.out
        go_wp2
        go_ret
        exact ⟨by rw [HP.out]; rfl, HB.out⟩
      | false =>
        have hno2 : Hid (∀ (q : Nat) z, q < j + 1 → ((p.fs).map (·.n))[q]? = some z → (z == y) = false) := by
          intro q z hq1 hz1
          by_cases e : q = j
          · subst e
            rw [HM.out] at hz1
            cases hz1
            exact hq
          · exact HN.out q z (by omega) hz1
        go_wp2
        refine ⟨⟨j + 1, by simp, hz.out, hno2.out, hbr⟩, ?_⟩
        have := hz.out
        simp [RowKit.intOf]
        omega
    · have l2 : decide (((j : Nat) : Int) < ((p.fs).length : Int)) = false := by simp; omega
      have l3 : decide (j < (p.fs).length) = false := by simp; omega
      have HP : Hid (plB y (p.fs.map (·.n)) = -1) := plB_none fun q z hz => hno q z (by
        have := (List.getElem?_eq_some_iff.1 hz).1
        rw [List.length_map] at this
        omega) hz
      clear hno hr hlt hj
      go_wp2
      go_ret
      exact ⟨by rw [HP.out]; rfl, HB.out⟩
set_option maxRecDepth 100000 in
set_option maxHeartbeats 2000000 in
theorem iproperty_any (h : SchAt w ov ev s) (f : Fld) : Calls Tryz.prog 45 #[.agg #[ov, ev], fldV f] w fun e w' => e = .returned (.bool (prpS s f)) ∧ Below w.heap.size w w' := by
  have SCL := fun W => iscalar_any f.t W
  have EN := fun o o' => ienum_any (h.on (al2 w o o')) f.t
  obtain ⟨a, c, rfl, _, _⟩ := h.os.slice
  obtain ⟨a', c', rfl, _, _⟩ := h.es.slice
  obtain ⟨fn, ft, fw, fs, fi⟩ := f
  unfold prpS
  simp only at *
  generalize enuS s ft = k at *
  generalize scaS ft = b at *
  cases b with
  | true =>
    go_enter Tryz.func45, Tryz.ntmps45
    go_wp2_with (first
      | (go_at_call 17; (with_reducible refine (SCL _).mono ?_); rintro e w2 ⟨rfl, rfl⟩)
      | fail)
    go_ret
    exact ⟨by simp, al2 w _ _⟩
  | false =>
    go_enter Tryz.func45, Tryz.ntmps45
    go_wp2_with (first
      | (go_at_call 15; (with_reducible refine (EN _ _).mono ?_); rintro e w3 ⟨rfl, b3⟩)
      | (go_at_call 17; (with_reducible refine (SCL _).mono ?_); rintro e w2 ⟨rfl, rfl⟩)
      | fail)
    go_ret
    exact ⟨by simp, (al2 w _ _).trans (b3.mono (al2 w _ _).size)⟩
set_option maxRecDepth 100000 in
set_option maxHeartbeats 2000000 in
theorem iedge_any (h : SchAt w ov ev s) (f : Fld) : Calls Tryz.prog 19 #[.agg #[ov, ev], fldV f] w fun e w' => e = .returned (.int .i64 (edgS s f)) ∧ Below w.heap.size w w' := by
  have PR := fun o o' => iproperty_any (h.on (al2 w o o')) f
  have OB := fun W (b : Below w.heap.size w W) => iobject_any (h.on b) f.t
  obtain ⟨a, c, rfl, _, _⟩ := h.os.slice
  obtain ⟨a', c', rfl, _, _⟩ := h.es.slice
  unfold edgS
  generalize prpS s f = b at *
  obtain ⟨fn, ft, fw, fs, fi⟩ := f
  simp only at *
  generalize objS s ft = k at *
  cases b with
  | true =>
    go_enter Tryz.func19, Tryz.ntmps19
    go_wp2_with (first
      | (go_at_call 45; (with_reducible refine (PR _ _).mono ?_); rintro e w2 ⟨rfl, b2⟩)
      | fail)
    go_ret
    exact ⟨by simp, (al2 w _ _).trans (b2.mono (al2 w _ _).size)⟩
  | false =>
    go_enter Tryz.func19, Tryz.ntmps19
    go_wp2_with (first
      | (go_at_call 13; (with_reducible refine (OB _ B2).mono ?_); rintro e w3 ⟨rfl, b3⟩)
      | (go_at_call 45; (with_reducible refine (PR _ _).mono ?_); rintro e w2 ⟨rfl, b2⟩; have B2 := (al2 w _ _).trans (b2.mono (al2 w _ _).size); obtain ⟨q0, q1, fq⟩ := row2 ((b2.block _ (by rw [World.size_alloc, World.size_alloc]; omega)).trans (new1 w (.cells #[.slice a s.os.length c, .slice a' s.es.length c'] 25) (.cells #[.string ⟨fn.toArray⟩, .string ⟨ft.toArray⟩, .string ⟨fw.toArray⟩, .bool fs, .string ⟨fi.toArray⟩] 33))); obtain ⟨n0, n1, n2, n3, n4, fn5⟩ := row5 ((b2.block _ (by rw [World.size_alloc, World.size_alloc]; omega)).trans (new2 w (.cells #[.slice a s.os.length c, .slice a' s.es.length c'] 25) (.cells #[.string ⟨fn.toArray⟩, .string ⟨ft.toArray⟩, .string ⟨fw.toArray⟩, .bool fs, .string ⟨fi.toArray⟩] 33))))
      | fail)
    go_ret
    exact ⟨by simp, B2.trans (b3.mono B2.size)⟩
end
end Go.Proofs.YtfkgmgnoijokdaaGreatDoor
namespace Go.Proofs.YtfkgmgnoijokdaaGreatDoor
open Go Go.RowKit Go.Shelf
section
variable {w : World} {ov ev : Value} {s : Sch}
set_option maxRecDepth 100000 in
set_option maxHeartbeats 4000000 in
theorem iback_any (h : SchAt w ov ev s) (i k : Int) : Calls Tryz.prog 21 #[.agg #[ov, ev], .int .i64 i, .int .i64 k] w fun e w' => e = .returned (.int .i64 (backS s i k)) ∧ Below w.heap.size w w' := by
  have hos := h.os
  obtain ⟨a', c', rfl, _, _⟩ := h.es.slice
  obtain ⟨a, c, rfl, hc, hn⟩ := h.os.slice
  by_cases hi : 0 ≤ i ∧ i < (s.os.length : Int)
  · obtain ⟨I, rfl⟩ : ∃ I : Nat, i = (I : Int) := ⟨i.toNat, by omega⟩
    obtain ⟨x, hx⟩ : ∃ x, s.os[I]? = some x := ⟨_, List.getElem?_eq_getElem (by omega)⟩
    obtain ⟨b, o, c0, a1, c1, hv, hbl, _, e0, e1, hfs⟩ := ob_cells hos hx
    cases hv
    have HA : atI s.os (I : Int) = some x := atI_some hx
    have l1 : ((I : Nat) : Int) < (s.os.length : Int) := hi.2
    have l1d : decide ((I : Int) < 0) = false := by rw [decide_eq_false_iff_not]; omega
    have l1e : decide ((s.os.length : Int) ≤ (I : Int)) = false := by rw [decide_eq_false_iff_not]; omega
    have l1f : decide (s.os.length ≤ I) = false := by rw [decide_eq_false_iff_not]; omega
    have hIn : ((I : Nat) : Int).toNat = I := by omega
    have d0 := fun o => cell_on (al1 w o) e0
    have d1 := fun o => cell_on (al1 w o) e1
    by_cases hk : 0 ≤ k ∧ k < (x.fs.length : Int)
    · obtain ⟨K, rfl⟩ : ∃ K : Nat, k = (K : Int) := ⟨k.toNat, by omega⟩
      obtain ⟨f, hf⟩ : ∃ f, x.fs[K]? = some f := ⟨_, List.getElem?_eq_getElem (by omega)⟩
      obtain ⟨b1, o1, rfl, hbl1, _, g0, g1, g2, g3, g4⟩ := fld_cells hfs hf
      have HB : Hid (backS s (I : Int) (K : Int) = if edgS s f < 0 ∨ f.i = [] then -1 else match atI s.os (edgS s f) with
          | none => -1
          | some p => plB f.i (p.fs.map (·.n))) := by
        show _ = _
        unfold backS
        rw [HA]
        simp only [atI_some hf]
        rfl
      have l2 : ((K : Nat) : Int) < (x.fs.length : Int) := hk.2
      have l2d : decide ((K : Int) < 0) = false := by rw [decide_eq_false_iff_not]; omega
      have l2e : decide ((x.fs.length : Int) ≤ (K : Int)) = false := by rw [decide_eq_false_iff_not]; omega
      have l2f : decide (x.fs.length ≤ K) = false := by rw [decide_eq_false_iff_not]; omega
      have hKn : ((K : Nat) : Int).toNat = K := by omega
      have ED := fun w2 (bb : Below w.heap.size w w2) => iedge_any (h.on bb) f
      have hrg := edg_range s f
      obtain ⟨t, ht⟩ : ∃ t, t = edgS s f := ⟨_, rfl⟩
      rw [← ht] at ED HB hrg
      have k0 := fun o => cell_on (al1 w o) g0
      have k1 := fun o => cell_on (al1 w o) g1
      have k2 := fun o => cell_on (al1 w o) g2
      have k3 := fun o => cell_on (al1 w o) g3
      have k4 := fun o => cell_on (al1 w o) g4
      have HT : Hid (t = edgS s f) := ht
      clear ht hx hf HA hi hk
      obtain ⟨fn, ft, fw, fs, fi⟩ := f
      simp only at k0 k1 k2 k3 k4
      by_cases ht0 : t < 0
      · have HC : Hid (backS s (I : Int) (K : Int) = -1) := by
          show _ = _
          rw [HB.out, if_pos (Or.inl ht0)]
        clear HB
        go_enter Tryz.func21, Tryz.ntmps21
        go_wp2_with (first
          | (go_at_call 19; (with_reducible refine (ED _ (al2 w _ _)).mono ?_); rintro e w3 ⟨rfl, b3⟩)
          | fail)
        go_ret
        exact ⟨by rw [HC.out]; rfl, (al2 w _ _).trans (b3.mono (al2 w _ _).size)⟩
      · have ht1 : decide (t < 0) = false := by simp; omega
        by_cases hfi : fi = []
        · have HC : Hid (backS s (I : Int) (K : Int) = -1) := by
            show _ = _
            rw [HB.out, if_pos (Or.inr hfi)]
          subst hfi
          clear HB
          go_enter Tryz.func21, Tryz.ntmps21
          go_wp2_with (first
            | (go_at_call 19; (with_reducible refine (ED _ (al2 w _ _)).mono ?_); rintro e w3 ⟨rfl, b3⟩; obtain ⟨n0, n1, n2, n3, n4, fn5⟩ := row5 ((b3.block _ (by rw [World.size_alloc, World.size_alloc]; omega)).trans (new2 w (.cells #[.slice (some ⟨b, o, none⟩) s.os.length c, .slice a' s.es.length c'] 25) (.cells #[.string ⟨fn.toArray⟩, .string ⟨ft.toArray⟩, .string ⟨fw.toArray⟩, .bool fs, .string ⟨#[]⟩] 33))))
            | fail)
          go_ret
          exact ⟨by rw [HC.out]; rfl, (al2 w _ _).trans (b3.mono (al2 w _ _).size)⟩
        · have hfi2 : (fi == []) = false := by simpa using hfi
          obtain ⟨Tn, rfl⟩ : ∃ Tn : Nat, t = (Tn : Int) := ⟨t.toNat, by omega⟩
          obtain ⟨p, hp⟩ : ∃ p, s.os[Tn]? = some p := ⟨_, List.getElem?_eq_getElem (by omega)⟩
          obtain ⟨b', o', c0', a2, c2, hv', hbl', _, e0', e1', hfs'⟩ := ob_cells hos hp
          cases hv'
          have HC : Hid (backS s (I : Int) (K : Int) = plB fi (p.fs.map (·.n))) := by
            show _ = _
            rw [HB.out, if_neg (by rintro (e | e); exact ht0 e; exact hfi e), atI_some hp]
          have l3 : ((Tn : Nat) : Int) < (s.os.length : Int) := hrg.2
          have hTn : ((Tn : Nat) : Int).toNat = Tn := by omega
          clear HB hp hfi ht0 hrg
          go_enter Tryz.func21, Tryz.ntmps21
          go_wp2_with (first
            | (go_at_call 19; (with_reducible refine (ED _ (al2 w _ _)).mono ?_); rintro e w3 ⟨rfl, b3⟩; have B3 := (al2 w _ _).trans (b3.mono (al2 w _ _).size); obtain ⟨n0, n1, n2, n3, n4, fn5⟩ := row5 ((b3.block _ (by rw [World.size_alloc, World.size_alloc]; omega)).trans (new2 w (.cells #[.slice (some ⟨b, o, none⟩) s.os.length c, .slice a' s.es.length c'] 25) (.cells #[.string ⟨fn.toArray⟩, .string ⟨ft.toArray⟩, .string ⟨fw.toArray⟩, .bool fs, .string ⟨fi.toArray⟩] 33))); obtain ⟨q0, q1, fq⟩ := row2 ((b3.block _ (by rw [World.size_alloc, World.size_alloc]; omega)).trans (new1 w (.cells #[.slice (some ⟨b, o, none⟩) s.os.length c, .slice a' s.es.length c'] 25) (.cells #[.string ⟨fn.toArray⟩, .string ⟨ft.toArray⟩, .string ⟨fw.toArray⟩, .bool fs, .string ⟨fi.toArray⟩] 33))); have r0 := cell_on B3 e0'; have r1 := cell_on B3 e1')
            | fail)
          have PX : ∀ W, Below w3.heap.size w3 W → Calls Tryz.prog 50 #[.agg #[.string ⟨p.n.toArray⟩, .slice a2 p.fs.length c2], .string ⟨fi.toArray⟩] W fun e w' => e = .returned (.int .i64 (plB fi (p.fs.map (·.n)))) ∧ Below W.heap.size W w' := fun W bb => ifield_any p ((hfs'.on B3).on bb) fi
          have bd3 : Below w3.heap.size w3 w3.drew := ⟨rfl, rfl, rfl, Nat.le_refl _, fun _ _ => rfl⟩
          go_region_held3 (fun w' => w'.cell? ⟨w.heap.size, 0, none⟩ = some (.slice (some ⟨b, o, none⟩) s.os.length c) ∧ w'.cell? ⟨b, o + Tn * 2, none⟩ = some (.string ⟨p.n.toArray⟩) ∧ w'.cell? ⟨b, o + Tn * 2 + 1, none⟩ = some (.slice a2 p.fs.length c2) ∧ w'.cell? ⟨w.heap.size + 1, 4, none⟩ = some (.string ⟨fi.toArray⟩)) (go_keep) ((go_at_call 50; (with_reducible refine (PX _ bd3).mono ?_); rintro e w4 ⟨rfl, b4⟩; have s0 := cell_on b4 q0; have s1 := cell_on b4 r0; have s2 := cell_on b4 r1; have s3 := cell_on b4 n4))
          all_goals
            go_wp2
            go_ret
            exact ⟨by rw [HC.out]; rfl, B3.trans ((bel_drew0 b4).mono B3.size)⟩
    · have HB : Hid (backS s (I : Int) k = -1) := by
        show _ = _
        unfold backS
        rw [HA]
        simp only
        rw [atI_none hk]
      by_cases hk0 : k < 0
      · clear hk hi hx HA
        go_enter Tryz.func21, Tryz.ntmps21
        go_wp2
        go_ret
        exact ⟨by rw [HB.out]; rfl, al1 w _⟩
      · have hk1 : decide (k < 0) = false := by simpa using hk0
        have hk2 : (x.fs.length : Int) ≤ k := by omega
        clear hk hi hx HA hk0
        go_enter Tryz.func21, Tryz.ntmps21
        go_wp2
        go_ret
        exact ⟨by rw [HB.out]; rfl, al1 w _⟩
  · have HB : Hid (backS s i k = -1) := by
      show _ = _
      unfold backS
      rw [atI_none hi]
    by_cases hi0 : i < 0
    · clear hi
      go_enter Tryz.func21, Tryz.ntmps21
      go_wp2
      go_ret
      exact ⟨by rw [HB.out]; rfl, al1 w _⟩
    · have hi1 : decide (i < 0) = false := by simpa using hi0
      have hi2 : (s.os.length : Int) ≤ i := by omega
      clear hi hi0
      go_enter Tryz.func21, Tryz.ntmps21
      go_wp2
      go_ret
      exact ⟨by rw [HB.out]; rfl, al1 w _⟩
end
end Go.Proofs.YtfkgmgnoijokdaaGreatDoor
namespace Go.Proofs.YtfkgmgnoijokdaaGreatDoor
open Go Go.RowKit Go.Shelf
section
variable {w : World} {ov ev : Value} {s : Sch}
set_option maxRecDepth 100000 in
set_option maxHeartbeats 8000000 in
theorem finds_any (h : SchAt w ov ev s) (gl : Gl w) (y : Bs) (f : Fld) : Calls Tryz.prog 4 #[.agg #[ov, ev], .string ⟨y.toArray⟩, fldV f] w fun e w' => e = .returned (.bool true) ∧ Below w.heap.size w w' := by
  have hh := h
  obtain ⟨a, c, rfl, _, _⟩ := h.os.slice
  obtain ⟨a', c', rfl, _, _⟩ := h.es.slice
  obtain ⟨w0, hw0⟩ : ∃ w0, w0 = (w.alloc (.cells #[.slice a s.os.length c, .slice a' s.es.length c'] 25)).alloc (.cells #[.string ⟨f.n.toArray⟩, .string ⟨f.t.toArray⟩, .string ⟨f.w.toArray⟩, .bool f.s, .string ⟨f.i.toArray⟩] 33) := ⟨_, rfl⟩
  have A0 : Below w.heap.size w w0 := by rw [hw0]; exact al2 w _ _
  have HZ : ∀ {W : World}, Below w0.heap.size w0 W → Below w.heap.size w W := fun b => A0.trans (b.mono A0.size)
  have HS : ∀ {W : World}, Below w0.heap.size w0 W → SchAt W (.slice a s.os.length c) (.slice a' s.es.length c') s := fun b => hh.on (HZ b)
  obtain ⟨r0, r1, _⟩ := row2 (show w0.heap[w.heap.size]? = some (.cells #[.slice a s.os.length c, .slice a' s.es.length c'] 25) by rw [hw0]; exact new1 w _ _)
  obtain ⟨u0, u1, u2, u3, u4, _⟩ := row5 (show w0.heap[w.heap.size + 1]? = some (.cells #[.string ⟨f.n.toArray⟩, .string ⟨f.t.toArray⟩, .string ⟨f.w.toArray⟩, .bool f.s, .string ⟨f.i.toArray⟩] 33) by rw [hw0]; exact new2 w _ _)
  have S1 : ∀ {W : World}, Below w0.heap.size w0 W → (fun w' => w'.cell? ⟨w.heap.size, 0, none⟩ = some (.slice a s.os.length c) ∧ w'.cell? ⟨w.heap.size, 1, none⟩ = some (.slice a' s.es.length c') ∧ w'.cell? ⟨w.heap.size + 1, 0, none⟩ = some (.string ⟨f.n.toArray⟩) ∧ w'.cell? ⟨w.heap.size + 1, 1, none⟩ = some (.string ⟨f.t.toArray⟩) ∧ w'.cell? ⟨w.heap.size + 1, 2, none⟩ = some (.string ⟨f.w.toArray⟩) ∧ w'.cell? ⟨w.heap.size + 1, 3, none⟩ = some (.bool f.s) ∧ w'.cell? ⟨w.heap.size + 1, 4, none⟩ = some (.string ⟨f.i.toArray⟩)) W := fun b => ⟨cell_on b r0, cell_on b r1, cell_on b u0, cell_on b u1, cell_on b u2, cell_on b u3, cell_on b u4⟩
  have S2 : ∀ {W : World}, Below w0.heap.size w0 W → (fun w' => w'.cell? ⟨w.heap.size, 0, none⟩ = some (.slice a s.os.length c) ∧ w'.cell? ⟨w.heap.size, 1, none⟩ = some (.slice a' s.es.length c')) W := fun b => ⟨cell_on b r0, cell_on b r1⟩
  have FX := fun {W : World} (b : Below w0.heap.size w0 W) => lfixed_any W (gl.below (HZ b) (Nat.le_refl _))
  have O1 := fun {W : World} (b : Below w0.heap.size w0 W) => hobject_any (HS b) y
  have O2 := fun {W : World} (b : Below w0.heap.size w0 W) => iobject_any (HS b) y
  have E1 := fun {W : World} (b : Below w0.heap.size w0 W) => henum_any (HS b) y
  have E2 := fun {W : World} (b : Below w0.heap.size w0 W) => ienum_any (HS b) y
  have K1 := fun {W : World} (_ : Below w0.heap.size w0 W) => hscalar_any y W
  have K2 := fun {W : World} (_ : Below w0.heap.size w0 W) => iscalar_any y W
  have G1 := fun {W : World} (b : Below w0.heap.size w0 W) => hedge_any (HS b) f
  have G2 := fun {W : World} (b : Below w0.heap.size w0 W) => iedge_any (HS b) f
  have P1 := fun {W : World} (b : Below w0.heap.size w0 W) (i k : Int) => hback_any (HS b) i k
  have P2 := fun {W : World} (b : Below w0.heap.size w0 W) (i k : Int) => iback_any (HS b) i k
  have D0 : Below w0.heap.size w0 w0.drew := ⟨rfl, rfl, rfl, Nat.le_refl _, fun _ _ => rfl⟩
  have DD : ∀ {W : World}, Below w0.heap.size w0 W → Below w0.heap.size w0 W.drew := fun b => ⟨b.os, b.tape, b.output, b.size, b.block⟩
  generalize objS s y = k1 at *
  generalize enuS s y = k2 at *
  generalize scaS y = k3 at *
  generalize edgS s f = k4 at *
  obtain ⟨fn, ft, fw, fs, fi⟩ := f
  simp only at *
  go_enter Tryz.func4, Tryz.ntmps4
  go_wp2
  rw [← hw0]
  clear hw0
  go_region_held3 (fun w' => w'.cell? ⟨w.heap.size, 0, none⟩ = some (.slice a s.os.length c) ∧ w'.cell? ⟨w.heap.size, 1, none⟩ = some (.slice a' s.es.length c') ∧ w'.cell? ⟨w.heap.size + 1, 0, none⟩ = some (.string ⟨fn.toArray⟩) ∧ w'.cell? ⟨w.heap.size + 1, 1, none⟩ = some (.string ⟨ft.toArray⟩) ∧ w'.cell? ⟨w.heap.size + 1, 2, none⟩ = some (.string ⟨fw.toArray⟩) ∧ w'.cell? ⟨w.heap.size + 1, 3, none⟩ = some (.bool fs) ∧ w'.cell? ⟨w.heap.size + 1, 4, none⟩ = some (.string ⟨fi.toArray⟩)) (first | exact S1 D9 | exact S1 D8 | exact S1 D7 | exact S1 D6 | exact S1 D5 | exact S1 D4 | exact S1 D3 | exact S1 D2 | exact S1 D1 | exact S1 D0) ((first
    | (go_at_call 19; (with_reducible refine (G2 D8).mono ?_); rintro e x9 ⟨rfl, b9⟩; have D9 := D8.trans (b9.mono D8.size); clear b9)
    | (go_at_call 18; (with_reducible refine (G1 D7).mono ?_); rintro e x8 ⟨rfl, b8⟩; have D8 := D7.trans (b8.mono D7.size); clear b8)
    | (go_at_call 17; (with_reducible refine (K2 D6).mono ?_); rintro e x7 ⟨rfl, hx7⟩; have D7 : Below w0.heap.size w0 x7 := (by rw [hx7]; exact D6); clear hx7)
    | (go_at_call 16; (with_reducible refine (K1 D5).mono ?_); rintro e x6 ⟨rfl, hx6⟩; have D6 : Below w0.heap.size w0 x6 := (by rw [hx6]; exact D5); clear hx6)
    | (go_at_call 15; (with_reducible refine (E2 D4).mono ?_); rintro e x5 ⟨rfl, b5⟩; have D5 := D4.trans (b5.mono D4.size); clear b5)
    | (go_at_call 14; (with_reducible refine (E1 D3).mono ?_); rintro e x4 ⟨rfl, b4⟩; have D4 := D3.trans (b4.mono D3.size); clear b4)
    | (go_at_call 13; (with_reducible refine (O2 D2).mono ?_); rintro e x3 ⟨rfl, b3⟩; have D3 := D2.trans (b3.mono D2.size); clear b3)
    | (go_at_call 12; (with_reducible refine (O1 D1).mono ?_); rintro e x2 ⟨rfl, b2⟩; have D2 := D1.trans (b2.mono D1.size); clear b2)
    | (go_at_call 9; (with_reducible refine (FX D0).mono ?_); rintro e x1 ⟨rfl, b1⟩; have D1 := D0.trans (b1.mono D0.size); clear b1)
    | fail))
  go_wp2
  have HN : Hid (0 ≤ s.os.length) := Nat.zero_le _
  go_loopw [7] (fun iv wr => ∃ i : Int, iv = .int .i64 i ∧ -1 ≤ i ∧ i ≤ 20 ∧ Below w0.heap.size w0 wr) (fun iv _ => (20 - RowKit.intOf iv).toNat)
  case atStart => exact ⟨-1, rfl, by omega, by omega, D9⟩
  case round =>
    obtain ⟨i, rfl, hi1, hi2, hbr⟩ := hrel
    obtain ⟨z0, z1⟩ := S2 hbr
    by_cases hc : i ≤ (s.os.length : Int) ∧ i < 20
    · have hc1 : i ≤ (s.os.length : Int) := hc.1
      have hc2 : i < 20 := hc.2
      clear hc
      generalize wr = wB at *
      go_wp2
      go_loopw [8] (fun kv wr => ∃ k : Int, kv = .int .i64 k ∧ -1 ≤ k ∧ k ≤ 16 ∧ Below w0.heap.size w0 wr) (fun kv _ => (16 - RowKit.intOf kv).toNat)
      case atStart => exact ⟨-1, rfl, by omega, by omega, hbr⟩
      case round =>
        obtain ⟨k, rfl, hk1, hk2, hbk⟩ := hrel
        by_cases hk : k < 16
        · have Q1 := fun {W : World} (b : Below w0.heap.size w0 W) => P1 b i k
          have Q2 := fun {W : World} (b : Below w0.heap.size w0 W) => P2 b i k
          obtain ⟨y0, y1⟩ := S2 hbk
          generalize backS s i k = kb at *
          go_wp2
          go_region_held3 (fun w' => w'.cell? ⟨w.heap.size, 0, none⟩ = some (.slice a s.os.length c) ∧ w'.cell? ⟨w.heap.size, 1, none⟩ = some (.slice a' s.es.length c')) (first | exact S2 J2 | exact S2 J1 | exact S2 (DD hbk)) ((first
            | (go_at_call 21; (with_reducible refine (Q2 J1).mono ?_); rintro e j2 ⟨rfl, g2⟩; have J2 := J1.trans (g2.mono J1.size); clear g2)
            | (go_at_call 20; (with_reducible refine (Q1 (DD hbk)).mono ?_); rintro e j1 ⟨rfl, g1⟩; have J1 := (DD hbk).trans (g1.mono (DD hbk).size); clear g1)
            | fail))
          go_wp2
          refine ⟨⟨k + 1, by simp, by omega, by omega, J2⟩, ?_⟩
          simp [RowKit.intOf]
          omega
        · have hkd : decide (k < 16) = false := by simp; omega
          clear hk
          go_wp2
          refine ⟨⟨i + 1, by simp, by omega, by omega, hbk⟩, ?_⟩
          simp [RowKit.intOf]
          omega
    · by_cases hc1 : i ≤ (s.os.length : Int)
      · have hc2 : decide (i < 20) = false := by simp; omega
        clear hc
        go_wp2
        go_ret
        exact ⟨rfl, HZ hbr⟩
      · have hc2 : decide (i ≤ (s.os.length : Int)) = false := by simp; omega
        clear hc hc1
        go_wp2
        go_ret
        exact ⟨rfl, HZ hbr⟩
end
end Go.Proofs.YtfkgmgnoijokdaaGreatDoor
namespace Go.Proofs.YtfkgmgnoijokdaaGreatDoor
open Go Go.RowKit Go.ChangeShapes Go.WideShapes Go.Deep
/-- Nothing within it is beyond the form's reach. -/
def Wt {H : Type} (t : TypeId) (d : DataW H) : Prop := ∀ n ∈ d.weights Tryz.prog t, n ≤ reachBytes
theorem mem_weightsAll {H : Type} {e : TypeId} {d : DataW H} {n : Nat} (hn : n ∈ d.weights Tryz.prog e) : ∀ {l : List (DataW H)}, d ∈ l → n ∈ DataW.weightsAll Tryz.prog e l
  | x :: r, h => by
    simp only [DataW.weightsAll, List.mem_append]
    rcases List.mem_cons.1 h with rfl | h
    · exact Or.inl hn
    · exact Or.inr (mem_weightsAll hn h)
theorem Wt.elem {H : Type} {t e : TypeId} {el sp : List (DataW H)} (ht : Tryz.prog.underlying t = some (.slice e)) (h : Wt t (.slice el sp)) {d : DataW H} (hd : d ∈ el) : Wt e d := by
  intro n hn
  refine h n ?_
  simp only [DataW.weights, ht, List.mem_cons, List.mem_append]
  exact Or.inr (Or.inl (mem_weightsAll hn hd))
theorem Wt.len {H : Type} {t e : TypeId} {el sp : List (DataW H)} (ht : Tryz.prog.underlying t = some (.slice e)) (h : Wt t (.slice el sp)) (hb : 1 ≤ Tryz.prog.bytesOf e) : el.length ≤ 140737488355328 := by
  have h1 := h ((el.length + sp.length) * Tryz.prog.bytesOf e) (by simp only [DataW.weights, ht, List.mem_cons, true_or])
  have h2 := reachBytes_lt
  have h3 : el.length + sp.length ≤ (el.length + sp.length) * Tryz.prog.bytesOf e := Nat.le_mul_of_pos_right _ hb
  omega
theorem Wt.part {H : Type} {t : TypeId} {fs : Array Field} {parts : List (DataW H)} (ht : Tryz.prog.underlying t = some (.struct fs)) (h : Wt t (.agg parts)) {j : Nat} {u : TypeId} {d : DataW H} (hu : (fs.toList.map (·.type))[j]? = some u) (hd : parts[j]? = some d) : Wt u d := by
  intro n hn
  refine h n ?_
  simp only [DataW.weights, ht]
  exact DataW.weights_mem_each hu hd n hn
section
variable {H : Type} {enc : TypeId × Value → H} {w : World} {base : Nat} {spare : Nat → Bool} {held : Bool}
theorem open_sl {α : Type} {sz : Nat} {t e : TypeId} {p : α → Nat → Nat → Prop} (ht : Tryz.prog.underlying t = some (.slice e)) (hsz : Tryz.prog.cellsOf e = sz) (hs1 : 0 < sz) (hb : 1 ≤ Tryz.prog.bytesOf e) {fuel : Nat} {cs : List Value} {x : DataW H × List MemPlace} (h : DataW.trod enc Tryz.prog w base spare held fuel t cs = some x) (hw : Wt t x.1)
    (each : ∀ (fuel : Nat) (cs : List Value) (y : DataW H × List MemPlace) (b o : Nat), DataW.trod enc Tryz.prog w base spare held fuel e cs = some y → Wt e y.1 → cs.length = sz → (∀ j u, cs[j]? = some u → w.cell? ⟨b, o + j, none⟩ = some u) → ∃ a : α, p a b o) :
    ∃ (v : Value) (l : List α), cs = [v] ∧ Sl w v l.length sz (fun i b o => ∀ a, l[i]? = some a → p a b o) := by
  rcases open_slice ht h with ⟨hcs, _⟩ | ⟨ad, len, cap, m, n, D, Pl, hcs, _, hl, hm, hmm, rfl, hx⟩
  · exact ⟨_, [], hcs, _, 0, rfl, Nat.le_refl _, by simp, fun h => absurd h (by simp)⟩
  · have hlm : len ≤ m := by rw [hmm]; split <;> omega
    rw [hsz] at hx
    have hlen47 : len ≤ 140737488355328 := by
      have := hw.len ht hb
      simpa using this
    by_cases h0 : len = 0
    · subst h0
      exact ⟨_, [], hcs, some ad, cap, rfl, by simp, by simp, fun h => absurd h (by simp)⟩
    · obtain ⟨b, o, sp⟩ := ad
      have cell : ∀ i, i < len → ∃ cs', DataW.trod enc Tryz.prog w base spare held n e cs' = some (D i, Pl i) ∧ cs'.length = sz ∧ ∀ j, j < sz → w.cell? ((⟨b, o, sp⟩ : Addr).add (i * sz + j)) = cs'[j]? := by
        intro i hi
        obtain ⟨cs', h1, h2⟩ := hx i (by omega)
        obtain ⟨_, hlen, hcell⟩ := World.cells?_some h1
        refine ⟨cs', h2, hlen, fun j hj => ?_⟩
        have := hcell j hj
        rw [add_add] at this
        exact this
      obtain ⟨cs0, _, hl0, hc0⟩ := cell 0 (by omega)
      obtain ⟨u0, hu0⟩ : ∃ u, cs0[0]? = some u := ⟨_, List.getElem?_eq_getElem (by omega)⟩
      have hc00 := (hc0 0 hs1).trans hu0
      have hsp : sp = none := by simpa [Addr.add] using World.cell?_spot hc00
      subst hsp
      have hbl : b < w.heap.size := by
        have := World.block_lt_of_cell? w _ hc00
        simpa [Addr.add] using this
      have each' : ∀ i, i < len → ∃ a : α, p a b (o + i * sz) := by
        intro i hi
        obtain ⟨cs', h1, h2, h3⟩ := cell i hi
        refine each n cs' _ b (o + i * sz) h1 (hw.elem ht (List.mem_map.2 ⟨i, List.mem_range.2 hi, rfl⟩)) h2 fun j u hj => ?_
        have hjs : j < sz := by
          have := (List.getElem?_eq_some_iff.1 hj).1
          omega
        have h4 := (h3 j hjs).trans hj
        have e4 : (⟨b, o, none⟩ : Addr).add (i * sz + j) = ⟨b, o + i * sz + j, none⟩ := by simp [Addr.add, Nat.add_assoc]
        rw [e4] at h4
        exact h4
      obtain ⟨a0, _⟩ := each' 0 (by omega)
      haveI : Inhabited α := ⟨a0⟩
      obtain ⟨f, hf⟩ := choose_lt each'
      refine ⟨_, (List.range len).map f, hcs, some ⟨b, o, none⟩, cap, by simp, by simpa using hl, by simpa using hlen47, fun _ => ⟨b, o, rfl, hbl, fun i hi a ha => ?_⟩⟩
      have hi : i < len := by simpa using hi
      have hpf : a = f i := by
        simp [hi] at ha
        exact ha.symm
      subst hpf
      exact hf i hi
theorem Tryz.cStr : Tryz.prog.cellsOf 9 = 1 := by kernel_rfl
theorem Tryz.cFld : Tryz.prog.cellsOf 33 = 5 := by kernel_rfl
theorem Tryz.cRef : Tryz.prog.cellsOf 31 = 2 := by kernel_rfl
theorem Tryz.cBool : Tryz.prog.cellsOf 4 = 1 := by kernel_rfl
theorem Tryz.cOb : Tryz.prog.cellsOf 41 = 2 := by kernel_rfl
theorem Tryz.cEn : Tryz.prog.cellsOf 45 = 2 := by kernel_rfl
theorem Tryz.cSch : Tryz.prog.cellsOf 25 = 2 := by kernel_rfl
theorem Tryz.cFs : Tryz.prog.cellsOf 39 = 1 := by kernel_rfl
theorem Tryz.cWs : Tryz.prog.cellsOf 43 = 1 := by kernel_rfl
theorem Tryz.cOs : Tryz.prog.cellsOf 22 = 1 := by kernel_rfl
theorem Tryz.cEs : Tryz.prog.cellsOf 23 = 1 := by kernel_rfl
theorem open_str {fuel : Nat} {cs : List Value} {x : DataW H × List MemPlace} (h : DataW.trod enc Tryz.prog w base spare held fuel 9 cs = some x) : ∃ b : Bs, cs = [.string ⟨b.toArray⟩] := by
  obtain ⟨t, e, _, _⟩ := DataW.trod_string Tryz.underlying9 h
  exact ⟨t.data.toList, by rw [e]⟩
set_option maxRecDepth 100000 in
theorem open_fld {fuel : Nat} {cs : List Value} {x : DataW H × List MemPlace} (h : DataW.trod enc Tryz.prog w base spare held fuel 33 cs = some x) :
    ∃ f : Fld, cs = [.string ⟨f.n.toArray⟩, .string ⟨f.t.toArray⟩, .string ⟨f.w.toArray⟩, .bool f.s, .string ⟨f.i.toArray⟩] := by
  obtain ⟨xs, n, _, _, hl, hxl, hf⟩ := DataW.trod_struct Tryz.underlying33 h
  rw [Tryz.cFld] at hl
  match xs, hxl, cs, hl with
  | [y0, y1, y2, y3], _, [v0, v1, v2, v3, v4], _ =>
    have g0 := hf 0 _ rfl
    have g1 := hf 1 _ rfl
    have g2 := hf 2 _ rfl
    have g3 := hf 3 _ rfl
    simp [Tryz.cStr, Tryz.cRef, Tryz.cBool] at g0 g1 g2 g3
    obtain ⟨a0, e0⟩ := open_str g0
    obtain ⟨ys, m, _, _, _, hyl, hg⟩ := DataW.trod_struct Tryz.underlying31 g1
    match ys, hyl with
    | [z0, z1], _ =>
      have q0 := hg 0 _ rfl
      have q1 := hg 1 _ rfl
      simp [Tryz.cStr] at q0 q1
      obtain ⟨a1, e1⟩ := open_str q0
      obtain ⟨a2, e2⟩ := open_str q1
      obtain ⟨a3, e3, _, _⟩ := DataW.trod_bool Tryz.underlying4 g2
      obtain ⟨a4, e4⟩ := open_str g3
      simp at e0 e1 e2 e3 e4
      exact ⟨⟨a0, a1, a2, a3, a4⟩, by rw [e0, e1, e2, e3, e4]⟩
theorem open_wds {fuel : Nat} {cs : List Value} {x : DataW H × List MemPlace} (h : DataW.trod enc Tryz.prog w base spare held fuel 43 cs = some x) (hw : Wt 43 x.1) : ∃ (v : Value) (ws : List Bs), cs = [v] ∧ WdsAt w v ws :=
  open_sl Tryz.underlying43 Tryz.cStr (by decide) (of_decide_eq_true (by kernel_rfl)) h hw fun fuel cs y b o hy _ _ hc => by
    obtain ⟨a, rfl⟩ := open_str hy
    exact ⟨a, hc 0 _ rfl⟩
theorem open_flds {fuel : Nat} {cs : List Value} {x : DataW H × List MemPlace} (h : DataW.trod enc Tryz.prog w base spare held fuel 39 cs = some x) (hw : Wt 39 x.1) : ∃ (v : Value) (fs : List Fld), cs = [v] ∧ FldsAt w v fs :=
  open_sl Tryz.underlying39 Tryz.cFld (by decide) (of_decide_eq_true (by kernel_rfl)) h hw fun fuel cs y b o hy _ _ hc => by
    obtain ⟨f, rfl⟩ := open_fld hy
    exact ⟨f, hc 0 _ rfl, hc 1 _ rfl, hc 2 _ rfl, hc 3 _ rfl, hc 4 _ rfl⟩
set_option maxRecDepth 100000 in
theorem open_ob {fuel : Nat} {cs : List Value} {x : DataW H × List MemPlace} (h : DataW.trod enc Tryz.prog w base spare held fuel 41 cs = some x) (hw : Wt 41 x.1) :
    ∃ (o : Ob) (fv : Value), cs = [.string ⟨o.n.toArray⟩, fv] ∧ FldsAt w fv o.fs := by
  obtain ⟨xs, n, _, rfl, hl, hxl, hf⟩ := DataW.trod_struct Tryz.underlying41 h
  rw [Tryz.cOb] at hl
  match xs, hxl, cs, hl with
  | [y0, y1], _, [v0, v1], _ =>
    have g0 := hf 0 _ rfl
    have g1 := hf 1 _ rfl
    simp [Tryz.cStr, Tryz.cFs] at g0 g1
    obtain ⟨a0, e0⟩ := open_str g0
    obtain ⟨fv, fs, e1, hfs⟩ := open_flds g1 (hw.part Tryz.underlying41 (j := 1) rfl rfl)
    simp at e0 e1
    exact ⟨⟨a0, fs⟩, fv, by rw [e0, e1], hfs⟩
set_option maxRecDepth 100000 in
theorem open_en {fuel : Nat} {cs : List Value} {x : DataW H × List MemPlace} (h : DataW.trod enc Tryz.prog w base spare held fuel 45 cs = some x) (hw : Wt 45 x.1) :
    ∃ (o : En) (fv : Value), cs = [.string ⟨o.n.toArray⟩, fv] ∧ WdsAt w fv o.ws := by
  obtain ⟨xs, n, _, rfl, hl, hxl, hf⟩ := DataW.trod_struct Tryz.underlying45 h
  rw [Tryz.cEn] at hl
  match xs, hxl, cs, hl with
  | [y0, y1], _, [v0, v1], _ =>
    have g0 := hf 0 _ rfl
    have g1 := hf 1 _ rfl
    simp [Tryz.cStr, Tryz.cWs] at g0 g1
    obtain ⟨a0, e0⟩ := open_str g0
    obtain ⟨fv, fs, e1, hfs⟩ := open_wds g1 (hw.part Tryz.underlying45 (j := 1) rfl rfl)
    simp at e0 e1
    exact ⟨⟨a0, fs⟩, fv, by rw [e0, e1], hfs⟩
theorem open_obs {fuel : Nat} {cs : List Value} {x : DataW H × List MemPlace} (h : DataW.trod enc Tryz.prog w base spare held fuel 22 cs = some x) (hw : Wt 22 x.1) : ∃ (v : Value) (fs : List Ob), cs = [v] ∧ ObsAt w v fs :=
  open_sl Tryz.underlying22 Tryz.cOb (by decide) (of_decide_eq_true (by kernel_rfl)) h hw fun fuel cs y b o hy hwy _ hc => by
    obtain ⟨f, fv, rfl, hfs⟩ := open_ob hy hwy
    exact ⟨f, hc 0 _ rfl, fv, hc 1 _ rfl, hfs⟩
theorem open_ens {fuel : Nat} {cs : List Value} {x : DataW H × List MemPlace} (h : DataW.trod enc Tryz.prog w base spare held fuel 23 cs = some x) (hw : Wt 23 x.1) : ∃ (v : Value) (fs : List En), cs = [v] ∧ EnsAt w v fs :=
  open_sl Tryz.underlying23 Tryz.cEn (by decide) (of_decide_eq_true (by kernel_rfl)) h hw fun fuel cs y b o hy hwy _ hc => by
    obtain ⟨f, fv, rfl, hfs⟩ := open_en hy hwy
    exact ⟨f, hc 0 _ rfl, fv, hc 1 _ rfl, hfs⟩
set_option maxRecDepth 100000 in
theorem open_sch {fuel : Nat} {cs : List Value} {x : DataW H × List MemPlace} (h : DataW.trod enc Tryz.prog w base spare held fuel 25 cs = some x) (hw : Wt 25 x.1) :
    ∃ (s : Sch) (ov ev : Value), cs = [ov, ev] ∧ SchAt w ov ev s := by
  obtain ⟨xs, n, _, rfl, hl, hxl, hf⟩ := DataW.trod_struct Tryz.underlying25 h
  rw [Tryz.cSch] at hl
  match xs, hxl, cs, hl with
  | [y0, y1], _, [v0, v1], _ =>
    have g0 := hf 0 _ rfl
    have g1 := hf 1 _ rfl
    simp [Tryz.cOs, Tryz.cEs] at g0 g1
    obtain ⟨ov, os, e0, h0⟩ := open_obs g0 (hw.part Tryz.underlying25 (j := 0) rfl rfl)
    obtain ⟨ev, es, e1, h1⟩ := open_ens g1 (hw.part Tryz.underlying25 (j := 1) rfl rfl)
    simp at e0 e1
    exact ⟨⟨os, es⟩, ov, ev, by rw [e0, e1], h0, h1⟩
end
end Go.Proofs.YtfkgmgnoijokdaaGreatDoor
namespace Go.Proofs.YtfkgmgnoijokdaaGreatDoor
open Go Go.RowKit Go.Lib

def listed : List (String × DataW Unit) := Rows.schemaChecksRow.laid
theorem at_var {w : World} {n : String} {d : DataW Unit} {g t : Nat} (h : VarReads Tryz.prog w n d) (hg : Tryz.prog.globalNamed n = some g) (ht : (Tryz.prog.globals[g]?).map (·.type) = some t) :
    ∃ (cs : Array Value) (fuel : Nat) (p : List MemPlace), w.var? Tryz.prog n = some cs ∧ DataW.trod (fun _ => ()) Tryz.prog w 0 (fun _ => true) false fuel t cs.toList = some (d, p) ∧ ∀ i, w.cell? ⟨g, i, none⟩ = cs.toList[i]? := by
  obtain ⟨g', t', cs, fuel, p, hg', ht', hv, hd⟩ := h
  obtain rfl := Option.some.inj (hg.symm.trans hg')
  obtain rfl := Option.some.inj (ht.symm.trans ht')
  exact ⟨cs, fuel, p, hv, hd, fun i => by rw [World.var?_cell hg hv i, Array.getElem?_toList]⟩
theorem es_laid {w : World} (h : VarReads Tryz.prog w "strconv.ErrSyntax" Rows.laid_strconv_ErrSyntax) : ∃ te pe, w.cell? ⟨3, 0, none⟩ = some (.iface te pe) := by
  obtain ⟨cs, fuel, p, _, hd, hc⟩ := at_var h (g := 3) (t := 140) (by kernel_rfl) (by kernel_rfl)
  cases fuel with
  | zero => simp [DataW.trod] at hd
  | succ n =>
    have hu := Tryz.underlying140
    simp only [DataW.trod, hu, Rows.laid_strconv_ErrSyntax] at hd
    rw [hc]
    split at hd
    all_goals simp_all
theorem max_of {W : World} (h : W.ShapedOpen Tryz.prog) : ∃ m, W.cell? ⟨gM, 0, none⟩ = some (.int .i64 m) :=
  cell_of_shapedOpen_int h (g := 0) (t := 3) (zero := #[.int .i64 0]) (of_decide_eq_true (by kernel_rfl)) (by kernel_rfl) rfl (by kernel_rfl) (by kernel_rfl) Tryz.underlying3
theorem gl_laid {W : World} (hL : laidMet Tryz.prog listed W) (hs : W.ShapedOpen Tryz.prog) : Gl W := by
  obtain ⟨te, pe, he⟩ := es_laid (laidMet.reads hL (.tail _ (.tail _ (.tail _ (.tail _ (.tail _ (.head _)))))))
  exact ⟨max_of hs, ⟨_, he, Or.inr ⟨te, pe, rfl⟩⟩⟩
end Go.Proofs.YtfkgmgnoijokdaaGreatDoor
namespace Go.Proofs.YtfkgmgnoijokdaaGreatDoor
open Go.ChangeShapes Go.WideShapes Go.ChangeAt Go.RowKit
open Go.ChangeMaps (open_string shut_string)

theorem Tryz.own : ownKnob Tryz.prog.godebug = none := by kernel_rfl
theorem Tryz.laidOut : laidOutB Tryz.prog = true := by kernel_rfl

/-- The road from the contract to the row where the contract is handed both what is listed and the world's shape. -/
theorem lifted_by {H : Type} {enc : TypeId × Value → H} {C : Checked} {os : Os} {f : FuncId} {fn : Func} {s : ChangeSpec} {conds : List PathCond} {apart fresh handsOn again : Bool} {X : World → Array Value → Prop}
    (hX : ∀ (w w' : World) (args : Array Value), w.heap = w'.heap → X w args → X w' args)
    (own : ownKnob C.prog.godebug = none) (started : os.Started) (noInit : C.prog.inits.idxOf? f = none) (hfn : C.prog.funcs[f]? = some fn)
    (witness : ∃ (w : World) (tape : Tape) (i : Input), w.os = os ∧ (w.forCall tape i).Shaped C.prog ∧ i.vars = [] ∧ Input.okWide C.prog (w.forCall tape i) .any w.heap.size f i ∧
      ((s.pre enc C.prog fn conds apart (w.forCall tape i).memory i.args ∧ X (w.forCall tape i).memory i.args) ∧ sizedMet enc C.prog fn (OpenSpec.ofChange s) apart (w.forCall tape i).memory i.args) ∧ ({} : Assume).holds C.prog (lone (Frame.enter C.prog f i.args .normal) [] (w.forCall tape i)))
    (contract : ∀ (W : World) (base : Nat) (args : Array Value) (ds gs : List (DataW H)) (before : List MemPlace),
      (∀ (j : Nat) t v, fn.params[j]? = some t → args[j]? = some v → Value.okWide C.prog W .any base t v) →
      DataW.Whole enc C.prog fn.params.toList s.vars apart W args.toList ds gs before →
      (DataW.weightsEach C.prog (fn.params.toList ++ s.plain.varTypes C.prog) (ds ++ gs)).all (· ≤ reachBytes) = true → W.ShapedOpen C.prog → X W args →
      Calls C.prog f args W fun e W' => ∃ v, e = .returned v ∧ s.post enc C.prog fn apart fresh handsOn again W args v W') :
    ReturnsInHanded {} C os f .any (fun w args => (s.pre enc C.prog fn conds apart w args ∧ X w args) ∧ sizedMet enc C.prog fn (OpenSpec.ofChange s) apart w args) (s.post enc C.prog fn apart fresh handsOn again) := by
  refine returnsInHanded_of_calls own started noInit witness ?_
  intro w tape i _ hsh _ hok hpre _
  obtain ⟨_, _, _, fn', hfn', _, _, _, _, hval⟩ := hok
  obtain rfl : fn' = fn := Option.some.inj (hfn'.symm.trans hfn)
  obtain ⟨⟨⟨ds, gs, before, hw, _⟩, hx⟩, hz⟩ := hpre
  refine (contract (w.forCall tape i) w.heap.size i.args ds gs before hval (DataW.Whole.of_heap (w' := w.forCall tape i) (by rfl) hw) (hz.weights hw) hsh (hX _ _ _ (by rfl) hx)).mono fun e W' ⟨v, he, hp⟩ => ?_
  subst he
  exact ChangeSpec.post_blind hp

set_option maxRecDepth 100000 in
theorem schemaFinds_lifted (os : Os) (started : os.Started) (H : Type) (enc : TypeId × Value → H) :
    ReturnsInHanded {} Tryz.checked os 4 .any (fun w args => (Rows.schemaFindsSpec.pre enc Tryz.prog Tryz.f4 Rows.schemaFindsRow.domain false w args ∧ laidMetH Tryz.prog listed w) ∧ sizedMet enc Tryz.prog Tryz.f4 (OpenSpec.ofChange Rows.schemaFindsSpec) false w args)
      (Rows.schemaFindsSpec.post enc Tryz.prog Tryz.f4 false true false false) := by
  refine lifted_by (C := Tryz.checked) (X := fun w _ => laidMetH Tryz.prog listed w) (fun _ _ _ hh h => h.of_heap hh) Tryz.own started (by kernel_rfl) Tryz.func4
    (ChangeSpec.witness_shaped (enc := enc) (C := Tryz.checked) (os := os) (X := fun w _ => laidMetH Tryz.prog listed w) false (World.laidAll Tryz.prog os listed) #[.agg #[.slice none 0 0, .slice none 0 0], .string ByteArray.empty, .agg #[.string ByteArray.empty, .string ByteArray.empty, .string ByteArray.empty, .bool false, .string ByteArray.empty]] 8 (World.laidAll_os _ _ _)
      (World.shaped_of_ZipB (by kernel_rfl) (by kernel_rfl)) (by kernel_rfl) (by kernel_rfl) (by kernel_rfl)
      (by rw [MakeChecks.laidMetH_plain _ _ _ (by kernel_rfl)]; exact laidMet_laidAll _ (by kernel_rfl) (by kernel_rfl))) ?_
  intro W base args ds gs before hval0 hW hsz hsh hL
  have hval : ∀ (j : Nat) t v, Tryz.f4.params[j]? = some t → args[j]? = some v → Value.okWide Tryz.prog W .any base t v := hval0
  have hW' := hW
  obtain ⟨p, q, hA0, hV, rfl, hfz, hnd⟩ := hW
  have hA : DataW.TrodAll enc Tryz.prog W 0 (fun _ => true) true Tryz.f4.params.toList args.toList ds p := hA0
  rw [Tryz.params4] at hA hval
  obtain ⟨v0, vs0, d0, ds0, p0, q0, hargs, rfl, rfl, h0, r0⟩ := trodAll_cons hA
  obtain ⟨v1, vs1, d1, ds1, p1, q1, rfl, rfl, rfl, h1, r1⟩ := trodAll_cons r0
  obtain ⟨v2, vs2, d2, ds2, p2, q2, rfl, rfl, rfl, h2, r2⟩ := trodAll_cons r1
  obtain ⟨rfl, rfl, rfl⟩ := trodAll_nil r2
  obtain rfl : args = #[v0, v1, v2] := by cases args; simp_all
  obtain ⟨rfl, rfl⟩ := trodVars_none hV
  obtain ⟨c0, rfl, _⟩ := okWide_struct Tryz.underlying25 (hval 0 25 v0 rfl rfl)
  have k0 := h0
  have lt0 : ∀ x ∈ p0, x.block < W.heap.size := by obtain ⟨m, hm⟩ := k0; exact DataW.trod_lt m _ _ _ hm
  have wt0 : Wt 25 d0 := fun n hn => by
    have := List.all_eq_true.1 hsz n (DataW.weights_mem_each (j := 0) rfl rfl n hn)
    simpa using this
  obtain ⟨s0, ov0, ev0, hc0, hS0⟩ : ∃ (s : Sch) (ov ev : Value), (Value.agg c0).cells.toList = [ov, ev] ∧ SchAt W ov ev s := by
    obtain ⟨fuel, hf⟩ := h0
    exact open_sch hf wt0
  obtain rfl : c0 = #[ov0, ev0] := Array.toList_inj.1 hc0
  obtain ⟨a1, rfl, rfl, rfl, w1⟩ := open_string Tryz.underlying9 (hval 1 9 v1 rfl rfl) h1
  obtain ⟨c2, rfl, _⟩ := okWide_struct Tryz.underlying33 (hval 2 33 v2 rfl rfl)
  have k2 := h2
  have lt2 : ∀ x ∈ p2, x.block < W.heap.size := by obtain ⟨m, hm⟩ := k2; exact DataW.trod_lt m _ _ _ hm
  obtain ⟨f2, hc2⟩ : ∃ f : Fld, (Value.agg c2).cells.toList = [.string ⟨f.n.toArray⟩, .string ⟨f.t.toArray⟩, .string ⟨f.w.toArray⟩, .bool f.s, .string ⟨f.i.toArray⟩] := by
    obtain ⟨fuel, hf⟩ := h2
    exact open_fld hf
  obtain rfl : c2 = #[.string ⟨f2.n.toArray⟩, .string ⟨f2.t.toArray⟩, .string ⟨f2.w.toArray⟩, .bool f2.s, .string ⟨f2.i.toArray⟩] := Array.toList_inj.1 hc2
  have hL2 : laidMetH Tryz.prog listed W := hL
  rw [MakeChecks.laidMetH_plain _ _ _ (by kernel_rfl)] at hL2
  have gl := gl_laid hL2 hsh
  clear hA0 hval0 hL hL2 hsz
  have wk := finds_any hS0 gl a1.data.toList f2
  refine wk.mono fun e W' ⟨he, bel⟩ => ?_
  subst he
  exact ⟨_, rfl, _, _, _, [], _, [], hW', trodAll_mk1 (shut_bool Tryz.underlying4 _), (trodAll_cons_mk (Below.trod Tryz.laidOut (by kernel_rfl) (of_decide_eq_true (by kernel_rfl)) k0 bel lt0) (trodAll_cons_mk (shut_string Tryz.underlying9 w1) (trodAll_cons_mk (Below.trod Tryz.laidOut (by kernel_rfl) (of_decide_eq_true (by kernel_rfl)) k2 bel lt2) trodAll_mk0))), rfl, bel.frame _, fun h => by cases h⟩

theorem schemaFinds_row : Rows.SchemaFindsSaid :=
  OpenClaim.holds_of_wide 4 Tryz.f4 rfl rfl rfl rfl rfl rfl rfl ⟨rfl, rfl, rfl, rfl, rfl⟩ rfl rfl rfl rfl rfl (by kernel_rfl) Tryz.func4 (by kernel_rfl)
    (of_decide_eq_true (by kernel_rfl)) (by unfold Func.isWrapper; first | (rw [if_pos (by decide +kernel)]; kernel_rfl) | (rw [if_neg (by decide +kernel)]; exact ⟨rfl, rfl⟩))
    (fun os started H enc _ => schemaFinds_lifted os started H enc)

theorem schemaFinds_holds : Rows.SchemaFindsCardSaid :=
  Claim7.holds_tied_plain_at .later [] _ _ _ _ schemaFinds_row (fun _ h => by cases h) (by kernel_rfl) (fun _ h => by cases h) schemaFinds_row_tie rfl ⟨rfl, rfl⟩ (by kernel_rfl) rfl
    (fun f fn hf hfn => by
      obtain rfl : f = 4 := Option.some.inj ((show Tryz.prog.funcNamed "rhizome/rhizomelaw09.SchemaFinds" = some 4 by kernel_rfl).symm.trans hf) |>.symm
      obtain rfl : fn = Tryz.f4 := (Option.some.inj (Tryz.func4.symm.trans hfn)).symm
      exact ⟨by kernel_rfl, fun j t ht => by
        rw [Tryz.params4] at ht
        have hm : t ∈ [25, 9, 33] := by simpa using Array.mem_of_getElem? ht
        have hall : ([25, 9, 33].all fun u => !Tryz.prog.wantsStandIn u) = true := by kernel_rfl
        exact (show Tryz.prog.wantsStandIn t = false by simpa using List.all_eq_true.1 hall t hm)⟩)
    (by kernel_rfl)
#print axioms schemaFinds_holds
end Go.Proofs.YtfkgmgnoijokdaaGreatDoor
