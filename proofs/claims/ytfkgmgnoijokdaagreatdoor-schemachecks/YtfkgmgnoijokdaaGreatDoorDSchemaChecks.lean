/- Whether any schema may be, and which rule is broken first, is as the document says: for any schema (within the form's own reach of 2^47 - 4096 bytes); the listed package variables are as the program's text lays them (tied). -/
import Derived.Test.YtfkgmgnoijokdaaGreatDoorC02
import Derived.Test.YtfkgmgnoijokdaaGreatDoorC03
import Derived.Deep.AppendLies
import Derived.Deep.DrawnRows
import Derived.Deep.Slices
import Derived.Laws.AppendOwnNone
import Derived.Test.YtfkgmgnoijokdaaGreatDoorD03
import Derived.BigQuiet
import Derived.OpenShut
import Derived.ProofKit
import Derived.SizedLaws
import Derived.Test.YtfkgmgnoijokdaaGreatDoorRows
import Derived.Test.YtfkgmgnoijokdaaGreatDoorLxK
import Derived.Lib.LaidU8
import Derived.LaidMore
import Derived.Stop.LaidErr
import Derived.Lay
import Derived.Shelf.Vars
import Derived.Test.YtfkgmgnoijokdaaGreatDoorTie
import Derived.Test.YtfkgmgnoijokdaaGreatDoorCards
import Derived.ShutString
import Derived.ChangeOld
import Derived.SevenTiedAt
import Derived.Stop.Joined
import Derived.Carry
namespace Go.Proofs.YtfkgmgnoijokdaaGreatDoor
open Go Go.RowKit Go.Shelf
set_option maxRecDepth 100000 in
theorem iscalar_any (x : Bs) (w : World) : Calls Tryz.prog 17 #[.string ⟨x.toArray⟩] w fun e w' => e = .returned (.bool (scaS x)) ∧ w' = w := by
  show Calls Tryz.prog 17 #[.string ⟨x.toArray⟩] w fun e w' => e = .returned (.bool (x == [73, 110, 116] || x == [70, 108, 111, 97, 116] || x == [83, 116, 114, 105, 110, 103] || x == [66, 111, 111, 108, 101, 97, 110])) ∧ w' = w
  cases c_intB : (x == [73, 110, 116]) with
  | true =>
    go_enter Tryz.func17, Tryz.ntmps17
    go_wp2
    go_ret
    exact ⟨rfl, rfl⟩
  | false =>
    cases c_floB : (x == [70, 108, 111, 97, 116]) with
    | true =>
      go_enter Tryz.func17, Tryz.ntmps17
      go_wp2
      go_ret
      exact ⟨rfl, rfl⟩
    | false =>
      cases c_strB : (x == [83, 116, 114, 105, 110, 103]) with
      | true =>
        go_enter Tryz.func17, Tryz.ntmps17
        go_wp2
        go_ret
        exact ⟨rfl, rfl⟩
      | false =>
        cases c_booB : (x == [66, 111, 111, 108, 101, 97, 110]) with
        | true =>
          go_enter Tryz.func17, Tryz.ntmps17
          go_wp2
          go_ret
          exact ⟨rfl, rfl⟩
        | false =>
          go_enter Tryz.func17, Tryz.ntmps17
          go_wp2
          go_ret
          exact ⟨rfl, rfl⟩
section
variable {w : World} {ov ev : Value} {s : Sch}
set_option maxRecDepth 100000 in
set_option maxHeartbeats 2000000 in
theorem iobject_any (h : SchAt w ov ev s) (y : Bs) : Calls Tryz.prog 13 #[.agg #[ov, ev], .string ⟨y.toArray⟩] w fun e w' => e = .returned (.int .i64 (objS s y)) ∧ Below w.heap.size w w' := by
  obtain ⟨a', c', rfl, _, _⟩ := h.es.slice
  obtain ⟨a, c, rfl, hc, hn, hr⟩ := h.os
  have A1 := al1 w (.cells #[.slice a s.os.length c, .slice a' s.es.length c'] 25)
  obtain ⟨m0, m1, fm⟩ := row2 (heap_alloc_new w (.cells #[.slice a s.os.length c, .slice a' s.es.length c'] 25))
  go_enter Tryz.func13, Tryz.ntmps13
  go_wp2
  go_loopw [5] (fun i wr => ∃ j : Nat, i = .int .i64 (j : Int) ∧ j ≤ (s.os).length ∧ (∀ (q : Nat) z, q < j → ((s.os).map (·.n))[q]? = some z → (z == y) = false) ∧ Below (w.alloc (.cells #[.slice a s.os.length c, .slice a' s.es.length c'] 25)).heap.size (w.alloc (.cells #[.slice a s.os.length c, .slice a' s.es.length c'] 25)) wr) (fun i _ => (s.os).length - (RowKit.intOf i).toNat)
  case atStart => exact ⟨0, rfl, Nat.zero_le _, fun q z hq => absurd hq (Nat.not_lt_zero _), Below.refl _ _⟩
  case round =>
    obtain ⟨j, rfl, hj, hno, hbr⟩ := hrel
    have p0 := cell_on hbr m0
    have p1 := cell_on hbr m1
    have HB : Hid (Below w.heap.size w wr) := A1.trans (hbr.mono A1.size)
    by_cases hlt : j < (s.os).length
    · obtain ⟨b, o, rfl, hbl, hH⟩ := hr (by omega)
      obtain ⟨x, hx⟩ : ∃ x, (s.os)[j]? = some x := ⟨_, List.getElem?_eq_getElem hlt⟩
      have e0 := (hH j hlt x hx).1
      have f0 := cell_on HB.out e0
      have hbe := bytes_eq x.n y
      have l1 : ((j : Nat) : Int) < ((s.os).length : Int) := by omega
      have hjN : ((j : Nat) : Int).toNat = j := by omega
      have hz : Hid (j + 1 ≤ (s.os).length) := hlt
      have HN : Hid (∀ (q : Nat) z, q < j → ((s.os).map (·.n))[q]? = some z → (z == y) = false) := hno
      have HM : Hid (((s.os).map (·.n))[j]? = some x.n) := (by rw [List.getElem?_map, hx]; rfl)
      clear hno hH hr hx e0 hlt
      cases hq : (x.n == y) with
      | true =>
        have HP : Hid (objS s y = (j : Int)) := by
          have e : x.n = y := by simpa using hq
          have h2 := HM.out
          rw [e] at h2
          exact plB_hit h2 HN.out
        go_wp2
        go_ret
        exact ⟨by rw [HP.out]; rfl, HB.out⟩
      | false =>
        have hno2 : Hid (∀ (q : Nat) z, q < j + 1 → ((s.os).map (·.n))[q]? = some z → (z == y) = false) := by
          intro q z hq1 hz1
          by_cases e : q = j
          · subst e
            rw [HM.out] at hz1
            cases hz1
            exact hq
          · exact HN.out q z (by omega) hz1
        go_wp2
        refine ⟨⟨j + 1, by simp, hz.out, hno2.out, hbr⟩, ?_⟩
        have := hz.out
        simp [RowKit.intOf]
        omega
    · have l2 : decide (((j : Nat) : Int) < ((s.os).length : Int)) = false := by simp; omega
      have l3 : decide (j < (s.os).length) = false := by simp; omega
      have HP : Hid (objS s y = -1) := plB_none fun q z hz => hno q z (by
        have := (List.getElem?_eq_some_iff.1 hz).1
        rw [List.length_map] at this
        omega) hz
      clear hno hr hlt hj
      go_wp2
      go_ret
      exact ⟨by rw [HP.out]; rfl, HB.out⟩
set_option maxRecDepth 100000 in
set_option maxHeartbeats 2000000 in
theorem ienum_any (h : SchAt w ov ev s) (y : Bs) : Calls Tryz.prog 15 #[.agg #[ov, ev], .string ⟨y.toArray⟩] w fun e w' => e = .returned (.int .i64 (enuS s y)) ∧ Below w.heap.size w w' := by
  obtain ⟨a, c, rfl, _, _⟩ := h.os.slice
  obtain ⟨a', c', rfl, hc, hn, hr⟩ := h.es
  have A1 := al1 w (.cells #[.slice a s.os.length c, .slice a' s.es.length c'] 25)
  obtain ⟨m0, m1, fm⟩ := row2 (heap_alloc_new w (.cells #[.slice a s.os.length c, .slice a' s.es.length c'] 25))
  go_enter Tryz.func15, Tryz.ntmps15
  go_wp2
  go_loopw [5] (fun i wr => ∃ j : Nat, i = .int .i64 (j : Int) ∧ j ≤ (s.es).length ∧ (∀ (q : Nat) z, q < j → ((s.es).map (·.n))[q]? = some z → (z == y) = false) ∧ Below (w.alloc (.cells #[.slice a s.os.length c, .slice a' s.es.length c'] 25)).heap.size (w.alloc (.cells #[.slice a s.os.length c, .slice a' s.es.length c'] 25)) wr) (fun i _ => (s.es).length - (RowKit.intOf i).toNat)
  case atStart => exact ⟨0, rfl, Nat.zero_le _, fun q z hq => absurd hq (Nat.not_lt_zero _), Below.refl _ _⟩
  case round =>
    obtain ⟨j, rfl, hj, hno, hbr⟩ := hrel
    have p0 := cell_on hbr m0
    have p1 := cell_on hbr m1
    have HB : Hid (Below w.heap.size w wr) := A1.trans (hbr.mono A1.size)
    by_cases hlt : j < (s.es).length
    · obtain ⟨b, o, rfl, hbl, hH⟩ := hr (by omega)
      obtain ⟨x, hx⟩ : ∃ x, (s.es)[j]? = some x := ⟨_, List.getElem?_eq_getElem hlt⟩
      have e0 := (hH j hlt x hx).1
      have f0 := cell_on HB.out e0
      have hbe := bytes_eq x.n y
      have l1 : ((j : Nat) : Int) < ((s.es).length : Int) := by omega
      have hjN : ((j : Nat) : Int).toNat = j := by omega
      have hz : Hid (j + 1 ≤ (s.es).length) := hlt
      have HN : Hid (∀ (q : Nat) z, q < j → ((s.es).map (·.n))[q]? = some z → (z == y) = false) := hno
      have HM : Hid (((s.es).map (·.n))[j]? = some x.n) := (by rw [List.getElem?_map, hx]; rfl)
      clear hno hH hr hx e0 hlt
      cases hq : (x.n == y) with
      | true =>
        have HP : Hid (enuS s y = (j : Int)) := by
          have e : x.n = y := by simpa using hq
          have h2 := HM.out
          rw [e] at h2
          exact plB_hit h2 HN.out
        go_wp2
        go_ret
        exact ⟨by rw [HP.out]; rfl, HB.out⟩
      | false =>
        have hno2 : Hid (∀ (q : Nat) z, q < j + 1 → ((s.es).map (·.n))[q]? = some z → (z == y) = false) := by
          intro q z hq1 hz1
          by_cases e : q = j
          · subst e
            rw [HM.out] at hz1
            cases hz1
            exact hq
          · exact HN.out q z (by omega) hz1
        go_wp2
        refine ⟨⟨j + 1, by simp, hz.out, hno2.out, hbr⟩, ?_⟩
        have := hz.out
        simp [RowKit.intOf]
        omega
    · have l2 : decide (((j : Nat) : Int) < ((s.es).length : Int)) = false := by simp; omega
      have l3 : decide (j < (s.es).length) = false := by simp; omega
      have HP : Hid (enuS s y = -1) := plB_none fun q z hz => hno q z (by
        have := (List.getElem?_eq_some_iff.1 hz).1
        rw [List.length_map] at this
        omega) hz
      clear hno hr hlt hj
      go_wp2
      go_ret
      exact ⟨by rw [HP.out]; rfl, HB.out⟩
set_option maxRecDepth 100000 in
set_option maxHeartbeats 2000000 in
theorem ifield_any (p : Ob) {fv : Value} (h : FldsAt w fv p.fs) (y : Bs) : Calls Tryz.prog 50 #[.agg #[.string ⟨p.n.toArray⟩, fv], .string ⟨y.toArray⟩] w fun e w' => e = .returned (.int .i64 (plB y (p.fs.map (·.n)))) ∧ Below w.heap.size w w' := by
  obtain ⟨a, c, rfl, hc, hn, hr⟩ := h
  have A1 := al1 w (.cells #[.string ⟨p.n.toArray⟩, .slice a p.fs.length c] 41)
  obtain ⟨m0, m1, fm⟩ := row2 (heap_alloc_new w (.cells #[.string ⟨p.n.toArray⟩, .slice a p.fs.length c] 41))
  go_enter Tryz.func50, Tryz.ntmps50
  go_wp2
  go_loopw [5] (fun i wr => ∃ j : Nat, i = .int .i64 (j : Int) ∧ j ≤ (p.fs).length ∧ (∀ (q : Nat) z, q < j → ((p.fs).map (·.n))[q]? = some z → (z == y) = false) ∧ Below (w.alloc (.cells #[.string ⟨p.n.toArray⟩, .slice a p.fs.length c] 41)).heap.size (w.alloc (.cells #[.string ⟨p.n.toArray⟩, .slice a p.fs.length c] 41)) wr) (fun i _ => (p.fs).length - (RowKit.intOf i).toNat)
  case atStart => exact ⟨0, rfl, Nat.zero_le _, fun q z hq => absurd hq (Nat.not_lt_zero _), Below.refl _ _⟩
  case round =>
    obtain ⟨j, rfl, hj, hno, hbr⟩ := hrel
    have p0 := cell_on hbr m0
    have p1 := cell_on hbr m1
    have HB : Hid (Below w.heap.size w wr) := A1.trans (hbr.mono A1.size)
    by_cases hlt : j < (p.fs).length
    · obtain ⟨b, o, rfl, hbl, hH⟩ := hr (by omega)
      obtain ⟨x, hx⟩ : ∃ x, (p.fs)[j]? = some x := ⟨_, List.getElem?_eq_getElem hlt⟩
      have e0 := (hH j hlt x hx).1
      have f0 := cell_on HB.out e0
      have hbe := bytes_eq x.n y
      have l1 : ((j : Nat) : Int) < ((p.fs).length : Int) := by omega
      have hjN : ((j : Nat) : Int).toNat = j := by omega
      have hz : Hid (j + 1 ≤ (p.fs).length) := hlt
      have HN : Hid (∀ (q : Nat) z, q < j → ((p.fs).map (·.n))[q]? = some z → (z == y) = false) := hno
      have HM : Hid (((p.fs).map (·.n))[j]? = some x.n) := (by rw [List.getElem?_map, hx]; rfl)
      clear hno hH hr hx e0 hlt
      cases hq : (x.n == y) with
      | true =>
        have HP : Hid (plB y (p.fs.map (·.n)) = (j : Int)) := by
          have e : x.n = y := by simpa using hq
          have h2 := HM.out
          rw [e] at h2
          exact plB_hit h2 HN.out
        go_wp2
        go_ret
        exact ⟨by rw [HP.out]; rfl, HB.out⟩
      | false =>
        have hno2 : Hid (∀ (q : Nat) z, q < j + 1 → ((p.fs).map (·.n))[q]? = some z → (z == y) = false) := by
          intro q z hq1 hz1
          by_cases e : q = j
          · subst e
            rw [HM.out] at hz1
            cases hz1
            exact hq
          · exact HN.out q z (by omega) hz1
        go_wp2
        refine ⟨⟨j + 1, by simp, hz.out, hno2.out, hbr⟩, ?_⟩
        have := hz.out
        simp [RowKit.intOf]
        omega
    · have l2 : decide (((j : Nat) : Int) < ((p.fs).length : Int)) = false := by simp; omega
      have l3 : decide (j < (p.fs).length) = false := by simp; omega
      have HP : Hid (plB y (p.fs.map (·.n)) = -1) := plB_none fun q z hz => hno q z (by
        have := (List.getElem?_eq_some_iff.1 hz).1
        rw [List.length_map] at this
        omega) hz
      clear hno hr hlt hj
      go_wp2
      go_ret
      exact ⟨by rw [HP.out]; rfl, HB.out⟩
set_option maxRecDepth 100000 in
set_option maxHeartbeats 2000000 in
theorem iproperty_any (h : SchAt w ov ev s) (f : Fld) : Calls Tryz.prog 45 #[.agg #[ov, ev], fldV f] w fun e w' => e = .returned (.bool (prpS s f)) ∧ Below w.heap.size w w' := by
  have SCL := fun W => iscalar_any f.t W
  have EN := fun o o' => ienum_any (h.on (al2 w o o')) f.t
  obtain ⟨a, c, rfl, _, _⟩ := h.os.slice
  obtain ⟨a', c', rfl, _, _⟩ := h.es.slice
  obtain ⟨fn, ft, fw, fs, fi⟩ := f
  unfold prpS
  simp only at *
  generalize enuS s ft = k at *
  generalize scaS ft = b at *
  cases b with
  | true =>
    go_enter Tryz.func45, Tryz.ntmps45
    go_wp2_with (first
      | (go_at_call 17; (with_reducible refine (SCL _).mono ?_); rintro e w2 ⟨rfl, rfl⟩)
      | fail)
    go_ret
    exact ⟨by simp, al2 w _ _⟩
  | false =>
    go_enter Tryz.func45, Tryz.ntmps45
    go_wp2_with (first
      | (go_at_call 15; (with_reducible refine (EN _ _).mono ?_); rintro e w3 ⟨rfl, b3⟩)
      | (go_at_call 17; (with_reducible refine (SCL _).mono ?_); rintro e w2 ⟨rfl, rfl⟩)
      | fail)
    go_ret
    exact ⟨by simp, (al2 w _ _).trans (b3.mono (al2 w _ _).size)⟩
set_option maxRecDepth 100000 in
set_option maxHeartbeats 2000000 in
theorem iedge_any (h : SchAt w ov ev s) (f : Fld) : Calls Tryz.prog 19 #[.agg #[ov, ev], fldV f] w fun e w' => e = .returned (.int .i64 (edgS s f)) ∧ Below w.heap.size w w' := by
  have PR := fun o o' => iproperty_any (h.on (al2 w o o')) f
  have OB := fun W (b : Below w.heap.size w W) => iobject_any (h.on b) f.t
  obtain ⟨a, c, rfl, _, _⟩ := h.os.slice
  obtain ⟨a', c', rfl, _, _⟩ := h.es.slice
  unfold edgS
  generalize prpS s f = b at *
  obtain ⟨fn, ft, fw, fs, fi⟩ := f
  simp only at *
  generalize objS s ft = k at *
  cases b with
  | true =>
    go_enter Tryz.func19, Tryz.ntmps19
    go_wp2_with (first
      | (go_at_call 45; (with_reducible refine (PR _ _).mono ?_); rintro e w2 ⟨rfl, b2⟩)
      | fail)
    go_ret
    exact ⟨by simp, (al2 w _ _).trans (b2.mono (al2 w _ _).size)⟩
  | false =>
    go_enter Tryz.func19, Tryz.ntmps19
    go_wp2_with (first
      | (go_at_call 13; (with_reducible refine (OB _ B2).mono ?_); rintro e w3 ⟨rfl, b3⟩)
      | (go_at_call 45; (with_reducible refine (PR _ _).mono ?_); rintro e w2 ⟨rfl, b2⟩; have B2 := (al2 w _ _).trans (b2.mono (al2 w _ _).size); obtain ⟨q0, q1, fq⟩ := row2 ((b2.block _ (by rw [World.size_alloc, World.size_alloc]; omega)).trans (new1 w (.cells #[.slice a s.os.length c, .slice a' s.es.length c'] 25) (.cells #[.string ⟨fn.toArray⟩, .string ⟨ft.toArray⟩, .string ⟨fw.toArray⟩, .bool fs, .string ⟨fi.toArray⟩] 33))); obtain ⟨n0, n1, n2, n3, n4, fn5⟩ := row5 ((b2.block _ (by rw [World.size_alloc, World.size_alloc]; omega)).trans (new2 w (.cells #[.slice a s.os.length c, .slice a' s.es.length c'] 25) (.cells #[.string ⟨fn.toArray⟩, .string ⟨ft.toArray⟩, .string ⟨fw.toArray⟩, .bool fs, .string ⟨fi.toArray⟩] 33))))
      | fail)
    go_ret
    exact ⟨by simp, B2.trans (b3.mono B2.size)⟩
end
end Go.Proofs.YtfkgmgnoijokdaaGreatDoor
namespace Go.Proofs.YtfkgmgnoijokdaaGreatDoor
open Go Go.RowKit Go.Shelf
/-- Objects with the slices of their fields, cell by cell. -/
def cellsB : List (Ob × Value) → List Value
  | [] => []
  | p :: l => .string ⟨p.1.n.toArray⟩ :: p.2 :: cellsB l
theorem cellsB_app (l m : List (Ob × Value)) : cellsB (l ++ m) = cellsB l ++ cellsB m := by
  induction l with
  | nil => rfl
  | cons x l ih => simp [cellsB, ih]
theorem cellsB_len (l : List (Ob × Value)) : (cellsB l).length = l.length * 2 := by
  induction l with
  | nil => rfl
  | cons x l ih => simp [cellsB, ih]; omega
theorem cellsB_at : ∀ (l : List (Ob × Value)) (i : Nat) (p : Ob × Value), l[i]? = some p → (cellsB l)[i * 2]? = some (.string ⟨p.1.n.toArray⟩) ∧ (cellsB l)[i * 2 + 1]? = some p.2
  | [], _, _, h => by simp at h
  | y :: l, 0, p, h => by
    simp at h
    subst h
    exact ⟨rfl, rfl⟩
  | y :: l, i + 1, p, h => by
    have ih := cellsB_at l i p (by simpa using h)
    have e : (i + 1) * 2 = i * 2 + 1 + 1 := by omega
    rw [e]
    simpa [cellsB] using ih
theorem cellsB_mem {l : List (Ob × Value)} {u : Value} (h : u ∈ cellsB l) : (∃ b : Bs, u = .string ⟨b.toArray⟩) ∨ ∃ p ∈ l, u = p.2 := by
  induction l with
  | nil => simp [cellsB] at h
  | cons x l ih =>
    simp only [cellsB, List.mem_cons] at h
    rcases h with rfl | rfl | h
    · exact Or.inl ⟨_, rfl⟩
    · exact Or.inr ⟨x, by simp, rfl⟩
    · rcases ih h with q | ⟨p, hp, e⟩
      · exact Or.inl q
      · exact Or.inr ⟨p, by simp [hp], e⟩
/-- What a slice of objects holds, cell by cell. -/
theorem obs_pairs {w : World} {v : Value} {os : List Ob} (h : ObsAt w v os) (hn : 0 < os.length) : ∃ (b o c : Nat) (l : List (Ob × Value)), v = .slice (some ⟨b, o, none⟩) os.length c ∧ b < w.heap.size ∧ os.length ≤ c ∧ l.map (·.1) = os ∧ (∀ p ∈ l, FldsAt w p.2 p.1.fs) ∧ ∀ j u, (cellsB l)[j]? = some u → w.cell? ⟨b, o + j, none⟩ = some u := by
  obtain ⟨a, c, rfl, hc, _, hr⟩ := h
  obtain ⟨b, o, rfl, hb, hH⟩ := hr hn
  have each : ∀ i, i < os.length → ∃ fv : Value, ∀ x, os[i]? = some x → w.cell? ⟨b, o + i * 2, none⟩ = some (.string ⟨x.n.toArray⟩) ∧ w.cell? ⟨b, o + i * 2 + 1, none⟩ = some fv ∧ FldsAt w fv x.fs := by
    intro i hi
    obtain ⟨x, hx⟩ : ∃ x, os[i]? = some x := ⟨_, List.getElem?_eq_getElem hi⟩
    obtain ⟨e0, fv, e1, hf⟩ := hH i hi x hx
    refine ⟨fv, fun y hy => ?_⟩
    rw [hx] at hy
    cases hy
    exact ⟨e0, e1, hf⟩
  haveI : Inhabited Value := ⟨undef⟩
  obtain ⟨f, hf⟩ := Deep.choose_lt each
  have hlen : (List.zip os ((List.range os.length).map f)).length = os.length := by simp
  have hat : ∀ i p, (List.zip os ((List.range os.length).map f))[i]? = some p → ∃ x, os[i]? = some x ∧ p = (x, f i) := by
    intro i p hp
    have hi : i < os.length := by
      have := (List.getElem?_eq_some_iff.1 hp).1
      omega
    rw [List.getElem?_zip_eq_some] at hp
    refine ⟨p.1, hp.1, ?_⟩
    have h2 := hp.2
    simp [hi] at h2
    rw [h2]
  refine ⟨b, o, c, List.zip os ((List.range os.length).map f), rfl, hb, hc, List.map_fst_zip (by simp), ?_, ?_⟩
  · intro p hp
    obtain ⟨i, hi⟩ := List.mem_iff_getElem?.1 hp
    obtain ⟨x, hx, rfl⟩ := hat i p hi
    exact (hf i (List.getElem?_eq_some_iff.1 hx).1 x hx).2.2
  · intro j u hj
    have hjl : j < os.length * 2 := by
      have := (List.getElem?_eq_some_iff.1 hj).1
      rw [cellsB_len, hlen] at this
      exact this
    obtain ⟨m, r, hm, hr2⟩ : ∃ m r, j = m * 2 + r ∧ r < 2 := ⟨j / 2, j % 2, by omega, by omega⟩
    obtain ⟨p, hp⟩ : ∃ p, (List.zip os ((List.range os.length).map f))[m]? = some p := ⟨_, List.getElem?_eq_getElem (by omega)⟩
    obtain ⟨q0, q1⟩ := cellsB_at _ _ _ hp
    obtain ⟨x, hx, rfl⟩ := hat _ p hp
    obtain ⟨c0, c1, _⟩ := hf m (by omega) x hx
    subst hm
    rcases (show r = 0 ∨ r = 1 by omega) with rfl | rfl
    · rw [Nat.add_zero, q0] at hj
      cases hj
      exact c0
    · rw [q1] at hj
      cases hj
      rw [← Nat.add_assoc]
      exact c1
theorem obs_own {w : World} {Q E : Nat} {v : Value} {l : List (Ob × Value)} (h : w.ownsRow Q E 2 v l.length (cellsB l)) (hl : l.length ≤ 140737488355328) (hf : ∀ p ∈ l, FldsAt w p.2 p.1.fs) : ObsAt w v (l.map (·.1)) := by
  unfold ObsAt
  rw [List.length_map]
  rcases h.2 with ⟨rfl, h0⟩ | ⟨g, cap, cur, hv, hb, hg, hn, _, _, ht⟩
  · exact ⟨none, 0, by rw [h0], by omega, hl, fun hp => absurd hp (by omega)⟩
  · refine ⟨_, cap, hv, hn, hl, fun _ => ⟨g, 0, rfl, lt_of_block hg, fun i hi x hx => ?_⟩⟩
    rw [List.getElem?_map] at hx
    obtain ⟨p, hp, rfl⟩ := Option.map_eq_some_iff.1 hx
    obtain ⟨q0, q1⟩ := cellsB_at l i p hp
    have f : ∀ k u, (cellsB l)[k]? = some u → w.cell? ⟨g, 0 + k, none⟩ = some u := fun k u hu => by
      rw [← ht, List.getElem?_take] at hu
      rw [Nat.zero_add]
      split at hu
      · unfold World.cell?
        rw [hg]
        simpa using hu
      · cases hu
    exact ⟨f _ _ q0, p.2, f _ _ q1, hf p (List.mem_of_getElem? hp)⟩
end Go.Proofs.YtfkgmgnoijokdaaGreatDoor
namespace Go.Proofs.YtfkgmgnoijokdaaGreatDoor
open Go Go.RowKit Go.Shelf
/-- Without the object at a place. -/
abbrev lessS (s : Sch) (at0 : Nat) : Sch := ⟨s.os.take at0 ++ s.os.drop (at0 + 1), s.es⟩
section less
variable {s : Sch} (h : OkD s) {k : Nat} {x : Ob} (hx : s.os[k]? = some x)
include hx
theorem less_split : s.os = s.os.take k ++ x :: s.os.drop (k + 1) := by
  obtain ⟨hk, e⟩ := List.getElem?_eq_some_iff.1 hx
  have h1 := (List.take_append_drop k s.os).symm
  rw [List.drop_eq_getElem_cons hk, e] at h1
  exact h1
theorem less_mem {o : Ob} (ho : o ∈ s.os) (hn : o.n ≠ x.n) : o ∈ (lessS s k).os := by
  rw [less_split hx] at ho
  rcases List.mem_append.1 ho with ho | ho
  · exact List.mem_append_left _ ho
  · rcases List.mem_cons.1 ho with rfl | ho
    · exact absurd rfl hn
    · exact List.mem_append_right _ ho
omit hx in
theorem less_sub {o : Ob} (ho : o ∈ (lessS s k).os) : o ∈ s.os := by
  rcases List.mem_append.1 ho with ho | ho
  · exact List.mem_of_mem_take ho
  · exact List.mem_of_mem_drop ho
theorem less_len : (lessS s k).os.length + 1 = s.os.length := by
  have h1 := congrArg List.length (less_split hx)
  rw [List.length_append, List.length_cons] at h1
  show (s.os.take k ++ s.os.drop (k + 1)).length + 1 = _
  rw [List.length_append]
  omega
include h
theorem less_nodup : ((lessS s k).os.map (·.n)).Nodup ∧ ¬ x.n ∈ (lessS s k).os.map (·.n) := by
  have h1 := h.u1
  rw [less_split hx, List.map_append, List.map_cons, List.nodup_append, List.nodup_cons] at h1
  obtain ⟨a1, ⟨a2, a3⟩, a4⟩ := h1
  constructor
  · rw [List.map_append, List.nodup_append]
    exact ⟨a1, a3, fun a ha b hb => a4 a ha b (List.mem_cons_of_mem _ hb)⟩
  · rw [List.map_append]
    intro hm
    rcases List.mem_append.1 hm with hm | hm
    · exact a4 _ hm _ (List.mem_cons_self ..) rfl
    · exact a2 hm
omit h in
theorem less_ed {t : Bs} (he : edP s t) (hn : t ≠ x.n) : edP (lessS s k) t := by
  obtain ⟨a, b, c⟩ := he
  refine ⟨a, b, ?_⟩
  obtain ⟨o, ho, e⟩ := List.mem_map.1 c
  exact List.mem_map.2 ⟨o, less_mem hx ho (by rw [e]; exact hn), e⟩
omit hx h in
theorem less_ed' {t : Bs} (he : edP (lessS s k) t) : edP s t := by
  obtain ⟨a, b, c⟩ := he
  refine ⟨a, b, ?_⟩
  obtain ⟨o, ho, e⟩ := List.mem_map.1 c
  exact List.mem_map.2 ⟨o, less_sub ho, e⟩
theorem less_man (h2 : 2 ≤ s.os.length) : manS (lessS s k) = true := by
  obtain ⟨⟨m1, m2⟩, m3, m4, m5⟩ := man_iff.1 h.m
  have hl := less_len hx
  exact man_iff.2 ⟨⟨by omega, by omega⟩, m3, fun o ho => m4 o (less_sub ho), m5⟩
omit hx in
theorem less_nam : (∀ o ∈ (lessS s k).os, frtS o.n = true ∧ ∀ f ∈ o.fs, frfS f.n = true) ∧ ∀ e ∈ (lessS s k).es, frtS e.n = true ∧ ∀ x ∈ e.ws, frwS x = true := ⟨fun o ho => h.no o (less_sub ho), h.ne⟩
theorem less_once : oncS (lessS s k) = true := by
  refine once_iff.2 ⟨(less_nodup h hx).1, h.u2, fun e he hm => ?_, h.u4, fun o ho => h.u5 o (less_sub ho)⟩
  obtain ⟨o, ho, eo⟩ := List.mem_map.1 hm
  exact h.u3 e he (List.mem_map.2 ⟨o, less_sub ho, eo⟩)
omit hx h in
theorem frt_sca {y : Bs} (hy : frtS y = true) : scaS y = false := by
  unfold frtS at hy
  simp only [Bool.and_eq_true, Bool.not_eq_true'] at hy
  exact hy.2.1.1.2
theorem less93 (h2 : 2 ≤ s.os.length) {o : Ob} {f : Fld} (ho : o ∈ (lessS s k).os) (hf : f ∈ o.fs) (hft : f.t = x.n) : chkS (lessS s k) = 93 := by
  refine chk93 (less_man h hx h2) (nam_iff.2 (less_nam h)) (less_once h hx) ?_
  rw [← Bool.not_eq_true, all_sptF (p := fun f => wtyS (lessS s k) f)]
  intro hall
  have hxm := List.mem_of_getElem? hx
  rcases wty_iff.1 (hall o ho f hf) with ⟨g | g, _⟩ | ⟨g, _⟩
  · rw [hft, frt_sca (h.no x hxm).1] at g
    cases g
  · obtain ⟨e, he, een⟩ := List.mem_map.1 g
    exact h.u3 e he (by rw [een, hft]; exact List.mem_map.2 ⟨x, hxm, rfl⟩)
  · have := g.2.2
    rw [hft] at this
    exact (less_nodup h hx).2 this
theorem less0 (h2 : 2 ≤ s.os.length) (hno : ∀ o ∈ (lessS s k).os, ∀ f ∈ o.fs, f.t ≠ x.n) : chkS (lessS s k) = 0 := by
  obtain ⟨u1, u2, u3, u4, u5⟩ := once_iff.1 (less_once h hx)
  have hN := less_nam (k := k) h
  rw [chk_ok]
  refine ⟨less_man h hx h2, hN.1, hN.2, u1, u2, u3, u4, u5, ?_, ?_, ?_⟩
  · intro o ho f hf
    rcases wty_iff.1 (h.ty o (less_sub ho) f hf) with g | g
    · exact wty_iff.2 (Or.inl g)
    · exact wty_iff.2 (Or.inr ⟨less_ed hx g.1 (hno o ho f hf), g.2⟩)
  · intro o ho f hf hs he
    exact h.se o (less_sub ho) f hf hs (less_ed' he)
  · intro o ho f hf hi
    obtain ⟨a, p, hp, e1, g, hg, e2, e3, e4, e5⟩ := h.le o (less_sub ho) f hf hi
    have hpn : p.n ≠ x.n := by rw [e1]; exact hno o ho f hf
    have hpm := less_mem hx hp hpn
    exact ⟨less_ed hx a (hno o ho f hf), p, hpm, e1, g, hg, e2, less_ed hx e3 (hno p hpm g hg), e4, e5⟩
end less
theorem nodup_rev {l : List Bs} : l.reverse.Nodup ↔ l.Nodup := by
  unfold List.Nodup
  rw [List.pairwise_reverse]
  exact ⟨fun h => h.imp Ne.symm, fun h => h.imp Ne.symm⟩
/-- The other way round. -/
def revO (o : Ob) : Ob := ⟨o.n, o.fs.reverse⟩
def revE (e : En) : En := ⟨e.n, e.ws.reverse⟩
def revS (s : Sch) : Sch := ⟨(s.os.map revO).reverse, (s.es.map revE).reverse⟩
theorem rev_rev (s : Sch) : revS (revS s) = s := by
  obtain ⟨os, es⟩ := s
  simp only [revS, List.map_reverse, List.reverse_reverse, List.map_map]
  congr
  · rw [show revO ∘ revO = id from funext fun o => by simp [revO]]
    simp
  · rw [show revE ∘ revE = id from funext fun o => by simp [revE]]
    simp
section order
variable {s : Sch}
theorem rev_os {o : Ob} : o ∈ (revS s).os ↔ ∃ p ∈ s.os, revO p = o := by simp [revS]
theorem rev_es {o : En} : o ∈ (revS s).es ↔ ∃ p ∈ s.es, revE p = o := by simp [revS]
theorem rev_on : (revS s).os.map (·.n) = (s.os.map (·.n)).reverse := by
  simp only [revS, List.map_reverse, List.map_map]
  rfl
theorem rev_en : (revS s).es.map (·.n) = (s.es.map (·.n)).reverse := by
  simp only [revS, List.map_reverse, List.map_map]
  rfl
theorem rev_ed {t : Bs} : edP (revS s) t ↔ edP s t := by
  unfold edP
  rw [rev_on, rev_en, List.mem_reverse, List.mem_reverse]
theorem rev_wty {f : Fld} : wtyS (revS s) f = true ↔ wtyS s f = true := by
  rw [wty_iff, wty_iff, rev_ed, rev_en, List.mem_reverse]
/-- Rules 1 to 3. -/
def Low (s : Sch) : Prop := manS s = true ∧ ((∀ o ∈ s.os, frtS o.n = true ∧ ∀ f ∈ o.fs, frfS f.n = true) ∧ ∀ e ∈ s.es, frtS e.n = true ∧ ∀ x ∈ e.ws, frwS x = true) ∧ oncS s = true
theorem rev_low (h : Low s) : Low (revS s) := by
  obtain ⟨h1, ⟨h2, h3⟩, h4⟩ := h
  obtain ⟨m1, m2, m3, m4⟩ := man_iff.1 h1
  obtain ⟨u1, u2, u3, u4, u5⟩ := once_iff.1 h4
  refine ⟨man_iff.2 ⟨by simpa [revS] using m1, by simpa [revS] using m2, ?_, ?_⟩, ⟨?_, ?_⟩, once_iff.2 ⟨?_, ?_, ?_, ?_, ?_⟩⟩
  · intro o ho
    obtain ⟨p, hp, rfl⟩ := rev_os.1 ho
    simpa [revO] using m3 p hp
  · intro o ho
    obtain ⟨p, hp, rfl⟩ := rev_es.1 ho
    simpa [revE] using m4 p hp
  · intro o ho
    obtain ⟨p, hp, rfl⟩ := rev_os.1 ho
    exact ⟨(h2 p hp).1, fun f hf => (h2 p hp).2 f (List.mem_reverse.1 hf)⟩
  · intro o ho
    obtain ⟨p, hp, rfl⟩ := rev_es.1 ho
    exact ⟨(h3 p hp).1, fun f hf => (h3 p hp).2 f (List.mem_reverse.1 hf)⟩
  · rw [rev_on, nodup_rev]
    exact u1
  · rw [rev_en, nodup_rev]
    exact u2
  · intro e he
    obtain ⟨p, hp, rfl⟩ := rev_es.1 he
    rw [rev_on, List.mem_reverse]
    exact u3 p hp
  · intro e he
    obtain ⟨p, hp, rfl⟩ := rev_es.1 he
    exact nodup_rev.2 (u4 p hp)
  · intro o ho
    obtain ⟨p, hp, rfl⟩ := rev_os.1 ho
    show ((p.fs.reverse).map (·.n)).Nodup
    rw [List.map_reverse, nodup_rev]
    exact u5 p hp
theorem rev_ok (h : OkD s) : OkD (revS s) := by
  obtain ⟨h1, ⟨h2, h3⟩, h4⟩ := rev_low (s := s) ⟨h.m, ⟨h.no, h.ne⟩, h.once⟩
  obtain ⟨u1, u2, u3, u4, u5⟩ := once_iff.1 h4
  refine ⟨h1, h2, h3, u1, u2, u3, u4, u5, ?_, ?_, ?_⟩
  · intro o ho f hf
    obtain ⟨p, hp, rfl⟩ := rev_os.1 ho
    exact rev_wty.2 (h.ty p hp f (List.mem_reverse.1 hf))
  · intro o ho f hf hs
    obtain ⟨p, hp, rfl⟩ := rev_os.1 ho
    rw [rev_ed]
    exact h.se p hp f (List.mem_reverse.1 hf) hs
  · intro o ho f hf hi
    obtain ⟨p, hp, rfl⟩ := rev_os.1 ho
    obtain ⟨a, q, hq, e1, g, hg, e2, e3, e4, e5⟩ := h.le p hp f (List.mem_reverse.1 hf) hi
    exact ⟨rev_ed.2 a, revO q, rev_os.2 ⟨q, hq, rfl⟩, e1, g, List.mem_reverse.2 hg, e2, rev_ed.2 e3, e4, e5⟩
theorem order_ok : chkS (revS s) = 0 ↔ chkS s = 0 := by
  rw [chk_ok, chk_ok]
  refine ⟨fun h => ?_, rev_ok⟩
  have := rev_ok h
  rwa [rev_rev] at this
theorem order_low : (chkS (revS s) = 90 ∨ chkS (revS s) = 91 ∨ chkS (revS s) = 92) ↔ (chkS s = 90 ∨ chkS s = 91 ∨ chkS s = 92) := by
  rw [chk_low, chk_low]
  refine not_congr ⟨fun h => ?_, rev_low⟩
  have := rev_low (s := revS s) h
  rwa [rev_rev] at this
end order
end Go.Proofs.YtfkgmgnoijokdaaGreatDoor
namespace Go.Proofs.YtfkgmgnoijokdaaGreatDoor
open Go Go.RowKit Go.Shelf
theorem step_append_any {P : Program} (w : World) {ops : Array Oper} {o : Oper} {a : Act} {K : Act → World → Prop} {Q : Exit → Act → World → Prop} {E : Prop} (hgd : o.guard = none) (s x : Operand) (t : TypeId)
    (ho : o.op = .call { callee := .builtin .append, args := #[s, x], argTypes := #[t, t] })
    (base : Nat) (e : TypeId) (i : TypeInfo) (z : Value) (size bytes : Nat) (ht : P.underlying t = some (.slice e)) (hi : P.info? e = some i) (hz : i.zero = some z)
    (hsize : i.size = size) (hby : i.bytes = bytes) (hzs : z.cells.size = size) (hsz : 0 < size)
    (v : Value) (n : Nat) (xs : List Value) (hs : a.eval s = v) (hown : w.ownsRow base e size v n xs)
    (ad : Addr) (m c : Nat) (news : List Value) (hx : a.eval x = .slice (some ad) m c) (hl : news.length = m * size) (hnews : ∀ j u, news[j]? = some u → w.cell? (ad.add j) = some u) (h1 : ∀ u ∈ news, u.oneCell' = true)
    (h63 : n + m ≤ maxLen) (hbytes : (n + m) * bytes ≤ 140737488355328) (hbase : base ≤ w.heap.size)
    (h : ∀ v' w', w'.ownsRow base e size v' (n + m) (xs ++ news) → w.grownBy w' v.ownBlock → K (a.put o.dst v') w') :
    if Region.wanted o (yielded ops a.tmps) = true then Oper.wp P o a w K Q else E := by
  have hw : Region.wanted o (yielded ops a.tmps) = true := by simp [Region.wanted, hgd]
  rw [if_pos hw]
  obtain ⟨v', w', hr, h2, h3, _, _⟩ := run_append_own_at (P := P) w base t o.type e i z size bytes ht hi hz hsize hby hzs hsz v n xs hown ad m c news hl hnews h1 h63 hbytes hbase
  unfold Oper.wp execOp
  simp only [ho, resolve, invoke, builtin, Sem.run_bind, Sem.run_pure, Result.andThen_ok, List.map_toArray, List.map_cons, List.map_nil, hs, hx, hr]
  exact h v' w' h2 h3
theorem add_at (b o j : Nat) : (⟨b, o, none⟩ : Addr).add j = ⟨b, o + j, none⟩ := by
  unfold Addr.add
  split <;> simp_all
theorem cellsB_take : ∀ (l : List (Ob × Value)) (k : Nat), cellsB (l.take k) = (cellsB l).take (k * 2)
  | [], k => by simp [cellsB]
  | p :: l, 0 => by simp [cellsB]
  | p :: l, k + 1 => by
    have e : (k + 1) * 2 = k * 2 + 1 + 1 := by omega
    rw [List.take_succ_cons, e]
    simp only [cellsB, List.take_succ_cons]
    rw [cellsB_take l k]
theorem cellsB_drop : ∀ (l : List (Ob × Value)) (k : Nat), cellsB (l.drop k) = (cellsB l).drop (k * 2)
  | [], k => by simp [cellsB]
  | p :: l, 0 => by simp [cellsB]
  | p :: l, k + 1 => by
    have e : (k + 1) * 2 = k * 2 + 1 + 1 := by omega
    rw [List.drop_succ_cons, e]
    simp only [cellsB, List.drop_succ_cons]
    rw [cellsB_drop l k]
theorem cellsB_sub {l m : List (Ob × Value)} (h : ∀ p ∈ m, p ∈ l) (h1 : ∀ p ∈ l, ∃ a n c, p.2 = .slice a n c) : ∀ u ∈ cellsB m, u.oneCell' = true := by
  intro u hu
  rcases cellsB_mem hu with ⟨b, rfl⟩ | ⟨p, hp, rfl⟩
  · rfl
  · obtain ⟨a, n, c, e⟩ := h1 p (h p hp)
    rw [e]
    rfl
end Go.Proofs.YtfkgmgnoijokdaaGreatDoor
namespace Go.Proofs.YtfkgmgnoijokdaaGreatDoor
open Go Go.RowKit Go.Shelf
abbrev fldC (f : Fld) : List Value := [.string ⟨f.n.toArray⟩, .string ⟨f.t.toArray⟩, .string ⟨f.w.toArray⟩, .bool f.s, .string ⟨f.i.toArray⟩]
abbrev wrdC (x : Bs) : List Value := [.string ⟨x.toArray⟩]
abbrev nmdC (p : Bs × Value) : List Value := [.string ⟨p.1.toArray⟩, p.2]
section
variable {α : Type} {f : α → List Value} {sz : Nat}
theorem flat_len (hf : ∀ x, (f x).length = sz) : ∀ l : List α, (l.flatMap f).length = l.length * sz
  | [] => by simp
  | x :: l => by
    rw [List.flatMap_cons, List.length_append, flat_len hf l, hf, List.length_cons, Nat.add_mul]
    omega
theorem flat_at (hf : ∀ x, (f x).length = sz) : ∀ (l : List α) (i : Nat) (x : α), l[i]? = some x → ∀ j, j < sz → (l.flatMap f)[i * sz + j]? = (f x)[j]?
  | [], _, _, h, _, _ => by simp at h
  | y :: l, 0, x, h, j, hj => by
    simp at h
    subst h
    rw [Nat.zero_mul, Nat.zero_add, List.flatMap_cons]
    exact List.getElem?_append_left (by rw [hf]; exact hj)
  | y :: l, i + 1, x, h, j, hj => by
    have ih := flat_at hf l i x (by simpa using h) j hj
    rw [← ih, List.flatMap_cons]
    have e : (i + 1) * sz + j = sz + (i * sz + j) := by rw [Nat.add_mul]; omega
    rw [e, List.getElem?_append_right (by rw [hf]; omega), hf]
    congr 1
    omega
/-- A row of such elements that a call owns. -/
def RowO (w : World) (B E : Nat) (sz : Nat) (f : α → List Value) (v : Value) (l : List α) : Prop := w.ownsRow B E sz v l.length (l.flatMap f)
theorem RowO.slice {w : World} {B E : Nat} {v : Value} {l : List α} (h : RowO w B E sz f v l) : ∃ a c, v = .slice a l.length c := by
  rcases h.2 with ⟨h1, h2⟩ | ⟨g, cap, cur, hv, _⟩
  · exact ⟨none, 0, by rw [h1, h2]⟩
  · exact ⟨_, _, hv⟩
theorem RowO.blk {w w' : World} {B E : Nat} {v : Value} {l : List α} (h : RowO w B E sz f v l) (hb : ∀ g cur, B ≤ g → w.heap[g]? = some (.cells cur E (0, 0)) → w'.heap[g]? = some (.cells cur E (0, 0))) : RowO w' B E sz f v l := by
  refine ⟨h.1, ?_⟩
  rcases h.2 with q | ⟨g, cap, cur, hv, hB, hg, h3⟩
  · exact Or.inl q
  · exact Or.inr ⟨g, cap, cur, hv, hB, hb g cur hB hg, h3⟩
theorem RowO.on {w w' : World} {B E : Nat} {v : Value} {l : List α} (h : RowO w B E sz f v l) (hb : Below w.heap.size w w') : RowO w' B E sz f v l := h.blk fun g _ _ hg => (hb.block g (lt_of_block hg)).trans hg
theorem RowO.base {w : World} {B B' E : Nat} {v : Value} {l : List α} (h : RowO w B E sz f v l) (hb : B' ≤ B) : RowO w B' E sz f v l := by
  refine ⟨h.1, ?_⟩
  rcases h.2 with q | ⟨g, cap, cur, hv, hB, h3⟩
  · exact Or.inl q
  · exact Or.inr ⟨g, cap, cur, hv, Nat.le_trans hb hB, h3⟩
/-- Only one block, of another type, has changed. -/
theorem RowO.kp {w w' : World} {B E T E' : Nat} {c : Array Value} {v : Value} {l : List α} (h : RowO w B E sz f v l) (k : Kp (fun k => k = T) w w') (hT : w.heap[T]? = some (.cells c E' (0, 0))) (hE : E ≠ E') : RowO w' B E sz f v l := h.blk fun g cur _ hg => (k.block g (lt_of_block hg) (fun e => by
    have e' : g = T := e
    subst e'
    rw [hT] at hg
    cases hg
    exact hE rfl)).trans hg
/-- A row of another type has grown. -/
theorem RowO.grown {w w' : World} {B B' E E' sz' n : Nat} {v u : Value} {xs : List Value} {l : List α} (h : RowO w B E sz f v l) (own : w.ownsRow B' E' sz' u n xs) (g : w.grownBy w' u.ownBlock) (hE : E ≠ E') : RowO w' B E sz f v l := h.blk fun k cur _ hk => (g.block k (lt_of_block hk) (fun e => by
    rcases own.2 with ⟨rfl, _⟩ | ⟨q, cap, cr, hv, _, hq, _⟩
    · cases e
    · rw [hv] at e
      have e2 : k = q := by simpa [Value.ownBlock] using e
      subst e2
      rw [hq] at hk
      cases hk
      exact hE rfl)).trans hk
theorem RowO.cell {w : World} {B E : Nat} {v : Value} {l : List α} (hf : ∀ x, (f x).length = sz) (h : RowO w B E sz f v l) (hl : l.length ≤ 140737488355328) {p : α → Nat → Nat → Prop} (hp : ∀ x b o, x ∈ l → (∀ j u, j < sz → (f x)[j]? = some u → w.cell? ⟨b, o + j, none⟩ = some u) → p x b o) : Sl w v l.length sz (fun i b o => ∀ x, l[i]? = some x → p x b o) := by
  rcases h.2 with ⟨rfl, h0⟩ | ⟨g, cap, cur, hv, hb, hg, hn, _, _, ht⟩
  · exact ⟨none, 0, by rw [h0], by omega, hl, fun hp => absurd hp (by omega)⟩
  · refine ⟨_, cap, hv, hn, hl, fun _ => ⟨g, 0, rfl, lt_of_block hg, fun i hi x hx => ?_⟩⟩
    refine hp x g _ (List.mem_of_getElem? hx) fun j u hj hu => ?_
    rw [← flat_at hf l i x hx j hj, ← ht, List.getElem?_take] at hu
    rw [Nat.zero_add]
    split at hu
    · unfold World.cell?
      rw [hg]
      simpa using hu
    · cases hu
end
theorem flds_row {w : World} {B : Nat} {v : Value} {l : List Fld} (h : RowO w B 33 5 fldC v l) (hl : l.length ≤ 140737488355328) : FldsAt w v l := RowO.cell (f := fldC) (sz := 5) (p := FldAt w) (fun _ => rfl) h hl fun x b o _ hc => ⟨hc 0 _ (by decide) rfl, hc 1 _ (by decide) rfl, hc 2 _ (by decide) rfl, hc 3 _ (by decide) rfl, hc 4 _ (by decide) rfl⟩
theorem wds_row {w : World} {B : Nat} {v : Value} {l : List Bs} (h : RowO w B 9 1 wrdC v l) (hl : l.length ≤ 140737488355328) : WdsAt w v l := RowO.cell (f := wrdC) (sz := 1) (p := fun x b o => w.cell? ⟨b, o, none⟩ = some (.string ⟨x.toArray⟩)) (fun _ => rfl) h hl fun x b o _ hc => hc 0 _ (by decide) rfl
theorem obs_row {w : World} {B : Nat} {v : Value} {l : List (Ob × Value)} (h : RowO w B 41 2 (fun p => nmdC (p.1.n, p.2)) v l) (hl : l.length ≤ 140737488355328) (hf : ∀ p ∈ l, FldsAt w p.2 p.1.fs) : ObsAt w v (l.map (·.1)) := by
  have h1 : Sl w v l.length 2 (fun i b o => ∀ x, l[i]? = some x → ObAt w x.1 b o) := RowO.cell (f := fun p => nmdC (p.1.n, p.2)) (sz := 2) (p := fun x b o => ObAt w x.1 b o) (fun _ => rfl) h hl fun x b o hx hc => ⟨hc 0 _ (by decide) rfl, x.2, hc 1 _ (by decide) rfl, hf x hx⟩
  unfold ObsAt
  rw [List.length_map]
  refine h1.mono (Nat.le_refl _) fun i b o _ hp x hx => ?_
  rw [List.getElem?_map] at hx
  obtain ⟨p, hp2, rfl⟩ := Option.map_eq_some_iff.1 hx
  exact hp p hp2
theorem ens_row {w : World} {B : Nat} {v : Value} {l : List (En × Value)} (h : RowO w B 45 2 (fun p => nmdC (p.1.n, p.2)) v l) (hl : l.length ≤ 140737488355328) (hf : ∀ p ∈ l, WdsAt w p.2 p.1.ws) : EnsAt w v (l.map (·.1)) := by
  have h1 : Sl w v l.length 2 (fun i b o => ∀ x, l[i]? = some x → EnAt w x.1 b o) := RowO.cell (f := fun p => nmdC (p.1.n, p.2)) (sz := 2) (p := fun x b o => EnAt w x.1 b o) (fun _ => rfl) h hl fun x b o hx hc => ⟨hc 0 _ (by decide) rfl, x.2, hc 1 _ (by decide) rfl, hf x hx⟩
  unfold EnsAt
  rw [List.length_map]
  refine h1.mono (Nat.le_refl _) fun i b o _ hp x hx => ?_
  rw [List.getElem?_map] at hx
  obtain ⟨p, hp2, rfl⟩ := Option.map_eq_some_iff.1 hx
  exact hp p hp2
theorem Tryz.infoFld : (Tryz.prog.info? 33).map (fun i => (i.zero, i.size, i.bytes)) = some (some (.agg #[.string ⟨#[]⟩, .string ⟨#[]⟩, .string ⟨#[]⟩, .bool false, .string ⟨#[]⟩]), 5, 72) := by kernel_rfl
theorem Tryz.infoStr : (Tryz.prog.info? 9).map (fun i => (i.zero, i.size, i.bytes)) = some (some (.string ⟨#[]⟩), 1, 16) := by kernel_rfl
theorem Tryz.infoEn : (Tryz.prog.info? 45).map (fun i => (i.zero, i.size, i.bytes)) = some (some (.agg #[.string ⟨#[]⟩, .slice none 0 0]), 2, 40) := by kernel_rfl
theorem Tryz.infoObj : (Tryz.prog.info? 41).map (fun i => (i.zero, i.size, i.bytes)) = some (some (.agg #[.string ⟨#[]⟩, .slice none 0 0]), 2, 40) := by kernel_rfl
/-- How many there are in bytes. -/
structure SchB (s : Sch) : Prop where
  os : s.os.length * 40 ≤ 140737488355328
  fs : ∀ o ∈ s.os, o.fs.length * 72 ≤ 140737488355328
  es : s.es.length * 40 ≤ 140737488355328
  ws : ∀ e ∈ s.es, e.ws.length * 16 ≤ 140737488355328
end Go.Proofs.YtfkgmgnoijokdaaGreatDoor
namespace Go.Proofs.YtfkgmgnoijokdaaGreatDoor
open Go Go.RowKit Go.Shelf
theorem kext_mk (s : Bs) (p n : Nat) : (ByteArray.mk s.toArray).extract p (p + n) = ⟨((s.drop p).take n).toArray⟩ := by
  apply ByteArray.ext; apply Array.toList_inj.1
  simp
theorem klist_mk (l : Bs) : (ByteArray.mk l.toArray).toList = l := by
  rw [ByteArray.toList_eq]
theorem kext_take (x : Bs) (n : Nat) : ((ByteArray.mk x.toArray).extract 0 n).toList = x.take n := by
  have := kext_mk x 0 n
  rw [Nat.zero_add, List.drop_zero] at this
  rw [this, klist_mk]
theorem kext_drop (x : Bs) (n : Nat) (h : n ≤ x.length) : ((ByteArray.mk x.toArray).extract n x.length).toList = x.drop n := by
  have := kext_mk x n (x.length - n)
  rw [show n + (x.length - n) = x.length by omega] at this
  rw [this, klist_mk, List.take_of_length_le (by simp)]
theorem kpre (x p : Bs) : (x.take p.length == p) = p.isPrefixOf x := by
  rw [Bool.eq_iff_iff, List.isPrefixOf_iff_prefix, beq_iff_eq, List.prefix_iff_eq_take]
  exact ⟨fun h => h.symm, fun h => h.symm⟩
theorem ksuf (x p : Bs) : (x.drop (x.length - p.length) == p) = p.isSuffixOf x := by
  rw [Bool.eq_iff_iff, List.isSuffixOf_iff_suffix, beq_iff_eq, List.suffix_iff_eq_drop]
  exact ⟨fun h => h.symm, fun h => h.symm⟩
theorem kpre_short {x p : Bs} (h : x.length < p.length) : p.isPrefixOf x = false := by
  rw [Bool.eq_false_iff, ne_eq, List.isPrefixOf_iff_prefix]
  intro q
  have := q.length_le
  omega
theorem ksuf_short {x p : Bs} (h : x.length < p.length) : p.isSuffixOf x = false := by
  rw [Bool.eq_false_iff, ne_eq, List.isSuffixOf_iff_suffix]
  intro q
  have := q.length_le
  omega
set_option maxRecDepth 100000 in
theorem ibegins_any (x p : Bs) (w : World) (hp : p.length ≤ 24) : Calls Tryz.prog 84 #[.string ⟨x.toArray⟩, .string ⟨p.toArray⟩] w fun e w' => e = .returned (.bool (Lib.hasPrefix x p)) ∧ w' = w := by
  have s1 := size_of x
  have s2 := size_of p
  have e1 := kext_take x p.length
  have e2 := klist_mk p
  by_cases h : p.length ≤ x.length
  · have h1 : ((p.length : Nat) : Int) ≤ ((x.length : Nat) : Int) := by omega
    have h0 : (0 : Int) ≤ ((p.length : Nat) : Int) := by omega
    have HP : Hid ((x.take p.length == p) = Lib.hasPrefix x p) := kpre x p
    go_enter Tryz.func84, Tryz.ntmps84
    go_wp2
    go_ret
    exact ⟨by rw [← HP.out]; rfl, rfl⟩
  · have h1 : decide (((p.length : Nat) : Int) ≤ ((x.length : Nat) : Int)) = false := by simp; omega
    have h2 : decide (p.length ≤ x.length) = false := by simp; omega
    have HP : Hid (Lib.hasPrefix x p = false) := kpre_short (by omega)
    clear h
    go_enter Tryz.func84, Tryz.ntmps84
    go_wp2
    go_ret
    exact ⟨by rw [HP.out]; rfl, rfl⟩
set_option maxRecDepth 100000 in
theorem iends_any (x p : Bs) (w : World) (hx : x.length ≤ 24) (hp : p.length ≤ 24) : Calls Tryz.prog 85 #[.string ⟨x.toArray⟩, .string ⟨p.toArray⟩] w fun e w' => e = .returned (.bool (Lib.hasSuffix x p)) ∧ w' = w := by
  have s1 := size_of x
  have s2 := size_of p
  have e2 := klist_mk p
  by_cases h : p.length ≤ x.length
  · have e1 := kext_drop x (x.length - p.length) (by omega)
    have h1 : ((p.length : Nat) : Int) ≤ ((x.length : Nat) : Int) := by omega
    have h3 : (0 : Int) ≤ ((x.length : Nat) : Int) - ((p.length : Nat) : Int) := by omega
    have h4 : ((x.length : Nat) : Int) - ((p.length : Nat) : Int) ≤ ((x.length : Nat) : Int) := by omega
    have h5 : IntKind.i64.wrap (((x.length : Nat) : Int) - ((p.length : Nat) : Int)) = ((x.length : Nat) : Int) - ((p.length : Nat) : Int) := by rw [IntKind.wrap_i64]; omega
    have h6 : (((x.length : Nat) : Int) - ((p.length : Nat) : Int)).toNat = x.length - p.length := by omega
    have HP : Hid ((x.drop (x.length - p.length) == p) = Lib.hasSuffix x p) := ksuf x p
    go_enter Tryz.func85, Tryz.ntmps85
    go_wp2
    go_ret
    exact ⟨by rw [← HP.out]; rfl, rfl⟩
  · have h1 : decide (((p.length : Nat) : Int) ≤ ((x.length : Nat) : Int)) = false := by simp; omega
    have h2 : decide (p.length ≤ x.length) = false := by simp; omega
    have HP : Hid (Lib.hasSuffix x p = false) := ksuf_short (by omega)
    clear h
    go_enter Tryz.func85, Tryz.ntmps85
    go_wp2
    go_ret
    exact ⟨by rw [HP.out]; rfl, rfl⟩
set_option maxRecDepth 100000 in
theorem iname_any (x : Bs) (w : World) (ZN : Calls Tryz.prog 86 #[.string ⟨x.toArray⟩] w fun e w' => e = .returned (.bool (nameK x)) ∧ Below w.heap.size w w') : Calls Tryz.prog 70 #[.string ⟨x.toArray⟩] w fun e w' => e = .returned (.bool (shoS x)) ∧ Below w.heap.size w w' := by
  have s1 := size_of x
  have e1 := kext_take x 2
  unfold shoS
  generalize nameK x = k at *
  cases k with
  | false =>
    go_enter Tryz.func70, Tryz.ntmps70
    go_wp2_with (first
      | (go_at_call 86; (with_reducible refine ZN.mono ?_); rintro e w1 ⟨rfl, b1⟩)
      | fail)
    go_ret
    exact ⟨by simp, b1⟩
  | true =>
    by_cases h24 : x.length ≤ 24
    · have h1 : ((x.length : Nat) : Int) ≤ 24 := by omega
      by_cases h2 : 2 ≤ x.length
      · have h3 : (2 : Int) ≤ ((x.length : Nat) : Int) := by omega
        have HP : Hid ((x.take 2 == [95, 95]) = Lib.hasPrefix x [95, 95]) := kpre x [95, 95]
        go_enter Tryz.func70, Tryz.ntmps70
        go_wp2_with (first
          | (go_at_call 86; (with_reducible refine ZN.mono ?_); rintro e w1 ⟨rfl, b1⟩)
          | fail)
        go_ret
        exact ⟨by rw [← HP.out]; simp [h1], b1⟩
      · have h3 : decide ((2 : Int) ≤ ((x.length : Nat) : Int)) = false := by simp; omega
        have h4 : decide (2 ≤ x.length) = false := by simp; omega
        have HP : Hid (Lib.hasPrefix x [95, 95] = false) := kpre_short (by simp; omega)
        clear h2
        go_enter Tryz.func70, Tryz.ntmps70
        go_wp2_with (first
          | (go_at_call 86; (with_reducible refine ZN.mono ?_); rintro e w1 ⟨rfl, b1⟩)
          | fail)
        go_ret
        exact ⟨by rw [HP.out]; simp [h1], b1⟩
    · have h1 : decide (((x.length : Nat) : Int) ≤ 24) = false := by simp; omega
      have h2 : decide (x.length ≤ 24) = false := by simp; omega
      clear h24
      go_enter Tryz.func70, Tryz.ntmps70
      go_wp2_with (first
        | (go_at_call 86; (with_reducible refine ZN.mono ?_); rintro e w1 ⟨rfl, b1⟩)
        | fail)
      go_ret
      exact ⟨by rw [h1]; simp, b1⟩
end Go.Proofs.YtfkgmgnoijokdaaGreatDoor
namespace Go.Proofs.YtfkgmgnoijokdaaGreatDoor
open Go Go.RowKit Go.Shelf
set_option maxRecDepth 100000 in
set_option maxHeartbeats 4000000 in
theorem iown_any (x : Bs) (w : World) (NM : Calls Tryz.prog 70 #[.string ⟨x.toArray⟩] w fun e w' => e = .returned (.bool (shoS x)) ∧ Below w.heap.size w w') : Calls Tryz.prog 69 #[.string ⟨x.toArray⟩] w fun e w' => e = .returned (.bool (frtS x)) ∧ Below w.heap.size w w' := by
  have SCL := fun W => iscalar_any x W
  have hln := sho_len (x := x)
  have T1 := fun (hx : x.length ≤ 24) W => ibegins_any x [65, 100, 100] W (by decide)
  have T2 := fun (hx : x.length ≤ 24) W => ibegins_any x [80, 97, 116, 99, 104] W (by decide)
  have T3 := fun (hx : x.length ≤ 24) W => iends_any x [70, 105, 108, 116, 101, 114] W hx (by decide)
  have T4 := fun (hx : x.length ≤ 24) W => iends_any x [79, 114, 100, 101, 114] W hx (by decide)
  have T5 := fun (hx : x.length ≤ 24) W => iends_any x [79, 114, 100, 101, 114, 97, 98, 108, 101] W hx (by decide)
  unfold frtS
  simp only [List.all_cons, List.all_nil, Bool.and_true]
  generalize shoS x = k at *
  generalize scaS x = kc at *
  generalize Lib.hasPrefix x [65, 100, 100] = b1 at *
  generalize Lib.hasPrefix x [80, 97, 116, 99, 104] = b2 at *
  generalize Lib.hasSuffix x [70, 105, 108, 116, 101, 114] = b3 at *
  generalize Lib.hasSuffix x [79, 114, 100, 101, 114] = b4 at *
  generalize Lib.hasSuffix x [79, 114, 100, 101, 114, 97, 98, 108, 101] = b5 at *
  cases kc with
  | true =>
    go_enter Tryz.func69, Tryz.ntmps69
    go_wp2_with (first
      | (go_at_call 17; (with_reducible refine (SCL _).mono ?_); rintro e w1 ⟨rfl, rfl⟩)
      | fail)
    go_ret
    exact ⟨by simp, Below.refl _ _⟩
  | false =>
    cases q1 : (x == [81, 117, 101, 114, 121]) with
    | true =>
      go_enter Tryz.func69, Tryz.ntmps69
      go_wp2_with (first
        | (go_at_call 17; (with_reducible refine (SCL _).mono ?_); rintro e w1 ⟨rfl, rfl⟩)
        | fail)
      go_ret
      exact ⟨by simp, Below.refl _ _⟩
    | false =>
      cases q2 : (x == [77, 117, 116, 97, 116, 105, 111, 110]) with
      | true =>
        go_enter Tryz.func69, Tryz.ntmps69
        go_wp2_with (first
          | (go_at_call 17; (with_reducible refine (SCL _).mono ?_); rintro e w1 ⟨rfl, rfl⟩)
          | fail)
        go_ret
        exact ⟨by simp, Below.refl _ _⟩
      | false =>
        cases q3 : (x == [83, 117, 98, 115, 99, 114, 105, 112, 116, 105, 111, 110]) with
        | true =>
          go_enter Tryz.func69, Tryz.ntmps69
          go_wp2_with (first
            | (go_at_call 17; (with_reducible refine (SCL _).mono ?_); rintro e w1 ⟨rfl, rfl⟩)
            | fail)
          go_ret
          exact ⟨by simp, Below.refl _ _⟩
        | false =>
          cases q4 : (x == [73, 68]) with
          | true =>
            go_enter Tryz.func69, Tryz.ntmps69
            go_wp2_with (first
              | (go_at_call 17; (with_reducible refine (SCL _).mono ?_); rintro e w1 ⟨rfl, rfl⟩)
              | fail)
            go_ret
            exact ⟨by simp, Below.refl _ _⟩
          | false =>
            cases k with
            | false =>
              go_enter Tryz.func69, Tryz.ntmps69
              go_wp2_with (first
                | (go_at_call 70; (with_reducible refine NM.mono ?_); rintro e w2 ⟨rfl, c2⟩)
                | (go_at_call 17; (with_reducible refine (SCL _).mono ?_); rintro e w1 ⟨rfl, rfl⟩)
                | fail)
              go_ret
              exact ⟨by simp, c2⟩
            | true =>
              have hx := hln rfl
              replace T1 := T1 hx
              replace T2 := T2 hx
              replace T3 := T3 hx
              replace T4 := T4 hx
              replace T5 := T5 hx
              clear hln
              cases b1 with
              | true =>
                go_enter Tryz.func69, Tryz.ntmps69
                go_wp2_with (first
                  | (go_at_call 84; (with_reducible refine (T1 _).mono ?_); rintro e w3 ⟨rfl, rfl⟩)
                  | (go_at_call 70; (with_reducible refine NM.mono ?_); rintro e w2 ⟨rfl, c2⟩)
                  | (go_at_call 17; (with_reducible refine (SCL _).mono ?_); rintro e w1 ⟨rfl, rfl⟩)
                  | fail)
                go_ret
                exact ⟨by simp, c2⟩
              | false =>
                cases b2 with
                | true =>
                  go_enter Tryz.func69, Tryz.ntmps69
                  go_wp2_with (first
                    | (go_at_call 84; (with_reducible refine (T2 _).mono ?_); rintro e w4 ⟨rfl, rfl⟩)
                    | (go_at_call 84; (with_reducible refine (T1 _).mono ?_); rintro e w3 ⟨rfl, rfl⟩)
                    | (go_at_call 70; (with_reducible refine NM.mono ?_); rintro e w2 ⟨rfl, c2⟩)
                    | (go_at_call 17; (with_reducible refine (SCL _).mono ?_); rintro e w1 ⟨rfl, rfl⟩)
                    | fail)
                  go_ret
                  exact ⟨by simp, c2⟩
                | false =>
                  cases b3 with
                  | true =>
                    go_enter Tryz.func69, Tryz.ntmps69
                    go_wp2_with (first
                      | (go_at_call 85; (with_reducible refine (T3 _).mono ?_); rintro e w5 ⟨rfl, rfl⟩)
                      | (go_at_call 84; (with_reducible refine (T2 _).mono ?_); rintro e w4 ⟨rfl, rfl⟩)
                      | (go_at_call 84; (with_reducible refine (T1 _).mono ?_); rintro e w3 ⟨rfl, rfl⟩)
                      | (go_at_call 70; (with_reducible refine NM.mono ?_); rintro e w2 ⟨rfl, c2⟩)
                      | (go_at_call 17; (with_reducible refine (SCL _).mono ?_); rintro e w1 ⟨rfl, rfl⟩)
                      | fail)
                    go_ret
                    exact ⟨by simp, c2⟩
                  | false =>
                    cases b4 with
                    | true =>
                      go_enter Tryz.func69, Tryz.ntmps69
                      go_wp2_with (first
                        | (go_at_call 85; (with_reducible refine (T4 _).mono ?_); rintro e w6 ⟨rfl, rfl⟩)
                        | (go_at_call 85; (with_reducible refine (T3 _).mono ?_); rintro e w5 ⟨rfl, rfl⟩)
                        | (go_at_call 84; (with_reducible refine (T2 _).mono ?_); rintro e w4 ⟨rfl, rfl⟩)
                        | (go_at_call 84; (with_reducible refine (T1 _).mono ?_); rintro e w3 ⟨rfl, rfl⟩)
                        | (go_at_call 70; (with_reducible refine NM.mono ?_); rintro e w2 ⟨rfl, c2⟩)
                        | (go_at_call 17; (with_reducible refine (SCL _).mono ?_); rintro e w1 ⟨rfl, rfl⟩)
                        | fail)
                      go_ret
                      exact ⟨by simp, c2⟩
                    | false =>
                      go_enter Tryz.func69, Tryz.ntmps69
                      go_wp2_with (first
                        | (go_at_call 85; (with_reducible refine (T5 _).mono ?_); rintro e w7 ⟨rfl, rfl⟩)
                        | (go_at_call 85; (with_reducible refine (T4 _).mono ?_); rintro e w6 ⟨rfl, rfl⟩)
                        | (go_at_call 85; (with_reducible refine (T3 _).mono ?_); rintro e w5 ⟨rfl, rfl⟩)
                        | (go_at_call 84; (with_reducible refine (T2 _).mono ?_); rintro e w4 ⟨rfl, rfl⟩)
                        | (go_at_call 84; (with_reducible refine (T1 _).mono ?_); rintro e w3 ⟨rfl, rfl⟩)
                        | (go_at_call 70; (with_reducible refine NM.mono ?_); rintro e w2 ⟨rfl, c2⟩)
                        | (go_at_call 17; (with_reducible refine (SCL _).mono ?_); rintro e w1 ⟨rfl, rfl⟩)
                        | fail)
                      go_ret
                      exact ⟨by simp, c2⟩
section
variable {w : World} {ov ev : Value} {s : Sch}
set_option maxRecDepth 100000 in
set_option maxHeartbeats 4000000 in
theorem ikind_any (h : SchAt w ov ev s) (f : Fld) : Calls Tryz.prog 38 #[.agg #[ov, ev], fldV f] w fun e w' => e = .returned (.bool (wtyS s f)) ∧ Below w.heap.size w w' := by
  have PR := fun o o' => iproperty_any (h.on (al2 w o o')) f
  have ED := fun W (b : Below w.heap.size w W) => iedge_any (h.on b) f
  obtain ⟨a, c, rfl, _, _⟩ := h.os.slice
  obtain ⟨a', c', rfl, _, _⟩ := h.es.slice
  unfold wtyS
  generalize prpS s f = b at *
  generalize edgS s f = k at *
  obtain ⟨fn, ft, fw, fs, fi⟩ := f
  simp only at *
  cases b with
  | true =>
    cases h1 : (fw == []) with
    | true =>
      have e0 : fw = [] := by simpa using h1
      subst e0
      go_enter Tryz.func38, Tryz.ntmps38
      go_wp2_with (first
        | (go_at_call 45; (with_reducible refine (PR _ _).mono ?_); rintro e w2 ⟨rfl, b2⟩; have B2 := (al2 w _ _).trans (b2.mono (al2 w _ _).size); obtain ⟨q0, q1, fq⟩ := row2 ((b2.block _ (by rw [World.size_alloc, World.size_alloc]; omega)).trans (new1 w (.cells #[.slice a s.os.length c, .slice a' s.es.length c'] 25) (.cells #[.string ⟨fn.toArray⟩, .string ⟨ft.toArray⟩, .string ⟨#[]⟩, .bool fs, .string ⟨fi.toArray⟩] 33))); obtain ⟨n0, n1, n2, n3, n4, fn5⟩ := row5 ((b2.block _ (by rw [World.size_alloc, World.size_alloc]; omega)).trans (new2 w (.cells #[.slice a s.os.length c, .slice a' s.es.length c'] 25) (.cells #[.string ⟨fn.toArray⟩, .string ⟨ft.toArray⟩, .string ⟨#[]⟩, .bool fs, .string ⟨fi.toArray⟩] 33))))
        | fail)
      go_ret
      exact ⟨by simp, B2⟩
    | false =>
      go_enter Tryz.func38, Tryz.ntmps38
      go_wp2_with (first
        | (go_at_call 45; (with_reducible refine (PR _ _).mono ?_); rintro e w2 ⟨rfl, b2⟩; have B2 := (al2 w _ _).trans (b2.mono (al2 w _ _).size); obtain ⟨q0, q1, fq⟩ := row2 ((b2.block _ (by rw [World.size_alloc, World.size_alloc]; omega)).trans (new1 w (.cells #[.slice a s.os.length c, .slice a' s.es.length c'] 25) (.cells #[.string ⟨fn.toArray⟩, .string ⟨ft.toArray⟩, .string ⟨fw.toArray⟩, .bool fs, .string ⟨fi.toArray⟩] 33))); obtain ⟨n0, n1, n2, n3, n4, fn5⟩ := row5 ((b2.block _ (by rw [World.size_alloc, World.size_alloc]; omega)).trans (new2 w (.cells #[.slice a s.os.length c, .slice a' s.es.length c'] 25) (.cells #[.string ⟨fn.toArray⟩, .string ⟨ft.toArray⟩, .string ⟨fw.toArray⟩, .bool fs, .string ⟨fi.toArray⟩] 33))))
        | fail)
      go_ret
      exact ⟨by simp, B2⟩
  | false =>
    by_cases hk : 0 ≤ k
    · cases h1 : (fw == []) with
      | true =>
        have e0 : fw = [] := by simpa using h1
        subst e0
        go_enter Tryz.func38, Tryz.ntmps38
        go_wp2_with (first
          | (go_at_call 19; (with_reducible refine (ED _ B2).mono ?_); rintro e w3 ⟨rfl, b3⟩; have B3 := B2.trans (b3.mono B2.size); have m2 := cell_on b3 n2)
          | (go_at_call 45; (with_reducible refine (PR _ _).mono ?_); rintro e w2 ⟨rfl, b2⟩; have B2 := (al2 w _ _).trans (b2.mono (al2 w _ _).size); obtain ⟨q0, q1, fq⟩ := row2 ((b2.block _ (by rw [World.size_alloc, World.size_alloc]; omega)).trans (new1 w (.cells #[.slice a s.os.length c, .slice a' s.es.length c'] 25) (.cells #[.string ⟨fn.toArray⟩, .string ⟨ft.toArray⟩, .string ⟨#[]⟩, .bool fs, .string ⟨fi.toArray⟩] 33))); obtain ⟨n0, n1, n2, n3, n4, fn5⟩ := row5 ((b2.block _ (by rw [World.size_alloc, World.size_alloc]; omega)).trans (new2 w (.cells #[.slice a s.os.length c, .slice a' s.es.length c'] 25) (.cells #[.string ⟨fn.toArray⟩, .string ⟨ft.toArray⟩, .string ⟨#[]⟩, .bool fs, .string ⟨fi.toArray⟩] 33))))
          | fail)
        go_ret
        exact ⟨by simp, B3⟩
      | false =>
        go_enter Tryz.func38, Tryz.ntmps38
        go_wp2_with (first
          | (go_at_call 19; (with_reducible refine (ED _ B2).mono ?_); rintro e w3 ⟨rfl, b3⟩; have B3 := B2.trans (b3.mono B2.size); have m2 := cell_on b3 n2)
          | (go_at_call 45; (with_reducible refine (PR _ _).mono ?_); rintro e w2 ⟨rfl, b2⟩; have B2 := (al2 w _ _).trans (b2.mono (al2 w _ _).size); obtain ⟨q0, q1, fq⟩ := row2 ((b2.block _ (by rw [World.size_alloc, World.size_alloc]; omega)).trans (new1 w (.cells #[.slice a s.os.length c, .slice a' s.es.length c'] 25) (.cells #[.string ⟨fn.toArray⟩, .string ⟨ft.toArray⟩, .string ⟨fw.toArray⟩, .bool fs, .string ⟨fi.toArray⟩] 33))); obtain ⟨n0, n1, n2, n3, n4, fn5⟩ := row5 ((b2.block _ (by rw [World.size_alloc, World.size_alloc]; omega)).trans (new2 w (.cells #[.slice a s.os.length c, .slice a' s.es.length c'] 25) (.cells #[.string ⟨fn.toArray⟩, .string ⟨ft.toArray⟩, .string ⟨fw.toArray⟩, .bool fs, .string ⟨fi.toArray⟩] 33))))
          | fail)
        go_ret
        exact ⟨by simp, B3⟩
    · have hk2 : decide (0 ≤ k) = false := by simpa using hk
      clear hk
      go_enter Tryz.func38, Tryz.ntmps38
      go_wp2_with (first
        | (go_at_call 19; (with_reducible refine (ED _ B2).mono ?_); rintro e w3 ⟨rfl, b3⟩; have B3 := B2.trans (b3.mono B2.size); have m2 := cell_on b3 n2)
        | (go_at_call 45; (with_reducible refine (PR _ _).mono ?_); rintro e w2 ⟨rfl, b2⟩; have B2 := (al2 w _ _).trans (b2.mono (al2 w _ _).size); obtain ⟨q0, q1, fq⟩ := row2 ((b2.block _ (by rw [World.size_alloc, World.size_alloc]; omega)).trans (new1 w (.cells #[.slice a s.os.length c, .slice a' s.es.length c'] 25) (.cells #[.string ⟨fn.toArray⟩, .string ⟨ft.toArray⟩, .string ⟨fw.toArray⟩, .bool fs, .string ⟨fi.toArray⟩] 33))); obtain ⟨n0, n1, n2, n3, n4, fn5⟩ := row5 ((b2.block _ (by rw [World.size_alloc, World.size_alloc]; omega)).trans (new2 w (.cells #[.slice a s.os.length c, .slice a' s.es.length c'] 25) (.cells #[.string ⟨fn.toArray⟩, .string ⟨ft.toArray⟩, .string ⟨fw.toArray⟩, .bool fs, .string ⟨fi.toArray⟩] 33))))
        | fail)
      go_ret
      exact ⟨by simp, B3⟩
end
end Go.Proofs.YtfkgmgnoijokdaaGreatDoor
namespace Go.Proofs.YtfkgmgnoijokdaaGreatDoor
open Go Go.RowKit Go.Shelf
theorem en_cells2 {w : World} {v : Value} {es : List En} {i : Nat} {x : En} (h : EnsAt w v es) (hx : es[i]? = some x) : ∃ b o c a1 c1, v = .slice (some ⟨b, o, none⟩) es.length c ∧ b < w.heap.size ∧ es.length ≤ c ∧ w.cell? ⟨b, o + i * 2, none⟩ = some (.string ⟨x.n.toArray⟩) ∧ w.cell? ⟨b, o + i * 2 + 1, none⟩ = some (.slice a1 x.ws.length c1) ∧ WdsAt w (.slice a1 x.ws.length c1) x.ws := by
  obtain ⟨a, c, rfl, hc, _, hr⟩ := h
  have hi := (List.getElem?_eq_some_iff.1 hx).1
  obtain ⟨b, o, rfl, hb, hH⟩ := hr (by omega)
  obtain ⟨e0, fv, e1, hf⟩ := hH i hi x hx
  obtain ⟨a1, c1, rfl, _, _⟩ := hf.slice
  exact ⟨b, o, c, a1, c1, rfl, hb, hc, e0, e1, hf⟩
theorem wrd_cells2 {w : World} {a : Option Addr} {n c : Nat} {ws : List Bs} {i : Nat} {f : Bs} (h : WdsAt w (.slice a n c) ws) (hx : ws[i]? = some f) : ∃ b o, a = some ⟨b, o, none⟩ ∧ b < w.heap.size ∧ w.cell? ⟨b, o + i, none⟩ = some (.string ⟨f.toArray⟩) := by
  obtain ⟨a, c, he, hc, _, hr⟩ := h
  cases he
  have hi := (List.getElem?_eq_some_iff.1 hx).1
  obtain ⟨b, o, rfl, hb, hH⟩ := hr (by omega)
  have := hH i hi f hx
  rw [Nat.mul_one] at this
  exact ⟨b, o, rfl, hb, this⟩
section
variable {w : World} {ov ev : Value} {s : Sch}
set_option maxRecDepth 100000 in
set_option maxHeartbeats 4000000 in
theorem imany_any (h : SchAt w ov ev s) : Calls Tryz.prog 35 #[.agg #[ov, ev]] w fun e w' => e = .returned (.bool (manS s)) ∧ Below w.heap.size w w' := by
  have hos := h.os
  have hes := h.es
  obtain ⟨a, c, rfl, _, _⟩ := h.os.slice
  obtain ⟨a', c', rfl, _, _⟩ := h.es.slice
  obtain ⟨w0, hw0⟩ : ∃ w0, w0 = w.alloc (.cells #[.slice a s.os.length c, .slice a' s.es.length c'] 25) := ⟨_, rfl⟩
  have A0 : Below w.heap.size w w0 := by rw [hw0]; exact al1 w _
  have HZ : ∀ {W : World}, Below w0.heap.size w0 W → Below w.heap.size w W := fun b => A0.trans (b.mono A0.size)
  obtain ⟨r0, r1, _⟩ := row2 (show w0.heap[w.heap.size]? = some (.cells #[.slice a s.os.length c, .slice a' s.es.length c'] 25) by rw [hw0]; exact heap_alloc_new w _)
  go_enter Tryz.func35, Tryz.ntmps35
  go_wp2
  rw [← hw0]
  clear hw0
  go_loopw [3] (fun iv wr => ∃ j : Nat, iv = .int .i64 (j : Int) ∧ j ≤ s.os.length ∧ (∀ (q : Nat) z, q < j → s.os[q]? = some z → 1 ≤ z.fs.length ∧ z.fs.length ≤ 12) ∧ Below w0.heap.size w0 wr) (fun iv _ => s.os.length - (RowKit.intOf iv).toNat)
  case atStart => exact ⟨0, rfl, Nat.zero_le _, fun q z hq => absurd hq (Nat.not_lt_zero _), Below.refl _ _⟩
  case round =>
    obtain ⟨j, rfl, hj, hno, hbr⟩ := hrel
    have z0 := cell_on hbr r0
    have z1 := cell_on hbr r1
    by_cases hlt : j < s.os.length
    · obtain ⟨x, hx⟩ : ∃ x, s.os[j]? = some x := ⟨_, List.getElem?_eq_getElem hlt⟩
      obtain ⟨b, o, c0, a1, c1, hv, hbl, _, e0, e1, hfs⟩ := ob_cells hos hx
      cases hv
      have f1 := cell_on (HZ hbr) e1
      have l1 : ((j : Nat) : Int) < (s.os.length : Int) := by omega
      have hjN : ((j : Nat) : Int).toNat = j := by omega
      have HJ : Hid (j + 1 ≤ s.os.length) := hlt
      have HX : Hid (s.os[j]? = some x) := hx
      have HNO : Hid (∀ (q : Nat) z, q < j → s.os[q]? = some z → 1 ≤ z.fs.length ∧ z.fs.length ≤ 12) := hno
      clear hx hlt hno hj
      by_cases h1 : x.fs.length < 1
      · have h2 : ((x.fs.length : Nat) : Int) < 1 := by omega
        have HP : Hid (manS s = false) := by
          show _ = _
          rw [← Bool.not_eq_true, man_iff]
          rintro ⟨_, _, q1, q2⟩
          have := (q1 x (List.mem_of_getElem? HX.out)).1
          omega
        go_wp2
        go_ret
        exact ⟨by rw [HP.out]; rfl, HZ hbr⟩
      · have h2 : decide (((x.fs.length : Nat) : Int) < 1) = false := by simp; omega
        have h2b : decide (x.fs.length < 1) = false := by rw [decide_eq_false_iff_not]; omega
        by_cases h3 : 12 < x.fs.length
        · have h4 : (12 : Int) < ((x.fs.length : Nat) : Int) := by omega
          have HP : Hid (manS s = false) := by
            show _ = _
            rw [← Bool.not_eq_true, man_iff]
            rintro ⟨_, _, q1, q2⟩
            have := (q1 x (List.mem_of_getElem? HX.out)).2
            omega
          clear h1
          go_wp2
          go_ret
          exact ⟨by rw [HP.out]; rfl, HZ hbr⟩
        · have h4 : decide ((12 : Int) < ((x.fs.length : Nat) : Int)) = false := by simp; omega
          have h4b : decide (12 < x.fs.length) = false := by simp; omega
          have HN2 : Hid (∀ (q : Nat) z, q < j + 1 → s.os[q]? = some z → 1 ≤ z.fs.length ∧ z.fs.length ≤ 12) := by
            intro q z hq hz
            by_cases e : q = j
            · subst e
              rw [HX.out] at hz
              cases hz
              omega
            · exact HNO.out q z (by omega) hz
          clear h1 h3
          go_wp2
          refine ⟨⟨j + 1, by simp, HJ.out, HN2.out, hbr⟩, ?_⟩
          have := HJ.out
          simp [RowKit.intOf]
          omega
    · have l2 : decide (((j : Nat) : Int) < (s.os.length : Int)) = false := by simp; omega
      have l3 : decide (j < s.os.length) = false := by simp; omega
      have HAO : Hid (∀ z ∈ s.os, 1 ≤ z.fs.length ∧ z.fs.length ≤ 12) := by
        intro z hz
        obtain ⟨q, hq⟩ := List.mem_iff_getElem?.1 hz
        exact hno q z (by have := (List.getElem?_eq_some_iff.1 hq).1; omega) hq
      clear hlt hno
      clear hj
      generalize wr = wB at *
      go_wp2
      go_loopw [4] (fun iv wr => ∃ j : Nat, iv = .int .i64 (j : Int) ∧ j ≤ s.es.length ∧ (∀ (q : Nat) z, q < j → s.es[q]? = some z → 1 ≤ z.ws.length ∧ z.ws.length ≤ 16) ∧ Below w0.heap.size w0 wr) (fun iv _ => s.es.length - (RowKit.intOf iv).toNat)
      case atStart => exact ⟨0, rfl, Nat.zero_le _, fun q z hq => absurd hq (Nat.not_lt_zero _), hbr⟩
      case round =>
        obtain ⟨j, rfl, hj, hno, hbr⟩ := hrel
        have z0 := cell_on hbr r0
        have z1 := cell_on hbr r1
        by_cases hlt : j < s.es.length
        · obtain ⟨x, hx⟩ : ∃ x, s.es[j]? = some x := ⟨_, List.getElem?_eq_getElem hlt⟩
          obtain ⟨b, o, c0, a1, c1, hv, hbl, _, e0, e1, hfs⟩ := en_cells2 hes hx
          cases hv
          have f1 := cell_on (HZ hbr) e1
          have l1 : ((j : Nat) : Int) < (s.es.length : Int) := by omega
          have hjN : ((j : Nat) : Int).toNat = j := by omega
          have HJ : Hid (j + 1 ≤ s.es.length) := hlt
          have HX : Hid (s.es[j]? = some x) := hx
          have HNO : Hid (∀ (q : Nat) z, q < j → s.es[q]? = some z → 1 ≤ z.ws.length ∧ z.ws.length ≤ 16) := hno
          clear hx hlt hno hj
          by_cases h1 : x.ws.length < 1
          · have h2 : ((x.ws.length : Nat) : Int) < 1 := by omega
            have HP : Hid (manS s = false) := by
              show _ = _
              rw [← Bool.not_eq_true, man_iff]
              rintro ⟨_, _, q1, q2⟩
              have := (q2 x (List.mem_of_getElem? HX.out)).1
              omega
            go_wp2
            go_ret
            exact ⟨by rw [HP.out]; rfl, HZ hbr⟩
          · have h2 : decide (((x.ws.length : Nat) : Int) < 1) = false := by simp; omega
            have h2b : decide (x.ws.length < 1) = false := by rw [decide_eq_false_iff_not]; omega
            by_cases h3 : 16 < x.ws.length
            · have h4 : (16 : Int) < ((x.ws.length : Nat) : Int) := by omega
              have HP : Hid (manS s = false) := by
                show _ = _
                rw [← Bool.not_eq_true, man_iff]
                rintro ⟨_, _, q1, q2⟩
                have := (q2 x (List.mem_of_getElem? HX.out)).2
                omega
              clear h1
              go_wp2
              go_ret
              exact ⟨by rw [HP.out]; rfl, HZ hbr⟩
            · have h4 : decide ((16 : Int) < ((x.ws.length : Nat) : Int)) = false := by simp; omega
              have h4b : decide (16 < x.ws.length) = false := by simp; omega
              have HN2 : Hid (∀ (q : Nat) z, q < j + 1 → s.es[q]? = some z → 1 ≤ z.ws.length ∧ z.ws.length ≤ 16) := by
                intro q z hq hz
                by_cases e : q = j
                · subst e
                  rw [HX.out] at hz
                  cases hz
                  omega
                · exact HNO.out q z (by omega) hz
              clear h1 h3
              go_wp2
              refine ⟨⟨j + 1, by simp, HJ.out, HN2.out, hbr⟩, ?_⟩
              have := HJ.out
              simp [RowKit.intOf]
              omega
        · have l2 : decide (((j : Nat) : Int) < (s.es.length : Int)) = false := by simp; omega
          have l3 : decide (j < s.es.length) = false := by simp; omega
          have HAE : Hid (∀ z ∈ s.es, 1 ≤ z.ws.length ∧ z.ws.length ≤ 16) := by
            intro z hz
            obtain ⟨q, hq⟩ := List.mem_iff_getElem?.1 hz
            exact hno q z (by have := (List.getElem?_eq_some_iff.1 hq).1; omega) hq
          clear hlt hno
          clear hj
          by_cases n1 : 1 ≤ s.os.length
          · have m1 : (1 : Int) ≤ ((s.os.length : Nat) : Int) := by omega
            by_cases n2 : s.os.length ≤ 8
            · have m2 : ((s.os.length : Nat) : Int) ≤ 8 := by omega
              have HP : Hid (manS s = decide (((s.es.length : Nat) : Int) ≤ 8)) := by
                show _ = _
                rw [Bool.eq_iff_iff, man_iff, decide_eq_true_eq]
                exact ⟨fun q => by omega, fun q => ⟨⟨n1, n2⟩, by omega, HAO.out, HAE.out⟩⟩
              clear n1 n2
              by_cases n3 : ((s.es.length : Nat) : Int) ≤ 8
              · have HP2 : Hid (manS s = true) := by show _ = _; rw [HP.out]; simpa using n3
                clear HP
                go_wp2
                go_ret
                exact ⟨by rw [HP2.out]; rfl, HZ hbr⟩
              · have n4 : decide (((s.es.length : Nat) : Int) ≤ 8) = false := by simpa using n3
                have n5 : decide (s.es.length ≤ 8) = false := by simp; omega
                have HP2 : Hid (manS s = false) := by show _ = _; rw [HP.out]; exact n4
                clear HP n3
                go_wp2
                go_ret
                exact ⟨by rw [HP2.out]; rfl, HZ hbr⟩
            · have m2 : decide (((s.os.length : Nat) : Int) ≤ 8) = false := by simp; omega
              have m3 : decide (s.os.length ≤ 8) = false := by simp; omega
              have HP : Hid (manS s = false) := by
                show _ = _
                rw [← Bool.not_eq_true, man_iff]
                rintro ⟨⟨_, q⟩, _⟩
                exact n2 q
              clear n1 n2
              go_wp2
              go_ret
              exact ⟨by rw [HP.out]; rfl, HZ hbr⟩
          · have m1 : decide ((1 : Int) ≤ ((s.os.length : Nat) : Int)) = false := by simp; omega
            have m3 : decide (1 ≤ s.os.length) = false := by rw [decide_eq_false_iff_not]; omega
            have HP : Hid (manS s = false) := by
              show _ = _
              rw [← Bool.not_eq_true, man_iff]
              rintro ⟨⟨q, _⟩, _⟩
              exact n1 q
            clear n1
            go_wp2
            go_ret
            exact ⟨by rw [HP.out]; rfl, HZ hbr⟩
end
set_option maxRecDepth 100000 in
set_option maxHeartbeats 4000000 in
theorem iunlike_any {ws : List Bs} {v : Value} (w : World) (h : WdsAt w v ws) : Calls Tryz.prog 71 #[v] w fun e w' => e = .returned (.bool (uniB ws)) ∧ Below w.heap.size w w' := by
  have hh := h
  obtain ⟨a, c, rfl, _, _⟩ := h.slice
  go_enter Tryz.func71, Tryz.ntmps71
  go_wp2
  go_loopw [3] (fun iv wr => ∃ i : Nat, iv = .int .i64 (i : Int) ∧ i ≤ ws.length ∧ (∀ (p q : Nat) y z, p < q → q < i → ws[p]? = some y → ws[q]? = some z → y ≠ z) ∧ Below w.heap.size w wr) (fun iv _ => ws.length - (RowKit.intOf iv).toNat)
  case atStart => exact ⟨0, rfl, Nat.zero_le _, fun p q y z _ hq => absurd hq (Nat.not_lt_zero _), Below.refl _ _⟩
  case round =>
    obtain ⟨i, rfl, hi, hno, hbr⟩ := hrel
    by_cases hlt : i < ws.length
    · obtain ⟨x, hx⟩ : ∃ x, ws[i]? = some x := ⟨_, List.getElem?_eq_getElem hlt⟩
      obtain ⟨b, o, rfl, hbl, g0⟩ := wrd_cells2 hh hx
      have l1 : ((i : Nat) : Int) < (ws.length : Int) := by omega
      have hiN : ((i : Nat) : Int).toNat = i := by omega
      have HI : Hid (i + 1 ≤ ws.length) := hlt
      have HX : Hid (ws[i]? = some x) := hx
      have HNO : Hid (∀ (p q : Nat) y z, p < q → q < i → ws[p]? = some y → ws[q]? = some z → y ≠ z) := hno
      clear hx hno
      generalize wr = wB at *
      go_wp2
      go_loopw [4] (fun kv wr => ∃ k : Nat, kv = .int .i64 (k : Int) ∧ k ≤ i ∧ (∀ (p : Nat) y, p < k → ws[p]? = some y → y ≠ x) ∧ Below w.heap.size w wr) (fun kv _ => i - (RowKit.intOf kv).toNat)
      case atStart => exact ⟨0, rfl, Nat.zero_le _, fun p y hq => absurd hq (Nat.not_lt_zero _), hbr⟩
      case round =>
        obtain ⟨k, rfl, hk, hnk, hbk⟩ := hrel
        by_cases hkl : k < i
        · obtain ⟨y, hy⟩ : ∃ y, ws[k]? = some y := ⟨_, List.getElem?_eq_getElem (by omega)⟩
          obtain ⟨b', o', hv, _, g1⟩ := wrd_cells2 hh hy
          cases hv
          have l2 : ((k : Nat) : Int) < ((i : Nat) : Int) := by omega
          have l3 : ((k : Nat) : Int) < (ws.length : Int) := by omega
          have hkN : ((k : Nat) : Int).toNat = k := by omega
          have HK : Hid (k + 1 ≤ i) := hkl
          have HY : Hid (ws[k]? = some y) := hy
          have HNK : Hid (∀ (p : Nat) y, p < k → ws[p]? = some y → y ≠ x) := hnk
          have hbe := bytes_eq y x
          have DR : Below w.heap.size w wr.drew := ⟨hbk.os, hbk.tape, hbk.output, hbk.size, hbk.block⟩
          have S7 : (fun w' : World => w'.cell? ⟨b, o + k, none⟩ = some (.string ⟨y.toArray⟩) ∧ w'.cell? ⟨b, o + i, none⟩ = some (.string ⟨x.toArray⟩)) wr.drew := ⟨cell_on DR g1, cell_on DR g0⟩
          clear hy hnk
          go_wp2
          go_region_held3 (fun w' => w'.cell? ⟨b, o + k, none⟩ = some (.string ⟨y.toArray⟩) ∧ w'.cell? ⟨b, o + i, none⟩ = some (.string ⟨x.toArray⟩)) (exact S7) (fail)
          cases hq : (y == x) with
          | true =>
            have HP : Hid (uniB ws = false) := by
              show _ = _
              rw [← Bool.not_eq_true, uni_iff, List.Nodup, List.pairwise_iff_getElem]
              intro hall
              obtain ⟨q1, e1⟩ := List.getElem?_eq_some_iff.1 HY.out
              obtain ⟨q2, e2⟩ := List.getElem?_eq_some_iff.1 HX.out
              refine hall k i q1 q2 hkl ?_
              rw [e1, e2]
              simpa using hq
            go_wp2
            go_ret
            exact ⟨by rw [HP.out]; rfl, DR⟩
          | false =>
            have HN2 : Hid (∀ (p : Nat) y, p < k + 1 → ws[p]? = some y → y ≠ x) := by
              intro p z hp hz
              by_cases e : p = k
              · subst e
                rw [HY.out] at hz
                cases hz
                simpa using hq
              · exact HNK.out p z (by omega) hz
            go_wp2
            refine ⟨⟨k + 1, by simp, HK.out, HN2.out, DR⟩, ?_⟩
            have := HK.out
            simp [RowKit.intOf]
            omega
        · have l2 : decide (((k : Nat) : Int) < ((i : Nat) : Int)) = false := by simp; omega
          have l3 : decide (k < i) = false := by simp; omega
          have HN2 : Hid (∀ (p q : Nat) y z, p < q → q < i + 1 → ws[p]? = some y → ws[q]? = some z → y ≠ z) := by
            intro p q y z hpq hq hy hz
            by_cases e : q = i
            · subst e
              rw [HX.out] at hz
              cases hz
              exact hnk p y (by omega) hy
            · exact HNO.out p q y z hpq (by omega) hy hz
          clear hkl hnk
          go_wp2
          refine ⟨⟨i + 1, by simp, HI.out, HN2.out, hbk⟩, ?_⟩
          have := HI.out
          simp [RowKit.intOf]
          omega
    · have l2 : decide (((i : Nat) : Int) < (ws.length : Int)) = false := by simp; omega
      have l3 : decide (i < ws.length) = false := by simp; omega
      have HP : Hid (uniB ws = true) := by
        show _ = _
        rw [uni_iff, List.Nodup, List.pairwise_iff_getElem]
        intro p q hp hq hpq
        exact hno p q _ _ hpq (by omega) (List.getElem?_eq_getElem hp) (List.getElem?_eq_getElem hq)
      clear hlt hi hno
      go_wp2
      go_ret
      exact ⟨by rw [HP.out]; rfl, hbr⟩
end Go.Proofs.YtfkgmgnoijokdaaGreatDoor
namespace Go.Proofs.YtfkgmgnoijokdaaGreatDoor
open Go Go.RowKit Go.Shelf
section
variable {w : World} {ov ev : Value} {s : Sch}
set_option maxRecDepth 100000 in
set_option maxHeartbeats 8000000 in
theorem inames_any (h : SchAt w ov ev s) : Calls Tryz.prog 36 #[.agg #[ov, ev]] w fun e w' => e = .returned (.bool (namS s && (sptS s).all (fun x => frfS x.f.n))) ∧ Below w.heap.size w w' := by
  have hos := h.os
  have hes := h.es
  obtain ⟨a, c, rfl, _, _⟩ := h.os.slice
  obtain ⟨a', c', rfl, _, _⟩ := h.es.slice
  obtain ⟨w0, hw0⟩ : ∃ w0, w0 = w.alloc (.cells #[.slice a s.os.length c, .slice a' s.es.length c'] 25) := ⟨_, rfl⟩
  have A0 : Below w.heap.size w w0 := by rw [hw0]; exact al1 w _
  have HZ : ∀ {W : World}, Below w0.heap.size w0 W → Below w.heap.size w W := fun b => A0.trans (b.mono A0.size)
  obtain ⟨r0, r1, _⟩ := row2 (show w0.heap[w.heap.size]? = some (.cells #[.slice a s.os.length c, .slice a' s.es.length c'] 25) by rw [hw0]; exact heap_alloc_new w _)
  go_enter Tryz.func36, Tryz.ntmps36
  go_wp2
  rw [← hw0]
  clear hw0
  go_loopw [3] (fun iv wr => ∃ i : Nat, iv = .int .i64 (i : Int) ∧ i ≤ s.os.length ∧ (∀ (q : Nat) z, q < i → s.os[q]? = some z → frtS z.n = true ∧ ∀ f ∈ z.fs, frfS f.n = true) ∧ Below w0.heap.size w0 wr) (fun iv _ => s.os.length - (RowKit.intOf iv).toNat)
  case atStart => exact ⟨0, rfl, Nat.zero_le _, fun q z hq => absurd hq (Nat.not_lt_zero _), Below.refl _ _⟩
  case round =>
    obtain ⟨i, rfl, hi, hno, hbr⟩ := hrel
    have z0 := cell_on hbr r0
    have z1 := cell_on hbr r1
    by_cases hlt : i < s.os.length
    · obtain ⟨x, hx⟩ : ∃ x, s.os[i]? = some x := ⟨_, List.getElem?_eq_getElem hlt⟩
      obtain ⟨b, o, c0, a1, c1, hv, hbl, _, e0, e1, hfs⟩ := ob_cells hos hx
      cases hv
      have f0 := cell_on (HZ hbr) e0
      have l1 : ((i : Nat) : Int) < (s.os.length : Int) := by omega
      have hiN : ((i : Nat) : Int).toNat = i := by omega
      have HI : Hid (i + 1 ≤ s.os.length) := hlt
      have HX : Hid (s.os[i]? = some x) := hx
      have HNO : Hid (∀ (q : Nat) z, q < i → s.os[q]? = some z → frtS z.n = true ∧ ∀ f ∈ z.fs, frfS f.n = true) := hno
      have OWN := iown_any x.n wr (iname_any x.n wr (zname_any x.n wr))
      have hxl : x.fs.length ≤ 140737488355328 := by obtain ⟨_, _, _, _, q, _⟩ := hfs; exact q
      clear hx hlt hno
      cases hk0 : frtS x.n with
      | false =>
        rw [hk0] at OWN
        have HP : Hid ((namS s && (sptS s).all (fun x => frfS x.f.n)) = false) := by
          show _ = _
          rw [← Bool.not_eq_true, nam_iff]
          intro hall
          have h9 := (hall.1 x (List.mem_of_getElem? HX.out)).1
          rw [hk0] at h9
          cases h9
        clear hk0
        go_wp2_with (first
          | (go_at_call 69; (with_reducible refine OWN.mono ?_); rintro e y1 ⟨rfl, c1'⟩; have Y1 := hbr.trans (c1'.mono hbr.size); clear c1')
          | fail)
        go_ret
        exact ⟨by rw [HP.out]; rfl, HZ Y1⟩
      | true =>
        rw [hk0] at OWN
        have HK0 : Hid (frtS x.n = true) := hk0
        clear hk0
        generalize wr = wB at *
        go_wp2_with (first
          | (go_at_call 69; (with_reducible refine OWN.mono ?_); rintro e y1 ⟨rfl, c1'⟩; have Y1 := hbr.trans (c1'.mono hbr.size); clear c1')
          | fail)
        go_loopw [4] (fun kv wr => ∃ k : Nat, kv = .int .i64 (k : Int) ∧ k ≤ x.fs.length ∧ (∀ (q : Nat) f, q < k → x.fs[q]? = some f → frfS f.n = true) ∧ Below w0.heap.size w0 wr) (fun kv _ => x.fs.length - (RowKit.intOf kv).toNat)
        case atStart => exact ⟨0, rfl, Nat.zero_le _, fun q z hq => absurd hq (Nat.not_lt_zero _), Y1⟩
        case round =>
          obtain ⟨k, rfl, hk, hnk, hbk⟩ := hrel
          have y0 := cell_on hbk r0
          have y1' := cell_on hbk r1
          have y2' := cell_on (HZ hbk) e1
          by_cases hkl : k < x.fs.length
          · obtain ⟨f, hf⟩ : ∃ f, x.fs[k]? = some f := ⟨_, List.getElem?_eq_getElem hkl⟩
            obtain ⟨b1, o1, rfl, hbl1, _, g0, g1, g2, g3, g4⟩ := fld_cells hfs hf
            have k0 := cell_on (HZ hbk) g0
            have l2 : ((k : Nat) : Int) < (x.fs.length : Int) := by omega
            have hkN : ((k : Nat) : Int).toNat = k := by omega
            have HKL : Hid (k + 1 ≤ x.fs.length) := hkl
            have HF : Hid (x.fs[k]? = some f) := hf
            have HNK : Hid (∀ (q : Nat) f, q < k → x.fs[q]? = some f → frfS f.n = true) := hnk
            have NM := fun W (_ : Below w0.heap.size w0 W) => iname_any f.n W (zname_any f.n W)
            clear hf hkl hnk
            have HFE : Hid (frfS f.n = (!(f.n == [105, 100] || f.n == [97, 110, 100] || f.n == [111, 114] || f.n == [110, 111, 116]) && shoS f.n)) := rfl
            generalize shoS f.n = kk at *
            cases kk with
            | false =>
              have HE : Hid (frfS f.n = false) := by show _ = _; rw [HFE.out]; simp
              have HP : Hid ((namS s && (sptS s).all (fun x => frfS x.f.n)) = false) := by
                show _ = _
                rw [← Bool.not_eq_true, nam_iff]
                intro hall
                have h9 := (hall.1 x (List.mem_of_getElem? HX.out)).2 f (List.mem_of_getElem? HF.out)
                rw [HE.out] at h9
                cases h9
              go_wp2_with (first
                | (go_at_call 70; (with_reducible refine (NM wr hbk).mono ?_); rintro e y2 ⟨rfl, c2⟩; have Y2 := hbk.trans (c2.mono hbk.size); clear c2)
                | fail)
              go_ret
              exact ⟨by rw [HP.out]; rfl, HZ Y2⟩
            | true =>
              cases c10 : (f.n == [105, 100]) with
              | true =>
                have HE : Hid (frfS f.n = false) := by show _ = _; rw [HFE.out]; simp [c10]
                have HP : Hid ((namS s && (sptS s).all (fun x => frfS x.f.n)) = false) := by
                  show _ = _
                  rw [← Bool.not_eq_true, nam_iff]
                  intro hall
                  have h9 := (hall.1 x (List.mem_of_getElem? HX.out)).2 f (List.mem_of_getElem? HF.out)
                  rw [HE.out] at h9
                  cases h9
                go_wp2_with (first
                  | (go_at_call 70; (with_reducible refine (NM wr hbk).mono ?_); rintro e y2 ⟨rfl, c2⟩; have Y2 := hbk.trans (c2.mono hbk.size); clear c2)
                  | fail)
                go_ret
                exact ⟨by rw [HP.out]; rfl, HZ Y2⟩
              | false =>
                cases c11 : (f.n == [97, 110, 100]) with
                | true =>
                  have HE : Hid (frfS f.n = false) := by show _ = _; rw [HFE.out]; simp [c11]
                  have HP : Hid ((namS s && (sptS s).all (fun x => frfS x.f.n)) = false) := by
                    show _ = _
                    rw [← Bool.not_eq_true, nam_iff]
                    intro hall
                    have h9 := (hall.1 x (List.mem_of_getElem? HX.out)).2 f (List.mem_of_getElem? HF.out)
                    rw [HE.out] at h9
                    cases h9
                  go_wp2_with (first
                    | (go_at_call 70; (with_reducible refine (NM wr hbk).mono ?_); rintro e y2 ⟨rfl, c2⟩; have Y2 := hbk.trans (c2.mono hbk.size); clear c2)
                    | fail)
                  go_ret
                  exact ⟨by rw [HP.out]; rfl, HZ Y2⟩
                | false =>
                  cases c12 : (f.n == [111, 114]) with
                  | true =>
                    have HE : Hid (frfS f.n = false) := by show _ = _; rw [HFE.out]; simp [c12]
                    have HP : Hid ((namS s && (sptS s).all (fun x => frfS x.f.n)) = false) := by
                      show _ = _
                      rw [← Bool.not_eq_true, nam_iff]
                      intro hall
                      have h9 := (hall.1 x (List.mem_of_getElem? HX.out)).2 f (List.mem_of_getElem? HF.out)
                      rw [HE.out] at h9
                      cases h9
                    go_wp2_with (first
                      | (go_at_call 70; (with_reducible refine (NM wr hbk).mono ?_); rintro e y2 ⟨rfl, c2⟩; have Y2 := hbk.trans (c2.mono hbk.size); clear c2)
                      | fail)
                    go_ret
                    exact ⟨by rw [HP.out]; rfl, HZ Y2⟩
                  | false =>
                    cases c13 : (f.n == [110, 111, 116]) with
                    | true =>
                      have HE : Hid (frfS f.n = false) := by show _ = _; rw [HFE.out]; simp [c13]
                      have HP : Hid ((namS s && (sptS s).all (fun x => frfS x.f.n)) = false) := by
                        show _ = _
                        rw [← Bool.not_eq_true, nam_iff]
                        intro hall
                        have h9 := (hall.1 x (List.mem_of_getElem? HX.out)).2 f (List.mem_of_getElem? HF.out)
                        rw [HE.out] at h9
                        cases h9
                      go_wp2_with (first
                        | (go_at_call 70; (with_reducible refine (NM wr hbk).mono ?_); rintro e y2 ⟨rfl, c2⟩; have Y2 := hbk.trans (c2.mono hbk.size); clear c2)
                        | fail)
                      go_ret
                      exact ⟨by rw [HP.out]; rfl, HZ Y2⟩
                    | false =>
                      have HE : Hid (frfS f.n = true) := by show _ = _; rw [HFE.out]; simp [c10, c11, c12, c13]
                      have HN2 : Hid (∀ (q : Nat) f, q < k + 1 → x.fs[q]? = some f → frfS f.n = true) := by
                        intro q g hq hg
                        by_cases e : q = k
                        · subst e
                          rw [HF.out] at hg
                          cases hg
                          exact HE.out
                        · exact HNK.out q g (by omega) hg
                      go_wp2_with (first
                        | (go_at_call 70; (with_reducible refine (NM wr hbk).mono ?_); rintro e y2 ⟨rfl, c2⟩; have Y2 := hbk.trans (c2.mono hbk.size); clear c2)
                        | fail)
                      refine ⟨⟨k + 1, by simp, HKL.out, HN2.out, Y2⟩, ?_⟩
                      have := HKL.out
                      simp [RowKit.intOf]
                      omega
          · have l2 : decide (((k : Nat) : Int) < (x.fs.length : Int)) = false := by simp; omega
            have l3 : decide (k < x.fs.length) = false := by simp; omega
            have HN2 : Hid (∀ (q : Nat) z, q < i + 1 → s.os[q]? = some z → frtS z.n = true ∧ ∀ f ∈ z.fs, frfS f.n = true) := by
              intro q z hq hz
              by_cases e : q = i
              · subst e
                rw [HX.out] at hz
                cases hz
                refine ⟨HK0.out, fun g hg => ?_⟩
                obtain ⟨m, hm⟩ := List.mem_iff_getElem?.1 hg
                exact hnk m g (by have := (List.getElem?_eq_some_iff.1 hm).1; omega) hm
              · exact HNO.out q z (by omega) hz
            clear hkl hnk
            go_wp2
            refine ⟨⟨i + 1, by simp, HI.out, HN2.out, hbk⟩, ?_⟩
            have := HI.out
            simp [RowKit.intOf]
            omega
    · have l2 : decide (((i : Nat) : Int) < (s.os.length : Int)) = false := by simp; omega
      have l3 : decide (i < s.os.length) = false := by simp; omega
      have HAO : Hid (∀ z ∈ s.os, frtS z.n = true ∧ ∀ f ∈ z.fs, frfS f.n = true) := by
        intro z hz
        obtain ⟨q, hq⟩ := List.mem_iff_getElem?.1 hz
        exact hno q z (by have := (List.getElem?_eq_some_iff.1 hq).1; omega) hq
      clear hlt hno hi
      generalize wr = wB at *
      go_wp2
      go_loopw [6] (fun iv wr => ∃ i : Nat, iv = .int .i64 (i : Int) ∧ i ≤ s.es.length ∧ (∀ (q : Nat) z, q < i → s.es[q]? = some z → frtS z.n = true ∧ ∀ f ∈ z.ws, frwS f = true) ∧ Below w0.heap.size w0 wr) (fun iv _ => s.es.length - (RowKit.intOf iv).toNat)
      case atStart => exact ⟨0, rfl, Nat.zero_le _, fun q z hq => absurd hq (Nat.not_lt_zero _), hbr⟩
      case round =>
        obtain ⟨i, rfl, hi, hno, hbr⟩ := hrel
        have z0 := cell_on hbr r0
        have z1 := cell_on hbr r1
        by_cases hlt : i < s.es.length
        · obtain ⟨x, hx⟩ : ∃ x, s.es[i]? = some x := ⟨_, List.getElem?_eq_getElem hlt⟩
          obtain ⟨b, o, c0, a1, c1, hv, hbl, _, e0, e1, hfs⟩ := en_cells2 hes hx
          cases hv
          have f0 := cell_on (HZ hbr) e0
          have l1 : ((i : Nat) : Int) < (s.es.length : Int) := by omega
          have hiN : ((i : Nat) : Int).toNat = i := by omega
          have HI : Hid (i + 1 ≤ s.es.length) := hlt
          have HX : Hid (s.es[i]? = some x) := hx
          have HNO : Hid (∀ (q : Nat) z, q < i → s.es[q]? = some z → frtS z.n = true ∧ ∀ f ∈ z.ws, frwS f = true) := hno
          have OWN := iown_any x.n wr (iname_any x.n wr (zname_any x.n wr))
          have hxl : x.ws.length ≤ 140737488355328 := by obtain ⟨_, _, _, _, q, _⟩ := hfs; exact q
          clear hx hlt hno
          cases hk0 : frtS x.n with
          | false =>
            rw [hk0] at OWN
            have HP : Hid ((namS s && (sptS s).all (fun x => frfS x.f.n)) = false) := by
              show _ = _
              rw [← Bool.not_eq_true, nam_iff]
              intro hall
              have h9 := (hall.2 x (List.mem_of_getElem? HX.out)).1
              rw [hk0] at h9
              cases h9
            clear hk0
            go_wp2_with (first
              | (go_at_call 69; (with_reducible refine OWN.mono ?_); rintro e y1 ⟨rfl, c1'⟩; have Y1 := hbr.trans (c1'.mono hbr.size); clear c1')
              | fail)
            go_ret
            exact ⟨by rw [HP.out]; rfl, HZ Y1⟩
          | true =>
            rw [hk0] at OWN
            have HK0 : Hid (frtS x.n = true) := hk0
            clear hk0
            generalize wr = wB at *
            go_wp2_with (first
              | (go_at_call 69; (with_reducible refine OWN.mono ?_); rintro e y1 ⟨rfl, c1'⟩; have Y1 := hbr.trans (c1'.mono hbr.size); clear c1')
              | fail)
            go_loopw [7] (fun kv wr => ∃ k : Nat, kv = .int .i64 (k : Int) ∧ k ≤ x.ws.length ∧ (∀ (q : Nat) f, q < k → x.ws[q]? = some f → frwS f = true) ∧ Below w0.heap.size w0 wr) (fun kv _ => x.ws.length - (RowKit.intOf kv).toNat)
            case atStart => exact ⟨0, rfl, Nat.zero_le _, fun q z hq => absurd hq (Nat.not_lt_zero _), Y1⟩
            case round =>
              obtain ⟨k, rfl, hk, hnk, hbk⟩ := hrel
              have y0 := cell_on hbk r0
              have y1' := cell_on hbk r1
              have y2' := cell_on (HZ hbk) e1
              by_cases hkl : k < x.ws.length
              · obtain ⟨f, hf⟩ : ∃ f, x.ws[k]? = some f := ⟨_, List.getElem?_eq_getElem hkl⟩
                obtain ⟨b1, o1, rfl, hbl1, g0⟩ := wrd_cells2 hfs hf
                have k0 := cell_on (HZ hbk) g0
                have l2 : ((k : Nat) : Int) < (x.ws.length : Int) := by omega
                have hkN : ((k : Nat) : Int).toNat = k := by omega
                have HKL : Hid (k + 1 ≤ x.ws.length) := hkl
                have HF : Hid (x.ws[k]? = some f) := hf
                have HNK : Hid (∀ (q : Nat) f, q < k → x.ws[q]? = some f → frwS f = true) := hnk
                have NM := fun W (_ : Below w0.heap.size w0 W) => iname_any f W (zname_any f W)
                clear hf hkl hnk
                have HFE : Hid (frwS f = (!(f == [116, 114, 117, 101] || f == [102, 97, 108, 115, 101] || f == [110, 117, 108, 108]) && shoS f)) := rfl
                generalize shoS f = kk at *
                cases kk with
                | false =>
                  have HE : Hid (frwS f = false) := by show _ = _; rw [HFE.out]; simp
                  have HP : Hid ((namS s && (sptS s).all (fun x => frfS x.f.n)) = false) := by
                    show _ = _
                    rw [← Bool.not_eq_true, nam_iff]
                    intro hall
                    have h9 := (hall.2 x (List.mem_of_getElem? HX.out)).2 f (List.mem_of_getElem? HF.out)
                    rw [HE.out] at h9
                    cases h9
                  go_wp2_with (first
                    | (go_at_call 70; (with_reducible refine (NM wr hbk).mono ?_); rintro e y2 ⟨rfl, c2⟩; have Y2 := hbk.trans (c2.mono hbk.size); clear c2)
                    | fail)
                  go_ret
                  exact ⟨by rw [HP.out]; rfl, HZ Y2⟩
                | true =>
                  cases c10 : (f == [116, 114, 117, 101]) with
                  | true =>
                    have HE : Hid (frwS f = false) := by show _ = _; rw [HFE.out]; simp [c10]
                    have HP : Hid ((namS s && (sptS s).all (fun x => frfS x.f.n)) = false) := by
                      show _ = _
                      rw [← Bool.not_eq_true, nam_iff]
                      intro hall
                      have h9 := (hall.2 x (List.mem_of_getElem? HX.out)).2 f (List.mem_of_getElem? HF.out)
                      rw [HE.out] at h9
                      cases h9
                    go_wp2_with (first
                      | (go_at_call 70; (with_reducible refine (NM wr hbk).mono ?_); rintro e y2 ⟨rfl, c2⟩; have Y2 := hbk.trans (c2.mono hbk.size); clear c2)
                      | fail)
                    go_ret
                    exact ⟨by rw [HP.out]; rfl, HZ Y2⟩
                  | false =>
                    cases c11 : (f == [102, 97, 108, 115, 101]) with
                    | true =>
                      have HE : Hid (frwS f = false) := by show _ = _; rw [HFE.out]; simp [c11]
                      have HP : Hid ((namS s && (sptS s).all (fun x => frfS x.f.n)) = false) := by
                        show _ = _
                        rw [← Bool.not_eq_true, nam_iff]
                        intro hall
                        have h9 := (hall.2 x (List.mem_of_getElem? HX.out)).2 f (List.mem_of_getElem? HF.out)
                        rw [HE.out] at h9
                        cases h9
                      go_wp2_with (first
                        | (go_at_call 70; (with_reducible refine (NM wr hbk).mono ?_); rintro e y2 ⟨rfl, c2⟩; have Y2 := hbk.trans (c2.mono hbk.size); clear c2)
                        | fail)
                      go_ret
                      exact ⟨by rw [HP.out]; rfl, HZ Y2⟩
                    | false =>
                      cases c12 : (f == [110, 117, 108, 108]) with
                      | true =>
                        have HE : Hid (frwS f = false) := by show _ = _; rw [HFE.out]; simp [c12]
                        have HP : Hid ((namS s && (sptS s).all (fun x => frfS x.f.n)) = false) := by
                          show _ = _
                          rw [← Bool.not_eq_true, nam_iff]
                          intro hall
                          have h9 := (hall.2 x (List.mem_of_getElem? HX.out)).2 f (List.mem_of_getElem? HF.out)
                          rw [HE.out] at h9
                          cases h9
                        go_wp2_with (first
                          | (go_at_call 70; (with_reducible refine (NM wr hbk).mono ?_); rintro e y2 ⟨rfl, c2⟩; have Y2 := hbk.trans (c2.mono hbk.size); clear c2)
                          | fail)
                        go_ret
                        exact ⟨by rw [HP.out]; rfl, HZ Y2⟩
                      | false =>
                        have HE : Hid (frwS f = true) := by show _ = _; rw [HFE.out]; simp [c10, c11, c12]
                        have HN2 : Hid (∀ (q : Nat) f, q < k + 1 → x.ws[q]? = some f → frwS f = true) := by
                          intro q g hq hg
                          by_cases e : q = k
                          · subst e
                            rw [HF.out] at hg
                            cases hg
                            exact HE.out
                          · exact HNK.out q g (by omega) hg
                        go_wp2_with (first
                          | (go_at_call 70; (with_reducible refine (NM wr hbk).mono ?_); rintro e y2 ⟨rfl, c2⟩; have Y2 := hbk.trans (c2.mono hbk.size); clear c2)
                          | fail)
                        refine ⟨⟨k + 1, by simp, HKL.out, HN2.out, Y2⟩, ?_⟩
                        have := HKL.out
                        simp [RowKit.intOf]
                        omega
              · have l2 : decide (((k : Nat) : Int) < (x.ws.length : Int)) = false := by simp; omega
                have l3 : decide (k < x.ws.length) = false := by simp; omega
                have HN2 : Hid (∀ (q : Nat) z, q < i + 1 → s.es[q]? = some z → frtS z.n = true ∧ ∀ f ∈ z.ws, frwS f = true) := by
                  intro q z hq hz
                  by_cases e : q = i
                  · subst e
                    rw [HX.out] at hz
                    cases hz
                    refine ⟨HK0.out, fun g hg => ?_⟩
                    obtain ⟨m, hm⟩ := List.mem_iff_getElem?.1 hg
                    exact hnk m g (by have := (List.getElem?_eq_some_iff.1 hm).1; omega) hm
                  · exact HNO.out q z (by omega) hz
                clear hkl hnk
                go_wp2
                refine ⟨⟨i + 1, by simp, HI.out, HN2.out, hbk⟩, ?_⟩
                have := HI.out
                simp [RowKit.intOf]
                omega
        · have l2 : decide (((i : Nat) : Int) < (s.es.length : Int)) = false := by simp; omega
          have l3 : decide (i < s.es.length) = false := by simp; omega
          have HAE : Hid (∀ z ∈ s.es, frtS z.n = true ∧ ∀ f ∈ z.ws, frwS f = true) := by
            intro z hz
            obtain ⟨q, hq⟩ := List.mem_iff_getElem?.1 hz
            exact hno q z (by have := (List.getElem?_eq_some_iff.1 hq).1; omega) hq
          clear hlt hno hi
          have HP : Hid ((namS s && (sptS s).all (fun x => frfS x.f.n)) = true) := nam_iff.2 ⟨HAO.out, HAE.out⟩
          go_wp2
          go_ret
          exact ⟨by rw [HP.out]; rfl, HZ hbr⟩
end
end Go.Proofs.YtfkgmgnoijokdaaGreatDoor
namespace Go.Proofs.YtfkgmgnoijokdaaGreatDoor
open Go Go.RowKit Go.Shelf
theorem own_nil {W : World} {q B : Nat} (hB : B ≤ q) (h : W.heap[q]? = some (.cells #[] 9)) : RowO W B 9 1 wrdC (.slice (some ⟨q, 0, none⟩) 0 0) [] := ⟨rfl, Or.inr ⟨q, 0, #[], rfl, hB, h, Nat.le_refl _, Nat.zero_le _, rfl, rfl⟩⟩
theorem take_one {α β : Type} (g : α → β) {l : List α} {i : Nat} {x : α} (h : l[i]? = some x) : (l.take (i + 1)).map g = (l.take i).map g ++ [g x] := by
  rw [List.take_add_one, h, List.map_append]
  rfl
theorem onc_false1 {s : Sch} {x : Ob} (hx : x ∈ s.os) (h : uniB (x.fs.map (·.n)) = false) : oncS s = false := by
  rw [← Bool.not_eq_true, once_iff]
  rintro ⟨_, _, _, _, q⟩
  have := uni_iff.2 (q x hx)
  rw [h] at this
  cases this
theorem onc_false2 {s : Sch} {x : En} (hx : x ∈ s.es) (h : uniB x.ws = false) : oncS s = false := by
  rw [← Bool.not_eq_true, once_iff]
  rintro ⟨_, _, _, q, _⟩
  have := uni_iff.2 (q x hx)
  rw [h] at this
  cases this
theorem onc_all {s : Sch} (h1 : ∀ z ∈ s.os, uniB (z.fs.map (·.n)) = true) (h2 : ∀ z ∈ s.es, uniB z.ws = true) : oncS s = uniB (s.os.map (·.n) ++ s.es.map (·.n)) := by
  rw [Bool.eq_iff_iff, once_iff, uni_iff, List.nodup_append]
  constructor
  · rintro ⟨a1, a2, a3, _, _⟩
    refine ⟨a1, a2, fun a ha b hb e => ?_⟩
    subst e
    obtain ⟨z, hz, ez⟩ := List.mem_map.1 hb
    exact a3 z hz (by rw [ez]; exact ha)
  · rintro ⟨a1, a2, a3⟩
    exact ⟨a1, a2, fun z hz hm => a3 _ hm _ (List.mem_map.2 ⟨z, hz, rfl⟩) rfl, fun z hz => uni_iff.1 (h2 z hz), fun z hz => uni_iff.1 (h1 z hz)⟩
section
variable {w : World} {ov ev : Value} {s : Sch}
set_option maxRecDepth 100000 in
set_option maxHeartbeats 8000000 in
theorem ionce_any (h : SchAt w ov ev s) (hm : manS s = true) : Calls Tryz.prog 37 #[.agg #[ov, ev]] w fun e w' => e = .returned (.bool (oncS s)) ∧ Below w.heap.size w w' := by
  have hos := h.os
  have hes := h.es
  obtain ⟨⟨mm1, mm2⟩, mm3, mm4, mm5⟩ := man_iff.1 hm
  have HM4 : Hid (∀ o ∈ s.os, 1 ≤ o.fs.length ∧ o.fs.length ≤ 12) := mm4
  have HM5 : Hid (∀ e ∈ s.es, 1 ≤ e.ws.length ∧ e.ws.length ≤ 16) := mm5
  clear hm mm4 mm5
  obtain ⟨a, c, rfl, _, _⟩ := h.os.slice
  obtain ⟨a', c', rfl, _, _⟩ := h.es.slice
  obtain ⟨w0, hw0⟩ : ∃ w0, w0 = w.alloc (.cells #[.slice a s.os.length c, .slice a' s.es.length c'] 25) := ⟨_, rfl⟩
  have A0 : Below w.heap.size w w0 := by rw [hw0]; exact al1 w _
  have HZ : ∀ {W : World}, Below w0.heap.size w0 W → Below w.heap.size w W := fun b => A0.trans (b.mono A0.size)
  obtain ⟨r0, r1, _⟩ := row2 (show w0.heap[w.heap.size]? = some (.cells #[.slice a s.os.length c, .slice a' s.es.length c'] 25) by rw [hw0]; exact heap_alloc_new w _)
  obtain ⟨ti, hti, hy0, hy1, hy2⟩ := info_parts Tryz.infoStr
  have Z0 : w0.heap.size = w.heap.size + 1 := by rw [hw0, World.size_alloc]
  have HZ0 : Hid (w0.heap.size = w.heap.size + 1) := Z0
  clear Z0
  go_enter Tryz.func37, Tryz.ntmps37
  go_wp2
  rw [← hw0]
  clear hw0
  go_loopw [3, 4] (fun av iv wr => ∃ (v : Value) (i : Nat), v = av ∧ iv = .int .i64 (i : Int) ∧ i ≤ s.os.length ∧ RowO wr w0.heap.size 9 1 wrdC v ((s.os.take i).map (·.n)) ∧ (∀ (q : Nat) z, q < i → s.os[q]? = some z → uniB (z.fs.map (·.n)) = true) ∧ Below w0.heap.size w0 wr) (fun _ iv _ => s.os.length - (RowKit.intOf iv).toNat)
  case atStart => exact ⟨_, 0, rfl, rfl, Nat.zero_le _, own_nil (by have := HZ0.out; omega) (by rw [← HZ0.out]; exact heap_alloc_new w0 _), fun q z hq => absurd hq (Nat.not_lt_zero _), al1 w0 _⟩
  case round =>
    obtain ⟨v, i, rfl, rfl, hi, hR, hno, hbr⟩ := hrel
    have z0 := cell_on hbr r0
    have z1 := cell_on hbr r1
    obtain ⟨la, lc, rfl⟩ := RowO.slice hR
    have hzr := hbr.size
    by_cases hlt : i < s.os.length
    · obtain ⟨x, hx⟩ : ∃ x, s.os[i]? = some x := ⟨_, List.getElem?_eq_getElem hlt⟩
      obtain ⟨b, o, c0, a1, c1, hv, hbl, _, e0, e1, hfs⟩ := ob_cells hos hx
      cases hv
      have f0 := cell_on (HZ hbr) e0
      have l1 : ((i : Nat) : Int) < (s.os.length : Int) := by omega
      have hiN : ((i : Nat) : Int).toNat = i := by omega
      have HI : Hid (i + 1 ≤ s.os.length) := hlt
      have HX : Hid (s.os[i]? = some x) := hx
      have h12 : x.fs.length ≤ 12 := (HM4.out x (List.mem_of_getElem? hx)).2
      have HNO : Hid (∀ (q : Nat) z, q < i → s.os[q]? = some z → uniB (z.fs.map (·.n)) = true) := hno
      have HTK : Hid ((s.os.take (i + 1)).map (·.n) = (s.os.take i).map (·.n) ++ [x.n]) := take_one (fun z : Ob => z.n) hx
      have hAl : ((s.os.take i).map (·.n)).length ≤ 8 := by rw [List.length_map, List.length_take]; omega
      have HR : Hid (wr.ownsRow w0.heap.size 9 1 (.slice la ((s.os.take i).map (·.n)).length lc) ((s.os.take i).map (·.n)).length (((s.os.take i).map (·.n)).flatMap wrdC)) := hR
      clear hx hlt hno hR
      generalize hA : (s.os.take i).map (·.n) = A at *
      clear hA
      go_wp2_with (first
        | (at_builtin; refine wpList_append_lies _ rfl (.tmp 16) (.tmp 23) 43 rfl w0.heap.size 9 ti _ 1 16 Tryz.underlying43 hti hy0 hy1 hy2 rfl (by decide) (.slice la A.length lc) A.length (A.flatMap wrdC) rfl (HR.out.alloc _) ⟨wr.heap.size, 0, none⟩ 1 1 [.string ⟨x.n.toArray⟩] rfl rfl (World.news_of_block (heap_alloc_new wr _)) (by intro u hu; simp at hu; subst hu; rfl) (by decide) (by unfold maxLen; omega) (by omega) (by rw [World.size_alloc]; omega) _ rfl ?_; intro g8 cpg8 w8 own8 gr8 hor8 hlt8; have R8 : Hid (RowO w8 w0.heap.size 9 1 wrdC (.slice (some ⟨g8, 0, none⟩) (A.length + 1) cpg8) (A ++ [x.n])) := (by show RowO _ _ _ _ _ _ _; unfold RowO; rw [List.length_append, List.flatMap_append, List.flatMap_singleton]; exact own8); have G8 := gr8; clear own8 hor8 hlt8)
        | fail)
      have B8 : Below w0.heap.size w0 w8 := below_grew ((hbr.alloc hzr _)) G8 (by rw [World.size_alloc]; omega) (fun q e => (own_blk HR.out e).1)
      clear G8 f0 z0 z1
      have L0 : RowO (w8.alloc (.cells #[] 9)) w8.heap.size 9 1 wrdC (.slice (some ⟨w8.heap.size, 0, none⟩) 0 0) [] := own_nil (Nat.le_refl _) (heap_alloc_new w8 _)
      have LB := al1 w8 (.cells #[] 9)
      go_loopw [5, 6] (fun lz kv wr => ∃ (u : Value) (k : Nat), u = lz ∧ kv = .int .i64 (k : Int) ∧ k ≤ x.fs.length ∧ RowO wr w8.heap.size 9 1 wrdC u ((x.fs.take k).map (·.n)) ∧ Below w8.heap.size w8 wr) (fun _ kv _ => x.fs.length - (RowKit.intOf kv).toNat)
      case atStart => exact ⟨_, 0, rfl, rfl, Nat.zero_le _, L0, LB⟩
      case round =>
        obtain ⟨u, k, rfl, rfl, hk, hU, hbu⟩ := hrel
        have hbk : Below w0.heap.size w0 wr := B8.trans (hbu.mono B8.size)
        have y0 := cell_on hbk r0
        have y1 := cell_on hbk r1
        have y2 := cell_on (HZ hbk) e1
        have hzu := hbu.size
        obtain ⟨ua, uc, rfl⟩ := RowO.slice hU
        by_cases hkl : k < x.fs.length
        · obtain ⟨f, hf⟩ : ∃ f, x.fs[k]? = some f := ⟨_, List.getElem?_eq_getElem hkl⟩
          obtain ⟨b1, o1, rfl, hbl1, _, g0, g1, g2, g3, g4⟩ := fld_cells hfs hf
          have k0 := cell_on (HZ hbk) g0
          have l2 : ((k : Nat) : Int) < (x.fs.length : Int) := by omega
          have hkN : ((k : Nat) : Int).toNat = k := by omega
          have HKL : Hid (k + 1 ≤ x.fs.length) := hkl
          have HTU : Hid ((x.fs.take (k + 1)).map (·.n) = (x.fs.take k).map (·.n) ++ [f.n]) := take_one (fun z : Fld => z.n) hf
          have hUl : ((x.fs.take k).map (·.n)).length ≤ 12 := by rw [List.length_map, List.length_take]; omega
          have HU : Hid (wr.ownsRow w8.heap.size 9 1 (.slice ua ((x.fs.take k).map (·.n)).length uc) ((x.fs.take k).map (·.n)).length (((x.fs.take k).map (·.n)).flatMap wrdC)) := hU
          have HR8 : Hid (RowO w8 w0.heap.size 9 1 wrdC (.slice (some ⟨g8, 0, none⟩) (A.length + 1) cpg8) (A ++ [x.n])) := R8.out
          clear hf hkl hU R8
          generalize hA2 : (x.fs.take k).map (·.n) = U at *
          clear hA2
          generalize w8 = wU at *
          go_wp2_with (first
            | (at_builtin; refine wpList_append_lies _ rfl (.tmp 37) (.tmp 48) 43 rfl wU.heap.size 9 ti _ 1 16 Tryz.underlying43 hti hy0 hy1 hy2 rfl (by decide) (.slice ua U.length uc) U.length (U.flatMap wrdC) rfl (HU.out.alloc _) ⟨wr.heap.size, 0, none⟩ 1 1 [.string ⟨f.n.toArray⟩] rfl rfl (World.news_of_block (heap_alloc_new wr _)) (by intro u hu; simp at hu; subst hu; rfl) (by decide) (by unfold maxLen; omega) (by omega) (by rw [World.size_alloc]; omega) _ rfl ?_; intro g9 cpg9 w8 own8 gr8 hor8 hlt8; have R8 : Hid (RowO w8 wU.heap.size 9 1 wrdC (.slice (some ⟨g9, 0, none⟩) (U.length + 1) cpg9) (U ++ [f.n])) := (by show RowO _ _ _ _ _ _ _; unfold RowO; rw [List.length_append, List.flatMap_append, List.flatMap_singleton]; exact own8); have G8 := gr8; clear own8 hor8 hlt8)
            | fail)
          refine ⟨⟨_, k + 1, rfl, by simp, HKL.out, ?_, ?_⟩, ?_⟩
          · rw [HTU.out]
            exact R8.out
          · exact below_grew (hbu.alloc hzu _) G8 (by rw [World.size_alloc]; omega) (fun q e => (own_blk HU.out e).1)
          · have := HKL.out
            simp [RowKit.intOf]
            omega
        · have l2 : decide (((k : Nat) : Int) < (x.fs.length : Int)) = false := by simp; omega
          have l3 : decide (k < x.fs.length) = false := by simp; omega
          have ek : (x.fs.take k).map (·.n) = x.fs.map (·.n) := by rw [List.take_of_length_le (by omega)]
          have UL := iunlike_any wr (wds_row hU (by rw [List.length_map, List.length_take]; omega))
          rw [ek] at UL
          have HRw : Hid (RowO wr w0.heap.size 9 1 wrdC (.slice (some ⟨g8, 0, none⟩) (A.length + 1) cpg8) (A ++ [x.n])) := R8.out.on hbu
          have hel : ((x.fs.take k).map (·.n)).length = (x.fs.map (·.n)).length := by rw [ek]
          rw [hel]
          clear hkl hk hU ek hel
          generalize (x.fs.map (·.n)).length = n9 at UL ⊢
          cases hq : uniB (x.fs.map (·.n)) with
          | false =>
            rw [hq] at UL
            have HP : Hid (oncS s = false) := onc_false1 (List.mem_of_getElem? HX.out) hq
            clear hq
            go_wp2_with (first
              | (go_at_call 71; (with_reducible refine UL.mono ?_); rintro e y1 ⟨rfl, d1⟩)
              | fail)
            go_ret
            exact ⟨by rw [HP.out]; rfl, HZ (hbk.trans (d1.mono hbk.size))⟩
          | true =>
            rw [hq] at UL
            have HN2 : Hid (∀ (q : Nat) z, q < i + 1 → s.os[q]? = some z → uniB (z.fs.map (·.n)) = true) := by
              intro q z hq1 hz
              by_cases e : q = i
              · subst e
                rw [HX.out] at hz
                cases hz
                exact hq
              · exact HNO.out q z (by omega) hz
            clear hq
            go_wp2_with (first
              | (go_at_call 71; (with_reducible refine UL.mono ?_); rintro e y1 ⟨rfl, d1⟩)
              | fail)
            refine ⟨⟨_, i + 1, rfl, by simp, HI.out, ?_, HN2.out, hbk.trans (d1.mono hbk.size)⟩, ?_⟩
            · rw [HTK.out]
              exact HRw.out.on d1
            · have := HI.out
              simp [RowKit.intOf]
              omega
    · have l2 : decide (((i : Nat) : Int) < (s.os.length : Int)) = false := by simp; omega
      have l3 : decide (i < s.os.length) = false := by simp; omega
      have HAO : Hid (∀ z ∈ s.os, uniB (z.fs.map (·.n)) = true) := by
        intro z hz
        obtain ⟨q, hq⟩ := List.mem_iff_getElem?.1 hz
        exact hno q z (by have := (List.getElem?_eq_some_iff.1 hq).1; omega) hq
      have ei : (s.os.take i).map (·.n) = s.os.map (·.n) := by rw [List.take_of_length_le (by omega)]
      rw [ei] at hR ⊢
      have hR0 : RowO wr w0.heap.size 9 1 wrdC (.slice la (s.os.map (·.n)).length lc) (s.os.map (·.n) ++ (s.es.take 0).map (·.n)) := by
        rw [List.take_zero, List.map_nil, List.append_nil]
        exact hR
      have hOl : (s.os.map (·.n)).length ≤ 8 := by rw [List.length_map]; omega
      clear hlt hno hi ei hR
      generalize hA : s.os.map (·.n) = A at *
      generalize wr = wB at *
      go_wp2
      go_loopw [3, 7] (fun av iv wr => ∃ (v : Value) (i : Nat), v = av ∧ iv = .int .i64 (i : Int) ∧ i ≤ s.es.length ∧ RowO wr w0.heap.size 9 1 wrdC v (A ++ (s.es.take i).map (·.n)) ∧ (∀ (q : Nat) z, q < i → s.es[q]? = some z → uniB z.ws = true) ∧ Below w0.heap.size w0 wr) (fun _ iv _ => s.es.length - (RowKit.intOf iv).toNat)
      case atStart => exact ⟨_, 0, rfl, rfl, Nat.zero_le _, hR0, fun q z hq => absurd hq (Nat.not_lt_zero _), hbr⟩
      case round =>
        obtain ⟨v, i, rfl, rfl, hi, hR, hno, hbr⟩ := hrel
        have z0 := cell_on hbr r0
        have z1 := cell_on hbr r1
        obtain ⟨la, lc, rfl⟩ := RowO.slice hR
        have hzr := hbr.size
        by_cases hlt : i < s.es.length
        · obtain ⟨x, hx⟩ : ∃ x, s.es[i]? = some x := ⟨_, List.getElem?_eq_getElem hlt⟩
          obtain ⟨b, o, c0, a1, c1, hv, hbl, _, e0, e1, hfs⟩ := en_cells2 hes hx
          cases hv
          have f0 := cell_on (HZ hbr) e0
          have l1 : ((i : Nat) : Int) < (s.es.length : Int) := by omega
          have hiN : ((i : Nat) : Int).toNat = i := by omega
          have HI : Hid (i + 1 ≤ s.es.length) := hlt
          have HX : Hid (s.es[i]? = some x) := hx
          have HNO : Hid (∀ (q : Nat) z, q < i → s.es[q]? = some z → uniB z.ws = true) := hno
          have HTK : Hid (A ++ (s.es.take (i + 1)).map (·.n) = (A ++ (s.es.take i).map (·.n)) ++ [x.n]) := by show _ = _; rw [take_one (fun z : En => z.n) hx, List.append_assoc]
          have hAl : (A ++ (s.es.take i).map (·.n)).length ≤ 16 := by rw [List.length_append, List.length_map, List.length_take]; omega
          have HR : Hid (wr.ownsRow w0.heap.size 9 1 (.slice la (A ++ (s.es.take i).map (·.n)).length lc) (A ++ (s.es.take i).map (·.n)).length ((A ++ (s.es.take i).map (·.n)).flatMap wrdC)) := hR
          have UL := fun {W : World} (bb : Below w0.heap.size w0 W) => iunlike_any W (hfs.on (HZ bb))
          clear hx hlt hno hR
          generalize hA3 : A ++ (s.es.take i).map (·.n) = C at *
          clear hA3
          cases hq : uniB x.ws with
          | false =>
            rw [hq] at UL
            have HP : Hid (oncS s = false) := onc_false2 (List.mem_of_getElem? HX.out) hq
            clear hq
            go_wp2_with (first
              | (go_at_call 71; (with_reducible refine (UL B8).mono ?_); rintro e y1 ⟨rfl, d1⟩)
              | (at_builtin; refine wpList_append_lies _ rfl (.tmp 60) (.tmp 67) 43 rfl w0.heap.size 9 ti _ 1 16 Tryz.underlying43 hti hy0 hy1 hy2 rfl (by decide) (.slice la C.length lc) C.length (C.flatMap wrdC) rfl (HR.out.alloc _) ⟨wr.heap.size, 0, none⟩ 1 1 [.string ⟨x.n.toArray⟩] rfl rfl (World.news_of_block (heap_alloc_new wr _)) (by intro u hu; simp at hu; subst hu; rfl) (by decide) (by unfold maxLen; omega) (by omega) (by rw [World.size_alloc]; omega) _ rfl ?_; intro g8 cpg8 w8 own8 gr8 hor8 hlt8; have R8 : Hid (RowO w8 w0.heap.size 9 1 wrdC (.slice (some ⟨g8, 0, none⟩) (C.length + 1) cpg8) (C ++ [x.n])) := (by show RowO _ _ _ _ _ _ _; unfold RowO; rw [List.length_append, List.flatMap_append, List.flatMap_singleton]; exact own8); have G8 := gr8; clear own8 hor8 hlt8; have B8 : Below w0.heap.size w0 w8 := below_grew ((hbr.alloc hzr _)) G8 (by rw [World.size_alloc]; omega) (fun q e => (own_blk HR.out e).1); have v0 := cell_on B8 r0; have v1 := cell_on B8 r1; have v2 := cell_on (HZ B8) e1; clear G8)
              | fail)
            go_ret
            exact ⟨by rw [HP.out]; rfl, HZ (B8.trans (d1.mono B8.size))⟩
          | true =>
            rw [hq] at UL
            have HN2 : Hid (∀ (q : Nat) z, q < i + 1 → s.es[q]? = some z → uniB z.ws = true) := by
              intro q z hq1 hz
              by_cases e : q = i
              · subst e
                rw [HX.out] at hz
                cases hz
                exact hq
              · exact HNO.out q z (by omega) hz
            clear hq
            go_wp2_with (first
              | (go_at_call 71; (with_reducible refine (UL B8).mono ?_); rintro e y1 ⟨rfl, d1⟩)
              | (at_builtin; refine wpList_append_lies _ rfl (.tmp 60) (.tmp 67) 43 rfl w0.heap.size 9 ti _ 1 16 Tryz.underlying43 hti hy0 hy1 hy2 rfl (by decide) (.slice la C.length lc) C.length (C.flatMap wrdC) rfl (HR.out.alloc _) ⟨wr.heap.size, 0, none⟩ 1 1 [.string ⟨x.n.toArray⟩] rfl rfl (World.news_of_block (heap_alloc_new wr _)) (by intro u hu; simp at hu; subst hu; rfl) (by decide) (by unfold maxLen; omega) (by omega) (by rw [World.size_alloc]; omega) _ rfl ?_; intro g8 cpg8 w8 own8 gr8 hor8 hlt8; have R8 : Hid (RowO w8 w0.heap.size 9 1 wrdC (.slice (some ⟨g8, 0, none⟩) (C.length + 1) cpg8) (C ++ [x.n])) := (by show RowO _ _ _ _ _ _ _; unfold RowO; rw [List.length_append, List.flatMap_append, List.flatMap_singleton]; exact own8); have G8 := gr8; clear own8 hor8 hlt8; have B8 : Below w0.heap.size w0 w8 := below_grew ((hbr.alloc hzr _)) G8 (by rw [World.size_alloc]; omega) (fun q e => (own_blk HR.out e).1); have v0 := cell_on B8 r0; have v1 := cell_on B8 r1; have v2 := cell_on (HZ B8) e1; clear G8)
              | fail)
            refine ⟨⟨_, i + 1, rfl, by simp, HI.out, ?_, HN2.out, B8.trans (d1.mono B8.size)⟩, ?_⟩
            · rw [HTK.out]
              exact R8.out.on d1
            · have := HI.out
              simp [RowKit.intOf]
              omega
        · have l2 : decide (((i : Nat) : Int) < (s.es.length : Int)) = false := by simp; omega
          have l3 : decide (i < s.es.length) = false := by simp; omega
          have HAE : ∀ z ∈ s.es, uniB z.ws = true := by
            intro z hz
            obtain ⟨q, hq⟩ := List.mem_iff_getElem?.1 hz
            exact hno q z (by have := (List.getElem?_eq_some_iff.1 hq).1; omega) hq
          have ei : A ++ (s.es.take i).map (·.n) = A ++ s.es.map (·.n) := by rw [List.take_of_length_le (by omega)]
          have HP : Hid (oncS s = uniB (A ++ s.es.map (·.n))) := by show _ = _; rw [← hA]; exact onc_all HAO.out HAE
          rw [ei] at hR ⊢
          have UL := iunlike_any wr (wds_row hR (by rw [List.length_append, List.length_map]; omega))
          clear hlt hno hi ei hR HAE
          generalize (A ++ s.es.map (·.n)).length = n9 at UL ⊢
          generalize uniB (A ++ s.es.map (·.n)) = ku at *
          go_wp2_with (first
            | (go_at_call 71; (with_reducible refine UL.mono ?_); rintro e y1 ⟨rfl, d1⟩)
            | fail)
          go_ret
          exact ⟨by rw [HP.out]; rfl, HZ (hbr.trans (d1.mono hbr.size))⟩
end
end Go.Proofs.YtfkgmgnoijokdaaGreatDoor
namespace Go.Proofs.YtfkgmgnoijokdaaGreatDoor
open Go Go.RowKit Go.Shelf
def docB (s : Sch) (q : Ob) (f : Fld) : Bool := if f.i == [] then true else if edgS s f < 0 then false else match atI s.os (edgS s f) with
  | none => false
  | some p => if plB f.i (p.fs.map (·.n)) < 0 then false else match atI p.fs (plB f.i (p.fs.map (·.n))) with
    | none => false
    | some g => decide (0 ≤ edgS s g) && (g.t == q.n) && (g.i == f.n)
theorem docB_eq {s : Sch} {i k : Nat} {q : Ob} {f : Fld} (h : oncS s = true) (hq : s.os[i]? = some q) (hf : q.fs[k]? = some f) : docB s q f = ((f.i == []) || ledS s ⟨i, k, f⟩) := by
  obtain ⟨u1, u2, u3, u4, u5⟩ := once_iff.1 h
  cases hi : (f.i == []) with
  | true =>
    unfold docB
    rw [if_pos hi]
    rfl
  | false =>
    have hi2 : f.i ≠ [] := by simpa using hi
    rw [Bool.false_or, Bool.eq_iff_iff, led_iff h hq hf hi2]
    unfold docB
    rw [if_neg (by rw [hi]; simp)]
    constructor
    · intro hd
      split at hd
      · cases hd
      · rename_i hT
        have ed : edP s f.t := edg_iff.1 (by omega)
        refine ⟨ed, ?_⟩
        obtain ⟨T, hT2⟩ : ∃ T : Nat, edgS s f = (T : Int) := ⟨(edgS s f).toNat, by omega⟩
        have hr := edg_range s f
        obtain ⟨p, hp⟩ : ∃ p, s.os[T]? = some p := ⟨_, List.getElem?_eq_getElem (by omega)⟩
        rw [hT2, atI_some hp] at hd
        simp only at hd
        split at hd
        · cases hd
        · rename_i hA
          obtain ⟨A, hA2⟩ : ∃ A : Nat, plB f.i (p.fs.map (·.n)) = (A : Int) := ⟨(plB f.i (p.fs.map (·.n))).toNat, by omega⟩
          have hr2 := plB_range f.i (p.fs.map (·.n))
          rw [hA2] at hr2
          rw [List.length_map] at hr2
          obtain ⟨g, hg⟩ : ∃ g, p.fs[A]? = some g := ⟨_, List.getElem?_eq_getElem (by omega)⟩
          rw [hA2, atI_some hg] at hd
          simp only [Bool.and_eq_true, decide_eq_true_eq, beq_iff_eq] at hd
          refine ⟨p, List.mem_of_getElem? hp, ?_, g, List.mem_of_getElem? hg, ?_, edg_iff.1 hd.1.1, hd.1.2, hd.2⟩
          · have h1 := edg_at ed
            rw [hT2] at h1
            have h2 := plB_range f.t (s.os.map (·.n))
            have h3 : plB f.t (s.os.map (·.n)) = (T : Int) := h1.symm
            rw [h3] at h2
            have h4 := h2.2.2 (by omega)
            rw [Int.toNat_natCast, List.getElem?_map, hp] at h4
            simpa using h4
          · have h4 := hr2.2.2 (by omega)
            rw [Int.toNat_natCast, List.getElem?_map, hg] at h4
            simpa using h4
    · rintro ⟨ed, p, hp, hpn, g, hg, hgn, eg, hgo, hgi⟩
      obtain ⟨T, hT⟩ := List.mem_iff_getElem?.1 hp
      obtain ⟨A, hA⟩ := List.mem_iff_getElem?.1 hg
      have h1 : edgS s f = (T : Int) := by rw [edg_at ed, ← hpn]; exact obj_of u1 hT
      have h2 : plB f.i (p.fs.map (·.n)) = (A : Int) := by
        rw [← hgn]
        exact plB_at (u5 p hp) (by rw [List.getElem?_map, hA]; rfl)
      have h3 : 0 ≤ edgS s g := edg_iff.2 eg
      rw [if_neg (by omega), h1, atI_some hT]
      simp only
      rw [h2, if_neg (by omega), atI_some hA]
      simp [h3, hgo, hgi]
section
variable {w : World} {ov ev : Value} {s : Sch}
set_option maxRecDepth 100000 in
set_option maxHeartbeats 8000000 in
theorem iback6_any (h : SchAt w ov ev s) (q : Ob) (a1 : Option Addr) (n1 c1 : Nat) (f : Fld) : Calls Tryz.prog 39 #[.agg #[ov, ev], .agg #[.string ⟨q.n.toArray⟩, .slice a1 n1 c1], fldV f] w fun e w' => e = .returned (.bool (docB s q f)) ∧ Below w.heap.size w w' := by
  have hh := h
  have hos := h.os
  obtain ⟨a, c, rfl, _, _⟩ := h.os.slice
  obtain ⟨a', c', rfl, _, _⟩ := h.es.slice
  have hrg := edg_range s f
  have ED := fun {W : World} (b : Below w.heap.size w W) => iedge_any (hh.on b) f
  have HD : Hid (docB s q f = if f.i == [] then true else if edgS s f < 0 then false else match atI s.os (edgS s f) with
    | none => false
    | some p => if plB f.i (p.fs.map (·.n)) < 0 then false else match atI p.fs (plB f.i (p.fs.map (·.n))) with
      | none => false
      | some g => decide (0 ≤ edgS s g) && (g.t == q.n) && (g.i == f.n)) := rfl
  generalize docB s q f = DB at *
  generalize edgS s f = kt at *
  obtain ⟨fn, ft, fw, fs, fi⟩ := f
  simp only at HD ED
  cases hi : (fi == []) with
  | true =>
    have e0 : fi = [] := by simpa using hi
    subst e0
    have HP : Hid (DB = true) := by show _ = _; rw [HD.out]; rfl
    clear HD hi
    go_enter Tryz.func39, Tryz.ntmps39
    go_wp2
    go_ret
    exact ⟨by rw [HP.out]; rfl, al3 w _ _ _⟩
  | false =>
    by_cases ht : kt < 0
    · have HP : Hid (DB = false) := by show _ = _; rw [HD.out, if_neg (by rw [hi]; simp), if_pos ht]
      clear HD
      go_enter Tryz.func39, Tryz.ntmps39
      go_wp2_with (first
        | (go_at_call 19; (with_reducible refine (ED (al3 w _ _ _)).mono ?_); rintro e x1 ⟨rfl, b1⟩; have D1 := (al3 w _ _ _).trans (b1.mono (al3 w _ _ _).size))
        | fail)
      go_ret
      exact ⟨by rw [HP.out]; rfl, D1⟩
    · obtain ⟨T, rfl⟩ : ∃ T : Nat, kt = (T : Int) := ⟨kt.toNat, by omega⟩
      have htd : decide (((T : Nat) : Int) < 0) = false := by rw [decide_eq_false_iff_not]; omega
      obtain ⟨p, hp⟩ : ∃ p, s.os[T]? = some p := ⟨_, List.getElem?_eq_getElem (by omega)⟩
      obtain ⟨b, o, c0, a2, c2, hv, hbl, _, e0, e1, hfs⟩ := ob_cells hos hp
      cases hv
      have HD2 : Hid (DB = if plB fi (p.fs.map (·.n)) < 0 then false else match atI p.fs (plB fi (p.fs.map (·.n))) with
        | none => false
        | some g => decide (0 ≤ edgS s g) && (g.t == q.n) && (g.i == fn)) := by
        show _ = _
        rw [HD.out, if_neg (by rw [hi]; simp), if_neg (by omega), atI_some hp]
      have l1 : ((T : Nat) : Int) < (s.os.length : Int) := hrg.2
      have hTN : ((T : Nat) : Int).toNat = T := by omega
      have FD := fun {W : World} (bb : Below w.heap.size w W) => ifield_any p (hfs.on bb) fi
      have hr2 := plB_range fi (p.fs.map (·.n))
      rw [List.length_map] at hr2
      obtain ⟨hr2a, hr2b, _⟩ := hr2
      generalize plB fi (p.fs.map (·.n)) = kf at *
      clear HD hp ht hrg
      have ALL : ∀ {X : World} (hX : X = ((w.alloc (.cells #[.slice (some ⟨b, o, none⟩) s.os.length c, .slice a' s.es.length c'] 25)).alloc (.cells #[.string ⟨q.n.toArray⟩, .slice a1 n1 c1] 41)).alloc (.cells #[.string ⟨fn.toArray⟩, .string ⟨ft.toArray⟩, .string ⟨fw.toArray⟩, .bool fs, .string ⟨fi.toArray⟩] 33)), X.heap[w.heap.size]? = some (.cells #[.slice (some ⟨b, o, none⟩) s.os.length c, .slice a' s.es.length c'] 25) ∧ X.heap[w.heap.size + 1]? = some (.cells #[.string ⟨q.n.toArray⟩, .slice a1 n1 c1] 41) ∧ X.heap[w.heap.size + 1 + 1]? = some (.cells #[.string ⟨fn.toArray⟩, .string ⟨ft.toArray⟩, .string ⟨fw.toArray⟩, .bool fs, .string ⟨fi.toArray⟩] 33) := fun hX => by
        rw [hX]
        exact ⟨new31 w _ _ _, new32 w _ _ _, new33 w _ _ _⟩
      obtain ⟨w0, hw0⟩ : ∃ w0, w0 = ((w.alloc (.cells #[.slice (some ⟨b, o, none⟩) s.os.length c, .slice a' s.es.length c'] 25)).alloc (.cells #[.string ⟨q.n.toArray⟩, .slice a1 n1 c1] 41)).alloc (.cells #[.string ⟨fn.toArray⟩, .string ⟨ft.toArray⟩, .string ⟨fw.toArray⟩, .bool fs, .string ⟨fi.toArray⟩] 33) := ⟨_, rfl⟩
      obtain ⟨R1, R2, R3⟩ := ALL hw0
      clear ALL
      have A0 : Below w.heap.size w w0 := by rw [hw0]; exact al3 w _ _ _
      have HZ : ∀ {W : World}, Below w0.heap.size w0 W → Below w.heap.size w W := fun b => A0.trans (b.mono A0.size)
      obtain ⟨r0, r1, _⟩ := row2 R1
      obtain ⟨s0, s1, _⟩ := row2 R2
      obtain ⟨u0, u1, u2, u3, u4, _⟩ := row5 R3
      have HW : Hid (w0 = ((w.alloc (.cells #[.slice (some ⟨b, o, none⟩) s.os.length c, .slice a' s.es.length c'] 25)).alloc (.cells #[.string ⟨q.n.toArray⟩, .slice a1 n1 c1] 41)).alloc (.cells #[.string ⟨fn.toArray⟩, .string ⟨ft.toArray⟩, .string ⟨fw.toArray⟩, .bool fs, .string ⟨fi.toArray⟩] 33)) := hw0
      clear hw0
      have S6 : ∀ {W : World}, Below w0.heap.size w0 W → (fun w' : World => w'.cell? ⟨w.heap.size, 0, none⟩ = some (.slice (some ⟨b, o, none⟩) s.os.length c) ∧ w'.cell? ⟨b, o + T * 2, none⟩ = some (.string ⟨p.n.toArray⟩) ∧ w'.cell? ⟨b, o + T * 2 + 1, none⟩ = some (.slice a2 p.fs.length c2) ∧ w'.cell? ⟨w.heap.size + 1 + 1, 4, none⟩ = some (.string ⟨fi.toArray⟩)) W := fun bb => ⟨cell_on bb r0, cell_on (HZ bb) e0, cell_on (HZ bb) e1, cell_on bb u4⟩
      by_cases hk : kf < 0
      · have HP : Hid (DB = false) := by show _ = _; rw [HD2.out, if_pos hk]
        clear HD2
        go_enter Tryz.func39, Tryz.ntmps39
        go_wp2_with (first
          | (go_at_call 19; (with_reducible refine (ED (al3 w _ _ _)).mono ?_); rintro e x1 ⟨rfl, b1'⟩; have D1 : Below w0.heap.size w0 x1 := (by rw [HW.out]; exact b1'); clear b1')
          | fail)
        have RD : Below w0.heap.size w0 x1.drew := ⟨D1.os, D1.tape, D1.output, D1.size, D1.block⟩
        go_region_held3 (fun w' => w'.cell? ⟨w.heap.size, 0, none⟩ = some (.slice (some ⟨b, o, none⟩) s.os.length c) ∧ w'.cell? ⟨b, o + T * 2, none⟩ = some (.string ⟨p.n.toArray⟩) ∧ w'.cell? ⟨b, o + T * 2 + 1, none⟩ = some (.slice a2 p.fs.length c2) ∧ w'.cell? ⟨w.heap.size + 1 + 1, 4, none⟩ = some (.string ⟨fi.toArray⟩)) (first | with_reducible exact S6 D2 | with_reducible exact S6 RD) ((first
          | (go_at_call 50; (with_reducible refine (FD (HZ RD)).mono ?_); rintro e x2 ⟨rfl, b2'⟩; have D2 := RD.trans (b2'.mono RD.size); clear b2')
          | fail))
        go_wp2
        go_ret
        exact ⟨by rw [HP.out]; rfl, HZ D2⟩
      · obtain ⟨A, rfl⟩ : ∃ A : Nat, kf = (A : Int) := ⟨kf.toNat, by omega⟩
        have hkd : decide (((A : Nat) : Int) < 0) = false := by rw [decide_eq_false_iff_not]; omega
        obtain ⟨g, hg⟩ : ∃ g, p.fs[A]? = some g := ⟨_, List.getElem?_eq_getElem (by omega)⟩
        obtain ⟨b1, o1, rfl, hbl1, _, g0, g1, g2, g3, g4⟩ := fld_cells hfs hg
        have HD3 : Hid (DB = (decide (0 ≤ edgS s g) && (g.t == q.n) && (g.i == fn))) := by show _ = _; rw [HD2.out, if_neg hk, atI_some hg]
        have l2 : ((A : Nat) : Int) < (p.fs.length : Int) := hr2b
        have hAN : ((A : Nat) : Int).toNat = A := by omega
        have EG := fun {W : World} (bb : Below w.heap.size w W) => iedge_any (hh.on bb) g
        generalize edgS s g = kg at *
        clear hg HD2 hk
        obtain ⟨gn, gt, gw, gs, gi⟩ := g
        simp only at g0 g1 g2 g3 g4 HD3 EG
        have hb1 := bytes_eq gt q.n
        have hb2 := bytes_eq gi fn
        go_enter Tryz.func39, Tryz.ntmps39
        go_wp2_with (first
          | (go_at_call 19; (with_reducible refine (ED (al3 w _ _ _)).mono ?_); rintro e x1 ⟨rfl, b1'⟩; have D1 : Below w0.heap.size w0 x1 := (by rw [HW.out]; exact b1'); clear b1')
          | fail)
        have RD : Below w0.heap.size w0 x1.drew := ⟨D1.os, D1.tape, D1.output, D1.size, D1.block⟩
        go_region_held3 (fun w' => w'.cell? ⟨w.heap.size, 0, none⟩ = some (.slice (some ⟨b, o, none⟩) s.os.length c) ∧ w'.cell? ⟨b, o + T * 2, none⟩ = some (.string ⟨p.n.toArray⟩) ∧ w'.cell? ⟨b, o + T * 2 + 1, none⟩ = some (.slice (some ⟨b1, o1, none⟩) p.fs.length c2) ∧ w'.cell? ⟨w.heap.size + 1 + 1, 4, none⟩ = some (.string ⟨fi.toArray⟩)) (first | with_reducible exact S6 D2 | with_reducible exact S6 RD) ((first
          | (go_at_call 50; (with_reducible refine (FD (HZ RD)).mono ?_); rintro e x2 ⟨rfl, b2'⟩; have D2 := RD.trans (b2'.mono RD.size); clear b2')
          | fail))
        have y0 := cell_on D2 r0
        have y1 := cell_on D2 r1
        have y2 := cell_on (HZ D2) e1
        have k0 := cell_on (HZ D2) g0
        have k1 := cell_on (HZ D2) g1
        have k2 := cell_on (HZ D2) g2
        have k3 := cell_on (HZ D2) g3
        have k4 := cell_on (HZ D2) g4
        have aw0 := fun o => cell_on (al1 x2 o) y0
        have aw1 := fun o => cell_on (al1 x2 o) y1
        have AFTER : ∀ {X : World}, Below (x2.alloc (.cells #[.string ⟨gn.toArray⟩, .string ⟨gt.toArray⟩, .string ⟨gw.toArray⟩, .bool gs, .string ⟨gi.toArray⟩] 33)).heap.size (x2.alloc (.cells #[.string ⟨gn.toArray⟩, .string ⟨gt.toArray⟩, .string ⟨gw.toArray⟩, .bool gs, .string ⟨gi.toArray⟩] 33)) X → X.cell? ⟨x2.heap.size, 1, none⟩ = some (.string ⟨gt.toArray⟩) ∧ X.cell? ⟨x2.heap.size, 4, none⟩ = some (.string ⟨gi.toArray⟩) ∧ X.cell? ⟨w.heap.size + 1, 0, none⟩ = some (.string ⟨q.n.toArray⟩) ∧ X.cell? ⟨w.heap.size + 1 + 1, 0, none⟩ = some (.string ⟨fn.toArray⟩) := fun {X} bb => by
          obtain ⟨m0, m1, m2, m3, m4, _⟩ := row5 (heap_alloc_new x2 (.cells #[.string ⟨gn.toArray⟩, .string ⟨gt.toArray⟩, .string ⟨gw.toArray⟩, .bool gs, .string ⟨gi.toArray⟩] 33))
          exact ⟨cell_on bb m1, cell_on bb m4, cell_on bb (cell_on (al1 x2 _) (cell_on D2 s0)), cell_on bb (cell_on (al1 x2 _) (cell_on D2 u0))⟩
        by_cases hkg : 0 ≤ kg
        · cases c1' : (gt == q.n) with
          | true =>
            have HP : Hid (DB = (gi == fn)) := by show _ = _; rw [HD3.out, c1']; simp [hkg]
            clear HD3
            go_wp2_with (first
              | (go_at_call 19; (with_reducible refine (EG ((HZ D2).trans ((al1 x2 _).mono (HZ D2).size))).mono ?_); rintro e x4 ⟨rfl, b4'⟩; obtain ⟨v1, v2, v3, v4⟩ := AFTER b4'; have D4 : Below w.heap.size w x4 := (HZ D2).trans (((al1 x2 _).trans (b4'.mono (al1 x2 _).size)).mono (HZ D2).size); clear b4')
              | fail)
            go_ret
            exact ⟨by rw [HP.out]; rfl, D4⟩
          | false =>
            have HP : Hid (DB = false) := by show _ = _; rw [HD3.out, c1']; simp
            clear HD3
            go_wp2_with (first
              | (go_at_call 19; (with_reducible refine (EG ((HZ D2).trans ((al1 x2 _).mono (HZ D2).size))).mono ?_); rintro e x4 ⟨rfl, b4'⟩; obtain ⟨v1, v2, v3, v4⟩ := AFTER b4'; have D4 : Below w.heap.size w x4 := (HZ D2).trans (((al1 x2 _).trans (b4'.mono (al1 x2 _).size)).mono (HZ D2).size); clear b4')
              | fail)
            go_ret
            exact ⟨by rw [HP.out]; rfl, D4⟩
        · have hkg2 : decide (0 ≤ kg) = false := by simpa using hkg
          have HP : Hid (DB = false) := by show _ = _; rw [HD3.out, hkg2]; simp
          clear HD3 hkg
          go_wp2_with (first
            | (go_at_call 19; (with_reducible refine (EG ((HZ D2).trans ((al1 x2 _).mono (HZ D2).size))).mono ?_); rintro e x4 ⟨rfl, b4'⟩; obtain ⟨v1, v2, v3, v4⟩ := AFTER b4'; have D4 : Below w.heap.size w x4 := (HZ D2).trans (((al1 x2 _).trans (b4'.mono (al1 x2 _).size)).mono (HZ D2).size); clear b4')
            | fail)
          go_ret
          exact ⟨by rw [HP.out]; rfl, D4⟩
end
end Go.Proofs.YtfkgmgnoijokdaaGreatDoor
namespace Go.Proofs.YtfkgmgnoijokdaaGreatDoor
open Go Go.RowKit Go.Shelf
/-- Rules 1 to 3 hold. -/
structure Thr (s : Sch) : Prop where
  m : manS s = true
  n : (namS s && (sptS s).all (fun x => frfS x.f.n)) = true
  o : oncS s = true
theorem kchk93 {s : Sch} (h : Thr s) (h4 : ¬ (∀ x ∈ s.os, ∀ f ∈ x.fs, wtyS s f = true)) : chkS s = 93 := by
  refine chk93 h.m h.n h.o ?_
  rw [← Bool.not_eq_true, all_sptF (p := fun f => wtyS s f)]
  exact h4
theorem kchk94 {s : Sch} (h : Thr s) (h4 : ∀ x ∈ s.os, ∀ f ∈ x.fs, wtyS s f = true) (h5 : ¬ (∀ x ∈ s.os, ∀ f ∈ x.fs, (!f.s || decide (edgS s f < 0)) = true)) : chkS s = 94 := by
  have e4 := (all_sptF (p := fun f => wtyS s f)).2 h4
  have e5 : (sptS s).all (fun x => !x.f.s || decide (edgS s x.f < 0)) = false := by
    rw [← Bool.not_eq_true, all_sptF (p := fun f => !f.s || decide (edgS s f < 0))]
    exact h5
  unfold chkS
  simp only [h.m, h.n, h.o, e4, e5, Bool.not_true, Bool.not_false, Bool.false_eq_true, if_false, if_true]
theorem docB_all {s : Sch} (h : Thr s) : (sptS s).all (fun x => (x.f.i == []) || ledS s x) = true ↔ (∀ x ∈ s.os, ∀ f ∈ x.fs, docB s x f = true) := by
  rw [all_spt]
  constructor
  · intro hh x hx f hf
    obtain ⟨i, h1⟩ := List.mem_iff_getElem?.1 hx
    obtain ⟨k, h2⟩ := List.mem_iff_getElem?.1 hf
    rw [docB_eq h.o h1 h2]
    exact hh i x k f h1 h2
  · intro hh i x k f h1 h2
    have := hh x (List.mem_of_getElem? h1) f (List.mem_of_getElem? h2)
    rw [docB_eq h.o h1 h2] at this
    exact this
theorem kchk95 {s : Sch} (h : Thr s) (h4 : ∀ x ∈ s.os, ∀ f ∈ x.fs, wtyS s f = true) (h5 : ∀ x ∈ s.os, ∀ f ∈ x.fs, (!f.s || decide (edgS s f < 0)) = true) (h6 : ¬ (∀ x ∈ s.os, ∀ f ∈ x.fs, docB s x f = true)) : chkS s = 95 := by
  have e4 := (all_sptF (p := fun f => wtyS s f)).2 h4
  have e5 := (all_sptF (p := fun f => !f.s || decide (edgS s f < 0))).2 h5
  have e6 : (sptS s).all (fun x => (x.f.i == []) || ledS s x) = false := by
    rw [← Bool.not_eq_true, docB_all h]
    exact h6
  unfold chkS
  simp only [h.m, h.n, h.o, e4, e5, e6, Bool.not_true, Bool.not_false, Bool.false_eq_true, if_false, if_true]
theorem kchk0 {s : Sch} (h : Thr s) (h4 : ∀ x ∈ s.os, ∀ f ∈ x.fs, wtyS s f = true) (h5 : ∀ x ∈ s.os, ∀ f ∈ x.fs, (!f.s || decide (edgS s f < 0)) = true) (h6 : ∀ x ∈ s.os, ∀ f ∈ x.fs, docB s x f = true) : chkS s = 0 := by
  have e4 := (all_sptF (p := fun f => wtyS s f)).2 h4
  have e5 := (all_sptF (p := fun f => !f.s || decide (edgS s f < 0))).2 h5
  have e6 := (docB_all h).2 h6
  unfold chkS
  simp only [h.m, h.n, h.o, e4, e5, e6, Bool.not_true, Bool.false_eq_true, if_false]
section
variable {w : World} {ov ev : Value} {s : Sch}
set_option maxRecDepth 100000 in
set_option maxHeartbeats 16000000 in
theorem icheck_any (h : SchAt w ov ev s) : Calls Tryz.prog 11 #[.agg #[ov, ev]] w fun e w' => e = .returned (.int .i64 (chkS s)) ∧ Below w.heap.size w w' := by
  have hh := h
  have hos := h.os
  obtain ⟨a, c, rfl, _, _⟩ := h.os.slice
  obtain ⟨a', c', rfl, _, _⟩ := h.es.slice
  obtain ⟨w0, hw0⟩ : ∃ w0, w0 = w.alloc (.cells #[.slice a s.os.length c, .slice a' s.es.length c'] 25) := ⟨_, rfl⟩
  have A0 : Below w.heap.size w w0 := by rw [hw0]; exact al1 w _
  have HZ : ∀ {W : World}, Below w0.heap.size w0 W → Below w.heap.size w W := fun b => A0.trans (b.mono A0.size)
  have HS : ∀ {W : World}, Below w0.heap.size w0 W → SchAt W (.slice a s.os.length c) (.slice a' s.es.length c') s := fun b => hh.on (HZ b)
  obtain ⟨r0, r1, _⟩ := row2 (show w0.heap[w.heap.size]? = some (.cells #[.slice a s.os.length c, .slice a' s.es.length c'] 25) by rw [hw0]; exact heap_alloc_new w _)
  have M1 := fun o => imany_any (hh.on (al1 w o))
  have M2 := fun {W : World} (b : Below w0.heap.size w0 W) => inames_any (HS b)
  have M3 := fun (hm : manS s = true) {W : World} (b : Below w0.heap.size w0 W) => ionce_any (HS b) hm
  have HW : Hid (w0 = w.alloc (.cells #[.slice a s.os.length c, .slice a' s.es.length c'] 25)) := hw0
  clear hw0
  cases hm : manS s with
  | false =>
    rw [hm] at M1
    have HP : Hid (chkS s = 90) := chk90 hm
    clear hm M3
    go_enter Tryz.func11, Tryz.ntmps11
    go_wp2_with (first
      | (go_at_call 35; (with_reducible refine (M1 _).mono ?_); rintro e x1 ⟨rfl, b1⟩; have D1 : Below w0.heap.size w0 x1 := (by rw [HW.out]; exact b1); have p1 := cell_on D1 r0; have q1 := cell_on D1 r1; clear b1)
      | fail)
    go_ret
    exact ⟨by rw [HP.out]; rfl, HZ D1⟩
  | true =>
    rw [hm] at M1
    have M3' := fun {W : World} (b : Below w0.heap.size w0 W) => M3 hm b
    clear M3
    cases hn : (namS s && (sptS s).all (fun x => frfS x.f.n)) with
    | false =>
      rw [hn] at M2
      have HP : Hid (chkS s = 91) := chk91 hm hn
      clear hm hn M3'
      go_enter Tryz.func11, Tryz.ntmps11
      go_wp2_with (first
        | (go_at_call 36; (with_reducible refine (M2 D1).mono ?_); rintro e x2 ⟨rfl, b2⟩; have D2 := D1.trans (b2.mono D1.size); have p2 := cell_on D2 r0; have q2 := cell_on D2 r1; clear b2)
        | (go_at_call 35; (with_reducible refine (M1 _).mono ?_); rintro e x1 ⟨rfl, b1⟩; have D1 : Below w0.heap.size w0 x1 := (by rw [HW.out]; exact b1); have p1 := cell_on D1 r0; have q1 := cell_on D1 r1; clear b1)
        | fail)
      go_ret
      exact ⟨by rw [HP.out]; rfl, HZ D2⟩
    | true =>
      rw [hn] at M2
      cases ho : oncS s with
      | false =>
        rw [ho] at M3'
        have HP : Hid (chkS s = 92) := chk92 hm hn ho
        clear hm hn ho
        go_enter Tryz.func11, Tryz.ntmps11
        go_wp2_with (first
          | (go_at_call 37; (with_reducible refine (M3' D2).mono ?_); rintro e x3 ⟨rfl, b3⟩; have D3 := D2.trans (b3.mono D2.size); clear b3)
          | (go_at_call 36; (with_reducible refine (M2 D1).mono ?_); rintro e x2 ⟨rfl, b2⟩; have D2 := D1.trans (b2.mono D1.size); have p2 := cell_on D2 r0; have q2 := cell_on D2 r1; clear b2)
          | (go_at_call 35; (with_reducible refine (M1 _).mono ?_); rintro e x1 ⟨rfl, b1⟩; have D1 : Below w0.heap.size w0 x1 := (by rw [HW.out]; exact b1); have p1 := cell_on D1 r0; have q1 := cell_on D1 r1; clear b1)
          | fail)
        go_ret
        exact ⟨by rw [HP.out]; rfl, HZ D3⟩
      | true =>
        rw [ho] at M3'
        have HC : Hid (Thr s) := ⟨hm, hn, ho⟩
        have hn8 := (man_iff.1 hm).1.2
        have HM4 : Hid (∀ o ∈ s.os, 1 ≤ o.fs.length ∧ o.fs.length ≤ 12) := (man_iff.1 hm).2.2.1
        clear hm hn ho
        go_enter Tryz.func11, Tryz.ntmps11
        go_wp2_with (first
          | (go_at_call 37; (with_reducible refine (M3' D2).mono ?_); rintro e x3 ⟨rfl, b3⟩; have D3 := D2.trans (b3.mono D2.size); clear b3)
          | (go_at_call 36; (with_reducible refine (M2 D1).mono ?_); rintro e x2 ⟨rfl, b2⟩; have D2 := D1.trans (b2.mono D1.size); have p2 := cell_on D2 r0; have q2 := cell_on D2 r1; clear b2)
          | (go_at_call 35; (with_reducible refine (M1 _).mono ?_); rintro e x1 ⟨rfl, b1⟩; have D1 : Below w0.heap.size w0 x1 := (by rw [HW.out]; exact b1); have p1 := cell_on D1 r0; have q1 := cell_on D1 r1; clear b1)
          | fail)
        go_loopw [3, 4] (fun ev rv wr => ∃ r : Int, .int .i64 0 = ev ∧ rv = .int .i64 r ∧ ((r = 4) ∨ (r = 5 ∧ ∀ x ∈ s.os, ∀ f ∈ x.fs, wtyS s f = true) ∨ (r = 6 ∧ (∀ x ∈ s.os, ∀ f ∈ x.fs, wtyS s f = true) ∧ ∀ x ∈ s.os, ∀ f ∈ x.fs, (!f.s || decide (edgS s f < 0)) = true) ∨ (r = 7 ∧ (∀ x ∈ s.os, ∀ f ∈ x.fs, wtyS s f = true) ∧ (∀ x ∈ s.os, ∀ f ∈ x.fs, (!f.s || decide (edgS s f < 0)) = true) ∧ ∀ x ∈ s.os, ∀ f ∈ x.fs, docB s x f = true)) ∧ Below w0.heap.size w0 wr) (fun _ rv _ => (7 - RowKit.intOf rv).toNat)
        case atStart => exact ⟨4, rfl, rfl, Or.inl rfl, D3⟩
        case round =>
          obtain ⟨r, rfl, rfl, hrr, hbR⟩ := hrel
          have zz0 := cell_on hbR r0
          rcases hrr with rfl | ⟨rfl, h4⟩ | ⟨rfl, h4, h5⟩ | ⟨rfl, h4, h5, h6⟩
          · skip
            go_wp2
            go_loopw [3, 5] (fun ev iv wr => ∃ (ei : Int) (i : Nat), .int .i64 ei = ev ∧ iv = .int .i64 (i : Int) ∧ i ≤ s.os.length ∧ ((ei = 0 ∧ ∀ (q : Nat) z, q < i → s.os[q]? = some z → ∀ f ∈ z.fs, wtyS s f = true) ∨ (ei = 93 ∧ ¬ (∀ (q : Nat) z, q < i → s.os[q]? = some z → ∀ f ∈ z.fs, wtyS s f = true))) ∧ Below w0.heap.size w0 wr) (fun _ iv _ => s.os.length - (RowKit.intOf iv).toNat)
            case atStart => exact ⟨0, 0, rfl, rfl, Nat.zero_le _, Or.inl ⟨rfl, fun q z hq => absurd hq (Nat.not_lt_zero _)⟩, hbR⟩
            case round =>
              obtain ⟨ei, i, rfl, rfl, hi, hei, hbr⟩ := hrel
              have z0 := cell_on hbr r0
              have z1 := cell_on hbr r1
              by_cases hlt : i < s.os.length
              · obtain ⟨x, hx⟩ : ∃ x, s.os[i]? = some x := ⟨_, List.getElem?_eq_getElem hlt⟩
                obtain ⟨b, o, c0, a1, c1, hv, hbl, _, e0, e1, hfs⟩ := ob_cells hos hx
                cases hv
                have l1 : ((i : Nat) : Int) < (s.os.length : Int) := by omega
                have hiN : ((i : Nat) : Int).toNat = i := by omega
                have HI : Hid (i + 1 ≤ s.os.length) := hlt
                have HX : Hid (s.os[i]? = some x) := hx
                have h12 : x.fs.length ≤ 12 := (HM4.out x (List.mem_of_getElem? hx)).2
                have hst : (ei = 0 ∧ (∀ (q : Nat) z, q < i → s.os[q]? = some z → ∀ f ∈ z.fs, wtyS s f = true) ∧ ∀ (q : Nat) f, q < 0 → x.fs[q]? = some f → wtyS s f = true) ∨ (ei = 93 ∧ ¬ ((∀ (q : Nat) z, q < i → s.os[q]? = some z → ∀ f ∈ z.fs, wtyS s f = true) ∧ ∀ (q : Nat) f, q < 0 → x.fs[q]? = some f → wtyS s f = true)) := by
                  rcases hei with ⟨q1, q2⟩ | ⟨q1, q2⟩
                  · exact Or.inl ⟨q1, q2, fun q f hq => absurd hq (Nat.not_lt_zero _)⟩
                  · exact Or.inr ⟨q1, fun q3 => q2 q3.1⟩
                have HST : Hid ((ei = 0 ∧ (∀ (q : Nat) z, q < i → s.os[q]? = some z → ∀ f ∈ z.fs, wtyS s f = true) ∧ ∀ (q : Nat) f, q < 0 → x.fs[q]? = some f → wtyS s f = true) ∨ (ei = 93 ∧ ¬ ((∀ (q : Nat) z, q < i → s.os[q]? = some z → ∀ f ∈ z.fs, wtyS s f = true) ∧ ∀ (q : Nat) f, q < 0 → x.fs[q]? = some f → wtyS s f = true))) := hst
                clear hx hlt hei hst
                generalize wr = wB at *
                go_wp2
                go_loopw [3, 6] (fun ev kv wr => ∃ (ei : Int) (k : Nat), .int .i64 ei = ev ∧ kv = .int .i64 (k : Int) ∧ k ≤ x.fs.length ∧ ((ei = 0 ∧ (∀ (q : Nat) z, q < i → s.os[q]? = some z → ∀ f ∈ z.fs, wtyS s f = true) ∧ ∀ (q : Nat) f, q < k → x.fs[q]? = some f → wtyS s f = true) ∨ (ei = 93 ∧ ¬ ((∀ (q : Nat) z, q < i → s.os[q]? = some z → ∀ f ∈ z.fs, wtyS s f = true) ∧ ∀ (q : Nat) f, q < k → x.fs[q]? = some f → wtyS s f = true))) ∧ Below w0.heap.size w0 wr) (fun _ kv _ => x.fs.length - (RowKit.intOf kv).toNat)
                case atStart => exact ⟨ei, 0, rfl, rfl, Nat.zero_le _, HST.out, hbr⟩
                case round =>
                  obtain ⟨ei, k, rfl, rfl, hk, hei, hbk⟩ := hrel
                  have y0 := cell_on hbk r0
                  have y1' := cell_on hbk r1
                  have y2 := cell_on (HZ hbk) e1
                  by_cases hkl : k < x.fs.length
                  · obtain ⟨f, hf⟩ : ∃ f, x.fs[k]? = some f := ⟨_, List.getElem?_eq_getElem hkl⟩
                    obtain ⟨b1, o1, rfl, hbl1, _, g0, g1, g2, g3, g4⟩ := fld_cells hfs hf
                    have k0 := cell_on (HZ hbk) g0
                    have k1 := cell_on (HZ hbk) g1
                    have k2 := cell_on (HZ hbk) g2
                    have k3 := cell_on (HZ hbk) g3
                    have k4 := cell_on (HZ hbk) g4
                    have l2 : ((k : Nat) : Int) < (x.fs.length : Int) := by omega
                    have hkN : ((k : Nat) : Int).toNat = k := by omega
                    have HKL : Hid (k + 1 ≤ x.fs.length) := hkl
                    have HF : Hid (x.fs[k]? = some f) := hf
                    have HEI : Hid ((ei = 0 ∧ (∀ (q : Nat) z, q < i → s.os[q]? = some z → ∀ f ∈ z.fs, wtyS s f = true) ∧ ∀ (q : Nat) f, q < k → x.fs[q]? = some f → wtyS s f = true) ∨ (ei = 93 ∧ ¬ ((∀ (q : Nat) z, q < i → s.os[q]? = some z → ∀ f ∈ z.fs, wtyS s f = true) ∧ ∀ (q : Nat) f, q < k → x.fs[q]? = some f → wtyS s f = true))) := hei
                    have D5 : ∀ o : Obj, Below w0.heap.size w0 (wr.alloc o) := fun o => hbk.alloc hbk.size o
                    have av0 := fun o => cell_on (al1 wr o) y0
                    have av1 := fun o => cell_on (al1 wr o) y1'
                    clear hf hkl hei HST
                    have KD := fun {W : World} (bb : Below w0.heap.size w0 W) => ikind_any (HS bb) f
                    cases hP : wtyS s f with
                    | true =>
                      rw [hP] at KD
                      have HPV : Hid (wtyS s f = true) := hP
                      obtain ⟨fn, ft, fw, fs, fi⟩ := f
                      simp only at k0 k1 k2 k3 k4
                      clear hP
                      have HN2 : Hid ((ei = 0 ∧ (∀ (q : Nat) z, q < i → s.os[q]? = some z → ∀ f ∈ z.fs, wtyS s f = true) ∧ ∀ (q : Nat) f, q < k + 1 → x.fs[q]? = some f → wtyS s f = true) ∨ (ei = 93 ∧ ¬ ((∀ (q : Nat) z, q < i → s.os[q]? = some z → ∀ f ∈ z.fs, wtyS s f = true) ∧ ∀ (q : Nat) f, q < k + 1 → x.fs[q]? = some f → wtyS s f = true))) := by
                        rcases HEI.out with ⟨e1, e2, e3⟩ | ⟨e1, e2⟩
                        · refine Or.inl ⟨e1, e2, fun q g hq hg => ?_⟩
                          by_cases e : q = k
                          · subst e
                            rw [HF.out] at hg
                            cases hg
                            exact HPV.out
                          · exact e3 q g (by omega) hg
                        · exact Or.inr ⟨e1, fun e3 => e2 ⟨e3.1, fun q g hq hg => e3.2 q g (by omega) hg⟩⟩
                      go_wp2_with (first
                        | (go_at_call 38; (with_reducible refine (KD (D5 _)).mono ?_); rintro e y1 ⟨rfl, d1⟩; have Y1 := (D5 _).trans (d1.mono (D5 _).size); clear d1)
                        | fail)
                      go_quiet (fail)
                      go_wp2
                      refine ⟨⟨ei, k + 1, by simp, by simp, HKL.out, HN2.out, (below_drewN Y1 _)⟩, ?_⟩
                      have := HKL.out
                      simp [RowKit.intOf]
                      omega
                    | false =>
                      rw [hP] at KD
                      have HPV : Hid (wtyS s f = false) := hP
                      obtain ⟨fn, ft, fw, fs, fi⟩ := f
                      simp only at k0 k1 k2 k3 k4
                      clear hP
                      have HN2 : Hid (¬ ((∀ (q : Nat) z, q < i → s.os[q]? = some z → ∀ f ∈ z.fs, wtyS s f = true) ∧ ∀ (q : Nat) f, q < k + 1 → x.fs[q]? = some f → wtyS s f = true)) := by
                        intro e3
                        have h9 := e3.2 k _ (by omega) HF.out
                        rw [HPV.out] at h9
                        cases h9
                      go_wp2_with (first
                        | (go_at_call 38; (with_reducible refine (KD (D5 _)).mono ?_); rintro e y1 ⟨rfl, d1⟩; have Y1 := (D5 _).trans (d1.mono (D5 _).size); clear d1)
                        | fail)
                      go_quiet (fail)
                      go_wp2
                      refine ⟨⟨93, k + 1, by simp, by simp, HKL.out, Or.inr ⟨rfl, HN2.out⟩, (below_drewN Y1 _)⟩, ?_⟩
                      have := HKL.out
                      simp [RowKit.intOf]
                      omega
                  · have l2 : decide (((k : Nat) : Int) < (x.fs.length : Int)) = false := by simp; omega
                    have l3 : decide (k < x.fs.length) = false := by simp; omega
                    have HN2 : Hid ((ei = 0 ∧ ∀ (q : Nat) z, q < i + 1 → s.os[q]? = some z → ∀ f ∈ z.fs, wtyS s f = true) ∨ (ei = 93 ∧ ¬ (∀ (q : Nat) z, q < i + 1 → s.os[q]? = some z → ∀ f ∈ z.fs, wtyS s f = true))) := by
                      rcases hei with ⟨q1, q2, q3⟩ | ⟨q1, q2⟩
                      · refine Or.inl ⟨q1, fun q z hq hz g hg => ?_⟩
                        by_cases e : q = i
                        · subst e
                          rw [HX.out] at hz
                          cases hz
                          obtain ⟨m, hm⟩ := List.mem_iff_getElem?.1 hg
                          exact q3 m g (by have := (List.getElem?_eq_some_iff.1 hm).1; omega) hm
                        · exact q2 q z (by omega) hz g hg
                      · exact Or.inr ⟨q1, fun q3 => q2 ⟨fun q z hq hz => q3 q z (by omega) hz, fun q g hq hg => q3 i x (by omega) HX.out g (List.mem_of_getElem? hg)⟩⟩
                    clear hkl hei hk HST
                    go_wp2
                    refine ⟨⟨ei, i + 1, by simp, by simp, HI.out, HN2.out, hbk⟩, ?_⟩
                    have := HI.out
                    simp [RowKit.intOf]
                    omega
              · have l2 : decide (((i : Nat) : Int) < (s.os.length : Int)) = false := by simp; omega
                have l3 : decide (i < s.os.length) = false := by simp; omega
                rcases hei with ⟨rfl, hall⟩ | ⟨rfl, hnot⟩
                · have HA4 : Hid (∀ x ∈ s.os, ∀ f ∈ x.fs, wtyS s f = true) := by
                    intro z hz f hf
                    obtain ⟨q, hq⟩ := List.mem_iff_getElem?.1 hz
                    exact hall q z (by have := (List.getElem?_eq_some_iff.1 hq).1; omega) hq f hf
                  clear hlt hall hi
                  go_wp2
                  refine ⟨⟨5, by simp, by simp, Or.inr (Or.inl ⟨rfl, HA4.out⟩), hbr⟩, ?_⟩
                  simp [RowKit.intOf]
                · have HP : Hid (chkS s = 93) := by
                    show _ = _
                    refine kchk93 HC.out ?_
                    intro hall
                    exact hnot fun q z _ hz f hf => hall z (List.mem_of_getElem? hz) f hf
                  clear hlt hnot hi
                  go_wp2
                  go_ret
                  exact ⟨by rw [HP.out]; rfl, HZ hbr⟩
          · have HA4 : Hid (∀ x ∈ s.os, ∀ f ∈ x.fs, wtyS s f = true) := h4
            clear h4
            go_wp2
            go_loopw [3, 5] (fun ev iv wr => ∃ (ei : Int) (i : Nat), .int .i64 ei = ev ∧ iv = .int .i64 (i : Int) ∧ i ≤ s.os.length ∧ ((ei = 0 ∧ ∀ (q : Nat) z, q < i → s.os[q]? = some z → ∀ f ∈ z.fs, (!f.s || decide (edgS s f < 0)) = true) ∨ (ei = 94 ∧ ¬ (∀ (q : Nat) z, q < i → s.os[q]? = some z → ∀ f ∈ z.fs, (!f.s || decide (edgS s f < 0)) = true))) ∧ Below w0.heap.size w0 wr) (fun _ iv _ => s.os.length - (RowKit.intOf iv).toNat)
            case atStart => exact ⟨0, 0, rfl, rfl, Nat.zero_le _, Or.inl ⟨rfl, fun q z hq => absurd hq (Nat.not_lt_zero _)⟩, hbR⟩
            case round =>
              obtain ⟨ei, i, rfl, rfl, hi, hei, hbr⟩ := hrel
              have z0 := cell_on hbr r0
              have z1 := cell_on hbr r1
              by_cases hlt : i < s.os.length
              · obtain ⟨x, hx⟩ : ∃ x, s.os[i]? = some x := ⟨_, List.getElem?_eq_getElem hlt⟩
                obtain ⟨b, o, c0, a1, c1, hv, hbl, _, e0, e1, hfs⟩ := ob_cells hos hx
                cases hv
                have l1 : ((i : Nat) : Int) < (s.os.length : Int) := by omega
                have hiN : ((i : Nat) : Int).toNat = i := by omega
                have HI : Hid (i + 1 ≤ s.os.length) := hlt
                have HX : Hid (s.os[i]? = some x) := hx
                have h12 : x.fs.length ≤ 12 := (HM4.out x (List.mem_of_getElem? hx)).2
                have hst : (ei = 0 ∧ (∀ (q : Nat) z, q < i → s.os[q]? = some z → ∀ f ∈ z.fs, (!f.s || decide (edgS s f < 0)) = true) ∧ ∀ (q : Nat) f, q < 0 → x.fs[q]? = some f → (!f.s || decide (edgS s f < 0)) = true) ∨ (ei = 94 ∧ ¬ ((∀ (q : Nat) z, q < i → s.os[q]? = some z → ∀ f ∈ z.fs, (!f.s || decide (edgS s f < 0)) = true) ∧ ∀ (q : Nat) f, q < 0 → x.fs[q]? = some f → (!f.s || decide (edgS s f < 0)) = true)) := by
                  rcases hei with ⟨q1, q2⟩ | ⟨q1, q2⟩
                  · exact Or.inl ⟨q1, q2, fun q f hq => absurd hq (Nat.not_lt_zero _)⟩
                  · exact Or.inr ⟨q1, fun q3 => q2 q3.1⟩
                have HST : Hid ((ei = 0 ∧ (∀ (q : Nat) z, q < i → s.os[q]? = some z → ∀ f ∈ z.fs, (!f.s || decide (edgS s f < 0)) = true) ∧ ∀ (q : Nat) f, q < 0 → x.fs[q]? = some f → (!f.s || decide (edgS s f < 0)) = true) ∨ (ei = 94 ∧ ¬ ((∀ (q : Nat) z, q < i → s.os[q]? = some z → ∀ f ∈ z.fs, (!f.s || decide (edgS s f < 0)) = true) ∧ ∀ (q : Nat) f, q < 0 → x.fs[q]? = some f → (!f.s || decide (edgS s f < 0)) = true))) := hst
                clear hx hlt hei hst
                generalize wr = wB at *
                go_wp2
                go_loopw [3, 6] (fun ev kv wr => ∃ (ei : Int) (k : Nat), .int .i64 ei = ev ∧ kv = .int .i64 (k : Int) ∧ k ≤ x.fs.length ∧ ((ei = 0 ∧ (∀ (q : Nat) z, q < i → s.os[q]? = some z → ∀ f ∈ z.fs, (!f.s || decide (edgS s f < 0)) = true) ∧ ∀ (q : Nat) f, q < k → x.fs[q]? = some f → (!f.s || decide (edgS s f < 0)) = true) ∨ (ei = 94 ∧ ¬ ((∀ (q : Nat) z, q < i → s.os[q]? = some z → ∀ f ∈ z.fs, (!f.s || decide (edgS s f < 0)) = true) ∧ ∀ (q : Nat) f, q < k → x.fs[q]? = some f → (!f.s || decide (edgS s f < 0)) = true))) ∧ Below w0.heap.size w0 wr) (fun _ kv _ => x.fs.length - (RowKit.intOf kv).toNat)
                case atStart => exact ⟨ei, 0, rfl, rfl, Nat.zero_le _, HST.out, hbr⟩
                case round =>
                  obtain ⟨ei, k, rfl, rfl, hk, hei, hbk⟩ := hrel
                  have y0 := cell_on hbk r0
                  have y1' := cell_on hbk r1
                  have y2 := cell_on (HZ hbk) e1
                  by_cases hkl : k < x.fs.length
                  · obtain ⟨f, hf⟩ : ∃ f, x.fs[k]? = some f := ⟨_, List.getElem?_eq_getElem hkl⟩
                    obtain ⟨b1, o1, rfl, hbl1, _, g0, g1, g2, g3, g4⟩ := fld_cells hfs hf
                    have k0 := cell_on (HZ hbk) g0
                    have k1 := cell_on (HZ hbk) g1
                    have k2 := cell_on (HZ hbk) g2
                    have k3 := cell_on (HZ hbk) g3
                    have k4 := cell_on (HZ hbk) g4
                    have l2 : ((k : Nat) : Int) < (x.fs.length : Int) := by omega
                    have hkN : ((k : Nat) : Int).toNat = k := by omega
                    have HKL : Hid (k + 1 ≤ x.fs.length) := hkl
                    have HF : Hid (x.fs[k]? = some f) := hf
                    have HEI : Hid ((ei = 0 ∧ (∀ (q : Nat) z, q < i → s.os[q]? = some z → ∀ f ∈ z.fs, (!f.s || decide (edgS s f < 0)) = true) ∧ ∀ (q : Nat) f, q < k → x.fs[q]? = some f → (!f.s || decide (edgS s f < 0)) = true) ∨ (ei = 94 ∧ ¬ ((∀ (q : Nat) z, q < i → s.os[q]? = some z → ∀ f ∈ z.fs, (!f.s || decide (edgS s f < 0)) = true) ∧ ∀ (q : Nat) f, q < k → x.fs[q]? = some f → (!f.s || decide (edgS s f < 0)) = true))) := hei
                    have D5 : ∀ o : Obj, Below w0.heap.size w0 (wr.alloc o) := fun o => hbk.alloc hbk.size o
                    have av0 := fun o => cell_on (al1 wr o) y0
                    have av1 := fun o => cell_on (al1 wr o) y1'
                    clear hf hkl hei HST
                    have ED := fun {W : World} (bb : Below w0.heap.size w0 W) => iedge_any (HS bb) f
                    obtain ⟨fn, ft, fw, fs, fi⟩ := f
                    simp only at k0 k1 k2 k3 k4
                    cases fs with
                    | false =>
                      have HPV : Hid ((!(⟨fn, ft, fw, false, fi⟩ : Fld).s || decide (edgS s ⟨fn, ft, fw, false, fi⟩ < 0)) = true) := by show _ = _; simp
                      have HN2 : Hid ((ei = 0 ∧ (∀ (q : Nat) z, q < i → s.os[q]? = some z → ∀ f ∈ z.fs, (!f.s || decide (edgS s f < 0)) = true) ∧ ∀ (q : Nat) f, q < k + 1 → x.fs[q]? = some f → (!f.s || decide (edgS s f < 0)) = true) ∨ (ei = 94 ∧ ¬ ((∀ (q : Nat) z, q < i → s.os[q]? = some z → ∀ f ∈ z.fs, (!f.s || decide (edgS s f < 0)) = true) ∧ ∀ (q : Nat) f, q < k + 1 → x.fs[q]? = some f → (!f.s || decide (edgS s f < 0)) = true))) := by
                        rcases HEI.out with ⟨e1, e2, e3⟩ | ⟨e1, e2⟩
                        · refine Or.inl ⟨e1, e2, fun q g hq hg => ?_⟩
                          by_cases e : q = k
                          · subst e
                            rw [HF.out] at hg
                            cases hg
                            exact HPV.out
                          · exact e3 q g (by omega) hg
                        · exact Or.inr ⟨e1, fun e3 => e2 ⟨e3.1, fun q g hq hg => e3.2 q g (by omega) hg⟩⟩
                      go_wp2
                      go_quiet (fail)
                      go_wp2
                      refine ⟨⟨ei, k + 1, by simp, by simp, HKL.out, HN2.out, (below_drewN (D5 _) _)⟩, ?_⟩
                      have := HKL.out
                      simp [RowKit.intOf]
                      omega
                    | true =>
                      by_cases hk : edgS s ⟨fn, ft, fw, true, fi⟩ < 0
                      · have HPV : Hid ((!(⟨fn, ft, fw, true, fi⟩ : Fld).s || decide (edgS s ⟨fn, ft, fw, true, fi⟩ < 0)) = true) := by show _ = _; simpa using hk
                        have hk2 : decide (0 ≤ edgS s ⟨fn, ft, fw, true, fi⟩) = false := by simp; omega
                        have HN2 : Hid ((ei = 0 ∧ (∀ (q : Nat) z, q < i → s.os[q]? = some z → ∀ f ∈ z.fs, (!f.s || decide (edgS s f < 0)) = true) ∧ ∀ (q : Nat) f, q < k + 1 → x.fs[q]? = some f → (!f.s || decide (edgS s f < 0)) = true) ∨ (ei = 94 ∧ ¬ ((∀ (q : Nat) z, q < i → s.os[q]? = some z → ∀ f ∈ z.fs, (!f.s || decide (edgS s f < 0)) = true) ∧ ∀ (q : Nat) f, q < k + 1 → x.fs[q]? = some f → (!f.s || decide (edgS s f < 0)) = true))) := by
                          rcases HEI.out with ⟨e1, e2, e3⟩ | ⟨e1, e2⟩
                          · refine Or.inl ⟨e1, e2, fun q g hq hg => ?_⟩
                            by_cases e : q = k
                            · subst e
                              rw [HF.out] at hg
                              cases hg
                              exact HPV.out
                            · exact e3 q g (by omega) hg
                          · exact Or.inr ⟨e1, fun e3 => e2 ⟨e3.1, fun q g hq hg => e3.2 q g (by omega) hg⟩⟩
                        generalize edgS s ⟨fn, ft, fw, true, fi⟩ = ke at ED hk hk2
                        clear hk
                        go_wp2_with (first
                          | (go_at_call 19; (with_reducible refine (ED (D5 _)).mono ?_); rintro e y1 ⟨rfl, d1⟩; have Y1 := (D5 _).trans (d1.mono (D5 _).size); clear d1)
                          | fail)
                        go_quiet (fail)
                        go_wp2
                        refine ⟨⟨ei, k + 1, by simp, by simp, HKL.out, HN2.out, (below_drewN Y1 _)⟩, ?_⟩
                        have := HKL.out
                        simp [RowKit.intOf]
                        omega
                      · have HPV : Hid ((!(⟨fn, ft, fw, true, fi⟩ : Fld).s || decide (edgS s ⟨fn, ft, fw, true, fi⟩ < 0)) = false) := by show _ = _; simp; omega
                        have hk2 : 0 ≤ edgS s ⟨fn, ft, fw, true, fi⟩ := by omega
                        have HN2 : Hid (¬ ((∀ (q : Nat) z, q < i → s.os[q]? = some z → ∀ f ∈ z.fs, (!f.s || decide (edgS s f < 0)) = true) ∧ ∀ (q : Nat) f, q < k + 1 → x.fs[q]? = some f → (!f.s || decide (edgS s f < 0)) = true)) := by
                          intro e3
                          have h9 := e3.2 k _ (by omega) HF.out
                          rw [HPV.out] at h9
                          cases h9
                        generalize edgS s ⟨fn, ft, fw, true, fi⟩ = ke at ED hk hk2
                        clear hk
                        go_wp2_with (first
                          | (go_at_call 19; (with_reducible refine (ED (D5 _)).mono ?_); rintro e y1 ⟨rfl, d1⟩; have Y1 := (D5 _).trans (d1.mono (D5 _).size); clear d1)
                          | fail)
                        go_quiet (fail)
                        go_wp2
                        refine ⟨⟨94, k + 1, by simp, by simp, HKL.out, Or.inr ⟨rfl, HN2.out⟩, (below_drewN Y1 _)⟩, ?_⟩
                        have := HKL.out
                        simp [RowKit.intOf]
                        omega
                  · have l2 : decide (((k : Nat) : Int) < (x.fs.length : Int)) = false := by simp; omega
                    have l3 : decide (k < x.fs.length) = false := by simp; omega
                    have HN2 : Hid ((ei = 0 ∧ ∀ (q : Nat) z, q < i + 1 → s.os[q]? = some z → ∀ f ∈ z.fs, (!f.s || decide (edgS s f < 0)) = true) ∨ (ei = 94 ∧ ¬ (∀ (q : Nat) z, q < i + 1 → s.os[q]? = some z → ∀ f ∈ z.fs, (!f.s || decide (edgS s f < 0)) = true))) := by
                      rcases hei with ⟨q1, q2, q3⟩ | ⟨q1, q2⟩
                      · refine Or.inl ⟨q1, fun q z hq hz g hg => ?_⟩
                        by_cases e : q = i
                        · subst e
                          rw [HX.out] at hz
                          cases hz
                          obtain ⟨m, hm⟩ := List.mem_iff_getElem?.1 hg
                          exact q3 m g (by have := (List.getElem?_eq_some_iff.1 hm).1; omega) hm
                        · exact q2 q z (by omega) hz g hg
                      · exact Or.inr ⟨q1, fun q3 => q2 ⟨fun q z hq hz => q3 q z (by omega) hz, fun q g hq hg => q3 i x (by omega) HX.out g (List.mem_of_getElem? hg)⟩⟩
                    clear hkl hei hk HST
                    go_wp2
                    refine ⟨⟨ei, i + 1, by simp, by simp, HI.out, HN2.out, hbk⟩, ?_⟩
                    have := HI.out
                    simp [RowKit.intOf]
                    omega
              · have l2 : decide (((i : Nat) : Int) < (s.os.length : Int)) = false := by simp; omega
                have l3 : decide (i < s.os.length) = false := by simp; omega
                rcases hei with ⟨rfl, hall⟩ | ⟨rfl, hnot⟩
                · have HA5 : Hid (∀ x ∈ s.os, ∀ f ∈ x.fs, (!f.s || decide (edgS s f < 0)) = true) := by
                    intro z hz f hf
                    obtain ⟨q, hq⟩ := List.mem_iff_getElem?.1 hz
                    exact hall q z (by have := (List.getElem?_eq_some_iff.1 hq).1; omega) hq f hf
                  clear hlt hall hi
                  go_wp2
                  refine ⟨⟨6, by simp, by simp, Or.inr (Or.inr (Or.inl ⟨rfl, HA4.out, HA5.out⟩)), hbr⟩, ?_⟩
                  simp [RowKit.intOf]
                · have HP : Hid (chkS s = 94) := by
                    show _ = _
                    refine kchk94 HC.out HA4.out ?_
                    intro hall
                    exact hnot fun q z _ hz f hf => hall z (List.mem_of_getElem? hz) f hf
                  clear hlt hnot hi
                  go_wp2
                  go_ret
                  exact ⟨by rw [HP.out]; rfl, HZ hbr⟩
          · have HA4 : Hid (∀ x ∈ s.os, ∀ f ∈ x.fs, wtyS s f = true) := h4
            have HA5 : Hid (∀ x ∈ s.os, ∀ f ∈ x.fs, (!f.s || decide (edgS s f < 0)) = true) := h5
            clear h4 h5
            go_wp2
            go_loopw [3, 5] (fun ev iv wr => ∃ (ei : Int) (i : Nat), .int .i64 ei = ev ∧ iv = .int .i64 (i : Int) ∧ i ≤ s.os.length ∧ ((ei = 0 ∧ ∀ (q : Nat) z, q < i → s.os[q]? = some z → ∀ f ∈ z.fs, docB s z f = true) ∨ (ei = 95 ∧ ¬ (∀ (q : Nat) z, q < i → s.os[q]? = some z → ∀ f ∈ z.fs, docB s z f = true))) ∧ Below w0.heap.size w0 wr) (fun _ iv _ => s.os.length - (RowKit.intOf iv).toNat)
            case atStart => exact ⟨0, 0, rfl, rfl, Nat.zero_le _, Or.inl ⟨rfl, fun q z hq => absurd hq (Nat.not_lt_zero _)⟩, hbR⟩
            case round =>
              obtain ⟨ei, i, rfl, rfl, hi, hei, hbr⟩ := hrel
              have z0 := cell_on hbr r0
              have z1 := cell_on hbr r1
              by_cases hlt : i < s.os.length
              · obtain ⟨x, hx⟩ : ∃ x, s.os[i]? = some x := ⟨_, List.getElem?_eq_getElem hlt⟩
                obtain ⟨b, o, c0, a1, c1, hv, hbl, _, e0, e1, hfs⟩ := ob_cells hos hx
                cases hv
                have l1 : ((i : Nat) : Int) < (s.os.length : Int) := by omega
                have hiN : ((i : Nat) : Int).toNat = i := by omega
                have HI : Hid (i + 1 ≤ s.os.length) := hlt
                have HX : Hid (s.os[i]? = some x) := hx
                have h12 : x.fs.length ≤ 12 := (HM4.out x (List.mem_of_getElem? hx)).2
                have hst : (ei = 0 ∧ (∀ (q : Nat) z, q < i → s.os[q]? = some z → ∀ f ∈ z.fs, docB s z f = true) ∧ ∀ (q : Nat) f, q < 0 → x.fs[q]? = some f → docB s x f = true) ∨ (ei = 95 ∧ ¬ ((∀ (q : Nat) z, q < i → s.os[q]? = some z → ∀ f ∈ z.fs, docB s z f = true) ∧ ∀ (q : Nat) f, q < 0 → x.fs[q]? = some f → docB s x f = true)) := by
                  rcases hei with ⟨q1, q2⟩ | ⟨q1, q2⟩
                  · exact Or.inl ⟨q1, q2, fun q f hq => absurd hq (Nat.not_lt_zero _)⟩
                  · exact Or.inr ⟨q1, fun q3 => q2 q3.1⟩
                have HST : Hid ((ei = 0 ∧ (∀ (q : Nat) z, q < i → s.os[q]? = some z → ∀ f ∈ z.fs, docB s z f = true) ∧ ∀ (q : Nat) f, q < 0 → x.fs[q]? = some f → docB s x f = true) ∨ (ei = 95 ∧ ¬ ((∀ (q : Nat) z, q < i → s.os[q]? = some z → ∀ f ∈ z.fs, docB s z f = true) ∧ ∀ (q : Nat) f, q < 0 → x.fs[q]? = some f → docB s x f = true))) := hst
                clear hx hlt hei hst
                generalize wr = wB at *
                go_wp2
                go_loopw [3, 6] (fun ev kv wr => ∃ (ei : Int) (k : Nat), .int .i64 ei = ev ∧ kv = .int .i64 (k : Int) ∧ k ≤ x.fs.length ∧ ((ei = 0 ∧ (∀ (q : Nat) z, q < i → s.os[q]? = some z → ∀ f ∈ z.fs, docB s z f = true) ∧ ∀ (q : Nat) f, q < k → x.fs[q]? = some f → docB s x f = true) ∨ (ei = 95 ∧ ¬ ((∀ (q : Nat) z, q < i → s.os[q]? = some z → ∀ f ∈ z.fs, docB s z f = true) ∧ ∀ (q : Nat) f, q < k → x.fs[q]? = some f → docB s x f = true))) ∧ Below w0.heap.size w0 wr) (fun _ kv _ => x.fs.length - (RowKit.intOf kv).toNat)
                case atStart => exact ⟨ei, 0, rfl, rfl, Nat.zero_le _, HST.out, hbr⟩
                case round =>
                  obtain ⟨ei, k, rfl, rfl, hk, hei, hbk⟩ := hrel
                  have y0 := cell_on hbk r0
                  have y1' := cell_on hbk r1
                  have y2 := cell_on (HZ hbk) e1
                  by_cases hkl : k < x.fs.length
                  · obtain ⟨f, hf⟩ : ∃ f, x.fs[k]? = some f := ⟨_, List.getElem?_eq_getElem hkl⟩
                    obtain ⟨b1, o1, rfl, hbl1, _, g0, g1, g2, g3, g4⟩ := fld_cells hfs hf
                    have k0 := cell_on (HZ hbk) g0
                    have k1 := cell_on (HZ hbk) g1
                    have k2 := cell_on (HZ hbk) g2
                    have k3 := cell_on (HZ hbk) g3
                    have k4 := cell_on (HZ hbk) g4
                    have l2 : ((k : Nat) : Int) < (x.fs.length : Int) := by omega
                    have hkN : ((k : Nat) : Int).toNat = k := by omega
                    have HKL : Hid (k + 1 ≤ x.fs.length) := hkl
                    have HF : Hid (x.fs[k]? = some f) := hf
                    have HEI : Hid ((ei = 0 ∧ (∀ (q : Nat) z, q < i → s.os[q]? = some z → ∀ f ∈ z.fs, docB s z f = true) ∧ ∀ (q : Nat) f, q < k → x.fs[q]? = some f → docB s x f = true) ∨ (ei = 95 ∧ ¬ ((∀ (q : Nat) z, q < i → s.os[q]? = some z → ∀ f ∈ z.fs, docB s z f = true) ∧ ∀ (q : Nat) f, q < k → x.fs[q]? = some f → docB s x f = true))) := hei
                    have D5 : ∀ o : Obj, Below w0.heap.size w0 (wr.alloc o) := fun o => hbk.alloc hbk.size o
                    have av0 := fun o => cell_on (al1 wr o) y0
                    have av1 := fun o => cell_on (al1 wr o) y1'
                    clear hf hkl hei HST
                    obtain ⟨fn, ft, fw, fs, fi⟩ := f
                    simp only at k0 k1 k2 k3 k4
                    obtain ⟨w5, hw5⟩ : ∃ w5, w5 = wr.alloc (.cells #[.string ⟨fn.toArray⟩, .string ⟨ft.toArray⟩, .string ⟨fw.toArray⟩, .bool fs, .string ⟨fi.toArray⟩] 33) := ⟨_, rfl⟩
                    have E5 : Below wr.heap.size wr w5 := by rw [hw5]; exact al1 wr _
                    have D6 : Below w0.heap.size w0 w5 := hbk.trans (E5.mono hbk.size)
                    obtain ⟨u0, u1, u2, u3, u4, _⟩ := row5 (show w5.heap[wr.heap.size]? = some (.cells #[.string ⟨fn.toArray⟩, .string ⟨ft.toArray⟩, .string ⟨fw.toArray⟩, .bool fs, .string ⟨fi.toArray⟩] 33) by rw [hw5]; exact heap_alloc_new wr _)
                    have S22 : ∀ {W : World}, Below w5.heap.size w5 W → (fun w' : World => w'.cell? ⟨w.heap.size, 0, none⟩ = some (.slice (some ⟨b, o, none⟩) s.os.length c) ∧ w'.cell? ⟨w.heap.size, 1, none⟩ = some (.slice a' s.es.length c') ∧ w'.cell? ⟨b, o + i * 2, none⟩ = some (.string ⟨x.n.toArray⟩) ∧ w'.cell? ⟨b, o + i * 2 + 1, none⟩ = some (.slice (some ⟨b1, o1, none⟩) x.fs.length c1) ∧ w'.cell? ⟨wr.heap.size, 0, none⟩ = some (.string ⟨fn.toArray⟩) ∧ w'.cell? ⟨wr.heap.size, 1, none⟩ = some (.string ⟨ft.toArray⟩) ∧ w'.cell? ⟨wr.heap.size, 2, none⟩ = some (.string ⟨fw.toArray⟩) ∧ w'.cell? ⟨wr.heap.size, 3, none⟩ = some (.bool fs) ∧ w'.cell? ⟨wr.heap.size, 4, none⟩ = some (.string ⟨fi.toArray⟩)) W := fun bb => ⟨cell_on (D6.trans (bb.mono D6.size)) r0, cell_on (D6.trans (bb.mono D6.size)) r1, cell_on (HZ (D6.trans (bb.mono D6.size))) e0, cell_on (HZ (D6.trans (bb.mono D6.size))) e1, cell_on bb u0, cell_on bb u1, cell_on bb u2, cell_on bb u3, cell_on bb u4⟩
                    have RD : Below w5.heap.size w5 w5.drew := ⟨rfl, rfl, rfl, Nat.le_refl _, fun _ _ => rfl⟩
                    have BK := fun {W : World} (bb : Below w5.heap.size w5 W) => iback6_any (HS (D6.trans (bb.mono D6.size))) x (some ⟨b1, o1, none⟩) x.fs.length c1 ⟨fn, ft, fw, fs, fi⟩
                    cases hP : docB s x ⟨fn, ft, fw, fs, fi⟩ with
                    | true =>
                      rw [hP] at BK
                      have HPV : Hid (docB s x ⟨fn, ft, fw, fs, fi⟩ = true) := hP
                      clear hP
                      have HN2 : Hid ((ei = 0 ∧ (∀ (q : Nat) z, q < i → s.os[q]? = some z → ∀ f ∈ z.fs, docB s z f = true) ∧ ∀ (q : Nat) f, q < k + 1 → x.fs[q]? = some f → docB s x f = true) ∨ (ei = 95 ∧ ¬ ((∀ (q : Nat) z, q < i → s.os[q]? = some z → ∀ f ∈ z.fs, docB s z f = true) ∧ ∀ (q : Nat) f, q < k + 1 → x.fs[q]? = some f → docB s x f = true))) := by
                        rcases HEI.out with ⟨e1, e2, e3⟩ | ⟨e1, e2⟩
                        · refine Or.inl ⟨e1, e2, fun q g hq hg => ?_⟩
                          by_cases e : q = k
                          · subst e
                            rw [HF.out] at hg
                            cases hg
                            exact HPV.out
                          · exact e3 q g (by omega) hg
                        · exact Or.inr ⟨e1, fun e3 => e2 ⟨e3.1, fun q g hq hg => e3.2 q g (by omega) hg⟩⟩
                      go_wp2
                      rw [← hw5]
                      clear hw5
                      go_region_held3 (fun w' => w'.cell? ⟨w.heap.size, 0, none⟩ = some (.slice (some ⟨b, o, none⟩) s.os.length c) ∧ w'.cell? ⟨w.heap.size, 1, none⟩ = some (.slice a' s.es.length c') ∧ w'.cell? ⟨b, o + i * 2, none⟩ = some (.string ⟨x.n.toArray⟩) ∧ w'.cell? ⟨b, o + i * 2 + 1, none⟩ = some (.slice (some ⟨b1, o1, none⟩) x.fs.length c1) ∧ w'.cell? ⟨wr.heap.size, 0, none⟩ = some (.string ⟨fn.toArray⟩) ∧ w'.cell? ⟨wr.heap.size, 1, none⟩ = some (.string ⟨ft.toArray⟩) ∧ w'.cell? ⟨wr.heap.size, 2, none⟩ = some (.string ⟨fw.toArray⟩) ∧ w'.cell? ⟨wr.heap.size, 3, none⟩ = some (.bool fs) ∧ w'.cell? ⟨wr.heap.size, 4, none⟩ = some (.string ⟨fi.toArray⟩)) (first | with_reducible exact S22 Y1 | with_reducible exact S22 RD) ((first
                        | (go_at_call 39; (with_reducible refine (BK RD).mono ?_); rintro e y1 ⟨rfl, d1⟩; have Y1 := RD.trans (d1.mono RD.size); clear d1)
                        | fail))
                      go_wp2
                      refine ⟨⟨ei, k + 1, by simp, by simp, HKL.out, HN2.out, (D6.trans (Y1.mono D6.size))⟩, ?_⟩
                      have := HKL.out
                      simp [RowKit.intOf]
                      omega
                    | false =>
                      rw [hP] at BK
                      have HPV : Hid (docB s x ⟨fn, ft, fw, fs, fi⟩ = false) := hP
                      clear hP
                      have HN2 : Hid (¬ ((∀ (q : Nat) z, q < i → s.os[q]? = some z → ∀ f ∈ z.fs, docB s z f = true) ∧ ∀ (q : Nat) f, q < k + 1 → x.fs[q]? = some f → docB s x f = true)) := by
                        intro e3
                        have h9 := e3.2 k _ (by omega) HF.out
                        rw [HPV.out] at h9
                        cases h9
                      go_wp2
                      rw [← hw5]
                      clear hw5
                      go_region_held3 (fun w' => w'.cell? ⟨w.heap.size, 0, none⟩ = some (.slice (some ⟨b, o, none⟩) s.os.length c) ∧ w'.cell? ⟨w.heap.size, 1, none⟩ = some (.slice a' s.es.length c') ∧ w'.cell? ⟨b, o + i * 2, none⟩ = some (.string ⟨x.n.toArray⟩) ∧ w'.cell? ⟨b, o + i * 2 + 1, none⟩ = some (.slice (some ⟨b1, o1, none⟩) x.fs.length c1) ∧ w'.cell? ⟨wr.heap.size, 0, none⟩ = some (.string ⟨fn.toArray⟩) ∧ w'.cell? ⟨wr.heap.size, 1, none⟩ = some (.string ⟨ft.toArray⟩) ∧ w'.cell? ⟨wr.heap.size, 2, none⟩ = some (.string ⟨fw.toArray⟩) ∧ w'.cell? ⟨wr.heap.size, 3, none⟩ = some (.bool fs) ∧ w'.cell? ⟨wr.heap.size, 4, none⟩ = some (.string ⟨fi.toArray⟩)) (first | with_reducible exact S22 Y1 | with_reducible exact S22 RD) ((first
                        | (go_at_call 39; (with_reducible refine (BK RD).mono ?_); rintro e y1 ⟨rfl, d1⟩; have Y1 := RD.trans (d1.mono RD.size); clear d1)
                        | fail))
                      go_wp2
                      refine ⟨⟨95, k + 1, by simp, by simp, HKL.out, Or.inr ⟨rfl, HN2.out⟩, (D6.trans (Y1.mono D6.size))⟩, ?_⟩
                      have := HKL.out
                      simp [RowKit.intOf]
                      omega
                  · have l2 : decide (((k : Nat) : Int) < (x.fs.length : Int)) = false := by simp; omega
                    have l3 : decide (k < x.fs.length) = false := by simp; omega
                    have HN2 : Hid ((ei = 0 ∧ ∀ (q : Nat) z, q < i + 1 → s.os[q]? = some z → ∀ f ∈ z.fs, docB s z f = true) ∨ (ei = 95 ∧ ¬ (∀ (q : Nat) z, q < i + 1 → s.os[q]? = some z → ∀ f ∈ z.fs, docB s z f = true))) := by
                      rcases hei with ⟨q1, q2, q3⟩ | ⟨q1, q2⟩
                      · refine Or.inl ⟨q1, fun q z hq hz g hg => ?_⟩
                        by_cases e : q = i
                        · subst e
                          rw [HX.out] at hz
                          cases hz
                          obtain ⟨m, hm⟩ := List.mem_iff_getElem?.1 hg
                          exact q3 m g (by have := (List.getElem?_eq_some_iff.1 hm).1; omega) hm
                        · exact q2 q z (by omega) hz g hg
                      · exact Or.inr ⟨q1, fun q3 => q2 ⟨fun q z hq hz => q3 q z (by omega) hz, fun q g hq hg => q3 i x (by omega) HX.out g (List.mem_of_getElem? hg)⟩⟩
                    clear hkl hei hk HST
                    go_wp2
                    refine ⟨⟨ei, i + 1, by simp, by simp, HI.out, HN2.out, hbk⟩, ?_⟩
                    have := HI.out
                    simp [RowKit.intOf]
                    omega
              · have l2 : decide (((i : Nat) : Int) < (s.os.length : Int)) = false := by simp; omega
                have l3 : decide (i < s.os.length) = false := by simp; omega
                rcases hei with ⟨rfl, hall⟩ | ⟨rfl, hnot⟩
                · have HA6 : Hid (∀ x ∈ s.os, ∀ f ∈ x.fs, docB s x f = true) := by
                    intro z hz f hf
                    obtain ⟨q, hq⟩ := List.mem_iff_getElem?.1 hz
                    exact hall q z (by have := (List.getElem?_eq_some_iff.1 hq).1; omega) hq f hf
                  clear hlt hall hi
                  go_wp2
                  refine ⟨⟨7, by simp, by simp, Or.inr (Or.inr (Or.inr ⟨rfl, HA4.out, HA5.out, HA6.out⟩)), hbr⟩, ?_⟩
                  simp [RowKit.intOf]
                · have HP : Hid (chkS s = 95) := by
                    show _ = _
                    refine kchk95 HC.out HA4.out HA5.out ?_
                    intro hall
                    exact hnot fun q z _ hz f hf => hall z (List.mem_of_getElem? hz) f hf
                  clear hlt hnot hi
                  go_wp2
                  go_ret
                  exact ⟨by rw [HP.out]; rfl, HZ hbr⟩
          · have HP : Hid (chkS s = 0) := kchk0 HC.out h4 h5 h6
            clear h4 h5 h6
            go_wp2
            go_ret
            exact ⟨by rw [HP.out]; rfl, HZ hbR⟩
end
end Go.Proofs.YtfkgmgnoijokdaaGreatDoor
namespace Go.Proofs.YtfkgmgnoijokdaaGreatDoor
open Go Go.RowKit Go.Shelf
section
variable {w : World} {ov ev : Value} {s : Sch}
set_option maxRecDepth 100000 in
set_option maxHeartbeats 8000000 in
theorem checks_any (h : SchAt w ov ev s) (gl : Gl w) : Calls Tryz.prog 3 #[.agg #[ov, ev]] w fun e w' => e = .returned (.bool true) ∧ Below w.heap.size w w' := by
  have hh := h
  obtain ⟨a, c, rfl, _, _⟩ := h.os.slice
  obtain ⟨a', c', rfl, _, _⟩ := h.es.slice
  obtain ⟨w0, hw0⟩ : ∃ w0, w0 = w.alloc (.cells #[.slice a s.os.length c, .slice a' s.es.length c'] 25) := ⟨_, rfl⟩
  have A0 : Below w.heap.size w w0 := by rw [hw0]; exact al1 w _
  have HZ : ∀ {W : World}, Below w0.heap.size w0 W → Below w.heap.size w W := fun b => A0.trans (b.mono A0.size)
  have HS : ∀ {W : World}, Below w0.heap.size w0 W → SchAt W (.slice a s.os.length c) (.slice a' s.es.length c') s := fun b => hh.on (HZ b)
  obtain ⟨r0, r1, _⟩ := row2 (show w0.heap[w.heap.size]? = some (.cells #[.slice a s.os.length c, .slice a' s.es.length c'] 25) by rw [hw0]; exact heap_alloc_new w _)
  have FX := fun {W : World} (b : Below w0.heap.size w0 W) => lfixed_any W (gl.below (HZ b) (Nat.le_refl _))
  have C1 := fun {W : World} (b : Below w0.heap.size w0 W) => hcheck_any (HS b) (gl.below (HZ b) (Nat.le_refl _))
  have C2 := fun {W : World} (b : Below w0.heap.size w0 W) => icheck_any (HS b)
  have S2 : ∀ {W : World}, Below w0.heap.size w0 W → (fun w' => w'.cell? ⟨w.heap.size, 0, none⟩ = some (.slice a s.os.length c) ∧ w'.cell? ⟨w.heap.size, 1, none⟩ = some (.slice a' s.es.length c')) W := fun b => ⟨cell_on b r0, cell_on b r1⟩
  have D0 : Below w0.heap.size w0 w0.drew := ⟨rfl, rfl, rfl, Nat.le_refl _, fun _ _ => rfl⟩
  generalize chkS s = k1 at *
  go_enter Tryz.func3, Tryz.ntmps3
  go_wp2
  rw [← hw0]
  clear hw0
  go_region_held3 (fun w' => w'.cell? ⟨w.heap.size, 0, none⟩ = some (.slice a s.os.length c) ∧ w'.cell? ⟨w.heap.size, 1, none⟩ = some (.slice a' s.es.length c')) (first | with_reducible exact S2 D3 | with_reducible exact S2 D2 | with_reducible exact S2 D1 | with_reducible exact S2 D0) ((first
    | (go_at_call 11; (with_reducible refine (C2 D2).mono ?_); rintro e x3 ⟨rfl, b3⟩; have D3 := D2.trans (b3.mono D2.size); clear b3)
    | (go_at_call 10; (with_reducible refine (C1 D1).mono ?_); rintro e x2 ⟨rfl, b2⟩; have D2 := D1.trans (b2.mono D1.size); clear b2)
    | (go_at_call 9; (with_reducible refine (FX D0).mono ?_); rintro e x1 ⟨rfl, b1⟩; have D1 := D0.trans (b1.mono D0.size); clear b1)
    | fail))
  go_wp2
  go_ret
  exact ⟨rfl, HZ D3⟩
end
end Go.Proofs.YtfkgmgnoijokdaaGreatDoor
namespace Go.Proofs.YtfkgmgnoijokdaaGreatDoor
open Go Go.RowKit Go.ChangeShapes Go.WideShapes Go.Deep
/-- Nothing within it is beyond the form's reach. -/
def Wt {H : Type} (t : TypeId) (d : DataW H) : Prop := ∀ n ∈ d.weights Tryz.prog t, n ≤ reachBytes
theorem mem_weightsAll {H : Type} {e : TypeId} {d : DataW H} {n : Nat} (hn : n ∈ d.weights Tryz.prog e) : ∀ {l : List (DataW H)}, d ∈ l → n ∈ DataW.weightsAll Tryz.prog e l
  | x :: r, h => by
    simp only [DataW.weightsAll, List.mem_append]
    rcases List.mem_cons.1 h with rfl | h
    · exact Or.inl hn
    · exact Or.inr (mem_weightsAll hn h)
theorem Wt.elem {H : Type} {t e : TypeId} {el sp : List (DataW H)} (ht : Tryz.prog.underlying t = some (.slice e)) (h : Wt t (.slice el sp)) {d : DataW H} (hd : d ∈ el) : Wt e d := by
  intro n hn
  refine h n ?_
  simp only [DataW.weights, ht, List.mem_cons, List.mem_append]
  exact Or.inr (Or.inl (mem_weightsAll hn hd))
theorem Wt.len {H : Type} {t e : TypeId} {el sp : List (DataW H)} (ht : Tryz.prog.underlying t = some (.slice e)) (h : Wt t (.slice el sp)) (hb : 1 ≤ Tryz.prog.bytesOf e) : el.length ≤ 140737488355328 := by
  have h1 := h ((el.length + sp.length) * Tryz.prog.bytesOf e) (by simp only [DataW.weights, ht, List.mem_cons, true_or])
  have h2 := reachBytes_lt
  have h3 : el.length + sp.length ≤ (el.length + sp.length) * Tryz.prog.bytesOf e := Nat.le_mul_of_pos_right _ hb
  omega
theorem Wt.part {H : Type} {t : TypeId} {fs : Array Field} {parts : List (DataW H)} (ht : Tryz.prog.underlying t = some (.struct fs)) (h : Wt t (.agg parts)) {j : Nat} {u : TypeId} {d : DataW H} (hu : (fs.toList.map (·.type))[j]? = some u) (hd : parts[j]? = some d) : Wt u d := by
  intro n hn
  refine h n ?_
  simp only [DataW.weights, ht]
  exact DataW.weights_mem_each hu hd n hn
section
variable {H : Type} {enc : TypeId × Value → H} {w : World} {base : Nat} {spare : Nat → Bool} {held : Bool}
theorem open_sl {α : Type} {sz : Nat} {t e : TypeId} {p : α → Nat → Nat → Prop} (ht : Tryz.prog.underlying t = some (.slice e)) (hsz : Tryz.prog.cellsOf e = sz) (hs1 : 0 < sz) (hb : 1 ≤ Tryz.prog.bytesOf e) {fuel : Nat} {cs : List Value} {x : DataW H × List MemPlace} (h : DataW.trod enc Tryz.prog w base spare held fuel t cs = some x) (hw : Wt t x.1)
    (each : ∀ (fuel : Nat) (cs : List Value) (y : DataW H × List MemPlace) (b o : Nat), DataW.trod enc Tryz.prog w base spare held fuel e cs = some y → Wt e y.1 → cs.length = sz → (∀ j u, cs[j]? = some u → w.cell? ⟨b, o + j, none⟩ = some u) → ∃ a : α, p a b o) :
    ∃ (v : Value) (l : List α), cs = [v] ∧ Sl w v l.length sz (fun i b o => ∀ a, l[i]? = some a → p a b o) := by
  rcases open_slice ht h with ⟨hcs, _⟩ | ⟨ad, len, cap, m, n, D, Pl, hcs, _, hl, hm, hmm, rfl, hx⟩
  · exact ⟨_, [], hcs, _, 0, rfl, Nat.le_refl _, by simp, fun h => absurd h (by simp)⟩
  · have hlm : len ≤ m := by rw [hmm]; split <;> omega
    rw [hsz] at hx
    have hlen47 : len ≤ 140737488355328 := by
      have := hw.len ht hb
      simpa using this
    by_cases h0 : len = 0
    · subst h0
      exact ⟨_, [], hcs, some ad, cap, rfl, by simp, by simp, fun h => absurd h (by simp)⟩
    · obtain ⟨b, o, sp⟩ := ad
      have cell : ∀ i, i < len → ∃ cs', DataW.trod enc Tryz.prog w base spare held n e cs' = some (D i, Pl i) ∧ cs'.length = sz ∧ ∀ j, j < sz → w.cell? ((⟨b, o, sp⟩ : Addr).add (i * sz + j)) = cs'[j]? := by
        intro i hi
        obtain ⟨cs', h1, h2⟩ := hx i (by omega)
        obtain ⟨_, hlen, hcell⟩ := World.cells?_some h1
        refine ⟨cs', h2, hlen, fun j hj => ?_⟩
        have := hcell j hj
        rw [add_add] at this
        exact this
      obtain ⟨cs0, _, hl0, hc0⟩ := cell 0 (by omega)
      obtain ⟨u0, hu0⟩ : ∃ u, cs0[0]? = some u := ⟨_, List.getElem?_eq_getElem (by omega)⟩
      have hc00 := (hc0 0 hs1).trans hu0
      have hsp : sp = none := by simpa [Addr.add] using World.cell?_spot hc00
      subst hsp
      have hbl : b < w.heap.size := by
        have := World.block_lt_of_cell? w _ hc00
        simpa [Addr.add] using this
      have each' : ∀ i, i < len → ∃ a : α, p a b (o + i * sz) := by
        intro i hi
        obtain ⟨cs', h1, h2, h3⟩ := cell i hi
        refine each n cs' _ b (o + i * sz) h1 (hw.elem ht (List.mem_map.2 ⟨i, List.mem_range.2 hi, rfl⟩)) h2 fun j u hj => ?_
        have hjs : j < sz := by
          have := (List.getElem?_eq_some_iff.1 hj).1
          omega
        have h4 := (h3 j hjs).trans hj
        have e4 : (⟨b, o, none⟩ : Addr).add (i * sz + j) = ⟨b, o + i * sz + j, none⟩ := by simp [Addr.add, Nat.add_assoc]
        rw [e4] at h4
        exact h4
      obtain ⟨a0, _⟩ := each' 0 (by omega)
      haveI : Inhabited α := ⟨a0⟩
      obtain ⟨f, hf⟩ := choose_lt each'
      refine ⟨_, (List.range len).map f, hcs, some ⟨b, o, none⟩, cap, by simp, by simpa using hl, by simpa using hlen47, fun _ => ⟨b, o, rfl, hbl, fun i hi a ha => ?_⟩⟩
      have hi : i < len := by simpa using hi
      have hpf : a = f i := by
        simp [hi] at ha
        exact ha.symm
      subst hpf
      exact hf i hi
theorem Tryz.cStr : Tryz.prog.cellsOf 9 = 1 := by kernel_rfl
theorem Tryz.cFld : Tryz.prog.cellsOf 33 = 5 := by kernel_rfl
theorem Tryz.cRef : Tryz.prog.cellsOf 31 = 2 := by kernel_rfl
theorem Tryz.cBool : Tryz.prog.cellsOf 4 = 1 := by kernel_rfl
theorem Tryz.cOb : Tryz.prog.cellsOf 41 = 2 := by kernel_rfl
theorem Tryz.cEn : Tryz.prog.cellsOf 45 = 2 := by kernel_rfl
theorem Tryz.cSch : Tryz.prog.cellsOf 25 = 2 := by kernel_rfl
theorem Tryz.cFs : Tryz.prog.cellsOf 39 = 1 := by kernel_rfl
theorem Tryz.cWs : Tryz.prog.cellsOf 43 = 1 := by kernel_rfl
theorem Tryz.cOs : Tryz.prog.cellsOf 22 = 1 := by kernel_rfl
theorem Tryz.cEs : Tryz.prog.cellsOf 23 = 1 := by kernel_rfl
theorem open_str {fuel : Nat} {cs : List Value} {x : DataW H × List MemPlace} (h : DataW.trod enc Tryz.prog w base spare held fuel 9 cs = some x) : ∃ b : Bs, cs = [.string ⟨b.toArray⟩] := by
  obtain ⟨t, e, _, _⟩ := DataW.trod_string Tryz.underlying9 h
  exact ⟨t.data.toList, by rw [e]⟩
set_option maxRecDepth 100000 in
theorem open_fld {fuel : Nat} {cs : List Value} {x : DataW H × List MemPlace} (h : DataW.trod enc Tryz.prog w base spare held fuel 33 cs = some x) :
    ∃ f : Fld, cs = [.string ⟨f.n.toArray⟩, .string ⟨f.t.toArray⟩, .string ⟨f.w.toArray⟩, .bool f.s, .string ⟨f.i.toArray⟩] := by
  obtain ⟨xs, n, _, _, hl, hxl, hf⟩ := DataW.trod_struct Tryz.underlying33 h
  rw [Tryz.cFld] at hl
  match xs, hxl, cs, hl with
  | [y0, y1, y2, y3], _, [v0, v1, v2, v3, v4], _ =>
    have g0 := hf 0 _ rfl
    have g1 := hf 1 _ rfl
    have g2 := hf 2 _ rfl
    have g3 := hf 3 _ rfl
    simp [Tryz.cStr, Tryz.cRef, Tryz.cBool] at g0 g1 g2 g3
    obtain ⟨a0, e0⟩ := open_str g0
    obtain ⟨ys, m, _, _, _, hyl, hg⟩ := DataW.trod_struct Tryz.underlying31 g1
    match ys, hyl with
    | [z0, z1], _ =>
      have q0 := hg 0 _ rfl
      have q1 := hg 1 _ rfl
      simp [Tryz.cStr] at q0 q1
      obtain ⟨a1, e1⟩ := open_str q0
      obtain ⟨a2, e2⟩ := open_str q1
      obtain ⟨a3, e3, _, _⟩ := DataW.trod_bool Tryz.underlying4 g2
      obtain ⟨a4, e4⟩ := open_str g3
      simp at e0 e1 e2 e3 e4
      exact ⟨⟨a0, a1, a2, a3, a4⟩, by rw [e0, e1, e2, e3, e4]⟩
theorem open_wds {fuel : Nat} {cs : List Value} {x : DataW H × List MemPlace} (h : DataW.trod enc Tryz.prog w base spare held fuel 43 cs = some x) (hw : Wt 43 x.1) : ∃ (v : Value) (ws : List Bs), cs = [v] ∧ WdsAt w v ws :=
  open_sl Tryz.underlying43 Tryz.cStr (by decide) (of_decide_eq_true (by kernel_rfl)) h hw fun fuel cs y b o hy _ _ hc => by
    obtain ⟨a, rfl⟩ := open_str hy
    exact ⟨a, hc 0 _ rfl⟩
theorem open_flds {fuel : Nat} {cs : List Value} {x : DataW H × List MemPlace} (h : DataW.trod enc Tryz.prog w base spare held fuel 39 cs = some x) (hw : Wt 39 x.1) : ∃ (v : Value) (fs : List Fld), cs = [v] ∧ FldsAt w v fs :=
  open_sl Tryz.underlying39 Tryz.cFld (by decide) (of_decide_eq_true (by kernel_rfl)) h hw fun fuel cs y b o hy _ _ hc => by
    obtain ⟨f, rfl⟩ := open_fld hy
    exact ⟨f, hc 0 _ rfl, hc 1 _ rfl, hc 2 _ rfl, hc 3 _ rfl, hc 4 _ rfl⟩
set_option maxRecDepth 100000 in
theorem open_ob {fuel : Nat} {cs : List Value} {x : DataW H × List MemPlace} (h : DataW.trod enc Tryz.prog w base spare held fuel 41 cs = some x) (hw : Wt 41 x.1) :
    ∃ (o : Ob) (fv : Value), cs = [.string ⟨o.n.toArray⟩, fv] ∧ FldsAt w fv o.fs := by
  obtain ⟨xs, n, _, rfl, hl, hxl, hf⟩ := DataW.trod_struct Tryz.underlying41 h
  rw [Tryz.cOb] at hl
  match xs, hxl, cs, hl with
  | [y0, y1], _, [v0, v1], _ =>
    have g0 := hf 0 _ rfl
    have g1 := hf 1 _ rfl
    simp [Tryz.cStr, Tryz.cFs] at g0 g1
    obtain ⟨a0, e0⟩ := open_str g0
    obtain ⟨fv, fs, e1, hfs⟩ := open_flds g1 (hw.part Tryz.underlying41 (j := 1) rfl rfl)
    simp at e0 e1
    exact ⟨⟨a0, fs⟩, fv, by rw [e0, e1], hfs⟩
set_option maxRecDepth 100000 in
theorem open_en {fuel : Nat} {cs : List Value} {x : DataW H × List MemPlace} (h : DataW.trod enc Tryz.prog w base spare held fuel 45 cs = some x) (hw : Wt 45 x.1) :
    ∃ (o : En) (fv : Value), cs = [.string ⟨o.n.toArray⟩, fv] ∧ WdsAt w fv o.ws := by
  obtain ⟨xs, n, _, rfl, hl, hxl, hf⟩ := DataW.trod_struct Tryz.underlying45 h
  rw [Tryz.cEn] at hl
  match xs, hxl, cs, hl with
  | [y0, y1], _, [v0, v1], _ =>
    have g0 := hf 0 _ rfl
    have g1 := hf 1 _ rfl
    simp [Tryz.cStr, Tryz.cWs] at g0 g1
    obtain ⟨a0, e0⟩ := open_str g0
    obtain ⟨fv, fs, e1, hfs⟩ := open_wds g1 (hw.part Tryz.underlying45 (j := 1) rfl rfl)
    simp at e0 e1
    exact ⟨⟨a0, fs⟩, fv, by rw [e0, e1], hfs⟩
theorem open_obs {fuel : Nat} {cs : List Value} {x : DataW H × List MemPlace} (h : DataW.trod enc Tryz.prog w base spare held fuel 22 cs = some x) (hw : Wt 22 x.1) : ∃ (v : Value) (fs : List Ob), cs = [v] ∧ ObsAt w v fs :=
  open_sl Tryz.underlying22 Tryz.cOb (by decide) (of_decide_eq_true (by kernel_rfl)) h hw fun fuel cs y b o hy hwy _ hc => by
    obtain ⟨f, fv, rfl, hfs⟩ := open_ob hy hwy
    exact ⟨f, hc 0 _ rfl, fv, hc 1 _ rfl, hfs⟩
theorem open_ens {fuel : Nat} {cs : List Value} {x : DataW H × List MemPlace} (h : DataW.trod enc Tryz.prog w base spare held fuel 23 cs = some x) (hw : Wt 23 x.1) : ∃ (v : Value) (fs : List En), cs = [v] ∧ EnsAt w v fs :=
  open_sl Tryz.underlying23 Tryz.cEn (by decide) (of_decide_eq_true (by kernel_rfl)) h hw fun fuel cs y b o hy hwy _ hc => by
    obtain ⟨f, fv, rfl, hfs⟩ := open_en hy hwy
    exact ⟨f, hc 0 _ rfl, fv, hc 1 _ rfl, hfs⟩
set_option maxRecDepth 100000 in
theorem open_sch {fuel : Nat} {cs : List Value} {x : DataW H × List MemPlace} (h : DataW.trod enc Tryz.prog w base spare held fuel 25 cs = some x) (hw : Wt 25 x.1) :
    ∃ (s : Sch) (ov ev : Value), cs = [ov, ev] ∧ SchAt w ov ev s := by
  obtain ⟨xs, n, _, rfl, hl, hxl, hf⟩ := DataW.trod_struct Tryz.underlying25 h
  rw [Tryz.cSch] at hl
  match xs, hxl, cs, hl with
  | [y0, y1], _, [v0, v1], _ =>
    have g0 := hf 0 _ rfl
    have g1 := hf 1 _ rfl
    simp [Tryz.cOs, Tryz.cEs] at g0 g1
    obtain ⟨ov, os, e0, h0⟩ := open_obs g0 (hw.part Tryz.underlying25 (j := 0) rfl rfl)
    obtain ⟨ev, es, e1, h1⟩ := open_ens g1 (hw.part Tryz.underlying25 (j := 1) rfl rfl)
    simp at e0 e1
    exact ⟨⟨os, es⟩, ov, ev, by rw [e0, e1], h0, h1⟩
end
end Go.Proofs.YtfkgmgnoijokdaaGreatDoor
namespace Go.Proofs.YtfkgmgnoijokdaaGreatDoor
open Go Go.RowKit Go.Lib

def listed : List (String × DataW Unit) := Rows.schemaChecksRow.laid
theorem at_var {w : World} {n : String} {d : DataW Unit} {g t : Nat} (h : VarReads Tryz.prog w n d) (hg : Tryz.prog.globalNamed n = some g) (ht : (Tryz.prog.globals[g]?).map (·.type) = some t) :
    ∃ (cs : Array Value) (fuel : Nat) (p : List MemPlace), w.var? Tryz.prog n = some cs ∧ DataW.trod (fun _ => ()) Tryz.prog w 0 (fun _ => true) false fuel t cs.toList = some (d, p) ∧ ∀ i, w.cell? ⟨g, i, none⟩ = cs.toList[i]? := by
  obtain ⟨g', t', cs, fuel, p, hg', ht', hv, hd⟩ := h
  obtain rfl := Option.some.inj (hg.symm.trans hg')
  obtain rfl := Option.some.inj (ht.symm.trans ht')
  exact ⟨cs, fuel, p, hv, hd, fun i => by rw [World.var?_cell hg hv i, Array.getElem?_toList]⟩
theorem es_laid {w : World} (h : VarReads Tryz.prog w "strconv.ErrSyntax" Rows.laid_strconv_ErrSyntax) : ∃ te pe, w.cell? ⟨3, 0, none⟩ = some (.iface te pe) := by
  obtain ⟨cs, fuel, p, _, hd, hc⟩ := at_var h (g := 3) (t := 140) (by kernel_rfl) (by kernel_rfl)
  cases fuel with
  | zero => simp [DataW.trod] at hd
  | succ n =>
    have hu := Tryz.underlying140
    simp only [DataW.trod, hu, Rows.laid_strconv_ErrSyntax] at hd
    rw [hc]
    split at hd
    all_goals simp_all
theorem max_of {W : World} (h : W.ShapedOpen Tryz.prog) : ∃ m, W.cell? ⟨gM, 0, none⟩ = some (.int .i64 m) :=
  cell_of_shapedOpen_int h (g := 0) (t := 3) (zero := #[.int .i64 0]) (of_decide_eq_true (by kernel_rfl)) (by kernel_rfl) rfl (by kernel_rfl) (by kernel_rfl) Tryz.underlying3
theorem gl_laid {W : World} (hL : laidMet Tryz.prog listed W) (hs : W.ShapedOpen Tryz.prog) : Gl W := by
  obtain ⟨te, pe, he⟩ := es_laid (laidMet.reads hL (.tail _ (.tail _ (.tail _ (.tail _ (.tail _ (.head _)))))))
  exact ⟨max_of hs, ⟨_, he, Or.inr ⟨te, pe, rfl⟩⟩⟩
end Go.Proofs.YtfkgmgnoijokdaaGreatDoor
namespace Go.Proofs.YtfkgmgnoijokdaaGreatDoor
open Go.ChangeShapes Go.WideShapes Go.ChangeAt Go.RowKit
open Go.ChangeMaps (open_string shut_string)

theorem Tryz.own : ownKnob Tryz.prog.godebug = none := by kernel_rfl
theorem Tryz.laidOut : laidOutB Tryz.prog = true := by kernel_rfl

/-- The road from the contract to the row where the contract is handed both what is listed and the world's shape. -/
theorem lifted_by {H : Type} {enc : TypeId × Value → H} {C : Checked} {os : Os} {f : FuncId} {fn : Func} {s : ChangeSpec} {conds : List PathCond} {apart fresh handsOn again : Bool} {X : World → Array Value → Prop}
    (hX : ∀ (w w' : World) (args : Array Value), w.heap = w'.heap → X w args → X w' args)
    (own : ownKnob C.prog.godebug = none) (started : os.Started) (noInit : C.prog.inits.idxOf? f = none) (hfn : C.prog.funcs[f]? = some fn)
    (witness : ∃ (w : World) (tape : Tape) (i : Input), w.os = os ∧ (w.forCall tape i).Shaped C.prog ∧ i.vars = [] ∧ Input.okWide C.prog (w.forCall tape i) .any w.heap.size f i ∧
      ((s.pre enc C.prog fn conds apart (w.forCall tape i).memory i.args ∧ X (w.forCall tape i).memory i.args) ∧ sizedMet enc C.prog fn (OpenSpec.ofChange s) apart (w.forCall tape i).memory i.args) ∧ ({} : Assume).holds C.prog (lone (Frame.enter C.prog f i.args .normal) [] (w.forCall tape i)))
    (contract : ∀ (W : World) (base : Nat) (args : Array Value) (ds gs : List (DataW H)) (before : List MemPlace),
      (∀ (j : Nat) t v, fn.params[j]? = some t → args[j]? = some v → Value.okWide C.prog W .any base t v) →
      DataW.Whole enc C.prog fn.params.toList s.vars apart W args.toList ds gs before →
      (DataW.weightsEach C.prog (fn.params.toList ++ s.plain.varTypes C.prog) (ds ++ gs)).all (· ≤ reachBytes) = true → W.ShapedOpen C.prog → X W args →
      Calls C.prog f args W fun e W' => ∃ v, e = .returned v ∧ s.post enc C.prog fn apart fresh handsOn again W args v W') :
    ReturnsInHanded {} C os f .any (fun w args => (s.pre enc C.prog fn conds apart w args ∧ X w args) ∧ sizedMet enc C.prog fn (OpenSpec.ofChange s) apart w args) (s.post enc C.prog fn apart fresh handsOn again) := by
  refine returnsInHanded_of_calls own started noInit witness ?_
  intro w tape i _ hsh _ hok hpre _
  obtain ⟨_, _, _, fn', hfn', _, _, _, _, hval⟩ := hok
  obtain rfl : fn' = fn := Option.some.inj (hfn'.symm.trans hfn)
  obtain ⟨⟨⟨ds, gs, before, hw, _⟩, hx⟩, hz⟩ := hpre
  refine (contract (w.forCall tape i) w.heap.size i.args ds gs before hval (DataW.Whole.of_heap (w' := w.forCall tape i) (by rfl) hw) (hz.weights hw) hsh (hX _ _ _ (by rfl) hx)).mono fun e W' ⟨v, he, hp⟩ => ?_
  subst he
  exact ChangeSpec.post_blind hp

set_option maxRecDepth 100000 in
theorem schemaChecks_lifted (os : Os) (started : os.Started) (H : Type) (enc : TypeId × Value → H) :
    ReturnsInHanded {} Tryz.checked os 3 .any (fun w args => (Rows.schemaChecksSpec.pre enc Tryz.prog Tryz.f3 Rows.schemaChecksRow.domain false w args ∧ laidMetH Tryz.prog listed w) ∧ sizedMet enc Tryz.prog Tryz.f3 (OpenSpec.ofChange Rows.schemaChecksSpec) false w args)
      (Rows.schemaChecksSpec.post enc Tryz.prog Tryz.f3 false true false false) := by
  refine lifted_by (C := Tryz.checked) (X := fun w _ => laidMetH Tryz.prog listed w) (fun _ _ _ hh h => h.of_heap hh) Tryz.own started (by kernel_rfl) Tryz.func3
    (ChangeSpec.witness_shaped (enc := enc) (C := Tryz.checked) (os := os) (X := fun w _ => laidMetH Tryz.prog listed w) false (World.laidAll Tryz.prog os listed) #[.agg #[.slice none 0 0, .slice none 0 0]] 8 (World.laidAll_os _ _ _)
      (World.shaped_of_ZipB (by kernel_rfl) (by kernel_rfl)) (by kernel_rfl) (by kernel_rfl) (by kernel_rfl)
      (by rw [MakeChecks.laidMetH_plain _ _ _ (by kernel_rfl)]; exact laidMet_laidAll _ (by kernel_rfl) (by kernel_rfl))) ?_
  intro W base args ds gs before hval0 hW hsz hsh hL
  have hval : ∀ (j : Nat) t v, Tryz.f3.params[j]? = some t → args[j]? = some v → Value.okWide Tryz.prog W .any base t v := hval0
  have hW' := hW
  obtain ⟨p, q, hA0, hV, rfl, hfz, hnd⟩ := hW
  have hA : DataW.TrodAll enc Tryz.prog W 0 (fun _ => true) true Tryz.f3.params.toList args.toList ds p := hA0
  rw [Tryz.params3] at hA hval
  obtain ⟨v0, vs0, d0, ds0, p0, q0, hargs, rfl, rfl, h0, r0⟩ := trodAll_cons hA
  obtain ⟨rfl, rfl, rfl⟩ := trodAll_nil r0
  obtain rfl : args = #[v0] := by cases args; simp_all
  obtain ⟨rfl, rfl⟩ := trodVars_none hV
  obtain ⟨c0, rfl, _⟩ := okWide_struct Tryz.underlying25 (hval 0 25 v0 rfl rfl)
  have k0 := h0
  have lt0 : ∀ x ∈ p0, x.block < W.heap.size := by obtain ⟨m, hm⟩ := k0; exact DataW.trod_lt m _ _ _ hm
  have wt0 : Wt 25 d0 := fun n hn => by
    have := List.all_eq_true.1 hsz n (DataW.weights_mem_each (j := 0) rfl rfl n hn)
    simpa using this
  obtain ⟨s0, ov0, ev0, hc0, hS0⟩ : ∃ (s : Sch) (ov ev : Value), (Value.agg c0).cells.toList = [ov, ev] ∧ SchAt W ov ev s := by
    obtain ⟨fuel, hf⟩ := h0
    exact open_sch hf wt0
  obtain rfl : c0 = #[ov0, ev0] := Array.toList_inj.1 hc0
  have hL2 : laidMetH Tryz.prog listed W := hL
  rw [MakeChecks.laidMetH_plain _ _ _ (by kernel_rfl)] at hL2
  have gl := gl_laid hL2 hsh
  clear hA0 hval0 hL hL2 hsz
  have wk := checks_any hS0 gl
  refine wk.mono fun e W' ⟨he, bel⟩ => ?_
  subst he
  exact ⟨_, rfl, _, _, _, [], _, [], hW', trodAll_mk1 (shut_bool Tryz.underlying4 _), (trodAll_cons_mk (Below.trod Tryz.laidOut (by kernel_rfl) (of_decide_eq_true (by kernel_rfl)) k0 bel lt0) trodAll_mk0), rfl, bel.frame _, fun h => by cases h⟩

theorem schemaChecks_row : Rows.SchemaChecksSaid :=
  OpenClaim.holds_of_wide 3 Tryz.f3 rfl rfl rfl rfl rfl rfl rfl ⟨rfl, rfl, rfl, rfl, rfl⟩ rfl rfl rfl rfl rfl (by kernel_rfl) Tryz.func3 (by kernel_rfl)
    (of_decide_eq_true (by kernel_rfl)) (by unfold Func.isWrapper; first | (rw [if_pos (by decide +kernel)]; kernel_rfl) | (rw [if_neg (by decide +kernel)]; exact ⟨rfl, rfl⟩))
    (fun os started H enc _ => schemaChecks_lifted os started H enc)

theorem schemaChecks_holds : Rows.SchemaChecksCardSaid :=
  Claim7.holds_tied_plain_at .later [] _ _ _ _ schemaChecks_row (fun _ h => by cases h) (by kernel_rfl) (fun _ h => by cases h) schemaChecks_row_tie rfl ⟨rfl, rfl⟩ (by kernel_rfl) rfl
    (fun f fn hf hfn => by
      obtain rfl : f = 3 := Option.some.inj ((show Tryz.prog.funcNamed "rhizome/rhizomelaw09.SchemaChecks" = some 3 by kernel_rfl).symm.trans hf) |>.symm
      obtain rfl : fn = Tryz.f3 := (Option.some.inj (Tryz.func3.symm.trans hfn)).symm
      exact ⟨by kernel_rfl, fun j t ht => by
        rw [Tryz.params3] at ht
        have hm : t ∈ [25] := by simpa using Array.mem_of_getElem? ht
        have hall : ([25].all fun u => !Tryz.prog.wantsStandIn u) = true := by kernel_rfl
        exact (show Tryz.prog.wantsStandIn t = false by simpa using List.all_eq_true.1 hall t hm)⟩)
    (by kernel_rfl)
#print axioms schemaChecks_holds
end Go.Proofs.YtfkgmgnoijokdaaGreatDoor
