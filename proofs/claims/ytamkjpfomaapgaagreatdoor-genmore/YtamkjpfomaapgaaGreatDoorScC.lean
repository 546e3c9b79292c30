/- Schemas: the place of a name in a list. -/
import Derived.Test.YtamkjpfomaapgaaGreatDoorScB
namespace Go.Proofs.YtamkjpfomaapgaaGreatDoor
open Go Go.RowKit Go.Shelf
theorem Tryz.makeFn (fn : Fn) (first cap : Array Value) (w : World) : (Instr.makeFunc fn first cap).run Tryz.prog w = .ok (.func fn first cap) w := rfl
set_option maxRecDepth 100000 in
set_option maxHeartbeats 2000000 in
theorem idx_Object {os : List Ob} {v : Value} (y : Bs) (P0 P1 : Nat) (w : World) (h : ObsAt w v os) (h0 : w.cell? ⟨P0, 0, none⟩ = some (.func (.func 86) #[] #[])) (h1 : w.cell? ⟨P1, 0, none⟩ = some (.string ⟨y.toArray⟩)) :
    Calls Tryz.prog 124 #[v, .func (.func 125) #[] #[.pointer (some ⟨P0, 0, none⟩), .pointer (some ⟨P1, 0, none⟩)]] w fun e w' => e = .returned (.int .i64 (plB y (os.map (·.n)))) ∧ Below w.heap.size w w' := by
  obtain ⟨a0, cap, rfl, hc, hn, hr⟩ := h
  go_enter Tryz.func124, Tryz.ntmps124
  go_wp2
  go_loopw [8] (fun i wr => ∃ j : Nat, i = .int .i64 (j : Int) ∧ j ≤ os.length ∧ (∀ (q : Nat) z, q < j → (os.map (·.n))[q]? = some z → (z == y) = false) ∧ Below w.heap.size w wr) (fun i _ => os.length - (RowKit.intOf i).toNat)
  case atStart => exact ⟨0, rfl, Nat.zero_le _, fun q z hq => absurd hq (Nat.not_lt_zero _), Below.refl _ _⟩
  case round =>
    obtain ⟨j, rfl, hj, hno, hbr⟩ := hrel
    by_cases hlt : j < os.length
    · obtain ⟨b, o, rfl, hbl, hH⟩ := hr (by omega)
      obtain ⟨x, hx⟩ : ∃ x, os[j]? = some x := ⟨_, List.getElem?_eq_getElem hlt⟩
      obtain ⟨e0, fv, e1, a1, c1, rfl, _⟩ := hH j hlt x hx
      have f0 := cell_on hbr e0
      have f1 := cell_on hbr e1
      have g0 := cell_on hbr h0
      have g1 := cell_on hbr h1
      have CL := hplace1_Object x a1 x.fs.length c1 y P0 P1 wr g0 g1
      have l1 : ((j : Nat) : Int) < (os.length : Int) := by omega
      have hjN : ((j : Nat) : Int).toNat = j := by omega
      have hnm : (os.map (·.n))[j]? = some x.n := (by rw [List.getElem?_map, hx]; rfl)
      have hz : Hid (j + 1 ≤ os.length) := hlt
      have HN : Hid (∀ (q : Nat) z, q < j → (os.map (·.n))[q]? = some z → (z == y) = false) := hno
      have HM : Hid ((os.map (·.n))[j]? = some x.n) := hnm
      clear hno hnm hH hr hx e0 e1 hlt
      cases hq : (x.n == y) with
      | true =>
        rw [hq] at CL
        have HP : Hid (plB y (os.map (·.n)) = (j : Int)) := by
          have e : x.n = y := by simpa using hq
          have h2 := HM.out
          rw [e] at h2
          exact plB_hit h2 HN.out
        clear hq
        go_wp2_with (first
          | (go_at_call 125; (with_reducible refine CL.mono ?_); rintro e w2 ⟨rfl, b2⟩)
          | fail)
        go_ret
        exact ⟨by rw [HP.out]; rfl, hbr.trans (b2.mono hbr.size)⟩
      | false =>
        rw [hq] at CL
        have hno2 : Hid (∀ (q : Nat) z, q < j + 1 → (os.map (·.n))[q]? = some z → (z == y) = false) := by
          intro q z hq1 hz1
          by_cases e : q = j
          · subst e
            rw [HM.out] at hz1
            cases hz1
            exact hq
          · exact HN.out q z (by omega) hz1
        clear hq
        go_wp2_with (first
          | (go_at_call 125; (with_reducible refine CL.mono ?_); rintro e w2 ⟨rfl, b2⟩)
          | fail)
        refine ⟨⟨j + 1, by simp, hz.out, hno2.out, hbr.trans (b2.mono hbr.size)⟩, ?_⟩
        have := hz.out
        simp [RowKit.intOf]
        omega
    · have l2 : decide (((j : Nat) : Int) < (os.length : Int)) = false := by simp; omega
      have l3 : decide (j < os.length) = false := by simp; omega
      have HP : Hid (plB y (os.map (·.n)) = -1) := plB_none fun q z hz => hno q z (by
        have := (List.getElem?_eq_some_iff.1 hz).1
        rw [List.length_map] at this
        omega) hz
      clear hno hr hlt hj
      go_wp2
      go_ret
      exact ⟨by rw [HP.out]; rfl, hbr⟩
set_option maxRecDepth 100000 in
set_option maxHeartbeats 2000000 in
theorem idx_Enum {es : List En} {v : Value} (y : Bs) (P0 P1 : Nat) (w : World) (h : EnsAt w v es) (h0 : w.cell? ⟨P0, 0, none⟩ = some (.func (.func 88) #[] #[])) (h1 : w.cell? ⟨P1, 0, none⟩ = some (.string ⟨y.toArray⟩)) :
    Calls Tryz.prog 126 #[v, .func (.func 127) #[] #[.pointer (some ⟨P0, 0, none⟩), .pointer (some ⟨P1, 0, none⟩)]] w fun e w' => e = .returned (.int .i64 (plB y (es.map (·.n)))) ∧ Below w.heap.size w w' := by
  obtain ⟨a0, cap, rfl, hc, hn, hr⟩ := h
  go_enter Tryz.func126, Tryz.ntmps126
  go_wp2
  go_loopw [8] (fun i wr => ∃ j : Nat, i = .int .i64 (j : Int) ∧ j ≤ es.length ∧ (∀ (q : Nat) z, q < j → (es.map (·.n))[q]? = some z → (z == y) = false) ∧ Below w.heap.size w wr) (fun i _ => es.length - (RowKit.intOf i).toNat)
  case atStart => exact ⟨0, rfl, Nat.zero_le _, fun q z hq => absurd hq (Nat.not_lt_zero _), Below.refl _ _⟩
  case round =>
    obtain ⟨j, rfl, hj, hno, hbr⟩ := hrel
    by_cases hlt : j < es.length
    · obtain ⟨b, o, rfl, hbl, hH⟩ := hr (by omega)
      obtain ⟨x, hx⟩ : ∃ x, es[j]? = some x := ⟨_, List.getElem?_eq_getElem hlt⟩
      obtain ⟨e0, fv, e1, a1, c1, rfl, _⟩ := hH j hlt x hx
      have f0 := cell_on hbr e0
      have f1 := cell_on hbr e1
      have g0 := cell_on hbr h0
      have g1 := cell_on hbr h1
      have CL := hplace1_Enum x a1 x.ws.length c1 y P0 P1 wr g0 g1
      have l1 : ((j : Nat) : Int) < (es.length : Int) := by omega
      have hjN : ((j : Nat) : Int).toNat = j := by omega
      have hnm : (es.map (·.n))[j]? = some x.n := (by rw [List.getElem?_map, hx]; rfl)
      have hz : Hid (j + 1 ≤ es.length) := hlt
      have HN : Hid (∀ (q : Nat) z, q < j → (es.map (·.n))[q]? = some z → (z == y) = false) := hno
      have HM : Hid ((es.map (·.n))[j]? = some x.n) := hnm
      clear hno hnm hH hr hx e0 e1 hlt
      cases hq : (x.n == y) with
      | true =>
        rw [hq] at CL
        have HP : Hid (plB y (es.map (·.n)) = (j : Int)) := by
          have e : x.n = y := by simpa using hq
          have h2 := HM.out
          rw [e] at h2
          exact plB_hit h2 HN.out
        clear hq
        go_wp2_with (first
          | (go_at_call 127; (with_reducible refine CL.mono ?_); rintro e w2 ⟨rfl, b2⟩)
          | fail)
        go_ret
        exact ⟨by rw [HP.out]; rfl, hbr.trans (b2.mono hbr.size)⟩
      | false =>
        rw [hq] at CL
        have hno2 : Hid (∀ (q : Nat) z, q < j + 1 → (es.map (·.n))[q]? = some z → (z == y) = false) := by
          intro q z hq1 hz1
          by_cases e : q = j
          · subst e
            rw [HM.out] at hz1
            cases hz1
            exact hq
          · exact HN.out q z (by omega) hz1
        clear hq
        go_wp2_with (first
          | (go_at_call 127; (with_reducible refine CL.mono ?_); rintro e w2 ⟨rfl, b2⟩)
          | fail)
        refine ⟨⟨j + 1, by simp, hz.out, hno2.out, hbr.trans (b2.mono hbr.size)⟩, ?_⟩
        have := hz.out
        simp [RowKit.intOf]
        omega
    · have l2 : decide (((j : Nat) : Int) < (es.length : Int)) = false := by simp; omega
      have l3 : decide (j < es.length) = false := by simp; omega
      have HP : Hid (plB y (es.map (·.n)) = -1) := plB_none fun q z hz => hno q z (by
        have := (List.getElem?_eq_some_iff.1 hz).1
        rw [List.length_map] at this
        omega) hz
      clear hno hr hlt hj
      go_wp2
      go_ret
      exact ⟨by rw [HP.out]; rfl, hbr⟩
set_option maxRecDepth 100000 in
set_option maxHeartbeats 2000000 in
theorem idx_Field {fs : List Fld} {v : Value} (y : Bs) (P0 P1 : Nat) (w : World) (h : FldsAt w v fs) (h0 : w.cell? ⟨P0, 0, none⟩ = some (.func (.func 95) #[] #[])) (h1 : w.cell? ⟨P1, 0, none⟩ = some (.string ⟨y.toArray⟩)) :
    Calls Tryz.prog 130 #[v, .func (.func 131) #[] #[.pointer (some ⟨P0, 0, none⟩), .pointer (some ⟨P1, 0, none⟩)]] w fun e w' => e = .returned (.int .i64 (plB y (fs.map (·.n)))) ∧ Below w.heap.size w w' := by
  obtain ⟨a0, cap, rfl, hc, hn, hr⟩ := h
  go_enter Tryz.func130, Tryz.ntmps130
  go_wp2
  go_loopw [8] (fun i wr => ∃ j : Nat, i = .int .i64 (j : Int) ∧ j ≤ fs.length ∧ (∀ (q : Nat) z, q < j → (fs.map (·.n))[q]? = some z → (z == y) = false) ∧ Below w.heap.size w wr) (fun i _ => fs.length - (RowKit.intOf i).toNat)
  case atStart => exact ⟨0, rfl, Nat.zero_le _, fun q z hq => absurd hq (Nat.not_lt_zero _), Below.refl _ _⟩
  case round =>
    obtain ⟨j, rfl, hj, hno, hbr⟩ := hrel
    by_cases hlt : j < fs.length
    · obtain ⟨b, o, rfl, hbl, hH⟩ := hr (by omega)
      obtain ⟨x, hx⟩ : ∃ x, fs[j]? = some x := ⟨_, List.getElem?_eq_getElem hlt⟩
      obtain ⟨e0, e1, e2, e3, e4⟩ := hH j hlt x hx
      have f0 := cell_on hbr e0
      have f1 := cell_on hbr e1
      have f2 := cell_on hbr e2
      have f3 := cell_on hbr e3
      have f4 := cell_on hbr e4
      have g0 := cell_on hbr h0
      have g1 := cell_on hbr h1
      have CL := hplace1_Field x y P0 P1 wr g0 g1
      have l1 : ((j : Nat) : Int) < (fs.length : Int) := by omega
      have hjN : ((j : Nat) : Int).toNat = j := by omega
      have hnm : (fs.map (·.n))[j]? = some x.n := (by rw [List.getElem?_map, hx]; rfl)
      have hz : Hid (j + 1 ≤ fs.length) := hlt
      have HN : Hid (∀ (q : Nat) z, q < j → (fs.map (·.n))[q]? = some z → (z == y) = false) := hno
      have HM : Hid ((fs.map (·.n))[j]? = some x.n) := hnm
      clear hno hnm hH hr hx e0 e1 e2 e3 e4 hlt
      cases hq : (x.n == y) with
      | true =>
        rw [hq] at CL
        have HP : Hid (plB y (fs.map (·.n)) = (j : Int)) := by
          have e : x.n = y := by simpa using hq
          have h2 := HM.out
          rw [e] at h2
          exact plB_hit h2 HN.out
        clear hq
        go_wp2_with (first
          | (go_at_call 131; (with_reducible refine CL.mono ?_); rintro e w2 ⟨rfl, b2⟩)
          | fail)
        go_ret
        exact ⟨by rw [HP.out]; rfl, hbr.trans (b2.mono hbr.size)⟩
      | false =>
        rw [hq] at CL
        have hno2 : Hid (∀ (q : Nat) z, q < j + 1 → (fs.map (·.n))[q]? = some z → (z == y) = false) := by
          intro q z hq1 hz1
          by_cases e : q = j
          · subst e
            rw [HM.out] at hz1
            cases hz1
            exact hq
          · exact HN.out q z (by omega) hz1
        clear hq
        go_wp2_with (first
          | (go_at_call 131; (with_reducible refine CL.mono ?_); rintro e w2 ⟨rfl, b2⟩)
          | fail)
        refine ⟨⟨j + 1, by simp, hz.out, hno2.out, hbr.trans (b2.mono hbr.size)⟩, ?_⟩
        have := hz.out
        simp [RowKit.intOf]
        omega
    · have l2 : decide (((j : Nat) : Int) < (fs.length : Int)) = false := by simp; omega
      have l3 : decide (j < fs.length) = false := by simp; omega
      have HP : Hid (plB y (fs.map (·.n)) = -1) := plB_none fun q z hz => hno q z (by
        have := (List.getElem?_eq_some_iff.1 hz).1
        rw [List.length_map] at this
        omega) hz
      clear hno hr hlt hj
      go_wp2
      go_ret
      exact ⟨by rw [HP.out]; rfl, hbr⟩
set_option maxRecDepth 100000 in
set_option maxHeartbeats 2000000 in
theorem idx_string {ws : List Bs} {v : Value} (y : Bs) (P0 P1 : Nat) (w : World) (h : WdsAt w v ws) (h0 : w.cell? ⟨P0, 0, none⟩ = some (.func (.func 92) #[] #[])) (h1 : w.cell? ⟨P1, 0, none⟩ = some (.string ⟨y.toArray⟩)) :
    Calls Tryz.prog 128 #[v, .func (.func 129) #[] #[.pointer (some ⟨P0, 0, none⟩), .pointer (some ⟨P1, 0, none⟩)]] w fun e w' => e = .returned (.int .i64 (plB y ws)) ∧ Below w.heap.size w w' := by
  obtain ⟨a0, cap, rfl, hc, hn, hr⟩ := h
  go_enter Tryz.func128, Tryz.ntmps128
  go_wp2
  go_loopw [8] (fun i wr => ∃ j : Nat, i = .int .i64 (j : Int) ∧ j ≤ ws.length ∧ (∀ (q : Nat) z, q < j → ws[q]? = some z → (z == y) = false) ∧ Below w.heap.size w wr) (fun i _ => ws.length - (RowKit.intOf i).toNat)
  case atStart => exact ⟨0, rfl, Nat.zero_le _, fun q z hq => absurd hq (Nat.not_lt_zero _), Below.refl _ _⟩
  case round =>
    obtain ⟨j, rfl, hj, hno, hbr⟩ := hrel
    by_cases hlt : j < ws.length
    · obtain ⟨b, o, rfl, hbl, hH⟩ := hr (by omega)
      obtain ⟨x, hx⟩ : ∃ x, ws[j]? = some x := ⟨_, List.getElem?_eq_getElem hlt⟩
      have e0 := hH j hlt x hx
      have f0 := cell_on hbr e0
      rw [Nat.mul_one] at f0
      have g0 := cell_on hbr h0
      have g1 := cell_on hbr h1
      have CL := hplace1_string x y P0 P1 wr g0 g1
      have l1 : ((j : Nat) : Int) < (ws.length : Int) := by omega
      have hjN : ((j : Nat) : Int).toNat = j := by omega
      have hnm : ws[j]? = some x := hx
      have hz : Hid (j + 1 ≤ ws.length) := hlt
      have HN : Hid (∀ (q : Nat) z, q < j → ws[q]? = some z → (z == y) = false) := hno
      have HM : Hid (ws[j]? = some x) := hnm
      clear hno hnm hH hr hx e0 hlt
      cases hq : (x == y) with
      | true =>
        rw [hq] at CL
        have HP : Hid (plB y ws = (j : Int)) := by
          have e : x = y := by simpa using hq
          have h2 := HM.out
          rw [e] at h2
          exact plB_hit h2 HN.out
        clear hq
        go_wp2_with (first
          | (go_at_call 129; (with_reducible refine CL.mono ?_); rintro e w2 ⟨rfl, b2⟩)
          | fail)
        go_ret
        exact ⟨by rw [HP.out]; rfl, hbr.trans (b2.mono hbr.size)⟩
      | false =>
        rw [hq] at CL
        have hno2 : Hid (∀ (q : Nat) z, q < j + 1 → ws[q]? = some z → (z == y) = false) := by
          intro q z hq1 hz1
          by_cases e : q = j
          · subst e
            rw [HM.out] at hz1
            cases hz1
            exact hq
          · exact HN.out q z (by omega) hz1
        clear hq
        go_wp2_with (first
          | (go_at_call 129; (with_reducible refine CL.mono ?_); rintro e w2 ⟨rfl, b2⟩)
          | fail)
        refine ⟨⟨j + 1, by simp, hz.out, hno2.out, hbr.trans (b2.mono hbr.size)⟩, ?_⟩
        have := hz.out
        simp [RowKit.intOf]
        omega
    · have l2 : decide (((j : Nat) : Int) < (ws.length : Int)) = false := by simp; omega
      have l3 : decide (j < ws.length) = false := by simp; omega
      have HP : Hid (plB y ws = -1) := plB_none fun q z hz => hno q z (by
        have := (List.getElem?_eq_some_iff.1 hz).1
        omega) hz
      clear hno hr hlt hj
      go_wp2
      go_ret
      exact ⟨by rw [HP.out]; rfl, hbr⟩
end Go.Proofs.YtamkjpfomaapgaaGreatDoor
