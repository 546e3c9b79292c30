/- Schemas: what leads back, walked. -/
import Derived.Test.YtamkjpfomaapgaaGreatDoorScE
namespace Go.Proofs.YtamkjpfomaapgaaGreatDoor
open Go Go.RowKit Go.Shelf
/-- An object of a schema, cell by cell. -/
theorem ob_cells {w : World} {v : Value} {os : List Ob} {i : Nat} {x : Ob} (h : ObsAt w v os) (hx : os[i]? = some x) : ∃ b o c a1 c1, v = .slice (some ⟨b, o, none⟩) os.length c ∧ b < w.heap.size ∧ os.length ≤ c ∧ w.cell? ⟨b, o + i * 2, none⟩ = some (.string ⟨x.n.toArray⟩) ∧ w.cell? ⟨b, o + i * 2 + 1, none⟩ = some (.slice a1 x.fs.length c1) ∧ FldsAt w (.slice a1 x.fs.length c1) x.fs := by
  obtain ⟨a, c, rfl, hc, _, hr⟩ := h
  have hi := (List.getElem?_eq_some_iff.1 hx).1
  obtain ⟨b, o, rfl, hb, hH⟩ := hr (by omega)
  obtain ⟨e0, fv, e1, hf⟩ := hH i hi x hx
  obtain ⟨a1, c1, rfl, _, _⟩ := hf.slice
  exact ⟨b, o, c, a1, c1, rfl, hb, hc, e0, e1, hf⟩
theorem fld_cells {w : World} {a : Option Addr} {n c : Nat} {fs : List Fld} {i : Nat} {f : Fld} (h : FldsAt w (.slice a n c) fs) (hx : fs[i]? = some f) : ∃ b o, a = some ⟨b, o, none⟩ ∧ b < w.heap.size ∧ fs.length ≤ c ∧ FldAt w f b (o + i * 5) := by
  obtain ⟨a, c, he, hc, _, hr⟩ := h
  cases he
  have hi := (List.getElem?_eq_some_iff.1 hx).1
  obtain ⟨b, o, rfl, hb, hH⟩ := hr (by omega)
  exact ⟨b, o, rfl, hb, hc, hH i hi f hx⟩
section
variable {w : World} {ov ev : Value} {s : Sch}
set_option maxRecDepth 100000 in
set_option maxHeartbeats 4000000 in
theorem hback_any (h : SchAt w ov ev s) (i k : Int) : Calls Tryz.prog 97 #[.agg #[ov, ev], .int .i64 i, .int .i64 k] w fun e w' => e = .returned (.int .i64 (backS s i k)) ∧ Below w.heap.size w w' := by
  have hos := h.os
  obtain ⟨a', c', rfl, _, _⟩ := h.es.slice
  obtain ⟨a, c, rfl, hc, hn⟩ := h.os.slice
  by_cases hi : 0 ≤ i ∧ i < (s.os.length : Int)
  · obtain ⟨I, rfl⟩ : ∃ I : Nat, i = (I : Int) := ⟨i.toNat, by omega⟩
    obtain ⟨x, hx⟩ : ∃ x, s.os[I]? = some x := ⟨_, List.getElem?_eq_getElem (by omega)⟩
    obtain ⟨b, o, c0, a1, c1, hv, hbl, _, e0, e1, hfs⟩ := ob_cells hos hx
    cases hv
    have hd1 : decide (0 ≤ (I : Int) ∧ (I : Int) < (s.os.length : Int)) = true := by simpa using hi
    have WO := fun w1 => withinO_any (some ⟨b, o, none⟩) s.os.length c (I : Int) w1
    rw [hd1] at WO
    have WF := fun w1 => withinF_any a1 x.fs.length c1 k w1
    have HA : atI s.os (I : Int) = some x := atI_some hx
    have l1 : ((I : Nat) : Int) < (s.os.length : Int) := hi.2
    have hIn : ((I : Nat) : Int).toNat = I := by omega
    by_cases hk : 0 ≤ k ∧ k < (x.fs.length : Int)
    · obtain ⟨K, rfl⟩ : ∃ K : Nat, k = (K : Int) := ⟨k.toNat, by omega⟩
      obtain ⟨f, hf⟩ : ∃ f, x.fs[K]? = some f := ⟨_, List.getElem?_eq_getElem (by omega)⟩
      obtain ⟨b1, o1, rfl, hbl1, _, g0, g1, g2, g3, g4⟩ := fld_cells hfs hf
      have hd2 : decide (0 ≤ (K : Int) ∧ (K : Int) < (x.fs.length : Int)) = true := by simpa using hk
      rw [hd2] at WF
      have HB : Hid (backS s (I : Int) (K : Int) = if edgS s f < 0 ∨ f.i = [] then -1 else match atI s.os (edgS s f) with
          | none => -1
          | some p => plB f.i (p.fs.map (·.n))) := by
        show _ = _
        unfold backS
        rw [HA]
        simp only [atI_some hf]
        rfl
      have l2 : ((K : Nat) : Int) < (x.fs.length : Int) := hk.2
      have hKn : ((K : Nat) : Int).toNat = K := by omega
      have ED := fun w2 (bb : Below w.heap.size w w2) => hedge_any (h.on bb) f
      have PF := fun (p : Ob) (pv : Value) w2 (hp : FldsAt w2 pv p.fs) => place_Field f.i w2 hp
      have hrg := edg_range s f
      obtain ⟨t, ht⟩ : ∃ t, t = edgS s f := ⟨_, rfl⟩
      rw [← ht] at ED HB hrg
      have d0 := fun o => cell_on (al1 w o) e0
      have d1 := fun o => cell_on (al1 w o) e1
      have k0 := fun o => cell_on (al1 w o) g0
      have k1 := fun o => cell_on (al1 w o) g1
      have k2 := fun o => cell_on (al1 w o) g2
      have k3 := fun o => cell_on (al1 w o) g3
      have k4 := fun o => cell_on (al1 w o) g4
      have HT : Hid (t = edgS s f) := ht
      clear ht hx hf HA hi hk hd1 hd2
      obtain ⟨fn, ft, fw, fs, fi⟩ := f
      simp only at k0 k1 k2 k3 k4
      by_cases ht0 : t < 0
      · have HC : Hid (backS s (I : Int) (K : Int) = -1) := by
          show _ = _
          rw [HB.out, if_pos (Or.inl ht0)]
        clear HB
        go_enter Tryz.func97, Tryz.ntmps97
        go_wp2_with (first
          | (go_at_call 48; (with_reducible refine (ED _ (al2 w _ _)).mono ?_); rintro e w3 ⟨rfl, b3⟩)
          | (go_at_call 117; (with_reducible refine (WF _).mono ?_); rintro e w2 ⟨rfl, rfl⟩)
          | (go_at_call 116; (with_reducible refine (WO _).mono ?_); rintro e w1 ⟨rfl, rfl⟩)
          | fail)
        go_ret
        exact ⟨by rw [HC.out]; rfl, (al2 w _ _).trans (b3.mono (al2 w _ _).size)⟩
      · have ht1 : decide (t < 0) = false := by simp; omega
        by_cases hfi : fi = []
        · have HC : Hid (backS s (I : Int) (K : Int) = -1) := by
            show _ = _
            rw [HB.out, if_pos (Or.inr hfi)]
          subst hfi
          clear HB
          go_enter Tryz.func97, Tryz.ntmps97
          go_wp2_with (first
            | (go_at_call 48; (with_reducible refine (ED _ (al2 w _ _)).mono ?_); rintro e w3 ⟨rfl, b3⟩; obtain ⟨n0, n1, n2, n3, n4, fn5⟩ := row5 ((b3.block _ (by rw [World.size_alloc, World.size_alloc]; omega)).trans (new2 w (.cells #[.slice (some ⟨b, o, none⟩) s.os.length c, .slice a' s.es.length c'] 25) (.cells #[.string ⟨fn.toArray⟩, .string ⟨ft.toArray⟩, .string ⟨fw.toArray⟩, .bool fs, .string ⟨#[]⟩] 56))))
            | (go_at_call 117; (with_reducible refine (WF _).mono ?_); rintro e w2 ⟨rfl, rfl⟩)
            | (go_at_call 116; (with_reducible refine (WO _).mono ?_); rintro e w1 ⟨rfl, rfl⟩)
            | fail)
          go_ret
          exact ⟨by rw [HC.out]; rfl, (al2 w _ _).trans (b3.mono (al2 w _ _).size)⟩
        · have hfi2 : (fi == []) = false := by simpa using hfi
          obtain ⟨Tn, rfl⟩ : ∃ Tn : Nat, t = (Tn : Int) := ⟨t.toNat, by omega⟩
          obtain ⟨p, hp⟩ : ∃ p, s.os[Tn]? = some p := ⟨_, List.getElem?_eq_getElem (by omega)⟩
          obtain ⟨b', o', c0', a2, c2, hv', hbl', _, e0', e1', hfs'⟩ := ob_cells hos hp
          cases hv'
          have HC : Hid (backS s (I : Int) (K : Int) = plB fi (p.fs.map (·.n))) := by
            show _ = _
            rw [HB.out, if_neg (by rintro (e | e); exact ht0 e; exact hfi e), atI_some hp]
          have l3 : ((Tn : Nat) : Int) < (s.os.length : Int) := hrg.2
          have hTn : ((Tn : Nat) : Int).toNat = Tn := by omega
          have d1' := fun o => cell_on (al1 w o) e1'
          clear HB hp hfi ht0 hrg
          go_enter Tryz.func97, Tryz.ntmps97
          go_wp2_with (first
            | (go_at_call 48; (with_reducible refine (ED _ (al2 w _ _)).mono ?_); rintro e w3 ⟨rfl, b3⟩; have B3 := (al2 w _ _).trans (b3.mono (al2 w _ _).size); obtain ⟨n0, n1, n2, n3, n4, fn5⟩ := row5 ((b3.block _ (by rw [World.size_alloc, World.size_alloc]; omega)).trans (new2 w (.cells #[.slice (some ⟨b, o, none⟩) s.os.length c, .slice a' s.es.length c'] 25) (.cells #[.string ⟨fn.toArray⟩, .string ⟨ft.toArray⟩, .string ⟨fw.toArray⟩, .bool fs, .string ⟨fi.toArray⟩] 56))); obtain ⟨q0, q1, fq⟩ := row2 ((b3.block _ (by rw [World.size_alloc, World.size_alloc]; omega)).trans (new1 w (.cells #[.slice (some ⟨b, o, none⟩) s.os.length c, .slice a' s.es.length c'] 25) (.cells #[.string ⟨fn.toArray⟩, .string ⟨ft.toArray⟩, .string ⟨fw.toArray⟩, .bool fs, .string ⟨fi.toArray⟩] 56))); have r1 := cell_on B3 e1')
            | (go_at_call 117; (with_reducible refine (WF _).mono ?_); rintro e w2 ⟨rfl, rfl⟩)
            | (go_at_call 116; (with_reducible refine (WO _).mono ?_); rintro e w1 ⟨rfl, rfl⟩)
            | fail)
          have PX : ∀ W, Below w3.heap.size w3 W → Calls Tryz.prog 114 #[.slice a2 p.fs.length c2, .func (.func 95) #[] #[], .string ⟨fi.toArray⟩] W fun e w' => e = .returned (.int .i64 (plB fi (p.fs.map (·.n)))) ∧ Below W.heap.size W w' := fun W bb => place_Field fi W ((hfs'.on B3).on bb)
          have bd3 : Below w3.heap.size w3 w3.drew := ⟨rfl, rfl, rfl, Nat.le_refl _, fun _ _ => rfl⟩
          go_region_held3 (fun w' => w'.cell? ⟨w.heap.size, 0, none⟩ = some (.slice (some ⟨b, o, none⟩) s.os.length c) ∧ w'.cell? ⟨b, o + Tn * 2 + 1, none⟩ = some (.slice a2 p.fs.length c2) ∧ w'.cell? ⟨w.heap.size + 1, 4, none⟩ = some (.string ⟨fi.toArray⟩)) (go_keep) ((go_at_call 114; (with_reducible refine (PX _ bd3).mono ?_); rintro e w4 ⟨rfl, b4⟩; have s0 := cell_on b4 q0; have s1 := cell_on b4 r1; have s2 := cell_on b4 n4))
          all_goals
            go_wp2
            go_ret
            exact ⟨by rw [HC.out]; rfl, B3.trans ((bel_drew0 b4).mono B3.size)⟩
    · have HB : Hid (backS s (I : Int) k = -1) := by
        show _ = _
        unfold backS
        rw [HA]
        simp only
        rw [atI_none hk]
      have hd2 : decide (0 ≤ k ∧ k < (x.fs.length : Int)) = false := by simpa using hk
      rw [hd2] at WF
      have d0 := fun o => cell_on (al1 w o) e0
      have d1 := fun o => cell_on (al1 w o) e1
      clear hk hd2 hi hd1 hx HA
      go_enter Tryz.func97, Tryz.ntmps97
      go_wp2_with (first
        | (go_at_call 117; (with_reducible refine (WF _).mono ?_); rintro e w2 ⟨rfl, rfl⟩)
        | (go_at_call 116; (with_reducible refine (WO _).mono ?_); rintro e w1 ⟨rfl, rfl⟩)
        | fail)
      go_ret
      exact ⟨by rw [HB.out]; rfl, al1 w _⟩
  · have HB : Hid (backS s i k = -1) := by
      show _ = _
      unfold backS
      rw [atI_none hi]
    have WO := fun w1 => withinO_any a s.os.length c i w1
    have hd1 : decide (0 ≤ i ∧ i < (s.os.length : Int)) = false := by simpa using hi
    rw [hd1] at WO
    clear hi hd1
    go_enter Tryz.func97, Tryz.ntmps97
    go_wp2_with (first
      | (go_at_call 116; (with_reducible refine (WO _).mono ?_); rintro e w1 ⟨rfl, rfl⟩)
      | fail)
    go_ret
    exact ⟨by rw [HB.out]; rfl, al1 w _⟩
end
end Go.Proofs.YtamkjpfomaapgaaGreatDoor
