/- Of a schema that may be, what leads back leads back from there: to the edge itself; each field leads to a node's type, or is a property, never both: for any schema (within the form's own reach of 2^47 - 4096 bytes); the listed package variables are as the program's text lays them (tied). -/
import Derived.Test.YtfkgmgnoijokdaaGreatDoorC01
import Derived.Deep.Slices
import Derived.OpenShut
import Derived.ProofKit
import Derived.SizedLaws
import Derived.Test.YtfkgmgnoijokdaaGreatDoorRows
import Derived.Test.YtfkgmgnoijokdaaGreatDoorLxK
import Derived.Lib.LaidU8
import Derived.LaidMore
import Derived.Stop.LaidErr
import Derived.Lay
import Derived.Shelf.Vars
import Derived.Test.YtfkgmgnoijokdaaGreatDoorTie
import Derived.Test.YtfkgmgnoijokdaaGreatDoorCards
import Derived.ShutString
import Derived.ChangeOld
import Derived.SevenTiedAt
import Derived.Stop.Joined
import Derived.Carry
namespace Go.Proofs.YtfkgmgnoijokdaaGreatDoor
open Go Go.RowKit Go.Shelf
theorem frf_ne (x : Bs) (h : frfS x = true) : x ≠ [] := by
  rintro rfl
  have e : frfS [] = false := by kernel_rfl
  rw [e] at h
  cases h
/-- What an edge or a property of a schema that may be comes to. -/
theorem back_ways {s : Sch} (h : OkD s) {i k : Nat} {o : Ob} {f : Fld} (ho : s.os[i]? = some o) (hf : o.fs[k]? = some f) :
    (f.i = [] ∧ backS s i k = -1 ∧ edgS s f = -1 ∧ (scaS f.t = true ∨ (scaS f.t = false ∧ 0 ≤ enuS s f.t))) ∨
    (f.i = [] ∧ backS s i k = -1 ∧ 0 ≤ edgS s f ∧ scaS f.t = false ∧ enuS s f.t < 0) ∨
    (f.i ≠ [] ∧ 0 ≤ backS s i k ∧ 0 ≤ edgS s f ∧ scaS f.t = false ∧ enuS s f.t < 0 ∧ backS s (edgS s f) (backS s i k) = (k : Int)) := by
  have hp := ok_prop h ho hf
  have np : prpS s f = false → scaS f.t = false ∧ enuS s f.t < 0 := by
    intro e
    unfold prpS at e
    rw [Bool.or_eq_false_iff, decide_eq_false_iff_not] at e
    exact ⟨e.1, by omega⟩
  by_cases hi : f.i = []
  · have hb := ok_back0 ho hf hi
    cases e : prpS s f with
    | true =>
      refine Or.inl ⟨hi, hb, ?_, ?_⟩
      · unfold edgS
        rw [if_pos e]
      · unfold prpS at e
        cases e2 : scaS f.t with
        | true => exact Or.inl rfl
        | false =>
          rw [e2, Bool.false_or, decide_eq_true_eq] at e
          exact Or.inr ⟨rfl, e⟩
    | false =>
      obtain ⟨q1, q2⟩ := np e
      rw [e] at hp
      have := hp.symm
      rw [decide_eq_false_iff_not] at this
      exact Or.inr (Or.inl ⟨hi, hb, by omega, q1, q2⟩)
  · obtain ⟨T, A, h1, h2, h3, h4⟩ := ok_back h ho hf hi frf_ne
    obtain ⟨q1, q2⟩ := np h4
    exact Or.inr (Or.inr ⟨hi, by omega, by omega, q1, q2, by rw [h1, h2]; exact h3⟩)
section
variable {w : World} {ov ev : Value} {s : Sch}
set_option maxRecDepth 100000 in
set_option maxHeartbeats 8000000 in
theorem back_any (h : SchAt w ov ev s) (gl : Gl w) : Calls Tryz.prog 5 #[.agg #[ov, ev]] w fun e w' => e = .returned (.bool true) ∧ Below w.heap.size w w' := by
  have hh := h
  have hos := h.os
  obtain ⟨a, c, rfl, _, _⟩ := h.os.slice
  obtain ⟨a', c', rfl, _, _⟩ := h.es.slice
  obtain ⟨w0, hw0⟩ : ∃ w0, w0 = w.alloc (.cells #[.slice a s.os.length c, .slice a' s.es.length c'] 25) := ⟨_, rfl⟩
  have A0 : Below w.heap.size w w0 := by rw [hw0]; exact al1 w _
  have HZ : ∀ {W : World}, Below w0.heap.size w0 W → Below w.heap.size w W := fun b => A0.trans (b.mono A0.size)
  have HS : ∀ {W : World}, Below w0.heap.size w0 W → SchAt W (.slice a s.os.length c) (.slice a' s.es.length c') s := fun b => hh.on (HZ b)
  obtain ⟨r0, r1, _⟩ := row2 (show w0.heap[w.heap.size]? = some (.cells #[.slice a s.os.length c, .slice a' s.es.length c'] 25) by rw [hw0]; exact heap_alloc_new w _)
  have FX0 := fun o => lfixed_any (w.alloc o) (gl.below (al1 w o) (Nat.le_refl _))
  have FX := fun {W : World} (b : Below w0.heap.size w0 W) => lfixed_any W (gl.below (HZ b) (Nat.le_refl _))
  have CK := fun {W : World} (b : Below w0.heap.size w0 W) => hcheck_any (HS b) (gl.below (HZ b) (Nat.le_refl _))
  have OB := fun {W : World} (b : Below w0.heap.size w0 W) (y : Bs) => hobject_any (HS b) y
  have EN := fun {W : World} (b : Below w0.heap.size w0 W) (y : Bs) => henum_any (HS b) y
  have ED := fun {W : World} (b : Below w0.heap.size w0 W) (f : Fld) => hedge_any (HS b) f
  have BK := fun {W : World} (b : Below w0.heap.size w0 W) (i k : Int) => hback_any (HS b) i k
  have DD : ∀ {W : World}, Below w0.heap.size w0 W → Below w0.heap.size w0 W.drew := fun b => ⟨b.os, b.tape, b.output, b.size, b.block⟩
  have HW : Hid (w0 = w.alloc (.cells #[.slice a s.os.length c, .slice a' s.es.length c'] 25)) := hw0
  clear hw0
  by_cases hc0 : chkS s = 0
  · have ok := chk_ok.1 hc0
    rw [hc0] at CK
    have HO : Hid (OkD s) := ok
    clear ok hc0
    go_enter Tryz.func5, Tryz.ntmps5
    go_wp2_with (first
      | (go_at_call 10; (with_reducible refine (CK D1).mono ?_); rintro e x2 ⟨rfl, b2⟩; have D2 := D1.trans (b2.mono D1.size); clear b2)
      | (go_at_call 9; (with_reducible refine (FX0 _).mono ?_); rintro e x1 ⟨rfl, b1⟩; have D1 : Below w0.heap.size w0 x1 := (by rw [HW.out]; exact b1); have p1 := cell_on D1 r0; have q1 := cell_on D1 r1; clear b1)
      | fail)
    go_loopw [3] (fun iv wr => ∃ i : Nat, iv = .int .i64 (i : Int) ∧ i ≤ s.os.length ∧ Below w0.heap.size w0 wr) (fun iv _ => s.os.length - (RowKit.intOf iv).toNat)
    case atStart => exact ⟨0, rfl, Nat.zero_le _, D2⟩
    case round =>
      obtain ⟨i, rfl, hi, hbr⟩ := hrel
      have z0 := cell_on hbr r0
      have z1 := cell_on hbr r1
      by_cases hlt : i < s.os.length
      · obtain ⟨x, hx⟩ : ∃ x, s.os[i]? = some x := ⟨_, List.getElem?_eq_getElem hlt⟩
        obtain ⟨b, o, c0, a1, c1, hv, hbl, _, e0, e1, hfs⟩ := ob_cells hos hx
        cases hv
        have f0 := cell_on (HZ hbr) e0
        have f1 := cell_on (HZ hbr) e1
        have l1 : ((i : Nat) : Int) < (s.os.length : Int) := by omega
        have hiN : ((i : Nat) : Int).toNat = i := by omega
        have HI : Hid (i + 1 ≤ s.os.length) := hlt
        have HX : Hid (s.os[i]? = some x) := hx
        have h12 : x.fs.length ≤ 12 := ((man_iff.1 HO.out.m).2.2.1 x (List.mem_of_getElem? hx)).2
        have HOB : Hid (objS s x.n = (i : Int)) := obj_of HO.out.u1 hx
        have O1 := fun {W : World} (b : Below w0.heap.size w0 W) => OB b x.n
        rw [HOB.out] at O1
        have S6 : ∀ {W : World}, Below w0.heap.size w0 W → (fun w' => w'.cell? ⟨w.heap.size, 0, none⟩ = some (.slice (some ⟨b, o, none⟩) s.os.length c) ∧ w'.cell? ⟨w.heap.size, 1, none⟩ = some (.slice a' s.es.length c') ∧ w'.cell? ⟨b, o + i * 2, none⟩ = some (.string ⟨x.n.toArray⟩)) W := fun b => ⟨cell_on b r0, cell_on b r1, cell_on (HZ b) e0⟩
        clear hx hlt
        generalize wr = wB at *
        go_wp2
        go_region_held3 (fun w' => w'.cell? ⟨w.heap.size, 0, none⟩ = some (.slice (some ⟨b, o, none⟩) s.os.length c) ∧ w'.cell? ⟨w.heap.size, 1, none⟩ = some (.slice a' s.es.length c') ∧ w'.cell? ⟨b, o + i * 2, none⟩ = some (.string ⟨x.n.toArray⟩)) (first | exact S6 J1 | exact S6 (DD hbr)) ((first
          | (go_at_call 12; (with_reducible refine (O1 (DD hbr)).mono ?_); rintro e j1 ⟨rfl, g1⟩; have J1 := (DD hbr).trans (g1.mono (DD hbr).size); clear g1)
          | fail))
        clear z0 z1 f0 f1
        go_wp2
        go_loopw [4] (fun kv wr => ∃ k : Nat, kv = .int .i64 (k : Int) ∧ k ≤ x.fs.length ∧ Below w0.heap.size w0 wr) (fun kv _ => x.fs.length - (RowKit.intOf kv).toNat)
        case atStart => exact ⟨0, rfl, Nat.zero_le _, J1⟩
        case round =>
          obtain ⟨k, rfl, hk, hbk⟩ := hrel
          have z0 := cell_on hbk r0
          have z1 := cell_on hbk r1
          have f1 := cell_on (HZ hbk) e1
          by_cases hkl : k < x.fs.length
          · obtain ⟨f, hf⟩ : ∃ f, x.fs[k]? = some f := ⟨_, List.getElem?_eq_getElem hkl⟩
            obtain ⟨b1, o1, rfl, hbl1, _, g0, g1, g2, g3, g4⟩ := fld_cells hfs hf
            have k0 := cell_on (HZ hbk) g0
            have k1 := cell_on (HZ hbk) g1
            have k2 := cell_on (HZ hbk) g2
            have k3 := cell_on (HZ hbk) g3
            have k4 := cell_on (HZ hbk) g4
            have l2 : ((k : Nat) : Int) < (x.fs.length : Int) := by omega
            have hkN : ((k : Nat) : Int).toNat = k := by omega
            have HK : Hid (k + 1 ≤ x.fs.length) := hkl
            have ways := back_ways HO.out HX.out hf
            have E1 := fun {W : World} (b : Below w0.heap.size w0 W) => ED b f
            have B1 := fun {W : World} (b : Below w0.heap.size w0 W) => BK b (i : Int) (k : Int)
            have B2 := fun {W : World} (b : Below w0.heap.size w0 W) => BK b (edgS s f) (backS s (i : Int) (k : Int))
            have N1 := fun {W : World} (b : Below w0.heap.size w0 W) => EN b f.t
            have SL := fun {W : World} (_ : Below w0.heap.size w0 W) => hscalar_any f.t W
            clear hf hkl
            obtain ⟨fn, ft, fw, fs, fi⟩ := f
            simp only at k0 k1 k2 k3 k4 ways N1 SL
            generalize scaS ft = ks at *
            generalize enuS s ft = kn at *
            generalize backS s (edgS s ⟨fn, ft, fw, fs, fi⟩) (backS s (i : Int) (k : Int)) = kb2 at *
            generalize backS s (i : Int) (k : Int) = kb at *
            generalize edgS s ⟨fn, ft, fw, fs, fi⟩ = kt at *
            obtain ⟨w5, hw5⟩ : ∃ w5, w5 = wr.alloc (.cells #[.string ⟨fn.toArray⟩, .string ⟨ft.toArray⟩, .string ⟨fw.toArray⟩, .bool fs, .string ⟨fi.toArray⟩] 33) := ⟨_, rfl⟩
            have A5 : Below wr.heap.size wr w5 := by rw [hw5]; exact al1 wr _
            have D5 : Below w0.heap.size w0 w5 := hbk.trans (A5.mono hbk.size)
            have H5 : ∀ {W : World}, Below w5.heap.size w5 W → Below w0.heap.size w0 W := fun b => D5.trans (b.mono D5.size)
            obtain ⟨u0, u1, u2, u3, u4, _⟩ := row5 (show w5.heap[wr.heap.size]? = some (.cells #[.string ⟨fn.toArray⟩, .string ⟨ft.toArray⟩, .string ⟨fw.toArray⟩, .bool fs, .string ⟨fi.toArray⟩] 33) by rw [hw5]; exact heap_alloc_new wr _)
            have S12 : ∀ {W : World}, Below w5.heap.size w5 W → (fun w' => w'.cell? ⟨w.heap.size, 0, none⟩ = some (.slice (some ⟨b, o, none⟩) s.os.length c) ∧ w'.cell? ⟨w.heap.size, 1, none⟩ = some (.slice a' s.es.length c') ∧ w'.cell? ⟨wr.heap.size, 0, none⟩ = some (.string ⟨fn.toArray⟩) ∧ w'.cell? ⟨wr.heap.size, 1, none⟩ = some (.string ⟨ft.toArray⟩) ∧ w'.cell? ⟨wr.heap.size, 2, none⟩ = some (.string ⟨fw.toArray⟩) ∧ w'.cell? ⟨wr.heap.size, 3, none⟩ = some (.bool fs) ∧ w'.cell? ⟨wr.heap.size, 4, none⟩ = some (.string ⟨fi.toArray⟩)) W := fun b => ⟨cell_on (H5 b) r0, cell_on (H5 b) r1, cell_on b u0, cell_on b u1, cell_on b u2, cell_on b u3, cell_on b u4⟩
            have DE : ∀ {W : World}, Below w5.heap.size w5 W → Below w5.heap.size w5 W.drew := fun b => ⟨b.os, b.tape, b.output, b.size, b.block⟩
            have R5 : Below w5.heap.size w5 w5 := Below.refl _ _
            go_wp2
            rw [← hw5]
            clear hw5
            go_region_held3 (fun w' => w'.cell? ⟨w.heap.size, 0, none⟩ = some (.slice (some ⟨b, o, none⟩) s.os.length c) ∧ w'.cell? ⟨w.heap.size, 1, none⟩ = some (.slice a' s.es.length c') ∧ w'.cell? ⟨wr.heap.size, 0, none⟩ = some (.string ⟨fn.toArray⟩) ∧ w'.cell? ⟨wr.heap.size, 1, none⟩ = some (.string ⟨ft.toArray⟩) ∧ w'.cell? ⟨wr.heap.size, 2, none⟩ = some (.string ⟨fw.toArray⟩) ∧ w'.cell? ⟨wr.heap.size, 3, none⟩ = some (.bool fs) ∧ w'.cell? ⟨wr.heap.size, 4, none⟩ = some (.string ⟨fi.toArray⟩)) (first | exact S12 Y2 | exact S12 Y1 | exact S12 (DE R5)) ((first
              | (go_at_call 20; (with_reducible refine (B1 (H5 Y1)).mono ?_); rintro e y2 ⟨rfl, g2'⟩; have Y2 := Y1.trans (g2'.mono Y1.size); clear g2')
              | (go_at_call 18; (with_reducible refine (E1 (H5 (DE R5))).mono ?_); rintro e y1 ⟨rfl, g1'⟩; have Y1 := (DE R5).trans (g1'.mono (DE R5).size); clear g1')
              | fail))
            have m0 := cell_on (H5 Y2) r0
            have m1 := cell_on (H5 Y2) r1
            have n1 := cell_on Y2 u1
            have n4 := cell_on Y2 u4
            rcases ways with ⟨hfi, hkb, hkt, (hks | ⟨hks, hkn⟩)⟩ | ⟨hfi, hkb, hkt, hks, hkn⟩ | ⟨hfi, hkb, hkt, hks, hkn, hk2⟩
            · subst hfi hkb hkt hks
              go_wp2_with (first
                | (go_at_call 16; (with_reducible refine (SL (H5 Y2)).mono ?_); rintro e y3 ⟨rfl, rfl⟩)
                | fail)
              refine ⟨⟨k + 1, by simp, HK.out, (H5 Y2)⟩, ?_⟩
              have := HK.out
              simp [RowKit.intOf]
              omega
            · subst hfi hkb hkt hks
              go_wp2_with (first
                | (go_at_call 14; (with_reducible refine (N1 (H5 Y2)).mono ?_); rintro e y4 ⟨rfl, g4'⟩; have Y4 := Y2.trans (g4'.mono Y2.size); have m2 := cell_on (H5 Y4) r0; have m3 := cell_on (H5 Y4) r1; have n5 := cell_on Y4 u4; clear g4')
                | (go_at_call 16; (with_reducible refine (SL (H5 Y2)).mono ?_); rintro e y3 ⟨rfl, rfl⟩)
                | fail)
              refine ⟨⟨k + 1, by simp, HK.out, (H5 Y4)⟩, ?_⟩
              have := HK.out
              simp [RowKit.intOf]
              omega
            · subst hfi hkb hks
              have hkt2 : decide (kt < 0) = false := by simp; omega
              have hkn2 : decide (0 ≤ kn) = false := by simp; omega
              go_wp2_with (first
                | (go_at_call 14; (with_reducible refine (N1 (H5 Y2)).mono ?_); rintro e y4 ⟨rfl, g4'⟩; have Y4 := Y2.trans (g4'.mono Y2.size); have m2 := cell_on (H5 Y4) r0; have m3 := cell_on (H5 Y4) r1; have n5 := cell_on Y4 u4; clear g4')
                | (go_at_call 16; (with_reducible refine (SL (H5 Y2)).mono ?_); rintro e y3 ⟨rfl, rfl⟩)
                | fail)
              refine ⟨⟨k + 1, by simp, HK.out, (H5 Y4)⟩, ?_⟩
              have := HK.out
              simp [RowKit.intOf]
              omega
            · subst hks hk2
              have hkt2 : decide (kt < 0) = false := by simp; omega
              have hkn2 : decide (0 ≤ kn) = false := by simp; omega
              have hkb2 : decide (0 ≤ kb) = true := by simp; omega
              have hfi2 : (fi == []) = false := by simpa using hfi
              clear hfi
              go_wp2_with (first
                | (go_at_call 20; (with_reducible refine (B2 (H5 Y4)).mono ?_); rintro e y6 ⟨rfl, g6'⟩; have Y6 := Y4.trans (g6'.mono Y4.size); clear g6')
                | (go_at_call 14; (with_reducible refine (N1 (H5 Y2)).mono ?_); rintro e y4 ⟨rfl, g4'⟩; have Y4 := Y2.trans (g4'.mono Y2.size); have m2 := cell_on (H5 Y4) r0; have m3 := cell_on (H5 Y4) r1; have n5 := cell_on Y4 u4; clear g4')
                | (go_at_call 16; (with_reducible refine (SL (H5 Y2)).mono ?_); rintro e y3 ⟨rfl, rfl⟩)
                | fail)
              refine ⟨⟨k + 1, by simp, HK.out, (H5 Y6)⟩, ?_⟩
              have := HK.out
              simp [RowKit.intOf]
              omega
          · have l2 : decide (((k : Nat) : Int) < (x.fs.length : Int)) = false := by simp; omega
            have l3 : decide (k < x.fs.length) = false := by simp; omega
            clear hkl hk
            go_wp2
            refine ⟨⟨i + 1, by simp, HI.out, hbk⟩, ?_⟩
            have := HI.out
            simp [RowKit.intOf]
            omega
      · have l2 : decide (((i : Nat) : Int) < (s.os.length : Int)) = false := by simp; omega
        have l3 : decide (i < s.os.length) = false := by simp; omega
        clear hlt hi
        go_wp2
        go_ret
        exact ⟨rfl, HZ hbr⟩
  · have hc1 : (chkS s == 0) = false := by simpa using hc0
    generalize chkS s = ck at *
    clear hc0
    go_enter Tryz.func5, Tryz.ntmps5
    go_wp2_with (first
      | (go_at_call 9; (with_reducible refine (FX D2).mono ?_); rintro e x3 ⟨rfl, b3⟩; have D3 := D2.trans (b3.mono D2.size); clear b3)
      | (go_at_call 10; (with_reducible refine (CK D1).mono ?_); rintro e x2 ⟨rfl, b2⟩; have D2 := D1.trans (b2.mono D1.size); clear b2)
      | (go_at_call 9; (with_reducible refine (FX0 _).mono ?_); rintro e x1 ⟨rfl, b1⟩; have D1 : Below w0.heap.size w0 x1 := (by rw [HW.out]; exact b1); have p1 := cell_on D1 r0; have q1 := cell_on D1 r1; clear b1)
      | fail)
    go_ret
    exact ⟨rfl, HZ D3⟩
end
end Go.Proofs.YtfkgmgnoijokdaaGreatDoor
namespace Go.Proofs.YtfkgmgnoijokdaaGreatDoor
open Go Go.RowKit Go.ChangeShapes Go.WideShapes Go.Deep
/-- Nothing within it is beyond the form's reach. -/
def Wt {H : Type} (t : TypeId) (d : DataW H) : Prop := ∀ n ∈ d.weights Tryz.prog t, n ≤ reachBytes
theorem mem_weightsAll {H : Type} {e : TypeId} {d : DataW H} {n : Nat} (hn : n ∈ d.weights Tryz.prog e) : ∀ {l : List (DataW H)}, d ∈ l → n ∈ DataW.weightsAll Tryz.prog e l
  | x :: r, h => by
    simp only [DataW.weightsAll, List.mem_append]
    rcases List.mem_cons.1 h with rfl | h
    · exact Or.inl hn
    · exact Or.inr (mem_weightsAll hn h)
theorem Wt.elem {H : Type} {t e : TypeId} {el sp : List (DataW H)} (ht : Tryz.prog.underlying t = some (.slice e)) (h : Wt t (.slice el sp)) {d : DataW H} (hd : d ∈ el) : Wt e d := by
  intro n hn
  refine h n ?_
  simp only [DataW.weights, ht, List.mem_cons, List.mem_append]
  exact Or.inr (Or.inl (mem_weightsAll hn hd))
theorem Wt.len {H : Type} {t e : TypeId} {el sp : List (DataW H)} (ht : Tryz.prog.underlying t = some (.slice e)) (h : Wt t (.slice el sp)) (hb : 1 ≤ Tryz.prog.bytesOf e) : el.length ≤ 140737488355328 := by
  have h1 := h ((el.length + sp.length) * Tryz.prog.bytesOf e) (by simp only [DataW.weights, ht, List.mem_cons, true_or])
  have h2 := reachBytes_lt
  have h3 : el.length + sp.length ≤ (el.length + sp.length) * Tryz.prog.bytesOf e := Nat.le_mul_of_pos_right _ hb
  omega
theorem Wt.part {H : Type} {t : TypeId} {fs : Array Field} {parts : List (DataW H)} (ht : Tryz.prog.underlying t = some (.struct fs)) (h : Wt t (.agg parts)) {j : Nat} {u : TypeId} {d : DataW H} (hu : (fs.toList.map (·.type))[j]? = some u) (hd : parts[j]? = some d) : Wt u d := by
  intro n hn
  refine h n ?_
  simp only [DataW.weights, ht]
  exact DataW.weights_mem_each hu hd n hn
section
variable {H : Type} {enc : TypeId × Value → H} {w : World} {base : Nat} {spare : Nat → Bool} {held : Bool}
theorem open_sl {α : Type} {sz : Nat} {t e : TypeId} {p : α → Nat → Nat → Prop} (ht : Tryz.prog.underlying t = some (.slice e)) (hsz : Tryz.prog.cellsOf e = sz) (hs1 : 0 < sz) (hb : 1 ≤ Tryz.prog.bytesOf e) {fuel : Nat} {cs : List Value} {x : DataW H × List MemPlace} (h : DataW.trod enc Tryz.prog w base spare held fuel t cs = some x) (hw : Wt t x.1)
    (each : ∀ (fuel : Nat) (cs : List Value) (y : DataW H × List MemPlace) (b o : Nat), DataW.trod enc Tryz.prog w base spare held fuel e cs = some y → Wt e y.1 → cs.length = sz → (∀ j u, cs[j]? = some u → w.cell? ⟨b, o + j, none⟩ = some u) → ∃ a : α, p a b o) :
    ∃ (v : Value) (l : List α), cs = [v] ∧ Sl w v l.length sz (fun i b o => ∀ a, l[i]? = some a → p a b o) := by
  rcases open_slice ht h with ⟨hcs, _⟩ | ⟨ad, len, cap, m, n, D, Pl, hcs, _, hl, hm, hmm, rfl, hx⟩
  · exact ⟨_, [], hcs, _, 0, rfl, Nat.le_refl _, by simp, fun h => absurd h (by simp)⟩
  · have hlm : len ≤ m := by rw [hmm]; split <;> omega
    rw [hsz] at hx
    have hlen47 : len ≤ 140737488355328 := by
      have := hw.len ht hb
      simpa using this
    by_cases h0 : len = 0
    · subst h0
      exact ⟨_, [], hcs, some ad, cap, rfl, by simp, by simp, fun h => absurd h (by simp)⟩
    · obtain ⟨b, o, sp⟩ := ad
      have cell : ∀ i, i < len → ∃ cs', DataW.trod enc Tryz.prog w base spare held n e cs' = some (D i, Pl i) ∧ cs'.length = sz ∧ ∀ j, j < sz → w.cell? ((⟨b, o, sp⟩ : Addr).add (i * sz + j)) = cs'[j]? := by
        intro i hi
        obtain ⟨cs', h1, h2⟩ := hx i (by omega)
        obtain ⟨_, hlen, hcell⟩ := World.cells?_some h1
        refine ⟨cs', h2, hlen, fun j hj => ?_⟩
        have := hcell j hj
        rw [add_add] at this
        exact this
      obtain ⟨cs0, _, hl0, hc0⟩ := cell 0 (by omega)
      obtain ⟨u0, hu0⟩ : ∃ u, cs0[0]? = some u := ⟨_, List.getElem?_eq_getElem (by omega)⟩
      have hc00 := (hc0 0 hs1).trans hu0
      have hsp : sp = none := by simpa [Addr.add] using World.cell?_spot hc00
      subst hsp
      have hbl : b < w.heap.size := by
        have := World.block_lt_of_cell? w _ hc00
        simpa [Addr.add] using this
      have each' : ∀ i, i < len → ∃ a : α, p a b (o + i * sz) := by
        intro i hi
        obtain ⟨cs', h1, h2, h3⟩ := cell i hi
        refine each n cs' _ b (o + i * sz) h1 (hw.elem ht (List.mem_map.2 ⟨i, List.mem_range.2 hi, rfl⟩)) h2 fun j u hj => ?_
        have hjs : j < sz := by
          have := (List.getElem?_eq_some_iff.1 hj).1
          omega
        have h4 := (h3 j hjs).trans hj
        have e4 : (⟨b, o, none⟩ : Addr).add (i * sz + j) = ⟨b, o + i * sz + j, none⟩ := by simp [Addr.add, Nat.add_assoc]
        rw [e4] at h4
        exact h4
      obtain ⟨a0, _⟩ := each' 0 (by omega)
      haveI : Inhabited α := ⟨a0⟩
      obtain ⟨f, hf⟩ := choose_lt each'
      refine ⟨_, (List.range len).map f, hcs, some ⟨b, o, none⟩, cap, by simp, by simpa using hl, by simpa using hlen47, fun _ => ⟨b, o, rfl, hbl, fun i hi a ha => ?_⟩⟩
      have hi : i < len := by simpa using hi
      have hpf : a = f i := by
        simp [hi] at ha
        exact ha.symm
      subst hpf
      exact hf i hi
theorem Tryz.cStr : Tryz.prog.cellsOf 9 = 1 := by kernel_rfl
theorem Tryz.cFld : Tryz.prog.cellsOf 33 = 5 := by kernel_rfl
theorem Tryz.cRef : Tryz.prog.cellsOf 31 = 2 := by kernel_rfl
theorem Tryz.cBool : Tryz.prog.cellsOf 4 = 1 := by kernel_rfl
theorem Tryz.cOb : Tryz.prog.cellsOf 41 = 2 := by kernel_rfl
theorem Tryz.cEn : Tryz.prog.cellsOf 45 = 2 := by kernel_rfl
theorem Tryz.cSch : Tryz.prog.cellsOf 25 = 2 := by kernel_rfl
theorem Tryz.cFs : Tryz.prog.cellsOf 39 = 1 := by kernel_rfl
theorem Tryz.cWs : Tryz.prog.cellsOf 43 = 1 := by kernel_rfl
theorem Tryz.cOs : Tryz.prog.cellsOf 22 = 1 := by kernel_rfl
theorem Tryz.cEs : Tryz.prog.cellsOf 23 = 1 := by kernel_rfl
theorem open_str {fuel : Nat} {cs : List Value} {x : DataW H × List MemPlace} (h : DataW.trod enc Tryz.prog w base spare held fuel 9 cs = some x) : ∃ b : Bs, cs = [.string ⟨b.toArray⟩] := by
  obtain ⟨t, e, _, _⟩ := DataW.trod_string Tryz.underlying9 h
  exact ⟨t.data.toList, by rw [e]⟩
set_option maxRecDepth 100000 in
theorem open_fld {fuel : Nat} {cs : List Value} {x : DataW H × List MemPlace} (h : DataW.trod enc Tryz.prog w base spare held fuel 33 cs = some x) :
    ∃ f : Fld, cs = [.string ⟨f.n.toArray⟩, .string ⟨f.t.toArray⟩, .string ⟨f.w.toArray⟩, .bool f.s, .string ⟨f.i.toArray⟩] := by
  obtain ⟨xs, n, _, _, hl, hxl, hf⟩ := DataW.trod_struct Tryz.underlying33 h
  rw [Tryz.cFld] at hl
  match xs, hxl, cs, hl with
  | [y0, y1, y2, y3], _, [v0, v1, v2, v3, v4], _ =>
    have g0 := hf 0 _ rfl
    have g1 := hf 1 _ rfl
    have g2 := hf 2 _ rfl
    have g3 := hf 3 _ rfl
    simp [Tryz.cStr, Tryz.cRef, Tryz.cBool] at g0 g1 g2 g3
    obtain ⟨a0, e0⟩ := open_str g0
    obtain ⟨ys, m, _, _, _, hyl, hg⟩ := DataW.trod_struct Tryz.underlying31 g1
    match ys, hyl with
    | [z0, z1], _ =>
      have q0 := hg 0 _ rfl
      have q1 := hg 1 _ rfl
      simp [Tryz.cStr] at q0 q1
      obtain ⟨a1, e1⟩ := open_str q0
      obtain ⟨a2, e2⟩ := open_str q1
      obtain ⟨a3, e3, _, _⟩ := DataW.trod_bool Tryz.underlying4 g2
      obtain ⟨a4, e4⟩ := open_str g3
      simp at e0 e1 e2 e3 e4
      exact ⟨⟨a0, a1, a2, a3, a4⟩, by rw [e0, e1, e2, e3, e4]⟩
theorem open_wds {fuel : Nat} {cs : List Value} {x : DataW H × List MemPlace} (h : DataW.trod enc Tryz.prog w base spare held fuel 43 cs = some x) (hw : Wt 43 x.1) : ∃ (v : Value) (ws : List Bs), cs = [v] ∧ WdsAt w v ws :=
  open_sl Tryz.underlying43 Tryz.cStr (by decide) (of_decide_eq_true (by kernel_rfl)) h hw fun fuel cs y b o hy _ _ hc => by
    obtain ⟨a, rfl⟩ := open_str hy
    exact ⟨a, hc 0 _ rfl⟩
theorem open_flds {fuel : Nat} {cs : List Value} {x : DataW H × List MemPlace} (h : DataW.trod enc Tryz.prog w base spare held fuel 39 cs = some x) (hw : Wt 39 x.1) : ∃ (v : Value) (fs : List Fld), cs = [v] ∧ FldsAt w v fs :=
  open_sl Tryz.underlying39 Tryz.cFld (by decide) (of_decide_eq_true (by kernel_rfl)) h hw fun fuel cs y b o hy _ _ hc => by
    obtain ⟨f, rfl⟩ := open_fld hy
    exact ⟨f, hc 0 _ rfl, hc 1 _ rfl, hc 2 _ rfl, hc 3 _ rfl, hc 4 _ rfl⟩
set_option maxRecDepth 100000 in
theorem open_ob {fuel : Nat} {cs : List Value} {x : DataW H × List MemPlace} (h : DataW.trod enc Tryz.prog w base spare held fuel 41 cs = some x) (hw : Wt 41 x.1) :
    ∃ (o : Ob) (fv : Value), cs = [.string ⟨o.n.toArray⟩, fv] ∧ FldsAt w fv o.fs := by
  obtain ⟨xs, n, _, rfl, hl, hxl, hf⟩ := DataW.trod_struct Tryz.underlying41 h
  rw [Tryz.cOb] at hl
  match xs, hxl, cs, hl with
  | [y0, y1], _, [v0, v1], _ =>
    have g0 := hf 0 _ rfl
    have g1 := hf 1 _ rfl
    simp [Tryz.cStr, Tryz.cFs] at g0 g1
    obtain ⟨a0, e0⟩ := open_str g0
    obtain ⟨fv, fs, e1, hfs⟩ := open_flds g1 (hw.part Tryz.underlying41 (j := 1) rfl rfl)
    simp at e0 e1
    exact ⟨⟨a0, fs⟩, fv, by rw [e0, e1], hfs⟩
set_option maxRecDepth 100000 in
theorem open_en {fuel : Nat} {cs : List Value} {x : DataW H × List MemPlace} (h : DataW.trod enc Tryz.prog w base spare held fuel 45 cs = some x) (hw : Wt 45 x.1) :
    ∃ (o : En) (fv : Value), cs = [.string ⟨o.n.toArray⟩, fv] ∧ WdsAt w fv o.ws := by
  obtain ⟨xs, n, _, rfl, hl, hxl, hf⟩ := DataW.trod_struct Tryz.underlying45 h
  rw [Tryz.cEn] at hl
  match xs, hxl, cs, hl with
  | [y0, y1], _, [v0, v1], _ =>
    have g0 := hf 0 _ rfl
    have g1 := hf 1 _ rfl
    simp [Tryz.cStr, Tryz.cWs] at g0 g1
    obtain ⟨a0, e0⟩ := open_str g0
    obtain ⟨fv, fs, e1, hfs⟩ := open_wds g1 (hw.part Tryz.underlying45 (j := 1) rfl rfl)
    simp at e0 e1
    exact ⟨⟨a0, fs⟩, fv, by rw [e0, e1], hfs⟩
theorem open_obs {fuel : Nat} {cs : List Value} {x : DataW H × List MemPlace} (h : DataW.trod enc Tryz.prog w base spare held fuel 22 cs = some x) (hw : Wt 22 x.1) : ∃ (v : Value) (fs : List Ob), cs = [v] ∧ ObsAt w v fs :=
  open_sl Tryz.underlying22 Tryz.cOb (by decide) (of_decide_eq_true (by kernel_rfl)) h hw fun fuel cs y b o hy hwy _ hc => by
    obtain ⟨f, fv, rfl, hfs⟩ := open_ob hy hwy
    exact ⟨f, hc 0 _ rfl, fv, hc 1 _ rfl, hfs⟩
theorem open_ens {fuel : Nat} {cs : List Value} {x : DataW H × List MemPlace} (h : DataW.trod enc Tryz.prog w base spare held fuel 23 cs = some x) (hw : Wt 23 x.1) : ∃ (v : Value) (fs : List En), cs = [v] ∧ EnsAt w v fs :=
  open_sl Tryz.underlying23 Tryz.cEn (by decide) (of_decide_eq_true (by kernel_rfl)) h hw fun fuel cs y b o hy hwy _ hc => by
    obtain ⟨f, fv, rfl, hfs⟩ := open_en hy hwy
    exact ⟨f, hc 0 _ rfl, fv, hc 1 _ rfl, hfs⟩
set_option maxRecDepth 100000 in
theorem open_sch {fuel : Nat} {cs : List Value} {x : DataW H × List MemPlace} (h : DataW.trod enc Tryz.prog w base spare held fuel 25 cs = some x) (hw : Wt 25 x.1) :
    ∃ (s : Sch) (ov ev : Value), cs = [ov, ev] ∧ SchAt w ov ev s := by
  obtain ⟨xs, n, _, rfl, hl, hxl, hf⟩ := DataW.trod_struct Tryz.underlying25 h
  rw [Tryz.cSch] at hl
  match xs, hxl, cs, hl with
  | [y0, y1], _, [v0, v1], _ =>
    have g0 := hf 0 _ rfl
    have g1 := hf 1 _ rfl
    simp [Tryz.cOs, Tryz.cEs] at g0 g1
    obtain ⟨ov, os, e0, h0⟩ := open_obs g0 (hw.part Tryz.underlying25 (j := 0) rfl rfl)
    obtain ⟨ev, es, e1, h1⟩ := open_ens g1 (hw.part Tryz.underlying25 (j := 1) rfl rfl)
    simp at e0 e1
    exact ⟨⟨os, es⟩, ov, ev, by rw [e0, e1], h0, h1⟩
end
end Go.Proofs.YtfkgmgnoijokdaaGreatDoor
namespace Go.Proofs.YtfkgmgnoijokdaaGreatDoor
open Go Go.RowKit Go.Lib

def listed : List (String × DataW Unit) := Rows.schemaChecksRow.laid
theorem at_var {w : World} {n : String} {d : DataW Unit} {g t : Nat} (h : VarReads Tryz.prog w n d) (hg : Tryz.prog.globalNamed n = some g) (ht : (Tryz.prog.globals[g]?).map (·.type) = some t) :
    ∃ (cs : Array Value) (fuel : Nat) (p : List MemPlace), w.var? Tryz.prog n = some cs ∧ DataW.trod (fun _ => ()) Tryz.prog w 0 (fun _ => true) false fuel t cs.toList = some (d, p) ∧ ∀ i, w.cell? ⟨g, i, none⟩ = cs.toList[i]? := by
  obtain ⟨g', t', cs, fuel, p, hg', ht', hv, hd⟩ := h
  obtain rfl := Option.some.inj (hg.symm.trans hg')
  obtain rfl := Option.some.inj (ht.symm.trans ht')
  exact ⟨cs, fuel, p, hv, hd, fun i => by rw [World.var?_cell hg hv i, Array.getElem?_toList]⟩
theorem es_laid {w : World} (h : VarReads Tryz.prog w "strconv.ErrSyntax" Rows.laid_strconv_ErrSyntax) : ∃ te pe, w.cell? ⟨3, 0, none⟩ = some (.iface te pe) := by
  obtain ⟨cs, fuel, p, _, hd, hc⟩ := at_var h (g := 3) (t := 140) (by kernel_rfl) (by kernel_rfl)
  cases fuel with
  | zero => simp [DataW.trod] at hd
  | succ n =>
    have hu := Tryz.underlying140
    simp only [DataW.trod, hu, Rows.laid_strconv_ErrSyntax] at hd
    rw [hc]
    split at hd
    all_goals simp_all
theorem max_of {W : World} (h : W.ShapedOpen Tryz.prog) : ∃ m, W.cell? ⟨gM, 0, none⟩ = some (.int .i64 m) :=
  cell_of_shapedOpen_int h (g := 0) (t := 3) (zero := #[.int .i64 0]) (of_decide_eq_true (by kernel_rfl)) (by kernel_rfl) rfl (by kernel_rfl) (by kernel_rfl) Tryz.underlying3
theorem gl_laid {W : World} (hL : laidMet Tryz.prog listed W) (hs : W.ShapedOpen Tryz.prog) : Gl W := by
  obtain ⟨te, pe, he⟩ := es_laid (laidMet.reads hL (.tail _ (.tail _ (.tail _ (.tail _ (.tail _ (.head _)))))))
  exact ⟨max_of hs, ⟨_, he, Or.inr ⟨te, pe, rfl⟩⟩⟩
end Go.Proofs.YtfkgmgnoijokdaaGreatDoor
namespace Go.Proofs.YtfkgmgnoijokdaaGreatDoor
open Go.ChangeShapes Go.WideShapes Go.ChangeAt Go.RowKit
open Go.ChangeMaps (open_string shut_string)

theorem Tryz.own : ownKnob Tryz.prog.godebug = none := by kernel_rfl
theorem Tryz.laidOut : laidOutB Tryz.prog = true := by kernel_rfl

/-- The road from the contract to the row where the contract is handed both what is listed and the world's shape. -/
theorem lifted_by {H : Type} {enc : TypeId × Value → H} {C : Checked} {os : Os} {f : FuncId} {fn : Func} {s : ChangeSpec} {conds : List PathCond} {apart fresh handsOn again : Bool} {X : World → Array Value → Prop}
    (hX : ∀ (w w' : World) (args : Array Value), w.heap = w'.heap → X w args → X w' args)
    (own : ownKnob C.prog.godebug = none) (started : os.Started) (noInit : C.prog.inits.idxOf? f = none) (hfn : C.prog.funcs[f]? = some fn)
    (witness : ∃ (w : World) (tape : Tape) (i : Input), w.os = os ∧ (w.forCall tape i).Shaped C.prog ∧ i.vars = [] ∧ Input.okWide C.prog (w.forCall tape i) .any w.heap.size f i ∧
      ((s.pre enc C.prog fn conds apart (w.forCall tape i).memory i.args ∧ X (w.forCall tape i).memory i.args) ∧ sizedMet enc C.prog fn (OpenSpec.ofChange s) apart (w.forCall tape i).memory i.args) ∧ ({} : Assume).holds C.prog (lone (Frame.enter C.prog f i.args .normal) [] (w.forCall tape i)))
    (contract : ∀ (W : World) (base : Nat) (args : Array Value) (ds gs : List (DataW H)) (before : List MemPlace),
      (∀ (j : Nat) t v, fn.params[j]? = some t → args[j]? = some v → Value.okWide C.prog W .any base t v) →
      DataW.Whole enc C.prog fn.params.toList s.vars apart W args.toList ds gs before →
      (DataW.weightsEach C.prog (fn.params.toList ++ s.plain.varTypes C.prog) (ds ++ gs)).all (· ≤ reachBytes) = true → W.ShapedOpen C.prog → X W args →
      Calls C.prog f args W fun e W' => ∃ v, e = .returned v ∧ s.post enc C.prog fn apart fresh handsOn again W args v W') :
    ReturnsInHanded {} C os f .any (fun w args => (s.pre enc C.prog fn conds apart w args ∧ X w args) ∧ sizedMet enc C.prog fn (OpenSpec.ofChange s) apart w args) (s.post enc C.prog fn apart fresh handsOn again) := by
  refine returnsInHanded_of_calls own started noInit witness ?_
  intro w tape i _ hsh _ hok hpre _
  obtain ⟨_, _, _, fn', hfn', _, _, _, _, hval⟩ := hok
  obtain rfl : fn' = fn := Option.some.inj (hfn'.symm.trans hfn)
  obtain ⟨⟨⟨ds, gs, before, hw, _⟩, hx⟩, hz⟩ := hpre
  refine (contract (w.forCall tape i) w.heap.size i.args ds gs before hval (DataW.Whole.of_heap (w' := w.forCall tape i) (by rfl) hw) (hz.weights hw) hsh (hX _ _ _ (by rfl) hx)).mono fun e W' ⟨v, he, hp⟩ => ?_
  subst he
  exact ChangeSpec.post_blind hp

set_option maxRecDepth 100000 in
theorem schemaBack_lifted (os : Os) (started : os.Started) (H : Type) (enc : TypeId × Value → H) :
    ReturnsInHanded {} Tryz.checked os 5 .any (fun w args => (Rows.schemaBackSpec.pre enc Tryz.prog Tryz.f5 Rows.schemaBackRow.domain false w args ∧ laidMetH Tryz.prog listed w) ∧ sizedMet enc Tryz.prog Tryz.f5 (OpenSpec.ofChange Rows.schemaBackSpec) false w args)
      (Rows.schemaBackSpec.post enc Tryz.prog Tryz.f5 false true false false) := by
  refine lifted_by (C := Tryz.checked) (X := fun w _ => laidMetH Tryz.prog listed w) (fun _ _ _ hh h => h.of_heap hh) Tryz.own started (by kernel_rfl) Tryz.func5
    (ChangeSpec.witness_shaped (enc := enc) (C := Tryz.checked) (os := os) (X := fun w _ => laidMetH Tryz.prog listed w) false (World.laidAll Tryz.prog os listed) #[.agg #[.slice none 0 0, .slice none 0 0]] 8 (World.laidAll_os _ _ _)
      (World.shaped_of_ZipB (by kernel_rfl) (by kernel_rfl)) (by kernel_rfl) (by kernel_rfl) (by kernel_rfl)
      (by rw [MakeChecks.laidMetH_plain _ _ _ (by kernel_rfl)]; exact laidMet_laidAll _ (by kernel_rfl) (by kernel_rfl))) ?_
  intro W base args ds gs before hval0 hW hsz hsh hL
  have hval : ∀ (j : Nat) t v, Tryz.f5.params[j]? = some t → args[j]? = some v → Value.okWide Tryz.prog W .any base t v := hval0
  have hW' := hW
  obtain ⟨p, q, hA0, hV, rfl, hfz, hnd⟩ := hW
  have hA : DataW.TrodAll enc Tryz.prog W 0 (fun _ => true) true Tryz.f5.params.toList args.toList ds p := hA0
  rw [Tryz.params5] at hA hval
  obtain ⟨v0, vs0, d0, ds0, p0, q0, hargs, rfl, rfl, h0, r0⟩ := trodAll_cons hA
  obtain ⟨rfl, rfl, rfl⟩ := trodAll_nil r0
  obtain rfl : args = #[v0] := by cases args; simp_all
  obtain ⟨rfl, rfl⟩ := trodVars_none hV
  obtain ⟨c0, rfl, _⟩ := okWide_struct Tryz.underlying25 (hval 0 25 v0 rfl rfl)
  have k0 := h0
  have lt0 : ∀ x ∈ p0, x.block < W.heap.size := by obtain ⟨m, hm⟩ := k0; exact DataW.trod_lt m _ _ _ hm
  have wt0 : Wt 25 d0 := fun n hn => by
    have := List.all_eq_true.1 hsz n (DataW.weights_mem_each (j := 0) rfl rfl n hn)
    simpa using this
  obtain ⟨s0, ov0, ev0, hc0, hS0⟩ : ∃ (s : Sch) (ov ev : Value), (Value.agg c0).cells.toList = [ov, ev] ∧ SchAt W ov ev s := by
    obtain ⟨fuel, hf⟩ := h0
    exact open_sch hf wt0
  obtain rfl : c0 = #[ov0, ev0] := Array.toList_inj.1 hc0
  have hL2 : laidMetH Tryz.prog listed W := hL
  rw [MakeChecks.laidMetH_plain _ _ _ (by kernel_rfl)] at hL2
  have gl := gl_laid hL2 hsh
  clear hA0 hval0 hL hL2 hsz
  have wk := back_any hS0 gl
  refine wk.mono fun e W' ⟨he, bel⟩ => ?_
  subst he
  exact ⟨_, rfl, _, _, _, [], _, [], hW', trodAll_mk1 (shut_bool Tryz.underlying4 _), (trodAll_cons_mk (Below.trod Tryz.laidOut (by kernel_rfl) (of_decide_eq_true (by kernel_rfl)) k0 bel lt0) trodAll_mk0), rfl, bel.frame _, fun h => by cases h⟩

theorem schemaBack_row : Rows.SchemaBackSaid :=
  OpenClaim.holds_of_wide 5 Tryz.f5 rfl rfl rfl rfl rfl rfl rfl ⟨rfl, rfl, rfl, rfl, rfl⟩ rfl rfl rfl rfl rfl (by kernel_rfl) Tryz.func5 (by kernel_rfl)
    (of_decide_eq_true (by kernel_rfl)) (by unfold Func.isWrapper; first | (rw [if_pos (by decide +kernel)]; kernel_rfl) | (rw [if_neg (by decide +kernel)]; exact ⟨rfl, rfl⟩))
    (fun os started H enc _ => schemaBack_lifted os started H enc)

theorem schemaBack_holds : Rows.SchemaBackCardSaid :=
  Claim7.holds_tied_plain_at .later [] _ _ _ _ schemaBack_row (fun _ h => by cases h) (by kernel_rfl) (fun _ h => by cases h) schemaBack_row_tie rfl ⟨rfl, rfl⟩ (by kernel_rfl) rfl
    (fun f fn hf hfn => by
      obtain rfl : f = 5 := Option.some.inj ((show Tryz.prog.funcNamed "rhizome/rhizomelaw09.SchemaBack" = some 5 by kernel_rfl).symm.trans hf) |>.symm
      obtain rfl : fn = Tryz.f5 := (Option.some.inj (Tryz.func5.symm.trans hfn)).symm
      exact ⟨by kernel_rfl, fun j t ht => by
        rw [Tryz.params5] at ht
        have hm : t ∈ [25] := by simpa using Array.mem_of_getElem? ht
        have hall : ([25].all fun u => !Tryz.prog.wantsStandIn u) = true := by kernel_rfl
        exact (show Tryz.prog.wantsStandIn t = false by simpa using List.all_eq_true.1 hall t hm)⟩)
    (by kernel_rfl)
#print axioms schemaBack_holds
end Go.Proofs.YtfkgmgnoijokdaaGreatDoor
