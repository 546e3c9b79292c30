/- A slice of parts among the arguments: what it holds. -/
import Derived.Test.YtghneolphdfdlabDoorBackMath
import Derived.Deep.Slices
import Derived.OpenShut
import Derived.ProofKit
namespace Go.Proofs.YtghneolphdfdlabDoor
open Go Go.RowKit Go.ChangeShapes Go.WideShapes Go.Deep

theorem Tryd.cellsPart : Tryd.prog.cellsOf 29 = 4 := by kernel_rfl
theorem Tryd.cellsInt : Tryd.prog.cellsOf 3 = 1 := by kernel_rfl
theorem Tryd.cellsWord : Tryd.prog.cellsOf 27 = 1 := by kernel_rfl
theorem Tryd.cellsStr : Tryd.prog.cellsOf 9 = 1 := by kernel_rfl

theorem open_part {H : Type} {enc : TypeId × Value → H} {w : World} {base : Nat} {spare : Nat → Bool} {held : Bool} {fuel : Nat} {cs : List Value} {x : DataW H × List MemPlace} (h : DataW.trod enc Tryd.prog w base spare held fuel 29 cs = some x) :
    ∃ p : Pt, cs = [.int .i64 p.k, .int .i64 p.i, .int .u64 (p.b : Int), .string p.t] ∧ Small p := by
  obtain ⟨xs, n, _, _, hl, hxl, hf⟩ := DataW.trod_struct Tryd.underlying29 h
  rw [Tryd.cellsPart] at hl
  match xs, hxl, cs, hl with
  | [y0, y1, y2, y3], _, [v0, v1, v2, v3], _ =>
    have g0 := hf 0 _ rfl
    have g1 := hf 1 _ rfl
    have g2 := hf 2 _ rfl
    have g3 := hf 3 _ rfl
    simp [Tryd.cellsInt, Tryd.cellsWord, Tryd.cellsStr] at g0 g1 g2 g3
    obtain ⟨k, e0, _, _⟩ := DataW.trod_int Tryd.underlying3 g0
    obtain ⟨i, e1, _, w1⟩ := DataW.trod_int Tryd.underlying3 g1
    obtain ⟨b, e2, _, w2⟩ := DataW.trod_int Tryd.underlying27 g2
    obtain ⟨t, e3, _, _⟩ := DataW.trod_string Tryd.underlying9 g3
    obtain ⟨hi1, hi2⟩ := bounds_i64 w1
    obtain ⟨hb1, hb2⟩ := bounds_u64 w2
    simp at e0 e1 e2 e3
    obtain ⟨B, rfl⟩ : ∃ B : Nat, b = B := ⟨b.toNat, by omega⟩
    exact ⟨⟨k, i, B, t⟩, by rw [e0, e1, e2, e3], hi1, by show i < _; omega, by show B < _; omega⟩

theorem open_parts {H : Type} {enc : TypeId × Value → H} {w : World} {base : Nat} {spare : Nat → Bool} {held : Bool} {fuel : Nat} {a : Option Addr} {len cap : Nat} {x : DataW H × List MemPlace} (h : DataW.trod enc Tryd.prog w base spare held fuel 26 [.slice a len cap] = some x) :
    ∃ ps : List Pt, PartsAt w (.slice a len cap) ps ∧ ∀ p ∈ ps, Small p := by
  rcases open_slice Tryd.underlying26 h with ⟨hcs, _⟩ | ⟨ad, len', cap', m, n, D, Pl, hcs, hb, hl, hm, hmm, _, hx⟩
  · simp at hcs
    obtain ⟨rfl, rfl, rfl⟩ := hcs
    exact ⟨[], ⟨_, _, rfl, Nat.le_refl _, fun h => absurd rfl h⟩, by simp⟩
  · simp at hcs
    obtain ⟨rfl, rfl, rfl⟩ := hcs
    have hlm : len ≤ m := by rw [hmm]; split <;> omega
    rw [Tryd.cellsPart] at hx
    have each : ∀ i, i < len → ∃ p : Pt, (∀ j u, [Value.int .i64 p.k, .int .i64 p.i, .int .u64 (p.b : Int), .string p.t][j]? = some u → w.cell? (ad.add (i * 4 + j)) = some u) ∧ Small p := by
      intro i hi
      obtain ⟨cs', h1, h2⟩ := hx i (by omega)
      obtain ⟨_, hlen, hcell⟩ := World.cells?_some h1
      obtain ⟨p, rfl, hp⟩ := open_part h2
      refine ⟨p, fun j u hj => ?_, hp⟩
      have hj4 : j < 4 := by
        have := (List.getElem?_eq_some_iff.1 hj).1
        simpa using this
      have := hcell j hj4
      rw [add_add] at this
      rw [this, hj]
    by_cases h0 : len = 0
    · subst h0
      exact ⟨[], ⟨_, _, rfl, Nat.zero_le _, fun h => absurd rfl h⟩, by simp⟩
    · obtain ⟨p0, hp0, _⟩ := each 0 (by omega)
      have hs := World.cell?_spot (hp0 0 _ rfl)
      obtain ⟨b, o, sp⟩ := ad
      have hsp : sp = none := by simpa [Addr.add] using hs
      subst hsp
      have hbl : b < w.heap.size := by
        have := World.block_lt_of_cell? w _ (hp0 0 _ rfl)
        simpa [Addr.add] using this
      haveI : Inhabited Pt := ⟨p0⟩
      obtain ⟨f, hf⟩ := choose_lt each
      refine ⟨(List.range len).map f, ⟨some ⟨b, o, none⟩, cap, by simp, by simpa using hl, fun _ => ⟨b, o, rfl, hbl, fun i p hp => ?_⟩⟩, ?_⟩
      · have hi : i < len := by
          have := (List.getElem?_eq_some_iff.1 hp).1
          simpa using this
        have hpf : p = f i := by
          simp [hi] at hp
          exact hp.symm
        subst hpf
        have c := (hf i hi).1
        have e : ∀ j, (⟨b, o, none⟩ : Addr).add (i * 4 + j) = ⟨b, o + i * 4 + j, none⟩ := fun j => by simp [Addr.add, Nat.add_assoc]
        have c0 := c 0 _ rfl
        have c1 := c 1 _ rfl
        have c2 := c 2 _ rfl
        have c3 := c 3 _ rfl
        rw [e] at c0 c1 c2 c3
        exact ⟨by simpa using c0, c1, c2, c3⟩
      · intro p hp
        obtain ⟨i, hi, rfl⟩ := List.mem_map.1 hp
        exact (hf i (List.mem_range.1 hi)).2
end Go.Proofs.YtghneolphdfdlabDoor
