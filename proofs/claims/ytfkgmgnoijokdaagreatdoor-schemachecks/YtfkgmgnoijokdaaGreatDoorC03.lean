/- Schemas: the calls whose answers the document fixes. -/
import Derived.Test.YtfkgmgnoijokdaaGreatDoorC02
namespace Go.Proofs.YtfkgmgnoijokdaaGreatDoor
open Go Go.RowKit Go.Shelf
abbrev exF : Obj := .cells #[.string ⟨#[97]⟩, .string ⟨#[73, 110, 116]⟩, .string ⟨#[33]⟩, .bool true, .string ⟨#[]⟩, .string ⟨#[98]⟩, .string ⟨#[84]⟩, .string ⟨#[33, 91, 33]⟩, .bool false, .string ⟨#[98]⟩] 33
abbrev exO (fb : Nat) : Obj := .cells #[.string ⟨#[84]⟩, .slice (some ⟨fb, 0, none⟩) 2 2] 41
set_option maxRecDepth 100000 in
set_option maxHeartbeats 2000000 in
theorem lexample_any (w : World) : Calls Tryz.prog 22 #[] w fun e w' => e = .returned (.agg #[.slice (some ⟨w.heap.size + 2, 0, none⟩) 1 1, .slice none 0 0]) ∧ Below w.heap.size w w' ∧ w'.heap[w.heap.size + 1]? = some exF ∧ w'.heap[w.heap.size + 2]? = some (exO (w.heap.size + 1)) ∧ w.heap.size + 3 ≤ w'.heap.size := by
  go_enter Tryz.func22, Tryz.ntmps22
  go_wp2
  refine bodyPost_ret (v := .agg #[.slice (some ⟨w.heap.size + 2, 0, none⟩) 1 1, .slice none 0 0]) (by simp [results, Tryz.results22, go_sem]) rfl ⟨rfl, ?_⟩
  refine ⟨(al2 w _ _).alloc (by simp; omega) _, ?_, ?_, ?_⟩
  · exact ((al1 _ _).block _ (by simp)).trans (new2 w _ _)
  · have := new2 (w.alloc (.cells #[.slice (some ⟨w.heap.size + 1 + 1, 0, none⟩) 1 1, .slice none 0 0] 25)) exF (exO (w.heap.size + 1))
    rw [World.size_alloc] at this
    exact this
  · rw [World.size_alloc, World.size_alloc, World.size_alloc]
    omega
theorem sch_two {W : World} {fb ob : Nat} {nm a0 a1 a2 a4 b0 b1 b2 b4 : Bs} {a3 b3 : Bool} (hF : W.heap[fb]? = some (.cells #[.string ⟨a0.toArray⟩, .string ⟨a1.toArray⟩, .string ⟨a2.toArray⟩, .bool a3, .string ⟨a4.toArray⟩, .string ⟨b0.toArray⟩, .string ⟨b1.toArray⟩, .string ⟨b2.toArray⟩, .bool b3, .string ⟨b4.toArray⟩] 33))
    (hO : W.heap[ob]? = some (.cells #[.string ⟨nm.toArray⟩, .slice (some ⟨fb, 0, none⟩) 2 2] 41)) : SchAt W (.slice (some ⟨ob, 0, none⟩) 1 1) (.slice none 0 0) ⟨[⟨nm, [⟨a0, a1, a2, a3, a4⟩, ⟨b0, b1, b2, b3, b4⟩]⟩], []⟩ := by
  have cF : ∀ j, W.cell? ⟨fb, j, none⟩ = (#[Value.string ⟨a0.toArray⟩, .string ⟨a1.toArray⟩, .string ⟨a2.toArray⟩, .bool a3, .string ⟨a4.toArray⟩, .string ⟨b0.toArray⟩, .string ⟨b1.toArray⟩, .string ⟨b2.toArray⟩, .bool b3, .string ⟨b4.toArray⟩] : Array Value)[j]? := fun j => by
    unfold World.cell?
    rw [hF]
    rfl
  have FA : FldsAt W (.slice (some ⟨fb, 0, none⟩) 2 2) [⟨a0, a1, a2, a3, a4⟩, ⟨b0, b1, b2, b3, b4⟩] := by
    refine ⟨_, 2, rfl, Nat.le_refl _, by simp, fun _ => ⟨fb, 0, rfl, lt_of_block hF, fun i hi x hx => ?_⟩⟩
    change i < 2 at hi
    rcases (show i = 0 ∨ i = 1 by omega) with rfl | rfl
    · simp only [List.getElem?_cons_zero] at hx
      cases hx
      exact ⟨cF 0, cF 1, cF 2, cF 3, cF 4⟩
    · simp only [List.getElem?_cons_zero, List.getElem?_cons_succ] at hx
      cases hx
      exact ⟨cF 5, cF 6, cF 7, cF 8, cF 9⟩
  refine ⟨⟨_, 1, rfl, Nat.le_refl _, by simp, fun _ => ⟨ob, 0, rfl, lt_of_block hO, fun i hi x hx => ?_⟩⟩, ⟨_, 0, rfl, Nat.le_refl _, by simp, fun h => absurd h (by simp)⟩⟩
  change i < 1 at hi
  have : i = 0 := by omega
  subst this
  simp only [List.getElem?_cons_zero] at hx
  cases hx
  obtain ⟨q0, q1, _⟩ := row2 hO
  exact ⟨q0, _, q1, FA⟩
theorem sch_none (W : World) : SchAt W (.slice none 0 0) (.slice none 0 0) ⟨[], []⟩ := ⟨⟨_, 0, rfl, Nat.le_refl _, by decide, fun h => absurd h (by decide)⟩, ⟨_, 0, rfl, Nat.le_refl _, by decide, fun h => absurd h (by decide)⟩⟩
abbrev exS : Sch := ⟨[⟨[84], [⟨[97], [73, 110, 116], [33], true, []⟩, ⟨[98], [84], [33, 91, 33], false, [98]⟩]⟩], []⟩
abbrev exT : Sch := ⟨[⟨[84], [⟨[97], [73, 110, 116], [33], true, []⟩, ⟨[98], [84], [91], false, [98]⟩]⟩], []⟩
abbrev exU : Sch := ⟨[⟨[84], [⟨[105, 100], [73, 110, 116], [33], true, []⟩, ⟨[98], [84], [33, 91, 33], false, [98]⟩]⟩], []⟩
theorem al3 (w : World) (o o' o'' : Obj) : Below w.heap.size w (((w.alloc o).alloc o').alloc o'') := (al2 w o o').alloc (by simp; omega) _
theorem fx_kp (V : World) (n1 n2 : Nat) : Kp (fun k => k = n1 + 1 ∨ k = n2 + 1) V ((V.setCell ⟨n1 + 1, 7, none⟩ (.string ⟨#[91]⟩)).setCell ⟨n2 + 1, 0, none⟩ (.string ⟨#[105, 100]⟩)) := (((Kp.refl (fun k => k = n1 + 1 ∨ k = n2 + 1) V).set (n1 + 1) 7 _ (Or.inr (Or.inl rfl))).set (n2 + 1) 0 _ (Or.inr (Or.inr rfl)))
theorem fx_kp1 (V : World) (n1 : Nat) : Kp (fun k => k = n1 + 1) V (V.setCell ⟨n1 + 1, 7, none⟩ (.string ⟨#[91]⟩)) := ((Kp.refl (fun k => k = n1 + 1) V).set (n1 + 1) 7 _ (Or.inr rfl))
section
variable {w w3 V : World} {n1 n2 : Nat} (hb : Below w.heap.size w w3) (hV : Below w3.heap.size w3 V) (h01 : w.heap.size + 3 ≤ n1) (h12 : n1 + 3 ≤ n2)
include hb hV h01 h12
theorem fx_below : Below w.heap.size w ((V.setCell ⟨n1 + 1, 7, none⟩ (.string ⟨#[91]⟩)).setCell ⟨n2 + 1, 0, none⟩ (.string ⟨#[105, 100]⟩)) := by
  have k := fx_kp V n1 n2
  have B := hb.trans (hV.mono hb.size)
  have := B.size
  exact ⟨k.os.trans B.os, k.tape.trans B.tape, k.output.trans B.output, Nat.le_trans B.size k.size, fun q hq => (k.block q (by omega) (fun e => by have e' : q = n1 + 1 ∨ q = n2 + 1 := e; omega)).trans (B.block q hq)⟩
omit hb h01 h12 in
/-- Other blocks stay. -/
theorem fx_keep {k : Nat} {o : Obj} (h : w3.heap[k]? = some o) (k1 : k ≠ n1 + 1) (k2 : k ≠ n2 + 1) : ((V.setCell ⟨n1 + 1, 7, none⟩ (.string ⟨#[91]⟩)).setCell ⟨n2 + 1, 0, none⟩ (.string ⟨#[105, 100]⟩)).heap[k]? = some o := by
  have hk : k < w3.heap.size := lt_of_block h
  have := hV.size
  exact ((fx_kp V n1 n2).block k (by omega) (fun e => by have e' : k = n1 + 1 ∨ k = n2 + 1 := e; omega)).trans ((hV.block k hk).trans h)
end
/-- What the fixed calls find in memory. -/
structure FxAt (w w3 V : World) (n1 n2 : Nat) : Prop where
  b : Below w.heap.size w ((V.setCell ⟨n1 + 1, 7, none⟩ (.string ⟨#[91]⟩)).setCell ⟨n2 + 1, 0, none⟩ (.string ⟨#[105, 100]⟩))
  s : SchAt ((V.setCell ⟨n1 + 1, 7, none⟩ (.string ⟨#[91]⟩)).setCell ⟨n2 + 1, 0, none⟩ (.string ⟨#[105, 100]⟩)) (.slice (some ⟨w.heap.size + 2, 0, none⟩) 1 1) (.slice none 0 0) exS
  t : SchAt ((V.setCell ⟨n1 + 1, 7, none⟩ (.string ⟨#[91]⟩)).setCell ⟨n2 + 1, 0, none⟩ (.string ⟨#[105, 100]⟩)) (.slice (some ⟨n1 + 2, 0, none⟩) 1 1) (.slice none 0 0) exT
  u : SchAt ((V.setCell ⟨n1 + 1, 7, none⟩ (.string ⟨#[91]⟩)).setCell ⟨n2 + 1, 0, none⟩ (.string ⟨#[105, 100]⟩)) (.slice (some ⟨n2 + 2, 0, none⟩) 1 1) (.slice none 0 0) exU
  o : ((V.setCell ⟨n1 + 1, 7, none⟩ (.string ⟨#[91]⟩)).setCell ⟨n2 + 1, 0, none⟩ (.string ⟨#[105, 100]⟩)).heap[w.heap.size + 2]? = some (exO (w.heap.size + 1))
  f : ((V.setCell ⟨n1 + 1, 7, none⟩ (.string ⟨#[91]⟩)).setCell ⟨n2 + 1, 0, none⟩ (.string ⟨#[105, 100]⟩)).heap[w.heap.size + 1]? = some exF
  k : ∀ q o, w3.heap.size ≤ q → V.heap[q]? = some o → ((V.setCell ⟨n1 + 1, 7, none⟩ (.string ⟨#[91]⟩)).setCell ⟨n2 + 1, 0, none⟩ (.string ⟨#[105, 100]⟩)).heap[q]? = some o
  c1 : V.cell? ⟨n1 + 2, 1, none⟩ = some (.slice (some ⟨n1 + 1, 0, none⟩) 2 2)
  c2 : V.cell? ⟨n1 + 1, 7, none⟩ = some (.string ⟨#[33, 91, 33]⟩)
  c3 : V.frozen? ⟨n1 + 1, 7, none⟩ = false
  d1 : (V.setCell ⟨n1 + 1, 7, none⟩ (.string ⟨#[91]⟩)).cell? ⟨n2 + 2, 1, none⟩ = some (.slice (some ⟨n2 + 1, 0, none⟩) 2 2)
  d2 : (V.setCell ⟨n1 + 1, 7, none⟩ (.string ⟨#[91]⟩)).cell? ⟨n2 + 1, 0, none⟩ = some (.string ⟨#[97]⟩)
  d3 : (V.setCell ⟨n1 + 1, 7, none⟩ (.string ⟨#[91]⟩)).frozen? ⟨n2 + 1, 0, none⟩ = false
  k1 : ∀ q o, w3.heap.size ≤ q → V.heap[q]? = some o → (V.setCell ⟨n1 + 1, 7, none⟩ (.string ⟨#[91]⟩)).heap[q]? = some o
theorem fx_at {w w3 V : World} {n1 n2 : Nat} (hb : Below w.heap.size w w3) (hV : Below w3.heap.size w3 V) (h01 : w.heap.size + 3 ≤ n1) (h12 : n1 + 3 ≤ n2) (h23 : n2 + 3 ≤ w3.heap.size)
    (s1 : w3.heap[w.heap.size + 1]? = some exF) (s2 : w3.heap[w.heap.size + 2]? = some (exO (w.heap.size + 1)))
    (t1 : w3.heap[n1 + 1]? = some exF) (t2 : w3.heap[n1 + 2]? = some (exO (n1 + 1)))
    (u1 : w3.heap[n2 + 1]? = some exF) (u2 : w3.heap[n2 + 2]? = some (exO (n2 + 1))) : FxAt w w3 V n1 n2 := by
  have T1 : V.heap[n1 + 1]? = some exF := (hV.block _ (lt_of_block t1)).trans t1
  have T2 : V.heap[n1 + 2]? = some (exO (n1 + 1)) := (hV.block _ (lt_of_block t2)).trans t2
  have U1 : (V.setCell ⟨n1 + 1, 7, none⟩ (.string ⟨#[91]⟩)).heap[n2 + 1]? = some exF := ((fx_kp1 V n1).block _ (by have := hV.size; omega) (fun e => by have e' : n2 + 1 = n1 + 1 := e; omega)).trans ((hV.block _ (lt_of_block u1)).trans u1)
  have U2 : (V.setCell ⟨n1 + 1, 7, none⟩ (.string ⟨#[91]⟩)).heap[n2 + 2]? = some (exO (n2 + 1)) := ((fx_kp1 V n1).block _ (by have := hV.size; omega) (fun e => by have e' : n2 + 2 = n1 + 1 := e; omega)).trans ((hV.block _ (lt_of_block u2)).trans u2)
  have keep := fun {k : Nat} {o : Obj} => fx_keep (n1 := n1) (n2 := n2) hV (k := k) (o := o)
  have HT : (V.setCell ⟨n1 + 1, 7, none⟩ (.string ⟨#[91]⟩)).heap[n1 + 1]? = some (.cells #[.string ⟨#[97]⟩, .string ⟨#[73, 110, 116]⟩, .string ⟨#[33]⟩, .bool true, .string ⟨#[]⟩, .string ⟨#[98]⟩, .string ⟨#[84]⟩, .string ⟨#[91]⟩, .bool false, .string ⟨#[98]⟩] 33) := by
    rw [heap_setCell_same _ _ 7 _ _ _ T1]
    rfl
  have HT2 : ((V.setCell ⟨n1 + 1, 7, none⟩ (.string ⟨#[91]⟩)).setCell ⟨n2 + 1, 0, none⟩ (.string ⟨#[105, 100]⟩)).heap[n1 + 1]? = some (.cells #[.string ⟨#[97]⟩, .string ⟨#[73, 110, 116]⟩, .string ⟨#[33]⟩, .bool true, .string ⟨#[]⟩, .string ⟨#[98]⟩, .string ⟨#[84]⟩, .string ⟨#[91]⟩, .bool false, .string ⟨#[98]⟩] 33) := (((Kp.refl (fun k => k = n2 + 1) (V.setCell ⟨n1 + 1, 7, none⟩ (.string ⟨#[91]⟩))).set (n2 + 1) 0 _ (Or.inr rfl)).block _ (lt_of_block HT) (fun e => by have e' : n1 + 1 = n2 + 1 := e; omega)).trans HT
  have HU : ((V.setCell ⟨n1 + 1, 7, none⟩ (.string ⟨#[91]⟩)).setCell ⟨n2 + 1, 0, none⟩ (.string ⟨#[105, 100]⟩)).heap[n2 + 1]? = some (.cells #[.string ⟨#[105, 100]⟩, .string ⟨#[73, 110, 116]⟩, .string ⟨#[33]⟩, .bool true, .string ⟨#[]⟩, .string ⟨#[98]⟩, .string ⟨#[84]⟩, .string ⟨#[33, 91, 33]⟩, .bool false, .string ⟨#[98]⟩] 33) := by
    rw [heap_setCell_same _ _ 0 _ _ _ U1]
    rfl
  refine ⟨fx_below hb hV h01 h12, sch_two (keep s1 (by omega) (by omega)) (keep s2 (by omega) (by omega)), sch_two HT2 (keep t2 (by omega) (by omega)), sch_two HU (keep u2 (by omega) (by omega)), keep s2 (by omega) (by omega), keep s1 (by omega) (by omega), ?_, ?_, ?_, ?_, ?_, ?_, ?_, ?_⟩
  · intro q o hq ho
    exact ((fx_kp V n1 n2).block q (lt_of_block ho) (fun e => by have e' : q = n1 + 1 ∨ q = n2 + 1 := e; omega)).trans ho
  · simp [World.cell?, T2]
  · simp [World.cell?, T1]
  · simp [World.frozen?, T1]
  · unfold World.cell?
    rw [U2]
    rfl
  · unfold World.cell?
    rw [U1]
    rfl
  · unfold World.frozen?
    rw [U1]
    rfl
  · intro q o hq ho
    exact ((fx_kp1 V n1).block q (lt_of_block ho) (fun e => by have e' : q = n1 + 1 := e; omega)).trans ho
theorem fx_v1 : chkS exS = 0 := by kernel_rfl
theorem fx_v2 : chkS exT = 93 := by kernel_rfl
theorem fx_v3 : chkS exU = 91 := by kernel_rfl
theorem fx_v4 : chkS ⟨[], []⟩ = 90 := by kernel_rfl
theorem fx_v5 : objS exS [84] = 0 := by kernel_rfl
theorem fx_v6 : objS exS [85] = -1 := by kernel_rfl
theorem fx_v7 : enuS exS [84] = -1 := by kernel_rfl
theorem fx_v8 : scaS [70, 108, 111, 97, 116] = true := by kernel_rfl
theorem fx_v9 : scaS [73, 68] = false := by kernel_rfl
theorem fx_v10 : edgS exS ⟨[98], [84], [33, 91, 33], false, [98]⟩ = 0 := by kernel_rfl
theorem fx_v11 : edgS exS ⟨[97], [73, 110, 116], [33], true, []⟩ = -1 := by kernel_rfl
theorem fx_v12 : backS exS 0 1 = 1 := by kernel_rfl
theorem fx_v13 : backS exS 0 0 = -1 := by kernel_rfl
theorem fx_v14 : backS exS 1 0 = -1 := by kernel_rfl
theorem new31 (w : World) (o o' o'' : Obj) : (((w.alloc o).alloc o').alloc o'').heap[w.heap.size]? = some o := ((al2 (w.alloc o) o' o'').block _ (by simp)).trans (heap_alloc_new w o)
theorem new32 (w : World) (o o' o'' : Obj) : (((w.alloc o).alloc o').alloc o'').heap[w.heap.size + 1]? = some o' := ((al1 ((w.alloc o).alloc o') o'').block _ (by simp)).trans (new2 w o o')
theorem new33 (w : World) (o o' o'' : Obj) : (((w.alloc o).alloc o').alloc o'').heap[w.heap.size + 1 + 1]? = some o'' := by
  have h := new2 (w.alloc o) o' o''
  rw [World.size_alloc] at h
  exact h
/-- The same, later. -/
structure FxL (w w3 : World) (n1 n2 : Nat) (W : World) : Prop where
  b : Below w.heap.size w W
  s : SchAt W (.slice (some ⟨w.heap.size + 2, 0, none⟩) 1 1) (.slice none 0 0) exS
  t : SchAt W (.slice (some ⟨n1 + 2, 0, none⟩) 1 1) (.slice none 0 0) exT
  u : SchAt W (.slice (some ⟨n2 + 2, 0, none⟩) 1 1) (.slice none 0 0) exU
  o : W.heap[w.heap.size + 2]? = some (exO (w.heap.size + 1))
  f : W.heap[w.heap.size + 1]? = some exF
  vs : W.heap[w3.heap.size]? = some (.cells #[.slice (some ⟨w.heap.size + 2, 0, none⟩) 1 1, .slice none 0 0] 25)
  vt : W.heap[w3.heap.size + 1]? = some (.cells #[.slice (some ⟨n1 + 2, 0, none⟩) 1 1, .slice none 0 0] 25)
  vu : W.heap[w3.heap.size + 1 + 1]? = some (.cells #[.slice (some ⟨n2 + 2, 0, none⟩) 1 1, .slice none 0 0] 25)
theorem FxL.on {w w3 W W' : World} {n1 n2 : Nat} (h : FxL w w3 n1 n2 W) (hb : Below W.heap.size W W') : FxL w w3 n1 n2 W' := by
  have kb : ∀ {q : Nat} {o : Obj}, W.heap[q]? = some o → W'.heap[q]? = some o := fun e => (hb.block _ (lt_of_block e)).trans e
  exact ⟨h.b.trans (hb.mono h.b.size), h.s.on hb, h.t.on hb, h.u.on hb, kb h.o, kb h.f, kb h.vs, kb h.vt, kb h.vu⟩
theorem FxL.obj {w w3 W : World} {n1 n2 : Nat} (h : FxL w w3 n1 n2 W) : W.cell? ⟨w.heap.size + 2, 1, none⟩ = some (.slice (some ⟨w.heap.size + 1, 0, none⟩) 2 2) := (row2 h.o).2.1
theorem FxL.fld {w w3 W : World} {n1 n2 : Nat} (h : FxL w w3 n1 n2 W) (j : Nat) : W.cell? ⟨w.heap.size + 1, j, none⟩ = (#[Value.string ⟨#[97]⟩, .string ⟨#[73, 110, 116]⟩, .string ⟨#[33]⟩, .bool true, .string ⟨#[]⟩, .string ⟨#[98]⟩, .string ⟨#[84]⟩, .string ⟨#[33, 91, 33]⟩, .bool false, .string ⟨#[98]⟩] : Array Value)[j]? := by
  unfold World.cell?
  rw [h.f]
  rfl
theorem FxL.S {w w3 W : World} {n1 n2 : Nat} (h : FxL w w3 n1 n2 W) : W.cell? ⟨w3.heap.size, 0, none⟩ = some (.slice (some ⟨w.heap.size + 2, 0, none⟩) 1 1) ∧ W.cell? ⟨w3.heap.size, 1, none⟩ = some (.slice none 0 0) ∧ W.cell? ⟨w3.heap.size + 1, 0, none⟩ = some (.slice (some ⟨n1 + 2, 0, none⟩) 1 1) ∧ W.cell? ⟨w3.heap.size + 1, 1, none⟩ = some (.slice none 0 0) ∧ W.cell? ⟨w3.heap.size + 1 + 1, 0, none⟩ = some (.slice (some ⟨n2 + 2, 0, none⟩) 1 1) ∧ W.cell? ⟨w3.heap.size + 1 + 1, 1, none⟩ = some (.slice none 0 0) ∧ W.cell? ⟨w.heap.size + 2, 1, none⟩ = some (.slice (some ⟨w.heap.size + 1, 0, none⟩) 2 2) ∧ W.cell? ⟨w.heap.size + 1, 0, none⟩ = some (.string ⟨#[97]⟩) ∧ W.cell? ⟨w.heap.size + 1, 1, none⟩ = some (.string ⟨#[73, 110, 116]⟩) ∧ W.cell? ⟨w.heap.size + 1, 2, none⟩ = some (.string ⟨#[33]⟩) ∧ W.cell? ⟨w.heap.size + 1, 3, none⟩ = some (.bool true) ∧ W.cell? ⟨w.heap.size + 1, 4, none⟩ = some (.string ⟨#[]⟩) ∧ W.cell? ⟨w.heap.size + 1, 5, none⟩ = some (.string ⟨#[98]⟩) ∧ W.cell? ⟨w.heap.size + 1, 6, none⟩ = some (.string ⟨#[84]⟩) ∧ W.cell? ⟨w.heap.size + 1, 7, none⟩ = some (.string ⟨#[33, 91, 33]⟩) ∧ W.cell? ⟨w.heap.size + 1, 8, none⟩ = some (.bool false) ∧ W.cell? ⟨w.heap.size + 1, 9, none⟩ = some (.string ⟨#[98]⟩) := ⟨(row2 h.vs).1, (row2 h.vs).2.1, (row2 h.vt).1, (row2 h.vt).2.1, (row2 h.vu).1, (row2 h.vu).2.1, h.obj, h.fld 0, h.fld 1, h.fld 2, h.fld 3, h.fld 4, h.fld 5, h.fld 6, h.fld 7, h.fld 8, h.fld 9⟩
theorem FxL.drew {w w3 W : World} {n1 n2 : Nat} (h : FxL w w3 n1 n2 W) : FxL w w3 n1 n2 W.drew := h.on ⟨rfl, rfl, rfl, Nat.le_refl _, fun _ _ => rfl⟩
set_option maxRecDepth 100000 in
set_option maxHeartbeats 8000000 in
theorem lfixed_any (w : World) (gl : Gl w) : Calls Tryz.prog 9 #[] w fun e w' => e = .returned (.bool true) ∧ Below w.heap.size w w' := by
  have EX := fun W => lexample_any W
  have GL := fun {W : World} (b : Below w.heap.size w W) => gl.below b (Nat.le_refl _)
  have C0 := fun {W3 W : World} {n1 n2 : Nat} (L : FxL w W3 n1 n2 W) => hcheck_any L.s (GL L.b)
  simp only [fx_v1] at C0
  have C1 := fun {W3 W : World} {n1 n2 : Nat} (L : FxL w W3 n1 n2 W) => hcheck_any L.t (GL L.b)
  simp only [fx_v2] at C1
  have C2 := fun {W3 W : World} {n1 n2 : Nat} (L : FxL w W3 n1 n2 W) => hcheck_any L.u (GL L.b)
  simp only [fx_v3] at C2
  have C3 := fun {W3 W : World} {n1 n2 : Nat} (L : FxL w W3 n1 n2 W) => hcheck_any (sch_none W) (GL L.b)
  simp only [fx_v4] at C3
  have C4 := fun {W3 W : World} {n1 n2 : Nat} (L : FxL w W3 n1 n2 W) => hobject_any L.s [84]
  simp only [fx_v5] at C4
  have C5 := fun {W3 W : World} {n1 n2 : Nat} (L : FxL w W3 n1 n2 W) => hobject_any L.s [85]
  simp only [fx_v6] at C5
  have C6 := fun {W3 W : World} {n1 n2 : Nat} (L : FxL w W3 n1 n2 W) => henum_any L.s [84]
  simp only [fx_v7] at C6
  have C7 := fun (W : World) => hscalar_any [70, 108, 111, 97, 116] W
  simp only [fx_v8] at C7
  have C8 := fun (W : World) => hscalar_any [73, 68] W
  simp only [fx_v9] at C8
  have C9 := fun {W3 W : World} {n1 n2 : Nat} (L : FxL w W3 n1 n2 W) => hedge_any L.s ⟨[98], [84], [33, 91, 33], false, [98]⟩
  simp only [fx_v10] at C9
  have C10 := fun {W3 W : World} {n1 n2 : Nat} (L : FxL w W3 n1 n2 W) => hedge_any L.s ⟨[97], [73, 110, 116], [33], true, []⟩
  simp only [fx_v11] at C10
  have C11 := fun {W3 W : World} {n1 n2 : Nat} (L : FxL w W3 n1 n2 W) => hback_any L.s 0 1
  simp only [fx_v12] at C11
  have C12 := fun {W3 W : World} {n1 n2 : Nat} (L : FxL w W3 n1 n2 W) => hback_any L.s 0 0
  simp only [fx_v13] at C12
  have C13 := fun {W3 W : World} {n1 n2 : Nat} (L : FxL w W3 n1 n2 W) => hback_any L.s 1 0
  simp only [fx_v14] at C13
  go_enter Tryz.func9, Tryz.ntmps9
  go_wp2_with (first
    | (go_at_call 22; (with_reducible refine (EX w2).mono ?_); rintro e w3 ⟨rfl, b3, u1, u2, hz3⟩; have B3 := B2.trans (b3.mono B2.size); have FX := fun o o' o'' => fx_at (w := w) (w3 := w3) (V := (((w3.alloc o).alloc o').alloc o'')) B3 (al3 w3 o o' o'') hz1 hz2 hz3 (kb3 b3 (kb2 s1)) (kb3 b3 (kb2 s2)) (kb3 b3 t1) (kb3 b3 t2) u1 u2; have L3 : ∀ o o' o'', o = (Obj.cells #[.slice (some ⟨w.heap.size + 2, 0, none⟩) 1 1, .slice none 0 0] 25) → o' = (Obj.cells #[.slice (some ⟨w1.heap.size + 2, 0, none⟩) 1 1, .slice none 0 0] 25) → o'' = (Obj.cells #[.slice (some ⟨w2.heap.size + 2, 0, none⟩) 1 1, .slice none 0 0] 25) → FxL w w3 w1.heap.size w2.heap.size (((((w3.alloc o).alloc o').alloc o'').setCell ⟨w1.heap.size + 1, 7, none⟩ (.string ⟨#[91]⟩)).setCell ⟨w2.heap.size + 1, 0, none⟩ (.string ⟨#[105, 100]⟩)) := fun o o' o'' e e' e'' => ⟨(FX o o' o'').b, (FX o o' o'').s, (FX o o' o'').t, (FX o o' o'').u, (FX o o' o'').o, (FX o o' o'').f, (FX o o' o'').k _ _ (Nat.le_refl _) (by rw [e]; exact new31 w3 _ _ _), (FX o o' o'').k _ _ (by omega) (by rw [e']; exact new32 w3 _ _ _), (FX o o' o'').k _ _ (by omega) (by rw [e'']; exact new33 w3 _ _ _)⟩; have c1 := fun o o' o'' => (FX o o' o'').c1; have c2 := fun o o' o'' => (FX o o' o'').c2; have c3 := fun o o' o'' => (FX o o' o'').c3; have d1 := fun o o' o'' => (FX o o' o'').d1; have d2 := fun o o' o'' => (FX o o' o'').d2; have d3 := fun o o' o'' => (FX o o' o'').d3; have v1 := fun o o' x y => (row2 ((FX o o' (Obj.cells #[x, y] 25)).k1 _ _ (by omega) (new33 w3 o o' (Obj.cells #[x, y] 25)))).1; have v2 := fun x y o' o'' => (row2 ((FX (Obj.cells #[x, y] 25) o' o'').k _ _ (Nat.le_refl _) (new31 w3 (Obj.cells #[x, y] 25) o' o''))).1; have v3 := fun x y o' o'' => (row2 ((FX (Obj.cells #[x, y] 25) o' o'').k _ _ (Nat.le_refl _) (new31 w3 (Obj.cells #[x, y] 25) o' o''))).2.1; clear FX)
    | (go_at_call 22; (with_reducible refine (EX w1).mono ?_); rintro e w2 ⟨rfl, b2, t1, t2, hz2⟩; have B2 := b1.trans (b2.mono b1.size); have kb2 : ∀ {q : Nat} {o : Obj}, w1.heap[q]? = some o → w2.heap[q]? = some o := fun e => (b2.block _ (lt_of_block e)).trans e; have kb3 : ∀ {w3 : World} {q : Nat} {o : Obj}, Below w2.heap.size w2 w3 → w2.heap[q]? = some o → w3.heap[q]? = some o := fun b e => (b.block _ (lt_of_block e)).trans e)
    | (go_at_call 22; (with_reducible refine (EX w).mono ?_); rintro e w1 ⟨rfl, b1, s1, s2, hz1⟩)
    | fail)
  have L4 := L3 _ _ _ rfl rfl rfl
  clear L3 c1 c2 c3 d1 d2 d3 v1 v2 v3
  generalize (((((w3.alloc (.cells #[.slice (some ⟨w.heap.size + 2, 0, none⟩) 1 1, .slice none 0 0] 25)).alloc (.cells #[.slice (some ⟨w1.heap.size + 2, 0, none⟩) 1 1, .slice none 0 0] 25)).alloc (.cells #[.slice (some ⟨w2.heap.size + 2, 0, none⟩) 1 1, .slice none 0 0] 25)).setCell ⟨w1.heap.size + 1, 7, none⟩ (.string ⟨#[91]⟩)).setCell ⟨w2.heap.size + 1, 0, none⟩ (.string ⟨#[105, 100]⟩)) = w4 at L4 ⊢
  simp only [List.append]
  go_region_held3 (fun w' => w'.cell? ⟨w3.heap.size, 0, none⟩ = some (.slice (some ⟨w.heap.size + 2, 0, none⟩) 1 1) ∧ w'.cell? ⟨w3.heap.size, 1, none⟩ = some (.slice none 0 0) ∧ w'.cell? ⟨w3.heap.size + 1, 0, none⟩ = some (.slice (some ⟨w1.heap.size + 2, 0, none⟩) 1 1) ∧ w'.cell? ⟨w3.heap.size + 1, 1, none⟩ = some (.slice none 0 0) ∧ w'.cell? ⟨w3.heap.size + 1 + 1, 0, none⟩ = some (.slice (some ⟨w2.heap.size + 2, 0, none⟩) 1 1) ∧ w'.cell? ⟨w3.heap.size + 1 + 1, 1, none⟩ = some (.slice none 0 0) ∧ w'.cell? ⟨w.heap.size + 2, 1, none⟩ = some (.slice (some ⟨w.heap.size + 1, 0, none⟩) 2 2) ∧ w'.cell? ⟨w.heap.size + 1, 0, none⟩ = some (.string ⟨#[97]⟩) ∧ w'.cell? ⟨w.heap.size + 1, 1, none⟩ = some (.string ⟨#[73, 110, 116]⟩) ∧ w'.cell? ⟨w.heap.size + 1, 2, none⟩ = some (.string ⟨#[33]⟩) ∧ w'.cell? ⟨w.heap.size + 1, 3, none⟩ = some (.bool true) ∧ w'.cell? ⟨w.heap.size + 1, 4, none⟩ = some (.string ⟨#[]⟩) ∧ w'.cell? ⟨w.heap.size + 1, 5, none⟩ = some (.string ⟨#[98]⟩) ∧ w'.cell? ⟨w.heap.size + 1, 6, none⟩ = some (.string ⟨#[84]⟩) ∧ w'.cell? ⟨w.heap.size + 1, 7, none⟩ = some (.string ⟨#[33, 91, 33]⟩) ∧ w'.cell? ⟨w.heap.size + 1, 8, none⟩ = some (.bool false) ∧ w'.cell? ⟨w.heap.size + 1, 9, none⟩ = some (.string ⟨#[98]⟩)) (first | exact L18.S | exact L17.S | exact L16.S | exact L15.S | exact L14.S | exact L13.S | exact L12.S | exact L11.S | exact L10.S | exact L9.S | exact L8.S | exact L7.S | exact L6.S | exact L5.S | exact L4.drew.S) ((first
      | (go_at_call 20; (with_reducible refine (C13 L17).mono ?_); rintro e w18 ⟨rfl, b18⟩; have L18 := L17.on b18; clear b18)
      | (go_at_call 20; (with_reducible refine (C12 L16).mono ?_); rintro e w17 ⟨rfl, b17⟩; have L17 := L16.on b17; clear b17)
      | (go_at_call 20; (with_reducible refine (C11 L15).mono ?_); rintro e w16 ⟨rfl, b16⟩; have L16 := L15.on b16; clear b16)
      | (go_at_call 18; (with_reducible refine (C10 L14).mono ?_); rintro e w15 ⟨rfl, b15⟩; have L15 := L14.on b15; clear b15)
      | (go_at_call 18; (with_reducible refine (C9 L13).mono ?_); rintro e w14 ⟨rfl, b14⟩; have L14 := L13.on b14; clear b14)
      | (go_at_call 16; (with_reducible refine (C8 w12).mono ?_); rintro e w13 ⟨rfl, hw13⟩; have L13 : FxL w w3 w1.heap.size w2.heap.size w13 := (by rw [hw13]; exact L12); clear hw13)
      | (go_at_call 16; (with_reducible refine (C7 w11).mono ?_); rintro e w12 ⟨rfl, hw12⟩; have L12 : FxL w w3 w1.heap.size w2.heap.size w12 := (by rw [hw12]; exact L11); clear hw12)
      | (go_at_call 14; (with_reducible refine (C6 L10).mono ?_); rintro e w11 ⟨rfl, b11⟩; have L11 := L10.on b11; clear b11)
      | (go_at_call 12; (with_reducible refine (C5 L9).mono ?_); rintro e w10 ⟨rfl, b10⟩; have L10 := L9.on b10; clear b10)
      | (go_at_call 12; (with_reducible refine (C4 L8).mono ?_); rintro e w9 ⟨rfl, b9⟩; have L9 := L8.on b9; clear b9)
      | (go_at_call 10; (with_reducible refine (C3 L7).mono ?_); rintro e w8 ⟨rfl, b8⟩; have L8 := L7.on b8; clear b8)
      | (go_at_call 10; (with_reducible refine (C2 L6).mono ?_); rintro e w7 ⟨rfl, b7⟩; have L7 := L6.on b7; clear b7)
      | (go_at_call 10; (with_reducible refine (C1 L5).mono ?_); rintro e w6 ⟨rfl, b6⟩; have L6 := L5.on b6; clear b6)
      | (go_at_call 10; (with_reducible refine (C0 L4.drew).mono ?_); rintro e w5 ⟨rfl, b5⟩; have L5 := (L4.drew).on b5; clear b5)
      | fail))
  go_wp2
  go_ret
  exact ⟨rfl, L18.b⟩
end Go.Proofs.YtfkgmgnoijokdaaGreatDoor
