/- Schemas: what they are as plain data, and what holds them in memory. -/
import Derived.Test.YtlabcadpkdgjnaaGreatDoorScN
namespace Go.Proofs.YtlabcadpkdgjnaaGreatDoor
open Go Go.RowKit Go.Shelf

structure Fld where
  n : Bs
  t : Bs
  w : Bs
  s : Bool
  i : Bs
structure Ob where
  n : Bs
  fs : List Fld
structure En where
  n : Bs
  ws : List Bs
structure Sch where
  os : List Ob
  es : List En
/-- A slice of n elements of sz cells each; what is said of the one that begins at a place. -/
def Sl (w : World) (v : Value) (n sz : Nat) (p : Nat → Nat → Nat → Prop) : Prop := ∃ a cap, v = .slice a n cap ∧ n ≤ cap ∧ n ≤ 140737488355328 ∧ (0 < n → ∃ b o, a = some ⟨b, o, none⟩ ∧ b < w.heap.size ∧ ∀ i, i < n → p i b (o + i * sz))
theorem Sl.mono {w w' : World} {v : Value} {n sz : Nat} {p p' : Nat → Nat → Nat → Prop} (h : Sl w v n sz p) (hz : w.heap.size ≤ w'.heap.size) (hp : ∀ i b o, b < w.heap.size → p i b o → p' i b o) : Sl w' v n sz p' := by
  obtain ⟨a, cap, h1, h2, h3, h4⟩ := h
  refine ⟨a, cap, h1, h2, h3, fun hn => ?_⟩
  obtain ⟨b, o, g1, g2, g3⟩ := h4 hn
  exact ⟨b, o, g1, Nat.lt_of_lt_of_le g2 hz, fun i hi => hp i b _ g2 (g3 i hi)⟩
def FldAt (w : World) (f : Fld) (b o : Nat) : Prop := w.cell? ⟨b, o, none⟩ = some (.string ⟨f.n.toArray⟩) ∧ w.cell? ⟨b, o + 1, none⟩ = some (.string ⟨f.t.toArray⟩) ∧ w.cell? ⟨b, o + 2, none⟩ = some (.string ⟨f.w.toArray⟩) ∧ w.cell? ⟨b, o + 3, none⟩ = some (.bool f.s) ∧ w.cell? ⟨b, o + 4, none⟩ = some (.string ⟨f.i.toArray⟩)
def FldsAt (w : World) (v : Value) (fs : List Fld) : Prop := Sl w v fs.length 5 fun i b o => ∀ f, fs[i]? = some f → FldAt w f b o
def WdsAt (w : World) (v : Value) (ws : List Bs) : Prop := Sl w v ws.length 1 fun i b o => ∀ x, ws[i]? = some x → w.cell? ⟨b, o, none⟩ = some (.string ⟨x.toArray⟩)
def ObAt (w : World) (x : Ob) (b o : Nat) : Prop := w.cell? ⟨b, o, none⟩ = some (.string ⟨x.n.toArray⟩) ∧ ∃ fv, w.cell? ⟨b, o + 1, none⟩ = some fv ∧ FldsAt w fv x.fs
def ObsAt (w : World) (v : Value) (os : List Ob) : Prop := Sl w v os.length 2 fun i b o => ∀ x, os[i]? = some x → ObAt w x b o
def EnAt (w : World) (x : En) (b o : Nat) : Prop := w.cell? ⟨b, o, none⟩ = some (.string ⟨x.n.toArray⟩) ∧ ∃ wv, w.cell? ⟨b, o + 1, none⟩ = some wv ∧ WdsAt w wv x.ws
def EnsAt (w : World) (v : Value) (es : List En) : Prop := Sl w v es.length 2 fun i b o => ∀ x, es[i]? = some x → EnAt w x b o
structure SchAt (w : World) (ov ev : Value) (s : Sch) : Prop where
  os : ObsAt w ov s.os
  es : EnsAt w ev s.es
section
variable {w w' : World} (hb : Below w.heap.size w w')
include hb
theorem FldAt.on {f : Fld} {b o : Nat} (h : FldAt w f b o) : FldAt w' f b o := ⟨cell_on hb h.1, cell_on hb h.2.1, cell_on hb h.2.2.1, cell_on hb h.2.2.2.1, cell_on hb h.2.2.2.2⟩
theorem FldsAt.on {v : Value} {fs : List Fld} (h : FldsAt w v fs) : FldsAt w' v fs := h.mono hb.size fun _ _ _ _ hp f hf => (hp f hf).on hb
theorem WdsAt.on {v : Value} {ws : List Bs} (h : WdsAt w v ws) : WdsAt w' v ws := h.mono hb.size fun _ _ _ _ hp f hf => cell_on hb (hp f hf)
theorem ObAt.on {x : Ob} {b o : Nat} (h : ObAt w x b o) : ObAt w' x b o := ⟨cell_on hb h.1, h.2.elim fun fv hf => ⟨fv, cell_on hb hf.1, hf.2.on hb⟩⟩
theorem ObsAt.on {v : Value} {os : List Ob} (h : ObsAt w v os) : ObsAt w' v os := h.mono hb.size fun _ _ _ _ hp f hf => (hp f hf).on hb
theorem EnAt.on {x : En} {b o : Nat} (h : EnAt w x b o) : EnAt w' x b o := ⟨cell_on hb h.1, h.2.elim fun fv hf => ⟨fv, cell_on hb hf.1, hf.2.on hb⟩⟩
theorem EnsAt.on {v : Value} {es : List En} (h : EnsAt w v es) : EnsAt w' v es := h.mono hb.size fun _ _ _ _ hp f hf => (hp f hf).on hb
theorem SchAt.on {ov ev : Value} {s : Sch} (h : SchAt w ov ev s) : SchAt w' ov ev s := ⟨h.os.on hb, h.es.on hb⟩
end
/-- The place of a name. -/
def plB (x : Bs) (l : List Bs) : Int := if x ∈ l then (l.idxOf x : Int) else -1
theorem plB_hit {x : Bs} {l : List Bs} {j : Nat} (h1 : l[j]? = some x) (h2 : ∀ i y, i < j → l[i]? = some y → (y == x) = false) : plB x l = (j : Int) := by
  have hm : x ∈ l := List.mem_of_getElem? h1
  obtain ⟨hj, he⟩ := List.getElem?_eq_some_iff.1 h1
  unfold plB
  rw [if_pos hm]
  have hlt := List.idxOf_lt_length_iff.2 hm
  have hx : l[l.idxOf x]'hlt = x := List.getElem_idxOf hlt
  have : l.idxOf x = j := by
    rcases Nat.lt_trichotomy (l.idxOf x) j with h | h | h
    · have := h2 _ _ h (List.getElem?_eq_getElem hlt)
      rw [hx] at this
      simp at this
    · exact h
    · have hn := List.not_of_lt_findIdx (p := (· == x)) (xs := l) (i := j) h
      rw [he] at hn
      simp at hn
  rw [this]
theorem plB_none {x : Bs} {l : List Bs} (h : ∀ (i : Nat) y, l[i]? = some y → (y == x) = false) : plB x l = -1 := by
  unfold plB
  rw [if_neg]
  intro hm
  obtain ⟨i, hi, he⟩ := List.mem_iff_getElem.1 hm
  have := h i _ (List.getElem?_eq_getElem hi)
  rw [he] at this
  simp at this
end Go.Proofs.YtlabcadpkdgjnaaGreatDoor
