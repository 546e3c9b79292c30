/- What of the memory may have changed; the reader of a document. -/
import Derived.Test.YtlabcadpkdgjnaaGreatDoorLxS
import Derived.Test.YtlabcadpkdgjnaaGreatDoorShelf
import Derived.Below
import Derived.Laws.OwnMore
import Derived.Defers
import Derived.Recover
import Derived.WalkSmall
import Derived.BigQuiet
import Derived.Deep.QuietTactic
import Derived.Deep.Light
namespace Go.Proofs.YtlabcadpkdgjnaaGreatDoor
open Go Go.RowKit

/-- Of what was there only these blocks may have changed. -/
structure Kp (S : Nat → Prop) (w w' : World) : Prop where
  os : w'.os = w.os
  tape : w'.tape = w.tape
  output : w'.output = w.output
  size : w.heap.size ≤ w'.heap.size
  block : ∀ k, k < w.heap.size → ¬ S k → w'.heap[k]? = w.heap[k]?
theorem Kp.refl (S : Nat → Prop) (w : World) : Kp S w w := ⟨rfl, rfl, rfl, Nat.le_refl _, fun _ _ _ => rfl⟩
theorem Kp.trans {S : Nat → Prop} {a b c : World} (h : Kp S a b) (h' : Kp S b c) : Kp S a c :=
  ⟨h'.os.trans h.os, h'.tape.trans h.tape, h'.output.trans h.output, Nat.le_trans h.size h'.size, fun k hk hS => (h'.block k (Nat.lt_of_lt_of_le hk h.size) hS).trans (h.block k hk hS)⟩
theorem Kp.mono {S T : Nat → Prop} {a b : World} (h : Kp S a b) (hT : ∀ k, k < a.heap.size → S k → T k) : Kp T a b :=
  ⟨h.os, h.tape, h.output, h.size, fun k hk hn => h.block k hk (fun hs => hn (hT k hk hs))⟩
theorem Kp.below {S : Nat → Prop} {a b : World} {B : Nat} (h : Kp S a b) (hB : B ≤ a.heap.size) (hS : ∀ k, k < B → ¬ S k) : Below B a b :=
  ⟨h.os, h.tape, h.output, h.size, fun k hk => h.block k (Nat.lt_of_lt_of_le hk hB) (hS k hk)⟩
theorem Kp.of_below {S : Nat → Prop} {a b : World} (h : Below a.heap.size a b) : Kp S a b := ⟨h.os, h.tape, h.output, h.size, fun k hk _ => h.block k hk⟩
theorem Kp.alloc {S : Nat → Prop} {a b : World} (h : Kp S a b) (o : Obj) : Kp S a (b.alloc o) := h.trans (Kp.of_below ((Below.refl _ _).alloc (Nat.le_refl _) _))
theorem Kp.set {S : Nat → Prop} {a b : World} (h : Kp S a b) (g i : Nat) (v : Value) (hg : a.heap.size ≤ g ∨ S g) : Kp S a (b.setCell ⟨g, i, none⟩ v) :=
  ⟨h.os, h.tape, h.output, Nat.le_trans h.size (by simp [World.setCell]), fun k hk hS => (Below.heap_setCell b ⟨g, i, none⟩ v k (fun e => by
    have e' : k = g := e
    rcases hg with hg | hg
    · omega
    · exact hS (e' ▸ hg))).trans (h.block k hk hS)⟩
theorem Kp.drew {S : Nat → Prop} {a b : World} (h : Kp S a b) : Kp S a b.drew := ⟨h.os, h.tape, h.output, h.size, h.block⟩
theorem Kp.drewN {S : Nat → Prop} {a b : World} (h : Kp S a b) (n : Nat) : Kp S a (b.drewN n) := ⟨h.os, h.tape, h.output, h.size, h.block⟩
theorem Kp.then_below {S : Nat → Prop} {a b c : World} (h : Kp S a b) (hb : Below a.heap.size b c) : Kp S a c :=
  ⟨hb.os.trans h.os, hb.tape.trans h.tape, hb.output.trans h.output, Nat.le_trans h.size hb.size, fun k hk hS => (hb.block k hk).trans (h.block k hk hS)⟩
/-- Only the reader's own block. -/
abbrev Own1 (R : Nat) : Nat → Prop := fun k => k = R

theorem Kp.own {w : World} (R i : Nat) (v : Value) : Kp (Own1 R) w (w.setCell ⟨R, i, none⟩ v) := (Kp.refl (Own1 R) w).set R i v (Or.inr rfl)
theorem Kp.n {S : Nat → Prop} (w : World) (n : Nat) : Kp S w (w.drewN n) := (Kp.refl S w).drewN n
/-- The package variables that are read: their blocks, and that they hold something. -/
abbrev gM : Nat := 0
abbrev gE : Nat := 3
structure Gl (w : World) : Prop where
  mx : ∃ m, w.cell? ⟨gM, 0, none⟩ = some (.int .i64 m)
  es : ∃ ev, w.cell? ⟨gE, 0, none⟩ = some ev ∧ (ev = .nilIface ∨ ∃ te pe, ev = .iface te pe)
theorem cell_heap {w w' : World} {g : Nat} (h : w'.heap[g]? = w.heap[g]?) : w'.cell? ⟨g, 0, none⟩ = w.cell? ⟨g, 0, none⟩ := by
  unfold World.cell?; rw [h]
theorem Gl.of {w w' : World} (h : Gl w) (h1 : w'.heap[gM]? = w.heap[gM]?) (h2 : w'.heap[gE]? = w.heap[gE]?) : Gl w' := by
  obtain ⟨⟨m, hm⟩, ⟨ev, he, h3⟩⟩ := h
  exact ⟨⟨m, (cell_heap h1).trans hm⟩, ⟨ev, (cell_heap h2).trans he, h3⟩⟩
theorem Gl.ltM {w : World} (h : Gl w) : gM < w.heap.size := by
  obtain ⟨m, hm⟩ := h.mx
  exact World.block_lt_of_cell? w _ hm
theorem Gl.ltE {w : World} (h : Gl w) : gE < w.heap.size := by
  obtain ⟨m, hm, _⟩ := h.es
  exact World.block_lt_of_cell? w _ hm
theorem Gl.below {w w' : World} (h : Gl w) {B : Nat} (hb : Below B w w') (hB : w.heap.size ≤ B) : Gl w' :=
  h.of (hb.block _ (Nat.lt_of_lt_of_le h.ltM hB)) (hb.block _ (Nat.lt_of_lt_of_le h.ltE hB))
theorem Gl.kp {w w' : World} (h : Gl w) {S : Nat → Prop} (hk : Kp S w w') (h1 : ¬ S gM) (h2 : ¬ S gE) : Gl w' := h.of (hk.block _ h.ltM h1) (hk.block _ h.ltE h2)
theorem Gl.alloc {w : World} (h : Gl w) (o : Obj) : Gl (w.alloc o) := h.of (Below.heap_alloc w o _ h.ltM) (Below.heap_alloc w o _ h.ltE)

/-- The reader R of the document s: where the token begins, what is left. -/
structure Rd (w : World) (R : Nat) (s : Bs) (b : Nat) (l : Bs) : Prop where
  row : w.heap[R]? = some (.cells #[.string ⟨s.toArray⟩, .int .i64 (b : Int), .int .i64 ((s.length - l.length : Nat) : Int)] 102 (0, 0))
  suf : l <:+ s
  small : s.length ≤ 16384
  gl : Gl w
  hi : gM < R ∧ gE < R
section
variable {w w' : World} {R : Nat} {s : Bs} {b : Nat} {l : Bs}
theorem Rd.c0 (h : Rd w R s b l) : w.cell? ⟨R, 0, none⟩ = some (.string ⟨s.toArray⟩) := by simp [World.cell?, h.row]
theorem Rd.c1 (h : Rd w R s b l) : w.cell? ⟨R, 1, none⟩ = some (.int .i64 (b : Int)) := by simp [World.cell?, h.row]
theorem Rd.c2 (h : Rd w R s b l) : w.cell? ⟨R, 2, none⟩ = some (.int .i64 ((s.length - l.length : Nat) : Int)) := by simp [World.cell?, h.row]
theorem Rd.free (h : Rd w R s b l) (i : Nat) : w.frozen? ⟨R, i, none⟩ = false := frozen_of_row w R i _ _ h.row
theorem Rd.lt (h : Rd w R s b l) : R < w.heap.size := World.block_lt_of_cell? w _ h.c0
theorem Rd.le (h : Rd w R s b l) : l.length ≤ s.length := h.suf.length_le
theorem Rd.move (h : Rd w R s b l) {m : Bs} (hm : m <:+ l) (x : Int) (hx : x = ((s.length - m.length : Nat) : Int)) : Rd (w.setCell ⟨R, 2, none⟩ (.int .i64 x)) R s b m := by
  subst hx
  exact ⟨heap_setCell_same w R 2 _ _ _ h.row, hm.trans h.suf, h.small, h.gl.kp (Kp.own R 2 _) (fun e => absurd e (Nat.ne_of_lt h.hi.1)) (fun e => absurd e (Nat.ne_of_lt h.hi.2)), h.hi⟩
theorem Rd.begin (h : Rd w R s b l) (b' : Nat) (x : Int) (hx : x = (b' : Int)) : Rd (w.setCell ⟨R, 1, none⟩ (.int .i64 x)) R s b' l := by
  subst hx
  exact ⟨heap_setCell_same w R 1 _ _ _ h.row, h.suf, h.small, h.gl.kp (Kp.own R 1 _) (fun e => absurd e (Nat.ne_of_lt h.hi.1)) (fun e => absurd e (Nat.ne_of_lt h.hi.2)), h.hi⟩
theorem Rd.alloc (h : Rd w R s b l) (o : Obj) : Rd (w.alloc o) R s b l := ⟨(Below.heap_alloc w o R h.lt).trans h.row, h.suf, h.small, h.gl.alloc o, h.hi⟩
theorem Rd.drewN (h : Rd w R s b l) (n : Nat) : Rd (w.drewN n) R s b l := ⟨h.row, h.suf, h.small, h.gl.of rfl rfl, h.hi⟩
theorem Rd.below {B : Nat} (h : Rd w R s b l) (hb : Below B w w') (hR : R < B) : Rd w' R s b l := ⟨(hb.block R hR).trans h.row, h.suf, h.small, h.gl.of (hb.block _ (Nat.lt_trans h.hi.1 hR)) (hb.block _ (Nat.lt_trans h.hi.2 hR)), h.hi⟩
end
/-- Where the reader stands, in plain numbers: the document's size, the place, the rest as a slice. -/
theorem suf_facts {s l : Bs} (h : l <:+ s) : (ByteArray.mk s.toArray).size = s.length ∧ (ByteArray.mk s.toArray).extract (s.length - l.length) s.length = ⟨l.toArray⟩ ∧ s.length - l.length + l.length = s.length := by
  obtain ⟨p, rfl⟩ := h
  refine ⟨rfl, ?_, by simp⟩
  have e : (p ++ l).length - l.length = p.length := by simp
  rw [e]
  apply ByteArray.ext; apply Array.toList_inj.1; simp
theorem suf_get {s l : Bs} {c : UInt8} (h : (c :: l) <:+ s) : ∀ hlt, (ByteArray.mk s.toArray)[s.length - (c :: l).length]'hlt = c := by
  obtain ⟨p, rfl⟩ := h
  intro hlt
  show (p ++ c :: l).toArray[(p ++ c :: l).length - (c :: l).length] = c
  simp
theorem tail_suf (c : UInt8) (l : Bs) : l <:+ c :: l := List.suffix_cons c l
theorem drop_suf (n : Nat) (l : Bs) : l.drop n <:+ l := List.drop_suffix n l
theorem spanR_suf (S : Bs) : ∀ l, spanR S l <:+ l
  | [] => List.suffix_refl _
  | c :: l => by
    unfold spanR
    split
    · exact (spanR_suf S l).trans (tail_suf c l)
    · exact List.suffix_refl _
theorem spanN_suf (S : Bs) : ∀ l, spanN S l <:+ l
  | [] => List.suffix_refl _
  | c :: l => by
    unfold spanN
    split
    · exact List.suffix_refl _
    · exact (spanN_suf S l).trans (tail_suf c l)
theorem optT_suf (p l : Bs) : optT p l <:+ l := by
  unfold optT; split
  · exact drop_suf _ _
  · exact List.suffix_refl _
theorem optO_suf (p l : Bs) : optO p l <:+ l := by
  unfold optO; split
  · exact drop_suf _ _
  · exact List.suffix_refl _
theorem index_ge0 (S : Bs) (c : UInt8) : decide (0 ≤ Lib.indexByte S c) = S.contains c := by
  induction S with
  | nil => rfl
  | cons d S ih =>
    show decide (0 ≤ (if d == c then (0 : Int) else if Lib.indexByte S c == -1 then -1 else Lib.indexByte S c + 1)) = _
    by_cases h : d = c
    · subst h; simp
    · rw [if_neg (by simpa using h)]
      have e : (d :: S).contains c = S.contains c := by
        rw [List.contains_cons]
        have : (c == d) = false := by rw [beq_eq_false_iff_ne]; exact fun e => h e.symm
        rw [this]; rfl
      rw [e, ← ih]
      by_cases h2 : Lib.indexByte S c = -1
      · rw [if_pos (by simpa using h2), h2]
      · rw [if_neg (by simpa using h2)]
        have := Lib.indexByte_ge S c
        rw [decide_eq_true (by omega), decide_eq_true (by omega)]
theorem size_of (l : Bs) : (ByteArray.mk l.toArray).size = l.length := rfl
/-- The panic with this fault. -/
abbrev Dies (b : Nat) (e : Int) : Ending := .panicked [{ v := .iface 75 (.agg #[.int .i64 (b : Int), .int .i64 e]), recovered := false }]
end Go.Proofs.YtlabcadpkdgjnaaGreatDoor
