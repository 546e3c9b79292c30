/- The reader of tokens: its small steps. -/
import Derived.Test.YthficamlgngaaaaGreatDoorLxS
import Derived.Test.YthficamlgngaaaaGreatDoorShelf
import Derived.Below
import Derived.Laws.OwnMore
import Derived.Defers
import Derived.Recover
import Derived.WalkSmall
import Derived.BigQuiet
import Derived.Deep.QuietTactic
import Derived.Deep.Light
import Derived.Test.YthficamlgngaaaaGreatDoorSyA
import Derived.Deep.RegionHeld3
import Derived.Deep.RegionLawGrows
import Derived.Deep.DrawnRows
namespace Go.Proofs.YthficamlgngaaaaGreatDoor
open Go Go.RowKit

/-- Of what was there only these blocks may have changed. -/
structure Kp (S : Nat → Prop) (w w' : World) : Prop where
  os : w'.os = w.os
  tape : w'.tape = w.tape
  output : w'.output = w.output
  size : w.heap.size ≤ w'.heap.size
  block : ∀ k, k < w.heap.size → ¬ S k → w'.heap[k]? = w.heap[k]?
theorem Kp.refl (S : Nat → Prop) (w : World) : Kp S w w := ⟨rfl, rfl, rfl, Nat.le_refl _, fun _ _ _ => rfl⟩
theorem Kp.trans {S : Nat → Prop} {a b c : World} (h : Kp S a b) (h' : Kp S b c) : Kp S a c :=
  ⟨h'.os.trans h.os, h'.tape.trans h.tape, h'.output.trans h.output, Nat.le_trans h.size h'.size, fun k hk hS => (h'.block k (Nat.lt_of_lt_of_le hk h.size) hS).trans (h.block k hk hS)⟩
theorem Kp.mono {S T : Nat → Prop} {a b : World} (h : Kp S a b) (hT : ∀ k, k < a.heap.size → S k → T k) : Kp T a b :=
  ⟨h.os, h.tape, h.output, h.size, fun k hk hn => h.block k hk (fun hs => hn (hT k hk hs))⟩
theorem Kp.below {S : Nat → Prop} {a b : World} {B : Nat} (h : Kp S a b) (hB : B ≤ a.heap.size) (hS : ∀ k, k < B → ¬ S k) : Below B a b :=
  ⟨h.os, h.tape, h.output, h.size, fun k hk => h.block k (Nat.lt_of_lt_of_le hk hB) (hS k hk)⟩
theorem Kp.of_below {S : Nat → Prop} {a b : World} (h : Below a.heap.size a b) : Kp S a b := ⟨h.os, h.tape, h.output, h.size, fun k hk _ => h.block k hk⟩
theorem Kp.alloc {S : Nat → Prop} {a b : World} (h : Kp S a b) (o : Obj) : Kp S a (b.alloc o) := h.trans (Kp.of_below ((Below.refl _ _).alloc (Nat.le_refl _) _))
theorem Kp.set {S : Nat → Prop} {a b : World} (h : Kp S a b) (g i : Nat) (v : Value) (hg : a.heap.size ≤ g ∨ S g) : Kp S a (b.setCell ⟨g, i, none⟩ v) :=
  ⟨h.os, h.tape, h.output, Nat.le_trans h.size (by simp [World.setCell]), fun k hk hS => (Below.heap_setCell b ⟨g, i, none⟩ v k (fun e => by
    have e' : k = g := e
    rcases hg with hg | hg
    · omega
    · exact hS (e' ▸ hg))).trans (h.block k hk hS)⟩
theorem Kp.drew {S : Nat → Prop} {a b : World} (h : Kp S a b) : Kp S a b.drew := ⟨h.os, h.tape, h.output, h.size, h.block⟩
theorem Kp.drewN {S : Nat → Prop} {a b : World} (h : Kp S a b) (n : Nat) : Kp S a (b.drewN n) := ⟨h.os, h.tape, h.output, h.size, h.block⟩
theorem Kp.then_below {S : Nat → Prop} {a b c : World} (h : Kp S a b) (hb : Below a.heap.size b c) : Kp S a c :=
  ⟨hb.os.trans h.os, hb.tape.trans h.tape, hb.output.trans h.output, Nat.le_trans h.size hb.size, fun k hk hS => (hb.block k hk).trans (h.block k hk hS)⟩
/-- Only the reader's own block. -/
abbrev Own1 (R : Nat) : Nat → Prop := fun k => k = R

theorem Kp.own {w : World} (R i : Nat) (v : Value) : Kp (Own1 R) w (w.setCell ⟨R, i, none⟩ v) := (Kp.refl (Own1 R) w).set R i v (Or.inr rfl)
theorem Kp.n {S : Nat → Prop} (w : World) (n : Nat) : Kp S w (w.drewN n) := (Kp.refl S w).drewN n
/-- The package variables that are read: their blocks, and that they hold something. -/
abbrev gM : Nat := 0
abbrev gE : Nat := 3
structure Gl (w : World) : Prop where
  mx : ∃ m, w.cell? ⟨gM, 0, none⟩ = some (.int .i64 m)
  es : ∃ ev, w.cell? ⟨gE, 0, none⟩ = some ev ∧ (ev = .nilIface ∨ ∃ te pe, ev = .iface te pe)
theorem cell_heap {w w' : World} {g : Nat} (h : w'.heap[g]? = w.heap[g]?) : w'.cell? ⟨g, 0, none⟩ = w.cell? ⟨g, 0, none⟩ := by
  unfold World.cell?; rw [h]
theorem Gl.of {w w' : World} (h : Gl w) (h1 : w'.heap[gM]? = w.heap[gM]?) (h2 : w'.heap[gE]? = w.heap[gE]?) : Gl w' := by
  obtain ⟨⟨m, hm⟩, ⟨ev, he, h3⟩⟩ := h
  exact ⟨⟨m, (cell_heap h1).trans hm⟩, ⟨ev, (cell_heap h2).trans he, h3⟩⟩
theorem Gl.ltM {w : World} (h : Gl w) : gM < w.heap.size := by
  obtain ⟨m, hm⟩ := h.mx
  exact World.block_lt_of_cell? w _ hm
theorem Gl.ltE {w : World} (h : Gl w) : gE < w.heap.size := by
  obtain ⟨m, hm, _⟩ := h.es
  exact World.block_lt_of_cell? w _ hm
theorem Gl.below {w w' : World} (h : Gl w) {B : Nat} (hb : Below B w w') (hB : w.heap.size ≤ B) : Gl w' :=
  h.of (hb.block _ (Nat.lt_of_lt_of_le h.ltM hB)) (hb.block _ (Nat.lt_of_lt_of_le h.ltE hB))
theorem Gl.kp {w w' : World} (h : Gl w) {S : Nat → Prop} (hk : Kp S w w') (h1 : ¬ S gM) (h2 : ¬ S gE) : Gl w' := h.of (hk.block _ h.ltM h1) (hk.block _ h.ltE h2)
theorem Gl.alloc {w : World} (h : Gl w) (o : Obj) : Gl (w.alloc o) := h.of (Below.heap_alloc w o _ h.ltM) (Below.heap_alloc w o _ h.ltE)

/-- The reader R of the document s: where the token begins, what is left. -/
structure Rd (w : World) (R : Nat) (s : Bs) (b : Nat) (l : Bs) : Prop where
  row : w.heap[R]? = some (.cells #[.string ⟨s.toArray⟩, .int .i64 (b : Int), .int .i64 ((s.length - l.length : Nat) : Int)] 100 (0, 0))
  suf : l <:+ s
  small : s.length ≤ 16384
  gl : Gl w
  hi : gM < R ∧ gE < R
section
variable {w w' : World} {R : Nat} {s : Bs} {b : Nat} {l : Bs}
theorem Rd.c0 (h : Rd w R s b l) : w.cell? ⟨R, 0, none⟩ = some (.string ⟨s.toArray⟩) := by simp [World.cell?, h.row]
theorem Rd.c1 (h : Rd w R s b l) : w.cell? ⟨R, 1, none⟩ = some (.int .i64 (b : Int)) := by simp [World.cell?, h.row]
theorem Rd.c2 (h : Rd w R s b l) : w.cell? ⟨R, 2, none⟩ = some (.int .i64 ((s.length - l.length : Nat) : Int)) := by simp [World.cell?, h.row]
theorem Rd.free (h : Rd w R s b l) (i : Nat) : w.frozen? ⟨R, i, none⟩ = false := frozen_of_row w R i _ _ h.row
theorem Rd.lt (h : Rd w R s b l) : R < w.heap.size := World.block_lt_of_cell? w _ h.c0
theorem Rd.le (h : Rd w R s b l) : l.length ≤ s.length := h.suf.length_le
theorem Rd.move (h : Rd w R s b l) {m : Bs} (hm : m <:+ l) (x : Int) (hx : x = ((s.length - m.length : Nat) : Int)) : Rd (w.setCell ⟨R, 2, none⟩ (.int .i64 x)) R s b m := by
  subst hx
  exact ⟨heap_setCell_same w R 2 _ _ _ h.row, hm.trans h.suf, h.small, h.gl.kp (Kp.own R 2 _) (fun e => absurd e (Nat.ne_of_lt h.hi.1)) (fun e => absurd e (Nat.ne_of_lt h.hi.2)), h.hi⟩
theorem Rd.begin (h : Rd w R s b l) (b' : Nat) (x : Int) (hx : x = (b' : Int)) : Rd (w.setCell ⟨R, 1, none⟩ (.int .i64 x)) R s b' l := by
  subst hx
  exact ⟨heap_setCell_same w R 1 _ _ _ h.row, h.suf, h.small, h.gl.kp (Kp.own R 1 _) (fun e => absurd e (Nat.ne_of_lt h.hi.1)) (fun e => absurd e (Nat.ne_of_lt h.hi.2)), h.hi⟩
theorem Rd.alloc (h : Rd w R s b l) (o : Obj) : Rd (w.alloc o) R s b l := ⟨(Below.heap_alloc w o R h.lt).trans h.row, h.suf, h.small, h.gl.alloc o, h.hi⟩
theorem Rd.drewN (h : Rd w R s b l) (n : Nat) : Rd (w.drewN n) R s b l := ⟨h.row, h.suf, h.small, h.gl.of rfl rfl, h.hi⟩
theorem Rd.below {B : Nat} (h : Rd w R s b l) (hb : Below B w w') (hR : R < B) : Rd w' R s b l := ⟨(hb.block R hR).trans h.row, h.suf, h.small, h.gl.of (hb.block _ (Nat.lt_trans h.hi.1 hR)) (hb.block _ (Nat.lt_trans h.hi.2 hR)), h.hi⟩
end
/-- Where the reader stands, in plain numbers: the document's size, the place, the rest as a slice. -/
theorem suf_facts {s l : Bs} (h : l <:+ s) : (ByteArray.mk s.toArray).size = s.length ∧ (ByteArray.mk s.toArray).extract (s.length - l.length) s.length = ⟨l.toArray⟩ ∧ s.length - l.length + l.length = s.length := by
  obtain ⟨p, rfl⟩ := h
  refine ⟨rfl, ?_, by simp⟩
  have e : (p ++ l).length - l.length = p.length := by simp
  rw [e]
  apply ByteArray.ext; apply Array.toList_inj.1; simp
theorem suf_get {s l : Bs} {c : UInt8} (h : (c :: l) <:+ s) : ∀ hlt, (ByteArray.mk s.toArray)[s.length - (c :: l).length]'hlt = c := by
  obtain ⟨p, rfl⟩ := h
  intro hlt
  show (p ++ c :: l).toArray[(p ++ c :: l).length - (c :: l).length] = c
  simp
theorem tail_suf (c : UInt8) (l : Bs) : l <:+ c :: l := List.suffix_cons c l
theorem drop_suf (n : Nat) (l : Bs) : l.drop n <:+ l := List.drop_suffix n l
theorem spanR_suf (S : Bs) : ∀ l, spanR S l <:+ l
  | [] => List.suffix_refl _
  | c :: l => by
    unfold spanR
    split
    · exact (spanR_suf S l).trans (tail_suf c l)
    · exact List.suffix_refl _
theorem spanN_suf (S : Bs) : ∀ l, spanN S l <:+ l
  | [] => List.suffix_refl _
  | c :: l => by
    unfold spanN
    split
    · exact List.suffix_refl _
    · exact (spanN_suf S l).trans (tail_suf c l)
theorem optT_suf (p l : Bs) : optT p l <:+ l := by
  unfold optT; split
  · exact drop_suf _ _
  · exact List.suffix_refl _
theorem optO_suf (p l : Bs) : optO p l <:+ l := by
  unfold optO; split
  · exact drop_suf _ _
  · exact List.suffix_refl _
theorem index_ge0 (S : Bs) (c : UInt8) : decide (0 ≤ Lib.indexByte S c) = S.contains c := by
  induction S with
  | nil => rfl
  | cons d S ih =>
    show decide (0 ≤ (if d == c then (0 : Int) else if Lib.indexByte S c == -1 then -1 else Lib.indexByte S c + 1)) = _
    by_cases h : d = c
    · subst h; simp
    · rw [if_neg (by simpa using h)]
      have e : (d :: S).contains c = S.contains c := by
        rw [List.contains_cons]
        have : (c == d) = false := by rw [beq_eq_false_iff_ne]; exact fun e => h e.symm
        rw [this]; rfl
      rw [e, ← ih]
      by_cases h2 : Lib.indexByte S c = -1
      · rw [if_pos (by simpa using h2), h2]
      · rw [if_neg (by simpa using h2)]
        have := Lib.indexByte_ge S c
        rw [decide_eq_true (by omega), decide_eq_true (by omega)]
theorem size_of (l : Bs) : (ByteArray.mk l.toArray).size = l.length := rfl
/-- The panic with this fault. -/
abbrev Dies (b : Nat) (e : Int) : Ending := .panicked [{ v := .iface 78 (.agg #[.int .i64 (b : Int), .int .i64 e]), recovered := false }]
end Go.Proofs.YthficamlgngaaaaGreatDoor
namespace Go.Proofs.YthficamlgngaaaaGreatDoor
open Go Go.RowKit

theorem Kp.cellAt {S : Nat → Prop} {w w' : World} (hk : Kp S w w') {g o : Nat} {v : Value} (h : w.cell? ⟨g, o, none⟩ = some v) (hS : ¬ S g) : w'.cell? ⟨g, o, none⟩ = some v := by
  have e := hk.block g (World.block_lt_of_cell? w _ h) hS
  rw [← h]
  simp only [World.cell?, e]
/-- Nothing that was there. -/
abbrev Non : Nat → Prop := fun _ => False
theorem Kp.any {S : Nat → Prop} {w w' : World} (h : Kp Non w w') : Kp S w w' := h.mono (fun _ _ e => e.elim)
theorem Kp.bel {w w' : World} (h : Kp Non w w') : Below w.heap.size w w' := h.below (Nat.le_refl _) (fun _ _ e => e)
/-- The panic with this fault. -/
abbrev DiesY (p : Nat × Int) : Ending := .panicked [{ v := .iface 46 (.agg #[.int .i64 (p.1 : Int), .int .i64 p.2]), recovered := false }]
/-- The tokens, and behind them the one that ends them. -/
structure Full (T : List Tok) : Prop where
  last : ∃ ts N, T = ts ++ [eofT N] ∧ ∀ t ∈ ts, ¬ (t.k = 0 ∧ t.t = [])
  small : T.length ≤ 2049
theorem Full.more {T l : List Tok} {t : Tok} (h : Full T) (hs : (t :: l) <:+ T) (ht : ¬ (t.k = 0 ∧ t.t = [])) : l ≠ [] := by
  rintro rfl
  obtain ⟨ts, N, rfl, hts⟩ := h.last
  obtain ⟨p, hp⟩ := hs
  have e := List.append_inj' hp (by simp)
  have : t = eofT N := by simpa using e.2
  subst this
  exact ht ⟨rfl, rfl⟩
section
variable {R g cap : Nat} {T : List Tok}

/-- The reader R of the tokens T: what is left, whether values are fixed, how deep it is. -/
structure Sx (R g cap : Nat) (T : List Tok) (w : World) (l : List Tok) (fx : Bool) (a b c : Nat) : Prop where
  row : w.heap[R]? = some (.cells #[.slice (some ⟨g, 0, none⟩) T.length cap, .int .i64 ((T.length - l.length : Nat) : Int), .bool fx, .int .i64 (a : Int), .int .i64 (b : Int), .int .i64 (c : Int)] 49 (0, 0))
  tk : ∀ (i : Nat) t, T[i]? = some t → w.cell? ⟨g, i * 4, none⟩ = some (.int .i64 t.k) ∧ w.cell? ⟨g, i * 4 + 1, none⟩ = some (.string ⟨t.t.toArray⟩) ∧ w.cell? ⟨g, i * 4 + 2, none⟩ = some (.int .i64 (t.b : Int)) ∧ w.cell? ⟨g, i * 4 + 3, none⟩ = some (.int .i64 (t.e : Int))
  suf : l <:+ T
  gR : g ≠ R
  lt : g < w.heap.size
  full : Full T
  deep : a ≤ 32 ∧ b ≤ 32 ∧ c ≤ 32
variable {w w' : World} {l : List Tok} {fx : Bool} {a b c : Nat}
theorem Sx.c0 (h : Sx R g cap T w l fx a b c) : w.cell? ⟨R, 0, none⟩ = some (.slice (some ⟨g, 0, none⟩) T.length cap) := by simp [World.cell?, h.row]
theorem Sx.c1 (h : Sx R g cap T w l fx a b c) : w.cell? ⟨R, 1, none⟩ = some (.int .i64 ((T.length - l.length : Nat) : Int)) := by simp [World.cell?, h.row]
theorem Sx.c2 (h : Sx R g cap T w l fx a b c) : w.cell? ⟨R, 2, none⟩ = some (.bool fx) := by simp [World.cell?, h.row]
theorem Sx.c3 (h : Sx R g cap T w l fx a b c) : w.cell? ⟨R, 3, none⟩ = some (.int .i64 (a : Int)) := by simp [World.cell?, h.row]
theorem Sx.c4 (h : Sx R g cap T w l fx a b c) : w.cell? ⟨R, 4, none⟩ = some (.int .i64 (b : Int)) := by simp [World.cell?, h.row]
theorem Sx.c5 (h : Sx R g cap T w l fx a b c) : w.cell? ⟨R, 5, none⟩ = some (.int .i64 (c : Int)) := by simp [World.cell?, h.row]
theorem Sx.free (h : Sx R g cap T w l fx a b c) (i : Nat) : w.frozen? ⟨R, i, none⟩ = false := frozen_of_row w R i _ _ h.row
theorem Sx.ltR (h : Sx R g cap T w l fx a b c) : R < w.heap.size := World.block_lt_of_cell? w _ h.c0
theorem Sx.kp {S : Nat → Prop} (h : Sx R g cap T w l fx a b c) (k : Kp S w w') (h1 : ¬ S R) (h2 : ¬ S g) : Sx R g cap T w' l fx a b c :=
  ⟨(k.block R h.ltR h1).trans h.row, fun i t hi => (by
    obtain ⟨q0, q1, q2, q3⟩ := h.tk i t hi
    exact ⟨k.cellAt q0 h2, k.cellAt q1 h2, k.cellAt q2 h2, k.cellAt q3 h2⟩), h.suf, h.gR, Nat.lt_of_lt_of_le h.lt k.size, h.full, h.deep⟩
theorem Sx.non (h : Sx R g cap T w l fx a b c) (k : Kp Non w w') : Sx R g cap T w' l fx a b c := h.kp k (fun e => e) (fun e => e)
theorem Sx.alloc (h : Sx R g cap T w l fx a b c) (o : Obj) : Sx R g cap T (w.alloc o) l fx a b c := h.non ((Kp.refl Non w).alloc o)
theorem Sx.drewN (h : Sx R g cap T w l fx a b c) (n : Nat) : Sx R g cap T (w.drewN n) l fx a b c := h.non (Kp.n w n)
theorem Sx.drew (h : Sx R g cap T w l fx a b c) : Sx R g cap T w.drew l fx a b c := h.non (Kp.refl Non w).drew
/-- A store into another block. -/
theorem Sx.set (h : Sx R g cap T w l fx a b c) (V i : Nat) (v : Value) (h1 : V ≠ R) (h2 : V ≠ g) : Sx R g cap T (w.setCell ⟨V, i, none⟩ v) l fx a b c :=
  h.kp (Kp.own V i v) (fun e => h1 e.symm) (fun e => h2 e.symm)
theorem Sx.put (h : Sx R g cap T w l fx a b c) (i : Nat) (v : Value) {m : List Tok} {fx' : Bool} {a' b' c' : Nat}
    (e : (#[.slice (some ⟨g, 0, none⟩) T.length cap, .int .i64 ((T.length - l.length : Nat) : Int), .bool fx, .int .i64 (a : Int), .int .i64 (b : Int), .int .i64 (c : Int)] : Array Value).setIfInBounds i v = #[.slice (some ⟨g, 0, none⟩) T.length cap, .int .i64 ((T.length - m.length : Nat) : Int), .bool fx', .int .i64 (a' : Int), .int .i64 (b' : Int), .int .i64 (c' : Int)]) (hm : m <:+ T) (hd : a' ≤ 32 ∧ b' ≤ 32 ∧ c' ≤ 32) :
    Sx R g cap T (w.setCell ⟨R, i, none⟩ v) m fx' a' b' c' :=
  ⟨e ▸ heap_setCell_same w R i _ _ _ h.row, fun j t hj => (by
    obtain ⟨q0, q1, q2, q3⟩ := h.tk j t hj
    have k : Kp (Own1 R) w (w.setCell ⟨R, i, none⟩ v) := Kp.own R i v
    exact ⟨k.cellAt q0 h.gR, k.cellAt q1 h.gR, k.cellAt q2 h.gR, k.cellAt q3 h.gR⟩), hm, h.gR, Nat.lt_of_lt_of_le h.lt (Kp.own R i v).size, h.full, hd⟩
theorem Sx.move (h : Sx R g cap T w l fx a b c) {m : List Tok} (hm : m <:+ l) (x : Int) (hx : x = ((T.length - m.length : Nat) : Int)) : Sx R g cap T (w.setCell ⟨R, 1, none⟩ (.int .i64 x)) m fx a b c := by
  subst hx; exact h.put 1 _ rfl (hm.trans h.suf) h.deep
theorem Sx.fix (h : Sx R g cap T w l fx a b c) (fx' : Bool) : Sx R g cap T (w.setCell ⟨R, 2, none⟩ (.bool fx')) l fx' a b c := h.put 2 _ rfl h.suf h.deep
theorem Sx.set3 (h : Sx R g cap T w l fx a b c) (x : Int) (a' : Nat) (hx : x = (a' : Int)) (ha : a' ≤ 32) : Sx R g cap T (w.setCell ⟨R, 3, none⟩ (.int .i64 x)) l fx a' b c := by
  subst hx; exact h.put 3 _ rfl h.suf ⟨ha, h.deep.2⟩
theorem Sx.set4 (h : Sx R g cap T w l fx a b c) (x : Int) (b' : Nat) (hx : x = (b' : Int)) (hb : b' ≤ 32) : Sx R g cap T (w.setCell ⟨R, 4, none⟩ (.int .i64 x)) l fx a b' c := by
  subst hx; exact h.put 4 _ rfl h.suf ⟨h.deep.1, hb, h.deep.2.2⟩
theorem Sx.set5 (h : Sx R g cap T w l fx a b c) (x : Int) (c' : Nat) (hx : x = (c' : Int)) (hc : c' ≤ 32) : Sx R g cap T (w.setCell ⟨R, 5, none⟩ (.int .i64 x)) l fx a b c' := by
  subst hx; exact h.put 5 _ rfl h.suf ⟨h.deep.1, h.deep.2.1, hc⟩
theorem suf_cons_get {t : Tok} {r T : List Tok} (h : (t :: r) <:+ T) : T[T.length - (t :: r).length]? = some t := by
  obtain ⟨p, rfl⟩ := h
  have e : (p ++ t :: r).length - (t :: r).length = p.length := by simp
  rw [e]; simp
theorem Sx.tail {t : Tok} {r : List Tok} (_h : Sx R g cap T w (t :: r) fx a b c) : r <:+ t :: r := List.suffix_cons t r
theorem Sx.le (h : Sx R g cap T w l fx a b c) : l.length ≤ T.length := h.suf.length_le
theorem cell_on {w w' : World} (hb : Below w.heap.size w w') {k i : Nat} {v : Value} (h : w.cell? ⟨k, i, none⟩ = some v) : w'.cell? ⟨k, i, none⟩ = some v := (hb.cell (p := ⟨k, i, none⟩) (World.block_lt_of_cell? w _ h)).trans h
theorem al1 (w : World) (o : Obj) : Below w.heap.size w (w.alloc o) := (Below.refl _ _).alloc (Nat.le_refl _) _

/-- The two cells of a new block, later on. -/
theorem pair_at {S : Nat → Prop} {w w1 : World} {v0 v1 : Value} {E : TypeId} (hk : Kp S (w.alloc (.cells #[v0, v1] E)) w1) (hS : ¬ S w.heap.size := by exact fun e => e) : w1.cell? ⟨w.heap.size, 0, none⟩ = some v0 ∧ w1.cell? ⟨w.heap.size, 1, none⟩ = some v1 ∧ ∀ j, w1.frozen? ⟨w.heap.size, j, none⟩ = false := by
  have hb : w1.heap[w.heap.size]? = some (.cells #[v0, v1] E (0, 0)) := (hk.block _ (by simp) hS).trans (heap_alloc_new _ _)
  exact ⟨by simp [World.cell?, hb], by simp [World.cell?, hb], fun j => frozen_of_row w1 _ j _ _ hb⟩

set_option maxHeartbeats 1000000 in
theorem ynext_any {t : Tok} {r : List Tok} (h : Sx R g cap T w (t :: r) fx a b c) : Calls Tryz.prog 88 #[.pointer (some ⟨R, 0, none⟩)] w fun e w' => e = .returned (.agg #[.int .i64 t.k, .string ⟨t.t.toArray⟩, .int .i64 (t.b : Int), .int .i64 (t.e : Int)]) ∧ Kp Non w w' := by
  have c0 := h.c0
  have c1 := h.c1
  obtain ⟨q0, q1, q2, q3⟩ := h.tk _ t (suf_cons_get h.suf)
  have hle := h.le
  have hlt : ((T.length - (t :: r).length : Nat) : Int) < (T.length : Int) := by simp only [List.length_cons] at hle ⊢; omega
  have hA0 : (0 : Int) ≤ ((T.length - (t :: r).length : Nat) : Int) := by omega
  have K1 : ∀ o v0 v1 v2 v3, Kp Non w (((((w.alloc o).setCell ⟨w.heap.size, 0, none⟩ v0).setCell ⟨w.heap.size, 1, none⟩ v1).setCell ⟨w.heap.size, 2, none⟩ v2).setCell ⟨w.heap.size, 3, none⟩ v3) := fun o v0 v1 v2 v3 =>
    (((((Kp.refl Non w).alloc o).set _ _ v0 (Or.inl (Nat.le_refl _))).set _ _ v1 (Or.inl (Nat.le_refl _))).set _ _ v2 (Or.inl (Nat.le_refl _))).set _ _ v3 (Or.inl (Nat.le_refl _))
  have hgl := h.lt
  have hRl := h.ltR
  have d0 := fun o => cell_on (al1 w o) c0
  have d1 := fun o => cell_on (al1 w o) c1
  have p0 := fun o => cell_on (al1 w o) q0
  have p1 := fun o => cell_on (al1 w o) q1
  have p2 := fun o => cell_on (al1 w o) q2
  have p3 := fun o => cell_on (al1 w o) q3
  clear h
  generalize T.length - (t :: r).length = A at *
  have hA : ((A : Nat) : Int).toNat = A := by omega
  go_enter Tryz.func88, Tryz.ntmps88
  go_wp2
  go_region_held3 (fun w' => w'.cell? ⟨R, 0, none⟩ = some (.slice (some ⟨g, 0, none⟩) T.length cap) ∧ w'.cell? ⟨R, 1, none⟩ = some (.int .i64 (A : Int)) ∧ w'.cell? ⟨g, A * 4, none⟩ = some (.int .i64 t.k) ∧ w'.cell? ⟨g, A * 4 + 1, none⟩ = some (.string ⟨t.t.toArray⟩) ∧ w'.cell? ⟨g, A * 4 + 2, none⟩ = some (.int .i64 (t.b : Int)) ∧ w'.cell? ⟨g, A * 4 + 3, none⟩ = some (.int .i64 (t.e : Int))) (go_keep) (fail)
  go_wp2
  refine bodyPost_ret (v := .agg #[.int .i64 t.k, .string ⟨t.t.toArray⟩, .int .i64 (t.b : Int), .int .i64 (t.e : Int)]) (by simp [results, Tryz.results88, go_sem]) rfl ⟨rfl, ?_⟩
  exact ((Kp.refl Non w).alloc _).drew

theorem fld0 (t : Tok) (w : World) : (Instr.field 40 (.agg #[.int .i64 t.k, .string ⟨t.t.toArray⟩, .int .i64 (t.b : Int), .int .i64 (t.e : Int)]) 0).run Tryz.prog w = .ok (.int .i64 t.k) w := by kernel_rfl
theorem fld1 (t : Tok) (w : World) : (Instr.field 40 (.agg #[.int .i64 t.k, .string ⟨t.t.toArray⟩, .int .i64 (t.b : Int), .int .i64 (t.e : Int)]) 1).run Tryz.prog w = .ok (.string ⟨t.t.toArray⟩) w := by kernel_rfl
theorem fld2 (t : Tok) (w : World) : (Instr.field 40 (.agg #[.int .i64 t.k, .string ⟨t.t.toArray⟩, .int .i64 (t.b : Int), .int .i64 (t.e : Int)]) 2).run Tryz.prog w = .ok (.int .i64 (t.b : Int)) w := by kernel_rfl
theorem fault_any {t : Tok} {r : List Tok} (x : Int) (h : Sx R g cap T w (t :: r) fx a b c) : Calls Tryz.prog 89 #[.pointer (some ⟨R, 0, none⟩), .int .i64 x] w fun e w' => e = .returned (.agg #[.int .i64 (t.b : Int), .int .i64 x]) ∧ Kp Non w w' := by
  have F := fld2 t
  go_enter Tryz.func89, Tryz.ntmps89
  go_wp2_with (go_at_call 88; refine (ynext_any (h.alloc _)).mono ?_; rintro e w1 ⟨rfl, k1⟩; obtain ⟨c0, c1, cf⟩ := pair_at k1)
  refine bodyPost_ret (v := .agg #[.int .i64 (t.b : Int), .int .i64 x]) (by simp [results, Tryz.results89, go_sem, c0, c1]) rfl ⟨rfl, ?_⟩
  exact ((((Kp.refl Non w).alloc _).trans k1).set _ _ _ (Or.inl (Nat.le_refl _))).set _ _ _ (Or.inl (Nat.le_refl _))

theorem seesKind_any {t : Tok} {r : List Tok} (x : Int) (h : Sx R g cap T w (t :: r) fx a b c) : Calls Tryz.prog 61 #[.pointer (some ⟨R, 0, none⟩), .int .i64 x] w fun e w' => e = .returned (.bool (t.k == x)) ∧ Kp Non w w' := by
  have F := fld0 t
  go_enter Tryz.func61, Tryz.ntmps61
  go_wp2_with (go_at_call 88; refine (ynext_any h).mono ?_; rintro e w1 ⟨rfl, k1⟩)
  go_ret
  exact ⟨rfl, k1⟩
theorem bytes_eq (x y : Bs) : ((ByteArray.mk x.toArray).toList == (ByteArray.mk y.toArray).toList) = (x == y) := by simp [ByteArray.toList_eq]

theorem sees_eq {t : Tok} {r : List Tok} (s : Bs) (h : Sx R g cap T w (t :: r) fx a b c) : Calls Tryz.prog 59 #[.pointer (some ⟨R, 0, none⟩), .string ⟨s.toArray⟩] w fun e w' => e = .returned (.bool (t.k == 0 && t.t == s)) ∧ Kp Non w w' := by
  have X := seesKind_any 0 h
  by_cases hk : (t.k == 0) = true
  · rw [hk] at X ⊢
    rw [Bool.true_and]
    clear hk
    have F := fld1 t
    go_enter Tryz.func59, Tryz.ntmps59
    go_wp2_with (first
      | (go_at_call 88; refine (ynext_any (h.non k1)).mono ?_; rintro e w2 ⟨rfl, k2⟩)
      | (go_at_call 61; refine X.mono ?_; rintro e w1 ⟨rfl, k1⟩))
    go_ret
    exact ⟨rfl, k1.trans k2⟩
  · have hk' : (t.k == 0) = false := Bool.eq_false_iff.2 hk
    rw [hk'] at X ⊢
    clear hk hk'
    go_enter Tryz.func59, Tryz.ntmps59
    go_wp2_with (go_at_call 61; refine X.mono ?_; rintro e w1 ⟨rfl, k1⟩)
    go_ret
    exact ⟨rfl, k1⟩

theorem seesWord_eq {t : Tok} {r : List Tok} (s : Bs) (h : Sx R g cap T w (t :: r) fx a b c) : Calls Tryz.prog 54 #[.pointer (some ⟨R, 0, none⟩), .string ⟨s.toArray⟩] w fun e w' => e = .returned (.bool (t.k == 1 && t.t == s)) ∧ Kp Non w w' := by
  have X := seesKind_any 1 h
  by_cases hk : (t.k == 1) = true
  · rw [hk] at X ⊢
    rw [Bool.true_and]
    clear hk
    have F := fld1 t
    go_enter Tryz.func54, Tryz.ntmps54
    go_wp2_with (first
      | (go_at_call 88; refine (ynext_any (h.non k1)).mono ?_; rintro e w2 ⟨rfl, k2⟩)
      | (go_at_call 61; refine X.mono ?_; rintro e w1 ⟨rfl, k1⟩))
    go_ret
    exact ⟨rfl, k1.trans k2⟩
  · have hk' : (t.k == 1) = false := Bool.eq_false_iff.2 hk
    rw [hk'] at X ⊢
    clear hk hk'
    go_enter Tryz.func54, Tryz.ntmps54
    go_wp2_with (go_at_call 61; refine X.mono ?_; rintro e w1 ⟨rfl, k1⟩)
    go_ret
    exact ⟨rfl, k1⟩
set_option maxHeartbeats 1000000 in
theorem read_any {t : Tok} {r : List Tok} (h : Sx R g cap T w (t :: r) fx a b c) : Calls Tryz.prog 90 #[.pointer (some ⟨R, 0, none⟩)] w fun e w' => e = .returned (.string ⟨t.t.toArray⟩) ∧ Sx R g cap T w' r fx a b c ∧ Kp (Own1 R) w w' := by
  have c0 := h.c0
  have c1 := h.c1
  have hf := h.free 1
  obtain ⟨q0, q1, q2, q3⟩ := h.tk _ t (suf_cons_get h.suf)
  have hle := h.le
  have hsm := h.full.small
  have hlt : ((T.length - (t :: r).length : Nat) : Int) < (T.length : Int) := by simp only [List.length_cons] at hle ⊢; omega
  have hA0 : (0 : Int) ≤ ((T.length - (t :: r).length : Nat) : Int) := by omega
  have hA2 : ((T.length - (t :: r).length : Nat) : Int) ≤ 2049 := by omega
  have hgR := h.gR
  have hRg : ¬ R = g := fun e => hgR e.symm
  have HM : Hid (Sx R g cap T (w.setCell ⟨R, 1, none⟩ (.int .i64 (((T.length - (t :: r).length : Nat) : Int) + 1))) r fx a b c) := h.move h.tail _ (by simp only [List.length_cons] at hle ⊢; omega)
  clear h hle hsm
  generalize T.length - (t :: r).length = A at *
  have hA : ((A : Nat) : Int).toNat = A := by omega
  have e1 : (A : Int) + 1 - 1 = A := by omega
  go_enter Tryz.func90, Tryz.ntmps90
  go_wp2
  go_quiet (fail)
  go_wp2
  go_ret
  exact ⟨rfl, HM.out.drewN _, by first | exact (Kp.own R 1 _).drewN _ | exact (Kp.n w _).trans (Kp.own R 1 _)⟩
theorem take_eq {t : Tok} {r : List Tok} (s : Bs) (h : Sx R g cap T w (t :: r) fx a b c) : Calls Tryz.prog 87 #[.pointer (some ⟨R, 0, none⟩), .string ⟨s.toArray⟩] w fun e w' => e = .returned (.bool (t.k == 0 && t.t == s)) ∧ Sx R g cap T w' (if (t.k == 0 && t.t == s) then r else t :: r) fx a b c ∧ Kp (Own1 R) w w' := by
  have X := sees_eq s h
  have hle := h.le
  have hsm := h.full.small
  by_cases hk : (t.k == 0 && t.t == s) = true
  · rw [hk] at X ⊢
    rw [if_pos rfl]
    clear hk
    go_enter Tryz.func87, Tryz.ntmps87
    go_wp2_with (go_at_call 59; refine X.mono ?_; rintro e w1 ⟨rfl, k1⟩; have h1 := h.non k1; have c1 := h1.c1; have hf := h1.free 1; have hA : ((T.length - (t :: r).length : Nat) : Int) ≤ 2049 := (by omega); have hA0 : (0 : Int) ≤ ((T.length - (t :: r).length : Nat) : Int) := (by omega); have HM : Hid (Sx R g cap T (w1.setCell ⟨R, 1, none⟩ (.int .i64 (((T.length - (t :: r).length : Nat) : Int) + 1))) r fx a b c) := h1.move h1.tail _ (by simp only [List.length_cons] at hle ⊢; omega); clear h1; generalize T.length - (t :: r).length = A at *)
    go_ret
    exact ⟨rfl, HM.out, k1.any.trans (Kp.own R 1 _)⟩
  · have hk' : (t.k == 0 && t.t == s) = false := Bool.eq_false_iff.2 hk
    rw [hk'] at X ⊢
    rw [if_neg (by simp)]
    clear hk hk'
    go_enter Tryz.func87, Tryz.ntmps87
    go_wp2_with (go_at_call 59; refine X.mono ?_; rintro e w1 ⟨rfl, k1⟩)
    go_ret
    exact ⟨rfl, h.non k1, k1.any⟩
theorem takeWord_eq {t : Tok} {r : List Tok} (s : Bs) (h : Sx R g cap T w (t :: r) fx a b c) : Calls Tryz.prog 35 #[.pointer (some ⟨R, 0, none⟩), .string ⟨s.toArray⟩] w fun e w' => e = .returned (.bool (t.k == 1 && t.t == s)) ∧ Sx R g cap T w' (if (t.k == 1 && t.t == s) then r else t :: r) fx a b c ∧ Kp (Own1 R) w w' := by
  have X := seesWord_eq s h
  have hle := h.le
  have hsm := h.full.small
  by_cases hk : (t.k == 1 && t.t == s) = true
  · rw [hk] at X ⊢
    rw [if_pos rfl]
    clear hk
    go_enter Tryz.func35, Tryz.ntmps35
    go_wp2_with (go_at_call 54; refine X.mono ?_; rintro e w1 ⟨rfl, k1⟩; have h1 := h.non k1; have c1 := h1.c1; have hf := h1.free 1; have hA : ((T.length - (t :: r).length : Nat) : Int) ≤ 2049 := (by omega); have hA0 : (0 : Int) ≤ ((T.length - (t :: r).length : Nat) : Int) := (by omega); have HM : Hid (Sx R g cap T (w1.setCell ⟨R, 1, none⟩ (.int .i64 (((T.length - (t :: r).length : Nat) : Int) + 1))) r fx a b c) := h1.move h1.tail _ (by simp only [List.length_cons] at hle ⊢; omega); clear h1; generalize T.length - (t :: r).length = A at *)
    go_ret
    exact ⟨rfl, HM.out, k1.any.trans (Kp.own R 1 _)⟩
  · have hk' : (t.k == 1 && t.t == s) = false := Bool.eq_false_iff.2 hk
    rw [hk'] at X ⊢
    rw [if_neg (by simp)]
    clear hk hk'
    go_enter Tryz.func35, Tryz.ntmps35
    go_wp2_with (go_at_call 54; refine X.mono ?_; rintro e w1 ⟨rfl, k1⟩)
    go_ret
    exact ⟨rfl, h.non k1, k1.any⟩
theorem yneed_yes (w : World) : Calls Tryz.prog 55 #[.pointer (some ⟨R, 0, none⟩), .bool true] w fun e w' => e = .returned (.tuple #[]) ∧ w = w' := by
  go_enter Tryz.func55, Tryz.ntmps55
  go_wp2
  go_end0
  exact ⟨rfl, rfl⟩
theorem yneed_no {t : Tok} {r : List Tok} (h : Sx R g cap T w (t :: r) fx a b c) : Calls Tryz.prog 55 #[.pointer (some ⟨R, 0, none⟩), .bool false] w fun e w' => e = DiesY (t.b, 60) ∧ Kp Non w w' := by
  go_enter Tryz.func55, Tryz.ntmps55
  go_wp2_with (go_at_call 89; refine (fault_any _ h).mono ?_; rintro e w1 ⟨rfl, k1⟩)
  exact ⟨rfl, rfl, k1⟩
end
end Go.Proofs.YthficamlgngaaaaGreatDoor
