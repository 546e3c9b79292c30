/- What may be asked of a type; scalars. -/
import Derived.Test.YtamkjpfomaapgaaGreatDoorC03
import Derived.Test.YtamkjpfomaapgaaGreatDoorG01
import Derived.Deep.RegionHeld3
namespace Go.Proofs.YtamkjpfomaapgaaGreatDoor
open Go Go.RowKit Go.Shelf
/-- Of what was there only blocks of one type, from one number on, have changed. -/
structure Gt (B E : Nat) (w w' : World) : Prop where
  os : w'.os = w.os
  tape : w'.tape = w.tape
  output : w'.output = w.output
  size : w.heap.size ≤ w'.heap.size
  block : ∀ k o, w.heap[k]? = some o → (k < B ∨ ∀ cur, o ≠ .cells cur E (0, 0)) → w'.heap[k]? = some o
theorem Gt.refl (B E : Nat) (w : World) : Gt B E w w := ⟨rfl, rfl, rfl, Nat.le_refl _, fun _ _ h _ => h⟩
theorem Gt.trans {B E : Nat} {w w' w'' : World} (h : Gt B E w w') (g : Gt B E w' w'') : Gt B E w w'' := ⟨g.os.trans h.os, g.tape.trans h.tape, g.output.trans h.output, Nat.le_trans h.size g.size, fun k o hk hq => g.block k o (h.block k o hk hq) hq⟩
theorem gt_of {B E : Nat} {w w' : World} (h : Below w.heap.size w w') : Gt B E w w' := ⟨h.os, h.tape, h.output, h.size, fun k _ hk _ => (h.block k (lt_of_block hk)).trans hk⟩
theorem Gt.below {B E : Nat} {w w' : World} (h : Gt B E w w') (hB : B ≤ w.heap.size) : Below B w w' := ⟨h.os, h.tape, h.output, h.size, fun k hk => by
    have hlt : k < w.heap.size := Nat.lt_of_lt_of_le hk hB
    have e : w.heap[k]? = some w.heap[k] := Array.getElem?_eq_getElem hlt
    rw [e]
    exact h.block k _ e (Or.inl hk)⟩
theorem Gt.base {B B' E : Nat} {w w' : World} (h : Gt B E w w') (hB : B' ≤ B) : Gt B' E w w' := ⟨h.os, h.tape, h.output, h.size, fun k o hk hq => h.block k o hk (hq.elim (fun q => Or.inl (Nat.lt_of_lt_of_le q hB)) Or.inr)⟩
theorem gt_grown {w w' : World} {B E sz n : Nat} {u : Value} {xs : List Value} (own : w.ownsRow B E sz u n xs) (g : w.grownBy w' u.ownBlock) : Gt B E w w' := ⟨g.os, g.tape, g.output, g.size, fun k o hk hq => (g.block k (lt_of_block hk) (fun e => by
    rcases own.2 with ⟨rfl, _⟩ | ⟨q, cap, cr, hv, hB, hq2, _⟩
    · cases e
    · rw [hv] at e
      have e2 : k = q := by simpa [Value.ownBlock] using e
      subst e2
      rw [hq2] at hk
      cases hk
      rcases hq with hq | hq
      · omega
      · exact hq _ rfl)).trans hk⟩
theorem Gt.cell {B E : Nat} {w w' : World} (h : Gt B E w w') {k j : Nat} {v : Value} (hk : w.cell? ⟨k, j, none⟩ = some v) (hB : k < B) : w'.cell? ⟨k, j, none⟩ = some v := by
  have hlt := World.block_lt_of_cell? w _ hk
  have e : w.heap[k]? = some w.heap[k] := Array.getElem?_eq_getElem hlt
  have e2 := h.block k _ e (Or.inl hB)
  rw [← e] at e2
  exact (World.cell?_of_block (a := ⟨k, j, none⟩) e2).trans hk
section
variable {α : Type} {f : α → List Value} {sz : Nat}
theorem RowO.gt {w w' : World} {B B' E E' : Nat} {v : Value} {l : List α} (h : RowO w B E sz f v l) (g : Gt B' E' w w') (hE : E ≠ E') : RowO w' B E sz f v l := h.blk fun _ _ _ hk => g.block _ _ hk (Or.inr fun _ e => by cases e; exact hE rfl)
/-- A row that is written out. -/
theorem RowO.lit {w : World} {B E g n : Nat} {l : List α} {cs : Array Value} (hf : ∀ x, (f x).length = sz) (hB : B ≤ g) (h : w.heap[g]? = some (.cells cs E (0, 0))) (hc : cs.toList = l.flatMap f) (hn : l.length = n) (hm : n ≤ maxLen) : RowO w B E sz f (.slice (some ⟨g, 0, none⟩) n n) l := by
  have e : cs.toList.length = n * sz := by rw [hc, flat_len hf, hn]
  subst hn
  refine ⟨flat_len hf l, Or.inr ⟨g, l.length, cs, rfl, hB, h, Nat.le_refl _, hm, by rw [← Array.length_toList, e], ?_⟩⟩
  rw [← hc, List.take_of_length_le (by omega)]
theorem RowO.own {w : World} {B E n : Nat} {v : Value} {l : List α} (h : RowO w B E sz f v l) (hn : l.length = n) : w.ownsRow B E sz v n (l.flatMap f) := by
  subst hn
  exact h
theorem RowO.none {w : World} {B E : Nat} : RowO w B E sz f (.slice none 0 0) [] := ⟨by simp, Or.inl ⟨rfl, rfl⟩⟩
theorem RowO.len {w : World} {B E : Nat} {v : Value} {l : List α} (h : RowO w B E sz f v l) : l.length ≤ maxLen := by
  rcases h.2 with ⟨_, h2⟩ | ⟨g, cap, cur, _, _, _, hn, hm, _⟩
  · omega
  · omega
theorem RowO.cells {w : World} {B E : Nat} {v : Value} {l : List α} (h : RowO w B E sz f v l) (hl : l ≠ []) : ∃ g c, v = .slice (some ⟨g, 0, .none⟩) l.length c ∧ B ≤ g ∧ g < w.heap.size ∧ l.length ≤ c ∧ c ≤ maxLen ∧ ∀ j u, (l.flatMap f)[j]? = some u → w.cell? ⟨g, j, .none⟩ = some u := by
  rcases h.2 with ⟨h1, h2⟩ | ⟨g, cap, cur, hv, hB, hg, hn, hm, _, ht⟩
  · exact absurd (List.length_eq_zero_iff.1 h2) hl
  · refine ⟨g, cap, hv, hB, lt_of_block hg, hn, hm, fun j u hu => ?_⟩
    rw [← ht, List.getElem?_take] at hu
    split at hu
    · unfold World.cell?
      rw [hg]
      simpa using hu
    · cases hu
end
abbrev innC (i : Inn) : List Value := [.string ⟨i.n.toArray⟩, .string ⟨i.t.toArray⟩, .string ⟨i.w.toArray⟩]
abbrev outC (p : Ot × Value) : List Value := [.string ⟨p.1.n.toArray⟩, .string ⟨p.1.t.toArray⟩, .string ⟨p.1.w.toArray⟩, p.2]
abbrev defC (p : Df × Value × Value × Value) : List Value := [.string ⟨p.1.n.toArray⟩, .int .i64 p.1.k, p.2.1, p.2.2.1, p.2.2.2]
/-- Words, arguments, fields, definitions: rows of a call's own. -/
abbrev WdR (w : World) (B : Nat) (v : Value) (l : List Bs) : Prop := RowO w B 9 1 wrdC v l
abbrev InR (w : World) (B : Nat) (v : Value) (l : List Inn) : Prop := RowO w B 39 3 innC v l
def OtR (w : World) (B : Nat) (v : Value) (l : List Ot) : Prop := ∃ lp : List (Ot × Value), lp.map (·.1) = l ∧ RowO w B 41 4 outC v lp ∧ ∀ p ∈ lp, InR w B p.2 p.1.ar
structure DfO (w : World) (B : Nat) (p : Df × Value × Value × Value) : Prop where
  ws : WdR w B p.2.1 p.1.ws
  os : OtR w B p.2.2.1 p.1.os
  is : InR w B p.2.2.2 p.1.is
def DfR (w : World) (B : Nat) (v : Value) (l : List Df) : Prop := ∃ lp : List (Df × Value × Value × Value), lp.map (·.1) = l ∧ RowO w B 35 5 defC v lp ∧ ∀ p ∈ lp, DfO w B p
theorem OtR.on {w w' : World} {B : Nat} {v : Value} {l : List Ot} (h : OtR w B v l) (hb : Below w.heap.size w w') : OtR w' B v l := by
  obtain ⟨lp, h1, h2, h3⟩ := h
  exact ⟨lp, h1, h2.on hb, fun p hp => (h3 p hp).on hb⟩
theorem OtR.gt {w w' : World} {B B' E : Nat} {v : Value} {l : List Ot} (h : OtR w B v l) (hb : Gt B' E w w') (h1 : 41 ≠ E) (h2 : 39 ≠ E) : OtR w' B v l := by
  obtain ⟨lp, q1, q2, q3⟩ := h
  exact ⟨lp, q1, q2.gt hb h1, fun p hp => (q3 p hp).gt hb h2⟩
theorem OtR.base {w : World} {B B' : Nat} {v : Value} {l : List Ot} (h : OtR w B v l) (hb : B' ≤ B) : OtR w B' v l := by
  obtain ⟨lp, q1, q2, q3⟩ := h
  exact ⟨lp, q1, q2.base hb, fun p hp => (q3 p hp).base hb⟩
theorem DfO.on {w w' : World} {B : Nat} {p : Df × Value × Value × Value} (h : DfO w B p) (hb : Below w.heap.size w w') : DfO w' B p := ⟨h.ws.on hb, h.os.on hb, h.is.on hb⟩
theorem DfO.base {w : World} {B B' : Nat} {p : Df × Value × Value × Value} (h : DfO w B p) (hb : B' ≤ B) : DfO w B' p := ⟨h.ws.base hb, h.os.base hb, h.is.base hb⟩
theorem DfO.gt {w w' : World} {B B' : Nat} {p : Df × Value × Value × Value} (h : DfO w B p) (hb : Gt B' 35 w w') : DfO w' B p := ⟨h.ws.gt hb (by decide), h.os.gt hb (by decide) (by decide), h.is.gt hb (by decide)⟩
theorem DfR.on {w w' : World} {B : Nat} {v : Value} {l : List Df} (h : DfR w B v l) (hb : Below w.heap.size w w') : DfR w' B v l := by
  obtain ⟨lp, h1, h2, h3⟩ := h
  exact ⟨lp, h1, h2.on hb, fun p hp => (h3 p hp).on hb⟩
theorem DfR.base {w : World} {B B' : Nat} {v : Value} {l : List Df} (h : DfR w B v l) (hb : B' ≤ B) : DfR w B' v l := by
  obtain ⟨lp, h1, h2, h3⟩ := h
  exact ⟨lp, h1, h2.base hb, fun p hp => (h3 p hp).base hb⟩
abbrev innV (i : Inn) : Value := .agg #[.string ⟨i.n.toArray⟩, .string ⟨i.t.toArray⟩, .string ⟨i.w.toArray⟩]
abbrev outV (p : Ot × Value) : Value := .agg #[.string ⟨p.1.n.toArray⟩, .string ⟨p.1.t.toArray⟩, .string ⟨p.1.w.toArray⟩, p.2]
abbrev defV (p : Df × Value × Value × Value) : Value := .agg #[.string ⟨p.1.n.toArray⟩, .int .i64 p.1.k, p.2.1, p.2.2.1, p.2.2.2]
theorem Tryz.infoIn : (Tryz.prog.info? 39).map (fun i => (i.zero, i.size, i.bytes)) = some (some (.agg #[.string ⟨#[]⟩, .string ⟨#[]⟩, .string ⟨#[]⟩]), 3, 48) := by kernel_rfl
theorem Tryz.infoOut : (Tryz.prog.info? 41).map (fun i => (i.zero, i.size, i.bytes)) = some (some (.agg #[.string ⟨#[]⟩, .string ⟨#[]⟩, .string ⟨#[]⟩, .slice none 0 0]), 4, 72) := by kernel_rfl
theorem Tryz.infoDef : (Tryz.prog.info? 35).map (fun i => (i.zero, i.size, i.bytes)) = some (some (.agg #[.string ⟨#[]⟩, .int .i64 0, .slice none 0 0, .slice none 0 0, .slice none 0 0]), 5, 96) := by kernel_rfl
end Go.Proofs.YtamkjpfomaapgaaGreatDoor
namespace Go.Proofs.YtamkjpfomaapgaaGreatDoor
open Go Go.RowKit Go.Shelf
theorem row3 {w1 : World} {X : Nat} {v0 v1 v2 : Value} {E : TypeId} (hb : w1.heap[X]? = some (.cells #[v0, v1, v2] E (0, 0))) : w1.cell? ⟨X, 0, none⟩ = some v0 ∧ w1.cell? ⟨X, 1, none⟩ = some v1 ∧ w1.cell? ⟨X, 2, none⟩ = some v2 ∧ ∀ j, w1.frozen? ⟨X, j, none⟩ = false :=
  ⟨by simp [World.cell?, hb], by simp [World.cell?, hb], by simp [World.cell?, hb], fun j => frozen_of_row w1 _ j _ _ hb⟩
theorem bytes_add (x y : Bs) : (⟨x.toArray⟩ : ByteArray) ++ ⟨y.toArray⟩ = ⟨(x ++ y).toArray⟩ := by
  apply ByteArray.ext
  simp [ByteArray.data_append]
section
variable (w : World)
set_option maxRecDepth 100000 in
theorem gin_any (a b c : ByteArray) : Calls Tryz.prog 66 #[.string a, .string b, .string c] w fun e w' => e = .returned (.agg #[.string a, .string b, .string c]) ∧ Below w.heap.size w w' := by
  go_enter Tryz.func66, Tryz.ntmps66
  go_wp2
  exact bodyPost_ret (v := .agg #[.string a, .string b, .string c]) (by simp [results, Tryz.results66, go_sem]) rfl ⟨rfl, al1 w _⟩
set_option maxRecDepth 100000 in
theorem gout_any (a b c : ByteArray) (p : Option Addr) (n m : Nat) : Calls Tryz.prog 34 #[.string a, .string b, .string c, .slice p n m] w fun e w' => e = .returned (.agg #[.string a, .string b, .string c, .slice p n m]) ∧ Below w.heap.size w w' := by
  go_enter Tryz.func34, Tryz.ntmps34
  go_wp2
  exact bodyPost_ret (v := .agg #[.string a, .string b, .string c, .slice p n m]) (by simp [results, Tryz.results34, go_sem]) rfl ⟨rfl, al1 w _⟩
set_option maxRecDepth 100000 in
theorem gins_any (a : ByteArray) (p : Option Addr) (n m : Nat) : Calls Tryz.prog 65 #[.string a, .slice p n m] w fun e w' => e = .returned (.agg #[.string a, .int .i64 3, .slice none 0 0, .slice none 0 0, .slice p n m]) ∧ Below w.heap.size w w' := by
  go_enter Tryz.func65, Tryz.ntmps65
  go_wp2
  exact bodyPost_ret (v := .agg #[.string a, .int .i64 3, .slice none 0 0, .slice none 0 0, .slice p n m]) (by simp [results, Tryz.results65, go_sem]) rfl ⟨rfl, al1 w _⟩
set_option maxRecDepth 100000 in
theorem gouts_any (a : ByteArray) (p : Option Addr) (n m : Nat) : Calls Tryz.prog 59 #[.string a, .slice p n m] w fun e w' => e = .returned (.agg #[.string a, .int .i64 2, .slice none 0 0, .slice p n m, .slice none 0 0]) ∧ Below w.heap.size w w' := by
  go_enter Tryz.func59, Tryz.ntmps59
  go_wp2
  exact bodyPost_ret (v := .agg #[.string a, .int .i64 2, .slice none 0 0, .slice p n m, .slice none 0 0]) (by simp [results, Tryz.results59, go_sem]) rfl ⟨rfl, al1 w _⟩
set_option maxRecDepth 100000 in
theorem gwords_any (a : ByteArray) (p : Option Addr) (n m : Nat) : Calls Tryz.prog 26 #[.string a, .slice p n m] w fun e w' => e = .returned (.agg #[.string a, .int .i64 1, .slice p n m, .slice none 0 0, .slice none 0 0]) ∧ Below w.heap.size w w' := by
  go_enter Tryz.func26, Tryz.ntmps26
  go_wp2
  exact bodyPost_ret (v := .agg #[.string a, .int .i64 1, .slice p n m, .slice none 0 0, .slice none 0 0]) (by simp [results, Tryz.results26, go_sem]) rfl ⟨rfl, al1 w _⟩
end
theorem kp3 (x : World) (T : Nat) (v0 v1 v2 : Value) : Kp (fun k => k = T) x (((x.setCell ⟨T, 0, none⟩ v0).setCell ⟨T, 1, none⟩ v1).setCell ⟨T, 2, none⟩ v2) := (((Kp.refl (fun k => k = T) x).set T 0 _ (Or.inr rfl)).set T 1 _ (Or.inr rfl)).set T 2 _ (Or.inr rfl)
theorem kp4 (x : World) (T : Nat) (v0 v1 v2 v3 : Value) : Kp (fun k => k = T) x ((((x.setCell ⟨T, 0, none⟩ v0).setCell ⟨T, 1, none⟩ v1).setCell ⟨T, 2, none⟩ v2).setCell ⟨T, 3, none⟩ v3) := (kp3 x T v0 v1 v2).set T 3 _ (Or.inr rfl)
theorem kp5 (x : World) (T : Nat) (v0 v1 v2 v3 v4 : Value) : Kp (fun k => k = T) x (((((x.setCell ⟨T, 0, none⟩ v0).setCell ⟨T, 1, none⟩ v1).setCell ⟨T, 2, none⟩ v2).setCell ⟨T, 3, none⟩ v3).setCell ⟨T, 4, none⟩ v4) := (kp4 x T v0 v1 v2 v3).set T 4 _ (Or.inr rfl)
theorem bel_kp {w x x' : World} {T : Nat} (b : Below w.heap.size w x) (hT : w.heap.size ≤ T) (k : Kp (fun k => k = T) x x') : Below w.heap.size w x' := ⟨k.os.trans b.os, k.tape.trans b.tape, k.output.trans b.output, Nat.le_trans b.size k.size, fun q hq => (k.block q (Nat.lt_of_lt_of_le hq b.size) (fun e => by have e' : q = T := e; omega)).trans (b.block q hq)⟩
/-- A result's own block, calls later. -/
theorem new_on {w x : World} {o : Obj} (b : Below (w.alloc o).heap.size (w.alloc o) x) : x.heap[w.heap.size]? = some o := (b.block _ (by simp)).trans (heap_alloc_new w o)
abbrev outZ : Obj := .cells #[.string ⟨#[]⟩, .string ⟨#[]⟩, .string ⟨#[]⟩, .slice none 0 0] 41
abbrev innZ : Obj := .cells #[.string ⟨#[]⟩, .string ⟨#[]⟩, .string ⟨#[]⟩] 39
abbrev defZ : Obj := .cells #[.string ⟨#[]⟩, .int .i64 0, .slice none 0 0, .slice none 0 0, .slice none 0 0] 35
theorem arg_row {X : World} {t : Bs} {B g : Nat} (hB : B ≤ g) (h : X.heap[g]? = some (.cells #[.string ⟨#[102, 105, 108, 116, 101, 114]⟩, .string (⟨t.toArray⟩ ++ ⟨#[70, 105, 108, 116, 101, 114]⟩), .string ⟨#[]⟩, .string ⟨#[111, 114, 100, 101, 114]⟩, .string (⟨t.toArray⟩ ++ ⟨#[79, 114, 100, 101, 114]⟩), .string ⟨#[]⟩, .string ⟨#[102, 105, 114, 115, 116]⟩, .string ⟨#[73, 110, 116]⟩, .string ⟨#[]⟩, .string ⟨#[111, 102, 102, 115, 101, 116]⟩, .string ⟨#[73, 110, 116]⟩, .string ⟨#[]⟩] 39 (0, 0))) : InR X B (.slice (some ⟨g, 0, none⟩) 4 4) (argT t) :=
  RowO.lit (fun _ => rfl) hB h (by simp [argT, List.flatMap_cons, ← bytes_add]) rfl (by decide)
set_option maxRecDepth 100000 in
set_option maxHeartbeats 2000000 in
theorem gmany_any (a t : Bs) (ht : t.length ≤ 1000) (w : World) : Calls Tryz.prog 73 #[.string ⟨a.toArray⟩, .string ⟨t.toArray⟩] w fun e w' => ∃ g, e = .returned (outV (⟨a, t, wAll, argT t⟩, .slice (some ⟨g, 0, none⟩) 4 4)) ∧ InR w' w.heap.size (.slice (some ⟨g, 0, none⟩) 4 4) (argT t) ∧ Below w.heap.size w w' := by
  have h6 : ¬ (9223372036854775807 < t.length + 6) := by omega
  have h5 : ¬ (9223372036854775807 < t.length + 5) := by omega
  have D0 : Below (w.alloc outZ).heap.size (w.alloc outZ) (w.alloc outZ) := Below.refl _ _
  clear ht
  go_enter Tryz.func73, Tryz.ntmps73
  go_wp2_with (first
    | (go_at_call 66; (with_reducible refine (gin_any _ _ _ _).mono ?_); rintro e x1 ⟨rfl, b1⟩; replace D0 := D0.trans (b1.mono D0.size); clear b1)
    | (go_at_call 34; (with_reducible refine (gout_any _ _ _ _ _ _ _).mono ?_); rintro e x6 ⟨rfl, b6⟩; have D6 := (D0.alloc D0.size _).trans (b6.mono (D0.alloc D0.size _).size); obtain ⟨c0, c1, c2, c3, cf⟩ := row4 (new_on D6))
    | fail)
  have hz := D0.size
  rw [World.size_alloc] at hz
  have A := arg_row (B := w.heap.size) (by omega) (new_on b6)
  exact bodyPost_ret (v := outV (⟨a, t, wAll, argT t⟩, .slice (some ⟨x1.heap.size, 0, none⟩) 4 4)) (by simp [results, Tryz.results73, go_sem, c0, c1, c2, c3]) rfl ⟨x1.heap.size, rfl, A.kp (kp4 _ _ _ _ _ _) (new_on D6) (by decide), bel_kp ((al1 w _).trans (D6.mono (al1 w _).size)) (Nat.le_refl _) (kp4 _ _ _ _ _ _)⟩
abbrev fldO (f : Fld) : Obj := .cells #[.string ⟨f.n.toArray⟩, .string ⟨f.t.toArray⟩, .string ⟨f.w.toArray⟩, .bool f.s, .string ⟨f.i.toArray⟩] 56
/-- A result's own block behind another one, calls later. -/
theorem new_on2 {w x : World} {o o' : Obj} (b : Below ((w.alloc o).alloc o').heap.size ((w.alloc o).alloc o') x) : x.heap[w.heap.size]? = some o ∧ x.heap[w.heap.size + 1]? = some o' := ⟨(b.block _ (by simp; omega)).trans (((al1 _ _).block _ (by simp)).trans (heap_alloc_new w o)), (b.block _ (by simp)).trans (new2 w o o')⟩
set_option maxRecDepth 100000 in
set_option maxHeartbeats 2000000 in
theorem gfield_any (f : Fld) (ht : f.t.length ≤ 1000) (w : World) : Calls Tryz.prog 62 #[fldV f] w fun e w' => ∃ av, e = .returned (outV (fldT f, av)) ∧ InR w' w.heap.size av (fldT f).ar ∧ Below w.heap.size w w' := by
  obtain ⟨fn, ft, fw, fs, fi⟩ := f
  have MA := fun W => gmany_any fn ft ht W
  have D0 : Below ((w.alloc (fldO ⟨fn, ft, fw, fs, fi⟩)).alloc outZ).heap.size ((w.alloc (fldO ⟨fn, ft, fw, fs, fi⟩)).alloc outZ) ((w.alloc (fldO ⟨fn, ft, fw, fs, fi⟩)).alloc outZ) := Below.refl _ _
  have A2 := al2 w (fldO ⟨fn, ft, fw, fs, fi⟩) outZ
  clear ht
  cases hw : (fw == [33, 91, 33]) with
  | true =>
    have HF : Hid (fldT ⟨fn, ft, fw, fs, fi⟩ = ⟨fn, ft, wAll, argT ft⟩) := if_pos (by simpa using hw)
    go_enter Tryz.func62, Tryz.ntmps62
    go_wp2_with (first
      | (go_at_call 73; (with_reducible refine (MA _).mono ?_); rintro e x6 ⟨g, rfl, I6, D6⟩; obtain ⟨c0, c1, c2, c3, cf⟩ := row4 (new_on2 D6).2)
      | fail)
    rw [HF.out]
    exact bodyPost_ret (v := outV (⟨fn, ft, wAll, argT ft⟩, .slice (some ⟨g, 0, none⟩) 4 4)) (by simp [results, Tryz.results62, go_sem, c0, c1, c2, c3]) rfl ⟨_, rfl, (I6.base A2.size).kp (kp4 _ _ _ _ _ _) (new_on2 D6).2 (by decide), bel_kp (A2.trans (D6.mono A2.size)) (by omega) (kp4 _ _ _ _ _ _)⟩
  | false =>
    have HF : Hid (fldT ⟨fn, ft, fw, fs, fi⟩ = ⟨fn, ft, fw, []⟩) := if_neg (by simpa using hw)
    go_enter Tryz.func62, Tryz.ntmps62
    go_wp2_with (first
      | (go_at_call 34; (with_reducible refine (gout_any _ _ _ _ _ _ _).mono ?_); rintro e x6 ⟨rfl, D6⟩; obtain ⟨c0, c1, c2, c3, cf⟩ := row4 (new_on2 D6).2)
      | fail)
    rw [HF.out]
    exact bodyPost_ret (v := outV (⟨fn, ft, fw, []⟩, .slice none 0 0)) (by simp [results, Tryz.results62, go_sem, c0, c1, c2, c3]) rfl ⟨_, rfl, RowO.none, bel_kp (A2.trans (D6.mono A2.size)) (by omega) (kp4 _ _ _ _ _ _)⟩
/-- A field as an input takes it. -/
def givP (p : Bool) (f : Fld) (c : Bs) : Inn := if p = true then ⟨f.n, f.t, c⟩ else if f.w = wAll then ⟨f.n, cID, wSome⟩ else ⟨f.n, cID, []⟩
set_option maxRecDepth 100000 in
set_option maxHeartbeats 2000000 in
theorem ggiven_any (f : Fld) (p : Bool) (c : Bs) (w : World) : Calls Tryz.prog 70 #[fldV f, .bool p, .string ⟨c.toArray⟩] w fun e w' => e = .returned (innV (givP p f c)) ∧ Below w.heap.size w w' := by
  obtain ⟨fn, ft, fw, fs, fi⟩ := f
  have A2 := al2 w (fldO ⟨fn, ft, fw, fs, fi⟩) innZ
  cases p with
  | true =>
    go_enter Tryz.func70, Tryz.ntmps70
    go_wp2_with (first
      | (go_at_call 66; (with_reducible refine (gin_any _ _ _ _).mono ?_); rintro e x6 ⟨rfl, D6⟩; obtain ⟨c0, c1, c2, cf⟩ := row3 (new_on2 D6).2)
      | fail)
    exact bodyPost_ret (v := innV ⟨fn, ft, c⟩) (by simp [results, Tryz.results70, go_sem, c0, c1, c2]) rfl ⟨rfl, bel_kp (A2.trans (D6.mono A2.size)) (by omega) (kp3 _ _ _ _ _)⟩
  | false =>
    cases hw : (fw == [33, 91, 33]) with
    | true =>
      have HF : Hid (givP false ⟨fn, ft, fw, fs, fi⟩ c = ⟨fn, cID, wSome⟩) := by show _ = _; unfold givP; rw [if_neg (by decide), if_pos (by simpa using hw)]
      go_enter Tryz.func70, Tryz.ntmps70
      go_wp2_with (first
        | (go_at_call 66; (with_reducible refine (gin_any _ _ _ _).mono ?_); rintro e x6 ⟨rfl, D6⟩; obtain ⟨c0, c1, c2, cf⟩ := row3 (new_on2 D6).2)
        | fail)
      rw [HF.out]
      exact bodyPost_ret (v := innV ⟨fn, cID, wSome⟩) (by simp [results, Tryz.results70, go_sem, c0, c1, c2]) rfl ⟨rfl, bel_kp (A2.trans (D6.mono A2.size)) (by omega) (kp3 _ _ _ _ _)⟩
    | false =>
      have HF : Hid (givP false ⟨fn, ft, fw, fs, fi⟩ c = ⟨fn, cID, []⟩) := by show _ = _; unfold givP; rw [if_neg (by decide), if_neg (by simpa using hw)]
      go_enter Tryz.func70, Tryz.ntmps70
      go_wp2_with (first
        | (go_at_call 66; (with_reducible refine (gin_any _ _ _ _).mono ?_); rintro e x6 ⟨rfl, D6⟩; obtain ⟨c0, c1, c2, cf⟩ := row3 (new_on2 D6).2)
        | fail)
      rw [HF.out]
      exact bodyPost_ret (v := innV ⟨fn, cID, []⟩) (by simp [results, Tryz.results70, go_sem, c0, c1, c2]) rfl ⟨rfl, bel_kp (A2.trans (D6.mono A2.size)) (by omega) (kp3 _ _ _ _ _)⟩
end Go.Proofs.YtamkjpfomaapgaaGreatDoor
namespace Go.Proofs.YtamkjpfomaapgaaGreatDoor
open Go Go.RowKit Go.Shelf
theorem RowO.push {α : Type} {f : α → List Value} {sz : Nat} {w : World} {B E : Nat} {v : Value} {l : List α} {x : α} (h : w.ownsRow B E sz v (l.length + 1) (l.flatMap f ++ f x)) : RowO w B E sz f v (l ++ [x]) := by
  unfold RowO
  rw [List.length_append, List.flatMap_append, List.flatMap_singleton]
  exact h
theorem take_step {α : Type} {l : List α} {j : Nat} {x : α} (h : l[j]? = some x) : l.take (j + 1) = l.take j ++ [x] := by
  rw [List.take_add_one, h]
  rfl
theorem Gt.alloc {B E : Nat} {w w' : World} (h : Gt B E w w') (o : Obj) : Gt B E w (w'.alloc o) := h.trans (gt_of (al1 w' o))
set_option maxRecDepth 100000 in
set_option maxHeartbeats 4000000 in
theorem over_In {w w0 : World} {B : Nat} {v fv : Value} {l0 : List Inn} {fs : List Fld} (K : Nat) (caps : Array Value) (mk : Fld → Inn × Bool)
    (hb : Below w0.heap.size w0 w) (hB0 : w0.heap.size ≤ B) (hB : B ≤ w.heap.size) (hf : FldsAt w0 fv fs) (hl : l0.length + fs.length ≤ 1000) (row : InR w B v l0) (hK : ∀ args W, Sem.run Tryz.prog (callFunc K args) W = .ok (.enter K args) W)
    (H : ∀ (f : Fld) (W : World), f ∈ fs → Below w0.heap.size w0 W → Calls Tryz.prog K (#[fldV f] ++ caps) W fun e W' => e = .returned (.tuple #[innV (mk f).1, .bool (mk f).2]) ∧ Below W.heap.size W W') :
    Calls Tryz.prog 67 #[v, fv, .func (.func K) #[] caps] w fun e w' => ∃ v', e = .returned v' ∧ InR w' B v' (l0 ++ (fs.filter (fun f => (mk f).2)).map (fun f => (mk f).1)) ∧ Gt B 39 w w' := by
  obtain ⟨ti, hti, hy0, hy1, hy2⟩ := info_parts Tryz.infoIn
  have hfs := hf
  obtain ⟨a0, c0, rfl, _, hn⟩ := hf.slice
  go_enter Tryz.func67, Tryz.ntmps67
  go_wp2
  go_loopw [0, 13] (fun lz iv wr => ∃ (lv : Value) (j : Nat) (ll : List Inn), lv = lz ∧ iv = .int .i64 (j : Int) ∧ j ≤ fs.length ∧ InR wr B lv ll ∧ ll = l0 ++ ((fs.take j).filter (fun f => (mk f).2)).map (fun f => (mk f).1) ∧ Gt B 39 w wr) (fun _ iv _ => fs.length - (RowKit.intOf iv).toNat)
  case atStart => exact ⟨_, 0, l0, rfl, rfl, Nat.zero_le _, row, by simp, Gt.refl _ _ _⟩
  case round =>
    obtain ⟨lv, j, ll, rfl, rfl, hj, hrow, hdn, hg⟩ := hrel
    have hdl : ll.length ≤ l0.length + j := by
      rw [hdn, List.length_append, List.length_map]
      refine Nat.add_le_add_left (Nat.le_trans (List.length_filter_le _ _) ?_) _
      rw [List.length_take]
      omega
    by_cases hlt : j < fs.length
    · obtain ⟨f, hx⟩ : ∃ f, fs[j]? = some f := ⟨_, List.getElem?_eq_getElem hlt⟩
      obtain ⟨b1, o1, rfl, hbl1, _, g0, g1, g2, g3, g4⟩ := fld_cells hfs hx
      have hbr : Below w0.heap.size w0 wr := hb.trans ((hg.below hB).mono hB0)
      have k0 := cell_on hbr g0
      have k1 := cell_on hbr g1
      have k2 := cell_on hbr g2
      have k3 := cell_on hbr g3
      have k4 := cell_on hbr g4
      have l2 : ((j : Nat) : Int) < (fs.length : Int) := by omega
      have hjN : ((j : Nat) : Int).toNat = j := by omega
      have CL := H f (wr.alloc (fldO f)) (List.mem_of_getElem? hx) (hbr.alloc hbr.size _)
      have hzB : B ≤ wr.heap.size := Nat.le_trans hB hg.size
      have HK : Hid (j + 1 ≤ fs.length) := hlt
      have hts := take_step hx
      have HD : Hid (l0 ++ ((fs.take (j + 1)).filter (fun f => (mk f).2)).map (fun f => (mk f).1) = if (mk f).2 = true then ll ++ [(mk f).1] else ll) := by
        show _ = _
        rw [hts, List.filter_append, List.map_append, ← List.append_assoc, ← hdn]
        cases hq : (mk f).2 <;> simp [hq]
      obtain ⟨lo, lc, rfl⟩ := hrow.slice
      have hlen : ll.length ≤ 1000 := by omega
      have hLo := fun q (e : (Value.slice lo ll.length lc).ownBlock = some q) => own_blk hrow e
      clear hts hx hlt hdn g0 g1 g2 g3 g4 H
      obtain ⟨fn, ft, fw, fs', fi⟩ := f
      generalize mk ⟨fn, ft, fw, fs', fi⟩ = m at *
      obtain ⟨x, ok⟩ := m
      obtain ⟨xn, xt, xw⟩ := x
      simp only at k0 k1 k2 k3 k4 CL HD
      cases ok with
      | false =>
        go_wp2
        refine Calls.mono CL ?_
        rintro e w2 ⟨rfl, b2⟩
        have G2 : Gt B 39 w w2 := (hg.alloc _).trans (gt_of b2)
        have R2 := (RowO.on hrow (al1 wr (fldO ⟨fn, ft, fw, fs', fi⟩))).on b2
        go_wp2
        refine ⟨⟨_, j + 1, ll, rfl, by simp, HK.out, R2.on (al1 w2 _), by rw [HD.out]; rfl, G2.alloc _⟩, ?_⟩
        have := HK.out
        simp [RowKit.intOf]
        omega
      | true =>
        go_wp2
        refine Calls.mono CL ?_
        rintro e w2 ⟨rfl, b2⟩
        have G2 : Gt B 39 w w2 := (hg.alloc _).trans (gt_of b2)
        have R2 := (RowO.on hrow (al1 wr (fldO ⟨fn, ft, fw, fs', fi⟩))).on b2
        have hz2 := G2.size
        go_wp2_with (first
          | (at_builtin; refine wpList_append_lies _ rfl (.tmp 24) (.tmp 26) 33 rfl B 39 ti _ 3 48 Tryz.underlying33 hti hy0 hy1 hy2 rfl (by decide) (.slice lo ll.length lc) ll.length (ll.flatMap innC) rfl ((R2.on (al2 w2 _ _))) ⟨w2.heap.size + 1, 0, none⟩ 1 1 [.string ⟨xn.toArray⟩, .string ⟨xt.toArray⟩, .string ⟨xw.toArray⟩] rfl rfl (World.news_of_block (new2 w2 _ _)) (by intro u hu; simp at hu; rcases hu with rfl | rfl | rfl <;> rfl) (by decide) (by unfold maxLen; omega) (by omega) (by rw [World.size_alloc, World.size_alloc]; omega) _ rfl ?_; intro q8 cp8 w8 own8 gr8 hor8 hlt8)
          | fail)
        have G8 : Gt B 39 w w8 := (G2.trans (gt_of (al2 w2 _ _))).trans (gt_grown (R2.on (al2 w2 _ _)) gr8)
        refine ⟨⟨_, j + 1, ll ++ [⟨xn, xt, xw⟩], rfl, by simp, HK.out, ?_, by rw [HD.out]; rfl, G8⟩, ?_⟩
        · exact RowO.push own8
        · have := HK.out
          simp [RowKit.intOf]
          omega
    · have l2 : decide (((j : Nat) : Int) < (fs.length : Int)) = false := by simp; omega
      have l3 : decide (j < fs.length) = false := by simp; omega
      have hje : j = fs.length := by omega
      have HS : Hid (ll = l0 ++ (fs.filter (fun f => (mk f).2)).map (fun f => (mk f).1)) := by
        show ll = _
        rw [hdn, hje, List.take_length]
      clear hje hlt hdn hdl hj
      go_wp2
      refine bodyPost_ret (v := lv) (by simp [results, Tryz.results67, go_sem]) rfl ⟨_, rfl, ?_, hg⟩
      rw [← HS.out]
      exact hrow
set_option maxRecDepth 100000 in
set_option maxHeartbeats 4000000 in
theorem over_string {w w0 : World} {B : Nat} {v fv : Value} {l0 : List Bs} {fs : List Fld} (K : Nat) (caps : Array Value) (mk : Fld → Bs × Bool)
    (hb : Below w0.heap.size w0 w) (hB0 : w0.heap.size ≤ B) (hB : B ≤ w.heap.size) (hf : FldsAt w0 fv fs) (hl : l0.length + fs.length ≤ 1000) (row : WdR w B v l0) (hK : ∀ args W, Sem.run Tryz.prog (callFunc K args) W = .ok (.enter K args) W)
    (H : ∀ (f : Fld) (W : World), f ∈ fs → Below w0.heap.size w0 W → Calls Tryz.prog K (#[fldV f] ++ caps) W fun e W' => e = .returned (.tuple #[.string ⟨(mk f).1.toArray⟩, .bool (mk f).2]) ∧ Below W.heap.size W W') :
    Calls Tryz.prog 63 #[v, fv, .func (.func K) #[] caps] w fun e w' => ∃ v', e = .returned v' ∧ WdR w' B v' (l0 ++ (fs.filter (fun f => (mk f).2)).map (fun f => (mk f).1)) ∧ Gt B 9 w w' := by
  obtain ⟨ti, hti, hy0, hy1, hy2⟩ := info_parts Tryz.infoStr
  have hfs := hf
  obtain ⟨a0, c0, rfl, _, hn⟩ := hf.slice
  go_enter Tryz.func63, Tryz.ntmps63
  go_wp2
  go_loopw [0, 13] (fun lz iv wr => ∃ (lv : Value) (j : Nat) (ll : List Bs), lv = lz ∧ iv = .int .i64 (j : Int) ∧ j ≤ fs.length ∧ WdR wr B lv ll ∧ ll = l0 ++ ((fs.take j).filter (fun f => (mk f).2)).map (fun f => (mk f).1) ∧ Gt B 9 w wr) (fun _ iv _ => fs.length - (RowKit.intOf iv).toNat)
  case atStart => exact ⟨_, 0, l0, rfl, rfl, Nat.zero_le _, row, by simp, Gt.refl _ _ _⟩
  case round =>
    obtain ⟨lv, j, ll, rfl, rfl, hj, hrow, hdn, hg⟩ := hrel
    have hdl : ll.length ≤ l0.length + j := by
      rw [hdn, List.length_append, List.length_map]
      refine Nat.add_le_add_left (Nat.le_trans (List.length_filter_le _ _) ?_) _
      rw [List.length_take]
      omega
    by_cases hlt : j < fs.length
    · obtain ⟨f, hx⟩ : ∃ f, fs[j]? = some f := ⟨_, List.getElem?_eq_getElem hlt⟩
      obtain ⟨b1, o1, rfl, hbl1, _, g0, g1, g2, g3, g4⟩ := fld_cells hfs hx
      have hbr : Below w0.heap.size w0 wr := hb.trans ((hg.below hB).mono hB0)
      have k0 := cell_on hbr g0
      have k1 := cell_on hbr g1
      have k2 := cell_on hbr g2
      have k3 := cell_on hbr g3
      have k4 := cell_on hbr g4
      have l2 : ((j : Nat) : Int) < (fs.length : Int) := by omega
      have hjN : ((j : Nat) : Int).toNat = j := by omega
      have CL := H f (wr.alloc (fldO f)) (List.mem_of_getElem? hx) (hbr.alloc hbr.size _)
      have hzB : B ≤ wr.heap.size := Nat.le_trans hB hg.size
      have HK : Hid (j + 1 ≤ fs.length) := hlt
      have hts := take_step hx
      have HD : Hid (l0 ++ ((fs.take (j + 1)).filter (fun f => (mk f).2)).map (fun f => (mk f).1) = if (mk f).2 = true then ll ++ [(mk f).1] else ll) := by
        show _ = _
        rw [hts, List.filter_append, List.map_append, ← List.append_assoc, ← hdn]
        cases hq : (mk f).2 <;> simp [hq]
      obtain ⟨lo, lc, rfl⟩ := hrow.slice
      have hlen : ll.length ≤ 1000 := by omega
      have hLo := fun q (e : (Value.slice lo ll.length lc).ownBlock = some q) => own_blk hrow e
      clear hts hx hlt hdn g0 g1 g2 g3 g4 H
      obtain ⟨fn, ft, fw, fs', fi⟩ := f
      generalize mk ⟨fn, ft, fw, fs', fi⟩ = m at *
      obtain ⟨x, ok⟩ := m
      skip
      simp only at k0 k1 k2 k3 k4 CL HD
      cases ok with
      | false =>
        go_wp2
        refine Calls.mono CL ?_
        rintro e w2 ⟨rfl, b2⟩
        have G2 : Gt B 9 w w2 := (hg.alloc _).trans (gt_of b2)
        have R2 := (RowO.on hrow (al1 wr (fldO ⟨fn, ft, fw, fs', fi⟩))).on b2
        go_wp2
        refine ⟨⟨_, j + 1, ll, rfl, by simp, HK.out, R2, by rw [HD.out]; rfl, G2⟩, ?_⟩
        have := HK.out
        simp [RowKit.intOf]
        omega
      | true =>
        go_wp2
        refine Calls.mono CL ?_
        rintro e w2 ⟨rfl, b2⟩
        have G2 : Gt B 9 w w2 := (hg.alloc _).trans (gt_of b2)
        have R2 := (RowO.on hrow (al1 wr (fldO ⟨fn, ft, fw, fs', fi⟩))).on b2
        have hz2 := G2.size
        go_wp2_with (first
          | (at_builtin; refine wpList_append_lies _ rfl (.tmp 24) (.tmp 26) 31 rfl B 9 ti _ 1 16 Tryz.underlying31 hti hy0 hy1 hy2 rfl (by decide) (.slice lo ll.length lc) ll.length (ll.flatMap wrdC) rfl ((R2.on (al1 w2 _))) ⟨w2.heap.size, 0, none⟩ 1 1 [.string ⟨x.toArray⟩] rfl rfl (World.news_of_block (heap_alloc_new w2 _)) (by intro u hu; simp at hu; subst hu; rfl) (by decide) (by unfold maxLen; omega) (by omega) (by rw [World.size_alloc]; omega) _ rfl ?_; intro q8 cp8 w8 own8 gr8 hor8 hlt8)
          | fail)
        have G8 : Gt B 9 w w8 := (G2.trans (gt_of (al1 w2 _))).trans (gt_grown (R2.on (al1 w2 _)) gr8)
        refine ⟨⟨_, j + 1, ll ++ [x], rfl, by simp, HK.out, ?_, by rw [HD.out]; rfl, G8⟩, ?_⟩
        · exact RowO.push own8
        · have := HK.out
          simp [RowKit.intOf]
          omega
    · have l2 : decide (((j : Nat) : Int) < (fs.length : Int)) = false := by simp; omega
      have l3 : decide (j < fs.length) = false := by simp; omega
      have hje : j = fs.length := by omega
      have HS : Hid (ll = l0 ++ (fs.filter (fun f => (mk f).2)).map (fun f => (mk f).1)) := by
        show ll = _
        rw [hdn, hje, List.take_length]
      clear hje hlt hdn hdl hj
      go_wp2
      refine bodyPost_ret (v := lv) (by simp [results, Tryz.results63, go_sem]) rfl ⟨_, rfl, ?_, hg⟩
      rw [← HS.out]
      exact hrow
end Go.Proofs.YtamkjpfomaapgaaGreatDoor
namespace Go.Proofs.YtamkjpfomaapgaaGreatDoor
open Go Go.RowKit Go.Shelf
/-- The closures' variables: the schema, and the closure that tells properties. -/
structure Pv (w : World) (ov ev : Value) (s : Sch) (S P : Nat) : Prop where
  sch : SchAt w ov ev s
  s0 : w.cell? ⟨S, 0, none⟩ = some ov
  s1 : w.cell? ⟨S, 1, none⟩ = some ev
  p : w.cell? ⟨P, 0, none⟩ = some (.func (.func 58) #[] #[.pointer (some ⟨S, 0, none⟩)])
theorem Pv.on {w w' : World} {ov ev : Value} {s : Sch} {S P : Nat} (h : Pv w ov ev s S P) (hb : Below w.heap.size w w') : Pv w' ov ev s S P := ⟨h.sch.on hb, cell_on hb h.s0, cell_on hb h.s1, cell_on hb h.p⟩
section
variable {w : World} {ov ev : Value} {s : Sch} {S P : Nat}
set_option maxRecDepth 100000 in
theorem gprop_any (h : Pv w ov ev s S P) (f : Fld) : Calls Tryz.prog 58 #[fldV f, .pointer (some ⟨S, 0, none⟩)] w fun e w' => e = .returned (.bool (decide (edgS s f < 0))) ∧ Below w.heap.size w w' := by
  have FT := fun o => hedge_any (h.sch.on (al1 w o)) f
  obtain ⟨a, c, rfl, _, _⟩ := h.sch.os.slice
  obtain ⟨a', c', rfl, _, _⟩ := h.sch.es.slice
  have g0 := fun o => cell_on (al1 w o) h.s0
  have g1 := fun o => cell_on (al1 w o) h.s1
  obtain ⟨fn, ft, fw, fs, fi⟩ := f
  generalize edgS s ⟨fn, ft, fw, fs, fi⟩ = k at *
  go_enter Tryz.func58, Tryz.ntmps58
  go_wp2_with (first
    | (go_at_call 48; (with_reducible refine (FT _).mono ?_); rintro e w2 ⟨rfl, b2⟩)
    | fail)
  go_ret
  exact ⟨by simp, (al1 w _).trans (b2.mono (al1 w _).size)⟩
set_option maxRecDepth 100000 in
theorem gof2_any (f : Fld) (ht : f.t.length ≤ 1000) (w : World) : Calls Tryz.prog 61 #[fldV f] w fun e w' => ∃ av, e = .returned (.tuple #[outV (fldT f, av), .bool true]) ∧ InR w' w.heap.size av (fldT f).ar ∧ Below w.heap.size w w' := by
  have FT := fun W => gfield_any f ht W
  have A2 := al2 w (fldO f) outZ
  generalize fldT f = o at *
  obtain ⟨on, ot, ow, oa⟩ := o
  obtain ⟨fn, ft, fw, fs, fi⟩ := f
  clear ht
  go_enter Tryz.func61, Tryz.ntmps61
  go_wp2_with (first
    | (go_at_call 62; (with_reducible refine (FT _).mono ?_); rintro e x6 ⟨av, rfl, I6, D6⟩; obtain ⟨c0, c1, c2, c3, cf⟩ := row4 (new_on2 D6).2; obtain ⟨p, m, rfl⟩ := I6.slice)
    | fail)
  exact bodyPost_ret (v := .tuple #[outV (⟨on, ot, ow, oa⟩, .slice p oa.length m), .bool true]) (by simp [results, Tryz.results61, go_sem, c0, c1, c2, c3]) rfl ⟨_, rfl, (I6.base A2.size).kp (kp4 _ _ _ _ _ _) (new_on2 D6).2 (by decide), bel_kp (A2.trans (D6.mono A2.size)) (by omega) (kp4 _ _ _ _ _ _)⟩
theorem fld_new (w : World) (f : Fld) : (w.alloc (fldO f)).cell? ⟨w.heap.size, 0, none⟩ = some (.string ⟨f.n.toArray⟩) ∧ (w.alloc (fldO f)).cell? ⟨w.heap.size, 1, none⟩ = some (.string ⟨f.t.toArray⟩) ∧ (w.alloc (fldO f)).cell? ⟨w.heap.size, 2, none⟩ = some (.string ⟨f.w.toArray⟩) ∧ (w.alloc (fldO f)).cell? ⟨w.heap.size, 3, none⟩ = some (.bool f.s) ∧ (w.alloc (fldO f)).cell? ⟨w.heap.size, 4, none⟩ = some (.string ⟨f.i.toArray⟩) := by
  obtain ⟨h0, h1, h2, h3, h4, _⟩ := row5 (heap_alloc_new w (fldO f))
  exact ⟨h0, h1, h2, h3, h4⟩
theorem bel_d {n : Nat} {w w2 : World} (b : Below n w.drew w2) : Below n w w2 := ⟨b.os, b.tape, b.output, b.size, b.block⟩
set_option maxRecDepth 100000 in
set_option maxHeartbeats 2000000 in
theorem gof3_any (h : Pv w ov ev s S P) (f : Fld) : Calls Tryz.prog 64 #[fldV f, .pointer (some ⟨P, 0, none⟩)] w fun e w' => e = .returned (.tuple #[.string ⟨f.n.toArray⟩, .bool (decide (edgS s f < 0))]) ∧ Below w.heap.size w w' := by
  have A1 := al1 w (fldO f)
  have FT := fun {W : World} (b : Below w.heap.size w W) => gprop_any (h.on b) f
  obtain ⟨q0, q1, q2, q3, q4⟩ := fld_new w f
  have g0 := fun o => cell_on (al1 w o) h.p
  obtain ⟨fn, ft, fw, fs, fi⟩ := f
  generalize edgS s ⟨fn, ft, fw, fs, fi⟩ = k at *
  have FD := FT (W := (w.alloc (fldO ⟨fn, ft, fw, fs, fi⟩)).drew) ⟨A1.os, A1.tape, A1.output, A1.size, A1.block⟩
  go_enter Tryz.func64, Tryz.ntmps64
  go_wp2
  go_region_held3 (fun w' => w'.cell? ⟨P, 0, none⟩ = some (.func (.func 58) #[] #[.pointer (some ⟨S, 0, none⟩)]) ∧ w'.cell? ⟨w.heap.size, 0, none⟩ = some (.string ⟨fn.toArray⟩) ∧ w'.cell? ⟨w.heap.size, 1, none⟩ = some (.string ⟨ft.toArray⟩) ∧ w'.cell? ⟨w.heap.size, 2, none⟩ = some (.string ⟨fw.toArray⟩) ∧ w'.cell? ⟨w.heap.size, 3, none⟩ = some (.bool fs) ∧ w'.cell? ⟨w.heap.size, 4, none⟩ = some (.string ⟨fi.toArray⟩)) (go_keep) ((go_at_call 58; (with_reducible refine FD.mono ?_); rintro e w2 ⟨rfl, b2⟩; replace b2 := bel_d b2; have f0 := cell_on b2 (g0 (fldO ⟨fn, ft, fw, fs, fi⟩)); have e0 := cell_on b2 q0; have e1 := cell_on b2 q1; have e2 := cell_on b2 q2; have e3 := cell_on b2 q3; have e4 := cell_on b2 q4))
  all_goals
    go_wp2
    exact bodyPost_ret (v := .tuple #[.string ⟨fn.toArray⟩, .bool (decide (k < 0))]) (by simp [results, Tryz.results64, go_sem]) rfl ⟨rfl, A1.trans (b2.mono (show w.heap.size ≤ _ from A1.size))⟩
abbrev prpF (S : Nat) : Value := .func (.func 58) #[] #[.pointer (some ⟨S, 0, none⟩)]
/-- What the closures read of a world: the closure, and the field. -/
abbrev Rd5 (w : World) (P S : Nat) (fn ft fw : Bs) (fs : Bool) (fi : Bs) (w' : World) : Prop := w'.cell? ⟨P, 0, none⟩ = some (prpF S) ∧ w'.cell? ⟨w.heap.size, 0, none⟩ = some (.string ⟨fn.toArray⟩) ∧ w'.cell? ⟨w.heap.size, 1, none⟩ = some (.string ⟨ft.toArray⟩) ∧ w'.cell? ⟨w.heap.size, 2, none⟩ = some (.string ⟨fw.toArray⟩) ∧ w'.cell? ⟨w.heap.size, 3, none⟩ = some (.bool fs) ∧ w'.cell? ⟨w.heap.size, 4, none⟩ = some (.string ⟨fi.toArray⟩)
theorem rd5 (h : Pv w ov ev s S P) {W : World} (f : Fld) {o : Obj} (b : Below ((w.alloc (fldO f)).alloc o).heap.size ((w.alloc (fldO f)).alloc o) W) : Rd5 w P S f.n f.t f.w f.s f.i W := by
  obtain ⟨h0, h1, h2, h3, h4, _⟩ := row5 (new_on2 b).1
  exact ⟨cell_on ((al2 w _ _).trans (b.mono (al2 w _ _).size)) h.p, h0, h1, h2, h3, h4⟩
theorem bel_dr {n : Nat} {w w2 : World} (b : Below n w w2) : Below n w w2.drew := ⟨b.os, b.tape, b.output, b.size, b.block⟩
theorem kp_cell {x x' : World} {T k j : Nat} {v : Value} (K : Kp (fun q => q = T) x x') (hk : x.cell? ⟨k, j, none⟩ = some v) (hT : k ≠ T) : x'.cell? ⟨k, j, none⟩ = some v := by
  have hlt := World.block_lt_of_cell? x _ hk
  exact (World.cell?_of_block (a := ⟨k, j, none⟩) (K.block k hlt (fun e => hT e))).trans hk
theorem Rd5.kp {x x' : World} {fn ft fw fi : Bs} {fs : Bool} (h : Rd5 w P S fn ft fw fs fi x) (K : Kp (fun q => q = w.heap.size + 1) x x') (hP : P < w.heap.size) : Rd5 w P S fn ft fw fs fi x' := ⟨kp_cell K h.1 (by omega), kp_cell K h.2.1 (by omega), kp_cell K h.2.2.1 (by omega), kp_cell K h.2.2.2.1 (by omega), kp_cell K h.2.2.2.2.1 (by omega), kp_cell K h.2.2.2.2.2 (by omega)⟩
set_option maxRecDepth 100000 in
set_option maxHeartbeats 4000000 in
theorem gof5_any (h : Pv w ov ev s S P) (f : Fld) : Calls Tryz.prog 69 #[fldV f, .pointer (some ⟨P, 0, none⟩)] w fun e w' => e = .returned (.tuple #[innV (givP (decide (edgS s f < 0)) f f.w), .bool true]) ∧ Below w.heap.size w w' := by
  have A2 := al2 w (fldO f) innZ
  have RD := fun {W : World} (b : Below ((w.alloc (fldO f)).alloc innZ).heap.size ((w.alloc (fldO f)).alloc innZ) W) => rd5 h f b
  have hP : P < w.heap.size := World.block_lt_of_cell? w _ h.p
  have FT := fun {W : World} (b : Below ((w.alloc (fldO f)).alloc innZ).heap.size ((w.alloc (fldO f)).alloc innZ) W) => gprop_any (h.on (A2.trans (b.mono A2.size))) f
  have GV := fun p W => ggiven_any f p f.w W
  have D0 : Below ((w.alloc (fldO f)).alloc innZ).heap.size ((w.alloc (fldO f)).alloc innZ) ((w.alloc (fldO f)).alloc innZ).drew := bel_dr (Below.refl _ _)
  obtain ⟨fn, ft, fw, fs, fi⟩ := f
  generalize edgS s ⟨fn, ft, fw, fs, fi⟩ = k at *
  generalize hgv : (fun p => givP p ⟨fn, ft, fw, fs, fi⟩ fw) = gv at *
  have e9 : ∀ p, givP p ⟨fn, ft, fw, fs, fi⟩ fw = gv p := fun p => by rw [← hgv]
  simp only [e9] at GV ⊢
  clear hgv e9
  go_enter Tryz.func69, Tryz.ntmps69
  go_wp2
  go_region_held3 (Rd5 w P S fn ft fw fs fi) (first | exact RD D2 | exact (RD D2).kp (kp3 _ _ _ _ _) hP | exact RD D1 | exact RD D0) ((first
    | (go_at_call 58; (with_reducible refine (FT D0).mono ?_); rintro e x1 ⟨rfl, b1⟩; have D1 := D0.trans (b1.mono D0.size))
    | (go_at_call 70; (with_reducible refine (GV _ _).mono ?_); rintro e x2 ⟨rfl, b2⟩; have D2 := D1.trans (b2.mono D1.size); obtain ⟨c0, c1, c2, cf⟩ := row3 (new_on2 D2).2)))
  all_goals
    go_wp2
    exact bodyPost_ret (v := .tuple #[innV (gv (decide (k < 0))), .bool true]) (by simp [results, Tryz.results69, go_sem, c0, c1, c2]) rfl ⟨rfl, bel_kp (A2.trans (D2.mono A2.size)) (by omega) (kp3 _ _ _ _ _)⟩
set_option maxRecDepth 100000 in
set_option maxHeartbeats 4000000 in
theorem gof6_any (h : Pv w ov ev s S P) (f : Fld) : Calls Tryz.prog 71 #[fldV f, .pointer (some ⟨P, 0, none⟩)] w fun e w' => e = .returned (.tuple #[innV (givP (decide (edgS s f < 0)) f []), .bool true]) ∧ Below w.heap.size w w' := by
  have A2 := al2 w (fldO f) innZ
  have RD := fun {W : World} (b : Below ((w.alloc (fldO f)).alloc innZ).heap.size ((w.alloc (fldO f)).alloc innZ) W) => rd5 h f b
  have hP : P < w.heap.size := World.block_lt_of_cell? w _ h.p
  have FT := fun {W : World} (b : Below ((w.alloc (fldO f)).alloc innZ).heap.size ((w.alloc (fldO f)).alloc innZ) W) => gprop_any (h.on (A2.trans (b.mono A2.size))) f
  have GV := fun p W => ggiven_any f p [] W
  have D0 : Below ((w.alloc (fldO f)).alloc innZ).heap.size ((w.alloc (fldO f)).alloc innZ) ((w.alloc (fldO f)).alloc innZ).drew := bel_dr (Below.refl _ _)
  obtain ⟨fn, ft, fw, fs, fi⟩ := f
  generalize edgS s ⟨fn, ft, fw, fs, fi⟩ = k at *
  generalize hgv : (fun p => givP p ⟨fn, ft, fw, fs, fi⟩ []) = gv at *
  have e9 : ∀ p, givP p ⟨fn, ft, fw, fs, fi⟩ [] = gv p := fun p => by rw [← hgv]
  simp only [e9] at GV ⊢
  clear hgv e9
  go_enter Tryz.func71, Tryz.ntmps71
  go_wp2
  go_region_held3 (Rd5 w P S fn ft fw fs fi) (first | exact RD D2 | exact (RD D2).kp (kp3 _ _ _ _ _) hP | exact RD D1 | exact RD D0) ((first
    | (go_at_call 58; (with_reducible refine (FT D0).mono ?_); rintro e x1 ⟨rfl, b1⟩; have D1 := D0.trans (b1.mono D0.size))
    | (go_at_call 70; (with_reducible refine (GV _ _).mono ?_); rintro e x2 ⟨rfl, b2⟩; have D2 := D1.trans (b2.mono D1.size); obtain ⟨c0, c1, c2, cf⟩ := row3 (new_on2 D2).2)))
  all_goals
    go_wp2
    exact bodyPost_ret (v := .tuple #[innV (gv (decide (k < 0))), .bool true]) (by simp [results, Tryz.results71, go_sem, c0, c1, c2]) rfl ⟨rfl, bel_kp (A2.trans (D2.mono A2.size)) (by omega) (kp3 _ _ _ _ _)⟩
set_option maxRecDepth 100000 in
set_option maxHeartbeats 4000000 in
theorem gof4_any (h : Pv w ov ev s S P) (f : Fld) (ht : f.t.length ≤ 1000) : Calls Tryz.prog 68 #[fldV f, .pointer (some ⟨P, 0, none⟩)] w fun e w' => e = .returned (.tuple #[innV ⟨f.n, f.t ++ cFilter, []⟩, .bool (decide (edgS s f < 0))]) ∧ Below w.heap.size w w' := by
  have A2 := al2 w (fldO f) innZ
  have h6 : ¬ (9223372036854775807 < f.t.length + 6) := by omega
  clear ht
  have RD := fun {W : World} (b : Below ((w.alloc (fldO f)).alloc innZ).heap.size ((w.alloc (fldO f)).alloc innZ) W) => rd5 h f b
  have hP : P < w.heap.size := World.block_lt_of_cell? w _ h.p
  have FT := fun {W : World} (b : Below ((w.alloc (fldO f)).alloc innZ).heap.size ((w.alloc (fldO f)).alloc innZ) W) => gprop_any (h.on (A2.trans (b.mono A2.size))) f
  have D0 : Below ((w.alloc (fldO f)).alloc innZ).heap.size ((w.alloc (fldO f)).alloc innZ) ((w.alloc (fldO f)).alloc innZ).drew := bel_dr (Below.refl _ _)
  obtain ⟨fn, ft, fw, fs, fi⟩ := f
  generalize edgS s ⟨fn, ft, fw, fs, fi⟩ = k at *
  simp only at h6
  show Calls Tryz.prog 68 #[fldV ⟨fn, ft, fw, fs, fi⟩, .pointer (some ⟨P, 0, none⟩)] w fun e w' => e = .returned (.tuple #[.agg #[.string ⟨fn.toArray⟩, .string ⟨(ft ++ cFilter).toArray⟩, .string ⟨#[]⟩], .bool (decide (k < 0))]) ∧ Below w.heap.size w w'
  rw [← bytes_add]
  go_enter Tryz.func68, Tryz.ntmps68
  go_wp2
  go_region_held3 (Rd5 w P S fn ft fw fs fi) (first | exact RD D2 | exact (RD D2).kp (kp3 _ _ _ _ _) hP | exact RD D1 | exact RD D0) ((first
    | (go_at_call 66; (with_reducible refine (gin_any _ _ _ _).mono ?_); rintro e x1 ⟨rfl, b1⟩; have D1 := D0.trans (b1.mono D0.size))
    | (go_at_call 58; (with_reducible refine (FT D1).mono ?_); rintro e x2 ⟨rfl, b2⟩; have D2 := D1.trans (b2.mono D1.size); obtain ⟨c0, c1, c2, cf⟩ := row3 (new_on2 D2).2)))
  all_goals
    go_wp2
    exact bodyPost_ret (v := .tuple #[.agg #[.string ⟨fn.toArray⟩, .string (⟨ft.toArray⟩ ++ ⟨cFilter.toArray⟩), .string ⟨#[]⟩], .bool (decide (k < 0))]) (by simp [results, Tryz.results68, go_sem, c0, c1, c2]) rfl ⟨rfl, bel_kp (A2.trans (D2.mono A2.size)) (by omega) (kp3 _ _ _ _ _)⟩
end
end Go.Proofs.YtamkjpfomaapgaaGreatDoor
namespace Go.Proofs.YtamkjpfomaapgaaGreatDoor
open Go Go.RowKit Go.Shelf
set_option maxRecDepth 100000 in
set_option maxHeartbeats 4000000 in
theorem over_Out {w w0 : World} {B : Nat} {v fv : Value} {l0 : List Ot} {fs : List Fld}
    (hb : Below w0.heap.size w0 w) (hB0 : w0.heap.size ≤ B) (hB : B ≤ w.heap.size) (hf : FldsAt w0 fv fs) (hl : l0.length + fs.length ≤ 1000) (hs : ∀ f ∈ fs, f.t.length ≤ 1000) (row : OtR w B v l0) :
    Calls Tryz.prog 60 #[v, fv, .func (.func 61) #[] #[]] w fun e w' => ∃ v', e = .returned v' ∧ OtR w' B v' (l0 ++ fs.map fldT) ∧ Gt B 41 w w' := by
  obtain ⟨lp0, hlp0, row0, inn0⟩ := row
  obtain ⟨ti, hti, hy0, hy1, hy2⟩ := info_parts Tryz.infoOut
  have hfs := hf
  obtain ⟨a0, c0, rfl, _, hn⟩ := hf.slice
  go_enter Tryz.func60, Tryz.ntmps60
  go_wp2
  go_loopw [0, 13] (fun lz iv wr => ∃ (lv : Value) (j : Nat) (ll : List (Ot × Value)), lv = lz ∧ iv = .int .i64 (j : Int) ∧ j ≤ fs.length ∧ RowO wr B 41 4 outC lv ll ∧ ll.map (·.1) = l0 ++ (fs.take j).map fldT ∧ (∀ p ∈ ll, InR wr B p.2 p.1.ar) ∧ Gt B 41 w wr) (fun _ iv _ => fs.length - (RowKit.intOf iv).toNat)
  case atStart => exact ⟨_, 0, lp0, rfl, rfl, Nat.zero_le _, row0, by simp [hlp0], inn0, Gt.refl _ _ _⟩
  case round =>
    obtain ⟨lv, j, ll, rfl, rfl, hj, hrow, hdn, hin, hg⟩ := hrel
    have hdl : ll.length ≤ l0.length + j := by
      have e := congrArg List.length hdn
      rw [List.length_map, List.length_append, List.length_map, List.length_take] at e
      omega
    by_cases hlt : j < fs.length
    · obtain ⟨f, hx⟩ : ∃ f, fs[j]? = some f := ⟨_, List.getElem?_eq_getElem hlt⟩
      obtain ⟨b1, o1, rfl, hbl1, _, g0, g1, g2, g3, g4⟩ := fld_cells hfs hx
      have hbr : Below w0.heap.size w0 wr := hb.trans ((hg.below hB).mono hB0)
      have k0 := cell_on hbr g0
      have k1 := cell_on hbr g1
      have k2 := cell_on hbr g2
      have k3 := cell_on hbr g3
      have k4 := cell_on hbr g4
      have l2 : ((j : Nat) : Int) < (fs.length : Int) := by omega
      have hjN : ((j : Nat) : Int).toNat = j := by omega
      have CL := gof2_any f (hs f (List.mem_of_getElem? hx)) (wr.alloc (fldO f))
      have hzB : B ≤ wr.heap.size := Nat.le_trans hB hg.size
      have HK : Hid (j + 1 ≤ fs.length) := hlt
      have HD : Hid (ll.map (·.1) ++ [fldT f] = l0 ++ (fs.take (j + 1)).map fldT) := by
        show _ = _
        rw [hdn, take_step hx, List.map_append, List.append_assoc]
        rfl
      obtain ⟨lo, lc, rfl⟩ := hrow.slice
      have hlen : ll.length ≤ 1000 := by omega
      clear hx hlt hdn g0 g1 g2 g3 g4
      generalize fldT f = m at *
      obtain ⟨fn, ft, fw, fs', fi⟩ := f
      obtain ⟨xn, xt, xw, xa⟩ := m
      simp only at k0 k1 k2 k3 k4
      have HI : Hid (∀ p ∈ ll, InR wr B p.2 p.1.ar) := hin
      clear hin
      go_wp2_with (first
        | (go_at_call 61; (with_reducible refine CL.mono ?_); rintro e w2 ⟨av, rfl, I2, b2⟩; have G2 : Gt B 41 w w2 := (hg.alloc _).trans (gt_of b2); have R2 := (RowO.on hrow (al1 wr (fldO ⟨fn, ft, fw, fs', fi⟩))).on b2; have hz2 := G2.size; obtain ⟨p, c8, rfl⟩ := I2.slice)
        | (at_builtin; refine wpList_append_lies _ rfl (.tmp 24) (.tmp 26) 32 rfl B 41 ti _ 4 72 Tryz.underlying32 hti hy0 hy1 hy2 rfl (by decide) (.slice lo ll.length lc) ll.length (ll.flatMap outC) rfl ((R2.on (al2 w2 _ _))) ⟨w2.heap.size + 1, 0, none⟩ 1 1 [.string ⟨xn.toArray⟩, .string ⟨xt.toArray⟩, .string ⟨xw.toArray⟩, .slice p xa.length c8] rfl rfl (World.news_of_block (new2 w2 _ _)) (by intro u hu; simp at hu; rcases hu with rfl | rfl | rfl | rfl <;> rfl) (by decide) (by unfold maxLen; omega) (by omega) (by rw [World.size_alloc, World.size_alloc]; omega) _ rfl ?_; intro q8 cp8 w8 own8 gr8 hor8 hlt8)
        | fail)
      have g8 := gt_grown (R2.on (al2 w2 _ _)) gr8
      have G8 : Gt B 41 w w8 := (G2.trans (gt_of (al2 w2 _ _))).trans g8
      refine ⟨⟨_, j + 1, ll ++ [(⟨xn, xt, xw, xa⟩, .slice p xa.length c8)], rfl, by simp, HK.out, RowO.push own8, by rw [List.map_append]; exact HD.out, ?_, G8⟩, ?_⟩
      · intro q hq
        rcases List.mem_append.1 hq with hq | hq
        · exact ((((HI.out q hq).on (al1 wr _)).on b2).on (al2 w2 _ _)).gt g8 (by decide)
        · rw [List.mem_singleton] at hq
          subst hq
          exact ((I2.base (Nat.le_trans hzB (al1 wr _).size)).on (al2 w2 _ _)).gt g8 (by decide)
      · have := HK.out
        simp [RowKit.intOf]
        omega
    · have l2 : decide (((j : Nat) : Int) < (fs.length : Int)) = false := by simp; omega
      have l3 : decide (j < fs.length) = false := by simp; omega
      have hje : j = fs.length := by omega
      have HS : Hid (ll.map (·.1) = l0 ++ fs.map fldT) := by
        show _ = _
        rw [hdn, hje, List.take_length]
      clear hje hlt hdn hdl hj
      go_wp2
      exact bodyPost_ret (v := lv) (by simp [results, Tryz.results60, go_sem]) rfl ⟨_, rfl, ⟨ll, HS.out, hrow, hin⟩, hg⟩
end Go.Proofs.YtamkjpfomaapgaaGreatDoor
namespace Go.Proofs.YtamkjpfomaapgaaGreatDoor
open Go Go.RowKit Go.Shelf
abbrev cmpN : List Bs := [[101, 113], [108, 116], [108, 101], [103, 116], [103, 101]]
abbrev cmpO : Obj := .cells #[.string ⟨#[101, 113]⟩, .string ⟨#[108, 116]⟩, .string ⟨#[108, 101]⟩, .string ⟨#[103, 116]⟩, .string ⟨#[103, 101]⟩] 9
theorem five {j : Nat} (h : j < 5) : j = 0 ∨ j = 1 ∨ j = 2 ∨ j = 3 ∨ j = 4 := by omega
theorem cmp_at {x : Bs} {j : Nat} (h : j < 5) : ∃ n : Bs, (cmpT x)[j]? = some ⟨n, x, []⟩ ∧ ∀ {W : World} {g : Nat}, W.heap[g]? = some cmpO → W.cell? ⟨g, j, none⟩ = some (.string ⟨n.toArray⟩) := by
  rcases five h with rfl | rfl | rfl | rfl | rfl <;> exact ⟨_, rfl, fun hW => by simp [World.cell?, hW]⟩
set_option maxRecDepth 100000 in
set_option maxHeartbeats 4000000 in
theorem gcompared_any (x : Bs) (w : World) : Calls Tryz.prog 72 #[.string ⟨x.toArray⟩] w fun e w' => ∃ v, e = .returned v ∧ InR w' w.heap.size v (cmpT x) ∧ Below w.heap.size w w' := by
  obtain ⟨ti, hti, hy0, hy1, hy2⟩ := info_parts Tryz.infoIn
  have A1 := al1 w cmpO
  go_enter Tryz.func72, Tryz.ntmps72
  go_wp2
  go_loopw [3, 8] (fun lz iv wr => ∃ (lv : Value) (j : Nat) (ll : List Inn), lv = lz ∧ iv = .int .i64 (j : Int) ∧ j ≤ 5 ∧ InR wr w.heap.size lv ll ∧ ll = (cmpT x).take j ∧ ll.length = j ∧ Gt w.heap.size 39 (w.alloc cmpO) wr) (fun _ iv _ => 5 - (RowKit.intOf iv).toNat)
  case atStart => exact ⟨_, 0, [], rfl, rfl, Nat.zero_le _, RowO.none, rfl, rfl, Gt.refl _ _ _⟩
  case round =>
    obtain ⟨lv, j, ll, rfl, rfl, hj, hrow, hll, hlen, hg⟩ := hrel
    have hzB := hg.size
    rw [World.size_alloc] at hzB
    have hO : wr.heap[w.heap.size]? = some cmpO := hg.block _ _ (heap_alloc_new w _) (Or.inr (by simp))
    obtain ⟨lo, lc, rfl⟩ := hrow.slice
    rw [hlen] at hrow ⊢
    by_cases hlt : j < 5
    · obtain ⟨n, hn, hc⟩ := cmp_at (x := x) hlt
      have c0 := hc hO
      have l2 : ((j : Nat) : Int) < 5 := by omega
      have hjN : ((j : Nat) : Int).toNat = j := by omega
      have HK : Hid (j + 1 ≤ 5) := hlt
      have HD : Hid (ll ++ [⟨n, x, []⟩] = (cmpT x).take (j + 1)) := by
        show _ = _
        rw [take_step hn, ← hll]
      have HL : Hid (ll.length = j) := hlen
      clear hn hc hll hlt hO
      go_wp2_with (first
        | (go_at_call 66; (with_reducible refine (gin_any _ _ _ _).mono ?_); rintro e w2 ⟨rfl, b2⟩; have G2 : Gt w.heap.size 39 (w.alloc cmpO) w2 := hg.trans (gt_of b2); have R2 := RowO.on hrow b2; have hz2 := b2.size)
        | (at_builtin; refine wpList_append_lies _ rfl (.tmp 12) (.tmp 16) 33 rfl w.heap.size 39 ti _ 3 48 Tryz.underlying33 hti hy0 hy1 hy2 rfl (by decide) (.slice lo j lc) j (ll.flatMap innC) rfl ((R2.on (al1 w2 _)).own HL.out) ⟨w2.heap.size, 0, none⟩ 1 1 [.string ⟨n.toArray⟩, .string ⟨x.toArray⟩, .string ⟨#[]⟩] rfl rfl (World.news_of_block (heap_alloc_new w2 _)) (by intro u hu; simp at hu; rcases hu with rfl | rfl | rfl <;> rfl) (by decide) (by unfold maxLen; omega) (by omega) (by rw [World.size_alloc]; omega) _ rfl ?_; intro q8 cp8 w8 own8 gr8 hor8 hlt8)
        | fail)
      have R3 := R2.on (al1 w2 (.cells #[.string ⟨n.toArray⟩, .string ⟨x.toArray⟩, .string ⟨#[]⟩] 39))
      unfold RowO at R3
      have G8 : Gt w.heap.size 39 (w.alloc cmpO) w8 := (G2.alloc _).trans (gt_grown R3 gr8)
      refine ⟨⟨_, j + 1, ll ++ [⟨n, x, []⟩], rfl, by simp, HK.out, ?_, HD.out, by rw [List.length_append, HL.out]; rfl, G8⟩, ?_⟩
      · refine RowO.push ?_
        rw [HL.out]
        exact own8
      · have := HK.out
        simp [RowKit.intOf]
        omega
    · have l2 : decide (((j : Nat) : Int) < 5) = false := by simp; omega
      have l3 : decide (j < 5) = false := by simp; omega
      have hje : j = 5 := by omega
      subst hje
      have HD : Hid (ll ++ [⟨[105, 110], x, wSome⟩] = cmpT x) := by
        show _ = _
        rw [hll]
        rfl
      have HL : Hid (ll.length = 5) := hlen
      clear hll hlt hO hj
      go_wp2_with (first
        | (go_at_call 66; (with_reducible refine (gin_any _ _ _ _).mono ?_); rintro e w2 ⟨rfl, b2⟩; have G2 : Gt w.heap.size 39 (w.alloc cmpO) w2 := hg.trans (gt_of b2); have R2 := RowO.on hrow b2; have hz2 := b2.size)
        | (at_builtin; refine wpList_append_lies _ rfl (.tmp 19) (.tmp 22) 33 rfl w.heap.size 39 ti _ 3 48 Tryz.underlying33 hti hy0 hy1 hy2 rfl (by decide) (.slice lo 5 lc) 5 (ll.flatMap innC) rfl ((R2.on (al1 w2 _)).own HL.out) ⟨w2.heap.size, 0, none⟩ 1 1 [.string ⟨#[105, 110]⟩, .string ⟨x.toArray⟩, .string ⟨#[33, 91]⟩] rfl rfl (World.news_of_block (heap_alloc_new w2 _)) (by intro u hu; simp at hu; rcases hu with rfl | rfl | rfl <;> rfl) (by decide) (by unfold maxLen; omega) (by omega) (by rw [World.size_alloc]; omega) _ rfl ?_; intro q8 cp8 w8 own8 gr8 hor8 hlt8)
        | fail)
      have R3 := R2.on (al1 w2 (.cells #[.string ⟨#[105, 110]⟩, .string ⟨x.toArray⟩, .string ⟨#[33, 91]⟩] 39))
      unfold RowO at R3
      have G8 : Gt w.heap.size 39 (w.alloc cmpO) w8 := (G2.alloc _).trans (gt_grown R3 gr8)
      have B8 : Below w.heap.size w w8 := A1.trans (G8.below A1.size)
      refine bodyPost_ret (v := .slice (some ⟨q8, 0, none⟩) 6 cp8) (by simp [results, Tryz.results72, go_sem]) rfl ⟨_, rfl, ?_, B8⟩
      rw [← HD.out]
      refine RowO.push ?_
      rw [HL.out]
      exact own8
abbrev scaN : List Bs := [cID, intB, floB, strB, booB]
abbrev scaO : Obj := .cells #[.string ⟨#[73, 68]⟩, .string ⟨#[73, 110, 116]⟩, .string ⟨#[70, 108, 111, 97, 116]⟩, .string ⟨#[83, 116, 114, 105, 110, 103]⟩, .string ⟨#[66, 111, 111, 108, 101, 97, 110]⟩] 9
abbrev scaP (n : Bs) : Df × Value × Value × Value := (scaT n, .slice none 0 0, .slice none 0 0, .slice none 0 0)
theorem sca_at {j : Nat} (h : j < 5) : ∃ n : Bs, scaN[j]? = some n ∧ ∀ {W : World} {g : Nat}, W.heap[g]? = some scaO → W.cell? ⟨g, j, none⟩ = some (.string ⟨n.toArray⟩) := by
  rcases five h with rfl | rfl | rfl | rfl | rfl <;> exact ⟨_, rfl, fun hW => by simp [World.cell?, hW]⟩
theorem OtR.none {w : World} {B : Nat} : OtR w B (.slice none 0 0) [] := ⟨[], rfl, RowO.none, by simp⟩
theorem scaP_ok (w : World) (B : Nat) (n : Bs) : DfO w B (scaP n) := ⟨RowO.none, OtR.none, RowO.none⟩
set_option maxRecDepth 100000 in
set_option maxHeartbeats 4000000 in
theorem gscalars_any (w : World) : Calls Tryz.prog 25 #[] w fun e w' => ∃ v, e = .returned v ∧ DfR w' w.heap.size v (scaN.map scaT) ∧ Below w.heap.size w w' := by
  obtain ⟨ti, hti, hy0, hy1, hy2⟩ := info_parts Tryz.infoDef
  have A1 := al1 w scaO
  go_enter Tryz.func25, Tryz.ntmps25
  go_wp2
  go_loopw [1, 6] (fun lz iv wr => ∃ (lv : Value) (j : Nat) (ll : List Bs), lv = lz ∧ iv = .int .i64 (j : Int) ∧ j ≤ 5 ∧ RowO wr w.heap.size 35 5 defC lv (ll.map scaP) ∧ ll = scaN.take j ∧ (ll.map scaP).length = j ∧ Gt w.heap.size 35 (w.alloc scaO) wr) (fun _ iv _ => 5 - (RowKit.intOf iv).toNat)
  case atStart => exact ⟨_, 0, [], rfl, rfl, Nat.zero_le _, RowO.none, rfl, rfl, Gt.refl _ _ _⟩
  case round =>
    obtain ⟨lv, j, ll, rfl, rfl, hj, hrow, hll, hlen, hg⟩ := hrel
    have hzB := hg.size
    rw [World.size_alloc] at hzB
    have hO : wr.heap[w.heap.size]? = some scaO := hg.block _ _ (heap_alloc_new w _) (Or.inr (by simp))
    obtain ⟨lo, lc, rfl⟩ := hrow.slice
    rw [hlen] at hrow ⊢
    by_cases hlt : j < 5
    · obtain ⟨n, hn, hc⟩ := sca_at hlt
      have c0 := hc hO
      have l2 : ((j : Nat) : Int) < 5 := by omega
      have hjN : ((j : Nat) : Int).toNat = j := by omega
      have HK : Hid (j + 1 ≤ 5) := hlt
      have HD : Hid (ll ++ [n] = scaN.take (j + 1)) := by
        show _ = _
        rw [take_step hn, ← hll]
      have HL : Hid ((ll.map scaP).length = j) := hlen
      generalize hll2 : ll.map scaP = l2' at *
      clear hn hc hll hlt hO
      go_wp2_with (first
        | (at_builtin; refine wpList_append_lies _ rfl (.tmp 10) (.tmp 13) 26 rfl w.heap.size 35 ti _ 5 96 Tryz.underlying26 hti hy0 hy1 hy2 rfl (by decide) (.slice lo j lc) j (l2'.flatMap defC) rfl ((hrow.on (al1 wr _)).own HL.out) ⟨wr.heap.size, 0, none⟩ 1 1 [.string ⟨n.toArray⟩, .int .i64 0, .slice none 0 0, .slice none 0 0, .slice none 0 0] rfl rfl (World.news_of_block (heap_alloc_new wr _)) (by intro u hu; simp at hu; rcases hu with rfl | rfl | rfl <;> rfl) (by decide) (by unfold maxLen; omega) (by omega) (by rw [World.size_alloc]; omega) _ rfl ?_; intro q8 cp8 w8 own8 gr8 hor8 hlt8)
        | fail)
      have R3 := hrow.on (al1 wr (.cells #[.string ⟨n.toArray⟩, .int .i64 0, .slice none 0 0, .slice none 0 0, .slice none 0 0] 35))
      unfold RowO at R3
      have G8 : Gt w.heap.size 35 (w.alloc scaO) w8 := (hg.alloc _).trans (gt_grown R3 gr8)
      have e2 : (ll ++ [n]).map scaP = l2' ++ [scaP n] := by rw [List.map_append, hll2]; rfl
      refine ⟨⟨_, j + 1, ll ++ [n], rfl, by simp, HK.out, ?_, HD.out, by rw [e2, List.length_append, HL.out]; rfl, G8⟩, ?_⟩
      · rw [e2]
        refine RowO.push ?_
        rw [HL.out]
        exact own8
      · have := HK.out
        simp [RowKit.intOf]
        omega
    · have l2 : decide (((j : Nat) : Int) < 5) = false := by simp; omega
      have l3 : decide (j < 5) = false := by simp; omega
      have hje : j = 5 := by omega
      subst hje
      have HD : Hid (ll = scaN) := hll
      have B8 : Below w.heap.size w wr := A1.trans (hg.below A1.size)
      have HR : Hid (RowO wr w.heap.size 35 5 defC (.slice lo 5 lc) (ll.map scaP)) := hrow
      clear hll hlt hO hj hrow
      go_wp2
      refine bodyPost_ret (v := .slice lo 5 lc) (by simp [results, Tryz.results25, go_sem]) rfl ⟨_, rfl, ⟨_, ?_, HR.out, ?_⟩, B8⟩
      · rw [HD.out]
        rfl
      · intro p hp
        obtain ⟨n, _, rfl⟩ := List.mem_map.1 hp
        exact scaP_ok _ _ _
end Go.Proofs.YtamkjpfomaapgaaGreatDoor
