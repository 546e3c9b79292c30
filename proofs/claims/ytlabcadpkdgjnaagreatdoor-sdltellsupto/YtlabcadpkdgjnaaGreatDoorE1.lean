/- The reader of a schema's tokens: types. -/
import Derived.Test.YtlabcadpkdgjnaaGreatDoorLxS
import Derived.Test.YtlabcadpkdgjnaaGreatDoorScA
import Derived.Deep.RegionHeld3
import Derived.Deep.RegionLawGrows
import Derived.Deep.DrawnRows
namespace Go.Proofs.YtlabcadpkdgjnaaGreatDoor
open Go
abbrev Rs (α : Type) := Except (Nat × Int) (α × List Tok)
def Rs.go {α β : Type} (r : Rs α) (f : α → List Tok → Rs β) : Rs β := match r with
  | .error p => .error p
  | .ok p => f p.1 p.2
theorem go_error {α β : Type} (p : Nat × Int) (f : α → List Tok → Rs β) : Rs.go (.error p) f = .error p := rfl
theorem go_ok {α β : Type} (a : α) (l : List Tok) (f : α → List Tok → Rs β) : Rs.go (.ok (a, l)) f = f a l := rfl
theorem go_ok_inv {α β : Type} {r : Rs α} {f : α → List Tok → Rs β} {b : β} {m : List Tok} (h : Rs.go r f = .ok (b, m)) : ∃ a l, r = .ok (a, l) ∧ f a l = .ok (b, m) := by
  cases r with
  | error p => cases h
  | ok p => exact ⟨p.1, p.2, rfl, h⟩
def isP (s : Bs) : List Tok → Bool
  | [] => false
  | t :: _ => t.k == 0 && t.t == s
def isW (s : Bs) : List Tok → Bool
  | [] => false
  | t :: _ => t.k == 1 && t.t == s
def isK (k : Int) : List Tok → Bool
  | [] => false
  | t :: _ => t.k == k
def atT : List Tok → Nat
  | [] => 0
  | t :: _ => t.b
def txT : List Tok → Bs
  | [] => []
  | t :: _ => t.t
def anyF {α : Type} (f : List Tok → Rs α) (last : Bs) : Nat → List Tok → Rs (List α)
  | 0, _ => .error (0, 0)
  | k + 1, l => if isP last l then .ok ([], l.tail) else (f l).go fun a l1 => (anyF f last k l1).go fun b l2 => .ok (a :: b, l2)
def anyS {α : Type} (f : List Tok → Rs α) (last : Bs) (l : List Tok) : Rs (List α) := anyF f last (l.length + 1) l
def someS {α : Type} (f : List Tok → Rs α) (last : Bs) (l : List Tok) : Rs (List α) := (f l).go fun a l1 => (anyS f last l1).go fun b l2 => .ok (a :: b, l2)
/-- Where a document's tokens end. -/
abbrev eofT (N : Nat) : Tok := ⟨0, [], N, 0⟩
def Eats {α : Type} (f : List Tok → Rs α) : Prop := ∀ l a m, f l = .ok (a, m) → m.length < l.length
def Keeps {α : Type} (f : List Tok → Rs α) : Prop := ∀ l a m, f l = .ok (a, m) → m.length ≤ l.length
theorem Eats.keeps {α : Type} {f : List Tok → Rs α} (h : Eats f) : Keeps f := fun l a m e => Nat.le_of_lt (h l a m e)
theorem isP_pos {s : Bs} {l : List Tok} (h : isP s l = true) : 0 < l.length := by cases l <;> simp_all [isP]
theorem isK_pos {k : Int} {l : List Tok} (h : isK k l = true) : 0 < l.length := by cases l <;> simp_all [isK]
theorem isW_pos {s : Bs} {l : List Tok} (h : isW s l = true) : 0 < l.length := by cases l <;> simp_all [isW]
theorem Eats.go {α β : Type} {f : List Tok → Rs α} {g : α → List Tok → Rs β} (hf : Eats f) (hg : ∀ a, Keeps (g a)) : Eats (fun l => (f l).go g) := by
  intro l b m h
  obtain ⟨a, l1, h1, h2⟩ := go_ok_inv h
  have := hf _ _ _ h1
  have := hg a _ _ _ h2
  omega
theorem Keeps.go {α β : Type} {f : List Tok → Rs α} {g : α → List Tok → Rs β} (hf : Keeps f) (hg : ∀ a, Keeps (g a)) : Keeps (fun l => (f l).go g) := by
  intro l b m h
  obtain ⟨a, l1, h1, h2⟩ := go_ok_inv h
  have := hf _ _ _ h1
  have := hg a _ _ _ h2
  omega
theorem keeps_ok {α : Type} (a : α) : Keeps (fun l => (.ok (a, l) : Rs α)) := by
  intro l b m h; cases h; exact Nat.le_refl _
theorem Keeps.go_eats {α β : Type} {f : List Tok → Rs α} {g : α → List Tok → Rs β} (hf : Keeps f) (hg : ∀ a, Eats (g a)) : Eats (fun l => (f l).go g) := by
  intro l b m h
  obtain ⟨a, l1, h1, h2⟩ := go_ok_inv h
  have := hf _ _ _ h1
  have := hg a _ _ _ h2
  omega
theorem anyF_keeps {α : Type} {f : List Tok → Rs α} (hf : Eats f) (last : Bs) : ∀ k, Eats (anyF f last k)
  | 0 => fun l a m h => by cases h
  | k + 1 => by
    intro l a m h
    unfold anyF at h
    split at h
    · rename_i hk
      have := isP_pos hk
      cases h
      simp; omega
    · obtain ⟨b, l1, h1, h2⟩ := go_ok_inv h
      obtain ⟨c, l2, h3, h4⟩ := go_ok_inv h2
      cases h4
      have := hf _ _ _ h1
      have := anyF_keeps hf last k _ _ _ h3
      omega
theorem anyS_eats {α : Type} {f : List Tok → Rs α} (hf : Eats f) (last : Bs) : Eats (anyS f last) := fun l a m h => anyF_keeps hf last _ l a m h
theorem someS_eats {α : Type} {f : List Tok → Rs α} (hf : Eats f) (last : Bs) : Eats (someS f last) := hf.go fun _ => ((anyS_eats hf last).keeps).go fun _ => keeps_ok _
theorem eats_tail {α : Type} {c : List Tok → Bool} (hc : ∀ l, c l = true → 0 < l.length) {f g : List Tok → Rs α} (hf : Keeps f) (hg : Eats g) : Eats (fun l => if c l then f l.tail else g l) := by
  intro l a m h
  simp only at h
  split at h
  · rename_i hk
    have := hc l hk
    have := hf _ _ _ h
    simp at this; omega
  · exact hg _ _ _ h
theorem keeps_tail {α : Type} {c : List Tok → Bool} {f g : List Tok → Rs α} (hf : Keeps f) (hg : Keeps g) : Keeps (fun l => if c l then f l.tail else g l) := by
  intro l a m h
  simp only at h
  split at h
  · have := hf _ _ _ h
    simp at this; omega
  · exact hg _ _ _ h
theorem eats_if {α : Type} {c : List Tok → Bool} {f g : List Tok → Rs α} (hf : Eats f) (hg : Eats g) : Eats (fun l => if c l then f l else g l) := by
  intro l a m h
  simp only at h
  split at h
  · exact hf _ _ _ h
  · exact hg _ _ _ h
theorem eats_err {α : Type} (g : List Tok → Nat × Int) : Eats (fun l => (.error (g l) : Rs α)) := fun l a m h => by cases h
theorem eats_ok {α : Type} (c : List Tok → Bool) (hc : ∀ l, c l = true → 0 < l.length) (x : List Tok → α) {g : List Tok → Rs α} (hg : Eats g) : Eats (fun l => if c l then .ok (x l, l.tail) else g l) := by
  intro l a m h
  simp only at h
  split at h
  · rename_i hk
    have := hc l hk
    cases h
    simp; omega
  · exact hg _ _ _ h
theorem anyF_fuel {α : Type} {f : List Tok → Rs α} (hf : Eats f) (last : Bs) : ∀ (n m : Nat) (l : List Tok), l.length < n → l.length < m → anyF f last n l = anyF f last m l
  | 0, _, _, h, _ => absurd h (Nat.not_lt_zero _)
  | _ + 1, 0, _, _, h => absurd h (Nat.not_lt_zero _)
  | n + 1, m + 1, l, hn, hm => by
    unfold anyF
    split
    · rfl
    · cases h : f l with
      | error p => rfl
      | ok p =>
        obtain ⟨a, l1⟩ := p
        have := hf _ _ _ h
        simp only [go_ok]
        rw [anyF_fuel hf last n m l1 (by omega) (by omega)]
theorem anyS_eq {α : Type} {f : List Tok → Rs α} (hf : Eats f) (last : Bs) (l : List Tok) : anyS f last l = if isP last l then .ok ([], l.tail) else (f l).go fun a l1 => (anyS f last l1).go fun b l2 => .ok (a :: b, l2) := by
  unfold anyS
  conv => lhs; unfold anyF
  split
  · rfl
  · cases h : f l with
    | error p => rfl
    | ok p =>
      obtain ⟨a, l1⟩ := p
      have := hf _ _ _ h
      simp only [go_ok]
      rw [anyF_fuel hf last l.length (l1.length + 1) l1 (by omega) (by omega)]
end Go.Proofs.YtlabcadpkdgjnaaGreatDoor
namespace Go.Proofs.YtlabcadpkdgjnaaGreatDoor
open Go Go.RowKit Go.Shelf
abbrev fldC (f : Fld) : List Value := [.string ⟨f.n.toArray⟩, .string ⟨f.t.toArray⟩, .string ⟨f.w.toArray⟩, .bool f.s, .string ⟨f.i.toArray⟩]
abbrev wrdC (x : Bs) : List Value := [.string ⟨x.toArray⟩]
abbrev nmdC (p : Bs × Value) : List Value := [.string ⟨p.1.toArray⟩, p.2]
section
variable {α : Type} {f : α → List Value} {sz : Nat}
theorem flat_len (hf : ∀ x, (f x).length = sz) : ∀ l : List α, (l.flatMap f).length = l.length * sz
  | [] => by simp
  | x :: l => by
    rw [List.flatMap_cons, List.length_append, flat_len hf l, hf, List.length_cons, Nat.add_mul]
    omega
theorem flat_at (hf : ∀ x, (f x).length = sz) : ∀ (l : List α) (i : Nat) (x : α), l[i]? = some x → ∀ j, j < sz → (l.flatMap f)[i * sz + j]? = (f x)[j]?
  | [], _, _, h, _, _ => by simp at h
  | y :: l, 0, x, h, j, hj => by
    simp at h
    subst h
    rw [Nat.zero_mul, Nat.zero_add, List.flatMap_cons]
    exact List.getElem?_append_left (by rw [hf]; exact hj)
  | y :: l, i + 1, x, h, j, hj => by
    have ih := flat_at hf l i x (by simpa using h) j hj
    rw [← ih, List.flatMap_cons]
    have e : (i + 1) * sz + j = sz + (i * sz + j) := by rw [Nat.add_mul]; omega
    rw [e, List.getElem?_append_right (by rw [hf]; omega), hf]
    congr 1
    omega
/-- A row of such elements that a call owns. -/
def RowO (w : World) (B E : Nat) (sz : Nat) (f : α → List Value) (v : Value) (l : List α) : Prop := w.ownsRow B E sz v l.length (l.flatMap f)
theorem RowO.slice {w : World} {B E : Nat} {v : Value} {l : List α} (h : RowO w B E sz f v l) : ∃ a c, v = .slice a l.length c := by
  rcases h.2 with ⟨h1, h2⟩ | ⟨g, cap, cur, hv, _⟩
  · exact ⟨none, 0, by rw [h1, h2]⟩
  · exact ⟨_, _, hv⟩
theorem RowO.blk {w w' : World} {B E : Nat} {v : Value} {l : List α} (h : RowO w B E sz f v l) (hb : ∀ g cur, B ≤ g → w.heap[g]? = some (.cells cur E (0, 0)) → w'.heap[g]? = some (.cells cur E (0, 0))) : RowO w' B E sz f v l := by
  refine ⟨h.1, ?_⟩
  rcases h.2 with q | ⟨g, cap, cur, hv, hB, hg, h3⟩
  · exact Or.inl q
  · exact Or.inr ⟨g, cap, cur, hv, hB, hb g cur hB hg, h3⟩
theorem RowO.on {w w' : World} {B E : Nat} {v : Value} {l : List α} (h : RowO w B E sz f v l) (hb : Below w.heap.size w w') : RowO w' B E sz f v l := h.blk fun g _ _ hg => (hb.block g (lt_of_block hg)).trans hg
theorem RowO.base {w : World} {B B' E : Nat} {v : Value} {l : List α} (h : RowO w B E sz f v l) (hb : B' ≤ B) : RowO w B' E sz f v l := by
  refine ⟨h.1, ?_⟩
  rcases h.2 with q | ⟨g, cap, cur, hv, hB, h3⟩
  · exact Or.inl q
  · exact Or.inr ⟨g, cap, cur, hv, Nat.le_trans hb hB, h3⟩
/-- Only one block, of another type, has changed. -/
theorem RowO.kp {w w' : World} {B E T E' : Nat} {c : Array Value} {v : Value} {l : List α} (h : RowO w B E sz f v l) (k : Kp (fun k => k = T) w w') (hT : w.heap[T]? = some (.cells c E' (0, 0))) (hE : E ≠ E') : RowO w' B E sz f v l := h.blk fun g cur _ hg => (k.block g (lt_of_block hg) (fun e => by
    have e' : g = T := e
    subst e'
    rw [hT] at hg
    cases hg
    exact hE rfl)).trans hg
/-- A row of another type has grown. -/
theorem RowO.grown {w w' : World} {B B' E E' sz' n : Nat} {v u : Value} {xs : List Value} {l : List α} (h : RowO w B E sz f v l) (own : w.ownsRow B' E' sz' u n xs) (g : w.grownBy w' u.ownBlock) (hE : E ≠ E') : RowO w' B E sz f v l := h.blk fun k cur _ hk => (g.block k (lt_of_block hk) (fun e => by
    rcases own.2 with ⟨rfl, _⟩ | ⟨q, cap, cr, hv, _, hq, _⟩
    · cases e
    · rw [hv] at e
      have e2 : k = q := by simpa [Value.ownBlock] using e
      subst e2
      rw [hq] at hk
      cases hk
      exact hE rfl)).trans hk
theorem RowO.cell {w : World} {B E : Nat} {v : Value} {l : List α} (hf : ∀ x, (f x).length = sz) (h : RowO w B E sz f v l) (hl : l.length ≤ 140737488355328) {p : α → Nat → Nat → Prop} (hp : ∀ x b o, x ∈ l → (∀ j u, j < sz → (f x)[j]? = some u → w.cell? ⟨b, o + j, none⟩ = some u) → p x b o) : Sl w v l.length sz (fun i b o => ∀ x, l[i]? = some x → p x b o) := by
  rcases h.2 with ⟨rfl, h0⟩ | ⟨g, cap, cur, hv, hb, hg, hn, _, _, ht⟩
  · exact ⟨none, 0, by rw [h0], by omega, hl, fun hp => absurd hp (by omega)⟩
  · refine ⟨_, cap, hv, hn, hl, fun _ => ⟨g, 0, rfl, lt_of_block hg, fun i hi x hx => ?_⟩⟩
    refine hp x g _ (List.mem_of_getElem? hx) fun j u hj hu => ?_
    rw [← flat_at hf l i x hx j hj, ← ht, List.getElem?_take] at hu
    rw [Nat.zero_add]
    split at hu
    · unfold World.cell?
      rw [hg]
      simpa using hu
    · cases hu
end
theorem flds_row {w : World} {B : Nat} {v : Value} {l : List Fld} (h : RowO w B 63 5 fldC v l) (hl : l.length ≤ 140737488355328) : FldsAt w v l := RowO.cell (f := fldC) (sz := 5) (p := FldAt w) (fun _ => rfl) h hl fun x b o _ hc => ⟨hc 0 _ (by decide) rfl, hc 1 _ (by decide) rfl, hc 2 _ (by decide) rfl, hc 3 _ (by decide) rfl, hc 4 _ (by decide) rfl⟩
theorem wds_row {w : World} {B : Nat} {v : Value} {l : List Bs} (h : RowO w B 9 1 wrdC v l) (hl : l.length ≤ 140737488355328) : WdsAt w v l := RowO.cell (f := wrdC) (sz := 1) (p := fun x b o => w.cell? ⟨b, o, none⟩ = some (.string ⟨x.toArray⟩)) (fun _ => rfl) h hl fun x b o _ hc => hc 0 _ (by decide) rfl
theorem obs_row {w : World} {B : Nat} {v : Value} {l : List (Ob × Value)} (h : RowO w B 58 2 (fun p => nmdC (p.1.n, p.2)) v l) (hl : l.length ≤ 140737488355328) (hf : ∀ p ∈ l, FldsAt w p.2 p.1.fs) : ObsAt w v (l.map (·.1)) := by
  have h1 : Sl w v l.length 2 (fun i b o => ∀ x, l[i]? = some x → ObAt w x.1 b o) := RowO.cell (f := fun p => nmdC (p.1.n, p.2)) (sz := 2) (p := fun x b o => ObAt w x.1 b o) (fun _ => rfl) h hl fun x b o hx hc => ⟨hc 0 _ (by decide) rfl, x.2, hc 1 _ (by decide) rfl, hf x hx⟩
  unfold ObsAt
  rw [List.length_map]
  refine h1.mono (Nat.le_refl _) fun i b o _ hp x hx => ?_
  rw [List.getElem?_map] at hx
  obtain ⟨p, hp2, rfl⟩ := Option.map_eq_some_iff.1 hx
  exact hp p hp2
theorem ens_row {w : World} {B : Nat} {v : Value} {l : List (En × Value)} (h : RowO w B 66 2 (fun p => nmdC (p.1.n, p.2)) v l) (hl : l.length ≤ 140737488355328) (hf : ∀ p ∈ l, WdsAt w p.2 p.1.ws) : EnsAt w v (l.map (·.1)) := by
  have h1 : Sl w v l.length 2 (fun i b o => ∀ x, l[i]? = some x → EnAt w x.1 b o) := RowO.cell (f := fun p => nmdC (p.1.n, p.2)) (sz := 2) (p := fun x b o => EnAt w x.1 b o) (fun _ => rfl) h hl fun x b o hx hc => ⟨hc 0 _ (by decide) rfl, x.2, hc 1 _ (by decide) rfl, hf x hx⟩
  unfold EnsAt
  rw [List.length_map]
  refine h1.mono (Nat.le_refl _) fun i b o _ hp x hx => ?_
  rw [List.getElem?_map] at hx
  obtain ⟨p, hp2, rfl⟩ := Option.map_eq_some_iff.1 hx
  exact hp p hp2
theorem Tryz.infoFld : (Tryz.prog.info? 63).map (fun i => (i.zero, i.size, i.bytes)) = some (some (.agg #[.string ⟨#[]⟩, .string ⟨#[]⟩, .string ⟨#[]⟩, .bool false, .string ⟨#[]⟩]), 5, 72) := by kernel_rfl
theorem Tryz.infoStr : (Tryz.prog.info? 9).map (fun i => (i.zero, i.size, i.bytes)) = some (some (.string ⟨#[]⟩), 1, 16) := by kernel_rfl
theorem Tryz.infoEn : (Tryz.prog.info? 66).map (fun i => (i.zero, i.size, i.bytes)) = some (some (.agg #[.string ⟨#[]⟩, .slice none 0 0]), 2, 40) := by kernel_rfl
theorem Tryz.infoObj : (Tryz.prog.info? 58).map (fun i => (i.zero, i.size, i.bytes)) = some (some (.agg #[.string ⟨#[]⟩, .slice none 0 0]), 2, 40) := by kernel_rfl
/-- How many there are in bytes. -/
structure SchB (s : Sch) : Prop where
  os : s.os.length * 40 ≤ 140737488355328
  fs : ∀ o ∈ s.os, o.fs.length * 72 ≤ 140737488355328
  es : s.es.length * 40 ≤ 140737488355328
  ws : ∀ e ∈ s.es, e.ws.length * 16 ≤ 140737488355328
end Go.Proofs.YtlabcadpkdgjnaaGreatDoor
namespace Go.Proofs.YtlabcadpkdgjnaaGreatDoor
open Go Go.RowKit Go.Shelf
/-- Of what was there only blocks of one type, from one number on, have changed. -/
structure Gt (B E : Nat) (w w' : World) : Prop where
  os : w'.os = w.os
  tape : w'.tape = w.tape
  output : w'.output = w.output
  size : w.heap.size ≤ w'.heap.size
  block : ∀ k o, w.heap[k]? = some o → (k < B ∨ ∀ cur, o ≠ .cells cur E (0, 0)) → w'.heap[k]? = some o
theorem Gt.refl (B E : Nat) (w : World) : Gt B E w w := ⟨rfl, rfl, rfl, Nat.le_refl _, fun _ _ h _ => h⟩
theorem Gt.trans {B E : Nat} {w w' w'' : World} (h : Gt B E w w') (g : Gt B E w' w'') : Gt B E w w'' := ⟨g.os.trans h.os, g.tape.trans h.tape, g.output.trans h.output, Nat.le_trans h.size g.size, fun k o hk hq => g.block k o (h.block k o hk hq) hq⟩
theorem gt_of {B E : Nat} {w w' : World} (h : Below w.heap.size w w') : Gt B E w w' := ⟨h.os, h.tape, h.output, h.size, fun k _ hk _ => (h.block k (lt_of_block hk)).trans hk⟩
theorem Gt.below {B E : Nat} {w w' : World} (h : Gt B E w w') (hB : B ≤ w.heap.size) : Below B w w' := ⟨h.os, h.tape, h.output, h.size, fun k hk => by
    have hlt : k < w.heap.size := Nat.lt_of_lt_of_le hk hB
    have e : w.heap[k]? = some w.heap[k] := Array.getElem?_eq_getElem hlt
    rw [e]
    exact h.block k _ e (Or.inl hk)⟩
theorem Gt.base {B B' E : Nat} {w w' : World} (h : Gt B E w w') (hB : B' ≤ B) : Gt B' E w w' := ⟨h.os, h.tape, h.output, h.size, fun k o hk hq => h.block k o hk (hq.elim (fun q => Or.inl (Nat.lt_of_lt_of_le q hB)) Or.inr)⟩
theorem gt_grown {w w' : World} {B E sz n : Nat} {u : Value} {xs : List Value} (own : w.ownsRow B E sz u n xs) (g : w.grownBy w' u.ownBlock) : Gt B E w w' := ⟨g.os, g.tape, g.output, g.size, fun k o hk hq => (g.block k (lt_of_block hk) (fun e => by
    rcases own.2 with ⟨rfl, _⟩ | ⟨q, cap, cr, hv, hB, hq2, _⟩
    · cases e
    · rw [hv] at e
      have e2 : k = q := by simpa [Value.ownBlock] using e
      subst e2
      rw [hq2] at hk
      cases hk
      rcases hq with hq | hq
      · omega
      · exact hq _ rfl)).trans hk⟩
theorem Gt.cell {B E : Nat} {w w' : World} (h : Gt B E w w') {k j : Nat} {v : Value} (hk : w.cell? ⟨k, j, none⟩ = some v) (hB : k < B) : w'.cell? ⟨k, j, none⟩ = some v := by
  have hlt := World.block_lt_of_cell? w _ hk
  have e : w.heap[k]? = some w.heap[k] := Array.getElem?_eq_getElem hlt
  have e2 := h.block k _ e (Or.inl hB)
  rw [← e] at e2
  exact (World.cell?_of_block (a := ⟨k, j, none⟩) e2).trans hk
section
variable {α : Type} {f : α → List Value} {sz : Nat}
theorem RowO.gt {w w' : World} {B B' E E' : Nat} {v : Value} {l : List α} (h : RowO w B E sz f v l) (g : Gt B' E' w w') (hE : E ≠ E') : RowO w' B E sz f v l := h.blk fun _ _ _ hk => g.block _ _ hk (Or.inr fun _ e => by cases e; exact hE rfl)
/-- A row that is written out. -/
theorem RowO.lit {w : World} {B E g n : Nat} {l : List α} {cs : Array Value} (hf : ∀ x, (f x).length = sz) (hB : B ≤ g) (h : w.heap[g]? = some (.cells cs E (0, 0))) (hc : cs.toList = l.flatMap f) (hn : l.length = n) (hm : n ≤ maxLen) : RowO w B E sz f (.slice (some ⟨g, 0, none⟩) n n) l := by
  have e : cs.toList.length = n * sz := by rw [hc, flat_len hf, hn]
  subst hn
  refine ⟨flat_len hf l, Or.inr ⟨g, l.length, cs, rfl, hB, h, Nat.le_refl _, hm, by rw [← Array.length_toList, e], ?_⟩⟩
  rw [← hc, List.take_of_length_le (by omega)]
theorem RowO.own {w : World} {B E n : Nat} {v : Value} {l : List α} (h : RowO w B E sz f v l) (hn : l.length = n) : w.ownsRow B E sz v n (l.flatMap f) := by
  subst hn
  exact h
theorem RowO.none {w : World} {B E : Nat} : RowO w B E sz f (.slice none 0 0) [] := ⟨by simp, Or.inl ⟨rfl, rfl⟩⟩
theorem RowO.len {w : World} {B E : Nat} {v : Value} {l : List α} (h : RowO w B E sz f v l) : l.length ≤ maxLen := by
  rcases h.2 with ⟨_, h2⟩ | ⟨g, cap, cur, _, _, _, hn, hm, _⟩
  · omega
  · omega
theorem RowO.cells {w : World} {B E : Nat} {v : Value} {l : List α} (h : RowO w B E sz f v l) (hl : l ≠ []) : ∃ g c, v = .slice (some ⟨g, 0, .none⟩) l.length c ∧ B ≤ g ∧ g < w.heap.size ∧ l.length ≤ c ∧ c ≤ maxLen ∧ ∀ j u, (l.flatMap f)[j]? = some u → w.cell? ⟨g, j, .none⟩ = some u := by
  rcases h.2 with ⟨h1, h2⟩ | ⟨g, cap, cur, hv, hB, hg, hn, hm, _, ht⟩
  · exact absurd (List.length_eq_zero_iff.1 h2) hl
  · refine ⟨g, cap, hv, hB, lt_of_block hg, hn, hm, fun j u hu => ?_⟩
    rw [← ht, List.getElem?_take] at hu
    split at hu
    · unfold World.cell?
      rw [hg]
      simpa using hu
    · cases hu
end
theorem row_slc {α : Type} {f : α → List Value} {sz : Nat} {w : World} {B E : Nat} {v : Value} {l : List α} (h : RowO w B E sz f v l) : ∃ p n m, v = .slice p n m := by
  obtain ⟨p, m, e⟩ := h.slice
  exact ⟨p, _, m, e⟩
theorem RowO.pushL {α : Type} {f : α → List Value} {sz : Nat} {w : World} {B E n : Nat} {v : Value} {l m : List α} {xs : List Value} (h : w.ownsRow B E sz v n (l.flatMap f ++ xs)) (hn : n = l.length + m.length) (hx : m.flatMap f = xs) : RowO w B E sz f v (l ++ m) := by
  subst hn
  subst hx
  unfold RowO
  rw [List.length_append, List.flatMap_append]
  exact h
end Go.Proofs.YtlabcadpkdgjnaaGreatDoor
namespace Go.Proofs.YtlabcadpkdgjnaaGreatDoor
open Go
def nameD (l : List Tok) : Rs Bs := if isK 1 l then .ok (txT l, l.tail) else .error (atT l, 80)
def signD (s : Bs) (l : List Tok) : Rs Unit := if isP s l then .ok ((), l.tail) else .error (atT l, 80)
def mustD (s : Bs) (l : List Tok) : Rs Unit := if isW s l then .ok ((), l.tail) else .error (atT l, 80)
abbrev notW : List Bs := [[116, 114, 117, 101], [102, 97, 108, 115, 101], [110, 117, 108, 108]]
def wordD (l : List Tok) : Rs Bs := if notW.contains (txT l) then .error (atT l, 80) else nameD l
def bangD (l : List Tok) : Rs Bs := if isP [33] l then .ok ([33], l.tail) else .ok ([], l)
def refD1 (l : List Tok) : Rs (Bs × Bs) := (nameD l).go fun t l1 => (bangD l1).go fun b l2 => .ok ((t, b), l2)
def refD (l : List Tok) : Rs (Bs × Bs) := if isP [91] l then (refD1 l.tail).go fun x l2 => (signD [93] l2).go fun _ l3 => (bangD l3).go fun c l4 => .ok ((x.1, x.2 ++ 91 :: c), l4) else refD1 l
abbrev fieldB : Bs := [102, 105, 101, 108, 100]
abbrev searchB : Bs := [115, 101, 97, 114, 99, 104]
abbrev inverseB : Bs := [104, 97, 115, 73, 110, 118, 101, 114, 115, 101]
abbrev typeB : Bs := [116, 121, 112, 101]
abbrev enumB : Bs := [101, 110, 117, 109]
def inverseD (l : List Tok) : Rs Bs := (signD [40] l).go fun _ l1 => (mustD fieldB l1).go fun _ l2 => (signD [58] l2).go fun _ l3 => (nameD l3).go fun n l4 => (signD [41] l4).go fun _ l5 => .ok (n, l5)
def directiveD (x : Bool × Bs) (l : List Tok) : Rs (Bool × Bs) := if (!x.1 && isW searchB l) = true then .ok ((true, x.2), l.tail) else if (x.2 == [] && isW inverseB l) = true then (inverseD l.tail).go fun n l1 => .ok ((x.1, n), l1) else .error (atT l, 80)
def dirsF : Nat → Bool × Bs → List Tok → Rs (Bool × Bs)
  | 0, _, _ => .error (0, 0)
  | k + 1, x, l => if ((!x.1 || x.2 == []) && isP [64] l) = true then (directiveD x l.tail).go fun y l1 => dirsF k y l1 else .ok (x, l)
def dirsD (x : Bool × Bs) (l : List Tok) : Rs (Bool × Bs) := dirsF (l.length + 1) x l
def fieldD (l : List Tok) : Rs Fld := (nameD l).go fun n l1 => (signD [58] l1).go fun _ l2 => (refD l2).go fun t l3 => (dirsD (false, []) l3).go fun x l4 => .ok (⟨n, t.1, t.2, x.1, x.2⟩, l4)
def withinD {α : Type} (f : List Tok → Rs α) (l : List Tok) : Rs (List α) := (signD [123] l).go fun _ l1 => someS f [125] l1
def defineD (l : List Tok) : Rs (Ob ⊕ En) := if isW typeB l then (nameD l.tail).go fun n l1 => (withinD fieldD l1).go fun fs l2 => .ok (.inl ⟨n, fs⟩, l2) else if isW enumB l then (nameD l.tail).go fun n l1 => (withinD wordD l1).go fun ws l2 => .ok (.inr ⟨n, ws⟩, l2) else .error (atT l, 80)
def obsOf (xs : List (Ob ⊕ En)) : List Ob := xs.filterMap fun x => x.getLeft?
def ensOf (xs : List (Ob ⊕ En)) : List En := xs.filterMap fun x => x.getRight?
def schOf (xs : List (Ob ⊕ En)) : Sch := ⟨obsOf xs, ensOf xs⟩
def schemaD (l : List Tok) : Rs Sch := (someS defineD [] l).go fun xs l1 => .ok (schOf xs, l1)
def parseD (s : Bs) : Except (Nat × Int) Sch := match lexS s with
  | .inl p => .error p
  | .inr ts => match schemaD (ts ++ [eofT s.length]) with
    | .error p => .error p
    | .ok p => .ok p.1
theorem nameD_eats : Eats nameD := eats_ok (isK 1) (fun _ => isK_pos) _ (eats_err _)
theorem signD_eats (s : Bs) : Eats (signD s) := eats_ok (isP s) (fun _ => isP_pos) _ (eats_err _)
theorem mustD_eats (s : Bs) : Eats (mustD s) := eats_ok (isW s) (fun _ => isW_pos) _ (eats_err _)
theorem wordD_eats : Eats wordD := eats_if (c := fun l => notW.contains (txT l)) (eats_err _) nameD_eats
theorem bangD_keeps : Keeps bangD := keeps_tail (c := isP [33]) (keeps_ok _) (keeps_ok _)
theorem refD1_eats : Eats refD1 := nameD_eats.go fun _ => bangD_keeps.go fun _ => keeps_ok _
theorem refD_eats : Eats refD := eats_tail (c := isP [91]) (fun _ => isP_pos) (f := fun l => (refD1 l).go fun x l2 => (signD [93] l2).go fun _ l3 => (bangD l3).go fun c l4 => .ok ((x.1, x.2 ++ 91 :: c), l4)) (refD1_eats.keeps.go fun _ => (signD_eats _).keeps.go fun _ => bangD_keeps.go fun _ => keeps_ok _) refD1_eats
theorem inverseD_eats : Eats inverseD := (signD_eats _).go fun _ => (mustD_eats _).keeps.go fun _ => (signD_eats _).keeps.go fun _ => nameD_eats.keeps.go fun _ => (signD_eats _).keeps.go fun _ => keeps_ok _
theorem directiveD_eats (x : Bool × Bs) : Eats (directiveD x) := by
  intro l a m h
  unfold directiveD at h
  split at h
  · rename_i hk
    simp only [Bool.and_eq_true] at hk
    have := isW_pos hk.2
    cases h
    simp; omega
  · split at h
    · rename_i hk
      simp only [Bool.and_eq_true] at hk
      have := isW_pos hk.2
      obtain ⟨b, l1, h1, h2⟩ := go_ok_inv h
      cases h2
      have := inverseD_eats _ _ _ h1
      simp at this; omega
    · cases h
theorem dirsF_keeps : ∀ k x, Keeps (dirsF k x)
  | 0, _ => fun l a m h => by cases h
  | k + 1, x => by
    intro l a m h
    unfold dirsF at h
    split at h
    · obtain ⟨b, l1, h1, h2⟩ := go_ok_inv h
      have := directiveD_eats _ _ _ _ h1
      have := dirsF_keeps k _ _ _ _ h2
      simp at *; omega
    · cases h; exact Nat.le_refl _
theorem dirsF_fuel : ∀ (n m : Nat) (x : Bool × Bs) (l : List Tok), l.length < n → l.length < m → dirsF n x l = dirsF m x l
  | 0, _, _, _, h, _ => absurd h (Nat.not_lt_zero _)
  | _ + 1, 0, _, _, _, h => absurd h (Nat.not_lt_zero _)
  | n + 1, m + 1, x, l, h1, h2 => by
    unfold dirsF
    split
    · cases hd : directiveD x l.tail with
      | error p => rfl
      | ok p =>
        have := directiveD_eats _ _ _ _ hd
        rename_i hk
        simp only [Bool.and_eq_true] at hk
        have := isP_pos hk.2
        rw [List.length_tail] at *
        exact dirsF_fuel n m _ _ (by omega) (by omega)
    · rfl
theorem dirsD_eq (x : Bool × Bs) (l : List Tok) : dirsD x l = if ((!x.1 || x.2 == []) && isP [64] l) = true then (directiveD x l.tail).go fun y l1 => dirsD y l1 else .ok (x, l) := by
  show dirsF (l.length + 1) x l = _
  rw [dirsF]
  split
  · cases hd : directiveD x l.tail with
    | error p => rfl
    | ok p =>
      have := directiveD_eats _ _ _ _ hd
      rename_i hk
      simp only [Bool.and_eq_true] at hk
      have := isP_pos hk.2
      rw [List.length_tail] at *
      exact dirsF_fuel _ _ _ _ (by omega) (by omega)
  · rfl
theorem dirsD_keeps (x : Bool × Bs) : Keeps (dirsD x) := fun l a m h => dirsF_keeps _ x l a m h
theorem fieldD_eats : Eats fieldD := nameD_eats.go fun _ => (signD_eats _).keeps.go fun _ => refD_eats.keeps.go fun _ => (dirsD_keeps _).go fun _ => keeps_ok _
theorem withinD_eats {α : Type} {f : List Tok → Rs α} (hf : Eats f) : Eats (withinD f) := (signD_eats _).go fun _ => (someS_eats hf _).keeps
theorem defineD_eats : Eats defineD := by
  refine eats_tail (α := Ob ⊕ En) (c := isW typeB) (fun _ => isW_pos) (f := fun l => (nameD l).go fun n l1 => (withinD fieldD l1).go fun fs l2 => .ok (.inl ⟨n, fs⟩, l2)) (nameD_eats.keeps.go fun _ => (withinD_eats fieldD_eats).keeps.go fun _ => keeps_ok _) ?_
  exact eats_tail (α := Ob ⊕ En) (c := isW enumB) (fun _ => isW_pos) (f := fun l => (nameD l).go fun n l1 => (withinD wordD l1).go fun ws l2 => .ok (.inr ⟨n, ws⟩, l2)) (nameD_eats.keeps.go fun _ => (withinD_eats wordD_eats).keeps.go fun _ => keeps_ok _) (eats_err _)
theorem obsOf_app (a b : List (Ob ⊕ En)) : obsOf (a ++ b) = obsOf a ++ obsOf b := List.filterMap_append
theorem ensOf_app (a b : List (Ob ⊕ En)) : ensOf (a ++ b) = ensOf a ++ ensOf b := List.filterMap_append
end Go.Proofs.YtlabcadpkdgjnaaGreatDoor
namespace Go.Proofs.YtlabcadpkdgjnaaGreatDoor
open Go Go.RowKit

theorem Kp.cellAt {S : Nat → Prop} {w w' : World} (hk : Kp S w w') {g o : Nat} {v : Value} (h : w.cell? ⟨g, o, none⟩ = some v) (hS : ¬ S g) : w'.cell? ⟨g, o, none⟩ = some v := by
  have e := hk.block g (World.block_lt_of_cell? w _ h) hS
  rw [← h]
  simp only [World.cell?, e]
/-- Nothing that was there. -/
abbrev Non : Nat → Prop := fun _ => False
theorem Kp.any {S : Nat → Prop} {w w' : World} (h : Kp Non w w') : Kp S w w' := h.mono (fun _ _ e => e.elim)
theorem Kp.bel {w w' : World} (h : Kp Non w w') : Below w.heap.size w w' := h.below (Nat.le_refl _) (fun _ _ e => e)
/-- The panic with this fault. -/
abbrev DiesD (p : Nat × Int) : Ending := .panicked [{ v := .iface 46 (.agg #[.int .i64 (p.1 : Int), .int .i64 p.2]), recovered := false }]
/-- The tokens, and behind them the one that ends them. -/
structure Full (T : List Tok) : Prop where
  last : ∃ ts N, T = ts ++ [eofT N] ∧ ∀ t ∈ ts, ¬ (t.k = 0 ∧ t.t = [])
  small : T.length ≤ 2049
theorem Full.more {T l : List Tok} {t : Tok} (h : Full T) (hs : (t :: l) <:+ T) (ht : ¬ (t.k = 0 ∧ t.t = [])) : l ≠ [] := by
  rintro rfl
  obtain ⟨ts, N, rfl, hts⟩ := h.last
  obtain ⟨p, hp⟩ := hs
  have e := List.append_inj' hp (by simp)
  have : t = eofT N := by simpa using e.2
  subst this
  exact ht ⟨rfl, rfl⟩
theorem suf_cons_get {t : Tok} {r T : List Tok} (h : (t :: r) <:+ T) : T[T.length - (t :: r).length]? = some t := by
  obtain ⟨p, rfl⟩ := h
  have e : (p ++ t :: r).length - (t :: r).length = p.length := by simp
  rw [e]; simp
section
variable {R g cap : Nat} {T : List Tok}
/-- The reader R of the tokens T: what is left. -/
structure Sd (R g cap : Nat) (T : List Tok) (w : World) (l : List Tok) : Prop where
  row : w.heap[R]? = some (.cells #[.slice (some ⟨g, 0, none⟩) T.length cap, .int .i64 ((T.length - l.length : Nat) : Int)] 49 (0, 0))
  tk : ∀ (i : Nat) t, T[i]? = some t → w.cell? ⟨g, i * 4, none⟩ = some (.int .i64 t.k) ∧ w.cell? ⟨g, i * 4 + 1, none⟩ = some (.string ⟨t.t.toArray⟩) ∧ w.cell? ⟨g, i * 4 + 2, none⟩ = some (.int .i64 (t.b : Int)) ∧ w.cell? ⟨g, i * 4 + 3, none⟩ = some (.int .i64 (t.e : Int))
  suf : l <:+ T
  gR : g ≠ R
  lt : g < w.heap.size
  full : Full T
variable {w w' : World} {l : List Tok}
theorem Sd.c0 (h : Sd R g cap T w l) : w.cell? ⟨R, 0, none⟩ = some (.slice (some ⟨g, 0, none⟩) T.length cap) := by simp [World.cell?, h.row]
theorem Sd.c1 (h : Sd R g cap T w l) : w.cell? ⟨R, 1, none⟩ = some (.int .i64 ((T.length - l.length : Nat) : Int)) := by simp [World.cell?, h.row]
theorem Sd.free (h : Sd R g cap T w l) (i : Nat) : w.frozen? ⟨R, i, none⟩ = false := frozen_of_row w R i _ _ h.row
theorem Sd.ltR (h : Sd R g cap T w l) : R < w.heap.size := World.block_lt_of_cell? w _ h.c0
theorem Sd.kp {S : Nat → Prop} (h : Sd R g cap T w l) (k : Kp S w w') (h1 : ¬ S R) (h2 : ¬ S g) : Sd R g cap T w' l :=
  ⟨(k.block R h.ltR h1).trans h.row, fun i t hi => (by
    obtain ⟨q0, q1, q2, q3⟩ := h.tk i t hi
    exact ⟨k.cellAt q0 h2, k.cellAt q1 h2, k.cellAt q2 h2, k.cellAt q3 h2⟩), h.suf, h.gR, Nat.lt_of_lt_of_le h.lt k.size, h.full⟩
theorem Sd.non (h : Sd R g cap T w l) (k : Kp Non w w') : Sd R g cap T w' l := h.kp k (fun e => e) (fun e => e)
theorem Sd.alloc (h : Sd R g cap T w l) (o : Obj) : Sd R g cap T (w.alloc o) l := h.non ((Kp.refl Non w).alloc o)
theorem Sd.drewN (h : Sd R g cap T w l) (n : Nat) : Sd R g cap T (w.drewN n) l := h.non (Kp.n w n)
theorem Sd.drew (h : Sd R g cap T w l) : Sd R g cap T w.drew l := h.non (Kp.refl Non w).drew
/-- A store into another block. -/
theorem Sd.set (h : Sd R g cap T w l) (V i : Nat) (v : Value) (h1 : V ≠ R) (h2 : V ≠ g) : Sd R g cap T (w.setCell ⟨V, i, none⟩ v) l :=
  h.kp (Kp.own V i v) (fun e => h1 e.symm) (fun e => h2 e.symm)
theorem Sd.move (h : Sd R g cap T w l) {m : List Tok} (hm : m <:+ l) (x : Int) (hx : x = ((T.length - m.length : Nat) : Int)) : Sd R g cap T (w.setCell ⟨R, 1, none⟩ (.int .i64 x)) m := by
  subst hx
  exact ⟨by exact heap_setCell_same w R 1 _ _ _ h.row, fun j t hj => (by
    obtain ⟨q0, q1, q2, q3⟩ := h.tk j t hj
    have k : Kp (Own1 R) w (w.setCell ⟨R, 1, none⟩ (.int .i64 ((T.length - m.length : Nat) : Int))) := Kp.own R 1 _
    exact ⟨k.cellAt q0 h.gR, k.cellAt q1 h.gR, k.cellAt q2 h.gR, k.cellAt q3 h.gR⟩), hm.trans h.suf, h.gR, Nat.lt_of_lt_of_le h.lt (Kp.own R 1 _).size, h.full⟩
theorem Sd.tail {t : Tok} {r : List Tok} (_h : Sd R g cap T w (t :: r)) : r <:+ t :: r := List.suffix_cons t r
theorem Sd.le (h : Sd R g cap T w l) : l.length ≤ T.length := h.suf.length_le
theorem Sd.next (h : Sd R g cap T w l) {s : Bs} (hs : s ≠ []) (hp : isP s l = true) : l.tail ≠ [] := by
  cases l with
  | nil => cases hp
  | cons t r =>
    have : t.k = 0 ∧ t.t = s := by simpa [isP] using hp
    exact h.full.more h.suf (fun e => hs (this.2.symm.trans e.2))
theorem Sd.nextK (h : Sd R g cap T w l) {k : Int} (hk : k ≠ 0) (hp : isK k l = true) : l.tail ≠ [] := by
  cases l with
  | nil => cases hp
  | cons t r => exact h.full.more h.suf (fun e => hk (by have : t.k = k := (by simpa [isK] using hp); omega))
theorem Sd.nextW (h : Sd R g cap T w l) {s : Bs} (hp : isW s l = true) : l.tail ≠ [] := by
  cases l with
  | nil => cases hp
  | cons t r => exact h.full.more h.suf (fun e => by have : t.k = 1 ∧ t.t = s := (by simpa [isW] using hp); omega)
set_option maxHeartbeats 1000000 in
theorem dnext_any {t : Tok} {r : List Tok} (h : Sd R g cap T w (t :: r)) : Calls Tryz.prog 83 #[.pointer (some ⟨R, 0, none⟩)] w fun e w' => e = .returned (.agg #[.int .i64 t.k, .string ⟨t.t.toArray⟩, .int .i64 (t.b : Int), .int .i64 (t.e : Int)]) ∧ Kp Non w w' := by
  have c0 := h.c0
  have c1 := h.c1
  obtain ⟨q0, q1, q2, q3⟩ := h.tk _ t (suf_cons_get h.suf)
  have hle := h.le
  have hlt : ((T.length - (t :: r).length : Nat) : Int) < (T.length : Int) := by simp only [List.length_cons] at hle ⊢; omega
  have hA0 : (0 : Int) ≤ ((T.length - (t :: r).length : Nat) : Int) := by omega
  have hgl := h.lt
  have hRl := h.ltR
  have d0 := fun o => cell_on (al1 w o) c0
  have d1 := fun o => cell_on (al1 w o) c1
  have p0 := fun o => cell_on (al1 w o) q0
  have p1 := fun o => cell_on (al1 w o) q1
  have p2 := fun o => cell_on (al1 w o) q2
  have p3 := fun o => cell_on (al1 w o) q3
  clear h
  generalize T.length - (t :: r).length = A at *
  have hA : ((A : Nat) : Int).toNat = A := by omega
  go_enter Tryz.func83, Tryz.ntmps83
  go_wp2
  go_region_held3 (fun w' => w'.cell? ⟨R, 0, none⟩ = some (.slice (some ⟨g, 0, none⟩) T.length cap) ∧ w'.cell? ⟨R, 1, none⟩ = some (.int .i64 (A : Int)) ∧ w'.cell? ⟨g, A * 4, none⟩ = some (.int .i64 t.k) ∧ w'.cell? ⟨g, A * 4 + 1, none⟩ = some (.string ⟨t.t.toArray⟩) ∧ w'.cell? ⟨g, A * 4 + 2, none⟩ = some (.int .i64 (t.b : Int)) ∧ w'.cell? ⟨g, A * 4 + 3, none⟩ = some (.int .i64 (t.e : Int))) (go_keep) (fail)
  go_wp2
  refine bodyPost_ret (v := .agg #[.int .i64 t.k, .string ⟨t.t.toArray⟩, .int .i64 (t.b : Int), .int .i64 (t.e : Int)]) (by simp [results, Tryz.results83, go_sem]) rfl ⟨rfl, ?_⟩
  exact ((Kp.refl Non w).alloc _).drew
theorem fld0 (t : Tok) (w : World) : (Instr.field 43 (.agg #[.int .i64 t.k, .string ⟨t.t.toArray⟩, .int .i64 (t.b : Int), .int .i64 (t.e : Int)]) 0).run Tryz.prog w = .ok (.int .i64 t.k) w := by kernel_rfl
theorem fld1 (t : Tok) (w : World) : (Instr.field 43 (.agg #[.int .i64 t.k, .string ⟨t.t.toArray⟩, .int .i64 (t.b : Int), .int .i64 (t.e : Int)]) 1).run Tryz.prog w = .ok (.string ⟨t.t.toArray⟩) w := by kernel_rfl
theorem fld2 (t : Tok) (w : World) : (Instr.field 43 (.agg #[.int .i64 t.k, .string ⟨t.t.toArray⟩, .int .i64 (t.b : Int), .int .i64 (t.e : Int)]) 2).run Tryz.prog w = .ok (.int .i64 (t.b : Int)) w := by kernel_rfl
theorem dgiveUp_any (h : Sd R g cap T w l) (hl : l ≠ []) : Calls Tryz.prog 57 #[.pointer (some ⟨R, 0, none⟩)] w fun e w' => e = DiesD (atT l, 80) ∧ Kp Non w w' := by
  cases l with
  | nil => exact absurd rfl hl
  | cons t r =>
    have F := fld2 t
    go_enter Tryz.func57, Tryz.ntmps57
    go_wp2_with (go_at_call 83; refine (dnext_any h).mono ?_; rintro e w1 ⟨rfl, k1⟩)
    exact ⟨rfl, rfl, k1⟩
theorem dneed_yes (w : World) : Calls Tryz.prog 84 #[.pointer (some ⟨R, 0, none⟩), .bool true] w fun e w' => e = .returned (.tuple #[]) ∧ w = w' := by
  go_enter Tryz.func84, Tryz.ntmps84
  go_wp2
  go_end0
  exact ⟨rfl, rfl⟩
theorem dneed_no (h : Sd R g cap T w l) (hl : l ≠ []) : Calls Tryz.prog 84 #[.pointer (some ⟨R, 0, none⟩), .bool false] w fun e w' => e = DiesD (atT l, 80) ∧ Kp Non w w' := by
  go_enter Tryz.func84, Tryz.ntmps84
  go_wp2_with (go_at_call 57; refine (dgiveUp_any h hl).mono ?_; rintro e w1 ⟨rfl, k1⟩)
  exact ⟨rfl, rfl, k1⟩
set_option maxHeartbeats 1000000 in
theorem dtakes_eq {t : Tok} {r : List Tok} (k : Int) (s : Bs) (h : Sd R g cap T w (t :: r)) : Calls Tryz.prog 58 #[.pointer (some ⟨R, 0, none⟩), .int .i64 k, .string ⟨s.toArray⟩] w fun e w' => e = .returned (.bool (t.k == k && t.t == s)) ∧ Sd R g cap T w' (if (t.k == k && t.t == s) then r else t :: r) ∧ Kp (Own1 R) w w' := by
  have hle := h.le
  have hsm := h.full.small
  have F0 := fld0 t
  have F1 := fld1 t
  have BE := bytes_eq t.t s
  have X := fun {W : World} (b : Kp Non w W) => dnext_any (h.non b)
  have kr : Kp Non w w := Kp.refl _ _
  by_cases hk : (t.k == k) = true
  · by_cases hs : (t.t == s) = true
    · rw [hk, hs, Bool.and_self, if_pos rfl]
      rw [hs] at BE
      go_enter Tryz.func58, Tryz.ntmps58
      go_wp2_with (go_at_call 83; refine (X kr).mono ?_; rintro e w1 ⟨rfl, k1⟩; replace kr := kr.trans k1; have h1 := h.non kr; have c1 := h1.c1; have hf := h1.free 1; have hA : ((T.length - (t :: r).length : Nat) : Int) ≤ 2049 := (by omega); have hA0 : (0 : Int) ≤ ((T.length - (t :: r).length : Nat) : Int) := (by omega); have HM : Hid (Sd R g cap T (w1.setCell ⟨R, 1, none⟩ (.int .i64 (((T.length - (t :: r).length : Nat) : Int) + 1))) r) := h1.move h1.tail _ (by simp only [List.length_cons] at hle ⊢; omega); clear h1)
      go_ret
      exact ⟨rfl, HM.out, kr.any.trans (Kp.own R 1 _)⟩
    · have hs' : (t.t == s) = false := Bool.eq_false_iff.2 hs
      rw [hk, hs', Bool.and_false, if_neg (by simp)]
      rw [hs'] at BE
      clear hs
      go_enter Tryz.func58, Tryz.ntmps58
      go_wp2_with (go_at_call 83; refine (X kr).mono ?_; rintro e w1 ⟨rfl, k1⟩; replace kr := kr.trans k1)
      go_ret
      exact ⟨rfl, h.non kr, kr.any⟩
  · have hk' : (t.k == k) = false := Bool.eq_false_iff.2 hk
    rw [hk', Bool.false_and, if_neg (by simp)]
    clear hk BE
    go_enter Tryz.func58, Tryz.ntmps58
    go_wp2_with (go_at_call 83; refine (X kr).mono ?_; rintro e w1 ⟨rfl, k1⟩; replace kr := kr.trans k1)
    go_ret
    exact ⟨rfl, h.non kr, kr.any⟩
/-- That punctuator is gone over if it is next. -/
theorem dtake_any (s : Bs) (h : Sd R g cap T w l) (hl : l ≠ []) : Calls Tryz.prog 34 #[.pointer (some ⟨R, 0, none⟩), .string ⟨s.toArray⟩] w fun e w' =>
    (isP s l = true ∧ e = .returned (.bool true) ∧ Sd R g cap T w' l.tail ∧ Kp (Own1 R) w w') ∨ (isP s l = false ∧ e = .returned (.bool false) ∧ Sd R g cap T w' l ∧ Kp (Own1 R) w w') := by
  cases l with
  | nil => exact absurd rfl hl
  | cons t r =>
    have X := dtakes_eq 0 s h
    rw [show (t.k == 0 && t.t == s) = isP s (t :: r) from rfl] at X
    clear h
    cases hb : isP s (t :: r) with
    | true =>
      rw [hb, if_pos rfl] at X
      clear hb
      go_enter Tryz.func34, Tryz.ntmps34
      go_wp2_with (go_at_call 58; refine X.mono ?_; rintro e w1 ⟨rfl, h1, k1⟩)
      go_ret
      exact Or.inl ⟨by trivial, rfl, h1, k1⟩
    | false =>
      rw [hb, if_neg (by simp)] at X
      clear hb
      go_enter Tryz.func34, Tryz.ntmps34
      go_wp2_with (go_at_call 58; refine X.mono ?_; rintro e w1 ⟨rfl, h1, k1⟩)
      go_ret
      exact Or.inr ⟨by trivial, rfl, h1, k1⟩
theorem dtakeW_any (s : Bs) (h : Sd R g cap T w l) (hl : l ≠ []) : Calls Tryz.prog 51 #[.pointer (some ⟨R, 0, none⟩), .string ⟨s.toArray⟩] w fun e w' =>
    (isW s l = true ∧ e = .returned (.bool true) ∧ Sd R g cap T w' l.tail ∧ Kp (Own1 R) w w') ∨ (isW s l = false ∧ e = .returned (.bool false) ∧ Sd R g cap T w' l ∧ Kp (Own1 R) w w') := by
  cases l with
  | nil => exact absurd rfl hl
  | cons t r =>
    have X := dtakes_eq 1 s h
    rw [show (t.k == 1 && t.t == s) = isW s (t :: r) from rfl] at X
    clear h
    cases hb : isW s (t :: r) with
    | true =>
      rw [hb, if_pos rfl] at X
      clear hb
      go_enter Tryz.func51, Tryz.ntmps51
      go_wp2_with (go_at_call 58; refine X.mono ?_; rintro e w1 ⟨rfl, h1, k1⟩)
      go_ret
      exact Or.inl ⟨by trivial, rfl, h1, k1⟩
    | false =>
      rw [hb, if_neg (by simp)] at X
      clear hb
      go_enter Tryz.func51, Tryz.ntmps51
      go_wp2_with (go_at_call 58; refine X.mono ?_; rintro e w1 ⟨rfl, h1, k1⟩)
      go_ret
      exact Or.inr ⟨by trivial, rfl, h1, k1⟩
/-- What a step of the reader comes to: it gives up, or it reads something and tells it. -/
def OutD {α : Type} (R g cap : Nat) (T : List Tok) (w : World) (r : Rs α) (V : α → Value → World → Prop) (e : Ending) (w' : World) : Prop :=
  (∃ p, r = .error p ∧ e = DiesD p ∧ Kp (Own1 R) w w') ∨ (∃ x m v, r = .ok (x, m) ∧ e = .returned v ∧ V x v w' ∧ Sd R g cap T w' m ∧ m ≠ [] ∧ Kp (Own1 R) w w')
theorem dsign_any (s : Bs) (hs : s ≠ []) (h : Sd R g cap T w l) (hl : l ≠ []) : Calls Tryz.prog 85 #[.pointer (some ⟨R, 0, none⟩), .string ⟨s.toArray⟩] w (OutD R g cap T w (signD s l) fun _ v _ => v = .tuple #[]) := by
  have X := dtake_any s h hl
  have HH : Hid (Sd R g cap T w l) := h
  clear h
  go_enter Tryz.func85, Tryz.ntmps85
  go_wp2_with (first
    | (go_at_call 34; refine X.mono ?_; rintro e w1 (⟨hp, rfl, h1, k1⟩ | ⟨hp, rfl, h1, k1⟩))
    | (go_at_call 84; first
        | ((with_reducible refine (dneed_yes w1).mono ?_); rintro e w2 ⟨rfl, rfl⟩)
        | ((with_reducible refine (dneed_no h1 hl).mono ?_); rintro e w2 ⟨rfl, k2⟩; exact ⟨rfl, Or.inl ⟨_, by unfold signD; rw [hp]; rfl, rfl, k1.trans k2.any⟩⟩)))
  go_end0
  exact Or.inr ⟨(), l.tail, _, by unfold signD; rw [if_pos hp], rfl, rfl, h1, HH.out.next hs hp, k1⟩
set_option maxHeartbeats 1000000 in
theorem dname_any (h : Sd R g cap T w l) (hl : l ≠ []) : Calls Tryz.prog 52 #[.pointer (some ⟨R, 0, none⟩)] w (OutD R g cap T w (nameD l) fun x v _ => v = .string ⟨x.toArray⟩) := by
  cases l with
  | nil => exact absurd rfl hl
  | cons t r =>
    have hle := h.le
    have hsm := h.full.small
    have X := dnext_any h
    have HH : Hid (Sd R g cap T w (t :: r)) := h
    cases hk : (t.k == 1) with
    | true =>
      have hk0 : Hid ((t.k == 1) = true) := hk
      clear h
      go_enter Tryz.func52, Tryz.ntmps52
      go_wp2_with (first
        | (go_at_call 84; (with_reducible refine (dneed_yes _).mono ?_); rintro e w2 ⟨rfl, rfl⟩; clear hk)
        | (go_at_call 83; refine X.mono ?_; rintro e w1 ⟨rfl, k1⟩; have h1 := HH.out.non (k1.alloc (.cells #[.int .i64 t.k, .string ⟨t.t.toArray⟩, .int .i64 (t.b : Int), .int .i64 (t.e : Int)] 43)); have c1 := h1.c1; have hf := h1.free 1; have hRl := h1.ltR; have hR2 := (HH.out.non k1).ltR; have hA : ((T.length - (t :: r).length : Nat) : Int) ≤ 2049 := (by omega); have hA0 : (0 : Int) ≤ ((T.length - (t :: r).length : Nat) : Int) := (by omega); have hq := HH.out.non k1; have HM : Hid (Sd R g cap T (w1.setCell ⟨R, 1, none⟩ (.int .i64 (((T.length - (t :: r).length : Nat) : Int) + 1))) r) := hq.move hq.tail _ (by simp only [List.length_cons] at hle ⊢; omega); clear h1))
      go_ret
      exact Or.inr ⟨t.t, r, _, by unfold nameD; rw [if_pos (by simpa [isK] using hk0.out)]; rfl, rfl, rfl, HM.out.alloc _, HH.out.nextK (k := 1) (by decide) (by simpa [isK] using hk0.out), (k1.any.trans (Kp.own R 1 _)).alloc _⟩
    | false =>
      clear h
      go_enter Tryz.func52, Tryz.ntmps52
      go_wp2_with (first
        | (go_at_call 84; (with_reducible refine (dneed_no (HH.out.non (k1.alloc _)) hl).mono ?_); rintro e w2 ⟨rfl, k2⟩; exact ⟨rfl, Or.inl ⟨_, by unfold nameD; rw [if_neg (by simpa [isK] using hk)], rfl, (k1.any.alloc _).trans k2.any⟩⟩)
        | (go_at_call 83; refine X.mono ?_; rintro e w1 ⟨rfl, k1⟩))
end
end Go.Proofs.YtlabcadpkdgjnaaGreatDoor
namespace Go.Proofs.YtlabcadpkdgjnaaGreatDoor
open Go Go.RowKit
set_option maxRecDepth 100000 in
set_option maxHeartbeats 1000000 in
theorem xindex_any {w : World} {v : Value} {ls : List Bs} (h : WdsAt w v ls) (x : Bs) : Calls Tryz.prog 108 #[v, .string ⟨x.toArray⟩] w fun e w' => e = .returned (.int .i64 (plB x ls)) ∧ w = w' := by
  obtain ⟨a, c, rfl, hc, h47, hr⟩ := h
  go_enter Tryz.func108, Tryz.ntmps108
  go_wp2
  go_loopw [8] (fun i wr => ∃ j : Nat, i = .int .i64 (j : Int) ∧ j ≤ ls.length ∧ (∀ (q : Nat) z, q < j → ls[q]? = some z → (z == x) = false) ∧ w = wr) (fun i _ => ls.length - (RowKit.intOf i).toNat)
  case atStart => exact ⟨0, rfl, Nat.zero_le _, fun q z hq => absurd hq (Nat.not_lt_zero _), rfl⟩
  case round =>
    obtain ⟨j, rfl, hj, hno, rfl⟩ := hrel
    by_cases hlt : j < ls.length
    · obtain ⟨y, hy⟩ : ∃ y, ls[j]? = some y := ⟨_, List.getElem?_eq_getElem hlt⟩
      obtain ⟨b, o, rfl, hb, hH⟩ := hr (by omega)
      have e0 := hH j hlt y hy
      rw [Nat.mul_one] at e0
      have l1 : ((j : Nat) : Int) < (ls.length : Int) := by omega
      have hjN : ((j : Nat) : Int).toNat = j := by omega
      have hz : Hid (j + 1 ≤ ls.length) := hlt
      have HN : Hid (∀ (q : Nat) z, q < j → ls[q]? = some z → (z == x) = false) := hno
      have HY : Hid (ls[j]? = some y) := hy
      clear hno hr hy hlt hH
      cases hq : (x == y) with
      | true =>
        have HP : Hid (plB x ls = (j : Int)) := by
          have e : x = y := by simpa using hq
          have h2 := HY.out
          rw [← e] at h2
          exact plB_hit h2 HN.out
        go_wp2
        go_ret
        exact ⟨by rw [HP.out]; rfl, rfl⟩
      | false =>
        have hno2 : Hid (∀ (q : Nat) z, q < j + 1 → ls[q]? = some z → (z == x) = false) := by
          intro q z hq1 hz1
          by_cases e : q = j
          · subst e
            rw [HY.out] at hz1
            cases hz1
            rw [beq_eq_false_iff_ne] at hq ⊢
            exact fun e => hq e.symm
          · exact HN.out q z (by omega) hz1
        go_wp2
        refine ⟨⟨j + 1, by simp, hz.out, hno2.out, by trivial⟩, ?_⟩
        have := hz.out
        simp [RowKit.intOf]
        omega
    · have l2 : decide (((j : Nat) : Int) < (ls.length : Int)) = false := by simp; omega
      have l3 : decide (j < ls.length) = false := by simp; omega
      have HP : Hid (plB x ls = -1) := plB_none fun q z hz => hno q z (by
        have := (List.getElem?_eq_some_iff.1 hz).1
        omega) hz
      clear hno hr hlt hj
      go_wp2
      go_ret
      exact ⟨by rw [HP.out]; rfl, rfl⟩
theorem plB_ge (x : Bs) (ls : List Bs) : decide (0 ≤ plB x ls) = ls.contains x := by
  unfold plB
  by_cases h : x ∈ ls
  · rw [if_pos h]
    simp [h]
  · rw [if_neg h]
    simp [h]
theorem xcontains_any {w : World} {v : Value} {ls : List Bs} (h : WdsAt w v ls) (x : Bs) : Calls Tryz.prog 88 #[v, .string ⟨x.toArray⟩] w fun e w' => e = .returned (.bool (ls.contains x)) ∧ w = w' := by
  have X := xindex_any h x
  have e := plB_ge x ls
  generalize ls.contains x = b at *
  generalize plB x ls = k at *
  obtain ⟨a, c, rfl, _⟩ := h
  have he : Hid (decide (0 ≤ k) = b) := e
  clear e
  go_enter Tryz.func88, Tryz.ntmps88
  go_wp2_with (first
    | (go_at_call 108; (with_reducible refine X.mono ?_); rintro e w1 ⟨rfl, rfl⟩)
    | fail)
  go_ret
  exact ⟨by rw [he.out]; rfl, rfl⟩
section
variable {R g cap : Nat} {T : List Tok} {w w' : World} {l : List Tok}
theorem dbang_any (h : Sd R g cap T w l) (hl : l ≠ []) : Calls Tryz.prog 106 #[.pointer (some ⟨R, 0, none⟩)] w fun e w' => ∃ x m, bangD l = .ok (x, m) ∧ e = .returned (.string ⟨x.toArray⟩) ∧ x.length ≤ 1 ∧ Sd R g cap T w' m ∧ m ≠ [] ∧ Kp (Own1 R) w w' := by
  have X := dtake_any [33] h hl
  have HH : Hid (Sd R g cap T w l) := h
  clear h
  go_enter Tryz.func106, Tryz.ntmps106
  go_wp2_with (first
    | (go_at_call 34; refine X.mono ?_; rintro e w1 (⟨hp, rfl, h1, k1⟩ | ⟨hp, rfl, h1, k1⟩))
    | fail)
  · go_ret
    exact ⟨[33], l.tail, by unfold bangD; rw [if_pos hp], rfl, by decide, h1, HH.out.next (by decide) hp, k1⟩
  · go_ret
    exact ⟨[], l, by unfold bangD; rw [hp]; rfl, rfl, by decide, h1, hl, k1⟩
set_option maxHeartbeats 1000000 in
theorem dinverse_any (h : Sd R g cap T w l) (hl : l ≠ []) : Calls Tryz.prog 107 #[.pointer (some ⟨R, 0, none⟩)] w (OutD R g cap T w (inverseD l) fun x v _ => v = .string ⟨x.toArray⟩) := by
  have X := dsign_any [40] (by decide) h hl
  clear h
  go_enter Tryz.func107, Tryz.ntmps107
  go_wp2_with (first
    | (go_at_call 85; (with_reducible refine (dsign_any [41] (by decide) h4 n4).mono ?_); rintro e w5 (⟨p, hq5, rfl, k5⟩ | ⟨_, l5, v5, hq5, rfl, rfl, h5, n5, k5⟩); (exact ⟨rfl, Or.inl ⟨p, by simp only [inverseD, mustD, hp2, if_true, hq1, hq3, hq4, hq5, go_ok, go_error], rfl, ((((k1.trans k2).trans k3).trans k4).trans k5)⟩⟩))
    | (go_at_call 52; (with_reducible refine (dname_any h3 n3).mono ?_); rintro e w4 (⟨p, hq4, rfl, k4⟩ | ⟨x4, l4, v4, hq4, rfl, rfl, h4, n4, k4⟩); (exact ⟨rfl, Or.inl ⟨p, by simp only [inverseD, mustD, hp2, if_true, hq1, hq3, hq4, go_ok, go_error], rfl, (((k1.trans k2).trans k3).trans k4)⟩⟩))
    | (go_at_call 85; (with_reducible refine (dsign_any [58] (by decide) h2 (h1.nextW hp2)).mono ?_); rintro e w3 (⟨p, hq3, rfl, k3⟩ | ⟨_, l3, v3, hq3, rfl, rfl, h3, n3, k3⟩); (exact ⟨rfl, Or.inl ⟨p, by simp only [inverseD, mustD, hp2, if_true, hq1, hq3, go_ok, go_error], rfl, ((k1.trans k2).trans k3)⟩⟩))
    | (go_at_call 51; (with_reducible refine (dtakeW_any fieldB h1 n1).mono ?_); rintro e w2 (⟨hp2, rfl, h2, k2⟩ | ⟨hp2, rfl, h2, k2⟩))
    | (go_at_call 84; first
        | ((with_reducible refine (dneed_yes w2).mono ?_); rintro e w9 ⟨rfl, rfl⟩)
        | ((with_reducible refine (dneed_no h2 n1).mono ?_); rintro e w9 ⟨rfl, k9⟩; exact ⟨rfl, Or.inl ⟨_, by unfold inverseD mustD; rw [hq1, go_ok, hp2, if_neg (by simp), go_error], rfl, (k1.trans k2).trans k9.any⟩⟩))
    | (go_at_call 85; (with_reducible refine X.mono ?_); rintro e w1 (⟨p, hq1, rfl, k1⟩ | ⟨_, l1, v1, hq1, rfl, rfl, h1, n1, k1⟩); (exact ⟨rfl, Or.inl ⟨p, by unfold inverseD; rw [hq1, go_error], rfl, k1⟩⟩))
    | fail)
  go_ret
  exact Or.inr ⟨x4, l5, _, by simp only [inverseD, mustD, hp2, if_true, hq1, hq3, hq4, hq5, go_ok], rfl, rfl, h5, n5, (((k1.trans k2).trans k3).trans k4).trans k5⟩
theorem wds_notW {W : World} {b : Nat} (h : W.heap[b]? = some (.cells #[.string ⟨#[116, 114, 117, 101]⟩, .string ⟨#[102, 97, 108, 115, 101]⟩, .string ⟨#[110, 117, 108, 108]⟩] 9)) : WdsAt W (.slice (some ⟨b, 0, none⟩) 3 3) notW := by
  have cF : ∀ j, W.cell? ⟨b, j, none⟩ = (#[Value.string ⟨#[116, 114, 117, 101]⟩, .string ⟨#[102, 97, 108, 115, 101]⟩, .string ⟨#[110, 117, 108, 108]⟩] : Array Value)[j]? := fun j => by
    unfold World.cell?
    rw [h]
    rfl
  refine ⟨_, 3, rfl, Nat.le_refl _, by simp, fun _ => ⟨b, 0, rfl, lt_of_block h, fun i hi x hx => ?_⟩⟩
  change i < 3 at hi
  rcases (show i = 0 ∨ i = 1 ∨ i = 2 by omega) with rfl | rfl | rfl
  · simp only [List.getElem?_cons_zero] at hx
    cases hx
    exact cF 0
  · simp only [List.getElem?_cons_zero, List.getElem?_cons_succ] at hx
    cases hx
    exact cF 1
  · simp only [List.getElem?_cons_zero, List.getElem?_cons_succ] at hx
    cases hx
    exact cF 2
set_option maxHeartbeats 1000000 in
theorem dword_any (h : Sd R g cap T w l) (hl : l ≠ []) : Calls Tryz.prog 56 #[.pointer (some ⟨R, 0, none⟩)] w (OutD R g cap T w (wordD l) fun x v _ => v = .string ⟨x.toArray⟩) := by
  cases l with
  | nil => exact absurd rfl hl
  | cons t r =>
    have F := fld1 t
    obtain ⟨W0, hW0⟩ : ∃ W0, W0 = w.alloc (.cells #[.string ⟨#[116, 114, 117, 101]⟩, .string ⟨#[102, 97, 108, 115, 101]⟩, .string ⟨#[110, 117, 108, 108]⟩] 9) := ⟨_, rfl⟩
    have k0 : Kp Non w W0 := by rw [hW0]; exact (Kp.refl _ _).alloc _
    have N0 : W0.heap[w.heap.size]? = some (.cells #[.string ⟨#[116, 114, 117, 101]⟩, .string ⟨#[102, 97, 108, 115, 101]⟩, .string ⟨#[110, 117, 108, 108]⟩] 9) := by rw [hW0]; exact heap_alloc_new _ _
    have X := dnext_any (h.non k0)
    have CN := fun {W : World} (k : Kp Non W0 W) => xcontains_any (wds_notW ((k.block _ (lt_of_block N0) (fun e => e)).trans N0)) t.t
    have HH : Hid (Sd R g cap T w (t :: r)) := h
    have HW : Hid (W0 = w.alloc (.cells #[.string ⟨#[116, 114, 117, 101]⟩, .string ⟨#[102, 97, 108, 115, 101]⟩, .string ⟨#[110, 117, 108, 108]⟩] 9)) := hW0
    rw [hW0] at X
    clear h hW0 N0
    cases hk : notW.contains t.t with
    | true =>
      rw [hk] at CN
      go_enter Tryz.func56, Tryz.ntmps56
      go_wp2_with (first
        | (go_at_call 84; (with_reducible refine (dneed_no (HH.out.non (k0.trans k1)) hl).mono ?_); rintro e w2 ⟨rfl, k2⟩; exact ⟨rfl, Or.inl ⟨_, by unfold wordD; rw [if_pos (show notW.contains (txT (t :: r)) = true from hk)], rfl, ((k0.trans k1).trans k2).any⟩⟩)
        | (go_at_call 88; (with_reducible refine (CN k1).mono ?_); rintro e w9 ⟨rfl, rfl⟩)
        | (go_at_call 83; (with_reducible refine X.mono ?_); rintro e w1 ⟨rfl, k1⟩; rw [← HW.out] at k1)
        | fail)
    | false =>
      rw [hk] at CN
      go_enter Tryz.func56, Tryz.ntmps56
      go_wp2_with (first
        | (go_at_call 52; (with_reducible refine (dname_any (HH.out.non (k0.trans k1)) hl).mono ?_); rintro e w3 (⟨p, hq3, rfl, k3⟩ | ⟨x3, l3, v3, hq3, rfl, rfl, h3, n3, k3⟩); (exact ⟨rfl, Or.inl ⟨p, by unfold wordD; rw [if_neg (by rw [show notW.contains (txT (t :: r)) = false from hk]; simp), hq3], rfl, (k0.trans k1).any.trans k3⟩⟩))
        | (go_at_call 84; (with_reducible refine (dneed_yes w1).mono ?_); rintro e w2 ⟨rfl, rfl⟩)
        | (go_at_call 88; (with_reducible refine (CN k1).mono ?_); rintro e w9 ⟨rfl, rfl⟩)
        | (go_at_call 83; (with_reducible refine X.mono ?_); rintro e w1 ⟨rfl, k1⟩; rw [← HW.out] at k1)
        | fail)
      go_ret
      exact Or.inr ⟨x3, l3, _, by unfold wordD; rw [if_neg (by rw [show notW.contains (txT (t :: r)) = false from hk]; simp), hq3], rfl, rfl, h3, n3, (k0.trans k1).any.trans k3⟩
end
end Go.Proofs.YtlabcadpkdgjnaaGreatDoor
namespace Go.Proofs.YtlabcadpkdgjnaaGreatDoor
open Go Go.RowKit
theorem catD (x y : Bs) : ByteArray.mk x.toArray ++ ByteArray.mk y.toArray = ⟨(x ++ y).toArray⟩ := by
  apply ByteArray.ext; apply Array.toList_inj.1; simp
theorem rowOld {S : Nat → Prop} {w w1 : World} {X : Nat} {o : Obj} (hb : w.heap[X]? = some o) (hk : Kp S w w1) (hS : ¬ S X) : w1.heap[X]? = some o := (hk.block X (lt_of_block hb) hS).trans hb
section
variable {R g cap : Nat} {T : List Tok} {w w' : World} {l : List Tok}
theorem dtake_yes (s : Bs) (h : Sd R g cap T w l) (hp : isP s l = true) : Calls Tryz.prog 34 #[.pointer (some ⟨R, 0, none⟩), .string ⟨s.toArray⟩] w fun e w' => e = .returned (.bool true) ∧ Sd R g cap T w' l.tail ∧ Kp (Own1 R) w w' := by
  refine (dtake_any s h (fun e => by rw [e] at hp; cases hp)).mono ?_
  rintro e w' (⟨_, rfl, h1, k1⟩ | ⟨hq, _⟩)
  · exact ⟨rfl, h1, k1⟩
  · rw [hp] at hq; cases hq
theorem dtake_no (s : Bs) (h : Sd R g cap T w l) (hl : l ≠ []) (hp : isP s l = false) : Calls Tryz.prog 34 #[.pointer (some ⟨R, 0, none⟩), .string ⟨s.toArray⟩] w fun e w' => e = .returned (.bool false) ∧ Sd R g cap T w' l ∧ Kp (Own1 R) w w' := by
  refine (dtake_any s h hl).mono ?_
  rintro e w' (⟨hq, _⟩ | ⟨_, rfl, h1, k1⟩)
  · rw [hp] at hq; cases hq
  · exact ⟨rfl, h1, k1⟩
theorem dtakeW_yes (s : Bs) (h : Sd R g cap T w l) (hp : isW s l = true) : Calls Tryz.prog 51 #[.pointer (some ⟨R, 0, none⟩), .string ⟨s.toArray⟩] w fun e w' => e = .returned (.bool true) ∧ Sd R g cap T w' l.tail ∧ Kp (Own1 R) w w' := by
  refine (dtakeW_any s h (fun e => by rw [e] at hp; cases hp)).mono ?_
  rintro e w' (⟨_, rfl, h1, k1⟩ | ⟨hq, _⟩)
  · exact ⟨rfl, h1, k1⟩
  · rw [hp] at hq; cases hq
theorem dtakeW_no (s : Bs) (h : Sd R g cap T w l) (hl : l ≠ []) (hp : isW s l = false) : Calls Tryz.prog 51 #[.pointer (some ⟨R, 0, none⟩), .string ⟨s.toArray⟩] w fun e w' => e = .returned (.bool false) ∧ Sd R g cap T w' l ∧ Kp (Own1 R) w w' := by
  refine (dtakeW_any s h hl).mono ?_
  rintro e w' (⟨hq, _⟩ | ⟨_, rfl, h1, k1⟩)
  · rw [hp] at hq; cases hq
  · exact ⟨rfl, h1, k1⟩
abbrev RefW : Bs × Bs → Value → World → Prop := fun x v _ => v = .agg #[.string ⟨x.1.toArray⟩, .string ⟨x.2.toArray⟩] ∧ x.2.length ≤ 3
abbrev zRD : Obj := .cells #[.string ⟨#[]⟩, .string ⟨#[]⟩] 61
abbrev refO (x y : Bs) : Obj := .cells #[.string ⟨x.toArray⟩, .string ⟨y.toArray⟩] 61
set_option maxRecDepth 100000 in
set_option maxHeartbeats 2000000 in
theorem dref_plain (h : Sd R g cap T w l) (hl : l ≠ []) (hp : isP [91] l = false) : Calls Tryz.prog 86 #[.pointer (some ⟨R, 0, none⟩)] w (OutD R g cap T w (refD l) RefW) := by
  have hR := h.ltR
  have hg := h.lt
  have A := dtake_no [91] (h.alloc zRD) hl hp
  have P0 := heap_alloc_new w zRD
  have KW : Kp (Own1 R) w (w.alloc zRD) := (Kp.refl _ _).alloc _
  have HQ : Hid (refD l = refD1 l) := by show _ = _; unfold refD; rw [hp, if_neg (by simp)]
  clear h
  go_enter Tryz.func86, Tryz.ntmps86
  go_wp2_with (first
    | (go_at_call 106; (with_reducible refine (dbang_any h2 n2).mono ?_); rintro e w3 ⟨b3, l3, hq3, rfl, hb3, h3, n3, k3⟩; have KW3 := (KW.trans (k1.trans k2)).trans k3; have P3 := rowOld (rowOld P0 ((k1.trans k2).trans k3) (fun e => by have e' : w.heap.size = R := e; omega)) ((Kp.refl Non w3).alloc (refO x2 b3)) (fun e => e); obtain ⟨p0, p1, pf⟩ := row2 P3; obtain ⟨q0, q1, qf⟩ := row2 (heap_alloc_new w3 (refO x2 b3)); have hz := KW3.size)
    | (go_at_call 52; (with_reducible refine (dname_any h1 hl).mono ?_); rintro e w2 (⟨p, hq2, rfl, k2⟩ | ⟨x2, l2, v2, hq2, rfl, rfl, h2, n2, k2⟩); (exact ⟨rfl, Or.inl ⟨p, by rw [HQ.out]; unfold refD1; rw [hq2, go_error], rfl, KW.trans (k1.trans k2)⟩⟩))
    | (go_at_call 34; (with_reducible refine A.mono ?_); rintro e w1 ⟨rfl, h1, k1⟩)
    | fail)
  refine bodyPost_ret (v := .agg #[.string ⟨x2.toArray⟩, .string ⟨b3.toArray⟩]) (by simp [results, Tryz.results86, go_sem, p0, p1]) rfl (Or.inr ⟨(x2, b3), l3, _, ?_, rfl, ⟨rfl, by show b3.length ≤ 3; omega⟩, ((h3.alloc _).set _ _ _ (by omega) (by omega)).set _ _ _ (by omega) (by omega), n3, ((KW3.alloc _).set _ _ _ (Or.inl (Nat.le_refl _))).set _ _ _ (Or.inl (Nat.le_refl _))⟩)
  rw [HQ.out]
  unfold refD1
  rw [hq2, go_ok, hq3, go_ok]
set_option maxRecDepth 100000 in
set_option maxHeartbeats 4000000 in
theorem dref_list (h : Sd R g cap T w l) (hp : isP [91] l = true) : Calls Tryz.prog 86 #[.pointer (some ⟨R, 0, none⟩)] w (OutD R g cap T w (refD l) RefW) := by
  have hR := h.ltR
  have hg := h.lt
  have n0 : l.tail ≠ [] := h.next (by decide) hp
  have A := dtake_yes [91] (h.alloc zRD) hp
  have P0 := heap_alloc_new w zRD
  have KW : Kp (Own1 R) w (w.alloc zRD) := (Kp.refl _ _).alloc _
  have HQ : Hid (refD l = (refD1 l.tail).go fun x l2 => (signD [93] l2).go fun _ l3 => (bangD l3).go fun c l4 => .ok ((x.1, x.2 ++ 91 :: c), l4)) := by show _ = _; unfold refD; rw [if_pos hp]
  clear h
  go_enter Tryz.func86, Tryz.ntmps86
  go_wp2_with (first
    | (go_at_call 85; (with_reducible refine (dsign_any [93] (by decide) (h3.alloc _) n3).mono ?_); rintro e w4 (⟨p, hq4, rfl, k4⟩ | ⟨_, l4, v4, hq4, rfl, rfl, h4, n4, k4⟩); (exact ⟨rfl, Or.inl ⟨p, by rw [HQ.out]; unfold refD1; simp only [hq2, hq3, hq4, go_ok, go_error], rfl, (KW3.alloc _).trans k4⟩⟩))
    | (go_at_call 106; (with_reducible refine (dbang_any h2 n2).mono ?_); rintro e w3 ⟨b3, l3, hq3, rfl, hb3, h3, n3, k3⟩; have KW3 := (KW.trans (k1.trans k2)).trans k3; have P3 := rowOld P0 ((k1.trans k2).trans k3) (fun e => by have e' : w.heap.size = R := e; omega); have hz := KW3.size)
    | (go_at_call 52; (with_reducible refine (dname_any h1 n0).mono ?_); rintro e w2 (⟨p, hq2, rfl, k2⟩ | ⟨x2, l2, v2, hq2, rfl, rfl, h2, n2, k2⟩); (exact ⟨rfl, Or.inl ⟨p, by rw [HQ.out]; unfold refD1; rw [hq2, go_error, go_error], rfl, KW.trans (k1.trans k2)⟩⟩))
    | (go_at_call 34; (with_reducible refine A.mono ?_); rintro e w1 ⟨rfl, h1, k1⟩)
    | fail)
  have Q4 := rowOld (heap_alloc_new w3 (refO x2 b3)) k4 (fun e => by have e' : w3.heap.size = R := e; omega)
  have P4 := rowOld (rowOld P3 ((Kp.refl Non w3).alloc (refO x2 b3)) (fun e => e)) k4 (fun e => by have e' : w.heap.size = R := e; omega)
  have KW4 := (KW3.alloc (refO x2 b3)).trans k4
  have hz3 := lt_of_block P3
  have B5 := fun {W : World} (k : Kp Non w4 W) => dbang_any (h4.non k) n4
  have kd : Kp Non w4 w4.drew := (Kp.refl _ _).drew
  obtain ⟨q0, q1, qf⟩ := row2 Q4
  go_region_with ((go_at_call 106; (with_reducible refine (B5 kd).mono ?_); rintro e w5 ⟨c5, l5, hq5, rfl, hc5, h5, n5, k5⟩; have k45 := kd.any.trans k5; have Q5 := rowOld Q4 k45 (fun e => by have e' : w3.heap.size = R := e; omega); have P5 := rowOld P4 k45 (fun e => by have e' : w.heap.size = R := e; omega); obtain ⟨r0, r1, rf⟩ := row2 Q5; obtain ⟨s0, s1, sf⟩ := row2 P5; have g1 : ¬ 9223372036854775807 < c5.length + 1 := (by omega); have g2 : ¬ 9223372036854775807 < b3.length + (c5.length + 1) := (by omega); have g3 : ¬ 9223372036854775807 < 1 + c5.length := (by omega); have g4 : ¬ 9223372036854775807 < b3.length + (1 + c5.length) := (by omega)))
  all_goals
    have EQ : ({ data := b3.toArray } : ByteArray) ++ ({ data := #[91] } ++ { data := c5.toArray }) = ⟨(b3 ++ 91 :: c5).toArray⟩ := by
      rw [show ({ data := #[91] } : ByteArray) = ⟨[91].toArray⟩ from rfl, catD, catD]
      rfl
    rw [EQ]
    have Q6 := heap_setCell_same w5 w3.heap.size 1 _ _ (.string ⟨(b3 ++ 91 :: c5).toArray⟩) Q5
    have P6 := rowOld P5 (Kp.own w3.heap.size 1 (.string ⟨(b3 ++ 91 :: c5).toArray⟩)) (fun e => by have e' : w.heap.size = w3.heap.size := e; omega)
    have S6 := h5.set w3.heap.size 1 (.string ⟨(b3 ++ 91 :: c5).toArray⟩) (by omega) (by have := h3.lt; omega)
    have KW6 := (KW4.trans k45).set w3.heap.size 1 (.string ⟨(b3 ++ 91 :: c5).toArray⟩) (Or.inl (by omega))
    have hl3 : (b3 ++ 91 :: c5).length ≤ 3 := by simp; omega
    have HL : Hid ((b3 ++ 91 :: c5).length ≤ 3) := hl3
    generalize w5.setCell ⟨w3.heap.size, 1, none⟩ (.string ⟨(b3 ++ 91 :: c5).toArray⟩) = w6 at *
    obtain ⟨u0, u1, uf⟩ := row2 P6
    obtain ⟨v0, v1, vf⟩ := row2 (show w6.heap[w3.heap.size]? = some (refO x2 (b3 ++ 91 :: c5)) from Q6)
    have HE : Hid (refD l = .ok ((x2, b3 ++ 91 :: c5), l5)) := by
      show _ = _
      rw [HQ.out]
      unfold refD1
      simp only [hq2, hq3, hq4, hq5, go_ok]
    clear q0 q1 qf r0 r1 rf s0 s1 sf g1 g2 g3 g4 Q5 Q6 P5 P6 EQ hl3 Q4 P4
    generalize b3 ++ 91 :: c5 = z at *
    go_wp2
    refine bodyPost_ret (v := .agg #[.string ⟨x2.toArray⟩, .string ⟨z.toArray⟩]) (by simp [results, Tryz.results86, go_sem, u0, u1]) rfl (Or.inr ⟨(x2, z), l5, _, HE.out, rfl, ⟨rfl, HL.out⟩, (S6.set _ _ _ (by omega) (by omega)).set _ _ _ (by omega) (by omega), n5, (KW6.set _ _ _ (Or.inl (Nat.le_refl _))).set _ _ _ (Or.inl (Nat.le_refl _))⟩)
theorem dref_any (h : Sd R g cap T w l) (hl : l ≠ []) : Calls Tryz.prog 86 #[.pointer (some ⟨R, 0, none⟩)] w (OutD R g cap T w (refD l) RefW) := by
  cases hp : isP [91] l with
  | true => exact dref_list h hp
  | false => exact dref_plain h hl hp
end
end Go.Proofs.YtlabcadpkdgjnaaGreatDoor
