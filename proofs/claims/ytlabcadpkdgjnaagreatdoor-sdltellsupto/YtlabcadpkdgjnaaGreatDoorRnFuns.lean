/- Package runes' functions over eachStep: what each returns, as a plain walk over the steps; no memory that was there turns. -/
import Derived.Test.YtlabcadpkdgjnaaGreatDoorRnWalk
namespace Go.Proofs.YtlabcadpkdgjnaaGreatDoor
open Go.RowKit

theorem old_set {W : World} {B : Nat} {v : Value} {t : TypeId} (h : W.heap[B]? = some (.cells #[v] t (0, 0))) (u : Value) (o : Obj) : ((W.setCell ⟨B, 0, none⟩ u).alloc o).heap[B]? = some (.cells #[u] t (0, 0)) :=
  (Lib.alloc_old _ _ B (by have := lt_of_block h; simpa [World.setCell] using this)).trans (one_setCell h)
theorem below_set {W : World} {B C : Nat} {v : Value} {t : TypeId} (h : W.heap[C]? = some (.cells #[v] t (0, 0))) (hBC : B ≤ C) (u : Value) (o : Obj) : Below B W ((W.setCell ⟨C, 0, none⟩ u).alloc o) :=
  ((Below.refl B W).setCell (p := ⟨C, 0, none⟩) hBC _).alloc (by have := lt_of_block h; simp [World.setCell]; omega) _

theorem below_drew1 {B : Nat} {W W' : World} (h : Below B W W') : Below B W W'.drew := ⟨h.os, h.tape, h.output, h.size, h.block⟩

/-- Two captured variables written, a block laid. -/
theorem two_set {W : World} {B C : Nat} {x y : Value} {t t' : TypeId} (h : W.heap[B]? = some (.cells #[x] t (0, 0))) (h' : W.heap[C]? = some (.cells #[y] t' (0, 0))) (hBC : B ≠ C) {D : Nat} (hB : D ≤ B) (hC : D ≤ C) (u v : Value) :
    (((W.setCell ⟨B, 0, none⟩ u).setCell ⟨C, 0, none⟩ v)).heap[B]? = some (.cells #[u] t (0, 0)) ∧ (((W.setCell ⟨B, 0, none⟩ u).setCell ⟨C, 0, none⟩ v)).heap[C]? = some (.cells #[v] t' (0, 0)) ∧ Below D W ((W.setCell ⟨B, 0, none⟩ u).setCell ⟨C, 0, none⟩ v) ∧ Iters W ((W.setCell ⟨B, 0, none⟩ u).setCell ⟨C, 0, none⟩ v) := by
  have h2 : (W.setCell ⟨B, 0, none⟩ u).heap[C]? = some (.cells #[y] t' (0, 0)) := (Below.heap_setCell W ⟨B, 0, none⟩ u C (Ne.symm hBC)).trans h'
  refine ⟨?_, one_setCell h2, ?_, ?_⟩
  · exact (Below.heap_setCell _ ⟨C, 0, none⟩ v B hBC).trans (one_setCell h)
  · exact ((Below.refl D W).setCell (p := ⟨B, 0, none⟩) hB _).setCell (p := ⟨C, 0, none⟩) hC _
  · exact ((Iters.refl W).setCell (p := ⟨B, 0, none⟩) h _).setCell (p := ⟨C, 0, none⟩) h2 _

/-! ### Valid -/
def validStep (s : ByteArray) (_ : Bool) (p : Nat) : Bool × Bool := (stC s p != -1, stC s p != -1)
def validS (s : ByteArray) : Bool := walk s (validStep s) 0 true

/-! ### Rune -/
def runeStep (s : ByteArray) (a : Int × Int) (p : Nat) : (Int × Int) × Bool := (if stC s p = -1 then a else (stC s p, ((p + stW s p : Nat) : Int)), false)

def runeS (s : ByteArray) (n : Nat) : Int × Int := if stC s n = -1 then (0, 0) else (stC s n, (stW s n : Int))

theorem rune_walk (s : ByteArray) (n : Nat) (hn : n < s.size) : walk (s.extract n s.size) (runeStep (s.extract n s.size)) 0 (0, 0) = runeS s n := by
  have hd := dec_drop s n 0 (by omega)
  rw [Nat.add_zero] at hd
  have hc : stC (s.extract n s.size) 0 = stC s n := by unfold stC; rw [hd]
  have hw : stW (s.extract n s.size) 0 = stW s n := by unfold stW; rw [hd]
  rw [walk_step (by rw [size_cut _ _ _ (Nat.le_refl _)]; omega)]
  simp only [runeStep, runeS, hc, hw, Nat.zero_add]
  rfl

/-! ### Source -/
def sourceStep (s : ByteArray) (a : Int × Int) (p : Nat) : (Int × Int) × Bool := if sourceB (stC s p) then (a, true) else (((p : Int), 10), false)
def sourceS (s : ByteArray) : Int × Int := walk s (sourceStep s) 0 (0, 0)

set_option maxHeartbeats 400000 in
theorem source1_yes (B : Nat) (x y c b e : Int) (W : World) (h : W.heap[B]? = some (.cells #[.int .i64 x] 3 (0, 0))) (h' : W.heap[B + 1]? = some (.cells #[.int .i64 y] 26 (0, 0))) (hc : sourceB c = true) :
    Calls Tryz.prog 118 #[.agg #[.int .i64 c, .int .i64 b, .int .i64 e], .pointer (some ⟨B, 0, none⟩), .pointer (some ⟨B + 1, 0, none⟩)] W fun z W' => z = .returned (.bool true) ∧ Iters W W' ∧ (W'.heap[B]? = some (.cells #[.int .i64 x] 3 (0, 0)) ∧ W'.heap[B + 1]? = some (.cells #[.int .i64 y] 26 (0, 0))) ∧ Below B W W' := by
  have hlt := lt_of_block h
  go_enter Tryz.func118, Tryz.ntmps118
  go_wp2_with (go_at_call 119; refine (isSource_any _ _).mono ?_; rintro e w' ⟨rfl, rfl⟩)
  go_ret
  exact ⟨rfl, (Iters.refl W).alloc _, ⟨(Lib.alloc_old _ _ B (lt_of_block h)).trans h, (Lib.alloc_old _ _ (B + 1) (lt_of_block h')).trans h'⟩, (Below.refl B W).alloc (by omega) _⟩

set_option maxHeartbeats 400000 in
theorem source1_no (B : Nat) (x y c b e : Int) (W : World) (h : W.heap[B]? = some (.cells #[.int .i64 x] 3 (0, 0))) (h' : W.heap[B + 1]? = some (.cells #[.int .i64 y] 26 (0, 0))) (hc : sourceB c = false) :
    Calls Tryz.prog 118 #[.agg #[.int .i64 c, .int .i64 b, .int .i64 e], .pointer (some ⟨B, 0, none⟩), .pointer (some ⟨B + 1, 0, none⟩)] W fun z W' => z = .returned (.bool false) ∧ Iters W W' ∧ (W'.heap[B]? = some (.cells #[.int .i64 b] 3 (0, 0)) ∧ W'.heap[B + 1]? = some (.cells #[.int .i64 10] 26 (0, 0))) ∧ Below B W W' := by
  have hlt := lt_of_block h
  have hlt' := lt_of_block h'
  have cB := cell_of_one h
  have fB := free_of_one h
  have cC := cell_of_one h'
  have fC := free_of_one h'
  go_enter Tryz.func118, Tryz.ntmps118
  go_wp2_with (go_at_call 119; refine (isSource_any _ _).mono ?_; rintro e w' ⟨rfl, rfl⟩)
  go_ret
  obtain ⟨g1, g2, g3, g4⟩ := two_set h h' (by omega) (Nat.le_refl B) (by omega) (.int .i64 b) (.int .i64 10)
  have hz : W.heap.size = ((W.setCell ⟨B, 0, none⟩ (.int .i64 b)).setCell ⟨B + 1, 0, none⟩ (.int .i64 10)).heap.size := by simp [World.setCell]
  exact ⟨rfl, g4.alloc _, ⟨(Lib.alloc_old _ _ B (by omega)).trans g1, (Lib.alloc_old _ _ (B + 1) (by omega)).trans g2⟩, g3.alloc (by omega) _⟩

theorem source1_any (B : Nat) (a : Int × Int) (s : ByteArray) (p : Nat) (W : World) (h : W.heap[B]? = some (.cells #[.int .i64 a.1] 3 (0, 0))) (h' : W.heap[B + 1]? = some (.cells #[.int .i64 a.2] 26 (0, 0))) :
    Calls Tryz.prog 118 #[stV s p, .pointer (some ⟨B, 0, none⟩), .pointer (some ⟨B + 1, 0, none⟩)] W fun z W' => z = .returned (.bool (sourceStep s a p).2) ∧ Iters W W' ∧ (W'.heap[B]? = some (.cells #[.int .i64 (sourceStep s a p).1.1] 3 (0, 0)) ∧ W'.heap[B + 1]? = some (.cells #[.int .i64 (sourceStep s a p).1.2] 26 (0, 0))) ∧ Below B W W' := by
  by_cases hc : sourceB (stC s p) = true
  · unfold stV sourceStep
    rw [if_pos hc]
    exact source1_yes B a.1 a.2 _ _ _ W h h' hc
  · unfold stV sourceStep
    rw [if_neg hc]
    exact source1_no B a.1 a.2 _ _ _ W h h' (by simpa using hc)

set_option maxHeartbeats 400000 in
theorem source_any (s : ByteArray) (w : World) (hs : s.size ≤ 1125899906842624) :
    Calls Tryz.prog 100 #[.string s] w fun e w' => e = .returned (.tuple #[.int .i64 (sourceS s).1, .int .i64 (sourceS s).2]) ∧ Below w.heap.size w w' := by
  have hE := each_walk (α := Int × Int) 118 #[.pointer (some ⟨w.heap.size, 0, none⟩), .pointer (some ⟨w.heap.size + 1, 0, none⟩)] s ((w.alloc (.cells #[.int .i64 0] 3)).alloc (.cells #[.int .i64 0] 26)) hs
    (fun (a : Int × Int) W => (W.heap[w.heap.size]? = some (.cells #[.int .i64 a.1] 3 (0, 0)) ∧ W.heap[w.heap.size + 1]? = some (.cells #[.int .i64 a.2] 26 (0, 0))) ∧ Below w.heap.size w W) (fun _ _ => True) (sourceStep s) (0, 0) (fun _ _ => by kernel_rfl)
    (fun a W W' h k => ⟨⟨Keep.one k h.1.1 (by decide), Keep.one k h.1.2 (by decide)⟩, h.2.trans (k.below.mono (by simp; omega))⟩)
    ⟨⟨(Lib.alloc_old _ _ _ (by simp)).trans (heap_alloc_new _ _), by simpa using heap_alloc_new (w.alloc (.cells #[.int .i64 0] 3)) (.cells #[.int .i64 0] 26)⟩, ((Below.refl _ _).alloc (Nat.le_refl _) _).alloc (by simp) _⟩ trivial (fun _ _ _ _ _ => trivial)
    (fun a p W _ _ h => (source1_any w.heap.size a _ p W h.1.1 h.1.2).mono fun e W' ⟨h1, h2, h3, h4⟩ => ⟨h1, h2, h3, h.2.trans h4⟩)
  go_enter Tryz.func100, Tryz.ntmps100
  go_wp2_with (go_at_call 117; refine Calls.mono hE ?_; rintro e w' ⟨rfl, ⟨h1, h1'⟩, h2⟩; have c1 := cell_of_one h1; have c2 := cell_of_one h1')
  go_region
  all_goals
    go_wp2
    go_ret2
    exact ⟨rfl, below_drew1 h2⟩

end Go.Proofs.YtlabcadpkdgjnaaGreatDoor
