/- Package runes' functions over eachStep: what each returns, as a plain walk over the steps; no memory that was there turns. -/
import Derived.Test.YtikbomagmedemabWalk
namespace Go.Proofs.Ytikbomagmedemab
open Go.RowKit

theorem old_set {W : World} {B : Nat} {v : Value} {t : TypeId} (h : W.heap[B]? = some (.cells #[v] t (0, 0))) (u : Value) (o : Obj) : ((W.setCell ⟨B, 0, none⟩ u).alloc o).heap[B]? = some (.cells #[u] t (0, 0)) :=
  (Lib.alloc_old _ _ B (by have := lt_of_block h; simpa [World.setCell] using this)).trans (one_setCell h)
theorem below_set {W : World} {B C : Nat} {v : Value} {t : TypeId} (h : W.heap[C]? = some (.cells #[v] t (0, 0))) (hBC : B ≤ C) (u : Value) (o : Obj) : Below B W ((W.setCell ⟨C, 0, none⟩ u).alloc o) :=
  ((Below.refl B W).setCell (p := ⟨C, 0, none⟩) hBC _).alloc (by have := lt_of_block h; simp [World.setCell]; omega) _

theorem below_drew1 {B : Nat} {W W' : World} (h : Below B W W') : Below B W W'.drew := ⟨h.os, h.tape, h.output, h.size, h.block⟩

/-- Two captured variables written, a block laid. -/
theorem two_set {W : World} {B C : Nat} {x y : Value} {t t' : TypeId} (h : W.heap[B]? = some (.cells #[x] t (0, 0))) (h' : W.heap[C]? = some (.cells #[y] t' (0, 0))) (hBC : B ≠ C) {D : Nat} (hB : D ≤ B) (hC : D ≤ C) (u v : Value) :
    (((W.setCell ⟨B, 0, none⟩ u).setCell ⟨C, 0, none⟩ v)).heap[B]? = some (.cells #[u] t (0, 0)) ∧ (((W.setCell ⟨B, 0, none⟩ u).setCell ⟨C, 0, none⟩ v)).heap[C]? = some (.cells #[v] t' (0, 0)) ∧ Below D W ((W.setCell ⟨B, 0, none⟩ u).setCell ⟨C, 0, none⟩ v) ∧ Iters W ((W.setCell ⟨B, 0, none⟩ u).setCell ⟨C, 0, none⟩ v) := by
  have h2 : (W.setCell ⟨B, 0, none⟩ u).heap[C]? = some (.cells #[y] t' (0, 0)) := (Below.heap_setCell W ⟨B, 0, none⟩ u C (Ne.symm hBC)).trans h'
  refine ⟨?_, one_setCell h2, ?_, ?_⟩
  · exact (Below.heap_setCell _ ⟨C, 0, none⟩ v B hBC).trans (one_setCell h)
  · exact ((Below.refl D W).setCell (p := ⟨B, 0, none⟩) hB _).setCell (p := ⟨C, 0, none⟩) hC _
  · exact ((Iters.refl W).setCell (p := ⟨B, 0, none⟩) h _).setCell (p := ⟨C, 0, none⟩) h2 _

/-! ### Valid -/
def validStep (s : ByteArray) (_ : Bool) (p : Nat) : Bool × Bool := (stC s p != -1, stC s p != -1)
def validS (s : ByteArray) : Bool := walk s (validStep s) 0 true

set_option maxHeartbeats 400000 in
theorem valid1_any (B : Nat) (a : Bool) (c b e : Int) (W : World) (h : W.heap[B]? = some (.cells #[.bool a] 4 (0, 0))) :
    Calls Try.prog 21 #[.agg #[.int .i64 c, .int .i64 b, .int .i64 e], .pointer (some ⟨B, 0, none⟩)] W fun x W' => x = .returned (.bool (c != -1)) ∧ Iters W W' ∧ W'.heap[B]? = some (.cells #[.bool (c != -1)] 4 (0, 0)) ∧ Below B W W' := by
  have cB := cell_of_one h
  have fB := free_of_one h
  have hlt := lt_of_block h
  go_enter Try.func21, Try.ntmps21
  go_wp2
  go_ret
  exact ⟨rfl, ((Iters.refl W).setCell (p := ⟨B, 0, none⟩) h _).alloc _, old_set h _ _, below_set h (Nat.le_refl _) _ _⟩

set_option maxHeartbeats 400000 in
theorem valid_any (s : ByteArray) (w : World) (hs : s.size ≤ 1125899906842624) :
    Calls Try.prog 12 #[.string s] w fun e w' => e = .returned (.bool (validS s)) ∧ Below w.heap.size w w' := by
  have hE := each_walk 21 #[.pointer (some ⟨w.heap.size, 0, none⟩)] s (w.alloc (.cells #[.bool true] 4)) hs
    (fun a W => W.heap[w.heap.size]? = some (.cells #[.bool a] 4 (0, 0)) ∧ Below w.heap.size w W) (fun _ _ => True) (validStep s) true (fun _ _ => rfl)
    (fun a W W' h k => ⟨k.one h.1 (by decide), h.2.trans (k.below.mono (by simp))⟩)
    ⟨heap_alloc_new _ _, (Below.refl _ _).alloc (Nat.le_refl _) _⟩ trivial (fun _ _ _ _ _ => trivial)
    (fun a p W _ _ h => (valid1_any w.heap.size a _ _ _ W h.1).mono fun e W' ⟨h1, h2, h3, h4⟩ => ⟨h1, h2, h3, h.2.trans h4⟩)
  go_enter Try.func12, Try.ntmps12
  go_wp2_with (go_at_call 14; refine Calls.mono hE ?_; rintro e w' ⟨rfl, h1, h2⟩; have c1 := cell_of_one h1)
  go_ret
  exact ⟨rfl, h2⟩

/-! ### Rune -/
def runeStep (s : ByteArray) (a : Int × Int) (p : Nat) : (Int × Int) × Bool := (if stC s p = -1 then a else (stC s p, ((p + stW s p : Nat) : Int)), false)

set_option maxHeartbeats 400000 in
theorem rune1_no (B C : Nat) (x y : Int) (b e : Int) (W : World) (h : W.heap[B]? = some (.cells #[.int .i64 x] 3 (0, 0))) (h' : W.heap[C]? = some (.cells #[.int .i64 y] 3 (0, 0))) :
    Calls Try.prog 18 #[.agg #[.int .i64 (-1), .int .i64 b, .int .i64 e], .pointer (some ⟨B, 0, none⟩), .pointer (some ⟨C, 0, none⟩)] W fun z W' => z = .returned (.bool false) ∧ Iters W W' ∧ W'.heap[B]? = some (.cells #[.int .i64 x] 3 (0, 0)) ∧ W'.heap[C]? = some (.cells #[.int .i64 y] 3 (0, 0)) ∧ Below B W W' := by
  have hlt := lt_of_block h
  go_enter Try.func18, Try.ntmps18
  go_wp2
  go_ret
  exact ⟨rfl, (Iters.refl W).alloc _, (Lib.alloc_old _ _ B (lt_of_block h)).trans h, (Lib.alloc_old _ _ C (lt_of_block h')).trans h', (Below.refl B W).alloc (by omega) _⟩

set_option maxHeartbeats 400000 in
theorem rune1_yes (B : Nat) (x y : Int) (c b e : Int) (hc : c ≠ -1) (W : World) (h : W.heap[B]? = some (.cells #[.int .i64 x] 3 (0, 0))) (h' : W.heap[B + 1]? = some (.cells #[.int .i64 y] 3 (0, 0))) :
    Calls Try.prog 18 #[.agg #[.int .i64 c, .int .i64 b, .int .i64 e], .pointer (some ⟨B, 0, none⟩), .pointer (some ⟨B + 1, 0, none⟩)] W fun z W' => z = .returned (.bool false) ∧ Iters W W' ∧ W'.heap[B]? = some (.cells #[.int .i64 c] 3 (0, 0)) ∧ W'.heap[B + 1]? = some (.cells #[.int .i64 e] 3 (0, 0)) ∧ Below B W W' := by
  have hlt := lt_of_block h
  have hlt' := lt_of_block h'
  have cB := cell_of_one h
  have fB := free_of_one h
  have cC := cell_of_one h'
  have fC := free_of_one h'
  have hc' : (c != -1) = true := by simpa using hc
  go_enter Try.func18, Try.ntmps18
  go_wp2
  go_region
  all_goals
    go_wp2
    go_ret
    obtain ⟨g1, g2, g3, g4⟩ := two_set h h' (by omega) (Nat.le_refl B) (by omega) (.int .i64 c) (.int .i64 e)
    have hz : W.heap.size = ((W.setCell ⟨B, 0, none⟩ (.int .i64 c)).setCell ⟨B + 1, 0, none⟩ (.int .i64 e)).heap.size := by simp [World.setCell]
    exact ⟨rfl, g4.alloc _, (Lib.alloc_old _ _ B (by omega)).trans g1, (Lib.alloc_old _ _ (B + 1) (by omega)).trans g2, below_drew1 (g3.alloc (by omega) _)⟩

theorem rune1_any (B : Nat) (a : Int × Int) (s : ByteArray) (p : Nat) (W : World) (h : W.heap[B]? = some (.cells #[.int .i64 a.1] 3 (0, 0))) (h' : W.heap[B + 1]? = some (.cells #[.int .i64 a.2] 3 (0, 0))) :
    Calls Try.prog 18 #[stV s p, .pointer (some ⟨B, 0, none⟩), .pointer (some ⟨B + 1, 0, none⟩)] W fun z W' => z = .returned (.bool (runeStep s a p).2) ∧ Iters W W' ∧ (W'.heap[B]? = some (.cells #[.int .i64 (runeStep s a p).1.1] 3 (0, 0)) ∧ W'.heap[B + 1]? = some (.cells #[.int .i64 (runeStep s a p).1.2] 3 (0, 0))) ∧ Below B W W' := by
  by_cases hc : stC s p = -1
  · unfold stV runeStep
    rw [hc, if_pos rfl]
    exact (rune1_no B (B + 1) a.1 a.2 _ _ W h h').mono fun z W' ⟨h1, h2, h3, h4, h5⟩ => ⟨h1, h2, ⟨h3, h4⟩, h5⟩
  · unfold stV runeStep
    rw [if_neg hc]
    exact (rune1_yes B a.1 a.2 _ _ _ hc W h h').mono fun z W' ⟨h1, h2, h3, h4, h5⟩ => ⟨h1, h2, ⟨h3, h4⟩, h5⟩

def runeS (s : ByteArray) (n : Nat) : Int × Int := if stC s n = -1 then (0, 0) else (stC s n, (stW s n : Int))

theorem rune_walk (s : ByteArray) (n : Nat) (hn : n < s.size) : walk (s.extract n s.size) (runeStep (s.extract n s.size)) 0 (0, 0) = runeS s n := by
  have hd := dec_drop s n 0 (by omega)
  rw [Nat.add_zero] at hd
  have hc : stC (s.extract n s.size) 0 = stC s n := by unfold stC; rw [hd]
  have hw : stW (s.extract n s.size) 0 = stW s n := by unfold stW; rw [hd]
  rw [walk_step (by rw [size_cut _ _ _ (Nat.le_refl _)]; omega)]
  simp only [runeStep, runeS, hc, hw, Nat.zero_add]
  rfl

set_option maxHeartbeats 400000 in
theorem rune_out (s : ByteArray) (k : Int) (w : World) (hk : k < 0 ∨ (s.size : Int) ≤ k) :
    Calls Try.prog 9 #[.string s, .int .i64 k] w fun e w' => e = .returned (.tuple #[.int .i64 0, .int .i64 0]) ∧ w' = w := by
  rcases hk with h | h
  · go_enter Try.func9, Try.ntmps9
    go_wp2
    go_ret2
    exact ⟨rfl, rfl⟩
  · have h' : 0 ≤ k := by omega
    go_enter Try.func9, Try.ntmps9
    go_wp2
    go_ret2
    exact ⟨rfl, rfl⟩

set_option maxHeartbeats 400000 in
theorem rune_in (s : ByteArray) (n : Nat) (w : World) (hs : s.size ≤ 1125899906842624) (hn : n < s.size) :
    Calls Try.prog 9 #[.string s, .int .i64 n] w fun e w' => e = .returned (.tuple #[.int .i64 (runeS s n).1, .int .i64 (runeS s n).2]) ∧ Below w.heap.size w w' := by
  have hE := each_walk (α := Int × Int) 18 #[.pointer (some ⟨w.heap.size, 0, none⟩), .pointer (some ⟨w.heap.size + 1, 0, none⟩)] (s.extract n s.size) ((w.alloc (.cells #[.int .i64 0] 3)).alloc (.cells #[.int .i64 0] 3)) (by rw [size_cut _ _ _ (Nat.le_refl _)]; omega)
    (fun (a : Int × Int) W => (W.heap[w.heap.size]? = some (.cells #[.int .i64 a.1] 3 (0, 0)) ∧ W.heap[w.heap.size + 1]? = some (.cells #[.int .i64 a.2] 3 (0, 0))) ∧ Below w.heap.size w W) (fun _ _ => True) (runeStep (s.extract n s.size)) (0, 0) (fun _ _ => rfl)
    (fun a W W' h k => ⟨⟨Keep.one k h.1.1 (by decide), Keep.one k h.1.2 (by decide)⟩, h.2.trans (k.below.mono (by simp; omega))⟩)
    ⟨⟨(Lib.alloc_old _ _ _ (by simp)).trans (heap_alloc_new _ _), by simpa using heap_alloc_new (w.alloc (.cells #[.int .i64 0] 3)) (.cells #[.int .i64 0] 3)⟩, ((Below.refl _ _).alloc (Nat.le_refl _) _).alloc (by simp) _⟩ trivial (fun _ _ _ _ _ => trivial)
    (fun a p W _ _ h => (rune1_any w.heap.size a _ p W h.1.1 h.1.2).mono fun e W' ⟨h1, h2, h3, h4⟩ => ⟨h1, h2, h3, h.2.trans h4⟩)
  rw [rune_walk s n hn] at hE
  go_enter Try.func9, Try.ntmps9
  go_wp2_with (go_at_call 14; refine Calls.mono hE ?_; rintro e w' ⟨rfl, ⟨h1, h1'⟩, h2⟩; have c1 := cell_of_one h1; have c2 := cell_of_one h1')
  go_region
  all_goals
    go_wp2
    go_ret2
    exact ⟨rfl, below_drew1 h2⟩

/-! ### Source -/
def sourceStep (s : ByteArray) (a : Int × Int) (p : Nat) : (Int × Int) × Bool := if sourceB (stC s p) then (a, true) else (((p : Int), 10), false)
def sourceS (s : ByteArray) : Int × Int := walk s (sourceStep s) 0 (0, 0)

set_option maxHeartbeats 400000 in
theorem source1_yes (B : Nat) (x y c b e : Int) (W : World) (h : W.heap[B]? = some (.cells #[.int .i64 x] 3 (0, 0))) (h' : W.heap[B + 1]? = some (.cells #[.int .i64 y] 30 (0, 0))) (hc : sourceB c = true) :
    Calls Try.prog 19 #[.agg #[.int .i64 c, .int .i64 b, .int .i64 e], .pointer (some ⟨B, 0, none⟩), .pointer (some ⟨B + 1, 0, none⟩)] W fun z W' => z = .returned (.bool true) ∧ Iters W W' ∧ (W'.heap[B]? = some (.cells #[.int .i64 x] 3 (0, 0)) ∧ W'.heap[B + 1]? = some (.cells #[.int .i64 y] 30 (0, 0))) ∧ Below B W W' := by
  have hlt := lt_of_block h
  go_enter Try.func19, Try.ntmps19
  go_wp2_with (go_at_call 20; refine (isSource_any _ _).mono ?_; rintro e w' ⟨rfl, rfl⟩)
  go_ret
  exact ⟨rfl, (Iters.refl W).alloc _, ⟨(Lib.alloc_old _ _ B (lt_of_block h)).trans h, (Lib.alloc_old _ _ (B + 1) (lt_of_block h')).trans h'⟩, (Below.refl B W).alloc (by omega) _⟩

set_option maxHeartbeats 400000 in
theorem source1_no (B : Nat) (x y c b e : Int) (W : World) (h : W.heap[B]? = some (.cells #[.int .i64 x] 3 (0, 0))) (h' : W.heap[B + 1]? = some (.cells #[.int .i64 y] 30 (0, 0))) (hc : sourceB c = false) :
    Calls Try.prog 19 #[.agg #[.int .i64 c, .int .i64 b, .int .i64 e], .pointer (some ⟨B, 0, none⟩), .pointer (some ⟨B + 1, 0, none⟩)] W fun z W' => z = .returned (.bool false) ∧ Iters W W' ∧ (W'.heap[B]? = some (.cells #[.int .i64 b] 3 (0, 0)) ∧ W'.heap[B + 1]? = some (.cells #[.int .i64 10] 30 (0, 0))) ∧ Below B W W' := by
  have hlt := lt_of_block h
  have hlt' := lt_of_block h'
  have cB := cell_of_one h
  have fB := free_of_one h
  have cC := cell_of_one h'
  have fC := free_of_one h'
  go_enter Try.func19, Try.ntmps19
  go_wp2_with (go_at_call 20; refine (isSource_any _ _).mono ?_; rintro e w' ⟨rfl, rfl⟩)
  go_ret
  obtain ⟨g1, g2, g3, g4⟩ := two_set h h' (by omega) (Nat.le_refl B) (by omega) (.int .i64 b) (.int .i64 10)
  have hz : W.heap.size = ((W.setCell ⟨B, 0, none⟩ (.int .i64 b)).setCell ⟨B + 1, 0, none⟩ (.int .i64 10)).heap.size := by simp [World.setCell]
  exact ⟨rfl, g4.alloc _, ⟨(Lib.alloc_old _ _ B (by omega)).trans g1, (Lib.alloc_old _ _ (B + 1) (by omega)).trans g2⟩, g3.alloc (by omega) _⟩

theorem source1_any (B : Nat) (a : Int × Int) (s : ByteArray) (p : Nat) (W : World) (h : W.heap[B]? = some (.cells #[.int .i64 a.1] 3 (0, 0))) (h' : W.heap[B + 1]? = some (.cells #[.int .i64 a.2] 30 (0, 0))) :
    Calls Try.prog 19 #[stV s p, .pointer (some ⟨B, 0, none⟩), .pointer (some ⟨B + 1, 0, none⟩)] W fun z W' => z = .returned (.bool (sourceStep s a p).2) ∧ Iters W W' ∧ (W'.heap[B]? = some (.cells #[.int .i64 (sourceStep s a p).1.1] 3 (0, 0)) ∧ W'.heap[B + 1]? = some (.cells #[.int .i64 (sourceStep s a p).1.2] 30 (0, 0))) ∧ Below B W W' := by
  by_cases hc : sourceB (stC s p) = true
  · unfold stV sourceStep
    rw [if_pos hc]
    exact source1_yes B a.1 a.2 _ _ _ W h h' hc
  · unfold stV sourceStep
    rw [if_neg hc]
    exact source1_no B a.1 a.2 _ _ _ W h h' (by simpa using hc)

set_option maxHeartbeats 400000 in
theorem source_any (s : ByteArray) (w : World) (hs : s.size ≤ 1125899906842624) :
    Calls Try.prog 11 #[.string s] w fun e w' => e = .returned (.tuple #[.int .i64 (sourceS s).1, .int .i64 (sourceS s).2]) ∧ Below w.heap.size w w' := by
  have hE := each_walk (α := Int × Int) 19 #[.pointer (some ⟨w.heap.size, 0, none⟩), .pointer (some ⟨w.heap.size + 1, 0, none⟩)] s ((w.alloc (.cells #[.int .i64 0] 3)).alloc (.cells #[.int .i64 0] 30)) hs
    (fun (a : Int × Int) W => (W.heap[w.heap.size]? = some (.cells #[.int .i64 a.1] 3 (0, 0)) ∧ W.heap[w.heap.size + 1]? = some (.cells #[.int .i64 a.2] 30 (0, 0))) ∧ Below w.heap.size w W) (fun _ _ => True) (sourceStep s) (0, 0) (fun _ _ => rfl)
    (fun a W W' h k => ⟨⟨Keep.one k h.1.1 (by decide), Keep.one k h.1.2 (by decide)⟩, h.2.trans (k.below.mono (by simp; omega))⟩)
    ⟨⟨(Lib.alloc_old _ _ _ (by simp)).trans (heap_alloc_new _ _), by simpa using heap_alloc_new (w.alloc (.cells #[.int .i64 0] 3)) (.cells #[.int .i64 0] 30)⟩, ((Below.refl _ _).alloc (Nat.le_refl _) _).alloc (by simp) _⟩ trivial (fun _ _ _ _ _ => trivial)
    (fun a p W _ _ h => (source1_any w.heap.size a _ p W h.1.1 h.1.2).mono fun e W' ⟨h1, h2, h3, h4⟩ => ⟨h1, h2, h3, h.2.trans h4⟩)
  go_enter Try.func11, Try.ntmps11
  go_wp2_with (go_at_call 14; refine Calls.mono hE ?_; rintro e w' ⟨rfl, ⟨h1, h1'⟩, h2⟩; have c1 := cell_of_one h1; have c2 := cell_of_one h1')
  go_region
  all_goals
    go_wp2
    go_ret2
    exact ⟨rfl, below_drew1 h2⟩

end Go.Proofs.Ytikbomagmedemab
