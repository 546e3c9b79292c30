/- Place over eachStep: line and column, as a plain walk over the steps. -/
import Derived.Test.YtikbomagmedemabFuns
namespace Go.Proofs.Ytikbomagmedemab
open Go.RowKit

def placeStep (s : ByteArray) (k : Nat) (a : Int × Int) (p : Nat) : (Int × Int) × Bool :=
  if k < p + stW s p then (a, false) else if endsB s (stC s p) (p + stW s p) then ((a.1 + 1, 1), true) else ((a.1, a.2 + 1), true)
def placeS (s : ByteArray) (k : Nat) : Int × Int := walk s (placeStep s k) 0 (1, 1)

/-- What Place's closure has captured: the text, the place, the line, the column. -/
structure PlaceAt (B : Nat) (s : ByteArray) (k : Nat) (l c : Int) (W : World) : Prop where
  hS : W.heap[B]? = some (.cells #[.string s] 9 (0, 0))
  hA : W.heap[B + 1]? = some (.cells #[.int .i64 k] 3 (0, 0))
  hL : W.heap[B + 2]? = some (.cells #[.int .i64 l] 3 (0, 0))
  hC : W.heap[B + 3]? = some (.cells #[.int .i64 c] 3 (0, 0))

theorem PlaceAt.mono {B : Nat} {s : ByteArray} {k : Nat} {l c : Int} {W W' : World} (h : PlaceAt B s k l c W) {D : Nat} (hb : Below D W W') (hD : B + 3 < D) : PlaceAt B s k l c W' :=
  ⟨(hb.block _ (by omega)).trans h.hS, (hb.block _ (by omega)).trans h.hA, (hb.block _ (by omega)).trans h.hL, (hb.block _ (by omega)).trans h.hC⟩
theorem PlaceAt.alloc {B : Nat} {s : ByteArray} {k : Nat} {l c : Int} {W : World} (h : PlaceAt B s k l c W) (o : Obj) : PlaceAt B s k l c (W.alloc o) :=
  h.mono ((Below.refl W.heap.size W).alloc (Nat.le_refl _) o) (lt_of_block h.hC)
theorem PlaceAt.setC {B : Nat} {s : ByteArray} {k : Nat} {l c : Int} {W : World} (h : PlaceAt B s k l c W) (x : Int) : PlaceAt B s k l x (W.setCell ⟨B + 3, 0, none⟩ (.int .i64 x)) :=
  ⟨(Below.heap_setCell _ _ _ _ (by show B ≠ B + 3; omega)).trans h.hS, (Below.heap_setCell _ _ _ _ (by show B + 1 ≠ B + 3; omega)).trans h.hA, (Below.heap_setCell _ _ _ _ (by show B + 2 ≠ B + 3; omega)).trans h.hL, one_setCell h.hC⟩
theorem PlaceAt.setL {B : Nat} {s : ByteArray} {k : Nat} {l c : Int} {W : World} (h : PlaceAt B s k l c W) (x : Int) : PlaceAt B s k x c (W.setCell ⟨B + 2, 0, none⟩ (.int .i64 x)) :=
  ⟨(Below.heap_setCell _ _ _ _ (by show B ≠ B + 2; omega)).trans h.hS, (Below.heap_setCell _ _ _ _ (by show B + 1 ≠ B + 2; omega)).trans h.hA, one_setCell h.hL, (Below.heap_setCell _ _ _ _ (by show B + 3 ≠ B + 2; omega)).trans h.hC⟩

theorem iters_below {W W' : World} (h : Below W.heap.size W W') : Iters W W' := fun k _ _ hk => (h.block k (lt_of_block hk)).trans hk
theorem Iters.trans {W W1 W2 : World} (h : Iters W W1) (h' : Iters W1 W2) : Iters W W2 := fun _ _ _ hk => h' _ _ _ (h _ _ _ hk)

set_option maxHeartbeats 1000000 in
theorem place1_any (B : Nat) (a : Int × Int) (s : ByteArray) (k p : Nat) (W : World) (hs : s.size ≤ 1125899906842624) (hp : p < s.size) (hJ : 1 ≤ a.1 ∧ a.1 ≤ p + 1 ∧ 1 ≤ a.2 ∧ a.2 ≤ p + 1) (h : PlaceAt B s k a.1 a.2 W) :
    Calls Try.prog 15 #[stV s p, .pointer (some ⟨B + 1, 0, none⟩), .pointer (some ⟨B + 3, 0, none⟩), .pointer (some ⟨B, 0, none⟩), .pointer (some ⟨B + 2, 0, none⟩)] W fun z W' => z = .returned (.bool (placeStep s k a p).2) ∧ Iters W W' ∧ PlaceAt B s k (placeStep s k a p).1.1 (placeStep s k a p).1.2 W' ∧ Below B W W' := by
  obtain ⟨l, c⟩ := a
  obtain ⟨j1, j2, j3, j4⟩ := hJ
  have hw := dec_w s p hp
  obtain ⟨q, hq⟩ : ∃ q, q = p + stW s p := ⟨_, rfl⟩
  have hv : stV s p = .agg #[.int .i64 (stC s p), .int .i64 p, .int .i64 q] := by unfold stV; rw [hq]
  rw [hv]
  have hC := h.hC
  have hlt := lt_of_block hC
  have hltS := lt_of_block h.hS
  have hltA := lt_of_block h.hA
  have hltL := lt_of_block h.hL
  have cS := cell_of_one h.hS
  have cA := cell_of_one h.hA
  have cL := cell_of_one h.hL
  have cC := cell_of_one h.hC
  have fL := free_of_one h.hL
  have fC := free_of_one h.hC
  by_cases hk : k < q
  · have e1 : placeStep s k (l, c) p = ((l, c), false) := by unfold placeStep; rw [if_pos (by omega)]
    rw [e1]
    clear e1 hq hv
    go_enter Try.func15, Try.ntmps15
    go_wp2
    go_ret
    exact ⟨rfl, (Iters.refl W).alloc _, h.alloc _, (Below.refl B W).alloc (by omega) _⟩
  · by_cases he : endsB s (stC s p) q = true
    · have e1 : placeStep s k (l, c) p = ((l + 1, 1), true) := by unfold placeStep; rw [if_neg (by omega), ← hq, if_pos he]
      rw [e1]
      have hqs : q ≤ s.size := by omega
      clear e1 hq hv
      go_enter Try.func15, Try.ntmps15
      go_wp2_with (go_at_call 16; refine (endsLine_any _ _ _ _ _ hqs).mono ?_; rintro e w1 ⟨rfl, hb⟩; have h1 := ((h.setC (c + 1)).alloc _).mono hb (by simp [World.setCell]; omega); have cL1 := cell_of_one h1.hL; have cC1 := cell_of_one h1.hC; have fL1 := free_of_one h1.hL; have fC1 := free_of_one h1.hC)
      go_ret
      have hI : Iters W ((w1.setCell ⟨B + 2, 0, none⟩ (.int .i64 (l + 1))).setCell ⟨B + 3, 0, none⟩ (.int .i64 1)) :=
        ((((Iters.refl W).setCell (p := ⟨B + 3, 0, none⟩) hC _).alloc _).trans (iters_below hb)).trans (((Iters.refl w1).setCell (p := ⟨B + 2, 0, none⟩) h1.hL _).setCell (p := ⟨B + 3, 0, none⟩) ((h1.setL (l + 1)).hC) _)
      have hB : Below B W ((w1.setCell ⟨B + 2, 0, none⟩ (.int .i64 (l + 1))).setCell ⟨B + 3, 0, none⟩ (.int .i64 1)) :=
        ((((((Below.refl B W).setCell (p := ⟨B + 3, 0, none⟩) (by show B ≤ B + 3; omega) _).alloc (by simp [World.setCell]; omega) _).trans (hb.mono (by simp [World.setCell]; omega)))).setCell (p := ⟨B + 2, 0, none⟩) (by show B ≤ B + 2; omega) _).setCell (p := ⟨B + 3, 0, none⟩) (by show B ≤ B + 3; omega) _
      exact ⟨rfl, hI, (h1.setL (l + 1)).setC 1, hB⟩
    · have he' : endsB s (stC s p) q = false := by simpa using he
      have e1 : placeStep s k (l, c) p = ((l, c + 1), true) := by unfold placeStep; rw [if_neg (by omega), ← hq, if_neg he]
      rw [e1]
      have hqs : q ≤ s.size := by omega
      clear e1 hq hv he
      go_enter Try.func15, Try.ntmps15
      go_wp2_with (go_at_call 16; refine (endsLine_any _ _ _ _ _ hqs).mono ?_; rintro e w1 ⟨rfl, hb⟩; have h1 := ((h.setC (c + 1)).alloc _).mono hb (by simp [World.setCell]; omega); have cL1 := cell_of_one h1.hL; have cC1 := cell_of_one h1.hC; have fL1 := free_of_one h1.hL; have fC1 := free_of_one h1.hC)
      go_ret
      have hI : Iters W w1 := (((Iters.refl W).setCell (p := ⟨B + 3, 0, none⟩) hC _).alloc _).trans (iters_below hb)
      have hB : Below B W w1 :=
        (((Below.refl B W).setCell (p := ⟨B + 3, 0, none⟩) (by show B ≤ B + 3; omega) _).alloc (by simp [World.setCell]; omega) _).trans (hb.mono (by simp [World.setCell]; omega))
      exact ⟨rfl, hI, h1, hB⟩

theorem placeStep_J (s : ByteArray) (k : Nat) (a : Int × Int) (p : Nat) (hp : p < s.size) (hJ : 1 ≤ a.1 ∧ a.1 ≤ p + 1 ∧ 1 ≤ a.2 ∧ a.2 ≤ p + 1) :
    1 ≤ (placeStep s k a p).1.1 ∧ (placeStep s k a p).1.1 ≤ ((p + stW s p : Nat) : Int) + 1 ∧ 1 ≤ (placeStep s k a p).1.2 ∧ (placeStep s k a p).1.2 ≤ ((p + stW s p : Nat) : Int) + 1 := by
  have hw := dec_w s p hp
  unfold placeStep
  repeat' split
  all_goals (dsimp only; omega)

/-- The place that is asked for, brought within the text. -/
def clampP (s : ByteArray) (k : Int) : Nat := (min (max k 0) (s.size : Int)).toNat

theorem place_each (s : ByteArray) (n : Nat) (v : Int) (hv : v = (n : Int)) (w : World) (hs : s.size ≤ 1125899906842624) :
    Calls Try.prog 14 #[.string s, .func (.func 15) #[] #[.pointer (some ⟨w.heap.size + 1, 0, none⟩), .pointer (some ⟨w.heap.size + 3, 0, none⟩), .pointer (some ⟨w.heap.size, 0, none⟩), .pointer (some ⟨w.heap.size + 2, 0, none⟩)]]
      ((((w.alloc (.cells #[.string s] 9)).alloc (.cells #[.int .i64 v] 3)).alloc (.cells #[.int .i64 1] 3)).alloc (.cells #[.int .i64 1] 3))
      fun e w' => e = .returned (.tuple #[]) ∧ PlaceAt w.heap.size s n (placeS s n).1 (placeS s n).2 w' ∧ Below w.heap.size w w' := by
  subst hv
  refine each_walk (α := Int × Int) 15 #[.pointer (some ⟨w.heap.size + 1, 0, none⟩), .pointer (some ⟨w.heap.size + 3, 0, none⟩), .pointer (some ⟨w.heap.size, 0, none⟩), .pointer (some ⟨w.heap.size + 2, 0, none⟩)] s _ hs
    (fun (a : Int × Int) W => PlaceAt w.heap.size s n a.1 a.2 W ∧ Below w.heap.size w W) (fun a p => 1 ≤ a.1 ∧ a.1 ≤ p + 1 ∧ 1 ≤ a.2 ∧ a.2 ≤ p + 1) (placeStep s n) (1, 1) (fun _ _ => rfl) ?_ ?_ ?_ ?_ ?_
  · intro a W W' h k
    exact ⟨⟨Keep.one k h.1.hS (by decide), Keep.one k h.1.hA (by decide), Keep.one k h.1.hL (by decide), Keep.one k h.1.hC (by decide)⟩, h.2.trans (k.below.mono (by simp <;> omega))⟩
  · refine ⟨⟨?_, ?_, ?_, ?_⟩, ((((Below.refl _ _).alloc (Nat.le_refl _) _).alloc (by simp) _).alloc (by simp <;> omega) _).alloc (by simp <;> omega) _⟩
    · rw [Lib.alloc_old _ _ _ (by simp <;> omega), Lib.alloc_old _ _ _ (by simp <;> omega), Lib.alloc_old _ _ _ (by simp)]
      exact heap_alloc_new _ _
    · rw [Lib.alloc_old _ _ _ (by simp <;> omega), Lib.alloc_old _ _ _ (by simp)]
      simpa using heap_alloc_new (w.alloc (.cells #[.string s] 9)) (.cells #[.int .i64 n] 3)
    · rw [Lib.alloc_old _ _ _ (by simp)]
      simpa using heap_alloc_new ((w.alloc (.cells #[.string s] 9)).alloc (.cells #[.int .i64 n] 3)) (.cells #[.int .i64 1] 3)
    · simpa using heap_alloc_new (((w.alloc (.cells #[.string s] 9)).alloc (.cells #[.int .i64 n] 3)).alloc (.cells #[.int .i64 1] 3)) (.cells #[.int .i64 1] 3)
  · simp
  · intro a p hp hJ _
    exact placeStep_J s n a p hp hJ
  · intro a p W hp hJ h
    exact (place1_any w.heap.size a s n p W hs hp hJ h.1).mono fun e W' ⟨h1, h2, h3, h4⟩ => ⟨h1, h2, h3, h.2.trans h4⟩

set_option maxHeartbeats 1000000 in
theorem place_any (s : ByteArray) (k : Int) (w : World) (hs : s.size ≤ 1125899906842624) :
    Calls Try.prog 7 #[.string s, .int .i64 k] w fun e w' => e = .returned (.tuple #[.int .i64 (placeS s (clampP s k)).1, .int .i64 (placeS s (clampP s k)).2]) ∧ Below w.heap.size w w' := by
  obtain ⟨n, hn⟩ : ∃ n, n = clampP s k := ⟨_, rfl⟩
  rw [← hn]
  unfold clampP at hn
  by_cases h0 : k < 0
  · have e0 : n = 0 := by omega
    have hE := place_each s n 0 (by omega) w hs
    clear hn e0
    go_enter Try.func7, Try.ntmps7
    go_wp2_with (go_at_call 14; refine Calls.mono hE ?_; rintro e w' ⟨rfl, h1, h2⟩; have c1 := cell_of_one h1.hL; have c2 := cell_of_one h1.hC)
    go_region
    all_goals
      go_wp2
      go_ret2
      exact ⟨rfl, below_drew1 h2⟩
  · by_cases h1 : k ≤ s.size
    · have hE := place_each s n k (by omega) w hs
      have h1' : ¬ (s.size : Int) < k := by omega
      clear hn
      go_enter Try.func7, Try.ntmps7
      go_wp2_with (go_at_call 14; refine Calls.mono hE ?_; rintro e w' ⟨rfl, h1, h2⟩; have c1 := cell_of_one h1.hL; have c2 := cell_of_one h1.hC)
      go_region
      all_goals
        go_wp2
        go_ret2
        exact ⟨rfl, below_drew1 h2⟩
    · have hE := place_each s n s.size (by omega) w hs
      have h1' : (s.size : Int) < k := by omega
      clear hn
      go_enter Try.func7, Try.ntmps7
      go_wp2_with (go_at_call 14; refine Calls.mono hE ?_; rintro e w' ⟨rfl, h1, h2⟩; have c1 := cell_of_one h1.hL; have c2 := cell_of_one h1.hC)
      go_region
      all_goals
        go_wp2
        go_ret2
        exact ⟨rfl, below_drew1 h2⟩

end Go.Proofs.Ytikbomagmedemab
