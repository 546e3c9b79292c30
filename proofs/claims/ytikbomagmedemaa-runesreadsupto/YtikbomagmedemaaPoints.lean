/- Points over eachStep: a text's characters, appended one by one. -/
import Derived.Test.YtikbomagmedemaaPlace
namespace Go.Proofs.Ytikbomagmedemaa
open Go.RowKit

def intsV (xs : List Int) : List Value := xs.map (.int .i64)

theorem Try.infoInt : (Try.prog.info? 3).map (fun i => (i.zero, i.size, i.bytes)) = some (some (.int .i64 0), 1, 8) := by kernel_rfl

theorem owns_keep {B D : Nat} {W W' : World} {v : Value} {n : Nat} {xs : List Value} (h : W.ownsRow B 3 1 v n xs) (k : Keep D W W') : W'.ownsRow B 3 1 v n xs := by
  refine ⟨h.1, ?_⟩
  rcases h.2 with h2 | ⟨g, cap, cur, hv, hg, hh, r⟩
  · exact Or.inl h2
  · exact Or.inr ⟨g, cap, cur, hv, hg, k.cells _ _ _ _ hh (by decide), r⟩

set_option maxHeartbeats 1000000 in
theorem points1_any (B n : Nat) (xs : List Int) (v : Value) (c b e : Int) (W : World) (h : W.heap[B]? = some (.cells #[v] 26 (0, 0))) (ho : W.ownsRow (B + 1) 3 1 v n (intsV xs)) (hn : n + 1 ≤ 17592186044416) :
    Calls Try.prog 28 #[.agg #[.int .i64 c, .int .i64 b, .int .i64 e], .pointer (some ⟨B, 0, none⟩)] W fun z W' => z = .returned (.bool true) ∧ Iters W W' ∧ (∃ v', W'.heap[B]? = some (.cells #[v'] 26 (0, 0)) ∧ W'.ownsRow (B + 1) 3 1 v' (n + 1) (intsV (xs ++ [c]))) ∧ Below B W W' := by
  have cB := cell_of_one h
  have fB := free_of_one h
  have hlt := lt_of_block h
  obtain ⟨i0, hi, hz0, hz1, hz2⟩ := info_parts Try.infoInt
  go_enter Try.func28, Try.ntmps28
  go_wp2_with (at_builtin; refine wpList_append_own _ rfl _ _ 26 rfl (B + 1) 3 i0 (.int .i64 0) 1 8 Try.underlying26 hi hz0 hz1 hz2 rfl (by decide) _ _ _ rfl ((ho.alloc _).alloc _) ⟨W.heap.size + 1, 0, none⟩ 1 1 [.int .i64 c] rfl rfl ?c1 ?c2 ?c3 ?c4 ?c5 ?_)
  case c1 =>
    intro j u hj
    match j, hj with
    | 0, hj => simp at hj; subst hj; simp [Addr.add]
  case c2 => first | rfl | (intro u hu; simp at hu; subst hu; rfl)
  case c3 => unfold maxLen; omega
  case c4 => omega
  case c5 => simp; omega
  intro v' w2 hown' hgrow' _
  have hne : v.ownBlock ≠ some B := by
    intro e1
    rcases ho.2 with ⟨rfl, _⟩ | ⟨g, cap, cur, rfl, hg, _⟩
    · simp [Value.ownBlock] at e1
    · simp [Value.ownBlock] at e1
      omega
  have hB2 : w2.heap[B]? = some (.cells #[v] 26 (0, 0)) := by
    rw [hgrow'.block B (by simp; omega) (fun e1 => hne e1.symm), Lib.alloc_old _ _ _ (by simp; omega), Lib.alloc_old _ _ _ hlt]
    exact h
  have cB2 := cell_of_one hB2
  have fB2 := free_of_one hB2
  have hown2 := hown'
  rcases hown'.2 with ⟨_, h0⟩ | ⟨g', cap', cur', rfl, hg', hh', r'⟩
  · omega
  clear hown'
  go_wp2
  go_ret
  have hIt : Iters W w2 := by
    intro k s pos hk
    have hk2 : ((W.alloc (.cells #[.int .i64 c, .int .i64 b, .int .i64 e] 42)).alloc (.cells #[.int .i64 c] 3)).heap[k]? = some (.stringIter s pos) := (((Iters.refl W).alloc _).alloc _) k s pos hk
    rw [hgrow'.block k (lt_of_block hk2) ?_]
    · exact hk2
    · intro e1
      rcases ho.2 with ⟨rfl, _⟩ | ⟨g, cap, cur, rfl, hg, hh, _⟩
      · simp [Value.ownBlock] at e1
      · simp [Value.ownBlock] at e1
        rw [e1, hh] at hk
        cases hk
  refine ⟨rfl, hIt.setCell (p := ⟨B, 0, none⟩) hB2 _, ⟨_, one_setCell hB2, ?_⟩, ?_⟩
  · have e2 : intsV (xs ++ [c]) = intsV xs ++ [.int .i64 c] := by simp [intsV]
    rw [e2]
    refine ownsRow_setCell_other hown2 ?_ _
    simp [Value.ownBlock]
    omega
  · refine (((((Below.refl B W).alloc (by omega) _).alloc (by simp; omega) _).grown hgrow' (by simp; omega) ?_)).setCell (p := ⟨B, 0, none⟩) (Nat.le_refl _) _
    intro k hk
    rcases ho.2 with ⟨rfl, _⟩ | ⟨g, cap, cur, rfl, hg, hh, _⟩
    · simp [Value.ownBlock] at hk
    · simp [Value.ownBlock] at hk
      omega

/-! ### Points -/
def pointsStep (s : ByteArray) (a : List Int) (p : Nat) : List Int × Bool := (a ++ [stC s p], true)
def pointsS (s : ByteArray) : List Int := walk s (pointsStep s) 0 []

set_option maxHeartbeats 400000 in
theorem points_no (s : ByteArray) (w : World) (hs : s.size ≤ 1125899906842624) (h : validS s = false) :
    Calls Try.prog 15 #[.string s] w fun e w' => e = .returned (.tuple #[.slice none 0 0, .bool false]) ∧ Below w.heap.size w w' := by
  go_enter Try.func15, Try.ntmps15
  go_wp2_with (go_at_call 12; refine (valid_any _ _ hs).mono ?_; rintro e w1 ⟨rfl, hb⟩)
  go_ret2
  exact ⟨rfl, hb⟩

set_option maxHeartbeats 400000 in
theorem points_yes (s : ByteArray) (w : World) (hs : s.size ≤ 1099511627776) (h : validS s = true) :
    Calls Try.prog 15 #[.string s] w fun e w' => ∃ v, e = .returned (.tuple #[v, .bool true]) ∧ w'.ownsRow w.heap.size 3 1 v (pointsS s).length (intsV (pointsS s)) ∧ Below w.heap.size w w' := by
  have hE := fun w1 : World => each_walk (α := List Int) 28 #[.pointer (some ⟨w1.heap.size, 0, none⟩)] s (w1.alloc (.cells #[.slice none 0 0] 26)) (by omega)
    (fun (a : List Int) W => (∃ v, W.heap[w1.heap.size]? = some (.cells #[v] 26 (0, 0)) ∧ W.ownsRow (w1.heap.size + 1) 3 1 v a.length (intsV a)) ∧ Below w1.heap.size w1 W) (fun a p => a.length ≤ p) (pointsStep s) [] (fun _ _ => rfl)
    (fun a W W' ⟨⟨v, h1, h2⟩, h3⟩ k => ⟨⟨v, Keep.one k h1 (by decide), owns_keep h2 k⟩, h3.trans (k.below.mono (by simp))⟩)
    ⟨⟨_, heap_alloc_new _ _, ⟨by simp [intsV], Or.inl ⟨rfl, rfl⟩⟩⟩, (Below.refl _ _).alloc (Nat.le_refl _) _⟩ (Nat.le_refl _)
    (fun a p hp hJ _ => by have := dec_w s p hp; simp [pointsStep]; omega)
    (fun a p W hp hJ ⟨⟨v, h1, h2⟩, h3⟩ => (points1_any w1.heap.size a.length a v _ _ _ W h1 h2 (by omega)).mono fun e W' ⟨g1, g2, ⟨v', g3, g4⟩, g5⟩ => ⟨g1, g2, ⟨⟨v', g3, by simpa [pointsStep] using g4⟩, h3.trans g5⟩⟩)
  go_enter Try.func15, Try.ntmps15
  go_wp2_with (first | (go_at_call 12; refine (valid_any _ _ (by omega)).mono ?_; rintro e w1 ⟨rfl, hb⟩) | (go_at_call 23; refine Calls.mono (hE _) ?_; rintro e w2 ⟨rfl, ⟨v, h1, h2⟩, h3⟩; have c1 := cell_of_one h1))
  go_ret2
  refine ⟨v, rfl, ⟨h2.1, ?_⟩, hb.trans (h3.mono hb.size)⟩
  rcases h2.2 with h2 | ⟨g, cap, cur, g1, g2, g3⟩
  · exact Or.inl h2
  · exact Or.inr ⟨g, cap, cur, g1, by have := hb.size; omega, g3⟩

end Go.Proofs.Ytikbomagmedemaa
