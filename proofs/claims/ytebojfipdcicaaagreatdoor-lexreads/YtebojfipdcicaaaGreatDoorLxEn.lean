/- Where a document is wrong; a document behind another one: the law's own walk. -/
import Derived.Test.YtebojfipdcicaaaGreatDoorLxIg
import Derived.Laws.AppendOwnNone
namespace Go.Proofs.YtebojfipdcicaaaGreatDoor
open Go Go.RowKit

theorem own_geT {w : World} {B e sz n : Nat} {v : Value} {xs : List Value} (h : w.ownsRow B e sz v n xs) : ∀ k, v.ownBlock = some k → B ≤ k := by
  intro k hk
  rcases h.2 with ⟨rfl, _⟩ | ⟨g, cap, cur, rfl, hg, _⟩
  · simp [Value.ownBlock] at hk
  · simp [Value.ownBlock] at hk
    omega
theorem cellsT_len (ps : List Tok) : (cellsT ps).length = ps.length * 4 := by
  induction ps with
  | nil => rfl
  | cons p ps ih =>
    have e : cellsT (p :: ps) = [.int .i64 p.k, .string ⟨p.t.toArray⟩, .int .i64 (p.b : Int), .int .i64 (p.e : Int)] ++ cellsT ps := by simp [cellsT]
    rw [e, List.length_append, ih]
    simp
    omega
theorem cellsT_app (ps qs : List Tok) : cellsT (ps ++ qs) = cellsT ps ++ cellsT qs := by simp [cellsT]
theorem cellsT_one (ps : List Tok) : ∀ u ∈ cellsT ps, u.oneCell' = true := by
  intro u hu
  obtain ⟨p, _, hp⟩ := List.mem_flatMap.1 hu
  simp at hp
  rcases hp with rfl | rfl | rfl | rfl <;> rfl
theorem cellsT_all {w : World} {b o : Nat} {ps : List Tok} (h : ∀ (i : Nat) (t : Tok), ps[i]? = some t → w.cell? ⟨b, o + i * 4, none⟩ = some (.int .i64 t.k) ∧ w.cell? ⟨b, o + i * 4 + 1, none⟩ = some (.string ⟨t.t.toArray⟩) ∧ w.cell? ⟨b, o + i * 4 + 2, none⟩ = some (.int .i64 (t.b : Int)) ∧ w.cell? ⟨b, o + i * 4 + 3, none⟩ = some (.int .i64 (t.e : Int))) :
    ∀ j u, (cellsT ps)[j]? = some u → w.cell? ((⟨b, o, none⟩ : Addr).add j) = some u := by
  intro j u hj
  have hjl : j < ps.length * 4 := by
    rw [← cellsT_len]; exact (List.getElem?_eq_some_iff.1 hj).1
  have hi : j / 4 < ps.length := by omega
  obtain ⟨c0, c1, c2, c3⟩ := cellsT_at ps (j / 4) ps[j / 4] (List.getElem?_eq_getElem hi)
  obtain ⟨d0, d1, d2, d3⟩ := h (j / 4) ps[j / 4] (List.getElem?_eq_getElem hi)
  rw [Nat.mul_comm] at c0 c1 c2 c3
  rw [Addr.add_lit]
  rcases (by omega : j = j / 4 * 4 ∨ j = j / 4 * 4 + 1 ∨ j = j / 4 * 4 + 2 ∨ j = j / 4 * 4 + 3) with e | e | e | e
  · rw [e, c0] at hj; rw [e]; cases hj; exact d0
  · rw [e, c1] at hj; rw [e, ← Nat.add_assoc]; cases hj; exact d1
  · rw [e, c2] at hj; rw [e, ← Nat.add_assoc]; cases hj; exact d2
  · rw [e, c3] at hj; rw [e, ← Nat.add_assoc]; cases hj; exact d3
/-- An append of tokens to tokens that the call owns, in a guarded place. -/
theorem wpG_app_toks {w : World} {ops : Array Oper} {rest : List Oper} {o : Oper} {a : Act} {Q : Exit → Act → World → Prop} (hgd : Region.wanted o (yielded ops a.tmps) = true) (s x : Operand)
    (ho : o.op = .call { callee := .builtin .append, args := #[s, x], argTypes := #[22, 22] })
    (B C : Nat) (v u : Value) (ps qs : List Tok) (hs : a.eval s = v) (hx : a.eval x = u) (hown : Toks w B v ps) (hq : Toks w C u qs) (hB : B ≤ w.heap.size) (hl : ps.length + qs.length ≤ 3000000)
    (h : ∀ v' w', Toks w' B v' (ps ++ qs) → w.grownBy w' v.ownBlock → wpList Tryz.prog ops Q rest (a.put o.dst v') w') : wpList Tryz.prog ops Q (o :: rest) a w := by
  refine wpList_step fun K hK => ?_
  rw [if_pos hgd]
  obtain ⟨i1, hi1, hy0, hy1, hy2⟩ := info_parts Tryz.infoTok
  have hq2 := toksAt_own hq
  rcases hq.2 with ⟨rfl, h0⟩ | ⟨g, cap, cur, rfl, _⟩
  · obtain rfl : qs = [] := List.eq_nil_of_length_eq_zero h0
    have hrun := run_append_owned_none (P := Tryz.prog) (w := w) B 22 o.type 28 i1 4 Tryz.underlying22 hi1 v ps.length (cellsT ps) hown
    unfold Oper.wp
    simp [execOp, ho, resolve, invoke, builtin, hs, hx, hrun, Result.andThen]
    exact hK _ _ (h v w (by rw [List.append_nil]; exact hown) ⟨rfl, rfl, rfl, Nat.le_refl _, fun _ _ _ => rfl⟩)
  · obtain ⟨a0, cap', e, hc, hcells⟩ := hq2
    injection e with e1 e2 e3
    subst e1 e3
    have hnews : ∀ j u, (cellsT qs)[j]? = some u → w.cell? ((⟨g, 0, none⟩ : Addr).add j) = some u := by
      by_cases hne : qs = []
      · subst hne; intro j u hj; simp [cellsT] at hj
      · obtain ⟨b, o', e, _, hcc⟩ := hcells hne
        cases e
        exact cellsT_all hcc
    obtain ⟨v', w', hrun, r1, r2, _⟩ := run_append_own (P := Tryz.prog) w B 22 o.type 28 i1 _ 4 40 Tryz.underlying22 hi1 hy0 hy1 hy2 rfl (by decide) v ps.length (cellsT ps) hown ⟨g, 0, none⟩ qs.length cap (cellsT qs) (cellsT_len qs) hnews (cellsT_one qs) (by unfold maxLen; omega) (by omega) hB
    unfold Oper.wp
    simp [execOp, ho, resolve, invoke, builtin, hs, hx, hrun, Result.andThen]
    refine hK _ _ (h v' w' ?_ r2)
    unfold Toks
    rw [cellsT_app, List.length_append]
    exact r1
theorem owns_emptyT (w : World) : Toks (w.alloc (.cells #[] 28)) w.heap.size (.slice (some ⟨w.heap.size, 0, none⟩) 0 0) [] :=
  ⟨rfl, Or.inr ⟨w.heap.size, 0, #[], rfl, Nat.le_refl _, heap_alloc_new _ _, Nat.le_refl _, Nat.zero_le _, rfl, rfl⟩⟩
/-- What a document's tokens come to, as far as it is looked at. -/
def SomeT (w : World) (n : Nat) (x : Int) (e : Ending) (w' : World) : Prop := (∃ a c b, e = .returned (.tuple #[.slice a n c, .int .i64 b, .int .i64 x])) ∧ Below w.heap.size w w'
theorem some_ok {s : Bs} {ts : List Tok} (h : lexS s = .inr ts) (w : World) (gl : Gl w) : Calls Tryz.prog 10 #[.string ⟨s.toArray⟩] w (SomeT w ts.length 0) := by
  have T := tokens_any s w gl
  rw [h] at T
  refine T.mono ?_
  rintro e w' ⟨⟨v, rfl, ht⟩, hb⟩
  obtain ⟨a, c, rfl⟩ := toks_sl ht
  exact ⟨⟨a, c, 0, rfl⟩, hb⟩
theorem some_bad {s : Bs} {b : Nat} {x : Int} (h : lexS s = .inl (b, x)) (w : World) (gl : Gl w) : Calls Tryz.prog 10 #[.string ⟨s.toArray⟩] w (SomeT w 0 x) := by
  have T := tokens_any s w gl
  rw [h] at T
  refine T.mono ?_
  rintro e w' ⟨rfl, hb⟩
  exact ⟨⟨_, _, _, rfl⟩, hb⟩

set_option maxRecDepth 100000 in
set_option maxHeartbeats 2000000 in
theorem ends_long (D E : ByteArray) (n : Nat) (x : Int) (T : ∀ w, Gl w → Calls Tryz.prog 10 #[.string D] w fun e w' => e = .returned (.tuple #[.slice none 0 0, .int .i64 0, .int .i64 54]) ∧ Below w.heap.size w w')
    (U : ∀ w, Gl w → Calls Tryz.prog 10 #[.string E] w (SomeT w n x)) (w : World) (gl : Gl w) (hz : Tz w) :
    Calls Tryz.prog 8 #[.string D, .string E] w fun e w' => e = .returned (.bool true) ∧ Below w.heap.size w w' := by
  have ok : Ok w w := ⟨Below.refl _ _, gl, hz⟩
  clear gl hz
  go_enter Tryz.func8, Tryz.ntmps8
  go_wp2_with (first
    | (go_at_call 12; refine (fixed_any _ ok2.gl ok2.tz).mono ?_; rintro e w3 ⟨rfl, hb3⟩; have ok3 := ok2.go hb3)
    | (go_at_call 10; refine (U _ ok1.gl).mono ?_; rintro e w2 ⟨⟨a2, c2, b2, rfl⟩, hb2⟩; have ok2 := ok1.go hb2)
    | (go_at_call 10; refine (T _ ok.gl).mono ?_; rintro e w1 ⟨rfl, hb1⟩; have ok1 := ok.go hb1)
    | fail)
  go_ret
  exact ⟨rfl, ok3.bel⟩

set_option maxRecDepth 100000 in
set_option maxHeartbeats 2000000 in
theorem ends_wrong (D E X : ByteArray) (N b m n : Nat) (x y : Int) (hD : D.size = N) (hb : b ≤ N) (hx0 : x ≠ 0) (hx1 : x ≠ 54) (hX : D.extract 0 b = X) (T : ∀ w, Gl w → Calls Tryz.prog 10 #[.string D] w fun e w' => e = .returned (.tuple #[.slice none 0 0, .int .i64 (b : Int), .int .i64 x]) ∧ Below w.heap.size w w')
    (U : ∀ w, Gl w → Calls Tryz.prog 10 #[.string E] w (SomeT w n y)) (V : ∀ w, Gl w → Calls Tryz.prog 10 #[.string X] w (SomeT w m 0)) (w : World) (gl : Gl w) (hz : Tz w) :
    Calls Tryz.prog 8 #[.string D, .string E] w fun e w' => e = .returned (.bool true) ∧ Below w.heap.size w w' := by
  have ok : Ok w w := ⟨Below.refl _ _, gl, hz⟩
  have x1 : (x == 0) = false := by simpa using hx0
  have x2 : (x == 54) = false := by simpa using hx1
  have f1 : ¬ ((b : Int) < 0) := by omega
  have f2 : ¬ ((N : Int) < (b : Int)) := by omega
  have f3 : (b : Int) ≤ (N : Int) := by omega
  clear gl hz
  go_enter Tryz.func8, Tryz.ntmps8
  go_wp2_with (first
    | (go_at_call 10; refine (V _ ok3.gl).mono ?_; rintro e w4 ⟨⟨a4, c4, b4, rfl⟩, hb4⟩; have ok4 := ok3.go hb4)
    | (go_at_call 12; refine (fixed_any _ ok2.gl ok2.tz).mono ?_; rintro e w3 ⟨rfl, hb3⟩; have ok3 := ok2.go hb3)
    | (go_at_call 10; refine (U _ ok1.gl).mono ?_; rintro e w2 ⟨⟨a2, c2, b2, rfl⟩, hb2⟩; have ok2 := ok1.go hb2)
    | (go_at_call 10; refine (T _ ok.gl).mono ?_; rintro e w1 ⟨rfl, hb1⟩; have ok1 := ok.go hb1)
    | fail)
  go_ret
  exact ⟨by first | rfl | simp, ok4.bel⟩

/-- A document that is right, as far as it is looked at. -/
def SomeZ (w : World) (n : Nat) (e : Ending) (w' : World) : Prop := (∃ a c, e = .returned (.tuple #[.slice a n c, .int .i64 0, .int .i64 0])) ∧ Below w.heap.size w w'
theorem some_z {s : Bs} {ts : List Tok} (h : lexS s = .inr ts) (w : World) (gl : Gl w) : Calls Tryz.prog 10 #[.string ⟨s.toArray⟩] w (SomeZ w ts.length) := by
  have T := tokens_any s w gl
  rw [h] at T
  refine T.mono ?_
  rintro e w' ⟨⟨v, rfl, ht⟩, hb⟩
  obtain ⟨a, c, rfl⟩ := toks_sl ht
  exact ⟨⟨a, c, rfl⟩, hb⟩

set_option maxRecDepth 100000 in
set_option maxHeartbeats 4000000 in
theorem ends_more (D E TT : ByteArray) (N M n m k : Nat) (y z : Int) (hD : D.size = N) (hE : E.size = M) (hN : N ≤ 16384) (hM : M ≤ 140737488351232) (hn : n ≤ 2048) (hm : m ≤ 2048) (hT : D ++ ⟨#[10]⟩ ++ E = TT)
    (hq : y ≠ 0 ∨ (y = 0 ∧ 2048 < n + m) ∨ (y = 0 ∧ n + m ≤ 2048 ∧ 16384 < N + M + 1)) (hr : z ≠ 0 ∨ (z = 0 ∧ n ≤ k)) (hk : k ≤ 2048)
    (T : ∀ w, Gl w → Calls Tryz.prog 10 #[.string D] w (SomeZ w n)) (U : ∀ w, Gl w → Calls Tryz.prog 10 #[.string E] w (SomeT w m y)) (V : ∀ w, Gl w → Calls Tryz.prog 10 #[.string TT] w (SomeT w k z)) (w : World) (gl : Gl w) (hz : Tz w) :
    Calls Tryz.prog 8 #[.string D, .string E] w fun e w' => e = .returned (.bool true) ∧ Below w.heap.size w w' := by
  have ok : Ok w w := ⟨Below.refl _ _, gl, hz⟩
  have s1 : (ByteArray.mk #[10]).size = 1 := rfl
  clear gl hz
  rcases hq with h1 | ⟨rfl, h1⟩ | ⟨rfl, h1, h2⟩
  · have x1 : (y == 0) = false := by simpa using h1
    rcases hr with h3 | ⟨rfl, h3⟩
    · have x2 : (z == 0) = false := by simpa using h3
      go_enter Tryz.func8, Tryz.ntmps8
      go_wp2_with (first
        | (go_at_call 10; refine (V _ ok3.gl).mono ?_; rintro e w4 ⟨⟨a4, c4, b4, rfl⟩, hb4⟩; have ok4 := ok3.go hb4)
        | (go_at_call 12; refine (fixed_any _ ok2.gl ok2.tz).mono ?_; rintro e w3 ⟨rfl, hb3⟩; have ok3 := ok2.go hb3)
        | (go_at_call 10; refine (U _ ok1.gl).mono ?_; rintro e w2 ⟨⟨a2, c2, b2, rfl⟩, hb2⟩; have ok2 := ok1.go hb2)
        | (go_at_call 10; refine (T _ ok.gl).mono ?_; rintro e w1 ⟨⟨a1, c1, rfl⟩, hb1⟩; have ok1 := ok.go hb1)
        | fail)
      go_ret
      exact ⟨by first | rfl | simp, ok4.bel⟩
    · have x3 : (n : Int) ≤ (k : Int) := by omega
      go_enter Tryz.func8, Tryz.ntmps8
      go_wp2_with (first
        | (go_at_call 10; refine (V _ ok3.gl).mono ?_; rintro e w4 ⟨⟨a4, c4, b4, rfl⟩, hb4⟩; have ok4 := ok3.go hb4)
        | (go_at_call 12; refine (fixed_any _ ok2.gl ok2.tz).mono ?_; rintro e w3 ⟨rfl, hb3⟩; have ok3 := ok2.go hb3)
        | (go_at_call 10; refine (U _ ok1.gl).mono ?_; rintro e w2 ⟨⟨a2, c2, b2, rfl⟩, hb2⟩; have ok2 := ok1.go hb2)
        | (go_at_call 10; refine (T _ ok.gl).mono ?_; rintro e w1 ⟨⟨a1, c1, rfl⟩, hb1⟩; have ok1 := ok.go hb1)
        | fail)
      go_ret
      exact ⟨by first | rfl | simp, ok4.bel⟩
  · have x1 : (2048 : Int) < (n : Int) + (m : Int) := by omega
    rcases hr with h3 | ⟨rfl, h3⟩
    · have x2 : (z == 0) = false := by simpa using h3
      go_enter Tryz.func8, Tryz.ntmps8
      go_wp2_with (first
        | (go_at_call 10; refine (V _ ok3.gl).mono ?_; rintro e w4 ⟨⟨a4, c4, b4, rfl⟩, hb4⟩; have ok4 := ok3.go hb4)
        | (go_at_call 12; refine (fixed_any _ ok2.gl ok2.tz).mono ?_; rintro e w3 ⟨rfl, hb3⟩; have ok3 := ok2.go hb3)
        | (go_at_call 10; refine (U _ ok1.gl).mono ?_; rintro e w2 ⟨⟨a2, c2, b2, rfl⟩, hb2⟩; have ok2 := ok1.go hb2)
        | (go_at_call 10; refine (T _ ok.gl).mono ?_; rintro e w1 ⟨⟨a1, c1, rfl⟩, hb1⟩; have ok1 := ok.go hb1)
        | fail)
      go_ret
      exact ⟨by first | rfl | simp, ok4.bel⟩
    · have x3 : (n : Int) ≤ (k : Int) := by omega
      go_enter Tryz.func8, Tryz.ntmps8
      go_wp2_with (first
        | (go_at_call 10; refine (V _ ok3.gl).mono ?_; rintro e w4 ⟨⟨a4, c4, b4, rfl⟩, hb4⟩; have ok4 := ok3.go hb4)
        | (go_at_call 12; refine (fixed_any _ ok2.gl ok2.tz).mono ?_; rintro e w3 ⟨rfl, hb3⟩; have ok3 := ok2.go hb3)
        | (go_at_call 10; refine (U _ ok1.gl).mono ?_; rintro e w2 ⟨⟨a2, c2, b2, rfl⟩, hb2⟩; have ok2 := ok1.go hb2)
        | (go_at_call 10; refine (T _ ok.gl).mono ?_; rintro e w1 ⟨⟨a1, c1, rfl⟩, hb1⟩; have ok1 := ok.go hb1)
        | fail)
      go_ret
      exact ⟨by first | rfl | simp, ok4.bel⟩
  · have x1 : ¬ (2048 : Int) < (n : Int) + (m : Int) := by omega
    have x4 : (16384 : Int) < (N : Int) + (M : Int) + 1 := by omega
    rcases hr with h3 | ⟨rfl, h3⟩
    · have x2 : (z == 0) = false := by simpa using h3
      go_enter Tryz.func8, Tryz.ntmps8
      go_wp2_with (first
        | (go_at_call 10; refine (V _ ok3.gl).mono ?_; rintro e w4 ⟨⟨a4, c4, b4, rfl⟩, hb4⟩; have ok4 := ok3.go hb4)
        | (go_at_call 12; refine (fixed_any _ ok2.gl ok2.tz).mono ?_; rintro e w3 ⟨rfl, hb3⟩; have ok3 := ok2.go hb3)
        | (go_at_call 10; refine (U _ ok1.gl).mono ?_; rintro e w2 ⟨⟨a2, c2, b2, rfl⟩, hb2⟩; have ok2 := ok1.go hb2)
        | (go_at_call 10; refine (T _ ok.gl).mono ?_; rintro e w1 ⟨⟨a1, c1, rfl⟩, hb1⟩; have ok1 := ok.go hb1)
        | fail)
      go_ret
      exact ⟨by first | rfl | simp, ok4.bel⟩
    · have x3 : (n : Int) ≤ (k : Int) := by omega
      go_enter Tryz.func8, Tryz.ntmps8
      go_wp2_with (first
        | (go_at_call 10; refine (V _ ok3.gl).mono ?_; rintro e w4 ⟨⟨a4, c4, b4, rfl⟩, hb4⟩; have ok4 := ok3.go hb4)
        | (go_at_call 12; refine (fixed_any _ ok2.gl ok2.tz).mono ?_; rintro e w3 ⟨rfl, hb3⟩; have ok3 := ok2.go hb3)
        | (go_at_call 10; refine (U _ ok1.gl).mono ?_; rintro e w2 ⟨⟨a2, c2, b2, rfl⟩, hb2⟩; have ok2 := ok1.go hb2)
        | (go_at_call 10; refine (T _ ok.gl).mono ?_; rintro e w1 ⟨⟨a1, c1, rfl⟩, hb1⟩; have ok1 := ok.go hb1)
        | fail)
      go_ret
      exact ⟨by first | rfl | simp, ok4.bel⟩
end Go.Proofs.YtebojfipdcicaaaGreatDoor
