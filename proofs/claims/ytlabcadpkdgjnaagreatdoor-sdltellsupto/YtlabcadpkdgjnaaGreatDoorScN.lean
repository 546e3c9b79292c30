/- Names: which texts are the only token of their kind. -/
import Derived.Test.YtlabcadpkdgjnaaGreatDoorLxG5
import Derived.Deep.AppendLies
namespace Go.Proofs.YtlabcadpkdgjnaaGreatDoor
open Go Go.RowKit Go.Shelf
theorem cell_on {w w' : World} (hb : Below w.heap.size w w') {k i : Nat} {v : Value} (h : w.cell? ⟨k, i, none⟩ = some v) : w'.cell? ⟨k, i, none⟩ = some v := (hb.cell (p := ⟨k, i, none⟩) (World.block_lt_of_cell? w _ h)).trans h
theorem al1 (w : World) (o : Obj) : Below w.heap.size w (w.alloc o) := (Below.refl _ _).alloc (Nat.le_refl _) _
theorem bytes_eq (x y : Bs) : ((ByteArray.mk x.toArray).toList == (ByteArray.mk y.toArray).toList) = (x == y) := by simp [ByteArray.toList_eq]
theorem row1 {w1 : World} {X : Nat} {v0 : Value} {E : TypeId} (hb : w1.heap[X]? = some (.cells #[v0] E (0, 0))) : w1.cell? ⟨X, 0, none⟩ = some v0 ∧ ∀ j, w1.frozen? ⟨X, j, none⟩ = false :=
  ⟨by simp [World.cell?, hb], fun j => frozen_of_row w1 _ j _ _ hb⟩
theorem row2 {w1 : World} {X : Nat} {v0 v1 : Value} {E : TypeId} (hb : w1.heap[X]? = some (.cells #[v0, v1] E (0, 0))) : w1.cell? ⟨X, 0, none⟩ = some v0 ∧ w1.cell? ⟨X, 1, none⟩ = some v1 ∧ ∀ j, w1.frozen? ⟨X, j, none⟩ = false :=
  ⟨by simp [World.cell?, hb], by simp [World.cell?, hb], fun j => frozen_of_row w1 _ j _ _ hb⟩
theorem row4 {w1 : World} {X : Nat} {v0 v1 v2 v3 : Value} {E : TypeId} (hb : w1.heap[X]? = some (.cells #[v0, v1, v2, v3] E (0, 0))) : w1.cell? ⟨X, 0, none⟩ = some v0 ∧ w1.cell? ⟨X, 1, none⟩ = some v1 ∧ w1.cell? ⟨X, 2, none⟩ = some v2 ∧ w1.cell? ⟨X, 3, none⟩ = some v3 ∧ ∀ j, w1.frozen? ⟨X, j, none⟩ = false :=
  ⟨by simp [World.cell?, hb], by simp [World.cell?, hb], by simp [World.cell?, hb], by simp [World.cell?, hb], fun j => frozen_of_row w1 _ j _ _ hb⟩
theorem row5 {w1 : World} {X : Nat} {v0 v1 v2 v3 v4 : Value} {E : TypeId} (hb : w1.heap[X]? = some (.cells #[v0, v1, v2, v3, v4] E (0, 0))) : w1.cell? ⟨X, 0, none⟩ = some v0 ∧ w1.cell? ⟨X, 1, none⟩ = some v1 ∧ w1.cell? ⟨X, 2, none⟩ = some v2 ∧ w1.cell? ⟨X, 3, none⟩ = some v3 ∧ w1.cell? ⟨X, 4, none⟩ = some v4 ∧ ∀ j, w1.frozen? ⟨X, j, none⟩ = false :=
  ⟨by simp [World.cell?, hb], by simp [World.cell?, hb], by simp [World.cell?, hb], by simp [World.cell?, hb], by simp [World.cell?, hb], fun j => frozen_of_row w1 _ j _ _ hb⟩
theorem row7 {w1 : World} {X : Nat} {v0 v1 v2 v3 v4 v5 v6 : Value} {E : TypeId} (hb : w1.heap[X]? = some (.cells #[v0, v1, v2, v3, v4, v5, v6] E (0, 0))) : w1.cell? ⟨X, 0, none⟩ = some v0 ∧ w1.cell? ⟨X, 1, none⟩ = some v1 ∧ w1.cell? ⟨X, 2, none⟩ = some v2 ∧ w1.cell? ⟨X, 3, none⟩ = some v3 ∧ w1.cell? ⟨X, 4, none⟩ = some v4 ∧ w1.cell? ⟨X, 5, none⟩ = some v5 ∧ w1.cell? ⟨X, 6, none⟩ = some v6 ∧ ∀ j, w1.frozen? ⟨X, j, none⟩ = false :=
  ⟨by simp [World.cell?, hb], by simp [World.cell?, hb], by simp [World.cell?, hb], by simp [World.cell?, hb], by simp [World.cell?, hb], by simp [World.cell?, hb], by simp [World.cell?, hb], fun j => frozen_of_row w1 _ j _ _ hb⟩
theorem ahead_ne {l r : Bs} (h : r.length < l.length) : ahead l r ≠ [] := by
  intro e
  have := congrArg List.length e
  unfold ahead at this
  rw [List.length_take] at this
  simp at this
  omega
theorem wrt_ok {k k' : Int} {l r t r' : Bs} (h : wrt k l r = .ok k' t r') : k = k' ∧ t = ahead l r ∧ r = r' := by
  unfold wrt at h
  injection h with h1 h2 h3
  exact ⟨h1, h2.symm, h3⟩
theorem numS_kind {l : Bs} {p : Int × Bs} (h : numS l = some p) : p.1 ≠ 0 := by
  unfold numS at h
  obtain ⟨l1, _, h⟩ := Option.bind_eq_some_iff.1 h
  obtain ⟨q, hq, h⟩ := Option.bind_eq_some_iff.1 h
  obtain ⟨u, hu, h⟩ := Option.bind_eq_some_iff.1 h
  have hq1 : q.1 ≠ 0 := by
    unfold numB at hq
    split at hq
    · obtain ⟨z, _, hz⟩ := Option.map_eq_some_iff.1 hq
      rw [← hz]; simp
    · injection hq with hq; rw [← hq]; simp
  have hu1 : u.1 ≠ 0 := by
    unfold numC at hu
    split at hu
    · obtain ⟨z, _, hz⟩ := Option.map_eq_some_iff.1 hu
      rw [← hz]; simp
    · injection hu with hu; rw [← hu]; exact hq1
  unfold numD at h
  split at h
  · cases h
  · injection h with h; rw [← h]; exact hu1
theorem tokS_text {x : UInt8} {l t r : Bs} {k : Int} (h : tokS (x :: l) = .ok k t r) : ¬ (k = 0 ∧ t = []) := by
  have hf := (tokS_facts h).2
  rintro ⟨rfl, rfl⟩
  unfold tokS at h
  split at h
  · obtain ⟨_, e, rfl⟩ := wrt_ok h
    exact ahead_ne hf e.symm
  split at h
  · obtain ⟨_, e, rfl⟩ := wrt_ok h
    exact ahead_ne hf e.symm
  split at h
  · obtain ⟨e, _⟩ := wrt_ok h
    cases e
  split at h
  · cases hn : numS (x :: l) with
    | none => rw [hn] at h; cases h
    | some p =>
      rw [hn] at h
      obtain ⟨e, _⟩ := wrt_ok h
      exact numS_kind hn e
  split at h
  · cases hn : textS (x :: l) with
    | none => rw [hn] at h; cases h
    | some p => rw [hn] at h; cases h
  · cases h
theorem lexF_full (N : Nat) : ∀ (n c : Nat) (l : Bs) (ts : List Tok), c ≤ 2048 → lexF N n c l = .inr ts → ts.length + c ≤ 2048 ∧ ∀ t ∈ ts, ¬ (t.k = 0 ∧ t.t = [])
  | 0, c, l, ts, hc, h => by
    cases h
    exact ⟨by simpa using hc, by simp⟩
  | n + 1, c, l, ts, hc, h => by
    unfold lexF at h
    cases hs : skipS l with
    | inr k => rw [hs] at h; cases h
    | inl q =>
      rw [hs] at h
      cases q with
      | nil => cases h; exact ⟨by simpa using hc, by simp⟩
      | cons x l1 =>
        simp only at h
        by_cases h2 : c = 2048
        · rw [if_pos h2] at h; cases h
        · rw [if_neg h2] at h
          cases ht : tokS (x :: l1) with
          | bad e => rw [ht] at h; cases h
          | ok k t r =>
            rw [ht] at h
            simp only at h
            cases hr : lexF N n (c + 1) r with
            | inl p => rw [hr] at h; cases h
            | inr us =>
              rw [hr] at h
              injection h with h
              subst h
              obtain ⟨i1, i2⟩ := lexF_full N n (c + 1) r us (by omega) hr
              refine ⟨by simp; omega, ?_⟩
              intro u hu
              rcases List.mem_cons.1 hu with rfl | hu
              · exact tokS_text ht
              · exact i2 u hu
theorem lexS_full {s : Bs} {ts : List Tok} (h : lexS s = .inr ts) : ts.length ≤ 2048 ∧ s.length ≤ 16384 ∧ ∀ t ∈ ts, ¬ (t.k = 0 ∧ t.t = []) := by
  unfold lexS at h
  split at h
  · cases h
  · obtain ⟨h1, h2⟩ := lexF_full _ _ 0 _ _ (by omega) h
    exact ⟨by omega, by omega, h2⟩
theorem own_slice {w : World} {B E sz n : Nat} {v : Value} {xs : List Value} (h : w.ownsRow B E sz v n xs) : ∃ o c, v = .slice o n c := by
  rcases h.2 with ⟨h1, h2⟩ | ⟨q, cp, cu, hv, _⟩
  · exact ⟨none, 0, by rw [h1, h2]⟩
  · exact ⟨_, _, hv⟩
theorem tokS_bad {l : Bs} {e : Int} (h : tokS l = .bad e) : e ≠ 0 := by
  unfold tokS at h
  split at h
  · cases h
  split at h
  · cases h
  split at h
  · cases h
  split at h
  · cases hn : numS l with
    | none => rw [hn] at h; cases h; simp
    | some p => rw [hn] at h; cases h
  split at h
  · cases hn : textS l with
    | none => rw [hn] at h; cases h; simp
    | some p => rw [hn] at h; cases h
  · cases h; simp
theorem lexF_bad (N : Nat) : ∀ (n c : Nat) (l : Bs) (p : Nat × Int), lexF N n c l = .inl p → p.2 ≠ 0
  | 0, c, l, p, h => by cases h
  | n + 1, c, l, p, h => by
    unfold lexF at h
    cases hs : skipS l with
    | inr k => rw [hs] at h; cases h; simp
    | inl q =>
      rw [hs] at h
      cases q with
      | nil => cases h
      | cons x l1 =>
        simp only at h
        by_cases h2 : c = 2048
        · rw [if_pos h2] at h; cases h; simp
        · rw [if_neg h2] at h
          cases ht : tokS (x :: l1) with
          | bad e => rw [ht] at h; cases h; exact tokS_bad ht
          | ok k t r =>
            rw [ht] at h
            simp only at h
            cases hr : lexF N n (c + 1) r with
            | inl p' => rw [hr] at h; cases h; exact lexF_bad N n (c + 1) r _ hr
            | inr us => rw [hr] at h; cases h
theorem lexS_bad {s : Bs} {p : Nat × Int} (h : lexS s = .inl p) : p.2 ≠ 0 := by
  unfold lexS at h
  split at h
  · cases h; simp
  · exact lexF_bad _ _ _ _ _ h
/-- The kind of the only token that a text is. -/
def oneK (s : Bs) : Int := match lexS s with
  | .inr [t] => if (t.e : Int) - (t.b : Int) = (s.length : Int) then t.k else -1
  | _ => -1
def nameK (s : Bs) : Bool := oneK s == 1
theorem below_drewN {B : Nat} {w w1 : World} (h : Below B w w1) (n : Nat) : Below B w (w1.drewN n) := ⟨h.os, h.tape, h.output, h.size, h.block⟩
theorem one_cells {W : World} {B : Nat} {v : Value} {t : Tok} (h : Toks W B v [t]) : ∃ q lc, v = .slice (some ⟨q, 0, none⟩) 1 lc ∧ W.cell? ⟨q, 0, none⟩ = some (.int .i64 t.k) ∧ W.cell? ⟨q, 2, none⟩ = some (.int .i64 (t.b : Int)) ∧ W.cell? ⟨q, 3, none⟩ = some (.int .i64 (t.e : Int)) := by
  obtain ⟨q, cp, rfl, _, _⟩ := World.ownsRow.form h (by simp)
  exact ⟨q, cp, rfl, by rw [World.ownsRow.cellAt h 0 (by simp)]; rfl, by rw [World.ownsRow.cellAt h 2 (by simp)]; rfl, by rw [World.ownsRow.cellAt h 3 (by simp)]; rfl⟩
theorem lexF_ends (N : Nat) : ∀ (n c : Nat) (l : Bs) (ts : List Tok), lexF N n c l = .inr ts → ∀ t ∈ ts, t.b ≤ N ∧ t.e ≤ N
  | 0, c, l, ts, h => by cases h; simp
  | n + 1, c, l, ts, h => by
    unfold lexF at h
    cases hs : skipS l with
    | inr k => rw [hs] at h; cases h
    | inl q =>
      rw [hs] at h
      cases q with
      | nil => cases h; simp
      | cons x l1 =>
        simp only at h
        by_cases h2 : c = 2048
        · rw [if_pos h2] at h; cases h
        · rw [if_neg h2] at h
          cases ht : tokS (x :: l1) with
          | bad e => rw [ht] at h; cases h
          | ok k t r =>
            rw [ht] at h
            simp only at h
            cases hr : lexF N n (c + 1) r with
            | inl p => rw [hr] at h; cases h
            | inr us =>
              rw [hr] at h
              injection h with h
              subst h
              intro u hu
              rcases List.mem_cons.1 hu with rfl | hu
              · exact ⟨Nat.sub_le _ _, Nat.sub_le _ _⟩
              · exact lexF_ends N n (c + 1) r us hr u hu
theorem tok_small {s : Bs} {t : Tok} (h : lexS s = .inr [t]) : t.b ≤ 16384 ∧ t.e ≤ 16384 := by
  have hl := (lexS_full h).2.1
  unfold lexS at h
  rw [if_neg (by omega)] at h
  have := lexF_ends _ _ _ _ _ h t (by simp)
  omega
set_option maxRecDepth 100000 in
set_option maxHeartbeats 2000000 in
theorem only_any (s : Bs) (w : World) (gl : Gl w) : Calls Tryz.prog 113 #[.string ⟨s.toArray⟩] w fun e w' => e = .returned (.int .i64 (oneK s)) ∧ Below w.heap.size w w' := by
  have TO := tokens_any s w gl
  have hsz := size_of s
  unfold oneK
  cases hs : lexS s with
  | inl p =>
    rw [hs] at TO
    have hp0 := lexS_bad hs
    obtain ⟨a, x⟩ := p
    have hp : (x != 0) = true := by simpa using hp0
    have hp2 : (x == 0) = false := by simpa using hp0
    clear hs hp0
    go_enter Tryz.func113, Tryz.ntmps113
    go_wp2_with (go_at_call 14; refine TO.mono ?_; rintro e w1 ⟨rfl, hb⟩)
    go_quiet (fail)
    go_wp2
    go_ret
    exact ⟨rfl, below_drewN hb _⟩
  | inr ts =>
    rw [hs] at TO
    obtain ⟨hn1, hn2, _⟩ := lexS_full hs
    have hs0 := hs
    clear hs
    by_cases h1 : ts.length = 1
    · obtain ⟨t, rfl⟩ := List.length_eq_one_iff.1 h1
      simp only
      by_cases h2 : (t.e : Int) - (t.b : Int) = (s.length : Int)
      · rw [if_pos h2]
        have h3 : ((t.e : Int) - (t.b : Int) == (s.length : Int)) = true := by simpa using h2
        have h4 : ((t.e : Int) - (t.b : Int) != (s.length : Int)) = false := by simpa using h2
        have b1 : IntKind.i64.wrap ((t.e : Int) - (t.b : Int)) = (t.e : Int) - (t.b : Int) := by rw [IntKind.wrap_i64, h2]; omega
        clear h1 h2
        go_enter Tryz.func113, Tryz.ntmps113
        go_wp2_with (go_at_call 14; refine TO.mono ?_; rintro e w1 ⟨⟨v, rfl, ht⟩, hb⟩; obtain ⟨q, lc, rfl, c0, c2, c3⟩ := one_cells ht)
        go_quiet (fail)
        go_wp2
        go_ret
        exact ⟨rfl, below_drewN hb _⟩
      · rw [if_neg h2]
        have hl := tok_small hs0
        have h3 : ((t.e : Int) - (t.b : Int) == (s.length : Int)) = false := by simpa using h2
        have h4 : ((t.e : Int) - (t.b : Int) != (s.length : Int)) = true := by simpa using h2
        have b1 : IntKind.i64.wrap ((t.e : Int) - (t.b : Int)) = (t.e : Int) - (t.b : Int) := by rw [IntKind.wrap_i64]; omega
        clear h1 h2
        go_enter Tryz.func113, Tryz.ntmps113
        go_wp2_with (go_at_call 14; refine TO.mono ?_; rintro e w1 ⟨⟨v, rfl, ht⟩, hb⟩; obtain ⟨q, lc, rfl, c0, c2, c3⟩ := one_cells ht)
        go_quiet (fail)
        go_wp2
        go_ret
        exact ⟨rfl, below_drewN hb _⟩
    · have HQ : Hid ((match (Sum.inr ts : (Nat × Int) ⊕ List Tok) with | .inr [t] => if (t.e : Int) - (t.b : Int) = (s.length : Int) then t.k else -1 | _ => -1) = (-1 : Int)) := by
        show _ = _
        match ts, h1 with
        | [], _ => rfl
        | [_], h => exact absurd rfl h
        | _ :: _ :: _, _ => rfl
      rw [HQ.out]
      have h2 : ((ts.length : Int) == 1) = false := by rw [beq_eq_false_iff_ne]; omega
      have h3 : ((ts.length : Int) != 1) = true := by simp only [bne, h2]; rfl
      clear h1
      go_enter Tryz.func113, Tryz.ntmps113
      go_wp2_with (go_at_call 14; refine TO.mono ?_; rintro e w1 ⟨⟨v, rfl, ht⟩, hb⟩; obtain ⟨o, lc, rfl⟩ := own_slice ht)
      go_quiet (fail)
      go_wp2
      go_ret
      exact ⟨rfl, below_drewN hb _⟩
theorem yname_any (s : Bs) (w : World) (gl : Gl w) : Calls Tryz.prog 94 #[.string ⟨s.toArray⟩] w fun e w' => e = .returned (.bool (nameK s)) ∧ Below w.heap.size w w' := by
  have O := only_any s w gl
  unfold nameK
  generalize oneK s = k at *
  go_enter Tryz.func94, Tryz.ntmps94
  go_wp2_with (go_at_call 113; refine O.mono ?_; rintro e w1 ⟨rfl, hb⟩)
  go_ret
  exact ⟨rfl, hb⟩
end Go.Proofs.YtlabcadpkdgjnaaGreatDoor
