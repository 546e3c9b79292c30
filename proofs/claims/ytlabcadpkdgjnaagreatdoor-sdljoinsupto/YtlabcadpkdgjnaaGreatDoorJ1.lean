/- Rows of objects and of enums put together in whatever order. -/
import Derived.Test.YtlabcadpkdgjnaaGreatDoorE7
import Derived.Test.YtlabcadpkdgjnaaGreatDoorE6
import Derived.Deep.AppendLies
import Derived.Laws.OwnMore
import Derived.Laws.AppendOwnNone
import Derived.Deep.RegionHeld3
namespace Go.Proofs.YtlabcadpkdgjnaaGreatDoor
open Go Go.RowKit
theorem joinW_two : ∀ (us vs : List Bs), us ≠ [] → vs ≠ [] → joinW (us ++ vs) = joinW us ++ 32 :: joinW vs
  | [], _, h, _ => absurd rfl h
  | [x], vs, _, h => by
    cases vs with
    | nil => exact absurd rfl h
    | cons y l => rfl
  | x :: y :: l, vs, _, h => by
    have := joinW_two (y :: l) vs (by simp) h
    simp only [List.cons_append, joinW] at *
    rw [this]
    simp
/-- Two schemas as one. -/
def bothS (a b : Sch) : Sch := ⟨a.os ++ b.os, a.es ++ b.es⟩
theorem printD_parts {s : Sch} {t : Bs} (h : printD s = some t) : ∃ us, schemaW s = some us ∧ t = joinW us ∧ goodS s = true ∧ us.length ≤ 2048 ∧ us ≠ [] ∧ (joinW us).length ≤ 16384 := by
  unfold printD at h
  split at h
  · cases h
  · rename_i us hu
    split at h
    · cases h
    · rename_i x hx
      cases h
      have W := parse_written hu
      split at W
      · rename_i hg
        refine ⟨us, hu, rfl, hg.1, hg.2.1, ?_, hg.2.2⟩
        rintro rfl
        have hl : joinW [] = [] := rfl
        rw [hl] at W
        have : ∃ p, parseD [] = .error p := ⟨(0, 80), by rfl⟩
        obtain ⟨p, e⟩ := this
        rw [e] at W
        cases W
      · obtain ⟨p, e⟩ := W
        rw [e] at hx; cases hx
theorem lex_count {us : List Bs} (hu : AllU us) (h1 : us.length ≤ 2048) (h2 : (joinW us).length ≤ 16384) : ∃ ts, lexS (joinW us) = .inr ts ∧ ts.length = us.length := by
  obtain ⟨ts, e1, e2⟩ := lex_join hu h1 h2
  refine ⟨ts, e1, ?_⟩
  have := congrArg List.length e2
  simpa [saysT] using this
theorem parse_both {a b : Sch} {us vs : List Bs} (ha : schemaW a = some us) (hb : schemaW b = some vs) (ga : goodS a = true) (gb : goodS b = true) (hua : us ≠ []) (hub : vs ≠ []) (h1 : us.length + vs.length ≤ 2048) (h2 : (joinW us).length + (joinW vs).length + 1 ≤ 16384) :
    parseD (joinW us ++ 32 :: joinW vs) = .ok (bothS a b) := by
  rw [← joinW_two us vs hua hub]
  have hl : (joinW (us ++ vs)).length ≤ 16384 := by
    rw [joinW_two us vs hua hub, List.length_append, List.length_cons]
    omega
  have hu : AllU (us ++ vs) := (okW_schema a us ha).app (okW_schema b vs hb)
  obtain ⟨ts, e1, e2⟩ := lex_join hu (by rw [List.length_append]; exact h1) hl
  have hr : rowW defW (defsOf a ++ defsOf b) = some (us ++ vs) := by
    rw [rowW_app, ← schemaW_row, ← schemaW_row, ha, hb]
    rfl
  have A := back_some back_defs defineD_kind (z := eofT (joinW (us ++ vs)).length) (m := []) (last := []) rfl rfl (by decide) (by decide) (defsOf a ++ defsOf b) (us ++ vs) (ts ++ [eofT (joinW (us ++ vs)).length]) hr ⟨ts, rfl, e2⟩
  unfold goodS at ga gb
  simp only [Bool.and_eq_true] at ga gb
  rw [if_pos (by
    simp only [Bool.and_eq_true, List.all_append, ga.2, gb.2, and_self, and_true]
    cases hd : defsOf a with
    | nil => rw [hd] at ga; simp at ga
    | cons x l => rfl)] at A
  unfold parseD schemaD
  rw [e1]
  simp only
  rw [A, go_ok]
  have e : schOf (defsOf a ++ defsOf b) = bothS a b := by
    have h1 := sch_defs a
    have h2 := sch_defs b
    have a1 : obsOf (defsOf a) = a.os := congrArg Sch.os h1
    have a2 : ensOf (defsOf a) = a.es := congrArg Sch.es h1
    have b1 : obsOf (defsOf b) = b.os := congrArg Sch.os h2
    have b2 : ensOf (defsOf b) = b.es := congrArg Sch.es h2
    show Sch.mk _ _ = Sch.mk _ _
    rw [obsOf_app, ensOf_app, a1, a2, b1, b2]
  rw [e]
end Go.Proofs.YtlabcadpkdgjnaaGreatDoor
namespace Go.Proofs.YtlabcadpkdgjnaaGreatDoor
open Go Go.RowKit Go.Shelf
theorem own_keepJ {w w' : World} {B E sz n : Nat} {v : Value} {xs : List Value} (h : w.ownsRow B E sz v n xs) (hk : ∀ q, v.ownBlock = some q → w'.heap[q]? = w.heap[q]?) : w'.ownsRow B E sz v n xs := by
  refine ⟨h.1, ?_⟩
  rcases h.2 with h2 | ⟨g, cap, cur, hv, hg, hh, r⟩
  · exact Or.inl h2
  · exact Or.inr ⟨g, cap, cur, hv, hg, (hk g (by rw [hv]; rfl)).trans hh, r⟩
theorem own_blockJ {w : World} {B E sz n : Nat} {v : Value} {xs : List Value} (h : w.ownsRow B E sz v n xs) {q : Nat} (hq : v.ownBlock = some q) : B ≤ q ∧ q < w.heap.size := ownBlk h hq
/-- The cells of a row of objects whose fields lie in W; of enums whose words do. -/
def ObC (W : World) (us : List Value) (els : List Ob) : Prop := ∃ lp : List (Ob × Value), lp.map (·.1) = els ∧ us = lp.flatMap obC ∧ ∀ p ∈ lp, FldsAt W p.2 p.1.fs
def EnC (W : World) (us : List Value) (els : List En) : Prop := ∃ lp : List (En × Value), lp.map (·.1) = els ∧ us = lp.flatMap enC ∧ ∀ p ∈ lp, WdsAt W p.2 p.1.ws
theorem ObC.nil {W : World} : ObC W [] [] := ⟨[], rfl, rfl, fun p hp => by cases hp⟩
theorem EnC.nil {W : World} : EnC W [] [] := ⟨[], rfl, rfl, fun p hp => by cases hp⟩
theorem ObC.app {W : World} {us vs : List Value} {a b : List Ob} (h : ObC W us a) (g : ObC W vs b) : ObC W (us ++ vs) (a ++ b) := by
  obtain ⟨lp, h1, h2, h3⟩ := h
  obtain ⟨lq, g1, g2, g3⟩ := g
  exact ⟨lp ++ lq, by rw [List.map_append, h1, g1], by rw [List.flatMap_append, h2, g2], fun p hp => (List.mem_append.1 hp).elim (h3 p) (g3 p)⟩
theorem EnC.app {W : World} {us vs : List Value} {a b : List En} (h : EnC W us a) (g : EnC W vs b) : EnC W (us ++ vs) (a ++ b) := by
  obtain ⟨lp, h1, h2, h3⟩ := h
  obtain ⟨lq, g1, g2, g3⟩ := g
  exact ⟨lp ++ lq, by rw [List.map_append, h1, g1], by rw [List.flatMap_append, h2, g2], fun p hp => (List.mem_append.1 hp).elim (h3 p) (g3 p)⟩
theorem ObC.len {W : World} {us : List Value} {a : List Ob} (h : ObC W us a) : us.length = a.length * 2 := by
  obtain ⟨lp, h1, h2, _⟩ := h
  rw [h2, flat_len (f := obC) (sz := 2) (fun _ => rfl), ← h1, List.length_map]
theorem EnC.len {W : World} {us : List Value} {a : List En} (h : EnC W us a) : us.length = a.length * 2 := by
  obtain ⟨lp, h1, h2, _⟩ := h
  rw [h2, flat_len (f := enC) (sz := 2) (fun _ => rfl), ← h1, List.length_map]
theorem ObC.one {W : World} {us : List Value} {a : List Ob} (h : ObC W us a) : ∀ u ∈ us, u.oneCell' = true := by
  obtain ⟨lp, _, h2, h3⟩ := h
  subst h2
  intro u hu
  obtain ⟨p, hp, hq⟩ := List.mem_flatMap.1 hu
  simp only [obC, nmdC, List.mem_cons, List.not_mem_nil, or_false] at hq
  rcases hq with rfl | rfl
  · rfl
  · obtain ⟨_, _, e, _⟩ := slD (h3 p hp)
    rw [e]; rfl
theorem EnC.one {W : World} {us : List Value} {a : List En} (h : EnC W us a) : ∀ u ∈ us, u.oneCell' = true := by
  obtain ⟨lp, _, h2, h3⟩ := h
  subst h2
  intro u hu
  obtain ⟨p, hp, hq⟩ := List.mem_flatMap.1 hu
  simp only [enC, nmdC, List.mem_cons, List.not_mem_nil, or_false] at hq
  rcases hq with rfl | rfl
  · rfl
  · obtain ⟨_, _, e, _⟩ := slD (h3 p hp)
    rw [e]; rfl
/-- Where a row that came in lies. -/
def Src (w : World) (u : Value) (m : Nat) (news : List Value) : Prop := (u = .slice none 0 0 ∧ m = 0 ∧ news = []) ∨ ∃ ad cp, u = .slice (some ad) m cp ∧ ∀ k v, news[k]? = some v → w.cell? (ad.add k) = some v
theorem Src.on {w w' : World} {u : Value} {m : Nat} {news : List Value} (h : Src w u m news) (hb : Below w.heap.size w w') : Src w' u m news := by
  rcases h with h | ⟨ad, cp, h1, h2⟩
  · exact Or.inl h
  · exact Or.inr ⟨ad, cp, h1, fun k v hk => (hb.cell (World.block_lt_of_cell? w _ (h2 k v hk))).trans (h2 k v hk)⟩
/-- A slice that came in is none, or has a place. -/
def Nn (v : Value) : Prop := v = .slice none 0 0 ∨ ∃ ad n c, v = .slice (some ad) n c
theorem flat2 {α : Type} (f g : α → Value) : ∀ (l : List α) (k : Nat) (v : Value), (l.flatMap fun x => [f x, g x])[k]? = some v → ∃ i x, l[i]? = some x ∧ ((k = i * 2 ∧ v = f x) ∨ (k = i * 2 + 1 ∧ v = g x))
  | [], k, v, h => by simp at h
  | y :: l, 0, v, h => by
    simp at h
    exact ⟨0, y, rfl, Or.inl ⟨rfl, h.symm⟩⟩
  | y :: l, 1, v, h => by
    simp at h
    exact ⟨0, y, rfl, Or.inr ⟨rfl, h.symm⟩⟩
  | y :: l, k + 2, v, h => by
    have h' : (l.flatMap fun x => [f x, g x])[k]? = some v := by
      rw [List.flatMap_cons] at h
      exact h
    obtain ⟨i, x, h1, h2⟩ := flat2 f g l k v h'
    refine ⟨i + 1, x, by simpa using h1, ?_⟩
    rcases h2 with ⟨e, e2⟩ | ⟨e, e2⟩
    · exact Or.inl ⟨by omega, e2⟩
    · exact Or.inr ⟨by omega, e2⟩
section
variable {w : World} {ops : Array Oper} {o : Oper} {a : Act} {K : Act → World → Prop} {Q : Exit → Act → World → Prop} {E' : Prop}
set_option maxRecDepth 100000 in
theorem step_newA (hgd : o.guard = none) (ho : o.op = .buildSlice 22 0 #[])
    (h : K (a.put o.dst (.slice (some ⟨w.heap.size, 0, none⟩) 0 0)) (w.alloc (.cells #[] 58))) :
    if Region.wanted o (yielded ops a.tmps) = true then Oper.wp Tryz.prog o a w K Q else E' := by
  have hw : Region.wanted o (yielded ops a.tmps) = true := by simp [Region.wanted, hgd]
  rw [if_pos hw]
  unfold Oper.wp execOp
  simp only [ho]
  go_simp
  exact h
set_option maxRecDepth 100000 in
theorem step_newB (hgd : o.guard = none) (ho : o.op = .buildSlice 23 0 #[])
    (h : K (a.put o.dst (.slice (some ⟨w.heap.size, 0, none⟩) 0 0)) (w.alloc (.cells #[] 66))) :
    if Region.wanted o (yielded ops a.tmps) = true then Oper.wp Tryz.prog o a w K Q else E' := by
  have hw : Region.wanted o (yielded ops a.tmps) = true := by simp [Region.wanted, hgd]
  rw [if_pos hw]
  unfold Oper.wp execOp
  simp only [ho]
  go_simp
  exact h
set_option maxRecDepth 100000 in
theorem step_newC (hgd : o.guard = none) (ho : o.op = .alloc 25)
    (h : K (a.put o.dst (.pointer (some ⟨w.heap.size, 0, none⟩))) (w.alloc (.cells #[.slice none 0 0, .slice none 0 0] 25))) :
    if Region.wanted o (yielded ops a.tmps) = true then Oper.wp Tryz.prog o a w K Q else E' := by
  have hw : Region.wanted o (yielded ops a.tmps) = true := by simp [Region.wanted, hgd]
  rw [if_pos hw]
  unfold Oper.wp execOp
  simp only [ho]
  go_simp
  exact h
/-- A row appended to a row that the call owns. -/
theorem step_row (hgd : o.guard = none) (sl x : Operand) (t : TypeId)
    (ho : o.op = .call { callee := .builtin .append, args := #[sl, x], argTypes := #[t, t] })
    (base : Nat) (e : TypeId) (i : TypeInfo) (z : Value) (size bytes : Nat) (ht : Tryz.prog.underlying t = some (.slice e)) (hi : Tryz.prog.info? e = some i) (hz : i.zero = some z)
    (hsize : i.size = size) (hby : i.bytes = bytes) (hzs : z.cells.size = size) (hsz : 0 < size)
    (q cap n : Nat) (xs : List Value) (hs : a.eval sl = .slice (some ⟨q, 0, none⟩) n cap) (hown : w.ownsRow base e size (.slice (some ⟨q, 0, none⟩) n cap) n xs)
    (u : Value) (hx : a.eval x = u) (m : Nat) (news : List Value) (hu : Src w u m news) (hnl : news.length = m * size) (h1 : ∀ u ∈ news, u.oneCell' = true)
    (h63 : n + m ≤ maxLen) (hbytes : (n + m) * bytes ≤ 140737488355328) (hbase : base ≤ w.heap.size)
    (h : ∀ g cap' w', w'.ownsRow base e size (.slice (some ⟨g, 0, none⟩) (n + m) cap') (n + m) (xs ++ news) → w.grownBy w' (some q) → (g = q ∨ g = w.heap.size) → K (a.put o.dst (.slice (some ⟨g, 0, none⟩) (n + m) cap')) w') :
    if Region.wanted o (yielded ops a.tmps) = true then Oper.wp Tryz.prog o a w K Q else E' := by
  have hw : Region.wanted o (yielded ops a.tmps) = true := by simp [Region.wanted, hgd]
  have hself : w.grownBy w (some q) := ⟨rfl, rfl, rfl, Nat.le_refl _, fun _ _ _ => rfl⟩
  rw [if_pos hw]
  rcases hu with ⟨rfl, rfl, rfl⟩ | ⟨ad, cp, rfl, hnews⟩
  · have hk := h q cap w (by simpa using hown) hself (Or.inl rfl)
    simp only [Nat.add_zero] at hk
    have hrun := run_append_owned_none (P := Tryz.prog) (w := w) base t o.type e i size ht hi _ n xs hown
    unfold Oper.wp
    simp [execOp, ho, resolve, invoke, builtin, hs, hx, hrun, Result.andThen]
    exact hk
  · obtain ⟨v', w', hr, g1, g2, g3, g4⟩ := run_append_own_at (P := Tryz.prog) w base t o.type e i z size bytes ht hi hz hsize hby hzs hsz _ n xs hown ad m cp _ hnl hnews h1 h63 hbytes hbase
    have hne : v' ≠ .slice none 0 0 := fun e => by have := (g3.1 e).1; cases this
    rcases g1.2 with ⟨e1, _⟩ | ⟨g, cap', _, e1, _⟩
    · exact absurd e1 hne
    · subst e1
      unfold Oper.wp execOp
      simp only [ho, resolve, invoke, builtin, Sem.run_bind, Sem.run_pure, Result.andThen_ok, List.map_toArray, List.map_cons, List.map_nil, hs, hx, hr]
      refine h g cap' w' g1 g2 ?_
      rcases g4 with g4 | g4
      · left
        simpa [Value.ownBlock] using g4
      · right
        simpa [Value.ownBlock] using g4
end
/-! ### What is held whatever the order -/
/-- W: the world at first, B blocks; ca, cb: the two rows (block, room, elements); qc: the block of what is built. -/
structure RS (B : Nat) (W w : World) (ca : Option (Nat × Nat × List Ob)) (cb : Option (Nat × Nat × List En)) (qc : Option Nat) : Prop where
  s : Below B W w
  hB : B = W.heap.size
  a : ∀ q cap els, ca = some (q, cap, els) → ∃ xs, w.ownsRow B 58 2 (.slice (some ⟨q, 0, none⟩) els.length cap) els.length xs ∧ ObC W xs els
  b : ∀ q cap els, cb = some (q, cap, els) → ∃ xs, w.ownsRow B 66 2 (.slice (some ⟨q, 0, none⟩) els.length cap) els.length xs ∧ EnC W xs els
  c : ∀ q, qc = some q → w.heap[q]? = some (.cells #[.slice none 0 0, .slice none 0 0] 25 (0, 0)) ∧ B ≤ q
  ab : ∀ q cap els q' cap' els', ca = some (q, cap, els) → cb = some (q', cap', els') → q ≠ q'
  ac : ∀ q cap els q', ca = some (q, cap, els) → qc = some q' → q ≠ q'
  bc : ∀ q cap els q', cb = some (q, cap, els) → qc = some q' → q ≠ q'
section
variable {B : Nat} {W w w' : World} {ca : Option (Nat × Nat × List Ob)} {cb : Option (Nat × Nat × List En)} {qc : Option Nat}
theorem own_lt {B E sz n q cap : Nat} {xs : List Value} (h : w.ownsRow B E sz (.slice (some ⟨q, 0, none⟩) n cap) n xs) : q < w.heap.size := (own_blockJ h (q := q) rfl).2
theorem RS.alloc (r : RS B W w ca cb qc) (o : Obj) : RS B W (w.alloc o) ca cb qc where
  s := r.s.alloc (by rw [r.hB]; exact r.hB ▸ r.s.size) o
  hB := r.hB
  a := fun q cap els e => by
    obtain ⟨xs, h1, h2⟩ := r.a q cap els e
    exact ⟨xs, own_keepJ h1 fun k hk => (al1 w o).block k (own_blockJ h1 hk).2, h2⟩
  b := fun q cap els e => by
    obtain ⟨xs, h1, h2⟩ := r.b q cap els e
    exact ⟨xs, own_keepJ h1 fun k hk => (al1 w o).block k (own_blockJ h1 hk).2, h2⟩
  c := fun q e => by
    obtain ⟨h1, h2⟩ := r.c q e
    exact ⟨((al1 w o).block q (lt_of_block h1)).trans h1, h2⟩
  ab := r.ab
  ac := r.ac
  bc := r.bc
theorem RS.newA (r : RS B W w none cb qc) : RS B W (w.alloc (.cells #[] 58)) (some (w.heap.size, 0, [])) cb qc where
  s := (r.alloc _).s
  hB := r.hB
  a := fun q cap els e => by
    cases e
    exact ⟨[], ⟨rfl, Or.inr ⟨w.heap.size, 0, #[], rfl, by rw [r.hB]; exact r.hB ▸ r.s.size, heap_alloc_new _ _, Nat.le_refl _, Nat.zero_le _, rfl, rfl⟩⟩, ObC.nil⟩
  b := (r.alloc _).b
  c := (r.alloc _).c
  ab := fun q cap els q' cap' els' e e' => by
    cases e
    obtain ⟨xs, h1, _⟩ := r.b q' cap' els' e'
    have := own_lt h1
    omega
  ac := fun q cap els q' e e' => by
    cases e
    have := lt_of_block (r.c q' e').1
    omega
  bc := r.bc
theorem RS.newB (r : RS B W w ca none qc) : RS B W (w.alloc (.cells #[] 66)) ca (some (w.heap.size, 0, [])) qc where
  s := (r.alloc _).s
  hB := r.hB
  a := (r.alloc _).a
  b := fun q cap els e => by
    cases e
    exact ⟨[], ⟨rfl, Or.inr ⟨w.heap.size, 0, #[], rfl, by rw [r.hB]; exact r.hB ▸ r.s.size, heap_alloc_new _ _, Nat.le_refl _, Nat.zero_le _, rfl, rfl⟩⟩, EnC.nil⟩
  c := (r.alloc _).c
  ab := fun q cap els q' cap' els' e e' => by
    cases e'
    obtain ⟨xs, h1, _⟩ := r.a q cap els e
    have := own_lt h1
    omega
  ac := r.ac
  bc := fun q cap els q' e e' => by
    cases e
    have := lt_of_block (r.c q' e').1
    omega
theorem RS.newC (r : RS B W w ca cb none) : RS B W (w.alloc (.cells #[.slice none 0 0, .slice none 0 0] 25)) ca cb (some w.heap.size) where
  s := (r.alloc _).s
  hB := r.hB
  a := (r.alloc _).a
  b := (r.alloc _).b
  c := fun q e => by
    cases e
    exact ⟨heap_alloc_new _ _, by rw [r.hB]; exact r.hB ▸ r.s.size⟩
  ab := r.ab
  ac := fun q cap els q' e e' => by
    cases e'
    obtain ⟨xs, h1, _⟩ := r.a q cap els e
    have := own_lt h1
    omega
  bc := fun q cap els q' e e' => by
    cases e'
    obtain ⟨xs, h1, _⟩ := r.b q cap els e
    have := own_lt h1
    omega
theorem RS.pushA {q cap g cap' : Nat} {els new : List Ob} {xs news : List Value} (r : RS B W w (some (q, cap, els)) cb qc) (hg : w.grownBy w' (some q)) (hx : ObC W xs els) (hn : ObC W news new) (ho : w'.ownsRow B 58 2 (.slice (some ⟨g, 0, none⟩) (els.length + new.length) cap') (els.length + new.length) (xs ++ news)) (hq : g = q ∨ g = w.heap.size) : RS B W w' (some (g, cap', els ++ new)) cb qc where
  s := r.s.grown hg (by rw [r.hB]; exact r.hB ▸ r.s.size) (fun k e => by
    obtain ⟨_, h1, _⟩ := r.a q cap els rfl
    injection e with e
    exact e ▸ (own_blockJ h1 (q := q) rfl).1)
  hB := r.hB
  a := fun q1 cap1 els1 e => by
    cases e
    refine ⟨xs ++ news, ?_, hx.app hn⟩
    rw [List.length_append]
    exact ho
  b := fun q1 cap1 els1 e => by
    obtain ⟨ys, h1, h2⟩ := r.b q1 cap1 els1 e
    refine ⟨ys, own_keepJ h1 fun k hk => hg.block k (own_blockJ h1 hk).2 (fun e2 => ?_), h2⟩
    have e3 : q1 = k := by simpa [Value.ownBlock] using hk
    injection e2 with e2
    exact r.ab q cap els q1 cap1 els1 rfl e (by omega)
  c := fun q1 e => by
    obtain ⟨h1, h2⟩ := r.c q1 e
    refine ⟨(hg.block q1 (lt_of_block h1) (fun e2 => ?_)).trans h1, h2⟩
    injection e2 with e2
    exact r.ac q cap els q1 rfl e e2.symm
  ab := fun q1 cap1 els1 q2 cap2 els2 e e' => by
    cases e
    rcases hq with rfl | rfl
    · exact r.ab _ _ _ _ _ _ rfl e'
    · obtain ⟨ys, h1, _⟩ := r.b q2 cap2 els2 e'
      have := own_lt h1
      omega
  ac := fun q1 cap1 els1 q2 e e' => by
    cases e
    rcases hq with rfl | rfl
    · exact r.ac _ _ _ _ rfl e'
    · have := lt_of_block (r.c q2 e').1
      omega
  bc := r.bc
theorem RS.pushB {q cap g cap' : Nat} {els new : List En} {xs news : List Value} (r : RS B W w ca (some (q, cap, els)) qc) (hg : w.grownBy w' (some q)) (hx : EnC W xs els) (hn : EnC W news new) (ho : w'.ownsRow B 66 2 (.slice (some ⟨g, 0, none⟩) (els.length + new.length) cap') (els.length + new.length) (xs ++ news)) (hq : g = q ∨ g = w.heap.size) : RS B W w' ca (some (g, cap', els ++ new)) qc where
  s := r.s.grown hg (by rw [r.hB]; exact r.hB ▸ r.s.size) (fun k e => by
    obtain ⟨_, h1, _⟩ := r.b q cap els rfl
    injection e with e
    exact e ▸ (own_blockJ h1 (q := q) rfl).1)
  hB := r.hB
  b := fun q1 cap1 els1 e => by
    cases e
    refine ⟨xs ++ news, ?_, hx.app hn⟩
    rw [List.length_append]
    exact ho
  a := fun q1 cap1 els1 e => by
    obtain ⟨ys, h1, h2⟩ := r.a q1 cap1 els1 e
    refine ⟨ys, own_keepJ h1 fun k hk => hg.block k (own_blockJ h1 hk).2 (fun e2 => ?_), h2⟩
    have e3 : q1 = k := by simpa [Value.ownBlock] using hk
    injection e2 with e2
    exact r.ab q1 cap1 els1 q cap els e rfl (by omega)
  c := fun q1 e => by
    obtain ⟨h1, h2⟩ := r.c q1 e
    refine ⟨(hg.block q1 (lt_of_block h1) (fun e2 => ?_)).trans h1, h2⟩
    injection e2 with e2
    exact r.bc q cap els q1 rfl e e2.symm
  ab := fun q1 cap1 els1 q2 cap2 els2 e e' => by
    cases e'
    rcases hq with rfl | rfl
    · exact r.ab _ _ _ _ _ _ e rfl
    · obtain ⟨ys, h1, _⟩ := r.a q1 cap1 els1 e
      have := own_lt h1
      omega
  bc := fun q1 cap1 els1 q2 e e' => by
    cases e
    rcases hq with rfl | rfl
    · exact r.bc _ _ _ _ rfl e'
    · have := lt_of_block (r.c q2 e').1
      omega
  ac := r.ac
end
section
variable {B : Nat} {W w : World} {ca : Option (Nat × Nat × List Ob)} {cb : Option (Nat × Nat × List En)} {qc : Option Nat}
theorem rs_A {ops : Array Oper} {o : Oper} {a : Act} {K : Act → World → Prop} {Q : Exit → Act → World → Prop} {E' : Prop} (sl x : Operand) (q cap : Nat) (els new : List Ob) (u : Value)
    (hgd : o.guard = none) (ho : o.op = .call { callee := .builtin .append, args := #[sl, x], argTypes := #[22, 22] })
    (hs : a.eval sl = .slice (some ⟨q, 0, none⟩) els.length cap) (hx : a.eval x = u) (news : List Value) (hsr : Src W u new.length news) (hnew : ObC W news new) (hsm : els.length + new.length ≤ 4000000) (r : RS B W w (some (q, cap, els)) cb qc)
    (h : ∀ g cap' w', RS B W w' (some (g, cap', els ++ new)) cb qc → K (a.put o.dst (.slice (some ⟨g, 0, none⟩) (els ++ new).length cap')) w') :
    if Region.wanted o (yielded ops a.tmps) = true then Oper.wp Tryz.prog o a w K Q else E' := by
  simp only [List.length_append] at h
  obtain ⟨xs, h1, h2⟩ := r.a q cap els rfl
  obtain ⟨ti, hti, hy0, hy1, hy2⟩ := info_parts Tryz.infoObj
  have hBs : B ≤ w.heap.size := by rw [r.hB]; exact r.hB ▸ r.s.size
  have hbel : Below W.heap.size W w := r.hB ▸ r.s
  refine step_row hgd sl x 22 ho B 58 ti _ 2 40 Tryz.underlying22 hti hy0 hy1 hy2 rfl (by decide) q cap els.length xs hs h1 u hx new.length news (hsr.on hbel) hnew.len hnew.one (by unfold maxLen; omega) (by omega) hBs ?_
  intro g cap' w' g1 g3 g4
  exact h g cap' w' (r.pushA g3 h2 hnew g1 g4)
theorem rs_B {ops : Array Oper} {o : Oper} {a : Act} {K : Act → World → Prop} {Q : Exit → Act → World → Prop} {E' : Prop} (sl x : Operand) (q cap : Nat) (els new : List En) (u : Value)
    (hgd : o.guard = none) (ho : o.op = .call { callee := .builtin .append, args := #[sl, x], argTypes := #[23, 23] })
    (hs : a.eval sl = .slice (some ⟨q, 0, none⟩) els.length cap) (hx : a.eval x = u) (news : List Value) (hsr : Src W u new.length news) (hnew : EnC W news new) (hsm : els.length + new.length ≤ 4000000) (r : RS B W w ca (some (q, cap, els)) qc)
    (h : ∀ g cap' w', RS B W w' ca (some (g, cap', els ++ new)) qc → K (a.put o.dst (.slice (some ⟨g, 0, none⟩) (els ++ new).length cap')) w') :
    if Region.wanted o (yielded ops a.tmps) = true then Oper.wp Tryz.prog o a w K Q else E' := by
  simp only [List.length_append] at h
  obtain ⟨xs, h1, h2⟩ := r.b q cap els rfl
  obtain ⟨ti, hti, hy0, hy1, hy2⟩ := info_parts Tryz.infoEn
  have hBs : B ≤ w.heap.size := by rw [r.hB]; exact r.hB ▸ r.s.size
  have hbel : Below W.heap.size W w := r.hB ▸ r.s
  refine step_row hgd sl x 23 ho B 66 ti _ 2 40 Tryz.underlying23 hti hy0 hy1 hy2 rfl (by decide) q cap els.length xs hs h1 u hx new.length news (hsr.on hbel) hnew.len hnew.one (by unfold maxLen; omega) (by omega) hBs ?_
  intro g cap' w' g1 g3 g4
  exact h g cap' w' (r.pushB g3 h2 hnew g1 g4)
section
variable {ops : Array Oper} {o : Oper} {a : Act} {K : Act → World → Prop} {Q : Exit → Act → World → Prop} {E' : Prop}
theorem rs_newA (r : RS B W w none cb qc) (hgd : o.guard = none) (ho : o.op = .buildSlice 22 0 #[]) (h : ∀ q w', RS B W w' (some (q, 0, [])) cb qc → K (a.put o.dst (.slice (some ⟨q, 0, none⟩) 0 0)) w') :
    if Region.wanted o (yielded ops a.tmps) = true then Oper.wp Tryz.prog o a w K Q else E' := step_newA hgd ho (h _ _ r.newA)
theorem rs_newB (r : RS B W w ca none qc) (hgd : o.guard = none) (ho : o.op = .buildSlice 23 0 #[]) (h : ∀ q w', RS B W w' ca (some (q, 0, [])) qc → K (a.put o.dst (.slice (some ⟨q, 0, none⟩) 0 0)) w') :
    if Region.wanted o (yielded ops a.tmps) = true then Oper.wp Tryz.prog o a w K Q else E' := step_newB hgd ho (h _ _ r.newB)
theorem rs_newC (r : RS B W w ca cb none) (hgd : o.guard = none) (ho : o.op = .alloc 25) (h : ∀ q w', RS B W w' ca cb (some q) → K (a.put o.dst (.pointer (some ⟨q, 0, none⟩))) w') :
    if Region.wanted o (yielded ops a.tmps) = true then Oper.wp Tryz.prog o a w K Q else E' := step_newC hgd ho (h _ _ r.newC)
end
theorem RS.drew (r : RS B W w ca cb qc) : RS B W w.drew ca cb qc where
  s := r.s.trans ⟨rfl, rfl, rfl, Nat.le_refl _, fun _ _ => rfl⟩
  hB := r.hB
  a := r.a
  b := r.b
  c := r.c
  ab := r.ab
  ac := r.ac
  bc := r.bc
theorem RS.nA (r : RS B W w none cb qc) {q : Nat} (hq : w.heap.size = q) : RS B W (w.alloc (.cells #[] 58)) (some (q, 0, [])) cb qc := hq ▸ r.newA
theorem RS.nB (r : RS B W w ca none qc) {q : Nat} (hq : w.heap.size = q) : RS B W (w.alloc (.cells #[] 66)) ca (some (q, 0, [])) qc := hq ▸ r.newB
theorem RS.nC (r : RS B W w ca cb none) {q : Nat} (hq : w.heap.size = q) : RS B W (w.alloc (.cells #[.slice none 0 0, .slice none 0 0] 25)) ca cb (some q) := hq ▸ r.newC
theorem rs_begin (W : World) : RS W.heap.size W W none none none where
  s := Below.refl _ _
  hB := rfl
  a := fun _ _ _ e => by cases e
  b := fun _ _ _ e => by cases e
  c := fun _ e => by cases e
  ab := fun _ _ _ _ _ _ e _ => by cases e
  ac := fun _ _ _ _ e _ => by cases e
  bc := fun _ _ _ _ e _ => by cases e
/-- What is built, in the end. -/
theorem obs_own {w2 : World} {qx cap n : Nat} {els : List Ob} {zs : List Value} (hb : Below W.heap.size W w2) (hn : n = els.length) (hm : n ≤ 4000000) (ho : w2.ownsRow B 58 2 (.slice (some ⟨qx, 0, none⟩) n cap) n zs) (hz : ObC W zs els) : ObsAt w2 (.slice (some ⟨qx, 0, none⟩) n cap) els := by
  subst hn
  obtain ⟨lp, h1, h2, h3⟩ := hz
  subst h2
  subst h1
  rcases ho.2 with ⟨e, _⟩ | ⟨g, cp, cur, e, hg, hbk, hn1, _, hc, htk⟩
  · cases e
  · cases e
    refine ⟨_, cap, rfl, hn1, by omega, fun _ => ⟨qx, 0, rfl, lt_of_block hbk, fun i hi x hx => ?_⟩⟩
    rw [List.length_map] at hi
    obtain ⟨p, hp⟩ : ∃ p, lp[i]? = some p := ⟨_, List.getElem?_eq_getElem hi⟩
    have hx' : p.1 = x := by
      rw [List.getElem?_map, hp] at hx
      simpa using hx
    subst hx'
    have key : ∀ (l : List (Ob × Value)) (j : Nat) (q : Ob × Value), l[j]? = some q → (l.flatMap obC)[j * 2]? = some (.string ⟨q.1.n.toArray⟩) ∧ (l.flatMap obC)[j * 2 + 1]? = some q.2 := by
      intro l
      induction l with
      | nil => intro j q hq; simp at hq
      | cons y l ih =>
        intro j q hq
        cases j with
        | zero =>
          simp at hq
          subst hq
          exact ⟨rfl, rfl⟩
        | succ j =>
          have := ih j q (by simpa using hq)
          rw [List.flatMap_cons]
          have e : ∀ k, (obC y ++ l.flatMap obC)[k + 2]? = (l.flatMap obC)[k]? := fun k => rfl
          rw [show (j + 1) * 2 = j * 2 + 2 by omega, show j * 2 + 2 + 1 = (j * 2 + 1) + 2 by omega, e, e]
          exact this
    obtain ⟨k0, k1⟩ := key lp i p hp
    have cell : ∀ j v, (lp.flatMap obC)[j]? = some v → w2.cell? ⟨qx, 0 + j, none⟩ = some v := fun j v hj => by
      rw [← htk, List.getElem?_take] at hj
      rw [Nat.zero_add]
      split at hj
      · unfold World.cell?
        rw [hbk]
        simpa using hj
      · cases hj
    exact ⟨cell _ _ k0, p.2, by rw [Nat.add_assoc]; exact cell _ _ k1, (h3 p (List.mem_of_getElem? hp)).on hb⟩
theorem ens_own {w2 : World} {qx cap n : Nat} {els : List En} {zs : List Value} (hb : Below W.heap.size W w2) (hn : n = els.length) (hm : n ≤ 4000000) (ho : w2.ownsRow B 66 2 (.slice (some ⟨qx, 0, none⟩) n cap) n zs) (hz : EnC W zs els) : EnsAt w2 (.slice (some ⟨qx, 0, none⟩) n cap) els := by
  subst hn
  obtain ⟨lp, h1, h2, h3⟩ := hz
  subst h2
  subst h1
  rcases ho.2 with ⟨e, _⟩ | ⟨g, cp, cur, e, hg, hbk, hn1, _, hc, htk⟩
  · cases e
  · cases e
    refine ⟨_, cap, rfl, hn1, by omega, fun _ => ⟨qx, 0, rfl, lt_of_block hbk, fun i hi x hx => ?_⟩⟩
    rw [List.length_map] at hi
    obtain ⟨p, hp⟩ : ∃ p, lp[i]? = some p := ⟨_, List.getElem?_eq_getElem hi⟩
    have hx' : p.1 = x := by
      rw [List.getElem?_map, hp] at hx
      simpa using hx
    subst hx'
    have key : ∀ (l : List (En × Value)) (j : Nat) (q : En × Value), l[j]? = some q → (l.flatMap enC)[j * 2]? = some (.string ⟨q.1.n.toArray⟩) ∧ (l.flatMap enC)[j * 2 + 1]? = some q.2 := by
      intro l
      induction l with
      | nil => intro j q hq; simp at hq
      | cons y l ih =>
        intro j q hq
        cases j with
        | zero =>
          simp at hq
          subst hq
          exact ⟨rfl, rfl⟩
        | succ j =>
          have := ih j q (by simpa using hq)
          rw [List.flatMap_cons]
          have e : ∀ k, (enC y ++ l.flatMap enC)[k + 2]? = (l.flatMap enC)[k]? := fun k => rfl
          rw [show (j + 1) * 2 = j * 2 + 2 by omega, show j * 2 + 2 + 1 = (j * 2 + 1) + 2 by omega, e, e]
          exact this
    obtain ⟨k0, k1⟩ := key lp i p hp
    have cell : ∀ j v, (lp.flatMap enC)[j]? = some v → w2.cell? ⟨qx, 0 + j, none⟩ = some v := fun j v hj => by
      rw [← htk, List.getElem?_take] at hj
      rw [Nat.zero_add]
      split at hj
      · unfold World.cell?
        rw [hbk]
        simpa using hj
      · cases hj
    exact ⟨cell _ _ k0, p.2, by rw [Nat.add_assoc]; exact cell _ _ k1, (h3 p (List.mem_of_getElem? hp)).on hb⟩
theorem rs_bel {qa capa qb capb q : Nat} {A : List Ob} {C : List En} (r : RS B W w (some (qa, capa, A)) (some (qb, capb, C)) (some q)) (va vb : Value) : Below B W ((w.setCell ⟨q, 0, none⟩ va).setCell ⟨q, 1, none⟩ vb) := by
  obtain ⟨c1, c2⟩ := r.c q rfl
  have K2 : Kp (Own1 q) w ((w.setCell ⟨q, 0, none⟩ va).setCell ⟨q, 1, none⟩ vb) := (Kp.own q 0 _).set q 1 _ (Or.inr rfl)
  have hBs : B ≤ w.heap.size := by rw [r.hB]; exact r.hB ▸ r.s.size
  exact r.s.trans ⟨K2.os, K2.tape, K2.output, K2.size, fun k hk => K2.block k (by omega) (fun e => by have e' : k = q := e; omega)⟩
theorem rs_end {qa capa qb capb q na nb : Nat} {A : List Ob} {C : List En} (r : RS B W w (some (qa, capa, A)) (some (qb, capb, C)) (some q)) (hna : A.length = na) (hnb : C.length = nb) (h1 : na ≤ 4000000) (h2 : nb ≤ 4000000) :
    Below B W ((w.setCell ⟨q, 0, none⟩ (.slice (some ⟨qa, 0, none⟩) na capa)).setCell ⟨q, 1, none⟩ (.slice (some ⟨qb, 0, none⟩) nb capb)) ∧
    SchAt ((w.setCell ⟨q, 0, none⟩ (.slice (some ⟨qa, 0, none⟩) na capa)).setCell ⟨q, 1, none⟩ (.slice (some ⟨qb, 0, none⟩) nb capb)) (.slice (some ⟨qa, 0, none⟩) na capa) (.slice (some ⟨qb, 0, none⟩) nb capb) ⟨A, C⟩ := by
  subst hna hnb
  have hbel := rs_bel r (.slice (some ⟨qa, 0, none⟩) A.length capa) (.slice (some ⟨qb, 0, none⟩) C.length capb)
  obtain ⟨xs, a1, a2⟩ := r.a qa capa A rfl
  obtain ⟨ys, b1, b2⟩ := r.b qb capb C rfl
  have K2 : Kp (Own1 q) w ((w.setCell ⟨q, 0, none⟩ (.slice (some ⟨qa, 0, none⟩) A.length capa)).setCell ⟨q, 1, none⟩ (.slice (some ⟨qb, 0, none⟩) C.length capb)) := (Kp.own q 0 _).set q 1 _ (Or.inr rfl)
  have hbW : Below W.heap.size W _ := r.hB ▸ hbel
  have e1 := r.ac _ _ _ _ rfl rfl
  have e2 := r.bc _ _ _ _ rfl rfl
  have keep : ∀ {qx : Nat}, qx < w.heap.size → qx ≠ q → _ := fun {qx} hl hne => K2.block qx hl (fun e => hne e)
  refine ⟨hbel, obs_own (B := B) hbW rfl h1 (own_keepJ a1 fun k hk => ?_) a2, ens_own (B := B) hbW rfl h2 (own_keepJ b1 fun k hk => ?_) b2⟩
  · have hk' : qa = k := by simpa [Value.ownBlock] using hk
    subst hk'
    exact keep (own_lt a1) e1
  · have hk' : qb = k := by simpa [Value.ownBlock] using hk
    subst hk'
    exact keep (own_lt b1) e2
theorem rs_endN {qa capa qb capb : Nat} {A : List Ob} {C : List En} (r : RS B W w (some (qa, capa, A)) (some (qb, capb, C)) none) (o : Obj) (h1 : A.length ≤ 4000000) (h2 : C.length ≤ 4000000) :
    Below B W (w.alloc o) ∧ SchAt (w.alloc o) (.slice (some ⟨qa, 0, none⟩) A.length capa) (.slice (some ⟨qb, 0, none⟩) C.length capb) ⟨A, C⟩ := by
  have hbW : Below W.heap.size W (w.alloc o) := r.hB ▸ (r.alloc o).s
  obtain ⟨xs, a1, a2⟩ := (r.alloc o).a qa capa A rfl
  obtain ⟨ys, b1, b2⟩ := (r.alloc o).b qb capb C rfl
  exact ⟨(r.alloc o).s, obs_own (B := B) hbW rfl h1 a1 a2, ens_own (B := B) hbW rfl h2 b1 b2⟩
theorem set2J {w : World} {q : Nat} {ty : TypeId} {x y a b : Value} (h : w.heap[q]? = some (.cells #[x, y] ty (0, 0))) : ((w.setCell ⟨q, 0, none⟩ a).setCell ⟨q, 1, none⟩ b).heap[q]? = some (.cells #[a, b] ty (0, 0)) := by
  have hq := lt_of_block h
  obtain ⟨_, hg⟩ := Array.getElem?_eq_some_iff.1 h
  simp [World.setCell, hq, Array.getElem_modify, hg]
theorem size2J (w : World) (o o' : Obj) : ((w.alloc o).alloc o').heap.size = w.heap.size + 1 + 1 := by simp
/-- What came in, as a source of a row. -/
theorem src_obs {v : Value} {os : List Ob} (h : ObsAt W v os) (hn : Nn v) : ∃ news, Src W v os.length news ∧ ObC W news os := by
  obtain ⟨a, c, rfl, hc, hm, hr⟩ := h
  rcases Nat.eq_zero_or_pos os.length with h0 | h0
  · have e := List.length_eq_zero_iff.1 h0
    subst e
    refine ⟨[], ?_, ObC.nil⟩
    rcases hn with hn | ⟨ad, n, cp, hn⟩
    · exact Or.inl ⟨hn, rfl, rfl⟩
    · cases hn
      exact Or.inr ⟨ad, c, rfl, fun k v hk => by simp at hk⟩
  · obtain ⟨b, o, rfl, hb, hH⟩ := hr h0
    have each2 : ∀ n, n ≤ os.length → ∃ lp : List (Ob × Value), lp.map (·.1) = os.take n ∧ (∀ p ∈ lp, FldsAt W p.2 p.1.fs) ∧ ∀ i p, lp[i]? = some p → W.cell? ⟨b, o + i * 2, none⟩ = some (.string ⟨p.1.n.toArray⟩) ∧ W.cell? ⟨b, o + i * 2 + 1, none⟩ = some p.2 := by
      intro n
      induction n with
      | zero => exact fun _ => ⟨[], by simp, (fun p hp => by cases hp), fun i p hp => by simp at hp⟩
      | succ n ih =>
        intro hn
        obtain ⟨lp, q1, q2, q3⟩ := ih (by omega)
        obtain ⟨x, hx⟩ : ∃ x, os[n]? = some x := ⟨_, List.getElem?_eq_getElem (by omega)⟩
        obtain ⟨e0, fv, e1, hf⟩ := hH n (by omega) x hx
        have hl : lp.length = n := by
          have := congrArg List.length q1
          rw [List.length_map, List.length_take] at this
          omega
        refine ⟨lp ++ [(x, fv)], by rw [List.map_append, q1, List.take_add_one, hx]; rfl, fun p hp => ?_, fun i p hp => ?_⟩
        · rcases List.mem_append.1 hp with hp | hp
          · exact q2 p hp
          · rw [List.mem_singleton] at hp
            subst hp
            exact hf
        · rcases Nat.lt_or_ge i lp.length with hi | hi
          · rw [List.getElem?_append_left hi] at hp
            exact q3 i p hp
          · rw [List.getElem?_append_right hi] at hp
            have hi2 : i = n := by
              have := (List.getElem?_eq_some_iff.1 hp).1
              simp at this
              omega
            subst hi2
            rw [hl, Nat.sub_self] at hp
            simp at hp
            subst hp
            exact ⟨e0, e1⟩
    obtain ⟨lp, q1, q2, q3⟩ := each2 os.length (Nat.le_refl _)
    rw [List.take_length] at q1
    refine ⟨lp.flatMap obC, Or.inr ⟨⟨b, o, none⟩, c, rfl, fun k v hk => ?_⟩, lp, q1, rfl, q2⟩
    obtain ⟨i, p, h1, h2⟩ := flat2 (fun p : Ob × Value => .string ⟨p.1.n.toArray⟩) (fun p => p.2) lp k v hk
    obtain ⟨c0, c1⟩ := q3 i p h1
    rw [Addr.add_lit]
    rcases h2 with ⟨e, e2⟩ | ⟨e, e2⟩
    · rw [e, e2]; exact c0
    · rw [e, e2, ← Nat.add_assoc]; exact c1
theorem src_ens {v : Value} {os : List En} (h : EnsAt W v os) (hn : Nn v) : ∃ news, Src W v os.length news ∧ EnC W news os := by
  obtain ⟨a, c, rfl, hc, hm, hr⟩ := h
  rcases Nat.eq_zero_or_pos os.length with h0 | h0
  · have e := List.length_eq_zero_iff.1 h0
    subst e
    refine ⟨[], ?_, EnC.nil⟩
    rcases hn with hn | ⟨ad, n, cp, hn⟩
    · exact Or.inl ⟨hn, rfl, rfl⟩
    · cases hn
      exact Or.inr ⟨ad, c, rfl, fun k v hk => by simp at hk⟩
  · obtain ⟨b, o, rfl, hb, hH⟩ := hr h0
    have each2 : ∀ n, n ≤ os.length → ∃ lp : List (En × Value), lp.map (·.1) = os.take n ∧ (∀ p ∈ lp, WdsAt W p.2 p.1.ws) ∧ ∀ i p, lp[i]? = some p → W.cell? ⟨b, o + i * 2, none⟩ = some (.string ⟨p.1.n.toArray⟩) ∧ W.cell? ⟨b, o + i * 2 + 1, none⟩ = some p.2 := by
      intro n
      induction n with
      | zero => exact fun _ => ⟨[], by simp, (fun p hp => by cases hp), fun i p hp => by simp at hp⟩
      | succ n ih =>
        intro hn
        obtain ⟨lp, q1, q2, q3⟩ := ih (by omega)
        obtain ⟨x, hx⟩ : ∃ x, os[n]? = some x := ⟨_, List.getElem?_eq_getElem (by omega)⟩
        obtain ⟨e0, fv, e1, hf⟩ := hH n (by omega) x hx
        have hl : lp.length = n := by
          have := congrArg List.length q1
          rw [List.length_map, List.length_take] at this
          omega
        refine ⟨lp ++ [(x, fv)], by rw [List.map_append, q1, List.take_add_one, hx]; rfl, fun p hp => ?_, fun i p hp => ?_⟩
        · rcases List.mem_append.1 hp with hp | hp
          · exact q2 p hp
          · rw [List.mem_singleton] at hp
            subst hp
            exact hf
        · rcases Nat.lt_or_ge i lp.length with hi | hi
          · rw [List.getElem?_append_left hi] at hp
            exact q3 i p hp
          · rw [List.getElem?_append_right hi] at hp
            have hi2 : i = n := by
              have := (List.getElem?_eq_some_iff.1 hp).1
              simp at this
              omega
            subst hi2
            rw [hl, Nat.sub_self] at hp
            simp at hp
            subst hp
            exact ⟨e0, e1⟩
    obtain ⟨lp, q1, q2, q3⟩ := each2 os.length (Nat.le_refl _)
    rw [List.take_length] at q1
    refine ⟨lp.flatMap enC, Or.inr ⟨⟨b, o, none⟩, c, rfl, fun k v hk => ?_⟩, lp, q1, rfl, q2⟩
    obtain ⟨i, p, h1, h2⟩ := flat2 (fun p : En × Value => .string ⟨p.1.n.toArray⟩) (fun p => p.2) lp k v hk
    obtain ⟨c0, c1⟩ := q3 i p h1
    rw [Addr.add_lit]
    rcases h2 with ⟨e, e2⟩ | ⟨e, e2⟩
    · rw [e, e2]; exact c0
    · rw [e, e2, ← Nat.add_assoc]; exact c1
end
end Go.Proofs.YtlabcadpkdgjnaaGreatDoor
