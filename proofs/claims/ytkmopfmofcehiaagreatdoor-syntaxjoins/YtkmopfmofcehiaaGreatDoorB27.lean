/- Rows put together in whatever order. -/
import Derived.Test.YtkmopfmofcehiaaGreatDoorB24
import Derived.Deep.AppendLies
import Derived.Laws.OwnMore
import Derived.Laws.AppendOwnNone
namespace Go.Proofs.YtkmopfmofcehiaaGreatDoor
open Go Go.RowKit Go.Shelf

section
variable {w : World} {ops : Array Oper} {o : Oper} {a : Act} {K : Act → World → Prop} {Q : Exit → Act → World → Prop} {E' : Prop}
set_option maxRecDepth 100000 in
theorem step_newA (hgd : o.guard = none) (ho : o.op = .buildSlice 22 0 #[])
    (h : K (a.put o.dst (.slice (some ⟨w.heap.size, 0, none⟩) 0 0)) (w.alloc (.cells #[] 61))) :
    if Region.wanted o (yielded ops a.tmps) = true then Oper.wp Tryz.prog o a w K Q else E' := by
  have hw : Region.wanted o (yielded ops a.tmps) = true := by simp [Region.wanted, hgd]
  rw [if_pos hw]
  unfold Oper.wp execOp
  simp only [ho]
  go_simp
  exact h
set_option maxRecDepth 100000 in
theorem step_newB (hgd : o.guard = none) (ho : o.op = .buildSlice 23 0 #[])
    (h : K (a.put o.dst (.slice (some ⟨w.heap.size, 0, none⟩) 0 0)) (w.alloc (.cells #[] 57))) :
    if Region.wanted o (yielded ops a.tmps) = true then Oper.wp Tryz.prog o a w K Q else E' := by
  have hw : Region.wanted o (yielded ops a.tmps) = true := by simp [Region.wanted, hgd]
  rw [if_pos hw]
  unfold Oper.wp execOp
  simp only [ho]
  go_simp
  exact h
set_option maxRecDepth 100000 in
theorem step_newC (hgd : o.guard = none) (ho : o.op = .alloc 25)
    (h : K (a.put o.dst (.pointer (some ⟨w.heap.size, 0, none⟩))) (w.alloc (.cells #[.slice none 0 0, .slice none 0 0] 25))) :
    if Region.wanted o (yielded ops a.tmps) = true then Oper.wp Tryz.prog o a w K Q else E' := by
  have hw : Region.wanted o (yielded ops a.tmps) = true := by simp [Region.wanted, hgd]
  rw [if_pos hw]
  unfold Oper.wp execOp
  simp only [ho]
  go_simp
  exact h
/-- A row appended to a row that the call owns. -/
theorem step_row (hgd : o.guard = none) (sl x : Operand) (t : TypeId)
    (ho : o.op = .call { callee := .builtin .append, args := #[sl, x], argTypes := #[t, t] })
    (base : Nat) (e : TypeId) (i : TypeInfo) (z : Value) (size bytes : Nat) (ht : Tryz.prog.underlying t = some (.slice e)) (hi : Tryz.prog.info? e = some i) (hz : i.zero = some z)
    (hsize : i.size = size) (hby : i.bytes = bytes) (hzs : z.cells.size = size) (hsz : 0 < size)
    (q cap n : Nat) (xs : List Value) (hs : a.eval sl = .slice (some ⟨q, 0, none⟩) n cap) (hown : w.ownsRow base e size (.slice (some ⟨q, 0, none⟩) n cap) n xs)
    (D : Nat → Prop) (els : List (List CT)) (u : Value) (hx : a.eval x = u) (hat : At w D (rowC e size els) u) (hel : ∀ y ∈ els, y.length = size) (h1 : ∀ us, Ats w D els.flatten us → ∀ u ∈ us, u.oneCell' = true)
    (h63 : n + els.length ≤ maxLen) (hbytes : (n + els.length) * bytes ≤ 140737488355328) (hbase : base ≤ w.heap.size)
    (h : ∀ g cap' w' news, w'.ownsRow base e size (.slice (some ⟨g, 0, none⟩) (n + els.length) cap') (n + els.length) (xs ++ news) → Ats w D els.flatten news → w.grownBy w' (some q) → (g = q ∨ g = w.heap.size) → K (a.put o.dst (.slice (some ⟨g, 0, none⟩) (n + els.length) cap')) w') :
    if Region.wanted o (yielded ops a.tmps) = true then Oper.wp Tryz.prog o a w K Q else E' := by
  have hfl : els.flatten.length = els.length * size := by
    clear hat h1 h63 hbytes h
    induction els with
    | nil => simp
    | cons y ys ih =>
      have e1 := ih fun y hy => hel y (List.mem_cons_of_mem _ hy)
      have e2 := hel y List.mem_cons_self
      rw [List.flatten_cons, List.length_append, e1, e2, List.length_cons, Nat.add_mul]
      omega
  have hw : Region.wanted o (yielded ops a.tmps) = true := by simp [Region.wanted, hgd]
  have hself : w.grownBy w (some q) := ⟨rfl, rfl, rfl, Nat.le_refl _, fun _ _ _ => rfl⟩
  rw [if_pos hw]
  have hat2 : At w D (.rw e size els.length els.flatten) u := hat
  clear hat
  generalize hys : els.flatten = ys at *
  generalize hm : els.length = m at *
  cases hat2 with
  | nil =>
    have hk := h q cap w [] (by simpa using hown) Ats.nil hself (Or.inl rfl)
    simp only [Nat.add_zero] at hk
    have hrun := run_append_owned_none (P := Tryz.prog) (w := w) base t o.type e i size ht hi _ n xs hown
    unfold Oper.wp
    simp [execOp, ho, resolve, invoke, builtin, hs, hx, hrun, Result.andThen]
    exact hk
  | row hb hD hn hl hc hy =>
    rename_i q' cp cur
    have hnl : (cur.toList.take (m * size)).length = m * size := by
      rw [List.length_take, Array.length_toList]; omega
    have hat' : Ats w D ys (cur.toList.take (m * size)) := by
      refine ⟨by rw [hnl, hl], fun k y v h1 h2 => hy k y v h1 ?_⟩
      rw [List.getElem?_take] at h2
      split at h2
      · simpa using h2
      · cases h2
    have hnews : ∀ k v, (cur.toList.take (m * size))[k]? = some v → w.cell? ((⟨q', 0, none⟩ : Addr).add k) = some v := by
      intro k v hk
      refine World.news_of_block hb k v ?_
      rw [List.getElem?_take] at hk
      split at hk
      · exact hk
      · cases hk
    obtain ⟨v', w', hr, g1, g2, g3, g4⟩ := run_append_own_at (P := Tryz.prog) w base t o.type e i z size bytes ht hi hz hsize hby hzs hsz _ n xs hown ⟨q', 0, none⟩ m cp _ hnl hnews (h1 _ hat') h63 hbytes hbase
    have hne : v' ≠ .slice none 0 0 := fun e => by have := (g3.1 e).1; cases this
    rcases g1.2 with ⟨e1, _⟩ | ⟨g, cap', _, e1, _⟩
    · exact absurd e1 hne
    · subst e1
      unfold Oper.wp execOp
      simp only [ho, resolve, invoke, builtin, Sem.run_bind, Sem.run_pure, Result.andThen_ok, List.map_toArray, List.map_cons, List.map_nil, hs, hx, hr]
      refine h g cap' w' _ g1 hat' g2 ?_
      rcases g4 with g4 | g4
      · left
        simpa [Value.ownBlock] using g4
      · right
        simpa [Value.ownBlock] using g4
end
/-! ### One cell each -/
def CellOk : CT → Prop
  | .lf v => v.oneCell' = true
  | .rw _ _ _ _ => True
theorem At.one {w : World} {D : Nat → Prop} {y : CT} {u : Value} (h : At w D y u) (hy : CellOk y) : u.oneCell' = true := by
  cases h with
  | lf v => exact hy
  | nil => rfl
  | row => rfl
theorem ats_one {w : World} {D : Nat → Prop} {ys : List CT} {us : List Value} (h : Ats w D ys us) (hy : ∀ y ∈ ys, CellOk y) : ∀ u ∈ us, u.oneCell' = true := by
  intro u hu
  obtain ⟨k, hk, rfl⟩ := List.getElem_of_mem hu
  have hk' : k < ys.length := by rw [h.len]; exact hk
  exact (h.all k ys[k] us[k] (List.getElem?_eq_getElem hk') (List.getElem?_eq_getElem hk)).one (hy _ (List.getElem_mem hk'))
theorem OpT.ok {cs : List CT} (h : OpT cs) : ∀ y ∈ cs, CellOk y := by
  obtain ⟨k, t, vs, ds, ss, rfl, _⟩ := h
  intro y hy
  simp only [opC, List.mem_cons, List.not_mem_nil, or_false] at hy
  rcases hy with rfl | rfl | rfl | rfl | rfl <;> first | rfl | trivial
theorem FragT.ok {cs : List CT} (h : FragT cs) : ∀ y ∈ cs, CellOk y := by
  obtain ⟨t, u, ds, ss, rfl, _⟩ := h
  intro y hy
  simp only [fragC, List.mem_cons, List.not_mem_nil, or_false] at hy
  rcases hy with rfl | rfl | rfl | rfl <;> first | rfl | trivial
theorem rows_ok {p : List CT → Prop} (hp : ∀ cs, p cs → ∀ y ∈ cs, CellOk y) {els : List (List CT)} (h : RowP p els) : ∀ y ∈ els.flatten, CellOk y := by
  intro y hy
  obtain ⟨cs, h1, h2⟩ := List.mem_flatten.1 hy
  exact hp cs (h.2 cs h1) y h2
/-! ### What is held whatever the order -/
/-- W: the world at first, B blocks; ca, cb: the two rows (block, room, elements); qc: the block of what is built. -/
structure RS (B : Nat) (W w : World) (ca cb : Option (Nat × Nat × List (List CT))) (qc : Option Nat) : Prop where
  s : Below B W w
  hB : B = W.heap.size
  a : ∀ q cap els, ca = some (q, cap, els) → ∃ xs, w.ownsRow B 61 5 (.slice (some ⟨q, 0, none⟩) els.length cap) els.length xs ∧ Ats W (fun k => k < B) els.flatten xs
  b : ∀ q cap els, cb = some (q, cap, els) → ∃ xs, w.ownsRow B 57 4 (.slice (some ⟨q, 0, none⟩) els.length cap) els.length xs ∧ Ats W (fun k => k < B) els.flatten xs
  c : ∀ q, qc = some q → w.heap[q]? = some (.cells #[.slice none 0 0, .slice none 0 0] 25 (0, 0)) ∧ B ≤ q
  ab : ∀ q cap els q' cap' els', ca = some (q, cap, els) → cb = some (q', cap', els') → q ≠ q'
  ac : ∀ q cap els q', ca = some (q, cap, els) → qc = some q' → q ≠ q'
  bc : ∀ q cap els q', cb = some (q, cap, els) → qc = some q' → q ≠ q'
section
variable {B : Nat} {W w w' : World} {ca cb : Option (Nat × Nat × List (List CT))} {qc : Option Nat}
theorem own_lt {B E sz n q cap : Nat} {xs : List Value} (h : w.ownsRow B E sz (.slice (some ⟨q, 0, none⟩) n cap) n xs) : q < w.heap.size := (own_block h (q := q) rfl).2
theorem RS.alloc (r : RS B W w ca cb qc) (o : Obj) : RS B W (w.alloc o) ca cb qc where
  s := r.s.alloc (by rw [r.hB]; exact r.hB ▸ r.s.size) o
  hB := r.hB
  a := fun q cap els e => by
    obtain ⟨xs, h1, h2⟩ := r.a q cap els e
    exact ⟨xs, own_keep h1 fun k hk => (al1 w o).block k (own_block h1 hk).2, h2⟩
  b := fun q cap els e => by
    obtain ⟨xs, h1, h2⟩ := r.b q cap els e
    exact ⟨xs, own_keep h1 fun k hk => (al1 w o).block k (own_block h1 hk).2, h2⟩
  c := fun q e => by
    obtain ⟨h1, h2⟩ := r.c q e
    exact ⟨((al1 w o).block q (lt_of_block h1)).trans h1, h2⟩
  ab := r.ab
  ac := r.ac
  bc := r.bc
theorem RS.newA (r : RS B W w none cb qc) : RS B W (w.alloc (.cells #[] 61)) (some (w.heap.size, 0, [])) cb qc where
  s := (r.alloc _).s
  hB := r.hB
  a := fun q cap els e => by
    cases e
    exact ⟨[], ⟨rfl, Or.inr ⟨w.heap.size, 0, #[], rfl, by rw [r.hB]; exact r.hB ▸ r.s.size, heap_alloc_new _ _, Nat.le_refl _, Nat.zero_le _, rfl, rfl⟩⟩, Ats.nil⟩
  b := (r.alloc _).b
  c := (r.alloc _).c
  ab := fun q cap els q' cap' els' e e' => by
    cases e
    obtain ⟨xs, h1, _⟩ := r.b q' cap' els' e'
    have := own_lt h1
    omega
  ac := fun q cap els q' e e' => by
    cases e
    have := lt_of_block (r.c q' e').1
    omega
  bc := r.bc
theorem RS.newB (r : RS B W w ca none qc) : RS B W (w.alloc (.cells #[] 57)) ca (some (w.heap.size, 0, [])) qc where
  s := (r.alloc _).s
  hB := r.hB
  a := (r.alloc _).a
  b := fun q cap els e => by
    cases e
    exact ⟨[], ⟨rfl, Or.inr ⟨w.heap.size, 0, #[], rfl, by rw [r.hB]; exact r.hB ▸ r.s.size, heap_alloc_new _ _, Nat.le_refl _, Nat.zero_le _, rfl, rfl⟩⟩, Ats.nil⟩
  c := (r.alloc _).c
  ab := fun q cap els q' cap' els' e e' => by
    cases e'
    obtain ⟨xs, h1, _⟩ := r.a q cap els e
    have := own_lt h1
    omega
  ac := r.ac
  bc := fun q cap els q' e e' => by
    cases e
    have := lt_of_block (r.c q' e').1
    omega
theorem RS.newC (r : RS B W w ca cb none) : RS B W (w.alloc (.cells #[.slice none 0 0, .slice none 0 0] 25)) ca cb (some w.heap.size) where
  s := (r.alloc _).s
  hB := r.hB
  a := (r.alloc _).a
  b := (r.alloc _).b
  c := fun q e => by
    cases e
    exact ⟨heap_alloc_new _ _, by rw [r.hB]; exact r.hB ▸ r.s.size⟩
  ab := r.ab
  ac := fun q cap els q' e e' => by
    cases e'
    obtain ⟨xs, h1, _⟩ := r.a q cap els e
    have := own_lt h1
    omega
  bc := fun q cap els q' e e' => by
    cases e'
    obtain ⟨xs, h1, _⟩ := r.b q cap els e
    have := own_lt h1
    omega
theorem RS.pushA {q cap g cap' : Nat} {els new : List (List CT)} {xs news : List Value} (r : RS B W w (some (q, cap, els)) cb qc) (hg : w.grownBy w' (some q)) (hx : Ats W (fun k => k < B) els.flatten xs) (hn : Ats W (fun k => k < B) new.flatten news) (ho : w'.ownsRow B 61 5 (.slice (some ⟨g, 0, none⟩) (els.length + new.length) cap') (els.length + new.length) (xs ++ news)) (hq : g = q ∨ g = w.heap.size) : RS B W w' (some (g, cap', els ++ new)) cb qc where
  s := r.s.grown hg (by rw [r.hB]; exact r.hB ▸ r.s.size) (fun k e => by
    obtain ⟨_, h1, _⟩ := r.a q cap els rfl
    injection e with e
    exact e ▸ (own_block h1 (q := q) rfl).1)
  hB := r.hB
  a := fun q1 cap1 els1 e => by
    cases e
    refine ⟨xs ++ news, ?_, by rw [List.flatten_append]; exact hx.append hn⟩
    rw [List.length_append]
    exact ho
  b := fun q1 cap1 els1 e => by
    obtain ⟨ys, h1, h2⟩ := r.b q1 cap1 els1 e
    refine ⟨ys, own_keep h1 fun k hk => hg.block k (own_block h1 hk).2 (fun e2 => ?_), h2⟩
    have e3 : q1 = k := by simpa [Value.ownBlock] using hk
    injection e2 with e2
    exact r.ab q cap els q1 cap1 els1 rfl e (by omega)
  c := fun q1 e => by
    obtain ⟨h1, h2⟩ := r.c q1 e
    refine ⟨(hg.block q1 (lt_of_block h1) (fun e2 => ?_)).trans h1, h2⟩
    injection e2 with e2
    exact r.ac q cap els q1 rfl e e2.symm
  ab := fun q1 cap1 els1 q2 cap2 els2 e e' => by
    cases e
    rcases hq with rfl | rfl
    · exact r.ab _ _ _ _ _ _ rfl e'
    · obtain ⟨ys, h1, _⟩ := r.b q2 cap2 els2 e'
      have := own_lt h1
      omega
  ac := fun q1 cap1 els1 q2 e e' => by
    cases e
    rcases hq with rfl | rfl
    · exact r.ac _ _ _ _ rfl e'
    · have := lt_of_block (r.c q2 e').1
      omega
  bc := r.bc
theorem RS.pushB {q cap g cap' : Nat} {els new : List (List CT)} {xs news : List Value} (r : RS B W w ca (some (q, cap, els)) qc) (hg : w.grownBy w' (some q)) (hx : Ats W (fun k => k < B) els.flatten xs) (hn : Ats W (fun k => k < B) new.flatten news) (ho : w'.ownsRow B 57 4 (.slice (some ⟨g, 0, none⟩) (els.length + new.length) cap') (els.length + new.length) (xs ++ news)) (hq : g = q ∨ g = w.heap.size) : RS B W w' ca (some (g, cap', els ++ new)) qc where
  s := r.s.grown hg (by rw [r.hB]; exact r.hB ▸ r.s.size) (fun k e => by
    obtain ⟨_, h1, _⟩ := r.b q cap els rfl
    injection e with e
    exact e ▸ (own_block h1 (q := q) rfl).1)
  hB := r.hB
  b := fun q1 cap1 els1 e => by
    cases e
    refine ⟨xs ++ news, ?_, by rw [List.flatten_append]; exact hx.append hn⟩
    rw [List.length_append]
    exact ho
  a := fun q1 cap1 els1 e => by
    obtain ⟨ys, h1, h2⟩ := r.a q1 cap1 els1 e
    refine ⟨ys, own_keep h1 fun k hk => hg.block k (own_block h1 hk).2 (fun e2 => ?_), h2⟩
    have e3 : q1 = k := by simpa [Value.ownBlock] using hk
    injection e2 with e2
    exact r.ab q1 cap1 els1 q cap els e rfl (by omega)
  c := fun q1 e => by
    obtain ⟨h1, h2⟩ := r.c q1 e
    refine ⟨(hg.block q1 (lt_of_block h1) (fun e2 => ?_)).trans h1, h2⟩
    injection e2 with e2
    exact r.bc q cap els q1 rfl e e2.symm
  ab := fun q1 cap1 els1 q2 cap2 els2 e e' => by
    cases e'
    rcases hq with rfl | rfl
    · exact r.ab _ _ _ _ _ _ e rfl
    · obtain ⟨ys, h1, _⟩ := r.a q1 cap1 els1 e
      have := own_lt h1
      omega
  bc := fun q1 cap1 els1 q2 e e' => by
    cases e
    rcases hq with rfl | rfl
    · exact r.bc _ _ _ _ rfl e'
    · have := lt_of_block (r.c q2 e').1
      omega
  ac := r.ac
end
theorem Tryz.infoOpJ : (Tryz.prog.info? 61).map (fun i => (i.zero, i.size, i.bytes)) = some (some (.agg #[.int .i64 0, .string ⟨#[]⟩, .slice none 0 0, .slice none 0 0, .slice none 0 0]), 5, 96) := by kernel_rfl
theorem Tryz.infoFragJ : (Tryz.prog.info? 57).map (fun i => (i.zero, i.size, i.bytes)) = some (some (.agg #[.string ⟨#[]⟩, .string ⟨#[]⟩, .slice none 0 0, .slice none 0 0]), 4, 80) := by kernel_rfl
section
variable {B : Nat} {W w : World} {ca cb : Option (Nat × Nat × List (List CT))} {qc : Option Nat}
/-- The step: a row appended to the first row. -/
theorem rs_A {ops : Array Oper} {o : Oper} {a : Act} {K : Act → World → Prop} {Q : Exit → Act → World → Prop} {E' : Prop} (sl x : Operand) (q cap : Nat) (els new : List (List CT)) (u : Value)
    (hgd : o.guard = none) (ho : o.op = .call { callee := .builtin .append, args := #[sl, x], argTypes := #[22, 22] })
    (hs : a.eval sl = .slice (some ⟨q, 0, none⟩) els.length cap) (hx : a.eval x = u) (hat : At W (fun k => k < B) (rowC 61 5 new) u) (hnew : RowP OpT new) (hsm : els.length + new.length ≤ 1000000) (r : RS B W w (some (q, cap, els)) cb qc)
    (h : ∀ g cap' w', RS B W w' (some (g, cap', els ++ new)) cb qc → K (a.put o.dst (.slice (some ⟨g, 0, none⟩) (els ++ new).length cap')) w') :
    if Region.wanted o (yielded ops a.tmps) = true then Oper.wp Tryz.prog o a w K Q else E' := by
  simp only [List.length_append] at h
  obtain ⟨xs, h1, h2⟩ := r.a q cap els rfl
  obtain ⟨ti, hti, hy0, hy1, hy2⟩ := info_parts Tryz.infoOpJ
  have hBs : B ≤ w.heap.size := by rw [r.hB]; exact r.hB ▸ r.s.size
  have hk : ∀ k, k < B → w.heap[k]? = W.heap[k]? := fun k hk => r.s.block k hk
  refine step_row hgd sl x 22 ho B 61 ti _ 5 96 Tryz.underlying22 hti hy0 hy1 hy2 rfl (by decide) q cap els.length xs hs h1 (fun k => k < B) new u hx (hat.keep hk) (fun y hy => OpT.len (hnew.2 y hy)) (fun us hus => ats_one hus (rows_ok (fun cs => OpT.ok) hnew)) (by unfold maxLen; omega) (by omega) hBs ?_
  intro g cap' w' news g1 g2 g3 g4
  exact h g cap' w' (r.pushA g3 h2 (g2.keep fun k hk' => (hk k hk').symm) g1 g4)
/-- The step: a row appended to the second row. -/
theorem rs_B {ops : Array Oper} {o : Oper} {a : Act} {K : Act → World → Prop} {Q : Exit → Act → World → Prop} {E' : Prop} (sl x : Operand) (q cap : Nat) (els new : List (List CT)) (u : Value)
    (hgd : o.guard = none) (ho : o.op = .call { callee := .builtin .append, args := #[sl, x], argTypes := #[23, 23] })
    (hs : a.eval sl = .slice (some ⟨q, 0, none⟩) els.length cap) (hx : a.eval x = u) (hat : At W (fun k => k < B) (rowC 57 4 new) u) (hnew : RowP FragT new) (hsm : els.length + new.length ≤ 1000000) (r : RS B W w ca (some (q, cap, els)) qc)
    (h : ∀ g cap' w', RS B W w' ca (some (g, cap', els ++ new)) qc → K (a.put o.dst (.slice (some ⟨g, 0, none⟩) (els ++ new).length cap')) w') :
    if Region.wanted o (yielded ops a.tmps) = true then Oper.wp Tryz.prog o a w K Q else E' := by
  simp only [List.length_append] at h
  obtain ⟨xs, h1, h2⟩ := r.b q cap els rfl
  obtain ⟨ti, hti, hy0, hy1, hy2⟩ := info_parts Tryz.infoFragJ
  have hBs : B ≤ w.heap.size := by rw [r.hB]; exact r.hB ▸ r.s.size
  have hk : ∀ k, k < B → w.heap[k]? = W.heap[k]? := fun k hk => r.s.block k hk
  refine step_row hgd sl x 23 ho B 57 ti _ 4 80 Tryz.underlying23 hti hy0 hy1 hy2 rfl (by decide) q cap els.length xs hs h1 (fun k => k < B) new u hx (hat.keep hk) (fun y hy => FragT.len (hnew.2 y hy)) (fun us hus => ats_one hus (rows_ok (fun cs => FragT.ok) hnew)) (by unfold maxLen; omega) (by omega) hBs ?_
  intro g cap' w' news g1 g2 g3 g4
  exact h g cap' w' (r.pushB g3 h2 (g2.keep fun k hk' => (hk k hk').symm) g1 g4)
section
variable {ops : Array Oper} {o : Oper} {a : Act} {K : Act → World → Prop} {Q : Exit → Act → World → Prop} {E' : Prop}
theorem rs_newA (r : RS B W w none cb qc) (hgd : o.guard = none) (ho : o.op = .buildSlice 22 0 #[]) (h : ∀ q w', RS B W w' (some (q, 0, [])) cb qc → K (a.put o.dst (.slice (some ⟨q, 0, none⟩) 0 0)) w') :
    if Region.wanted o (yielded ops a.tmps) = true then Oper.wp Tryz.prog o a w K Q else E' := step_newA hgd ho (h _ _ r.newA)
theorem rs_newB (r : RS B W w ca none qc) (hgd : o.guard = none) (ho : o.op = .buildSlice 23 0 #[]) (h : ∀ q w', RS B W w' ca (some (q, 0, [])) qc → K (a.put o.dst (.slice (some ⟨q, 0, none⟩) 0 0)) w') :
    if Region.wanted o (yielded ops a.tmps) = true then Oper.wp Tryz.prog o a w K Q else E' := step_newB hgd ho (h _ _ r.newB)
theorem rs_newC (r : RS B W w ca cb none) (hgd : o.guard = none) (ho : o.op = .alloc 25) (h : ∀ q w', RS B W w' ca cb (some q) → K (a.put o.dst (.pointer (some ⟨q, 0, none⟩))) w') :
    if Region.wanted o (yielded ops a.tmps) = true then Oper.wp Tryz.prog o a w K Q else E' := step_newC hgd ho (h _ _ r.newC)
end
theorem RS.drew (r : RS B W w ca cb qc) : RS B W w.drew ca cb qc where
  s := r.s.trans ⟨rfl, rfl, rfl, Nat.le_refl _, fun _ _ => rfl⟩
  hB := r.hB
  a := r.a
  b := r.b
  c := r.c
  ab := r.ab
  ac := r.ac
  bc := r.bc
theorem RS.nA (r : RS B W w none cb qc) {q : Nat} (hq : w.heap.size = q) : RS B W (w.alloc (.cells #[] 61)) (some (q, 0, [])) cb qc := hq ▸ r.newA
theorem RS.nB (r : RS B W w ca none qc) {q : Nat} (hq : w.heap.size = q) : RS B W (w.alloc (.cells #[] 57)) ca (some (q, 0, [])) qc := hq ▸ r.newB
theorem RS.nC (r : RS B W w ca cb none) {q : Nat} (hq : w.heap.size = q) : RS B W (w.alloc (.cells #[.slice none 0 0, .slice none 0 0] 25)) ca cb (some q) := hq ▸ r.newC
theorem rs_begin (W : World) : RS W.heap.size W W none none none where
  s := Below.refl _ _
  hB := rfl
  a := fun _ _ _ e => by cases e
  b := fun _ _ _ e => by cases e
  c := fun _ e => by cases e
  ab := fun _ _ _ _ _ _ e _ => by cases e
  ac := fun _ _ _ _ e _ => by cases e
  bc := fun _ _ _ _ e _ => by cases e
/-- What is built, in the end. -/
theorem rs_end {qa capa qb capb q na nb : Nat} {A C : List (List CT)} (r : RS B W w (some (qa, capa, A)) (some (qb, capb, C)) (some q)) (hna : A.length = na) (hnb : C.length = nb) :
    Below B W ((w.setCell ⟨q, 0, none⟩ (.slice (some ⟨qa, 0, none⟩) na capa)).setCell ⟨q, 1, none⟩ (.slice (some ⟨qb, 0, none⟩) nb capb)) ∧
    Ats ((w.setCell ⟨q, 0, none⟩ (.slice (some ⟨qa, 0, none⟩) na capa)).setCell ⟨q, 1, none⟩ (.slice (some ⟨qb, 0, none⟩) nb capb)) (fun k => k < ((w.setCell ⟨q, 0, none⟩ (.slice (some ⟨qa, 0, none⟩) na capa)).setCell ⟨q, 1, none⟩ (.slice (some ⟨qb, 0, none⟩) nb capb)).heap.size) (docR A C) [.slice (some ⟨qa, 0, none⟩) A.length capa, .slice (some ⟨qb, 0, none⟩) C.length capb] := by
  subst hna hnb
  obtain ⟨xs, a1, a2⟩ := r.a qa capa A rfl
  obtain ⟨ys, b1, b2⟩ := r.b qb capb C rfl
  obtain ⟨c1, c2⟩ := r.c q rfl
  have hBs : B ≤ w.heap.size := by rw [r.hB]; exact r.hB ▸ r.s.size
  have K2 : Kp (Own1 q) w ((w.setCell ⟨q, 0, none⟩ (.slice (some ⟨qa, 0, none⟩) A.length capa)).setCell ⟨q, 1, none⟩ (.slice (some ⟨qb, 0, none⟩) C.length capb)) := (Kp.own q 0 _).set q 1 _ (Or.inr rfl)
  generalize (w.setCell ⟨q, 0, none⟩ (.slice (some ⟨qa, 0, none⟩) A.length capa)).setCell ⟨q, 1, none⟩ (.slice (some ⟨qb, 0, none⟩) C.length capb) = w2 at *
  have hbel : Below B W w2 := r.s.trans ⟨K2.os, K2.tape, K2.output, K2.size, fun k hk => K2.block k (by omega) (fun e => by have e' : k = q := e; omega)⟩
  have hz := K2.size
  refine ⟨hbel, ?_⟩
  have row : ∀ {E sz qx n cap : Nat} {els : List (List CT)} {zs : List Value}, n = els.length → qx ≠ q → w.ownsRow B E sz (.slice (some ⟨qx, 0, none⟩) n cap) n zs → Ats W (fun k => k < B) els.flatten zs → At w2 (fun k => k < w2.heap.size) (rowC E sz els) (.slice (some ⟨qx, 0, none⟩) n cap) := by
    intro E sz qx n cap els zs hn hne ho hat
    subst hn
    have hlt := own_lt ho
    rcases ho.2 with ⟨e, _⟩ | ⟨g, cp, cur, e, hg, hb, hn1, _, hc, htk⟩
    · cases e
    · cases e
      have hlen := ho.1
      refine .row ((K2.block qx hlt (fun e => hne e)).trans hb) (by omega) hn1 (by rw [hat.len]; exact hlen) (by rw [hc]; exact Nat.mul_le_mul_right _ hn1) ?_
      intro j y u h1 h2
      have hj : j < els.length * sz := by
        have := (List.getElem?_eq_some_iff.1 h1).1
        rw [hat.len, hlen] at this
        exact this
      have h3 : zs[j]? = some u := by
        rw [← htk, List.getElem?_take, if_pos hj]
        simpa using h2
      refine ((hat.all j y u h1 h3).keep (fun k hk => hbel.block k hk)).mono fun k hk => ?_
      have : k < B := hk
      omega
  exact Ats.cons (row rfl (r.ac _ _ _ _ rfl rfl) a1 a2) (Ats.cons (row rfl (r.bc _ _ _ _ rfl rfl) b1 b2) Ats.nil)
theorem rs_endN {qa capa qb capb : Nat} {A C : List (List CT)} (r : RS B W w (some (qa, capa, A)) (some (qb, capb, C)) none) (o : Obj) :
    Below B W (w.alloc o) ∧ Ats (w.alloc o) (fun k => k < (w.alloc o).heap.size) (docR A C) [.slice (some ⟨qa, 0, none⟩) A.length capa, .slice (some ⟨qb, 0, none⟩) C.length capb] := by
  refine ⟨(r.alloc o).s, ?_⟩
  have hbel := (r.alloc o).s
  have hBs : B ≤ w.heap.size := by rw [r.hB]; exact r.hB ▸ r.s.size
  obtain ⟨xs, a1, a2⟩ := (r.alloc o).a qa capa A rfl
  obtain ⟨ys, b1, b2⟩ := (r.alloc o).b qb capb C rfl
  have hz : w.heap.size ≤ (w.alloc o).heap.size := by simp
  generalize w.alloc o = w2 at *
  have row : ∀ {E sz qx n cap : Nat} {els : List (List CT)} {zs : List Value}, n = els.length → w2.ownsRow B E sz (.slice (some ⟨qx, 0, none⟩) n cap) n zs → Ats W (fun k => k < B) els.flatten zs → At w2 (fun k => k < w2.heap.size) (rowC E sz els) (.slice (some ⟨qx, 0, none⟩) n cap) := by
    intro E sz qx n cap els zs hn ho hat
    subst hn
    have hlt := own_lt ho
    rcases ho.2 with ⟨e, _⟩ | ⟨g, cp, cur, e, hg, hb, hn1, _, hc, htk⟩
    · cases e
    · cases e
      have hlen := ho.1
      refine .row hb hlt hn1 (by rw [hat.len]; exact hlen) (by rw [hc]; exact Nat.mul_le_mul_right _ hn1) ?_
      intro j y u h1 h2
      have hj : j < els.length * sz := by
        have := (List.getElem?_eq_some_iff.1 h1).1
        rw [hat.len, hlen] at this
        exact this
      have h3 : zs[j]? = some u := by
        rw [← htk, List.getElem?_take, if_pos hj]
        simpa using h2
      refine ((hat.all j y u h1 h3).keep (fun k hk => hbel.block k hk)).mono fun k hk => ?_
      have : k < B := hk
      omega
  exact Ats.cons (row rfl a1 a2) (Ats.cons (row rfl b1 b2) Ats.nil)
theorem set2J {w : World} {q : Nat} {ty : TypeId} {x y a b : Value} (h : w.heap[q]? = some (.cells #[x, y] ty (0, 0))) : ((w.setCell ⟨q, 0, none⟩ a).setCell ⟨q, 1, none⟩ b).heap[q]? = some (.cells #[a, b] ty (0, 0)) := by
  have hq := lt_of_block h
  obtain ⟨_, hg⟩ := Array.getElem?_eq_some_iff.1 h
  simp [World.setCell, hq, Array.getElem_modify, hg]
theorem size2J (w : World) (o o' : Obj) : ((w.alloc o).alloc o').heap.size = w.heap.size + 1 + 1 := by simp
end
end Go.Proofs.YtkmopfmofcehiaaGreatDoor
