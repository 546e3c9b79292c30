/- What is ignored between tokens: plain mathematics, and rows of bytes that a call owns. -/
import Derived.Test.YtkmopfmofcehiaaGreatDoorB21
import Derived.Test.YtkmopfmofcehiaaGreatDoorB14
import Derived.Test.YtkmopfmofcehiaaGreatDoorB06
import Derived.OwnWalk
import Derived.OneCell
import Derived.Laws.OwnMore
import Derived.Laws.IdiomStrings
import Derived.Lib.AppendStr
import Derived.Lib.UnsafeStr
import Derived.Deep.AppendLies
namespace Go.Proofs.YtkmopfmofcehiaaGreatDoor
open Go Go.RowKit

def gapB : Nat → Bs
  | 0 => [32]
  | 1 => [44]
  | 2 => [10, 35, 120, 10]
  | _ => [9, 13, 10]
theorem gap_of (k : Nat) : Gap (gapB k) ∧ (∃ c m, gapB k = c :: m ∧ brkL.contains c = false) ∧ (gapB k).length ≤ 4 := by
  match k with
  | 0 => exact ⟨Gap.one rfl, ⟨_, _, rfl, rfl⟩, by decide⟩
  | 1 => exact ⟨Gap.one rfl, ⟨_, _, rfl, rfl⟩, by decide⟩
  | 2 => exact ⟨(Gap.one (c := 10) rfl).app (Gap.com (body := [120]) (c := 10) (by decide) (src_plain _ (by decide)) rfl), ⟨_, _, rfl, rfl⟩, by decide⟩
  | _ + 3 => exact ⟨(Gap.one (c := 9) rfl).app ((Gap.one (c := 13) rfl).app (Gap.one (c := 10) rfl)), ⟨_, _, rfl, rfl⟩, by show 3 ≤ 4; omega⟩
/-- The same pieces, with other gaps. -/
def Gs : List Pc → List Pc → Prop
  | [], [] => True
  | q :: qs, a :: az => q.p = a.p ∧ q.k = a.k ∧ q.t = a.t ∧ (∃ k, q.g = gapB k) ∧ Gs qs az
  | _, _ => False
theorem Gs.len : ∀ {qs az : List Pc}, Gs qs az → qs.length = az.length
  | [], [], _ => rfl
  | _ :: _, _ :: _, h => by
    have := Gs.len h.2.2.2.2
    simp [this]
  | [], _ :: _, h => h.elim
  | _ :: _, [], h => h.elim
theorem Gs.snoc : ∀ {qs az : List Pc} (a : Pc) (k : Nat), Gs qs az → Gs (qs ++ [⟨gapB k, a.p, a.k, a.t⟩]) (az ++ [a])
  | [], [], _, k, _ => ⟨rfl, rfl, rfl, ⟨k, rfl⟩, trivial⟩
  | _ :: _, _ :: _, a, k, h => ⟨h.1, h.2.1, h.2.2.1, h.2.2.2.1, Gs.snoc a k h.2.2.2.2⟩
  | [], _ :: _, _, _, h => h.elim
  | _ :: _, [], _, _, h => h.elim
theorem Gs.says : ∀ {qs az : List Pc}, Gs qs az → saysP qs = saysP az
  | [], [], _ => rfl
  | q :: qs, a :: az, h => by
    have := Gs.says h.2.2.2.2
    unfold saysP at this ⊢
    rw [List.map_cons, List.map_cons, this, h.2.1, h.2.2.1]
  | [], _ :: _, h => h.elim
  | _ :: _, [], h => h.elim
theorem Gs.ok {tl : Bs} : ∀ {qs az : List Pc}, Gs qs az → AllOk az tl → AllOk qs []
  | [], [], _, _ => trivial
  | q :: qs, a :: az, h, ⟨_, h2, _, h4⟩ => by
    obtain ⟨e1, e2, e3, ⟨k, e4⟩, hg⟩ := h
    refine ⟨by rw [e4]; exact (gap_of k).1, by rw [e1, e2, e3]; exact h2, ?_, hg.ok h4⟩
    cases qs with
    | nil => rfl
    | cons q' qs' =>
      cases az with
      | nil => exact hg.elim
      | cons a' az' =>
        obtain ⟨_, _, _, ⟨k', e5⟩, _⟩ := hg
        obtain ⟨_, ⟨c, m, e6, e7⟩, _⟩ := gap_of k'
        show Fits q.p (q'.g ++ (q'.p ++ catP qs' []))
        rw [e5, e6]
        exact fits_blank _ _ _ e7
  | [], _ :: _, h, _ => h.elim
  | _ :: _, [], h, _ => h.elim
theorem Gs.size : ∀ {qs az : List Pc}, Gs qs az → (catP qs []).length ≤ (catP az []).length + 4 * az.length
  | [], [], _ => Nat.zero_le _
  | q :: qs, a :: az, h => by
    obtain ⟨e1, _, _, ⟨k, e4⟩, hg⟩ := h
    have h1 := hg.size
    have h2 := (gap_of k).2.2
    show (q.g ++ (q.p ++ catP qs [])).length ≤ (a.g ++ (a.p ++ catP az [])).length + 4 * (a :: az).length
    simp only [List.length_append, List.length_cons, e1, e4]
    omega
  | [], _ :: _, h => h.elim
  | _ :: _, [], h => h.elim
theorem ign_same {s : Bs} {ps qs : List Pc} {tl : Bs} (hr : Right s ps tl) (hg : Gs qs ps) (hl : (catP qs []).length ≤ 16384) :
    (∃ xs, parseS s = .ok (docC xs) ∧ parseS (catP qs []) = .ok (docC xs) ∧ ∃ l m, l.length ≤ 1099511627776 ∧ itsS l = .ok (xs, m)) ∨ ∃ c p p', parseS s = .error (p, c) ∧ parseS (catP qs []) = .error (p', c) := by
  have hr' : Right (catP qs []) qs [] := ⟨rfl, hg.ok hr.ok, by rw [hg.len]; exact hr.few, skip_nil, hl⟩
  have e1 := lexS_right hr
  have e2 := lexS_right hr'
  have hne : NoE (toksP s.length ps tl) := (lexS_full e1).2.2
  have hs : saysK (toksP s.length ps tl) = saysK (toksP (catP qs []).length qs []) := (toksP_says _ ps tl).trans (hg.says.symm.trans (toksP_says _ qs []).symm)
  unfold parseS
  rw [e1, e2]
  simp only
  rcases doc_says s.length (catP qs []).length hs hne with ⟨d, h1, h2⟩ | ⟨c, p, p', h1, h2⟩
  · obtain ⟨xs, _, hit, rfl⟩ := doc_ok_its hne h1
    refine .inl ⟨xs, by rw [h1], by rw [h2], _, _, ?_, hit⟩
    have := (lexS_full e1).1
    simp only [List.length_append, List.length_cons, List.length_nil]
    omega
  · exact .inr ⟨c, p, p', by rw [h1], by rw [h2]⟩
/-! ### A round -/
structure RndI (s : Bs) (ps : List Pc) (ts : List Tok) (j : Nat) (a : Pc) (t : Tok) : Prop where
  at_ : ts[j]? = some t
  lt : t.b < t.e
  hi : t.e ≤ s.length
  cut : (ByteArray.mk s.toArray).extract t.b t.e = ⟨a.p.toArray⟩
  len : a.p.length = t.e - t.b
  nxt : ps.take (j + 1) = ps.take j ++ [a]
theorem rndI_of {s : Bs} {ps : List Pc} {tl : Bs} (h : Right s ps tl) (j : Nat) (hj : j < ps.length) : ∃ a t, RndI s ps (toksP s.length ps tl) j a t := by
  have hsp : ps = ps.take j ++ ps[j] :: ps.drop (j + 1) := by
    rw [← List.drop_eq_getElem_cons hj, List.take_append_drop]
  have hkl : (ps.take j).length = j := by rw [List.length_take]; omega
  have hta : ps.take (j + 1) = ps.take j ++ [ps[j]] := by
    rw [List.take_add_one, List.getElem?_eq_getElem hj]
    rfl
  rw [hsp] at h
  obtain ⟨p1, p2, p3, p4, p5, p6⟩ := piece_at h
  rw [← hsp, hkl] at p1
  have hpl : 0 < ps[j].p.length := List.length_pos_iff.2 p5
  refine ⟨ps[j], _, p1, ?_, p4, ?_, ?_, hta⟩
  · show preLx (ps.take j) + ps[j].g.length < preLx (ps.take j) + ps[j].g.length + ps[j].p.length
    omega
  · show (ByteArray.mk s.toArray).extract (preLx (ps.take j) + ps[j].g.length) (preLx (ps.take j) + ps[j].g.length + ps[j].p.length) = _
    apply ByteArray.ext; apply Array.toList_inj.1
    have e : (s.take (preLx (ps.take j) + ps[j].g.length + ps[j].p.length)).drop (preLx (ps.take j) + ps[j].g.length) = ps[j].p := by
      rw [List.drop_take, p3, Nat.add_sub_cancel_left, List.take_left' rfl]
    simpa [List.drop_take] using e
  · show ps[j].p.length = preLx (ps.take j) + ps[j].g.length + ps[j].p.length - (preLx (ps.take j) + ps[j].g.length)
    omega
theorem gs_bytes {s : Bs} {ps qs : List Pc} {tl : Bs} {j : Nat} (h : Right s ps tl) (hg : Gs qs (ps.take j)) : (catP qs []).length ≤ s.length + 8192 := by
  have h1 := hg.size
  have h2 := right_len h
  have h3 : preLx ps = preLx (ps.take j) + preLx (ps.drop j) := by
    unfold preLx
    conv => lhs; rw [← List.take_append_drop j ps, catP_app, catP_head, List.length_append]
  have h4 := h.few
  have h5 : (ps.take j).length ≤ ps.length := by rw [List.length_take]; omega
  unfold preLx at h2 h3
  omega
/-! ### Rows that a call owns -/
theorem Tryz.infoByteI : (Tryz.prog.info? 5).map (fun i => (i.zero, i.size, i.bytes)) = some (some (.int .u8 0), 1, 1) := by kernel_rfl
theorem own_geI {w : World} {B e sz n : Nat} {v : Value} {xs : List Value} (h : w.ownsRow B e sz v n xs) : ∀ k, v.ownBlock = some k → B ≤ k := by
  intro k hk
  rcases h.2 with ⟨rfl, _⟩ | ⟨g, cap, cur, rfl, hg, _⟩
  · simp [Value.ownBlock] at hk
  · simp [Value.ownBlock] at hk
    omega
theorem conv_rowI {W : World} {B g cap : Nat} {l : List UInt8} (h : W.ownsRow B 5 1 (.slice (some ⟨g, 0, none⟩) l.length cap) l.length (Lib.byteCells l)) :
    (convert 37 9 (.slice (some ⟨g, 0, none⟩) l.length cap)).run Tryz.prog W = .ok (.string ⟨l.toArray⟩) W := by
  refine run_convert_bytes_back (P := Tryz.prog) W 37 9 5 ⟨g, 0, none⟩ cap l Tryz.underlying37 Tryz.underlying5 Tryz.underlying9 ?_
  intro j hj
  rw [Addr.add_lit, Nat.zero_add, h.cellAt j (by omega)]
  simp [Lib.byteCells, hj]
abbrev BytesI (w : World) (B : Nat) (v : Value) (l : List UInt8) : Prop := w.ownsRow B 5 1 v l.length (Lib.byteCells l)
theorem owns_belowI {W W' : World} {B e sz n : Nat} {v : Value} {xs : List Value} (h : W.ownsRow B e sz v n xs) (hb : Below W.heap.size W W') : W'.ownsRow B e sz v n xs := by
  refine ⟨h.1, ?_⟩
  rcases h.2 with h2 | ⟨g, cap, cur, hv, hg, hh, r⟩
  · exact Or.inl h2
  · exact Or.inr ⟨g, cap, cur, hv, hg, (hb.block g (lt_of_block hh)).trans hh, r⟩
theorem not_noneI {w : World} {B e n : Nat} {v : Value} {xs : List Value} (h : w.ownsRow B e 1 v n xs) (hn : v ≠ .slice none 0 0) : ∃ g cap, v = .slice (some ⟨g, 0, none⟩) n cap := by
  rcases h.2 with ⟨h1, _⟩ | ⟨g, cap, cur, h1, _⟩
  · exact absurd h1 hn
  · exact ⟨g, cap, h1⟩
theorem own_nobI (w : World) : BytesI (w.alloc (.cells #[] 5)) w.heap.size (.slice (some ⟨w.heap.size, 0, none⟩) 0 0) [] :=
  ⟨rfl, Or.inr ⟨w.heap.size, 0, #[], rfl, Nat.le_refl _, heap_alloc_new _ _, Nat.le_refl _, Nat.zero_le _, rfl, rfl⟩⟩
theorem cellsT_atI : ∀ (ts : List Tok) (i : Nat) (t : Tok), ts[i]? = some t → (cellsT ts)[4 * i]? = some (.int .i64 t.k) ∧ (cellsT ts)[4 * i + 1]? = some (.string ⟨t.t.toArray⟩) ∧ (cellsT ts)[4 * i + 2]? = some (.int .i64 (t.b : Int)) ∧ (cellsT ts)[4 * i + 3]? = some (.int .i64 (t.e : Int))
  | [], _, _, h => by simp at h
  | t :: ts, 0, t', h => by
    simp at h
    subst h
    exact ⟨rfl, rfl, rfl, rfl⟩
  | t :: ts, i + 1, t', h => by
    have ih := cellsT_atI ts i t' (by simpa using h)
    have e : ∀ k, (cellsT (t :: ts))[4 * (i + 1) + k]? = (cellsT ts)[4 * i + k]? := fun k => by
      rw [show 4 * (i + 1) + k = (4 * i + k) + 4 by omega]
      rfl
    exact ⟨(e 0).trans ih.1, (e 1).trans ih.2.1, (e 2).trans ih.2.2.1, (e 3).trans ih.2.2.2⟩
/-- A slice that holds these tokens. -/
theorem toks_rowI {W : World} {B : Nat} {v : Value} {ts : List Tok} (h : Toks W B v ts) : ∃ a cap, v = .slice a ts.length cap ∧ ts.length ≤ cap ∧ (ts ≠ [] → ∃ g, a = some ⟨g, 0, none⟩ ∧ g < W.heap.size ∧ ∀ i t, ts[i]? = some t → W.cell? ⟨g, 4 * i + 2, none⟩ = some (.int .i64 (t.b : Int)) ∧ W.cell? ⟨g, 4 * i + 3, none⟩ = some (.int .i64 (t.e : Int))) := by
  rcases h.2 with ⟨rfl, h0⟩ | ⟨g, cap, cur, hv, hb, hg, hn, _, _, ht⟩
  · exact ⟨none, 0, by rw [h0], by omega, fun hne => absurd (List.length_eq_zero_iff.1 h0) hne⟩
  · refine ⟨_, cap, hv, hn, fun _ => ⟨g, rfl, lt_of_block hg, fun i t hi => ?_⟩⟩
    have hc := cellsT_atI ts i t hi
    have f : ∀ j x, (cellsT ts)[j]? = some x → W.cell? ⟨g, j, none⟩ = some x := fun j x hj => by
      rw [← ht, List.getElem?_take] at hj
      split at hj
      · unfold World.cell?
        rw [hg]
        simpa using hj
      · cases hj
    exact ⟨f _ _ hc.2.2.1, f _ _ hc.2.2.2⟩
/-- A string's bytes appended, at a step of a region that draws its order. -/
theorem step_append_str {P : Program} {w : World} {ops : Array Oper} {o : Oper} {a : Act} {K : Act → World → Prop} {Q : Exit → Act → World → Prop} {E : Prop} (hgd : o.guard = none) (sl x : Operand) (t u : TypeId)
    (ho : o.op = .call { callee := .builtin .append, args := #[sl, x], argTypes := #[t, u] })
    (base : Nat) (e : TypeId) (i : TypeInfo) (ht : P.underlying t = some (.slice e)) (hu : P.underlying u = some .string) (hi : P.info? e = some i) (hz : i.zero = some (.int .u8 0))
    (hsize : i.size = 1) (hby : i.bytes = 1)
    (v : Value) (n : Nat) (xs : List Value) (hs : a.eval sl = v) (hown : w.ownsRow base e 1 v n xs) (s : ByteArray) (hx : a.eval x = .string s)
    (h63 : n + s.size ≤ maxLen) (hbytes : n + s.size ≤ 140737488355328) (hbase : base ≤ w.heap.size)
    (h : ∀ v' w', w'.ownsRow base e 1 v' (n + s.size) (xs ++ Lib.strCells s) → w.grownBy w' v.ownBlock → (v' = .slice none 0 0 ↔ v = .slice none 0 0 ∧ s.size = 0) → K (a.put o.dst v') w') :
    if Region.wanted o (yielded ops a.tmps) = true then Oper.wp P o a w K Q else E := by
  have hw : Region.wanted o (yielded ops a.tmps) = true := by simp [Region.wanted, hgd]
  rw [if_pos hw]
  obtain ⟨v', w', hr, h2, h3, h4⟩ := Lib.run_append_own_string (P := P) w base t u o.type e i ht hu hi hz hsize hby v n xs hown s h63 hbytes hbase
  unfold Oper.wp execOp
  simp only [ho, resolve, invoke, builtin, Sem.run_bind, Sem.run_pure, Result.andThen_ok, List.map_toArray, List.map_cons, List.map_nil, hs, hx, hr]
  exact h v' w' h2 h3 h4
end Go.Proofs.YtkmopfmofcehiaaGreatDoor
