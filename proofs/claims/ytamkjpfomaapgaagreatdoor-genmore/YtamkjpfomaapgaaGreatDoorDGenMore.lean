/- With an object more all definitions of a schema's API stay as they are, but the roots, which have its fields behind theirs: for any schema and any name (within the form's own reach of 2^47 - 4096 bytes); the listed package variables are as the program's text lays them (tied). -/
import Derived.Test.YtamkjpfomaapgaaGreatDoorG03
import Derived.Test.YtamkjpfomaapgaaGreatDoorC02
import Derived.Deep.Slices
import Derived.OpenShut
import Derived.ProofKit
import Derived.SizedLaws
import Derived.Test.YtamkjpfomaapgaaGreatDoorRows
import Derived.Test.YtamkjpfomaapgaaGreatDoorLxK
import Derived.Lib.LaidU8
import Derived.LaidMore
import Derived.Stop.LaidErr
import Derived.Lay
import Derived.Shelf.Vars
import Derived.Test.YtamkjpfomaapgaaGreatDoorTie
import Derived.Test.YtamkjpfomaapgaaGreatDoorCards
import Derived.ShutString
import Derived.ChangeOld
import Derived.SevenTiedAt
import Derived.Stop.Joined
import Derived.Carry
namespace Go.Proofs.YtamkjpfomaapgaaGreatDoor
open Go Go.RowKit Go.Shelf
theorem fnd_df {s : Sch} (h : OkD s) {d : Df} (hd : d ∈ defT s) : ∃ j : Nat, fndT (defT s) d.n = (j : Int) ∧ (defT s)[j]? = some d := by
  obtain ⟨i, hi⟩ := List.mem_iff_getElem?.1 hd
  exact ⟨i, fnd_at h hi, hi⟩
theorem qry_mem (s : Sch) : qryT s ∈ defT s := by
  unfold defT
  simp
theorem mut_mem (s : Sch) : mutT s ∈ defT s := by
  unfold defT
  simp
theorem def_len {s : Sch} : (defT s).length = 5 + 2 * s.es.length + 6 * s.os.length + 6 := by
  unfold defT
  rw [List.length_append, List.length_append, List.length_append, List.length_append, List.length_map, flat_lenK (k := 6) (fun _ => rfl), filT_eq, List.length_append, List.length_map]
  have : fil4.length = 4 := rfl
  simp
  omega
end Go.Proofs.YtamkjpfomaapgaaGreatDoor
namespace Go.Proofs.YtamkjpfomaapgaaGreatDoor
open Go Go.RowKit Go.Shelf
/-- With an object more a field leads where it led. -/
theorem edg_more {s : Sch} {y : Bs} (h : OkD s) (hm : OkD (moreS s y)) {o : Ob} (ho : o ∈ s.os) {f : Fld} (hf : f ∈ o.fs) : (edgS (moreS s y) f < 0) ↔ (edgS s f < 0) := by
  have ho2 : o ∈ (moreS s y).os := List.mem_append_left _ ho
  have sca : ∀ p ∈ (moreS s y).os, p.n = f.t → scaS f.t = true → False := fun p hp e q => by
    rw [← e, (frt_fre (hm.no p hp).1).sca] at q
    cases q
  have enu : ∀ p ∈ (moreS s y).os, p.n = f.t → (∃ e ∈ s.es, e.n = f.t) → False := fun p hp e ⟨z, hz, q⟩ => hm.u3 z hz (List.mem_map.2 ⟨p, hp, e.trans q.symm⟩)
  rcases fld_ways h ho hf with ⟨g1, _, g2⟩ | ⟨g1, _, p, hp, g2⟩ <;> rcases fld_ways hm ho2 hf with ⟨k1, _, k2⟩ | ⟨k1, _, q, hq, k2⟩
  · exact ⟨fun _ => g1, fun _ => k1⟩
  · rcases g2 with g2 | g2
    · exact (sca q hq k2 g2).elim
    · exact (enu q hq k2 g2).elim
  · have hp2 : p ∈ (moreS s y).os := List.mem_append_left _ hp
    rcases k2 with k2 | k2
    · exact (sca p hp2 g2 k2).elim
    · exact (enu p hp2 g2 k2).elim
  · exact ⟨fun q => absurd q k1, fun q => absurd q g1⟩
theorem obj_more {s : Sch} {y : Bs} (h : OkD s) (hm : OkD (moreS s y)) {o : Ob} (ho : o ∈ s.os) : objT (moreS s y) o = objT s o := by
  have e1 : o.fs.filter (fun f => decide (edgS (moreS s y) f < 0)) = o.fs.filter (fun f => decide (edgS s f < 0)) := List.filter_congr fun f hf => by simp only [edg_more h hm ho hf]
  have e2 : ∀ w : Fld → Bs, o.fs.map (fun f => givT (moreS s y) f (w f)) = o.fs.map (fun f => givT s f (w f)) := fun w => List.map_congr_left fun f hf => by
    unfold givT
    simp only [edg_more h hm ho hf]
  unfold objT
  rw [e1, e2 (fun f => f.w), e2 (fun _ => [])]
/-- A definition that is no root stands there as it was; a root has its fields ahead of what is new. -/
structure Mor (d D : Df) : Prop where
  n : D.n = d.n
  k : D.k = d.k
  ws : D.ws = d.ws
  is : D.is = d.is
  os : (d.n = cQuery ∨ d.n = cMutation) ∧ D.os.take d.os.length = d.os ∧ d.os.length ≤ D.os.length ∨ ¬ (d.n = cQuery ∨ d.n = cMutation) ∧ D.os = d.os
theorem more_df {s : Sch} {y : Bs} (h : OkD s) (hm : OkD (moreS s y)) {d : Df} (hd : d ∈ defT s) : ∃ D ∈ defT (moreS s y), Mor d D := by
  have same : d ∈ defT (moreS s y) → ¬ (d.n = cQuery ∨ d.n = cMutation) → ∃ D ∈ defT (moreS s y), Mor d D := fun q r => ⟨d, q, rfl, rfl, rfl, rfl, Or.inr ⟨r, rfl⟩⟩
  have fil : filT (moreS s y) = filT s := rfl
  have hd0 := hd
  unfold defT at hd
  rcases List.mem_append.1 hd with hd | hd
  · refine same (List.mem_append_left _ hd) ?_
    simp only [List.mem_cons, List.not_mem_nil, or_false] at hd
    rcases hd with rfl | rfl | rfl | rfl | rfl <;> decide
  rcases List.mem_append.1 hd with hd | hd
  · refine same (List.mem_append_right _ (List.mem_append_left _ hd)) ?_
    obtain ⟨e, he, rfl⟩ := List.mem_map.1 hd
    have f := frt_fre (h.ne e he).1
    rintro (q | q)
    · exact f.qu q
    · exact f.mu q
  rcases List.mem_append.1 hd with hd | hd
  · obtain ⟨o, ho, hd⟩ := List.mem_flatMap.1 hd
    refine same (mem_obj (o := o) (List.mem_append_left _ ho) (by rw [obj_more h hm ho]; exact hd)) ?_
    have f := frt_fre (h.no o ho).1
    have lst : ∀ {x : Bs} {a b : UInt8} {u v : Bs}, x ++ (u ++ [a]) = v ++ [b] → a ≠ b → False := fun {x a b u v} e hne => by
      rw [← List.append_assoc] at e
      exact hne (List.append_inj_right' e rfl |> List.cons.inj |>.1)
    unfold objT at hd
    simp only [List.mem_cons, List.not_mem_nil, or_false] at hd
    rcases hd with rfl | rfl | rfl | rfl | rfl | rfl
    · rintro (q | q)
      · exact f.qu q
      · exact f.mu q
    · rintro (q | q)
      · exact lst (u := [79, 114, 100, 101, 114, 97, 98, 108]) (v := [81, 117, 101, 114]) q (by decide)
      · exact lst (u := [79, 114, 100, 101, 114, 97, 98, 108]) (v := [77, 117, 116, 97, 116, 105, 111]) q (by decide)
    · rintro (q | q)
      · exact lst (u := [79, 114, 100, 101]) (v := [81, 117, 101, 114]) q (by decide)
      · exact lst (u := [79, 114, 100, 101]) (v := [77, 117, 116, 97, 116, 105, 111]) q (by decide)
    · rintro (q | q)
      · exact lst (u := [70, 105, 108, 116, 101]) (v := [81, 117, 101, 114]) q (by decide)
      · exact lst (u := [70, 105, 108, 116, 101]) (v := [77, 117, 116, 97, 116, 105, 111]) q (by decide)
    · rintro (q | q) <;> simp at q
    · rintro (q | q) <;> simp at q
  rcases List.mem_append.1 hd with hd | hd
  · refine same (mem_fil (by rw [fil]; exact hd)) ?_
    have lst : ∀ {x : Bs} {a b : UInt8} {u v : Bs}, x ++ (u ++ [a]) = v ++ [b] → a ≠ b → False := fun {x a b u v} e hne => by
      rw [← List.append_assoc] at e
      exact hne (List.append_inj_right' e rfl |> List.cons.inj |>.1)
    unfold filT at hd
    rcases List.mem_append.1 hd with hd | hd
    · simp only [List.mem_cons, List.not_mem_nil, or_false] at hd
      rcases hd with rfl | rfl | rfl | rfl <;> decide
    · obtain ⟨e, he, rfl⟩ := List.mem_map.1 hd
      rintro (q | q)
      · exact lst (u := [70, 105, 108, 116, 101]) (v := [81, 117, 101, 114]) q (by decide)
      · exact lst (u := [70, 105, 108, 116, 101]) (v := [77, 117, 116, 97, 116, 105, 111]) q (by decide)
  simp only [List.mem_cons, List.not_mem_nil, or_false] at hd
  have tk : ∀ {g : Ob → List Ot}, ((s.os ++ [oneO y]).flatMap g).take (s.os.flatMap g).length = s.os.flatMap g ∧ (s.os.flatMap g).length ≤ ((s.os ++ [oneO y]).flatMap g).length := fun {g} => by
    rw [List.flatMap_append]
    exact ⟨List.take_left, by rw [List.length_append]; omega⟩
  rcases hd with rfl | rfl
  · exact ⟨_, qry_mem _, rfl, rfl, rfl, rfl, Or.inl ⟨Or.inl rfl, tk⟩⟩
  · exact ⟨_, mut_mem _, rfl, rfl, rfl, rfl, Or.inl ⟨Or.inr rfl, tk⟩⟩
theorem more_at {s : Sch} {y : Bs} (h : OkD s) (hm : OkD (moreS s y)) {i : Nat} {d : Df} (hd : (defT s)[i]? = some d) : ∃ (k : Nat) (D : Df), fndT (defT (moreS s y)) d.n = (k : Int) ∧ (defT (moreS s y))[k]? = some D ∧ k < (defT (moreS s y)).length ∧ Mor d D := by
  obtain ⟨D, hD, m⟩ := more_df h hm (List.mem_of_getElem? hd)
  obtain ⟨k, h1, h2⟩ := fnd_df hm hD
  rw [m.n] at h1
  exact ⟨k, D, h1, h2, (List.getElem?_eq_some_iff.1 h2).1, m⟩
theorem more_len {s : Sch} {y : Bs} : (defT (moreS s y)).length = (defT s).length + 6 := by
  rw [def_len, def_len]
  simp
  omega
end Go.Proofs.YtamkjpfomaapgaaGreatDoor
namespace Go.Proofs.YtamkjpfomaapgaaGreatDoor
open Go Go.RowKit Go.Shelf
theorem Tryz.infoOb : (Tryz.prog.info? 54).map (fun i => (i.zero, i.size, i.bytes)) = some (some (.agg #[.string ⟨#[]⟩, .slice none 0 0]), 2, 40) := by kernel_rfl
abbrev oneF : Obj := .cells #[.string ⟨#[120]⟩, .string ⟨#[73, 110, 116]⟩, .string ⟨#[]⟩, .bool false, .string ⟨#[]⟩] 56
theorem flds_one {W : World} {fb : Nat} (hF : W.heap[fb]? = some oneF) : FldsAt W (.slice (some ⟨fb, 0, none⟩) 1 1) [⟨[120], [73, 110, 116], [], false, []⟩] := by
  obtain ⟨q0, q1, q2, q3, q4, _⟩ := row5 hF
  refine ⟨_, 1, rfl, Nat.le_refl _, by simp, fun _ => ⟨fb, 0, rfl, lt_of_block hF, fun i hi x hx => ?_⟩⟩
  change i < 1 at hi
  obtain rfl : i = 0 := by omega
  simp only [List.getElem?_cons_zero] at hx
  cases hx
  exact ⟨q0, q1, q2, q3, q4⟩
theorem own_noneO {W : World} {q B : Nat} (hB : B ≤ q) (h : W.heap[q]? = some (.cells #[] 54)) : W.ownsRow B 54 2 (.slice (some ⟨q, 0, none⟩) 0 0) 0 [] := ⟨rfl, Or.inr ⟨q, 0, #[], rfl, hB, h, Nat.le_refl _, Nat.zero_le _, rfl, rfl⟩⟩
/-- All of a slice of objects, put behind nothing. -/
theorem wpList_app_obs {w0 w : World} {ops : Array Oper} {rest : List Oper} {o : Oper} {a : Act} {Q : Exit → Act → World → Prop} (hgd : o.guard = none) (s x : Operand) (ho : o.op = .call { callee := .builtin .append, args := #[s, x], argTypes := #[22, 22] })
    {base : Nat} {v : Value} {os : List Ob} {a1 : Option Addr} {c1 : Nat} (hs : a.eval s = v) (hown : w.ownsRow base 54 2 v 0 []) (hx : a.eval x = .slice a1 os.length c1) (b0 : Below w0.heap.size w0 w) (hw : ObsAt w0 (.slice a1 os.length c1) os) (hz : a1 = none → c1 = 0) (hl : os.length * 40 ≤ 140737488355328) (hbase : base ≤ w.heap.size)
    (h : ∀ v' w' (l : List (Ob × Value)), l.map (·.1) = os → (∀ q ∈ l, FldsAt w0 q.2 q.1.fs) → w'.ownsRow base 54 2 v' os.length (cellsB l) → Gt base 54 w w' → wpList Tryz.prog ops Q rest (a.put o.dst v') w') : wpList Tryz.prog ops Q (o :: rest) a w := by
  obtain ⟨ti, hti, hy0, hy1, hy2⟩ := info_parts Tryz.infoOb
  by_cases hp : 0 < os.length
  · obtain ⟨b, o1, c, l, hv, hb, hc, hm, hf, hcell⟩ := obs_pairs hw hp
    cases hv
    have hll : l.length = os.length := by rw [← hm, List.length_map]
    have hnews : ∀ (j : Nat) (u : Value), (cellsB l)[j]? = some u → w.cell? ((⟨b, o1, none⟩ : Addr).add j) = some u := fun j u hj => by
      rw [add_at]
      exact cell_on b0 (hcell j u hj)
    have hone : ∀ u ∈ cellsB l, u.oneCell' = true := by
      intro u hu
      rcases cellsB_mem hu with ⟨b, rfl⟩ | ⟨p, hp, rfl⟩
      · rfl
      · obtain ⟨_, _, e, _⟩ := hf p hp
        rw [e]
        rfl
    refine wpList_append_own _ hgd s x _ ho base 54 ti _ 2 40 Tryz.underlying22 hti hy0 hy1 hy2 rfl (by decide) v 0 [] hs hown ⟨b, o1, none⟩ os.length c1 (cellsB l) hx (by rw [cellsB_len, hll]) hnews hone (by unfold maxLen; omega) (by omega) hbase fun v' w' own gr _ => ?_
    rw [Nat.zero_add, List.nil_append] at own
    exact h _ w' l hm hf own (gt_grown hown gr)
  · obtain rfl : os = [] := List.length_eq_zero_iff.1 (by omega)
    cases a1 with
    | none =>
      have hc0 := hz rfl
      subst hc0
      exact wpList_append_own_none hgd s x _ ho base 54 ti 2 Tryz.underlying22 hti _ _ _ hs hown hx (h _ w [] rfl (fun q hq => by cases hq) hown (Gt.refl _ _ _))
    | some ad =>
      refine wpList_append_own _ hgd s x _ ho base 54 ti _ 2 40 Tryz.underlying22 hti hy0 hy1 hy2 rfl (by decide) v 0 [] hs hown ad 0 c1 [] hx rfl (fun j u hj => by cases hj) (fun u hu => by cases hu) (by unfold maxLen; omega) (by omega) hbase fun v' w' own gr _ => ?_
      exact h _ w' [] rfl (fun q hq => by cases hq) own (gt_grown hown gr)
/-- The schema with an object more, once it is stored. -/
theorem sch_moreG {w x5 W : World} {s : Sch} {ev : Value} {y : Bs} {l : List (Ob × Value)} {fb T n : Nat} {u V : Value} (hlm : l.map (·.1) = s.os) (hlf : ∀ p ∈ l, FldsAt w p.2 p.1.fs) (hes : EnsAt w ev s.es)
    (hb5 : Below w.heap.size w x5) (hF : W.heap[fb]? = some oneF) (hwT : w.heap.size ≤ T) (hTf : T ≠ fb) (hT : T < x5.heap.size) (hY : Below x5.heap.size x5 W) (hl : s.os.length * 40 ≤ 140737488355328) (hn : n = s.os.length + 1)
    (own : W.ownsRow x5.heap.size 54 2 u n (cellsB l ++ [.string ⟨y.toArray⟩, .slice (some ⟨fb, 0, none⟩) 1 1])) :
    SchAt (W.setCell ⟨T, 0, none⟩ V) u ev (moreS s y) ∧ Below w.heap.size w (W.setCell ⟨T, 0, none⟩ V) := by
  subst hn
  have k := (Kp.refl (fun k => k = T) W).set T 0 V (Or.inr rfl)
  have z5 := hb5.size
  have zY := hY.size
  have bW : Below w.heap.size w W := hb5.trans (hY.mono z5)
  have bT : Below w.heap.size w (W.setCell ⟨T, 0, none⟩ V) := ⟨k.os.trans bW.os, k.tape.trans bW.tape, k.output.trans bW.output, Nat.le_trans bW.size k.size, fun q hq => (k.block q (by omega) (fun e => by have e' : q = T := e; omega)).trans (bW.block q hq)⟩
  have hF2 : (W.setCell ⟨T, 0, none⟩ V).heap[fb]? = some oneF := (k.block fb (lt_of_block hF) (fun e => hTf e.symm)).trans hF
  have own2 : (W.setCell ⟨T, 0, none⟩ V).ownsRow x5.heap.size 54 2 u (s.os.length + 1) (cellsB l ++ [.string ⟨y.toArray⟩, .slice (some ⟨fb, 0, none⟩) 1 1]) := by
    refine ownsRow_setCell_other own ?_ V
    intro e
    have := (own_blk own e).1
    have : x5.heap.size ≤ T := this
    omega
  have hll : l.length = s.os.length := by rw [← hlm, List.length_map]
  have ob := obs_own (l := l ++ [(oneO y, .slice (some ⟨fb, 0, none⟩) 1 1)]) (v := u) (w := W.setCell ⟨T, 0, none⟩ V) (Q := x5.heap.size) (E := 54) (by
      rw [List.length_append, cellsB_app, hll]
      exact own2) (by rw [List.length_append, hll]; simp; omega) (by
      intro p hp
      rcases List.mem_append.1 hp with hp | hp
      · exact (hlf p hp).on bT
      · rw [List.mem_singleton] at hp
        subst hp
        exact flds_one hF2)
  rw [List.map_append, hlm] at ob
  exact ⟨⟨ob, hes.on bT⟩, bT⟩
/-- One definition in a new row of one. -/
theorem defs_one {V : World} {nb : Nat} {d : Df} {wv ov iv : Value} (h : V.heap[nb]? = some (.cells #[.string ⟨d.n.toArray⟩, .int .i64 d.k, wv, ov, iv] 35)) (hw : WdsAt V wv d.ws) (ho : OtsAt V ov d.os) (hi : InsAt V iv d.is) : DefsAt V (.slice (some ⟨nb, 0, none⟩) 1 1) [d] := by
  obtain ⟨q0, q1, q2, q3, q4, _⟩ := row5 h
  refine ⟨_, 1, rfl, Nat.le_refl _, by simp, fun _ => ⟨nb, 0, rfl, lt_of_block h, fun i hi2 x hx => ?_⟩⟩
  change i < 1 at hi2
  obtain rfl : i = 0 := by omega
  simp only [List.getElem?_cons_zero] at hx
  cases hx
  exact ⟨q0, q1, wv, ov, iv, q2, q3, q4, hw, ho, hi⟩
/-- One definition of a row, by itself. -/
theorem defs_sub {V : World} {b o n c c' j : Nat} {l : List Df} {d : Df} (h : DefsAt V (.slice (some ⟨b, o, none⟩) n c) l) (hd : l[j]? = some d) (hc : 1 ≤ c') : DefsAt V (.slice (some ⟨b, o + j * 5, none⟩) 1 c') [d] := by
  obtain ⟨a0, c0, he, _, _, hr⟩ := h
  cases he
  have hj := (List.getElem?_eq_some_iff.1 hd).1
  obtain ⟨b1, o1, e, hb, hH⟩ := hr (by omega)
  cases e
  refine ⟨_, c', rfl, hc, by simp, fun _ => ⟨b, o + j * 5, rfl, hb, fun i hi2 x hx => ?_⟩⟩
  change i < 1 at hi2
  obtain rfl : i = 0 := by omega
  simp only [List.getElem?_cons_zero] at hx
  cases hx
  rw [Nat.zero_mul, Nat.add_zero]
  exact hH j hj d hd
/-- The first of a row of fields. -/
theorem ots_take {V : World} {a : Option Addr} {n c m : Nat} {l : List Ot} (h : OtsAt V (.slice a n c) l) (hm : m ≤ l.length) : OtsAt V (.slice a m c) (l.take m) := by
  obtain ⟨a0, c0, he, hc, h47, hr⟩ := h
  cases he
  have e : (l.take m).length = m := by rw [List.length_take]; omega
  unfold OtsAt
  rw [e]
  refine ⟨_, c, rfl, by omega, by omega, fun hp => ?_⟩
  obtain ⟨b, o, e1, hb, hH⟩ := hr (by omega)
  refine ⟨b, o, e1, hb, fun i hi x hx => hH i (by omega) x ?_⟩
  rw [List.getElem?_take, if_pos hi] at hx
  exact hx
end Go.Proofs.YtamkjpfomaapgaaGreatDoor
namespace Go.Proofs.YtamkjpfomaapgaaGreatDoor
open Go Go.RowKit Go.Shelf
/-- Two rows of the same arguments. -/
theorem ins_eq_cells {w : World} {a : Option Addr} {n c : Nat} {l : List Inn} {i : Nat} {x : Inn} (h : InsAt w (.slice a n c) l) (hx : l[i]? = some x) : ∃ b o, a = some ⟨b, o, none⟩ ∧ n ≤ c ∧ n = l.length ∧ w.cell? ⟨b, o + i * 3, none⟩ = some (.string ⟨x.n.toArray⟩) ∧ w.cell? ⟨b, o + i * 3 + 1, none⟩ = some (.string ⟨x.t.toArray⟩) ∧ w.cell? ⟨b, o + i * 3 + 2, none⟩ = some (.string ⟨x.w.toArray⟩) := by
  obtain ⟨b, o, rfl, rfl, _, hc, q⟩ := ins_at h hx
  exact ⟨b, o, rfl, hc, rfl, q.1, q.2.1, q.2.2⟩
set_option maxRecDepth 100000 in
set_option maxHeartbeats 4000000 in
theorem jsameIns_eq {w : World} {va vb : Value} {l : List Inn} (ha : InsAt w va l) (hb : InsAt w vb l) : Calls Tryz.prog 33 #[va, vb] w fun e w' => e = .returned (.bool true) ∧ Below w.heap.size w w' := by
  have ha' := ha
  have hb' := hb
  obtain ⟨a1, c1, rfl, k1, _⟩ := ha.slice
  obtain ⟨a2, c2, rfl, k2, _⟩ := hb.slice
  clear ha hb
  go_enter Tryz.func33, Tryz.ntmps33
  go_wp2
  go_loopw [5] (fun i wr => ∃ j : Nat, i = .int .i64 (j : Int) ∧ j ≤ l.length ∧ Below w.heap.size w wr) (fun i _ => l.length - (RowKit.intOf i).toNat)
  case atStart => exact ⟨0, rfl, Nat.zero_le _, Below.refl _ _⟩
  case round =>
    obtain ⟨j, rfl, hj, hbr⟩ := hrel
    by_cases hlt : j < l.length
    · obtain ⟨x, hx⟩ : ∃ x, l[j]? = some x := ⟨_, List.getElem?_eq_getElem hlt⟩
      obtain ⟨b1, o1, rfl, _, _, e0, e1, e2⟩ := ins_eq_cells ha' hx
      obtain ⟨b2, o2, rfl, _, _, f0, f1, f2⟩ := ins_eq_cells hb' hx
      have l1 : ((j : Nat) : Int) < (l.length : Int) := by omega
      have hjN : ((j : Nat) : Int).toNat = j := by omega
      have hz : Hid (j + 1 ≤ l.length) := hlt
      have g0 := cell_on hbr e0
      have g1 := cell_on hbr e1
      have g2 := cell_on hbr e2
      have r0 := cell_on hbr f0
      have r1 := cell_on hbr f1
      have r2 := cell_on hbr f2
      obtain ⟨xn, xt, xw⟩ := x
      simp only at g0 g1 g2 r0 r1 r2
      clear hx hlt e0 e1 e2 f0 f1 f2 ha' hb'
      go_wp2
      go_region_held3 (fun w' => w'.cell? ⟨b1, o1 + j * 3, none⟩ = some (.string ⟨xn.toArray⟩) ∧ w'.cell? ⟨b1, o1 + j * 3 + 1, none⟩ = some (.string ⟨xt.toArray⟩) ∧ w'.cell? ⟨b1, o1 + j * 3 + 2, none⟩ = some (.string ⟨xw.toArray⟩) ∧ w'.cell? ⟨b2, o2 + j * 3, none⟩ = some (.string ⟨xn.toArray⟩) ∧ w'.cell? ⟨b2, o2 + j * 3 + 1, none⟩ = some (.string ⟨xt.toArray⟩) ∧ w'.cell? ⟨b2, o2 + j * 3 + 2, none⟩ = some (.string ⟨xw.toArray⟩)) (go_keep) (fail)
      go_wp2
      refine ⟨⟨j + 1, by simp, hz.out, bel_dr hbr⟩, ?_⟩
      have := hz.out
      simp [RowKit.intOf]
      omega
    · have l2 : decide (((j : Nat) : Int) < (l.length : Int)) = false := by simp; omega
      have l3 : decide (j < l.length) = false := by simp; omega
      clear hlt hj ha' hb'
      go_wp2
      go_ret
      exact ⟨rfl, hbr⟩
set_option maxRecDepth 100000 in
set_option maxHeartbeats 4000000 in
theorem jsameOut_eq {w : World} {x : Ot} {p p' : Option Addr} {n c n' c' : Nat} (ha : InsAt w (.slice p n c) x.ar) (hb : InsAt w (.slice p' n' c') x.ar) : Calls Tryz.prog 16 #[outV (x, .slice p n c), outV (x, .slice p' n' c')] w fun e w' => e = .returned (.bool true) ∧ Below w.heap.size w w' := by
  have SI := fun o o' => jsameIns_eq (ha.on (al2 w o o')) (hb.on (al2 w o o'))
  obtain ⟨xn, xt, xw, xa⟩ := x
  clear ha hb
  go_enter Tryz.func16, Tryz.ntmps16
  go_wp2_with (first
    | (go_at_call 33; (with_reducible refine (SI _ _).mono ?_); rintro e w2 ⟨rfl, b2⟩)
    | fail)
  go_ret
  exact ⟨rfl, (al2 w _ _).trans (b2.mono (al2 w _ _).size)⟩
end Go.Proofs.YtamkjpfomaapgaaGreatDoor
namespace Go.Proofs.YtamkjpfomaapgaaGreatDoor
open Go Go.RowKit Go.Shelf
theorem wd_cells {w : World} {a : Option Addr} {n c : Nat} {l : List Bs} {i : Nat} {x : Bs} (h : WdsAt w (.slice a n c) l) (hx : l[i]? = some x) : ∃ b o, a = some ⟨b, o, none⟩ ∧ n = l.length ∧ n ≤ c ∧ w.cell? ⟨b, o + i, none⟩ = some (.string ⟨x.toArray⟩) := by
  obtain ⟨a0, c0, he, hc, _, hr⟩ := h
  cases he
  have hi := (List.getElem?_eq_some_iff.1 hx).1
  obtain ⟨b, o, rfl, hb, hH⟩ := hr (by omega)
  have q := hH i hi x hx
  rw [Nat.mul_one] at q
  exact ⟨b, o, rfl, rfl, hc, q⟩
end Go.Proofs.YtamkjpfomaapgaaGreatDoor
namespace Go.Proofs.YtamkjpfomaapgaaGreatDoor
open Go Go.RowKit Go.Shelf
set_option maxRecDepth 100000 in
set_option maxHeartbeats 4000000 in
theorem dsameTexts_eq {w : World} {va vb : Value} {l : List Bs} (ha : WdsAt w va l) (hb : WdsAt w vb l) : Calls Tryz.prog 32 #[va, vb] w fun e w' => e = .returned (.bool true) ∧ Below w.heap.size w w' := by
  have ha' := ha
  have hb' := hb
  obtain ⟨a1, c1, rfl, k1, _⟩ := ha.slice
  obtain ⟨a2, c2, rfl, k2, _⟩ := hb.slice
  clear ha hb
  go_enter Tryz.func32, Tryz.ntmps32
  go_wp2
  go_loopw [5] (fun i wr => ∃ j : Nat, i = .int .i64 (j : Int) ∧ j ≤ l.length ∧ Below w.heap.size w wr) (fun i _ => l.length - (RowKit.intOf i).toNat)
  case atStart => exact ⟨0, rfl, Nat.zero_le _, Below.refl _ _⟩
  case round =>
    obtain ⟨j, rfl, hj, hbr⟩ := hrel
    by_cases hlt : j < l.length
    · obtain ⟨x, hx⟩ : ∃ x, l[j]? = some x := ⟨_, List.getElem?_eq_getElem hlt⟩
      obtain ⟨b1, o1, rfl, _, _, e0⟩ := wd_cells ha' hx
      obtain ⟨b2, o2, rfl, _, _, f0⟩ := wd_cells hb' hx
      have l1 : ((j : Nat) : Int) < (l.length : Int) := by omega
      have hjN : ((j : Nat) : Int).toNat = j := by omega
      have hz : Hid (j + 1 ≤ l.length) := hlt
      have g0 := cell_on hbr e0
      have r0 := cell_on hbr f0
      clear hx hlt e0 f0 ha' hb'
      go_wp2
      go_region_held3 (fun w' => w'.cell? ⟨b1, o1 + j, none⟩ = some (.string ⟨x.toArray⟩) ∧ w'.cell? ⟨b2, o2 + j, none⟩ = some (.string ⟨x.toArray⟩)) (go_keep) (fail)
      go_wp2
      refine ⟨⟨j + 1, by simp, hz.out, bel_dr hbr⟩, ?_⟩
      have := hz.out
      simp [RowKit.intOf]
      omega
    · have l2 : decide (((j : Nat) : Int) < (l.length : Int)) = false := by simp; omega
      have l3 : decide (j < l.length) = false := by simp; omega
      clear hlt hj ha' hb'
      go_wp2
      go_ret
      exact ⟨rfl, hbr⟩
end Go.Proofs.YtamkjpfomaapgaaGreatDoor
namespace Go.Proofs.YtamkjpfomaapgaaGreatDoor
open Go Go.RowKit Go.Shelf
set_option maxRecDepth 100000 in
set_option maxHeartbeats 8000000 in
theorem jsame_eq {w : World} {va vb : Value} {l : List Df} (ha : DefsAt w va l) (hb : DefsAt w vb l) : Calls Tryz.prog 10 #[va, vb] w fun e w' => e = .returned (.bool true) ∧ Below w.heap.size w w' := by
  have ha' := ha
  have hb' := hb
  obtain ⟨a1, c1, rfl, k1, _⟩ := ha.slice
  obtain ⟨a2, c2, rfl, k2, _⟩ := hb.slice
  clear ha hb
  go_enter Tryz.func10, Tryz.ntmps10
  go_wp2
  go_loopw [5] (fun i wr => ∃ j : Nat, i = .int .i64 (j : Int) ∧ j ≤ l.length ∧ Below w.heap.size w wr) (fun i _ => l.length - (RowKit.intOf i).toNat)
  case atStart => exact ⟨0, rfl, Nat.zero_le _, Below.refl _ _⟩
  case round =>
    obtain ⟨j, rfl, hj, hbr⟩ := hrel
    by_cases hlt : j < l.length
    · obtain ⟨x, hx⟩ : ∃ x, l[j]? = some x := ⟨_, List.getElem?_eq_getElem hlt⟩
      obtain ⟨b, o, cA, p1, n1, q1, p2, n2, q2, p3, n3, q3, hv, _, _, e0, e1, e2, e3, e4, hw1, ho1, hi1⟩ := df_cells ha' hx
      cases hv
      obtain ⟨b', o', cB, r1, m1, s1, r2, m2, s2, r3, m3, s3, hv, _, _, f0, f1, f2, f3, f4, hw2, ho2, hi2⟩ := df_cells hb' hx
      cases hv
      have l1 : ((j : Nat) : Int) < (l.length : Int) := by omega
      have hjN : ((j : Nat) : Int).toNat = j := by omega
      have hz : Hid (j + 1 ≤ l.length) := hlt
      have t0 := cell_on hbr e0
      have t1 := cell_on hbr e1
      have t2 := cell_on hbr e2
      have t3 := cell_on hbr e3
      have t4 := cell_on hbr e4
      have u0 := cell_on hbr f0
      have u1 := cell_on hbr f1
      have u2 := cell_on hbr f2
      have u3 := cell_on hbr f3
      have u4 := cell_on hbr f4
      obtain ⟨xn, xk, xw, xi, xo⟩ := x
      simp only at *
      have ne1 := World.new_ne wr _ t0
      have ne2 := World.new_ne wr _ u0
      have sz1 : b < wr.heap.size := World.block_lt_of_cell? wr _ t0
      have sz2 : b' < wr.heap.size := World.block_lt_of_cell? wr _ u0
      have ne3 : wr.heap.size + 1 ≠ b := by omega
      have ne4 : wr.heap.size + 1 ≠ b' := by omega
      clear hx hlt e0 e1 e2 e3 e4 f0 f1 f2 f3 f4 ha' hb'
      go_wp2
      go_region_held3 (fun w' => w'.cell? ⟨b, o + j * 5, none⟩ = some (.string ⟨xn.toArray⟩) ∧ w'.cell? ⟨b, o + j * 5 + 1, none⟩ = some (.int .i64 xk) ∧ w'.cell? ⟨b, o + j * 5 + 2, none⟩ = some (.slice p1 n1 q1) ∧ w'.cell? ⟨b, o + j * 5 + 3, none⟩ = some (.slice p2 n2 q2) ∧ w'.cell? ⟨b, o + j * 5 + 4, none⟩ = some (.slice p3 n3 q3) ∧ w'.cell? ⟨b', o' + j * 5, none⟩ = some (.string ⟨xn.toArray⟩) ∧ w'.cell? ⟨b', o' + j * 5 + 1, none⟩ = some (.int .i64 xk) ∧ w'.cell? ⟨b', o' + j * 5 + 2, none⟩ = some (.slice r1 m1 s1) ∧ w'.cell? ⟨b', o' + j * 5 + 3, none⟩ = some (.slice r2 m2 s2) ∧ w'.cell? ⟨b', o' + j * 5 + 4, none⟩ = some (.slice r3 m3 s3)) (go_keep) (fail)
      · obtain ⟨V, hV⟩ : ∃ V, V = ((wr.alloc (.cells #[.string ⟨xn.toArray⟩, .int .i64 xk, .slice p1 n1 q1, .slice p2 n2 q2, .slice p3 n3 q3] 35)).alloc (.cells #[.string ⟨xn.toArray⟩, .int .i64 xk, .slice r1 m1 s1, .slice r2 m2 s2, .slice r3 m3 s3] 35)).drew := ⟨_, rfl⟩
        have bV : Below wr.heap.size wr V := by rw [hV]; exact bel_dr (al2 wr _ _)
        have NA : V.heap[wr.heap.size]? = some (.cells #[.string ⟨xn.toArray⟩, .int .i64 xk, .slice p1 n1 q1, .slice p2 n2 q2, .slice p3 n3 q3] 35) := by rw [hV]; exact ((al1 _ _).block _ (by simp)).trans (heap_alloc_new wr _)
        have NB : V.heap[wr.heap.size + 1]? = some (.cells #[.string ⟨xn.toArray⟩, .int .i64 xk, .slice r1 m1 s1, .slice r2 m2 s2, .slice r3 m3 s3] 35) := by rw [hV]; exact new2 wr _ _
        have bw := hbr.trans (bV.mono hbr.size)
        rw [← hV]
        clear hV
        obtain ⟨wr0, hwr0⟩ : ∃ u, u = wr := ⟨_, rfl⟩
        subst hwr0
        obtain ⟨y0, y1, y2, y3, y4, _⟩ := row5 NA
        obtain ⟨z0, z1, z2, z3, z4, _⟩ := row5 NB
        obtain ⟨_, _, hx1, _, _⟩ := ho1.slice
        cases hx1
        obtain ⟨_, _, hx2, _, _⟩ := ho2.slice
        cases hx2
        have ST := dsameTexts_eq (hw1.on bw) (hw2.on bw)
        have SI := fun {X : World} (d : Below V.heap.size V X) => jsameIns_eq ((hi1.on bw).on d) ((hi2.on bw).on d)
        go_wp2_with (first
          | (go_at_call 32; (with_reducible refine ST.mono ?_); rintro e v1 ⟨rfl, d1⟩; have y4' := cell_on d1 y4; have z4' := cell_on d1 z4)
          | (go_at_call 33; (with_reducible refine (SI d1).mono ?_); rintro e v2 ⟨rfl, d2⟩; have d12 := d1.trans (d2.mono d1.size); have y3' := cell_on d12 y3; have z3' := cell_on d12 z3)
          | fail)
        clear y0 y1 y2 y4 z0 z1 z2 z4 ST SI y4' z4' y3' z3'
        go_loopw [8] (fun i wr => ∃ k : Nat, i = .int .i64 (k : Int) ∧ k ≤ xo.length ∧ Below V.heap.size V wr) (fun i _ => xo.length - (RowKit.intOf i).toNat)
        case atStart => exact ⟨0, rfl, Nat.zero_le _, d12⟩
        case round =>
          obtain ⟨k, rfl, hk, hbk⟩ := hrel
          have bk := bw.trans (hbk.mono bw.size)
          have g3 := cell_on hbk y3
          have h3 := cell_on hbk z3
          by_cases hkl : k < xo.length
          · obtain ⟨y, hy⟩ : ∃ y, xo[k]? = some y := ⟨_, List.getElem?_eq_getElem hkl⟩
            obtain ⟨b5, o5, a5, n5, c5, ha, _, _, _, v0, v1', v2', v3, hia, _⟩ := ot_cells ho1 hy
            cases ha
            obtain ⟨b6, o6, a6, n6, c6, ha, _, _, _, x0, x1, x2, x3, hib, _⟩ := ot_cells ho2 hy
            cases ha
            have i0 := cell_on bk v0
            have i1 := cell_on bk v1'
            have i2 := cell_on bk v2'
            have i3 := cell_on bk v3
            have j0 := cell_on bk x0
            have j1 := cell_on bk x1
            have j2 := cell_on bk x2
            have j3 := cell_on bk x3
            have mm1 : ((k : Nat) : Int) < (xo.length : Int) := by omega
            have mN : ((k : Nat) : Int).toNat = k := by omega
            have HKK : Hid (k + 1 ≤ xo.length) := hkl
            have dw : Below wr.heap.size wr wr.drew := bel_dr (Below.refl _ _)
            have SO := fun {X : World} (d : Below wr.heap.size wr X) => jsameOut_eq (x := y) ((hia.on bk).on d) ((hib.on bk).on d)
            obtain ⟨yn, yt, yw, ya⟩ := y
            simp only at i0 i1 i2 i3 j0 j1 j2 j3
            clear hy hkl v0 v1' v2' v3 x0 x1 x2 x3
            have XS : ∀ {X : World}, Below wr.heap.size wr X → (fun w' => w'.cell? ⟨wr0.heap.size, 3, none⟩ = some (.slice (some ⟨b5, o5, none⟩) xo.length q2) ∧ w'.cell? ⟨wr0.heap.size + 1, 3, none⟩ = some (.slice (some ⟨b6, o6, none⟩) xo.length s2) ∧ w'.cell? ⟨b5, o5 + k * 4, none⟩ = some (.string ⟨yn.toArray⟩) ∧ w'.cell? ⟨b5, o5 + k * 4 + 1, none⟩ = some (.string ⟨yt.toArray⟩) ∧ w'.cell? ⟨b5, o5 + k * 4 + 2, none⟩ = some (.string ⟨yw.toArray⟩) ∧ w'.cell? ⟨b5, o5 + k * 4 + 3, none⟩ = some (.slice a5 n5 c5) ∧ w'.cell? ⟨b6, o6 + k * 4, none⟩ = some (.string ⟨yn.toArray⟩) ∧ w'.cell? ⟨b6, o6 + k * 4 + 1, none⟩ = some (.string ⟨yt.toArray⟩) ∧ w'.cell? ⟨b6, o6 + k * 4 + 2, none⟩ = some (.string ⟨yw.toArray⟩) ∧ w'.cell? ⟨b6, o6 + k * 4 + 3, none⟩ = some (.slice a6 n6 c6)) X := fun d => ⟨cell_on d g3, cell_on d h3, cell_on d i0, cell_on d i1, cell_on d i2, cell_on d i3, cell_on d j0, cell_on d j1, cell_on d j2, cell_on d j3⟩
            go_wp2
            go_region_held3 (fun w' => w'.cell? ⟨wr0.heap.size, 3, none⟩ = some (.slice (some ⟨b5, o5, none⟩) xo.length q2) ∧ w'.cell? ⟨wr0.heap.size + 1, 3, none⟩ = some (.slice (some ⟨b6, o6, none⟩) xo.length s2) ∧ w'.cell? ⟨b5, o5 + k * 4, none⟩ = some (.string ⟨yn.toArray⟩) ∧ w'.cell? ⟨b5, o5 + k * 4 + 1, none⟩ = some (.string ⟨yt.toArray⟩) ∧ w'.cell? ⟨b5, o5 + k * 4 + 2, none⟩ = some (.string ⟨yw.toArray⟩) ∧ w'.cell? ⟨b5, o5 + k * 4 + 3, none⟩ = some (.slice a5 n5 c5) ∧ w'.cell? ⟨b6, o6 + k * 4, none⟩ = some (.string ⟨yn.toArray⟩) ∧ w'.cell? ⟨b6, o6 + k * 4 + 1, none⟩ = some (.string ⟨yt.toArray⟩) ∧ w'.cell? ⟨b6, o6 + k * 4 + 2, none⟩ = some (.string ⟨yw.toArray⟩) ∧ w'.cell? ⟨b6, o6 + k * 4 + 3, none⟩ = some (.slice a6 n6 c6)) (exact XS dw) ((go_at_call 16; (with_reducible refine (SO dw).mono ?_); rintro e v5 ⟨rfl, d5⟩; replace dw := dw.trans (d5.mono dw.size)))
            go_wp2
            refine ⟨⟨k + 1, by simp, HKK.out, hbk.trans (dw.mono hbk.size)⟩, ?_⟩
            have := HKK.out
            simp [RowKit.intOf]
            omega
          · have mm2 : decide (((k : Nat) : Int) < (xo.length : Int)) = false := by simp; omega
            have mm3 : decide (k < xo.length) = false := by simp; omega
            clear hkl hk
            go_wp2
            refine ⟨⟨j + 1, by simp, hz.out, bk⟩, ?_⟩
            have := hz.out
            simp [RowKit.intOf]
            omega
      · obtain ⟨V, hV⟩ : ∃ V, V = ((wr.alloc (.cells #[.string ⟨xn.toArray⟩, .int .i64 xk, .slice r1 m1 s1, .slice r2 m2 s2, .slice r3 m3 s3] 35)).alloc (.cells #[.string ⟨xn.toArray⟩, .int .i64 xk, .slice p1 n1 q1, .slice p2 n2 q2, .slice p3 n3 q3] 35)).drew := ⟨_, rfl⟩
        have bV : Below wr.heap.size wr V := by rw [hV]; exact bel_dr (al2 wr _ _)
        have NB : V.heap[wr.heap.size]? = some (.cells #[.string ⟨xn.toArray⟩, .int .i64 xk, .slice r1 m1 s1, .slice r2 m2 s2, .slice r3 m3 s3] 35) := by rw [hV]; exact ((al1 _ _).block _ (by simp)).trans (heap_alloc_new wr _)
        have NA : V.heap[wr.heap.size + 1]? = some (.cells #[.string ⟨xn.toArray⟩, .int .i64 xk, .slice p1 n1 q1, .slice p2 n2 q2, .slice p3 n3 q3] 35) := by rw [hV]; exact new2 wr _ _
        have bw := hbr.trans (bV.mono hbr.size)
        rw [← hV]
        clear hV
        obtain ⟨wr0, hwr0⟩ : ∃ u, u = wr := ⟨_, rfl⟩
        subst hwr0
        obtain ⟨y0, y1, y2, y3, y4, _⟩ := row5 NA
        obtain ⟨z0, z1, z2, z3, z4, _⟩ := row5 NB
        obtain ⟨_, _, hx1, _, _⟩ := ho1.slice
        cases hx1
        obtain ⟨_, _, hx2, _, _⟩ := ho2.slice
        cases hx2
        have ST := dsameTexts_eq (hw1.on bw) (hw2.on bw)
        have SI := fun {X : World} (d : Below V.heap.size V X) => jsameIns_eq ((hi1.on bw).on d) ((hi2.on bw).on d)
        go_wp2_with (first
          | (go_at_call 32; (with_reducible refine ST.mono ?_); rintro e v1 ⟨rfl, d1⟩; have y4' := cell_on d1 y4; have z4' := cell_on d1 z4)
          | (go_at_call 33; (with_reducible refine (SI d1).mono ?_); rintro e v2 ⟨rfl, d2⟩; have d12 := d1.trans (d2.mono d1.size); have y3' := cell_on d12 y3; have z3' := cell_on d12 z3)
          | fail)
        clear y0 y1 y2 y4 z0 z1 z2 z4 ST SI y4' z4' y3' z3'
        go_loopw [8] (fun i wr => ∃ k : Nat, i = .int .i64 (k : Int) ∧ k ≤ xo.length ∧ Below V.heap.size V wr) (fun i _ => xo.length - (RowKit.intOf i).toNat)
        case atStart => exact ⟨0, rfl, Nat.zero_le _, d12⟩
        case round =>
          obtain ⟨k, rfl, hk, hbk⟩ := hrel
          have bk := bw.trans (hbk.mono bw.size)
          have g3 := cell_on hbk y3
          have h3 := cell_on hbk z3
          by_cases hkl : k < xo.length
          · obtain ⟨y, hy⟩ : ∃ y, xo[k]? = some y := ⟨_, List.getElem?_eq_getElem hkl⟩
            obtain ⟨b5, o5, a5, n5, c5, ha, _, _, _, v0, v1', v2', v3, hia, _⟩ := ot_cells ho1 hy
            cases ha
            obtain ⟨b6, o6, a6, n6, c6, ha, _, _, _, x0, x1, x2, x3, hib, _⟩ := ot_cells ho2 hy
            cases ha
            have i0 := cell_on bk v0
            have i1 := cell_on bk v1'
            have i2 := cell_on bk v2'
            have i3 := cell_on bk v3
            have j0 := cell_on bk x0
            have j1 := cell_on bk x1
            have j2 := cell_on bk x2
            have j3 := cell_on bk x3
            have mm1 : ((k : Nat) : Int) < (xo.length : Int) := by omega
            have mN : ((k : Nat) : Int).toNat = k := by omega
            have HKK : Hid (k + 1 ≤ xo.length) := hkl
            have dw : Below wr.heap.size wr wr.drew := bel_dr (Below.refl _ _)
            have SO := fun {X : World} (d : Below wr.heap.size wr X) => jsameOut_eq (x := y) ((hia.on bk).on d) ((hib.on bk).on d)
            obtain ⟨yn, yt, yw, ya⟩ := y
            simp only at i0 i1 i2 i3 j0 j1 j2 j3
            clear hy hkl v0 v1' v2' v3 x0 x1 x2 x3
            have XS : ∀ {X : World}, Below wr.heap.size wr X → (fun w' => w'.cell? ⟨wr0.heap.size + 1, 3, none⟩ = some (.slice (some ⟨b5, o5, none⟩) xo.length q2) ∧ w'.cell? ⟨wr0.heap.size, 3, none⟩ = some (.slice (some ⟨b6, o6, none⟩) xo.length s2) ∧ w'.cell? ⟨b5, o5 + k * 4, none⟩ = some (.string ⟨yn.toArray⟩) ∧ w'.cell? ⟨b5, o5 + k * 4 + 1, none⟩ = some (.string ⟨yt.toArray⟩) ∧ w'.cell? ⟨b5, o5 + k * 4 + 2, none⟩ = some (.string ⟨yw.toArray⟩) ∧ w'.cell? ⟨b5, o5 + k * 4 + 3, none⟩ = some (.slice a5 n5 c5) ∧ w'.cell? ⟨b6, o6 + k * 4, none⟩ = some (.string ⟨yn.toArray⟩) ∧ w'.cell? ⟨b6, o6 + k * 4 + 1, none⟩ = some (.string ⟨yt.toArray⟩) ∧ w'.cell? ⟨b6, o6 + k * 4 + 2, none⟩ = some (.string ⟨yw.toArray⟩) ∧ w'.cell? ⟨b6, o6 + k * 4 + 3, none⟩ = some (.slice a6 n6 c6)) X := fun d => ⟨cell_on d g3, cell_on d h3, cell_on d i0, cell_on d i1, cell_on d i2, cell_on d i3, cell_on d j0, cell_on d j1, cell_on d j2, cell_on d j3⟩
            go_wp2
            go_region_held3 (fun w' => w'.cell? ⟨wr0.heap.size + 1, 3, none⟩ = some (.slice (some ⟨b5, o5, none⟩) xo.length q2) ∧ w'.cell? ⟨wr0.heap.size, 3, none⟩ = some (.slice (some ⟨b6, o6, none⟩) xo.length s2) ∧ w'.cell? ⟨b5, o5 + k * 4, none⟩ = some (.string ⟨yn.toArray⟩) ∧ w'.cell? ⟨b5, o5 + k * 4 + 1, none⟩ = some (.string ⟨yt.toArray⟩) ∧ w'.cell? ⟨b5, o5 + k * 4 + 2, none⟩ = some (.string ⟨yw.toArray⟩) ∧ w'.cell? ⟨b5, o5 + k * 4 + 3, none⟩ = some (.slice a5 n5 c5) ∧ w'.cell? ⟨b6, o6 + k * 4, none⟩ = some (.string ⟨yn.toArray⟩) ∧ w'.cell? ⟨b6, o6 + k * 4 + 1, none⟩ = some (.string ⟨yt.toArray⟩) ∧ w'.cell? ⟨b6, o6 + k * 4 + 2, none⟩ = some (.string ⟨yw.toArray⟩) ∧ w'.cell? ⟨b6, o6 + k * 4 + 3, none⟩ = some (.slice a6 n6 c6)) (exact XS dw) ((go_at_call 16; (with_reducible refine (SO dw).mono ?_); rintro e v5 ⟨rfl, d5⟩; replace dw := dw.trans (d5.mono dw.size)))
            go_wp2
            refine ⟨⟨k + 1, by simp, HKK.out, hbk.trans (dw.mono hbk.size)⟩, ?_⟩
            have := HKK.out
            simp [RowKit.intOf]
            omega
          · have mm2 : decide (((k : Nat) : Int) < (xo.length : Int)) = false := by simp; omega
            have mm3 : decide (k < xo.length) = false := by simp; omega
            clear hkl hk
            go_wp2
            refine ⟨⟨j + 1, by simp, hz.out, bk⟩, ?_⟩
            have := hz.out
            simp [RowKit.intOf]
            omega
    · have l2 : decide (((j : Nat) : Int) < (l.length : Int)) = false := by simp; omega
      have l3 : decide (j < l.length) = false := by simp; omega
      clear hlt hj ha' hb'
      go_wp2
      go_ret
      exact ⟨rfl, hbr⟩
end Go.Proofs.YtamkjpfomaapgaaGreatDoor
namespace Go.Proofs.YtamkjpfomaapgaaGreatDoor
open Go Go.RowKit Go.Shelf
theorem gtypes_any {w : World} {ov ev : Value} {s : Sch} (h : SchAt w ov ev s) (gl : Gl w) : Calls Tryz.prog 9 #[.agg #[ov, ev]] w fun e w' => ∃ p n m, e = .returned (.tuple #[.slice p n m, .int .i64 (chkS s)]) ∧ (chkS s = 0 → DfR w' w.heap.size (.slice p n m) (defT s)) ∧ Below w.heap.size w w' := by
  by_cases hc : chkS s = 0
  · refine (gtypes_ok h gl hc).mono ?_
    rintro e w' ⟨v, rfl, R, b⟩
    obtain ⟨lp, _, RR, _⟩ := id R
    obtain ⟨p, n, m, rfl⟩ := row_slc RR
    exact ⟨p, n, m, by rw [hc], fun _ => R, b⟩
  · refine (gtypes_no h gl hc).mono ?_
    rintro e w' ⟨rfl, b⟩
    exact ⟨none, 0, 0, rfl, fun q => absurd q hc, b⟩
section
variable {w : World} {ov ev : Value} {s : Sch}
set_option maxRecDepth 100000 in
set_option maxHeartbeats 8000000 in
theorem gmore_no1 (h : SchAt w ov ev s) (gl : Gl w) (hB : s.os.length * 40 + 40 ≤ 140737488355328) (hz : ∀ n c, ov = .slice none n c → c = 0) (y : Bs) (hc : chkS s ≠ 0) : Calls Tryz.prog 7 #[.agg #[ov, ev], .string ⟨y.toArray⟩] w fun e w' => e = .returned (.bool true) ∧ Below w.heap.size w w' := by
  have hos := h.os
  have hes := h.es
  obtain ⟨a, c, hov, _, _⟩ := h.os.slice
  obtain ⟨a', c', rfl, _, _⟩ := h.es.slice
  have HOV : Hid (ov = .slice a s.os.length c) := hov
  obtain ⟨ti, hti, hy0, hy1, hy2⟩ := info_parts Tryz.infoOb
  have hso : ∀ (w : World) (a : Addr) (m : Mode), (store a ov m).run Tryz.prog w = stored Tryz.prog w a ov m := fun w a m => run_store Tryz.prog w a _ m (by rw [hov]; rfl)
  have hz0 : Hid (a = none → c = 0) := fun e => hz _ _ (by rw [hov, e])
  obtain ⟨W1, hW1⟩ : ∃ W1, W1 = (w.alloc (schO ov (.slice a' s.es.length c'))).alloc (schO ov (.slice a' s.es.length c')) := ⟨_, rfl⟩
  have A1 : Below w.heap.size w W1 := by rw [hW1]; exact al2 w _ _
  have N0 : W1.heap[w.heap.size]? = some (schO ov (.slice a' s.es.length c')) := by rw [hW1]; exact ((al1 _ _).block _ (by simp)).trans (heap_alloc_new w _)
  have N1 : W1.heap[w.heap.size + 1]? = some (schO ov (.slice a' s.es.length c')) := by rw [hW1]; exact new2 w _ _
  have Z1 : W1.heap.size = w.heap.size + 1 + 1 := by rw [hW1, World.size_alloc, World.size_alloc]
  have HZ : Hid (W1.heap.size = w.heap.size + 1 + 1) := Z1
  have HN0 : Hid (W1.heap[w.heap.size]? = some (schO ov (.slice a' s.es.length c'))) := N0
  have HN1 : Hid (W1.heap[w.heap.size + 1]? = some (schO ov (.slice a' s.es.length c'))) := N1
  have HW : Hid (W1 = (w.alloc (schO ov (.slice a' s.es.length c'))).alloc (schO ov (.slice a' s.es.length c'))) := hW1
  have T1 := fun {X : World} (d : Below w.heap.size w X) => gtypes_any (h.on d) (gl.below d (Nat.le_refl _))
  have T2 := fun {X : World} {ov' ev' : Value} (hs : SchAt X ov' ev' (moreS s y)) (d : Below w.heap.size w X) => gtypes_any hs (gl.below d (Nat.le_refl _))
  have FX := fun {X : World} (d : Below w.heap.size w X) => gfixed_any X (gl.below d (Nat.le_refl _))
  have nx : ∀ {X Y : World}, Below w.heap.size w X → Below X.heap.size X Y → Below w.heap.size w Y := fun p q => p.trans (q.mono p.size)
  have hbb : Hid (s.os.length * 40 + 40 ≤ 140737488355328) := hB
  have HOS : Hid (ObsAt w (.slice a s.os.length c) s.os) := by rw [← hov]; exact hos
  clear hW1 h gl hB hz hov N0 N1 Z1 hos
  go_enter Tryz.func7, Tryz.ntmps7
  go_wp2_with (first
    | (at_builtin; rw [← HW.out]; refine wpList_app_obs rfl (.tmp 14) (.tmp 16) rfl (os := s.os) (base := W1.heap.size) (v := .slice (some ⟨W1.heap.size, 0, none⟩) 0 0) (by rw [HZ.out]; rfl) (own_noneO (Nat.le_refl _) (heap_alloc_new W1 _)) HOV.out (A1.trans ((al1 W1 _).mono A1.size)) HOS.out hz0.out (by have := hbb.out; omega) (al1 W1 _).size ?_; intro v1 x1 l hlm hlf own1 gt1)
    | (at_builtin; refine wpList_append_own _ rfl (.tmp 17) (.tmp 23) 22 rfl W1.heap.size 54 ti _ 2 40 Tryz.underlying22 hti hy0 hy1 hy2 rfl (by decide) v1 s.os.length (cellsB l) rfl ((own1.alloc oneF).alloc (.cells #[.string ⟨y.toArray⟩, .slice (some ⟨x1.heap.size, 0, none⟩) 1 1] 54)) ⟨x1.heap.size + 1, 0, none⟩ 1 1 [.string ⟨y.toArray⟩, .slice (some ⟨x1.heap.size, 0, none⟩) 1 1] rfl rfl (World.news_of_block (new2 x1 _ _)) (by intro u hu; simp at hu; rcases hu with rfl | rfl <;> rfl) (by have := hbb.out; unfold maxLen; omega) (by have := hbb.out; omega) (Nat.le_trans (Nat.le_trans (al1 W1 _).size gt1.size) (al2 x1 _ _).size) ?_; intro v2 x2 own2 gr2 hif2; have d1 : Below W1.heap.size W1 x1 := (al1 W1 _).trans (gt1.below (al1 W1 _).size); have d1' : Below W1.heap.size W1 ((x1.alloc oneF).alloc (.cells #[.string ⟨y.toArray⟩, .slice (some ⟨x1.heap.size, 0, none⟩) 1 1] 54)) := d1.trans ((al2 x1 _ _).mono d1.size); have d2 : Below W1.heap.size W1 x2 := below_grew d1' gr2 d1'.size (fun k e => (own_blk own1 e).1); have hF : x2.heap[x1.heap.size]? = some oneF := (gr2.block _ (by rw [World.size_alloc, World.size_alloc]; omega) (fun e => by have := (own_blk own1 e.symm).2; omega)).trans (((al1 _ _).block _ (by rw [World.size_alloc]; omega)).trans (heap_alloc_new x1 oneF)); have hF1 : W1.heap.size ≤ x1.heap.size := d1.size; obtain ⟨p2, c2, rfl⟩ := own_slice own2; obtain ⟨q0, q1, qf⟩ := row2 ((d2.block _ (by rw [HZ.out]; omega)).trans HN1.out); obtain ⟨SM, BM⟩ := sch_moreG (V := .slice p2 (s.os.length + 1) c2) (T := w.heap.size + 1) hlm hlf hes A1 hF (by omega) (by have := HZ.out; omega) (by rw [HZ.out]; omega) d2 (by have := hbb.out; omega) rfl own2; obtain ⟨r0, r1, _⟩ := row2 ((d2.block _ (by rw [HZ.out]; omega)).trans HN0.out))
    | fail)
  obtain ⟨X, hX⟩ : ∃ X, X = x2.setCell ⟨w.heap.size + 1, 0, none⟩ (.slice p2 (s.os.length + 1) c2) := ⟨_, rfl⟩
  have NT : X.heap[w.heap.size + 1]? = some (schO (.slice p2 (s.os.length + 1) c2) (.slice a' s.es.length c')) := by
    rw [hX, heap_setCell_same _ _ 0 _ _ _ ((d2.block _ (by rw [HZ.out]; omega)).trans HN1.out)]
    rfl
  rw [← hX] at SM BM ⊢
  obtain ⟨t0, t1, _⟩ := row2 NT
  clear NT hX r0 r1 q0 q1 qf hF hF1 d2 d1' d1 gr2 own2 own1 gt1 hlf hlm hif2 HN0 HN1 HZ HW HOS HOV hz0 A1 hti hy0 hy1 hy2 hso
  have hc1 : (chkS s == 0) = false := by simpa using hc
  generalize chkS s = k1 at *
  generalize chkS (moreS s y) = k2 at *
  clear hc
  go_wp2_with (first
    | (go_at_call 9; first
        | ((with_reducible refine (T1 BM).mono ?_); rintro e y1 ⟨pl, nl, cl, rfl, R1, b1⟩; have D := nx BM b1; have u0 := cell_on b1 t0; have u1 := cell_on b1 t1; have SM1 := SM.on b1)
        | ((with_reducible refine (T2 SM1 D).mono ?_); rintro e y2 ⟨pm, nm, cm, rfl, R2, b2⟩; replace D := nx D b2))
    | (go_at_call 11; (with_reducible refine (FX D).mono ?_); rintro e z1 ⟨rfl, b3⟩; replace D := nx D b3)
    | fail)
  go_ret
  exact ⟨rfl, D⟩
set_option maxRecDepth 100000 in
set_option maxHeartbeats 8000000 in
theorem gmore_no2 (h : SchAt w ov ev s) (gl : Gl w) (hB : s.os.length * 40 + 40 ≤ 140737488355328) (hz : ∀ n c, ov = .slice none n c → c = 0) (y : Bs) (ho : chkS s = 0) (hc : chkS (moreS s y) ≠ 0) : Calls Tryz.prog 7 #[.agg #[ov, ev], .string ⟨y.toArray⟩] w fun e w' => e = .returned (.bool true) ∧ Below w.heap.size w w' := by
  have hos := h.os
  have hes := h.es
  obtain ⟨a, c, hov, _, _⟩ := h.os.slice
  obtain ⟨a', c', rfl, _, _⟩ := h.es.slice
  have HOV : Hid (ov = .slice a s.os.length c) := hov
  obtain ⟨ti, hti, hy0, hy1, hy2⟩ := info_parts Tryz.infoOb
  have hso : ∀ (w : World) (a : Addr) (m : Mode), (store a ov m).run Tryz.prog w = stored Tryz.prog w a ov m := fun w a m => run_store Tryz.prog w a _ m (by rw [hov]; rfl)
  have hz0 : Hid (a = none → c = 0) := fun e => hz _ _ (by rw [hov, e])
  obtain ⟨W1, hW1⟩ : ∃ W1, W1 = (w.alloc (schO ov (.slice a' s.es.length c'))).alloc (schO ov (.slice a' s.es.length c')) := ⟨_, rfl⟩
  have A1 : Below w.heap.size w W1 := by rw [hW1]; exact al2 w _ _
  have N0 : W1.heap[w.heap.size]? = some (schO ov (.slice a' s.es.length c')) := by rw [hW1]; exact ((al1 _ _).block _ (by simp)).trans (heap_alloc_new w _)
  have N1 : W1.heap[w.heap.size + 1]? = some (schO ov (.slice a' s.es.length c')) := by rw [hW1]; exact new2 w _ _
  have Z1 : W1.heap.size = w.heap.size + 1 + 1 := by rw [hW1, World.size_alloc, World.size_alloc]
  have HZ : Hid (W1.heap.size = w.heap.size + 1 + 1) := Z1
  have HN0 : Hid (W1.heap[w.heap.size]? = some (schO ov (.slice a' s.es.length c'))) := N0
  have HN1 : Hid (W1.heap[w.heap.size + 1]? = some (schO ov (.slice a' s.es.length c'))) := N1
  have HW : Hid (W1 = (w.alloc (schO ov (.slice a' s.es.length c'))).alloc (schO ov (.slice a' s.es.length c'))) := hW1
  have T1 := fun {X : World} (d : Below w.heap.size w X) => gtypes_any (h.on d) (gl.below d (Nat.le_refl _))
  have T2 := fun {X : World} {ov' ev' : Value} (hs : SchAt X ov' ev' (moreS s y)) (d : Below w.heap.size w X) => gtypes_any hs (gl.below d (Nat.le_refl _))
  have FX := fun {X : World} (d : Below w.heap.size w X) => gfixed_any X (gl.below d (Nat.le_refl _))
  have nx : ∀ {X Y : World}, Below w.heap.size w X → Below X.heap.size X Y → Below w.heap.size w Y := fun p q => p.trans (q.mono p.size)
  have hbb : Hid (s.os.length * 40 + 40 ≤ 140737488355328) := hB
  have HOS : Hid (ObsAt w (.slice a s.os.length c) s.os) := by rw [← hov]; exact hos
  clear hW1 h gl hB hz hov N0 N1 Z1 hos
  go_enter Tryz.func7, Tryz.ntmps7
  go_wp2_with (first
    | (at_builtin; rw [← HW.out]; refine wpList_app_obs rfl (.tmp 14) (.tmp 16) rfl (os := s.os) (base := W1.heap.size) (v := .slice (some ⟨W1.heap.size, 0, none⟩) 0 0) (by rw [HZ.out]; rfl) (own_noneO (Nat.le_refl _) (heap_alloc_new W1 _)) HOV.out (A1.trans ((al1 W1 _).mono A1.size)) HOS.out hz0.out (by have := hbb.out; omega) (al1 W1 _).size ?_; intro v1 x1 l hlm hlf own1 gt1)
    | (at_builtin; refine wpList_append_own _ rfl (.tmp 17) (.tmp 23) 22 rfl W1.heap.size 54 ti _ 2 40 Tryz.underlying22 hti hy0 hy1 hy2 rfl (by decide) v1 s.os.length (cellsB l) rfl ((own1.alloc oneF).alloc (.cells #[.string ⟨y.toArray⟩, .slice (some ⟨x1.heap.size, 0, none⟩) 1 1] 54)) ⟨x1.heap.size + 1, 0, none⟩ 1 1 [.string ⟨y.toArray⟩, .slice (some ⟨x1.heap.size, 0, none⟩) 1 1] rfl rfl (World.news_of_block (new2 x1 _ _)) (by intro u hu; simp at hu; rcases hu with rfl | rfl <;> rfl) (by have := hbb.out; unfold maxLen; omega) (by have := hbb.out; omega) (Nat.le_trans (Nat.le_trans (al1 W1 _).size gt1.size) (al2 x1 _ _).size) ?_; intro v2 x2 own2 gr2 hif2; have d1 : Below W1.heap.size W1 x1 := (al1 W1 _).trans (gt1.below (al1 W1 _).size); have d1' : Below W1.heap.size W1 ((x1.alloc oneF).alloc (.cells #[.string ⟨y.toArray⟩, .slice (some ⟨x1.heap.size, 0, none⟩) 1 1] 54)) := d1.trans ((al2 x1 _ _).mono d1.size); have d2 : Below W1.heap.size W1 x2 := below_grew d1' gr2 d1'.size (fun k e => (own_blk own1 e).1); have hF : x2.heap[x1.heap.size]? = some oneF := (gr2.block _ (by rw [World.size_alloc, World.size_alloc]; omega) (fun e => by have := (own_blk own1 e.symm).2; omega)).trans (((al1 _ _).block _ (by rw [World.size_alloc]; omega)).trans (heap_alloc_new x1 oneF)); have hF1 : W1.heap.size ≤ x1.heap.size := d1.size; obtain ⟨p2, c2, rfl⟩ := own_slice own2; obtain ⟨q0, q1, qf⟩ := row2 ((d2.block _ (by rw [HZ.out]; omega)).trans HN1.out); obtain ⟨SM, BM⟩ := sch_moreG (V := .slice p2 (s.os.length + 1) c2) (T := w.heap.size + 1) hlm hlf hes A1 hF (by omega) (by have := HZ.out; omega) (by rw [HZ.out]; omega) d2 (by have := hbb.out; omega) rfl own2; obtain ⟨r0, r1, _⟩ := row2 ((d2.block _ (by rw [HZ.out]; omega)).trans HN0.out))
    | fail)
  obtain ⟨X, hX⟩ : ∃ X, X = x2.setCell ⟨w.heap.size + 1, 0, none⟩ (.slice p2 (s.os.length + 1) c2) := ⟨_, rfl⟩
  have NT : X.heap[w.heap.size + 1]? = some (schO (.slice p2 (s.os.length + 1) c2) (.slice a' s.es.length c')) := by
    rw [hX, heap_setCell_same _ _ 0 _ _ _ ((d2.block _ (by rw [HZ.out]; omega)).trans HN1.out)]
    rfl
  rw [← hX] at SM BM ⊢
  obtain ⟨t0, t1, _⟩ := row2 NT
  clear NT hX r0 r1 q0 q1 qf hF hF1 d2 d1' d1 gr2 own2 own1 gt1 hlf hlm hif2 HN0 HN1 HZ HW HOS HOV hz0 A1 hti hy0 hy1 hy2 hso
  have hc1 : (chkS (moreS s y) == 0) = false := by simpa using hc
  rw [ho] at T1
  generalize chkS (moreS s y) = k2 at *
  clear hc ho
  go_wp2_with (first
    | (go_at_call 9; first
        | ((with_reducible refine (T1 BM).mono ?_); rintro e y1 ⟨pl, nl, cl, rfl, R1, b1⟩; have D := nx BM b1; have u0 := cell_on b1 t0; have u1 := cell_on b1 t1; have SM1 := SM.on b1)
        | ((with_reducible refine (T2 SM1 D).mono ?_); rintro e y2 ⟨pm, nm, cm, rfl, R2, b2⟩; replace D := nx D b2))
    | (go_at_call 11; (with_reducible refine (FX D).mono ?_); rintro e z1 ⟨rfl, b3⟩; replace D := nx D b3)
    | fail)
  go_ret
  exact ⟨rfl, D⟩
set_option maxRecDepth 100000 in
set_option maxHeartbeats 8000000 in
theorem gmore_ok (h : SchAt w ov ev s) (gl : Gl w) (hB : s.os.length * 40 + 40 ≤ 140737488355328) (hz : ∀ n c, ov = .slice none n c → c = 0) (y : Bs) (ho : chkS s = 0) (hm : chkS (moreS s y) = 0) : Calls Tryz.prog 7 #[.agg #[ov, ev], .string ⟨y.toArray⟩] w fun e w' => e = .returned (.bool true) ∧ Below w.heap.size w w' := by
  have hos := h.os
  have hes := h.es
  obtain ⟨a, c, hov, _, _⟩ := h.os.slice
  obtain ⟨a', c', rfl, _, _⟩ := h.es.slice
  have HOV : Hid (ov = .slice a s.os.length c) := hov
  obtain ⟨ti, hti, hy0, hy1, hy2⟩ := info_parts Tryz.infoOb
  have hso : ∀ (w : World) (a : Addr) (m : Mode), (store a ov m).run Tryz.prog w = stored Tryz.prog w a ov m := fun w a m => run_store Tryz.prog w a _ m (by rw [hov]; rfl)
  have hz0 : Hid (a = none → c = 0) := fun e => hz _ _ (by rw [hov, e])
  obtain ⟨W1, hW1⟩ : ∃ W1, W1 = (w.alloc (schO ov (.slice a' s.es.length c'))).alloc (schO ov (.slice a' s.es.length c')) := ⟨_, rfl⟩
  have A1 : Below w.heap.size w W1 := by rw [hW1]; exact al2 w _ _
  have N0 : W1.heap[w.heap.size]? = some (schO ov (.slice a' s.es.length c')) := by rw [hW1]; exact ((al1 _ _).block _ (by simp)).trans (heap_alloc_new w _)
  have N1 : W1.heap[w.heap.size + 1]? = some (schO ov (.slice a' s.es.length c')) := by rw [hW1]; exact new2 w _ _
  have Z1 : W1.heap.size = w.heap.size + 1 + 1 := by rw [hW1, World.size_alloc, World.size_alloc]
  have HZ : Hid (W1.heap.size = w.heap.size + 1 + 1) := Z1
  have HN0 : Hid (W1.heap[w.heap.size]? = some (schO ov (.slice a' s.es.length c'))) := N0
  have HN1 : Hid (W1.heap[w.heap.size + 1]? = some (schO ov (.slice a' s.es.length c'))) := N1
  have HW : Hid (W1 = (w.alloc (schO ov (.slice a' s.es.length c'))).alloc (schO ov (.slice a' s.es.length c'))) := hW1
  have T1 := fun {X : World} (d : Below w.heap.size w X) => gtypes_any (h.on d) (gl.below d (Nat.le_refl _))
  have T2 := fun {X : World} {ov' ev' : Value} (hs : SchAt X ov' ev' (moreS s y)) (d : Below w.heap.size w X) => gtypes_any hs (gl.below d (Nat.le_refl _))
  have FX := fun {X : World} (d : Below w.heap.size w X) => gfixed_any X (gl.below d (Nat.le_refl _))
  have nx : ∀ {X Y : World}, Below w.heap.size w X → Below X.heap.size X Y → Below w.heap.size w Y := fun p q => p.trans (q.mono p.size)
  have hbb : Hid (s.os.length * 40 + 40 ≤ 140737488355328) := hB
  have HOS : Hid (ObsAt w (.slice a s.os.length c) s.os) := by rw [← hov]; exact hos
  clear hW1 h gl hB hz hov N0 N1 Z1 hos
  go_enter Tryz.func7, Tryz.ntmps7
  go_wp2_with (first
    | (at_builtin; rw [← HW.out]; refine wpList_app_obs rfl (.tmp 14) (.tmp 16) rfl (os := s.os) (base := W1.heap.size) (v := .slice (some ⟨W1.heap.size, 0, none⟩) 0 0) (by rw [HZ.out]; rfl) (own_noneO (Nat.le_refl _) (heap_alloc_new W1 _)) HOV.out (A1.trans ((al1 W1 _).mono A1.size)) HOS.out hz0.out (by have := hbb.out; omega) (al1 W1 _).size ?_; intro v1 x1 l hlm hlf own1 gt1)
    | (at_builtin; refine wpList_append_own _ rfl (.tmp 17) (.tmp 23) 22 rfl W1.heap.size 54 ti _ 2 40 Tryz.underlying22 hti hy0 hy1 hy2 rfl (by decide) v1 s.os.length (cellsB l) rfl ((own1.alloc oneF).alloc (.cells #[.string ⟨y.toArray⟩, .slice (some ⟨x1.heap.size, 0, none⟩) 1 1] 54)) ⟨x1.heap.size + 1, 0, none⟩ 1 1 [.string ⟨y.toArray⟩, .slice (some ⟨x1.heap.size, 0, none⟩) 1 1] rfl rfl (World.news_of_block (new2 x1 _ _)) (by intro u hu; simp at hu; rcases hu with rfl | rfl <;> rfl) (by have := hbb.out; unfold maxLen; omega) (by have := hbb.out; omega) (Nat.le_trans (Nat.le_trans (al1 W1 _).size gt1.size) (al2 x1 _ _).size) ?_; intro v2 x2 own2 gr2 hif2; have d1 : Below W1.heap.size W1 x1 := (al1 W1 _).trans (gt1.below (al1 W1 _).size); have d1' : Below W1.heap.size W1 ((x1.alloc oneF).alloc (.cells #[.string ⟨y.toArray⟩, .slice (some ⟨x1.heap.size, 0, none⟩) 1 1] 54)) := d1.trans ((al2 x1 _ _).mono d1.size); have d2 : Below W1.heap.size W1 x2 := below_grew d1' gr2 d1'.size (fun k e => (own_blk own1 e).1); have hF : x2.heap[x1.heap.size]? = some oneF := (gr2.block _ (by rw [World.size_alloc, World.size_alloc]; omega) (fun e => by have := (own_blk own1 e.symm).2; omega)).trans (((al1 _ _).block _ (by rw [World.size_alloc]; omega)).trans (heap_alloc_new x1 oneF)); have hF1 : W1.heap.size ≤ x1.heap.size := d1.size; obtain ⟨p2, c2, rfl⟩ := own_slice own2; obtain ⟨q0, q1, qf⟩ := row2 ((d2.block _ (by rw [HZ.out]; omega)).trans HN1.out); obtain ⟨SM, BM⟩ := sch_moreG (V := .slice p2 (s.os.length + 1) c2) (T := w.heap.size + 1) hlm hlf hes A1 hF (by omega) (by have := HZ.out; omega) (by rw [HZ.out]; omega) d2 (by have := hbb.out; omega) rfl own2; obtain ⟨r0, r1, _⟩ := row2 ((d2.block _ (by rw [HZ.out]; omega)).trans HN0.out))
    | fail)
  obtain ⟨X, hX⟩ : ∃ X, X = x2.setCell ⟨w.heap.size + 1, 0, none⟩ (.slice p2 (s.os.length + 1) c2) := ⟨_, rfl⟩
  have NT : X.heap[w.heap.size + 1]? = some (schO (.slice p2 (s.os.length + 1) c2) (.slice a' s.es.length c')) := by
    rw [hX, heap_setCell_same _ _ 0 _ _ _ ((d2.block _ (by rw [HZ.out]; omega)).trans HN1.out)]
    rfl
  rw [← hX] at SM BM ⊢
  obtain ⟨t0, t1, _⟩ := row2 NT
  clear NT hX r0 r1 q0 q1 qf hF hF1 d2 d1' d1 gr2 own2 own1 gt1 hlf hlm hif2 HN0 HN1 HZ HW HOS HOV hz0 A1 hti hy0 hy1 hy2 hso
  have O1 : Hid (OkD s) := chk_ok.1 ho
  have O2 : Hid (OkD (moreS s y)) := chk_ok.1 hm
  rw [ho] at T1
  rw [hm] at T2
  clear ho hm
  go_wp2_with (first
    | (go_at_call 9; first
        | ((with_reducible refine (T1 BM).mono ?_); rintro e y1 ⟨pl, nl, cl, rfl, R1, b1⟩; have D := nx BM b1; have u0 := cell_on b1 t0; have u1 := cell_on b1 t1; have SM1 := SM.on b1; have DX1 := DfR.defs (R1 (by trivial)) O1.out; clear R1; obtain ⟨_, _, hh1, _, _⟩ := DX1.slice; cases hh1)
        | ((with_reducible refine (T2 SM1 D).mono ?_); rintro e y2 ⟨pm, nm, cm, rfl, R2, b2⟩; replace D := nx D b2; have DX2 := DfR.defs (R2 (by trivial)) O2.out; clear R2; obtain ⟨_, _, hh2, _, _⟩ := DX2.slice; cases hh2; replace DX1 := DX1.on b2))
    | (go_at_call 11; (with_reducible refine (FX D).mono ?_); rintro e Z ⟨rfl, b3⟩; replace D := nx D b3; replace DX1 := DX1.on b3; replace DX2 := DX2.on b3; clear b1 b2 b3)
    | fail)
  have HM : Hid (∀ (i : Nat) (d : Df), (defT s)[i]? = some d → ∃ (k : Nat) (D : Df), fndT (defT (moreS s y)) d.n = (k : Int) ∧ (defT (moreS s y))[k]? = some D ∧ k < (defT (moreS s y)).length ∧ Mor d D) := fun i d hd => more_at O1.out O2.out hd
  have HL : Hid ((defT (moreS s y)).length = (defT s).length + 6) := more_len
  have HS : Hid ((defT s).length ≤ 1000) := (def_sm O1.out).1
  clear O1 O2 T1 T2 FX SM BM u0 u1 SM1 t0 t1
  generalize defT s = L at *
  generalize defT (moreS s y) = M at *
  go_loopw [10] (fun i wr => ∃ j : Nat, i = .int .i64 (j : Int) ∧ j ≤ L.length ∧ Below Z.heap.size Z wr) (fun i _ => L.length - (RowKit.intOf i).toNat)
  case atStart => exact ⟨0, rfl, Nat.zero_le _, Below.refl _ _⟩
  case round =>
    obtain ⟨j, rfl, hj, hbr⟩ := hrel
    by_cases hlt : j < L.length
    · obtain ⟨d, hd⟩ : ∃ d, L[j]? = some d := ⟨_, List.getElem?_eq_getElem hlt⟩
      obtain ⟨k, F, fk, hF, hk, mo⟩ := HM.out j d hd
      obtain ⟨b, o, c0, a1, n1, c1, a2, n2, c2, a3, n3, c3, hv, hbl, _, e0, e1, e2, e3, e4, hws, hos, his⟩ := df_cells DX1 hd
      cases hv
      obtain ⟨b', o', c0', a1', n1', c1', a2', n2', c2', a3', n3', c3', hv, hbl', _, g0, g1, g2, g3, g4, hws', hos', his'⟩ := df_cells DX2 hF
      cases hv
      obtain ⟨_, _, hq, _, _⟩ := hos.slice
      cases hq
      have hLc : L.length ≤ cl := by obtain ⟨_, _, hq, q, _⟩ := DX1.slice; cases hq; exact q
      obtain ⟨_, _, hq, kc, _⟩ := hos'.slice
      cases hq
      have FD := gfind_any (DX2.on hbr) d.n
      rw [fk] at FD
      have l1 : ((j : Nat) : Int) < (L.length : Int) := by omega
      have hjN : ((j : Nat) : Int).toNat = j := by omega
      have HK : Hid (j + 1 ≤ L.length) := hlt
      have q1 : ¬ ((k : Nat) : Int) < 0 := by omega
      have q2 : ¬ ((M.length : Nat) : Int) ≤ (k : Int) := by omega
      have q3 : ((k : Nat) : Int) < (M.length : Int) := by omega
      have q4 : ((k : Nat) : Int).toNat = k := by omega
      have q5 : ¬ M.length ≤ k := by omega
      have HM0 : Hid (Mor d F) := mo
      have f0 := cell_on hbr e0
      have f1 := cell_on hbr e1
      have f2 := cell_on hbr e2
      have f3 := cell_on hbr e3
      have f4 := cell_on hbr e4
      have HD : Hid (L[j]? = some d) := hd
      have HDF : Hid (M[k]? = some F) := hF
      have ANY : (d.n = cQuery ∧ (d.n == cQuery) = true ∧ F.os.take d.os.length = d.os ∧ d.os.length ≤ F.os.length) ∨ (d.n = cMutation ∧ (d.n == cQuery) = false ∧ F.os.take d.os.length = d.os ∧ d.os.length ≤ F.os.length) ∨ ((d.n == cQuery) = false ∧ (d.n == cMutation) = false ∧ F.os = d.os) := by
        rcases mo.os with ⟨q | q, t1, t2⟩ | ⟨q, t1⟩
        · exact Or.inl ⟨q, by simp [q], t1, t2⟩
        · exact Or.inr (Or.inl ⟨q, by rw [q]; decide, t1, t2⟩)
        · exact Or.inr (Or.inr ⟨by simpa using fun e => q (Or.inl e), by simpa using fun e => q (Or.inr e), t1⟩)
      obtain ⟨dn, dk, dw, di, dO⟩ := d
      obtain ⟨Fn, Fk, Fw, Fi, FO⟩ := F
      obtain rfl : Fn = dn := mo.n
      obtain rfl : Fk = dk := mo.k
      obtain rfl : Fw = dw := mo.ws
      obtain rfl : Fi = di := mo.is
      simp only at ANY hos hos' hws hws' his his' f0 f1 f2 f3 f4 g0 g1 g2 g3 g4 FD
      have HCL : Hid (L.length ≤ cl) := hLc
      have hcj : ¬ cl = j := by omega
      have j0 : (0 : Int) ≤ (j : Int) := by omega
      have j1 : (j : Int) ≤ (j : Int) + 1 := by omega
      have j2 : (j : Int) + 1 ≤ (cl : Int) := by omega
      have jw : IntKind.i64.wrap ((j : Int) + 1) = (j : Int) + 1 := by have := HS.out; rw [IntKind.wrap_i64]; omega
      clear hd hF hlt hk mo e0 e1 e2 e3 e4 fk HM0
      rcases ANY with ⟨rfl, qa, tk, le⟩ | ⟨rfl, qa, tk, le⟩ | ⟨qa, qb, tk⟩
      · clear qa
        have kc' : FO.length ≤ c2' := kc
        have lO : decide ((FO.length : Int) < (dO.length : Int)) = false := by simp; omega
        have lO2 : decide (FO.length < dO.length) = false := by simp; omega
        have lO3 : ((dO.length : Nat) : Int) ≤ (c2' : Int) := by omega
        have lO4 : (0 : Int) ≤ ((dO.length : Nat) : Int) := by omega
        have hosR : OtsAt Z (.slice a2' dO.length c2') dO := by have q := ots_take hos' le; rw [tk] at q; exact q
        go_wp2_with (first
          | (go_at_call 14; (with_reducible refine FD.mono ?_); rintro e X2 ⟨rfl, b2⟩; have hb2 := hbr.trans (b2.mono hbr.size); have h0 := cell_on hb2 g0; have h1 := cell_on hb2 g1; have h2 := cell_on hb2 g2; have h3 := cell_on hb2 g3; have h4 := cell_on hb2 g4)
          | fail)
        obtain ⟨V0, hV0⟩ : ∃ V, V = X2.alloc (.cells #[.string ⟨cQuery.toArray⟩, .int .i64 Fk, .slice a1' n1' c1', .slice a2' FO.length c2', .slice a3' n3' c3'] 35) := ⟨_, rfl⟩
        have bV0 : Below X2.heap.size X2 V0 := by rw [hV0]; exact al1 _ _
        have NV0 : V0.heap[X2.heap.size]? = some (.cells #[.string ⟨cQuery.toArray⟩, .int .i64 Fk, .slice a1' n1' c1', .slice a2' FO.length c2', .slice a3' n3' c3'] 35) := by rw [hV0]; exact heap_alloc_new _ _
        obtain ⟨y0, y1, y2, y3, y4, yf⟩ := row5 NV0
        have r3 := cell_on (b2.trans (bV0.mono b2.size)) f3
        have hnb : ¬ X2.heap.size = b := by have := hb2.size; omega
        rw [← hV0]
        clear hV0
        go_quiet (fail)
        go_wp2
        obtain ⟨V1, hV1⟩ : ∃ V, V = V0.drewN nq := ⟨_, rfl⟩
        have k1 : Below V0.heap.size V0 V1 := by rw [hV1]; exact (Kp.n (S := fun _ => False) V0 nq).below (Nat.le_refl _) (fun _ _ e => e)
        rw [← hV1]
        replace NV0 := (k1.block _ (lt_of_block NV0)).trans NV0
        clear hV1 y0 y1 y2 y3 y4 yf
        obtain ⟨y0, y1, y2, y3, y4, yf⟩ := row5 NV0
        replace r3 := cell_on k1 r3
        go_region
        obtain ⟨V, hV⟩ : ∃ V, V = (V1.setCell ⟨X2.heap.size, 3, none⟩ (.slice a2' dO.length c2')).drew := ⟨_, rfl⟩
        have bV : Below X2.heap.size X2 V := by
          rw [hV]
          have q : Below X2.heap.size X2 V1 := bV0.trans (k1.mono bV0.size)
          exact bel_dr (q.setCell (p := ⟨X2.heap.size, 3, none⟩) (Nat.le_refl _) _)
        have NV : V.heap[X2.heap.size]? = some (.cells #[.string ⟨cQuery.toArray⟩, .int .i64 Fk, .slice a1' n1' c1', .slice a2' dO.length c2', .slice a3' n3' c3'] 35) := by
          rw [hV]
          exact heap_setCell_same V1 X2.heap.size 3 _ _ _ NV0
        rw [← hV]
        clear hV y0 y1 y2 y3 y4 yf r3
        go_wp2
        have hbV := hb2.trans (bV.mono hb2.size)
        obtain ⟨y0, y1, y2, y3, y4, yf⟩ := row5 NV
        have SS : ∀ {W : World}, Below V.heap.size V W → (fun w' => w'.cell? ⟨X2.heap.size, 0, none⟩ = some (.string ⟨cQuery.toArray⟩) ∧ w'.cell? ⟨X2.heap.size, 1, none⟩ = some (.int .i64 Fk) ∧ w'.cell? ⟨X2.heap.size, 2, none⟩ = some (.slice a1' n1' c1') ∧ w'.cell? ⟨X2.heap.size, 3, none⟩ = some (.slice a2' dO.length c2') ∧ w'.cell? ⟨X2.heap.size, 4, none⟩ = some (.slice a3' n3' c3')) W := fun b => ⟨cell_on b y0, cell_on b y1, cell_on b y2, cell_on b y3, cell_on b y4⟩
        have DA : Below V.heap.size V V.drew := bel_dr (Below.refl _ _)
        have VV := bel_dr (al1 V (.cells #[.string ⟨cQuery.toArray⟩, .int .i64 Fk, .slice a1' n1' c1', .slice a2' dO.length c2', .slice a3' n3' c3'] 35))
        have JS := jsame_eq (w := (V.alloc (.cells #[.string ⟨cQuery.toArray⟩, .int .i64 Fk, .slice a1' n1' c1', .slice a2' dO.length c2', .slice a3' n3' c3'] 35)).drew) (defs_one (d := ⟨cQuery, Fk, Fw, Fi, dO⟩) (nb := V.heap.size) (heap_alloc_new V _) ((hws'.on hbV).on VV) ((hosR.on hbV).on VV) ((his'.on hbV).on VV)) (defs_sub (c' := cl - j) ((DX1.on hbV).on VV) HD.out (by omega))
        go_region_held3 (fun w' => w'.cell? ⟨X2.heap.size, 0, none⟩ = some (.string ⟨cQuery.toArray⟩) ∧ w'.cell? ⟨X2.heap.size, 1, none⟩ = some (.int .i64 Fk) ∧ w'.cell? ⟨X2.heap.size, 2, none⟩ = some (.slice a1' n1' c1') ∧ w'.cell? ⟨X2.heap.size, 3, none⟩ = some (.slice a2' dO.length c2') ∧ w'.cell? ⟨X2.heap.size, 4, none⟩ = some (.slice a3' n3' c3')) (first | with_reducible exact SS DA | with_reducible exact SS VV | with_reducible exact SS VB) ((go_at_call 10; (with_reducible refine JS.mono ?_); rintro e V2 ⟨rfl, b5⟩; have VB := VV.trans (b5.mono VV.size)))
        go_wp2
        refine ⟨⟨j + 1, by simp, HK.out, hbV.trans ((VV.trans (b5.mono VV.size)).mono hbV.size)⟩, ?_⟩
        have := HK.out
        simp [RowKit.intOf]
        omega
      · clear qa
        have kc' : FO.length ≤ c2' := kc
        have lO : decide ((FO.length : Int) < (dO.length : Int)) = false := by simp; omega
        have lO2 : decide (FO.length < dO.length) = false := by simp; omega
        have lO3 : ((dO.length : Nat) : Int) ≤ (c2' : Int) := by omega
        have lO4 : (0 : Int) ≤ ((dO.length : Nat) : Int) := by omega
        have hosR : OtsAt Z (.slice a2' dO.length c2') dO := by have q := ots_take hos' le; rw [tk] at q; exact q
        go_wp2_with (first
          | (go_at_call 14; (with_reducible refine FD.mono ?_); rintro e X2 ⟨rfl, b2⟩; have hb2 := hbr.trans (b2.mono hbr.size); have h0 := cell_on hb2 g0; have h1 := cell_on hb2 g1; have h2 := cell_on hb2 g2; have h3 := cell_on hb2 g3; have h4 := cell_on hb2 g4)
          | fail)
        obtain ⟨V0, hV0⟩ : ∃ V, V = X2.alloc (.cells #[.string ⟨cMutation.toArray⟩, .int .i64 Fk, .slice a1' n1' c1', .slice a2' FO.length c2', .slice a3' n3' c3'] 35) := ⟨_, rfl⟩
        have bV0 : Below X2.heap.size X2 V0 := by rw [hV0]; exact al1 _ _
        have NV0 : V0.heap[X2.heap.size]? = some (.cells #[.string ⟨cMutation.toArray⟩, .int .i64 Fk, .slice a1' n1' c1', .slice a2' FO.length c2', .slice a3' n3' c3'] 35) := by rw [hV0]; exact heap_alloc_new _ _
        obtain ⟨y0, y1, y2, y3, y4, yf⟩ := row5 NV0
        have r3 := cell_on (b2.trans (bV0.mono b2.size)) f3
        have hnb : ¬ X2.heap.size = b := by have := hb2.size; omega
        rw [← hV0]
        clear hV0
        go_quiet (fail)
        go_wp2
        obtain ⟨V1, hV1⟩ : ∃ V, V = V0.drewN nq := ⟨_, rfl⟩
        have k1 : Below V0.heap.size V0 V1 := by rw [hV1]; exact (Kp.n (S := fun _ => False) V0 nq).below (Nat.le_refl _) (fun _ _ e => e)
        rw [← hV1]
        replace NV0 := (k1.block _ (lt_of_block NV0)).trans NV0
        clear hV1 y0 y1 y2 y3 y4 yf
        obtain ⟨y0, y1, y2, y3, y4, yf⟩ := row5 NV0
        replace r3 := cell_on k1 r3
        go_region
        obtain ⟨V, hV⟩ : ∃ V, V = (V1.setCell ⟨X2.heap.size, 3, none⟩ (.slice a2' dO.length c2')).drew := ⟨_, rfl⟩
        have bV : Below X2.heap.size X2 V := by
          rw [hV]
          have q : Below X2.heap.size X2 V1 := bV0.trans (k1.mono bV0.size)
          exact bel_dr (q.setCell (p := ⟨X2.heap.size, 3, none⟩) (Nat.le_refl _) _)
        have NV : V.heap[X2.heap.size]? = some (.cells #[.string ⟨cMutation.toArray⟩, .int .i64 Fk, .slice a1' n1' c1', .slice a2' dO.length c2', .slice a3' n3' c3'] 35) := by
          rw [hV]
          exact heap_setCell_same V1 X2.heap.size 3 _ _ _ NV0
        rw [← hV]
        clear hV y0 y1 y2 y3 y4 yf r3
        go_wp2
        have hbV := hb2.trans (bV.mono hb2.size)
        obtain ⟨y0, y1, y2, y3, y4, yf⟩ := row5 NV
        have SS : ∀ {W : World}, Below V.heap.size V W → (fun w' => w'.cell? ⟨X2.heap.size, 0, none⟩ = some (.string ⟨cMutation.toArray⟩) ∧ w'.cell? ⟨X2.heap.size, 1, none⟩ = some (.int .i64 Fk) ∧ w'.cell? ⟨X2.heap.size, 2, none⟩ = some (.slice a1' n1' c1') ∧ w'.cell? ⟨X2.heap.size, 3, none⟩ = some (.slice a2' dO.length c2') ∧ w'.cell? ⟨X2.heap.size, 4, none⟩ = some (.slice a3' n3' c3')) W := fun b => ⟨cell_on b y0, cell_on b y1, cell_on b y2, cell_on b y3, cell_on b y4⟩
        have DA : Below V.heap.size V V.drew := bel_dr (Below.refl _ _)
        have VV := bel_dr (al1 V (.cells #[.string ⟨cMutation.toArray⟩, .int .i64 Fk, .slice a1' n1' c1', .slice a2' dO.length c2', .slice a3' n3' c3'] 35))
        have JS := jsame_eq (w := (V.alloc (.cells #[.string ⟨cMutation.toArray⟩, .int .i64 Fk, .slice a1' n1' c1', .slice a2' dO.length c2', .slice a3' n3' c3'] 35)).drew) (defs_one (d := ⟨cMutation, Fk, Fw, Fi, dO⟩) (nb := V.heap.size) (heap_alloc_new V _) ((hws'.on hbV).on VV) ((hosR.on hbV).on VV) ((his'.on hbV).on VV)) (defs_sub (c' := cl - j) ((DX1.on hbV).on VV) HD.out (by omega))
        go_region_held3 (fun w' => w'.cell? ⟨X2.heap.size, 0, none⟩ = some (.string ⟨cMutation.toArray⟩) ∧ w'.cell? ⟨X2.heap.size, 1, none⟩ = some (.int .i64 Fk) ∧ w'.cell? ⟨X2.heap.size, 2, none⟩ = some (.slice a1' n1' c1') ∧ w'.cell? ⟨X2.heap.size, 3, none⟩ = some (.slice a2' dO.length c2') ∧ w'.cell? ⟨X2.heap.size, 4, none⟩ = some (.slice a3' n3' c3')) (first | with_reducible exact SS DA | with_reducible exact SS VV | with_reducible exact SS VB) ((go_at_call 10; (with_reducible refine JS.mono ?_); rintro e V2 ⟨rfl, b5⟩; have VB := VV.trans (b5.mono VV.size)))
        go_wp2
        refine ⟨⟨j + 1, by simp, HK.out, hbV.trans ((VV.trans (b5.mono VV.size)).mono hbV.size)⟩, ?_⟩
        have := HK.out
        simp [RowKit.intOf]
        omega
      · have qa' : (Fn == [81, 117, 101, 114, 121]) = false := qa
        have qb' : (Fn == [77, 117, 116, 97, 116, 105, 111, 110]) = false := qb
        subst tk
        clear qa qb
        go_wp2_with (first
          | (go_at_call 14; (with_reducible refine FD.mono ?_); rintro e X2 ⟨rfl, b2⟩; have hb2 := hbr.trans (b2.mono hbr.size); have h0 := cell_on hb2 g0; have h1 := cell_on hb2 g1; have h2 := cell_on hb2 g2; have h3 := cell_on hb2 g3; have h4 := cell_on hb2 g4)
          | fail)
        obtain ⟨V, hV⟩ : ∃ V, V = X2.alloc (.cells #[.string ⟨Fn.toArray⟩, .int .i64 Fk, .slice a1' n1' c1', .slice a2' FO.length c2', .slice a3' n3' c3'] 35) := ⟨_, rfl⟩
        have bV : Below X2.heap.size X2 V := by rw [hV]; exact al1 _ _
        have NV : V.heap[X2.heap.size]? = some (.cells #[.string ⟨Fn.toArray⟩, .int .i64 Fk, .slice a1' n1' c1', .slice a2' FO.length c2', .slice a3' n3' c3'] 35) := by rw [hV]; exact heap_alloc_new _ _
        rw [← hV]
        clear hV
        have hbV := hb2.trans (bV.mono hb2.size)
        obtain ⟨y0, y1, y2, y3, y4, yf⟩ := row5 NV
        have SS : ∀ {W : World}, Below V.heap.size V W → (fun w' => w'.cell? ⟨X2.heap.size, 0, none⟩ = some (.string ⟨Fn.toArray⟩) ∧ w'.cell? ⟨X2.heap.size, 1, none⟩ = some (.int .i64 Fk) ∧ w'.cell? ⟨X2.heap.size, 2, none⟩ = some (.slice a1' n1' c1') ∧ w'.cell? ⟨X2.heap.size, 3, none⟩ = some (.slice a2' FO.length c2') ∧ w'.cell? ⟨X2.heap.size, 4, none⟩ = some (.slice a3' n3' c3')) W := fun b => ⟨cell_on b y0, cell_on b y1, cell_on b y2, cell_on b y3, cell_on b y4⟩
        have DA : Below V.heap.size V V.drew := bel_dr (Below.refl _ _)
        have VV := bel_dr (al1 V (.cells #[.string ⟨Fn.toArray⟩, .int .i64 Fk, .slice a1' n1' c1', .slice a2' FO.length c2', .slice a3' n3' c3'] 35))
        have JS := jsame_eq (w := (V.alloc (.cells #[.string ⟨Fn.toArray⟩, .int .i64 Fk, .slice a1' n1' c1', .slice a2' FO.length c2', .slice a3' n3' c3'] 35)).drew) (defs_one (d := ⟨Fn, Fk, Fw, Fi, FO⟩) (nb := V.heap.size) (heap_alloc_new V _) ((hws'.on hbV).on VV) ((hos'.on hbV).on VV) ((his'.on hbV).on VV)) (defs_sub (c' := cl - j) ((DX1.on hbV).on VV) HD.out (by omega))
        go_region_held3 (fun w' => w'.cell? ⟨X2.heap.size, 0, none⟩ = some (.string ⟨Fn.toArray⟩) ∧ w'.cell? ⟨X2.heap.size, 1, none⟩ = some (.int .i64 Fk) ∧ w'.cell? ⟨X2.heap.size, 2, none⟩ = some (.slice a1' n1' c1') ∧ w'.cell? ⟨X2.heap.size, 3, none⟩ = some (.slice a2' FO.length c2') ∧ w'.cell? ⟨X2.heap.size, 4, none⟩ = some (.slice a3' n3' c3')) (first | with_reducible exact SS DA | with_reducible exact SS VV | with_reducible exact SS VB) ((go_at_call 10; (with_reducible refine JS.mono ?_); rintro e V2 ⟨rfl, b5⟩; have VB := VV.trans (b5.mono VV.size)))
        go_wp2
        refine ⟨⟨j + 1, by simp, HK.out, hbV.trans ((VV.trans (b5.mono VV.size)).mono hbV.size)⟩, ?_⟩
        have := HK.out
        simp [RowKit.intOf]
        omega
    · have l2 : decide (((j : Nat) : Int) < (L.length : Int)) = false := by simp; omega
      have l3 : decide (j < L.length) = false := by simp; omega
      have z1 := HL.out
      have z2 := HS.out
      obtain rfl : j = L.length := by omega
      have ww : IntKind.i64.wrap ((L.length : Int) + 6) = (L.length : Int) + 6 := by rw [IntKind.wrap_i64]; omega
      have hbig : ((M.length : Int) == (L.length : Int) + 6) = true := by simp; omega
      clear hlt hj z1 z2
      go_wp2
      go_ret
      exact ⟨rfl, D.trans (hbr.mono D.size)⟩
theorem gmore_any (h : SchAt w ov ev s) (gl : Gl w) (hB : s.os.length * 40 + 40 ≤ 140737488355328) (hz : ∀ n c, ov = .slice none n c → c = 0) (y : Bs) : Calls Tryz.prog 7 #[.agg #[ov, ev], .string ⟨y.toArray⟩] w fun e w' => e = .returned (.bool true) ∧ Below w.heap.size w w' := by
  by_cases ho : chkS s = 0
  · by_cases hm : chkS (moreS s y) = 0
    · exact gmore_ok h gl hB hz y ho hm
    · exact gmore_no2 h gl hB hz y ho hm
  · exact gmore_no1 h gl hB hz y ho
end
end Go.Proofs.YtamkjpfomaapgaaGreatDoor
namespace Go.Proofs.YtamkjpfomaapgaaGreatDoor
open Go Go.RowKit Go.ChangeShapes Go.WideShapes Go.Deep
/-- Nothing within it is beyond the form's reach. -/
def Wt {H : Type} (t : TypeId) (d : DataW H) : Prop := ∀ n ∈ d.weights Tryz.prog t, n ≤ reachBytes
theorem mem_weightsAll {H : Type} {e : TypeId} {d : DataW H} {n : Nat} (hn : n ∈ d.weights Tryz.prog e) : ∀ {l : List (DataW H)}, d ∈ l → n ∈ DataW.weightsAll Tryz.prog e l
  | x :: r, h => by
    simp only [DataW.weightsAll, List.mem_append]
    rcases List.mem_cons.1 h with rfl | h
    · exact Or.inl hn
    · exact Or.inr (mem_weightsAll hn h)
theorem Wt.elem {H : Type} {t e : TypeId} {el sp : List (DataW H)} (ht : Tryz.prog.underlying t = some (.slice e)) (h : Wt t (.slice el sp)) {d : DataW H} (hd : d ∈ el) : Wt e d := by
  intro n hn
  refine h n ?_
  simp only [DataW.weights, ht, List.mem_cons, List.mem_append]
  exact Or.inr (Or.inl (mem_weightsAll hn hd))
theorem Wt.len {H : Type} {t e : TypeId} {el sp : List (DataW H)} (ht : Tryz.prog.underlying t = some (.slice e)) (h : Wt t (.slice el sp)) (hb : 1 ≤ Tryz.prog.bytesOf e) : el.length ≤ 140737488355328 := by
  have h1 := h ((el.length + sp.length) * Tryz.prog.bytesOf e) (by simp only [DataW.weights, ht, List.mem_cons, true_or])
  have h2 := reachBytes_lt
  have h3 : el.length + sp.length ≤ (el.length + sp.length) * Tryz.prog.bytesOf e := Nat.le_mul_of_pos_right _ hb
  omega
theorem Wt.part {H : Type} {t : TypeId} {fs : Array Field} {parts : List (DataW H)} (ht : Tryz.prog.underlying t = some (.struct fs)) (h : Wt t (.agg parts)) {j : Nat} {u : TypeId} {d : DataW H} (hu : (fs.toList.map (·.type))[j]? = some u) (hd : parts[j]? = some d) : Wt u d := by
  intro n hn
  refine h n ?_
  simp only [DataW.weights, ht]
  exact DataW.weights_mem_each hu hd n hn
section
variable {H : Type} {enc : TypeId × Value → H} {w : World} {base : Nat} {spare : Nat → Bool} {held : Bool}
theorem open_sl {α : Type} {sz : Nat} {t e : TypeId} {p : α → Nat → Nat → Prop} (ht : Tryz.prog.underlying t = some (.slice e)) (hsz : Tryz.prog.cellsOf e = sz) (hs1 : 0 < sz) (hb : 1 ≤ Tryz.prog.bytesOf e) {fuel : Nat} {cs : List Value} {x : DataW H × List MemPlace} (h : DataW.trod enc Tryz.prog w base spare held fuel t cs = some x) (hw : Wt t x.1)
    (each : ∀ (fuel : Nat) (cs : List Value) (y : DataW H × List MemPlace) (b o : Nat), DataW.trod enc Tryz.prog w base spare held fuel e cs = some y → Wt e y.1 → cs.length = sz → (∀ j u, cs[j]? = some u → w.cell? ⟨b, o + j, none⟩ = some u) → ∃ a : α, p a b o) :
    ∃ (v : Value) (l : List α), cs = [v] ∧ Sl w v l.length sz (fun i b o => ∀ a, l[i]? = some a → p a b o) := by
  rcases open_slice ht h with ⟨hcs, _⟩ | ⟨ad, len, cap, m, n, D, Pl, hcs, _, hl, hm, hmm, rfl, hx⟩
  · exact ⟨_, [], hcs, _, 0, rfl, Nat.le_refl _, by simp, fun h => absurd h (by simp)⟩
  · have hlm : len ≤ m := by rw [hmm]; split <;> omega
    rw [hsz] at hx
    have hlen47 : len ≤ 140737488355328 := by
      have := hw.len ht hb
      simpa using this
    by_cases h0 : len = 0
    · subst h0
      exact ⟨_, [], hcs, some ad, cap, rfl, by simp, by simp, fun h => absurd h (by simp)⟩
    · obtain ⟨b, o, sp⟩ := ad
      have cell : ∀ i, i < len → ∃ cs', DataW.trod enc Tryz.prog w base spare held n e cs' = some (D i, Pl i) ∧ cs'.length = sz ∧ ∀ j, j < sz → w.cell? ((⟨b, o, sp⟩ : Addr).add (i * sz + j)) = cs'[j]? := by
        intro i hi
        obtain ⟨cs', h1, h2⟩ := hx i (by omega)
        obtain ⟨_, hlen, hcell⟩ := World.cells?_some h1
        refine ⟨cs', h2, hlen, fun j hj => ?_⟩
        have := hcell j hj
        rw [add_add] at this
        exact this
      obtain ⟨cs0, _, hl0, hc0⟩ := cell 0 (by omega)
      obtain ⟨u0, hu0⟩ : ∃ u, cs0[0]? = some u := ⟨_, List.getElem?_eq_getElem (by omega)⟩
      have hc00 := (hc0 0 hs1).trans hu0
      have hsp : sp = none := by simpa [Addr.add] using World.cell?_spot hc00
      subst hsp
      have hbl : b < w.heap.size := by
        have := World.block_lt_of_cell? w _ hc00
        simpa [Addr.add] using this
      have each' : ∀ i, i < len → ∃ a : α, p a b (o + i * sz) := by
        intro i hi
        obtain ⟨cs', h1, h2, h3⟩ := cell i hi
        refine each n cs' _ b (o + i * sz) h1 (hw.elem ht (List.mem_map.2 ⟨i, List.mem_range.2 hi, rfl⟩)) h2 fun j u hj => ?_
        have hjs : j < sz := by
          have := (List.getElem?_eq_some_iff.1 hj).1
          omega
        have h4 := (h3 j hjs).trans hj
        have e4 : (⟨b, o, none⟩ : Addr).add (i * sz + j) = ⟨b, o + i * sz + j, none⟩ := by simp [Addr.add, Nat.add_assoc]
        rw [e4] at h4
        exact h4
      obtain ⟨a0, _⟩ := each' 0 (by omega)
      haveI : Inhabited α := ⟨a0⟩
      obtain ⟨f, hf⟩ := choose_lt each'
      refine ⟨_, (List.range len).map f, hcs, some ⟨b, o, none⟩, cap, by simp, by simpa using hl, by simpa using hlen47, fun _ => ⟨b, o, rfl, hbl, fun i hi a ha => ?_⟩⟩
      have hi : i < len := by simpa using hi
      have hpf : a = f i := by
        simp [hi] at ha
        exact ha.symm
      subst hpf
      exact hf i hi
theorem Tryz.cStr : Tryz.prog.cellsOf 9 = 1 := by kernel_rfl
theorem Tryz.cFld : Tryz.prog.cellsOf 56 = 5 := by kernel_rfl
theorem Tryz.cRef : Tryz.prog.cellsOf 37 = 2 := by kernel_rfl
theorem Tryz.cBool : Tryz.prog.cellsOf 4 = 1 := by kernel_rfl
theorem Tryz.cOb : Tryz.prog.cellsOf 54 = 2 := by kernel_rfl
theorem Tryz.cEn : Tryz.prog.cellsOf 59 = 2 := by kernel_rfl
theorem Tryz.cSch : Tryz.prog.cellsOf 25 = 2 := by kernel_rfl
theorem Tryz.cFs : Tryz.prog.cellsOf 52 = 1 := by kernel_rfl
theorem Tryz.cWs : Tryz.prog.cellsOf 31 = 1 := by kernel_rfl
theorem Tryz.cOs : Tryz.prog.cellsOf 22 = 1 := by kernel_rfl
theorem Tryz.cEs : Tryz.prog.cellsOf 23 = 1 := by kernel_rfl
theorem open_str {fuel : Nat} {cs : List Value} {x : DataW H × List MemPlace} (h : DataW.trod enc Tryz.prog w base spare held fuel 9 cs = some x) : ∃ b : Bs, cs = [.string ⟨b.toArray⟩] := by
  obtain ⟨t, e, _, _⟩ := DataW.trod_string Tryz.underlying9 h
  exact ⟨t.data.toList, by rw [e]⟩
set_option maxRecDepth 100000 in
theorem open_fld {fuel : Nat} {cs : List Value} {x : DataW H × List MemPlace} (h : DataW.trod enc Tryz.prog w base spare held fuel 56 cs = some x) :
    ∃ f : Fld, cs = [.string ⟨f.n.toArray⟩, .string ⟨f.t.toArray⟩, .string ⟨f.w.toArray⟩, .bool f.s, .string ⟨f.i.toArray⟩] := by
  obtain ⟨xs, n, _, _, hl, hxl, hf⟩ := DataW.trod_struct Tryz.underlying56 h
  rw [Tryz.cFld] at hl
  match xs, hxl, cs, hl with
  | [y0, y1, y2, y3], _, [v0, v1, v2, v3, v4], _ =>
    have g0 := hf 0 _ rfl
    have g1 := hf 1 _ rfl
    have g2 := hf 2 _ rfl
    have g3 := hf 3 _ rfl
    simp [Tryz.cStr, Tryz.cRef, Tryz.cBool] at g0 g1 g2 g3
    obtain ⟨a0, e0⟩ := open_str g0
    obtain ⟨ys, m, _, _, _, hyl, hg⟩ := DataW.trod_struct Tryz.underlying37 g1
    match ys, hyl with
    | [z0, z1], _ =>
      have q0 := hg 0 _ rfl
      have q1 := hg 1 _ rfl
      simp [Tryz.cStr] at q0 q1
      obtain ⟨a1, e1⟩ := open_str q0
      obtain ⟨a2, e2⟩ := open_str q1
      obtain ⟨a3, e3, _, _⟩ := DataW.trod_bool Tryz.underlying4 g2
      obtain ⟨a4, e4⟩ := open_str g3
      simp at e0 e1 e2 e3 e4
      exact ⟨⟨a0, a1, a2, a3, a4⟩, by rw [e0, e1, e2, e3, e4]⟩
theorem open_wds {fuel : Nat} {cs : List Value} {x : DataW H × List MemPlace} (h : DataW.trod enc Tryz.prog w base spare held fuel 31 cs = some x) (hw : Wt 31 x.1) : ∃ (v : Value) (ws : List Bs), cs = [v] ∧ WdsAt w v ws :=
  open_sl Tryz.underlying31 Tryz.cStr (by decide) (of_decide_eq_true (by kernel_rfl)) h hw fun fuel cs y b o hy _ _ hc => by
    obtain ⟨a, rfl⟩ := open_str hy
    exact ⟨a, hc 0 _ rfl⟩
theorem open_flds {fuel : Nat} {cs : List Value} {x : DataW H × List MemPlace} (h : DataW.trod enc Tryz.prog w base spare held fuel 52 cs = some x) (hw : Wt 52 x.1) : ∃ (v : Value) (fs : List Fld), cs = [v] ∧ FldsAt w v fs :=
  open_sl Tryz.underlying52 Tryz.cFld (by decide) (of_decide_eq_true (by kernel_rfl)) h hw fun fuel cs y b o hy _ _ hc => by
    obtain ⟨f, rfl⟩ := open_fld hy
    exact ⟨f, hc 0 _ rfl, hc 1 _ rfl, hc 2 _ rfl, hc 3 _ rfl, hc 4 _ rfl⟩
set_option maxRecDepth 100000 in
theorem open_ob {fuel : Nat} {cs : List Value} {x : DataW H × List MemPlace} (h : DataW.trod enc Tryz.prog w base spare held fuel 54 cs = some x) (hw : Wt 54 x.1) :
    ∃ (o : Ob) (fv : Value), cs = [.string ⟨o.n.toArray⟩, fv] ∧ FldsAt w fv o.fs := by
  obtain ⟨xs, n, _, rfl, hl, hxl, hf⟩ := DataW.trod_struct Tryz.underlying54 h
  rw [Tryz.cOb] at hl
  match xs, hxl, cs, hl with
  | [y0, y1], _, [v0, v1], _ =>
    have g0 := hf 0 _ rfl
    have g1 := hf 1 _ rfl
    simp [Tryz.cStr, Tryz.cFs] at g0 g1
    obtain ⟨a0, e0⟩ := open_str g0
    obtain ⟨fv, fs, e1, hfs⟩ := open_flds g1 (hw.part Tryz.underlying54 (j := 1) rfl rfl)
    simp at e0 e1
    exact ⟨⟨a0, fs⟩, fv, by rw [e0, e1], hfs⟩
set_option maxRecDepth 100000 in
theorem open_en {fuel : Nat} {cs : List Value} {x : DataW H × List MemPlace} (h : DataW.trod enc Tryz.prog w base spare held fuel 59 cs = some x) (hw : Wt 59 x.1) :
    ∃ (o : En) (fv : Value), cs = [.string ⟨o.n.toArray⟩, fv] ∧ WdsAt w fv o.ws := by
  obtain ⟨xs, n, _, rfl, hl, hxl, hf⟩ := DataW.trod_struct Tryz.underlying59 h
  rw [Tryz.cEn] at hl
  match xs, hxl, cs, hl with
  | [y0, y1], _, [v0, v1], _ =>
    have g0 := hf 0 _ rfl
    have g1 := hf 1 _ rfl
    simp [Tryz.cStr, Tryz.cWs] at g0 g1
    obtain ⟨a0, e0⟩ := open_str g0
    obtain ⟨fv, fs, e1, hfs⟩ := open_wds g1 (hw.part Tryz.underlying59 (j := 1) rfl rfl)
    simp at e0 e1
    exact ⟨⟨a0, fs⟩, fv, by rw [e0, e1], hfs⟩
theorem open_obs {fuel : Nat} {cs : List Value} {x : DataW H × List MemPlace} (h : DataW.trod enc Tryz.prog w base spare held fuel 22 cs = some x) (hw : Wt 22 x.1) : ∃ (v : Value) (fs : List Ob), cs = [v] ∧ ObsAt w v fs :=
  open_sl Tryz.underlying22 Tryz.cOb (by decide) (of_decide_eq_true (by kernel_rfl)) h hw fun fuel cs y b o hy hwy _ hc => by
    obtain ⟨f, fv, rfl, hfs⟩ := open_ob hy hwy
    exact ⟨f, hc 0 _ rfl, fv, hc 1 _ rfl, hfs⟩
theorem open_ens {fuel : Nat} {cs : List Value} {x : DataW H × List MemPlace} (h : DataW.trod enc Tryz.prog w base spare held fuel 23 cs = some x) (hw : Wt 23 x.1) : ∃ (v : Value) (fs : List En), cs = [v] ∧ EnsAt w v fs :=
  open_sl Tryz.underlying23 Tryz.cEn (by decide) (of_decide_eq_true (by kernel_rfl)) h hw fun fuel cs y b o hy hwy _ hc => by
    obtain ⟨f, fv, rfl, hfs⟩ := open_en hy hwy
    exact ⟨f, hc 0 _ rfl, fv, hc 1 _ rfl, hfs⟩
set_option maxRecDepth 100000 in
theorem open_sch {fuel : Nat} {cs : List Value} {x : DataW H × List MemPlace} (h : DataW.trod enc Tryz.prog w base spare held fuel 25 cs = some x) (hw : Wt 25 x.1) :
    ∃ (s : Sch) (ov ev : Value), cs = [ov, ev] ∧ SchAt w ov ev s := by
  obtain ⟨xs, n, _, rfl, hl, hxl, hf⟩ := DataW.trod_struct Tryz.underlying25 h
  rw [Tryz.cSch] at hl
  match xs, hxl, cs, hl with
  | [y0, y1], _, [v0, v1], _ =>
    have g0 := hf 0 _ rfl
    have g1 := hf 1 _ rfl
    simp [Tryz.cOs, Tryz.cEs] at g0 g1
    obtain ⟨ov, os, e0, h0⟩ := open_obs g0 (hw.part Tryz.underlying25 (j := 0) rfl rfl)
    obtain ⟨ev, es, e1, h1⟩ := open_ens g1 (hw.part Tryz.underlying25 (j := 1) rfl rfl)
    simp at e0 e1
    exact ⟨⟨os, es⟩, ov, ev, by rw [e0, e1], h0, h1⟩
end
end Go.Proofs.YtamkjpfomaapgaaGreatDoor
namespace Go.Proofs.YtamkjpfomaapgaaGreatDoor
open Go Go.RowKit Go.ChangeShapes Go.WideShapes Go.Deep
section
variable {H : Type} {enc : TypeId × Value → H} {w : World} {base : Nat} {spare : Nat → Bool} {held : Bool}
theorem open_slN {n B : Nat} {t e : TypeId} {a : Option Addr} {c : Nat} (ht : Tryz.prog.underlying t = some (.slice e)) (hB : Tryz.prog.bytesOf e = B) (hB2 : B ≤ 4096) {fuel : Nat} {cs : List Value} {x : DataW H × List MemPlace} (h : DataW.trod enc Tryz.prog w base spare held fuel t cs = some x) (hw : Wt t x.1) (hc : cs = [.slice a n c]) : n * B + B ≤ 140737488355328 ∧ (a = none → c = 0) := by
  rcases open_slice ht h with ⟨hcs, _⟩ | ⟨ad, len, cap, m, k, D, Pl, hcs, _, hl, hm, hmm, rfl, hx⟩
  · rw [hc] at hcs
    have e2 : Value.slice a n c = .slice none 0 0 := by simpa using hcs
    cases e2
    exact ⟨by omega, fun _ => rfl⟩
  · rw [hc] at hcs
    have e2 : Value.slice a n c = .slice (some ad) len cap := by simpa using hcs
    cases e2
    refine ⟨?_, fun q => by cases q⟩
    have h1 := hw ((((List.range n).map D).length + ((List.range (m - n)).map fun j => D (n + j)).length) * Tryz.prog.bytesOf e) (by simp only [DataW.weights, ht, List.mem_cons, true_or])
    rw [hB, List.length_map, List.length_range] at h1
    have h2 : reachBytes = 140737488351232 := rfl
    have h3 : n * B ≤ (n + ((List.range (m - n)).map fun j => D (n + j)).length) * B := Nat.mul_le_mul_right _ (by omega)
    omega
set_option maxRecDepth 100000 in
theorem open_schN {fuel : Nat} {cs : List Value} {x : DataW H × List MemPlace} (h : DataW.trod enc Tryz.prog w base spare held fuel 25 cs = some x) (hw : Wt 25 x.1) :
    ∃ (s : Sch) (ov ev : Value), cs = [ov, ev] ∧ SchAt w ov ev s ∧ s.os.length * 40 + 40 ≤ 140737488355328 ∧ ∀ n c, ov = .slice none n c → c = 0 := by
  obtain ⟨xs, n, _, rfl, hl, hxl, hf⟩ := DataW.trod_struct Tryz.underlying25 h
  rw [Tryz.cSch] at hl
  match xs, hxl, cs, hl with
  | [y0, y1], _, [v0, v1], _ =>
    have g0 := hf 0 _ rfl
    have g1 := hf 1 _ rfl
    simp [Tryz.cOs, Tryz.cEs] at g0 g1
    have hw0 := hw.part Tryz.underlying25 (j := 0) (u := 22) rfl rfl
    obtain ⟨ov, os, e0, h0⟩ := open_obs g0 hw0
    obtain ⟨ev, es, e1, h1⟩ := open_ens g1 (hw.part Tryz.underlying25 (j := 1) rfl rfl)
    obtain ⟨a, c, hv, _⟩ := id h0
    have q := open_slN (B := 40) (n := os.length) Tryz.underlying22 (by kernel_rfl) (by decide) g0 hw0 (by rw [e0, hv])
    simp at e0 e1
    refine ⟨⟨os, es⟩, ov, ev, by rw [e0, e1], ⟨h0, h1⟩, q.1, fun n2 c2 hh => ?_⟩
    rw [hv] at hh
    cases hh
    exact q.2 rfl
end
end Go.Proofs.YtamkjpfomaapgaaGreatDoor
namespace Go.Proofs.YtamkjpfomaapgaaGreatDoor
open Go Go.RowKit Go.Lib

def listed : List (String × DataW Unit) := Rows.genTellsRow.laid
theorem at_var {w : World} {n : String} {d : DataW Unit} {g t : Nat} (h : VarReads Tryz.prog w n d) (hg : Tryz.prog.globalNamed n = some g) (ht : (Tryz.prog.globals[g]?).map (·.type) = some t) :
    ∃ (cs : Array Value) (fuel : Nat) (p : List MemPlace), w.var? Tryz.prog n = some cs ∧ DataW.trod (fun _ => ()) Tryz.prog w 0 (fun _ => true) false fuel t cs.toList = some (d, p) ∧ ∀ i, w.cell? ⟨g, i, none⟩ = cs.toList[i]? := by
  obtain ⟨g', t', cs, fuel, p, hg', ht', hv, hd⟩ := h
  obtain rfl := Option.some.inj (hg.symm.trans hg')
  obtain rfl := Option.some.inj (ht.symm.trans ht')
  exact ⟨cs, fuel, p, hv, hd, fun i => by rw [World.var?_cell hg hv i, Array.getElem?_toList]⟩
theorem es_laid {w : World} (h : VarReads Tryz.prog w "strconv.ErrSyntax" Rows.laid_strconv_ErrSyntax) : ∃ te pe, w.cell? ⟨3, 0, none⟩ = some (.iface te pe) := by
  obtain ⟨cs, fuel, p, _, hd, hc⟩ := at_var h (g := 3) (t := 183) (by kernel_rfl) (by kernel_rfl)
  cases fuel with
  | zero => simp [DataW.trod] at hd
  | succ n =>
    have hu := Tryz.underlying183
    simp only [DataW.trod, hu, Rows.laid_strconv_ErrSyntax] at hd
    rw [hc]
    split at hd
    all_goals simp_all
theorem max_of {W : World} (h : W.ShapedOpen Tryz.prog) : ∃ m, W.cell? ⟨gM, 0, none⟩ = some (.int .i64 m) :=
  cell_of_shapedOpen_int h (g := 0) (t := 3) (zero := #[.int .i64 0]) (of_decide_eq_true (by kernel_rfl)) (by kernel_rfl) rfl (by kernel_rfl) (by kernel_rfl) Tryz.underlying3
theorem gl_laid {W : World} (hL : laidMet Tryz.prog listed W) (hs : W.ShapedOpen Tryz.prog) : Gl W := by
  obtain ⟨te, pe, he⟩ := es_laid (laidMet.reads hL (.tail _ (.tail _ (.tail _ (.tail _ (.tail _ (.head _)))))))
  exact ⟨max_of hs, ⟨_, he, Or.inr ⟨te, pe, rfl⟩⟩⟩
end Go.Proofs.YtamkjpfomaapgaaGreatDoor

namespace Go.Proofs.YtamkjpfomaapgaaGreatDoor
open Go.ChangeShapes Go.WideShapes Go.ChangeAt Go.RowKit
open Go.ChangeMaps (open_string shut_string)

theorem Tryz.own : ownKnob Tryz.prog.godebug = none := by kernel_rfl
theorem Tryz.laidOut : laidOutB Tryz.prog = true := by kernel_rfl

/-- The road from the contract to the row where the contract is handed both what is listed and the world's shape. -/
theorem lifted_by {H : Type} {enc : TypeId × Value → H} {C : Checked} {os : Os} {f : FuncId} {fn : Func} {s : ChangeSpec} {conds : List PathCond} {apart fresh handsOn again : Bool} {X : World → Array Value → Prop}
    (hX : ∀ (w w' : World) (args : Array Value), w.heap = w'.heap → X w args → X w' args)
    (own : ownKnob C.prog.godebug = none) (started : os.Started) (noInit : C.prog.inits.idxOf? f = none) (hfn : C.prog.funcs[f]? = some fn)
    (witness : ∃ (w : World) (tape : Tape) (i : Input), w.os = os ∧ (w.forCall tape i).Shaped C.prog ∧ i.vars = [] ∧ Input.okWide C.prog (w.forCall tape i) .any w.heap.size f i ∧
      ((s.pre enc C.prog fn conds apart (w.forCall tape i).memory i.args ∧ X (w.forCall tape i).memory i.args) ∧ sizedMet enc C.prog fn (OpenSpec.ofChange s) apart (w.forCall tape i).memory i.args) ∧ ({} : Assume).holds C.prog (lone (Frame.enter C.prog f i.args .normal) [] (w.forCall tape i)))
    (contract : ∀ (W : World) (base : Nat) (args : Array Value) (ds gs : List (DataW H)) (before : List MemPlace),
      (∀ (j : Nat) t v, fn.params[j]? = some t → args[j]? = some v → Value.okWide C.prog W .any base t v) →
      DataW.Whole enc C.prog fn.params.toList s.vars apart W args.toList ds gs before →
      (DataW.weightsEach C.prog (fn.params.toList ++ s.plain.varTypes C.prog) (ds ++ gs)).all (· ≤ reachBytes) = true → W.ShapedOpen C.prog → X W args →
      Calls C.prog f args W fun e W' => ∃ v, e = .returned v ∧ s.post enc C.prog fn apart fresh handsOn again W args v W') :
    ReturnsInHanded {} C os f .any (fun w args => (s.pre enc C.prog fn conds apart w args ∧ X w args) ∧ sizedMet enc C.prog fn (OpenSpec.ofChange s) apart w args) (s.post enc C.prog fn apart fresh handsOn again) := by
  refine returnsInHanded_of_calls own started noInit witness ?_
  intro w tape i _ hsh _ hok hpre _
  obtain ⟨_, _, _, fn', hfn', _, _, _, _, hval⟩ := hok
  obtain rfl : fn' = fn := Option.some.inj (hfn'.symm.trans hfn)
  obtain ⟨⟨⟨ds, gs, before, hw, _⟩, hx⟩, hz⟩ := hpre
  refine (contract (w.forCall tape i) w.heap.size i.args ds gs before hval (DataW.Whole.of_heap (w' := w.forCall tape i) (by rfl) hw) (hz.weights hw) hsh (hX _ _ _ (by rfl) hx)).mono fun e W' ⟨v, he, hp⟩ => ?_
  subst he
  exact ChangeSpec.post_blind hp

set_option maxRecDepth 100000 in
theorem genMore_lifted (os : Os) (started : os.Started) (H : Type) (enc : TypeId × Value → H) :
    ReturnsInHanded {} Tryz.checked os 7 .any (fun w args => (Rows.genMoreSpec.pre enc Tryz.prog Tryz.f7 Rows.genMoreRow.domain false w args ∧ laidMetH Tryz.prog listed w) ∧ sizedMet enc Tryz.prog Tryz.f7 (OpenSpec.ofChange Rows.genMoreSpec) false w args)
      (Rows.genMoreSpec.post enc Tryz.prog Tryz.f7 false true false false) := by
  refine lifted_by (C := Tryz.checked) (X := fun w _ => laidMetH Tryz.prog listed w) (fun _ _ _ hh h => h.of_heap hh) Tryz.own started (by kernel_rfl) Tryz.func7
    (ChangeSpec.witness_shaped (enc := enc) (C := Tryz.checked) (os := os) (X := fun w _ => laidMetH Tryz.prog listed w) false (World.laidAll Tryz.prog os listed) #[.agg #[.slice none 0 0, .slice none 0 0], .string ByteArray.empty] 8 (World.laidAll_os _ _ _)
      (World.shaped_of_ZipB (by kernel_rfl) (by kernel_rfl)) (by kernel_rfl) (by kernel_rfl) (by kernel_rfl)
      (by rw [MakeChecks.laidMetH_plain _ _ _ (by kernel_rfl)]; exact laidMet_laidAll _ (by kernel_rfl) (by kernel_rfl))) ?_
  intro W base args ds gs before hval0 hW hsz hsh hL
  have hval : ∀ (j : Nat) t v, Tryz.f7.params[j]? = some t → args[j]? = some v → Value.okWide Tryz.prog W .any base t v := hval0
  have hW' := hW
  obtain ⟨p, q, hA0, hV, rfl, hfz, hnd⟩ := hW
  have hA : DataW.TrodAll enc Tryz.prog W 0 (fun _ => true) true Tryz.f7.params.toList args.toList ds p := hA0
  rw [Tryz.params7] at hA hval
  obtain ⟨v0, vs0, d0, ds0, p0, q0, hargs, rfl, rfl, h0, r0⟩ := trodAll_cons hA
  obtain ⟨v1, vs1, d1, ds1, p1, q1, rfl, rfl, rfl, h1, r1⟩ := trodAll_cons r0
  obtain ⟨rfl, rfl, rfl⟩ := trodAll_nil r1
  obtain rfl : args = #[v0, v1] := by cases args; simp_all
  obtain ⟨rfl, rfl⟩ := trodVars_none hV
  obtain ⟨c0, rfl, _⟩ := okWide_struct Tryz.underlying25 (hval 0 25 v0 rfl rfl)
  have k0 := h0
  have lt0 : ∀ x ∈ p0, x.block < W.heap.size := by obtain ⟨m, hm⟩ := k0; exact DataW.trod_lt m _ _ _ hm
  have wt0 : Wt 25 d0 := fun n hn => by
    have := List.all_eq_true.1 hsz n (DataW.weights_mem_each (j := 0) rfl rfl n hn)
    simpa using this
  obtain ⟨s0, ov0, ev0, hc0, hS0, hB0, hN0⟩ : ∃ (s : Sch) (ov ev : Value), (Value.agg c0).cells.toList = [ov, ev] ∧ SchAt W ov ev s ∧ s.os.length * 40 + 40 ≤ 140737488355328 ∧ ∀ n c, ov = .slice none n c → c = 0 := by
    obtain ⟨fuel, hf⟩ := h0
    exact open_schN hf wt0
  obtain rfl : c0 = #[ov0, ev0] := Array.toList_inj.1 hc0
  obtain ⟨a1, rfl, rfl, rfl, w1⟩ := open_string Tryz.underlying9 (hval 1 9 v1 rfl rfl) h1
  have hL2 : laidMetH Tryz.prog listed W := hL
  rw [MakeChecks.laidMetH_plain _ _ _ (by kernel_rfl)] at hL2
  have gl := gl_laid hL2 hsh
  clear hA0 hval0 hL hL2 hsz
  have wk := gmore_any hS0 gl hB0 hN0 a1.data.toList
  refine wk.mono fun e W' ⟨he, bel⟩ => ?_
  subst he
  exact ⟨_, rfl, _, _, _, [], _, [], hW', trodAll_mk1 (shut_bool Tryz.underlying4 _), (trodAll_cons_mk (Below.trod Tryz.laidOut (by kernel_rfl) (of_decide_eq_true (by kernel_rfl)) k0 bel lt0) (trodAll_cons_mk (shut_string Tryz.underlying9 w1) trodAll_mk0)), rfl, bel.frame _, fun h => by cases h⟩

theorem genMore_row : Rows.GenMoreSaid :=
  OpenClaim.holds_of_wide 7 Tryz.f7 rfl rfl rfl rfl rfl rfl rfl ⟨rfl, rfl, rfl, rfl, rfl⟩ rfl rfl rfl rfl rfl (by kernel_rfl) Tryz.func7 (by kernel_rfl)
    (of_decide_eq_true (by kernel_rfl)) (by unfold Func.isWrapper; first | (rw [if_pos (by decide +kernel)]; kernel_rfl) | (rw [if_neg (by decide +kernel)]; exact ⟨rfl, rfl⟩))
    (fun os started H enc _ => genMore_lifted os started H enc)

theorem genMore_holds : Rows.GenMoreCardSaid :=
  Claim7.holds_tied_plain_at .later [] _ _ _ _ genMore_row (fun _ h => by cases h) (by kernel_rfl) (fun _ h => by cases h) genMore_row_tie rfl ⟨rfl, rfl⟩ (by kernel_rfl) rfl
    (fun f fn hf hfn => by
      obtain rfl : f = 7 := Option.some.inj ((show Tryz.prog.funcNamed "rhizome/rhizomelaw10.GenMore" = some 7 by kernel_rfl).symm.trans hf) |>.symm
      obtain rfl : fn = Tryz.f7 := (Option.some.inj (Tryz.func7.symm.trans hfn)).symm
      exact ⟨by kernel_rfl, fun j t ht => by
        rw [Tryz.params7] at ht
        have hm : t ∈ [25, 9] := by simpa using Array.mem_of_getElem? ht
        have hall : ([25, 9].all fun u => !Tryz.prog.wantsStandIn u) = true := by kernel_rfl
        exact (show Tryz.prog.wantsStandIn t = false by simpa using List.all_eq_true.1 hall t hm)⟩)
    (by kernel_rfl)
#print axioms genMore_holds
end Go.Proofs.YtamkjpfomaapgaaGreatDoor
