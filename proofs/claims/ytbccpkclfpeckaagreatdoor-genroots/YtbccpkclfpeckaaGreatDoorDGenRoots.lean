/- Each object of a schema that may be has its seven types and five roots' fields; nothing else is in the roots: for any schema (within the form's own reach of 2^47 - 4096 bytes); the listed package variables are as the program's text lays them (tied). -/
import Derived.Test.YtbccpkclfpeckaaGreatDoorG03
import Derived.Test.YtbccpkclfpeckaaGreatDoorC02
import Derived.Deep.Slices
import Derived.OpenShut
import Derived.ProofKit
import Derived.SizedLaws
import Derived.Test.YtbccpkclfpeckaaGreatDoorRows
import Derived.Test.YtbccpkclfpeckaaGreatDoorLxK
import Derived.Lib.LaidU8
import Derived.LaidMore
import Derived.Stop.LaidErr
import Derived.Lay
import Derived.Shelf.Vars
import Derived.Test.YtbccpkclfpeckaaGreatDoorTie
import Derived.Test.YtbccpkclfpeckaaGreatDoorCards
import Derived.ShutString
import Derived.ChangeOld
import Derived.SevenTiedAt
import Derived.Stop.Joined
import Derived.Carry
namespace Go.Proofs.YtbccpkclfpeckaaGreatDoor
open Go Go.RowKit Go.Shelf
theorem fnd_df {s : Sch} (h : OkD s) {d : Df} (hd : d ∈ defT s) : ∃ j : Nat, fndT (defT s) d.n = (j : Int) ∧ (defT s)[j]? = some d := by
  obtain ⟨i, hi⟩ := List.mem_iff_getElem?.1 hd
  exact ⟨i, fnd_at h hi, hi⟩
theorem qry_mem (s : Sch) : qryT s ∈ defT s := by
  unfold defT
  simp
theorem mut_mem (s : Sch) : mutT s ∈ defT s := by
  unfold defT
  simp
theorem out_is {l : List Df} {x f : Bs} {j : Nat} {d : Df} (hj : fndT l x = (j : Int)) (hd : l[j]? = some d) (hk : d.k = 2) (hf : f ≠ tyN) (ho : ∃ o ∈ d.os, o.n = f) : (outT l x f).isSome = true := by
  rw [out_some hj hd]
  unfold fldO'
  rw [if_neg (by simp [hk]), if_neg hf, List.find?_isSome]
  obtain ⟨o, ho, e⟩ := ho
  exact ⟨o, ho, by simp [e]⟩
theorem def_len {s : Sch} : (defT s).length = 5 + 2 * s.es.length + 6 * s.os.length + 6 := by
  unfold defT
  rw [List.length_append, List.length_append, List.length_append, List.length_append, List.length_map, flat_lenK (k := 6) (fun _ => rfl), filT_eq, List.length_append, List.length_map]
  have : fil4.length = 4 := rfl
  simp
  omega
theorem has_ge {s : Sch} {x : Bs} {k : Int} (h : Has s x k) : ¬ fndT (defT s) x < 0 := by
  obtain ⟨d, hd, e, _⟩ := h
  have := fnd_mem.2 ⟨d, hd, e⟩
  omega
theorem out_rt {s : Sch} {W : World} {v : Value} (h : DefsAt W v (defT s)) {root pre xn : Bs} (his : (outT (defT s) root (pre ++ xn)).isSome = true) : Calls Tryz.prog 12 #[v, .string ⟨root.toArray⟩, .string (⟨pre.toArray⟩ ++ ⟨xn.toArray⟩)] W fun e w' => ∃ y p n c, e = .returned (.tuple #[outV (y, .slice p n c), .bool true]) ∧ Below W.heap.size W w' := by
  have q := gOut_any h root (pre ++ xn)
  rw [← bytes_add, his] at q
  exact q.mono fun e w' ⟨p, n, c, he, _, hb⟩ => ⟨_, p, n, c, he, hb⟩
theorem fnd_ap {s : Sch} {W : World} {v : Value} (h : DefsAt W v (defT s)) {p q : Bs} {k : Int} (hk : Has s (p ++ q) k) : ∃ j : Nat, ∀ {V : World}, Below W.heap.size W V → Calls Tryz.prog 14 #[v, .string (⟨p.toArray⟩ ++ ⟨q.toArray⟩)] V fun e w' => e = .returned (.int .i64 (j : Int)) ∧ Below V.heap.size V w' := by
  obtain ⟨j, _, e, _, _⟩ := fnd_some (has_ge hk)
  refine ⟨j, fun {V} b => ?_⟩
  have r := gfind_any (h.on b) (p ++ q)
  rw [← bytes_add, e] at r
  exact r
theorem rt_ne {x y : Bs} (h : x.head? ≠ some 95) (hx : x ≠ []) : x ++ y ≠ tyN := by
  intro e
  cases x with
  | nil => exact hx rfl
  | cons a x =>
    simp at e h
    exact h e.1
section
variable {w : World} {ov ev : Value} {s : Sch}
set_option maxRecDepth 100000 in
set_option maxHeartbeats 8000000 in
theorem roots_no (h : SchAt w ov ev s) (gl : Gl w) (hc : chkS s ≠ 0) : Calls Tryz.prog 6 #[.agg #[ov, ev]] w fun e w' => e = .returned (.bool true) ∧ Below w.heap.size w w' := by
  obtain ⟨a, c, rfl, _, _⟩ := h.os.slice
  obtain ⟨a', c', rfl, _, _⟩ := h.es.slice
  obtain ⟨W0, hW0⟩ : ∃ W0, W0 = w.alloc (schO (.slice a s.os.length c) (.slice a' s.es.length c')) := ⟨_, rfl⟩
  have A0 : Below w.heap.size w W0 := by rw [hW0]; exact al1 w _
  have GL : ∀ {X : World}, Below W0.heap.size W0 X → Gl X := fun d => gl.below (A0.trans (d.mono A0.size)) (Nat.le_refl _)
  have T1 := gtypes_no (h.on A0) (GL (Below.refl _ _)) hc
  rw [hW0] at T1
  have FX := fun {X : World} (d : Below W0.heap.size W0 X) => gfixed_any X (GL d)
  have nx : ∀ {X Y : World}, Below W0.heap.size W0 X → Below X.heap.size X Y → Below W0.heap.size W0 Y := fun p q => p.trans (q.mono p.size)
  have hk : (chkS s != 0) = true := by simpa using hc
  generalize chkS s = k at *
  clear h gl GL hc
  go_enter Tryz.func6, Tryz.ntmps6
  go_wp2_with (first
    | (go_at_call 9; (with_reducible refine T1.mono ?_); rintro e x1 ⟨rfl, D⟩; rw [← hW0] at D)
    | (go_at_call 11; (with_reducible refine (FX D).mono ?_); rintro e x2 ⟨rfl, b2⟩; replace D := nx D b2; clear b2)
    | fail)
  go_ret
  exact ⟨rfl, A0.trans (D.mono A0.size)⟩
set_option maxRecDepth 100000 in
set_option maxHeartbeats 20000000 in
theorem roots_ok (h : SchAt w ov ev s) (gl : Gl w) (hc : chkS s = 0) : Calls Tryz.prog 6 #[.agg #[ov, ev]] w fun e w' => e = .returned (.bool true) ∧ Below w.heap.size w w' := by
  have OK : Hid (OkD s) := chk_ok.1 hc
  have z1 := (szs OK.out).os
  have z2 := (szs OK.out).es
  have hos := h.os
  obtain ⟨a, c, rfl, _, _⟩ := h.os.slice
  obtain ⟨a', c', rfl, _, _⟩ := h.es.slice
  obtain ⟨W0, hW0⟩ : ∃ W0, W0 = w.alloc (schO (.slice a s.os.length c) (.slice a' s.es.length c')) := ⟨_, rfl⟩
  have A0 : Below w.heap.size w W0 := by rw [hW0]; exact al1 w _
  have N0 : W0.heap[w.heap.size]? = some (schO (.slice a s.os.length c) (.slice a' s.es.length c')) := by rw [hW0]; exact heap_alloc_new w _
  have GL : ∀ {X : World}, Below W0.heap.size W0 X → Gl X := fun d => gl.below (A0.trans (d.mono A0.size)) (Nat.le_refl _)
  have T1 := gtypes_ok (h.on A0) (GL (Below.refl _ _)) hc
  rw [hW0] at T1
  have FX := fun {X : World} (d : Below W0.heap.size W0 X) => gfixed_any X (GL d)
  have CC : ∀ {X : World}, Below W0.heap.size W0 X → X.cell? ⟨w.heap.size, 0, none⟩ = some (.slice a s.os.length c) ∧ X.cell? ⟨w.heap.size, 1, none⟩ = some (.slice a' s.es.length c') := fun d => by
    have q := row2 ((d.block _ (lt_of_block N0)).trans N0)
    exact ⟨q.1, q.2.1⟩
  have nx : ∀ {X Y : World}, Below W0.heap.size W0 X → Below X.heap.size X Y → Below W0.heap.size W0 Y := fun p q => p.trans (q.mono p.size)
  obtain ⟨jq, fq, hq⟩ := fnd_df OK.out (qry_mem s)
  obtain ⟨jm, fm, hm⟩ := fnd_df OK.out (mut_mem s)
  have LQ : (qryT s).os.length = 2 * s.os.length := by show (s.os.flatMap qO).length = _; rw [flat_lenK (k := 2) (fun _ => rfl)]; omega
  have LM : (mutT s).os.length = 3 * s.os.length := by show (s.os.flatMap mO).length = _; rw [flat_lenK (k := 3) (fun _ => rfl)]; omega
  have FQ := fun {X : World} (d : DefsAt X _ (defT s)) => gfind_any (w := X) (v := .slice none 0 0) d cQuery
  clear FQ
  have hjq := (List.getElem?_eq_some_iff.1 hq).1
  have hjm := (List.getElem?_eq_some_iff.1 hm).1
  have DL := def_len (s := s)
  have q1 : ¬ ((jq : Nat) : Int) < 0 := by omega
  have q2 : ¬ (((defT s).length : Nat) : Int) ≤ (jq : Int) := by omega
  have q3 : ((jq : Nat) : Int) < ((defT s).length : Int) := by omega
  have q4 : ((jq : Nat) : Int).toNat = jq := by omega
  have q5 : ¬ (defT s).length ≤ jq := by omega
  have m1 : ¬ ((jm : Nat) : Int) < 0 := by omega
  have m2 : ¬ (((defT s).length : Nat) : Int) ≤ (jm : Int) := by omega
  have m3 : ((jm : Nat) : Int) < ((defT s).length : Int) := by omega
  have m4 : ((jm : Nat) : Int).toNat = jm := by omega
  have m5 : ¬ (defT s).length ≤ jm := by omega
  have HDL : Hid ((defT s).length = 5 + 2 * s.es.length + 6 * s.os.length + 6) := DL
  have hbig : ((((defT s).length : Nat) : Int) != 5 + 2 * (s.es.length : Int) + 6 * (s.os.length : Int) + 6) = false := by simp; omega
  have v1 : IntKind.i64.wrap (2 * (s.os.length : Int)) = 2 * (s.os.length : Int) := by rw [IntKind.wrap_i64]; omega
  have v2 : IntKind.i64.wrap (3 * (s.os.length : Int)) = 3 * (s.os.length : Int) := by rw [IntKind.wrap_i64]; omega
  have v3 : IntKind.i64.wrap (2 * (s.es.length : Int)) = 2 * (s.es.length : Int) := by rw [IntKind.wrap_i64]; omega
  have v4 : IntKind.i64.wrap (5 + 2 * (s.es.length : Int)) = 5 + 2 * (s.es.length : Int) := by rw [IntKind.wrap_i64]; omega
  have v5 : IntKind.i64.wrap (6 * (s.os.length : Int)) = 6 * (s.os.length : Int) := by rw [IntKind.wrap_i64]; omega
  have v6 : IntKind.i64.wrap (5 + 2 * (s.es.length : Int) + 6 * (s.os.length : Int)) = 5 + 2 * (s.es.length : Int) + 6 * (s.os.length : Int) := by rw [IntKind.wrap_i64]; omega
  have v7 : IntKind.i64.wrap (5 + 2 * (s.es.length : Int) + 6 * (s.os.length : Int) + 6) = 5 + 2 * (s.es.length : Int) + 6 * (s.os.length : Int) + 6 := by rw [IntKind.wrap_i64]; omega
  clear h gl GL hc DL
  go_enter Tryz.func6, Tryz.ntmps6
  go_wp2_with (first
    | (go_at_call 9; (with_reducible refine T1.mono ?_); rintro e x1 ⟨v1, rfl, R1, D⟩; rw [← hW0] at D; have DX := DfR.defs R1 OK.out; clear R1; obtain ⟨pl, cl, rfl, _, _⟩ := DX.slice)
    | (go_at_call 11; (with_reducible refine (FX D).mono ?_); rintro e x2 ⟨rfl, b2⟩; replace D := nx D b2; replace DX := DX.on b2; clear b2)
    | (go_at_call 14; (first
        | ((with_reducible refine (gfind_any DX cQuery).mono ?_); rw [show fndT (defT s) cQuery = (jq : Int) from fq]; rintro e x3 ⟨rfl, b3⟩; replace D := nx D b3; replace DX := DX.on b3; clear b3)
        | ((with_reducible refine (gfind_any DX cMutation).mono ?_); rw [show fndT (defT s) cMutation = (jm : Int) from fm]; rintro e x4 ⟨rfl, b4⟩; replace D := nx D b4; replace DX := DX.on b4; clear b4)))
    | fail)
  obtain ⟨b, o, c0, a1, n1, c1, a2, n2, c2, a3, n3, c3, hv, hbl, _, e0, e1, e2, e3, e4, _, hqo, _⟩ := df_cells DX hq
  cases hv
  obtain ⟨b', o', c0', a1', n1', c1', a2', n2', c2', a3', n3', c3', hv, _, _, g0, g1, g2, g3, g4, _, hmo, _⟩ := df_cells DX hm
  cases hv
  obtain ⟨_, _, hx1, _, _⟩ := hqo.slice
  cases hx1
  obtain ⟨_, _, hx2, _, _⟩ := hmo.slice
  cases hx2
  rw [LQ] at e3
  rw [LM] at g3
  obtain ⟨s0, s1⟩ := CC D
  go_region_held3 (fun w' => w'.cell? ⟨b, o + jq * 5 + 3, none⟩ = some (.slice a2 (2 * s.os.length) c2) ∧ w'.cell? ⟨b, o + jm * 5 + 3, none⟩ = some (.slice a2' (3 * s.os.length) c2') ∧ w'.cell? ⟨w.heap.size, 0, none⟩ = some (.slice a s.os.length c) ∧ w'.cell? ⟨w.heap.size, 1, none⟩ = some (.slice a' s.es.length c')) (go_keep) (fail)
  go_wp2
  have DXd : Below x4.heap.size x4 x4.drew := bel_dr (Below.refl _ _)
  replace DX := DX.on DXd
  replace D := nx D DXd
  clear e0 e1 e2 e3 e4 g0 g1 g2 g3 g4 hqo hmo DXd s0 s1 v1 v2 v3 v4 v5 v6 v7 hbig T1 FX q1 q2 q3 q4 q5 m1 m2 m3 m4 m5
  generalize x4.drew = X at *
  have DD : Below w.heap.size w X := A0.trans (D.mono A0.size)
  go_loopw [7] (fun i wr => ∃ j : Nat, i = .int .i64 (j : Int) ∧ j ≤ s.os.length ∧ Below X.heap.size X wr) (fun i _ => s.os.length - (RowKit.intOf i).toNat)
  case atStart => exact ⟨0, rfl, Nat.zero_le _, Below.refl _ _⟩
  case round =>
    obtain ⟨j, rfl, hj, hbr⟩ := hrel
    have hbw : Below w.heap.size w wr := DD.trans (hbr.mono DD.size)
    obtain ⟨s0, s1⟩ := CC (nx D hbr)
    by_cases hlt : j < s.os.length
    · obtain ⟨x, hx⟩ : ∃ x, s.os[j]? = some x := ⟨_, List.getElem?_eq_getElem hlt⟩
      have hxm := List.mem_of_getElem? hx
      obtain ⟨b1, o1, _, a8, c8, hv, _, _, f0, f1, _⟩ := ob_cells hos hx
      cases hv
      have hxn := (szs OK.out).on x hxm
      have hxf := (szs OK.out).fs x hxm
      have i0 := cell_on hbw f0
      obtain ⟨jo, fo, ho⟩ := fnd_df OK.out (mem_obj hxm (List.mem_cons_self ..))
      have l1 : ((j : Nat) : Int) < (s.os.length : Int) := by omega
      have hjN : ((j : Nat) : Int).toNat = j := by omega
      have HK : Hid (j + 1 ≤ s.os.length) := hlt
      have y0 : (outT (defT s) cQuery ([103, 101, 116] ++ x.n)).isSome = true := out_is fq hq rfl (rt_ne (by decide) (by decide)) ⟨_, List.mem_flatMap.2 ⟨x, hxm, by simp only [List.mem_cons]; exact Or.inl rfl⟩, rfl⟩
      have y1 : (outT (defT s) cQuery ([113, 117, 101, 114, 121] ++ x.n)).isSome = true := out_is fq hq rfl (rt_ne (by decide) (by decide)) ⟨_, List.mem_flatMap.2 ⟨x, hxm, by simp only [List.mem_cons]; exact Or.inr (Or.inl rfl)⟩, rfl⟩
      have y2 : (outT (defT s) cMutation ([97, 100, 100] ++ x.n)).isSome = true := out_is fm hm rfl (rt_ne (by decide) (by decide)) ⟨_, List.mem_flatMap.2 ⟨x, hxm, by simp only [List.mem_cons]; exact Or.inl rfl⟩, rfl⟩
      have y3 : (outT (defT s) cMutation ([117, 112, 100, 97, 116, 101] ++ x.n)).isSome = true := out_is fm hm rfl (rt_ne (by decide) (by decide)) ⟨_, List.mem_flatMap.2 ⟨x, hxm, by simp only [List.mem_cons]; exact Or.inr (Or.inl rfl)⟩, rfl⟩
      have y4 : (outT (defT s) cMutation ([100, 101, 108, 101, 116, 101] ++ x.n)).isSome = true := out_is fm hm rfl (rt_ne (by decide) (by decide)) ⟨_, List.mem_flatMap.2 ⟨x, hxm, by simp only [List.mem_cons]; exact Or.inr (Or.inr (Or.inl rfl))⟩, rfl⟩
      have u1 : ¬ (9223372036854775807 < 3 + x.n.length) := by omega
      have u2 : ¬ (9223372036854775807 < 5 + x.n.length) := by omega
      have u3 : ¬ (9223372036854775807 < 6 + x.n.length) := by omega
      have u4 : ¬ (9223372036854775807 < x.n.length + 6) := by omega
      have u5 : ¬ (9223372036854775807 < x.n.length + 5) := by omega
      have u6 : ¬ (9223372036854775807 < x.n.length + 9) := by omega
      have u7 : IntKind.i64.wrap (1 + (x.fs.length : Int)) = (x.fs.length : Int) + 1 := by rw [IntKind.wrap_i64]; omega
      obtain ⟨k1, F1⟩ := fnd_ap DX (p := cAdd) (q := x.n) (has_add hxm)
      obtain ⟨k2, F2⟩ := fnd_ap DX (p := cPatch) (q := x.n) (has_pat hxm)
      obtain ⟨k3, F3⟩ := fnd_ap DX (p := x.n) (q := cFilter) (has_fil hxm)
      obtain ⟨k4, F4⟩ := fnd_ap DX (p := x.n) (q := cOrder) (has_ord hxm)
      obtain ⟨k5, F5⟩ := fnd_ap DX (p := x.n) (q := cOrderable) (has_oab hxm)
      have FO := fun {V : World} (b : Below X.heap.size X V) => gfind_any (DX.on b) x.n
      rw [show fndT (defT s) x.n = (jo : Int) from fo] at FO
      obtain ⟨b2, o2, c2, _, _, _, a9, n9, c9, _, _, _, hv, _, _, _, _, _, e3, _, _, hoo, _⟩ := df_cells DX ho
      cases hv
      obtain ⟨_, _, hx9, _, _⟩ := hoo.slice
      cases hx9
      have e3' : X.cell? ⟨b, o + jo * 5 + 3, none⟩ = some (.slice a9 (x.fs.length + 1) c9) := by
        rw [e3]
        simp
      have hjo := (List.getElem?_eq_some_iff.1 ho).1
      have p1 : ¬ (defT s).length ≤ jo := by omega
      have p2 : ¬ (((defT s).length : Nat) : Int) ≤ (jo : Int) := by omega
      have p3 : ((jo : Nat) : Int) < ((defT s).length : Int) := by omega
      have p4 : ((jo : Nat) : Int).toNat = jo := by omega
      have HB : Hid (Below X.heap.size X wr) := hbr
      have f1' := fun {V : World} (b : Below X.heap.size X V) => cell_on (DD.trans (b.mono DD.size)) f1
      obtain ⟨xn, xf⟩ := x
      simp only at *
      have NB0 := heap_alloc_new wr (.cells #[.string (⟨#[103, 101, 116]⟩ ++ ⟨xn.toArray⟩), .string (⟨#[113, 117, 101, 114, 121]⟩ ++ ⟨xn.toArray⟩), .string (⟨#[97, 100, 100]⟩ ++ ⟨xn.toArray⟩), .string (⟨#[117, 112, 100, 97, 116, 101]⟩ ++ ⟨xn.toArray⟩), .string (⟨#[100, 101, 108, 101, 116, 101]⟩ ++ ⟨xn.toArray⟩)] 9)
      have AB0 := al1 wr (.cells #[.string (⟨#[103, 101, 116]⟩ ++ ⟨xn.toArray⟩), .string (⟨#[113, 117, 101, 114, 121]⟩ ++ ⟨xn.toArray⟩), .string (⟨#[97, 100, 100]⟩ ++ ⟨xn.toArray⟩), .string (⟨#[117, 112, 100, 97, 116, 101]⟩ ++ ⟨xn.toArray⟩), .string (⟨#[100, 101, 108, 101, 116, 101]⟩ ++ ⟨xn.toArray⟩)] 9)
      clear hx hlt hoo e3 fo ho f0 f1 hxm
      go_wp2
      obtain ⟨Y, hY⟩ : ∃ Y, Y = wr.alloc (.cells #[.string (⟨#[103, 101, 116]⟩ ++ ⟨xn.toArray⟩), .string (⟨#[113, 117, 101, 114, 121]⟩ ++ ⟨xn.toArray⟩), .string (⟨#[97, 100, 100]⟩ ++ ⟨xn.toArray⟩), .string (⟨#[117, 112, 100, 97, 116, 101]⟩ ++ ⟨xn.toArray⟩), .string (⟨#[100, 101, 108, 101, 116, 101]⟩ ++ ⟨xn.toArray⟩)] 9) := ⟨_, rfl⟩
      rw [← hY] at NB0 AB0
      rw [← hY]
      clear hY
      have AY : Hid (Below X.heap.size X Y) := HB.out.trans (AB0.mono HB.out.size)
      generalize hwr0 : wr = wr0 at *
      go_loopw [10] (fun i wr => ∃ k : Nat, i = .int .i64 (k : Int) ∧ k ≤ 5 ∧ Below Y.heap.size Y wr) (fun i _ => 5 - (RowKit.intOf i).toNat)
      case atStart => exact ⟨0, rfl, Nat.zero_le _, Below.refl _ _⟩
      case round =>
        obtain ⟨k, rfl, hk, hbk⟩ := hrel
        have hbX : Below X.heap.size X wr := AY.out.trans (hbk.mono AY.out.size)
        have NB := (hbk.block _ (lt_of_block NB0)).trans NB0
        by_cases hkl : k < 5
        · generalize hW : wr = W at *
          rcases five hkl with rfl | rfl | rfl | rfl | rfl
          · have cn := (show W.cell? ⟨wr0.heap.size, 0, none⟩ = some (.string (⟨#[103, 101, 116]⟩ ++ ⟨xn.toArray⟩)) by unfold World.cell?; rw [NB]; rfl)
            have OG := out_rt (DX.on hbX) y0
            go_wp2_with (first
              | (go_at_call 12; (with_reducible refine OG.mono ?_); rintro e w2 ⟨y, p, n, c, rfl, b2⟩; obtain ⟨yn, yt, yw, ya⟩ := y)
              | fail)
            refine ⟨⟨0 + 1, by simp, by omega, (hbk.trans (b2.mono hbk.size)).alloc (hbk.trans (b2.mono hbk.size)).size _⟩, ?_⟩
            simp [RowKit.intOf]
          · have cn := (show W.cell? ⟨wr0.heap.size, 1, none⟩ = some (.string (⟨#[113, 117, 101, 114, 121]⟩ ++ ⟨xn.toArray⟩)) by unfold World.cell?; rw [NB]; rfl)
            have OG := out_rt (DX.on hbX) y1
            go_wp2_with (first
              | (go_at_call 12; (with_reducible refine OG.mono ?_); rintro e w2 ⟨y, p, n, c, rfl, b2⟩; obtain ⟨yn, yt, yw, ya⟩ := y)
              | fail)
            refine ⟨⟨1 + 1, by simp, by omega, (hbk.trans (b2.mono hbk.size)).alloc (hbk.trans (b2.mono hbk.size)).size _⟩, ?_⟩
            simp [RowKit.intOf]
          · have cn := (show W.cell? ⟨wr0.heap.size, 2, none⟩ = some (.string (⟨#[97, 100, 100]⟩ ++ ⟨xn.toArray⟩)) by unfold World.cell?; rw [NB]; rfl)
            have OG := out_rt (DX.on hbX) y2
            go_wp2_with (first
              | (go_at_call 12; (with_reducible refine OG.mono ?_); rintro e w2 ⟨y, p, n, c, rfl, b2⟩; obtain ⟨yn, yt, yw, ya⟩ := y)
              | fail)
            refine ⟨⟨2 + 1, by simp, by omega, (hbk.trans (b2.mono hbk.size)).alloc (hbk.trans (b2.mono hbk.size)).size _⟩, ?_⟩
            simp [RowKit.intOf]
          · have cn := (show W.cell? ⟨wr0.heap.size, 3, none⟩ = some (.string (⟨#[117, 112, 100, 97, 116, 101]⟩ ++ ⟨xn.toArray⟩)) by unfold World.cell?; rw [NB]; rfl)
            have OG := out_rt (DX.on hbX) y3
            go_wp2_with (first
              | (go_at_call 12; (with_reducible refine OG.mono ?_); rintro e w2 ⟨y, p, n, c, rfl, b2⟩; obtain ⟨yn, yt, yw, ya⟩ := y)
              | fail)
            refine ⟨⟨3 + 1, by simp, by omega, (hbk.trans (b2.mono hbk.size)).alloc (hbk.trans (b2.mono hbk.size)).size _⟩, ?_⟩
            simp [RowKit.intOf]
          · have cn := (show W.cell? ⟨wr0.heap.size, 4, none⟩ = some (.string (⟨#[100, 101, 108, 101, 116, 101]⟩ ++ ⟨xn.toArray⟩)) by unfold World.cell?; rw [NB]; rfl)
            have OG := out_rt (DX.on hbX) y4
            go_wp2_with (first
              | (go_at_call 12; (with_reducible refine OG.mono ?_); rintro e w2 ⟨y, p, n, c, rfl, b2⟩; obtain ⟨yn, yt, yw, ya⟩ := y)
              | fail)
            refine ⟨⟨4 + 1, by simp, by omega, (hbk.trans (b2.mono hbk.size)).alloc (hbk.trans (b2.mono hbk.size)).size _⟩, ?_⟩
            simp [RowKit.intOf]
        · have hk5 : k = 5 := by omega
          subst hk5
          have FOk := FO hbX
          clear hkl hk
          go_wp2_with (first
            | (go_at_call 14; (with_reducible refine FOk.mono ?_); rintro e w6 ⟨rfl, b6⟩; have b6X := hbX.trans (b6.mono hbX.size); have j3 := cell_on b6X e3'; have j4 := f1' b6X; obtain ⟨j0, j1⟩ := CC (nx D b6X))
            | fail)
          have R0 : Below X.heap.size X w6.drew := bel_dr b6X
          go_region_held3 (fun w' => w'.cell? ⟨b, o + jo * 5 + 3, none⟩ = some (.slice a9 (xf.length + 1) c9) ∧ w'.cell? ⟨w.heap.size, 0, none⟩ = some (.slice (some ⟨b1, o1, none⟩) s.os.length c) ∧ w'.cell? ⟨b1, o1 + j * 2 + 1, none⟩ = some (.slice a8 xf.length c8)) (first | exact ⟨cell_on R0 e3', (CC (nx D R0)).1, f1' R0⟩) ((first
            | (go_at_call 14; (first
                | ((with_reducible refine (F1 R0).mono ?_); rintro e w7 ⟨rfl, b7⟩)
                | ((with_reducible refine (F2 R0).mono ?_); rintro e w7 ⟨rfl, b7⟩)
                | ((with_reducible refine (F3 R0).mono ?_); rintro e w7 ⟨rfl, b7⟩)
                | ((with_reducible refine (F4 R0).mono ?_); rintro e w7 ⟨rfl, b7⟩)
                | ((with_reducible refine (F5 R0).mono ?_); rintro e w7 ⟨rfl, b7⟩)); replace R0 := R0.trans (b7.mono R0.size); clear b7)))
          go_wp2
          refine ⟨⟨j + 1, by simp, HK.out, R0⟩, ?_⟩
          have := HK.out
          simp [RowKit.intOf]
          omega
    · have l2 : decide (((j : Nat) : Int) < (s.os.length : Int)) = false := by simp; omega
      have l3 : decide (j < s.os.length) = false := by simp; omega
      clear hlt hj
      go_wp2
      go_ret
      exact ⟨rfl, hbw⟩
theorem roots_any (h : SchAt w ov ev s) (gl : Gl w) : Calls Tryz.prog 6 #[.agg #[ov, ev]] w fun e w' => e = .returned (.bool true) ∧ Below w.heap.size w w' := by
  by_cases hc : chkS s = 0
  · exact roots_ok h gl hc
  · exact roots_no h gl hc
end
end Go.Proofs.YtbccpkclfpeckaaGreatDoor
namespace Go.Proofs.YtbccpkclfpeckaaGreatDoor
open Go Go.RowKit Go.ChangeShapes Go.WideShapes Go.Deep
/-- Nothing within it is beyond the form's reach. -/
def Wt {H : Type} (t : TypeId) (d : DataW H) : Prop := ∀ n ∈ d.weights Tryz.prog t, n ≤ reachBytes
theorem mem_weightsAll {H : Type} {e : TypeId} {d : DataW H} {n : Nat} (hn : n ∈ d.weights Tryz.prog e) : ∀ {l : List (DataW H)}, d ∈ l → n ∈ DataW.weightsAll Tryz.prog e l
  | x :: r, h => by
    simp only [DataW.weightsAll, List.mem_append]
    rcases List.mem_cons.1 h with rfl | h
    · exact Or.inl hn
    · exact Or.inr (mem_weightsAll hn h)
theorem Wt.elem {H : Type} {t e : TypeId} {el sp : List (DataW H)} (ht : Tryz.prog.underlying t = some (.slice e)) (h : Wt t (.slice el sp)) {d : DataW H} (hd : d ∈ el) : Wt e d := by
  intro n hn
  refine h n ?_
  simp only [DataW.weights, ht, List.mem_cons, List.mem_append]
  exact Or.inr (Or.inl (mem_weightsAll hn hd))
theorem Wt.len {H : Type} {t e : TypeId} {el sp : List (DataW H)} (ht : Tryz.prog.underlying t = some (.slice e)) (h : Wt t (.slice el sp)) (hb : 1 ≤ Tryz.prog.bytesOf e) : el.length ≤ 140737488355328 := by
  have h1 := h ((el.length + sp.length) * Tryz.prog.bytesOf e) (by simp only [DataW.weights, ht, List.mem_cons, true_or])
  have h2 := reachBytes_lt
  have h3 : el.length + sp.length ≤ (el.length + sp.length) * Tryz.prog.bytesOf e := Nat.le_mul_of_pos_right _ hb
  omega
theorem Wt.part {H : Type} {t : TypeId} {fs : Array Field} {parts : List (DataW H)} (ht : Tryz.prog.underlying t = some (.struct fs)) (h : Wt t (.agg parts)) {j : Nat} {u : TypeId} {d : DataW H} (hu : (fs.toList.map (·.type))[j]? = some u) (hd : parts[j]? = some d) : Wt u d := by
  intro n hn
  refine h n ?_
  simp only [DataW.weights, ht]
  exact DataW.weights_mem_each hu hd n hn
section
variable {H : Type} {enc : TypeId × Value → H} {w : World} {base : Nat} {spare : Nat → Bool} {held : Bool}
theorem open_sl {α : Type} {sz : Nat} {t e : TypeId} {p : α → Nat → Nat → Prop} (ht : Tryz.prog.underlying t = some (.slice e)) (hsz : Tryz.prog.cellsOf e = sz) (hs1 : 0 < sz) (hb : 1 ≤ Tryz.prog.bytesOf e) {fuel : Nat} {cs : List Value} {x : DataW H × List MemPlace} (h : DataW.trod enc Tryz.prog w base spare held fuel t cs = some x) (hw : Wt t x.1)
    (each : ∀ (fuel : Nat) (cs : List Value) (y : DataW H × List MemPlace) (b o : Nat), DataW.trod enc Tryz.prog w base spare held fuel e cs = some y → Wt e y.1 → cs.length = sz → (∀ j u, cs[j]? = some u → w.cell? ⟨b, o + j, none⟩ = some u) → ∃ a : α, p a b o) :
    ∃ (v : Value) (l : List α), cs = [v] ∧ Sl w v l.length sz (fun i b o => ∀ a, l[i]? = some a → p a b o) := by
  rcases open_slice ht h with ⟨hcs, _⟩ | ⟨ad, len, cap, m, n, D, Pl, hcs, _, hl, hm, hmm, rfl, hx⟩
  · exact ⟨_, [], hcs, _, 0, rfl, Nat.le_refl _, by simp, fun h => absurd h (by simp)⟩
  · have hlm : len ≤ m := by rw [hmm]; split <;> omega
    rw [hsz] at hx
    have hlen47 : len ≤ 140737488355328 := by
      have := hw.len ht hb
      simpa using this
    by_cases h0 : len = 0
    · subst h0
      exact ⟨_, [], hcs, some ad, cap, rfl, by simp, by simp, fun h => absurd h (by simp)⟩
    · obtain ⟨b, o, sp⟩ := ad
      have cell : ∀ i, i < len → ∃ cs', DataW.trod enc Tryz.prog w base spare held n e cs' = some (D i, Pl i) ∧ cs'.length = sz ∧ ∀ j, j < sz → w.cell? ((⟨b, o, sp⟩ : Addr).add (i * sz + j)) = cs'[j]? := by
        intro i hi
        obtain ⟨cs', h1, h2⟩ := hx i (by omega)
        obtain ⟨_, hlen, hcell⟩ := World.cells?_some h1
        refine ⟨cs', h2, hlen, fun j hj => ?_⟩
        have := hcell j hj
        rw [add_add] at this
        exact this
      obtain ⟨cs0, _, hl0, hc0⟩ := cell 0 (by omega)
      obtain ⟨u0, hu0⟩ : ∃ u, cs0[0]? = some u := ⟨_, List.getElem?_eq_getElem (by omega)⟩
      have hc00 := (hc0 0 hs1).trans hu0
      have hsp : sp = none := by simpa [Addr.add] using World.cell?_spot hc00
      subst hsp
      have hbl : b < w.heap.size := by
        have := World.block_lt_of_cell? w _ hc00
        simpa [Addr.add] using this
      have each' : ∀ i, i < len → ∃ a : α, p a b (o + i * sz) := by
        intro i hi
        obtain ⟨cs', h1, h2, h3⟩ := cell i hi
        refine each n cs' _ b (o + i * sz) h1 (hw.elem ht (List.mem_map.2 ⟨i, List.mem_range.2 hi, rfl⟩)) h2 fun j u hj => ?_
        have hjs : j < sz := by
          have := (List.getElem?_eq_some_iff.1 hj).1
          omega
        have h4 := (h3 j hjs).trans hj
        have e4 : (⟨b, o, none⟩ : Addr).add (i * sz + j) = ⟨b, o + i * sz + j, none⟩ := by simp [Addr.add, Nat.add_assoc]
        rw [e4] at h4
        exact h4
      obtain ⟨a0, _⟩ := each' 0 (by omega)
      haveI : Inhabited α := ⟨a0⟩
      obtain ⟨f, hf⟩ := choose_lt each'
      refine ⟨_, (List.range len).map f, hcs, some ⟨b, o, none⟩, cap, by simp, by simpa using hl, by simpa using hlen47, fun _ => ⟨b, o, rfl, hbl, fun i hi a ha => ?_⟩⟩
      have hi : i < len := by simpa using hi
      have hpf : a = f i := by
        simp [hi] at ha
        exact ha.symm
      subst hpf
      exact hf i hi
theorem Tryz.cStr : Tryz.prog.cellsOf 9 = 1 := by kernel_rfl
theorem Tryz.cFld : Tryz.prog.cellsOf 56 = 5 := by kernel_rfl
theorem Tryz.cRef : Tryz.prog.cellsOf 37 = 2 := by kernel_rfl
theorem Tryz.cBool : Tryz.prog.cellsOf 4 = 1 := by kernel_rfl
theorem Tryz.cOb : Tryz.prog.cellsOf 54 = 2 := by kernel_rfl
theorem Tryz.cEn : Tryz.prog.cellsOf 59 = 2 := by kernel_rfl
theorem Tryz.cSch : Tryz.prog.cellsOf 25 = 2 := by kernel_rfl
theorem Tryz.cFs : Tryz.prog.cellsOf 52 = 1 := by kernel_rfl
theorem Tryz.cWs : Tryz.prog.cellsOf 31 = 1 := by kernel_rfl
theorem Tryz.cOs : Tryz.prog.cellsOf 22 = 1 := by kernel_rfl
theorem Tryz.cEs : Tryz.prog.cellsOf 23 = 1 := by kernel_rfl
theorem open_str {fuel : Nat} {cs : List Value} {x : DataW H × List MemPlace} (h : DataW.trod enc Tryz.prog w base spare held fuel 9 cs = some x) : ∃ b : Bs, cs = [.string ⟨b.toArray⟩] := by
  obtain ⟨t, e, _, _⟩ := DataW.trod_string Tryz.underlying9 h
  exact ⟨t.data.toList, by rw [e]⟩
set_option maxRecDepth 100000 in
theorem open_fld {fuel : Nat} {cs : List Value} {x : DataW H × List MemPlace} (h : DataW.trod enc Tryz.prog w base spare held fuel 56 cs = some x) :
    ∃ f : Fld, cs = [.string ⟨f.n.toArray⟩, .string ⟨f.t.toArray⟩, .string ⟨f.w.toArray⟩, .bool f.s, .string ⟨f.i.toArray⟩] := by
  obtain ⟨xs, n, _, _, hl, hxl, hf⟩ := DataW.trod_struct Tryz.underlying56 h
  rw [Tryz.cFld] at hl
  match xs, hxl, cs, hl with
  | [y0, y1, y2, y3], _, [v0, v1, v2, v3, v4], _ =>
    have g0 := hf 0 _ rfl
    have g1 := hf 1 _ rfl
    have g2 := hf 2 _ rfl
    have g3 := hf 3 _ rfl
    simp [Tryz.cStr, Tryz.cRef, Tryz.cBool] at g0 g1 g2 g3
    obtain ⟨a0, e0⟩ := open_str g0
    obtain ⟨ys, m, _, _, _, hyl, hg⟩ := DataW.trod_struct Tryz.underlying37 g1
    match ys, hyl with
    | [z0, z1], _ =>
      have q0 := hg 0 _ rfl
      have q1 := hg 1 _ rfl
      simp [Tryz.cStr] at q0 q1
      obtain ⟨a1, e1⟩ := open_str q0
      obtain ⟨a2, e2⟩ := open_str q1
      obtain ⟨a3, e3, _, _⟩ := DataW.trod_bool Tryz.underlying4 g2
      obtain ⟨a4, e4⟩ := open_str g3
      simp at e0 e1 e2 e3 e4
      exact ⟨⟨a0, a1, a2, a3, a4⟩, by rw [e0, e1, e2, e3, e4]⟩
theorem open_wds {fuel : Nat} {cs : List Value} {x : DataW H × List MemPlace} (h : DataW.trod enc Tryz.prog w base spare held fuel 31 cs = some x) (hw : Wt 31 x.1) : ∃ (v : Value) (ws : List Bs), cs = [v] ∧ WdsAt w v ws :=
  open_sl Tryz.underlying31 Tryz.cStr (by decide) (of_decide_eq_true (by kernel_rfl)) h hw fun fuel cs y b o hy _ _ hc => by
    obtain ⟨a, rfl⟩ := open_str hy
    exact ⟨a, hc 0 _ rfl⟩
theorem open_flds {fuel : Nat} {cs : List Value} {x : DataW H × List MemPlace} (h : DataW.trod enc Tryz.prog w base spare held fuel 52 cs = some x) (hw : Wt 52 x.1) : ∃ (v : Value) (fs : List Fld), cs = [v] ∧ FldsAt w v fs :=
  open_sl Tryz.underlying52 Tryz.cFld (by decide) (of_decide_eq_true (by kernel_rfl)) h hw fun fuel cs y b o hy _ _ hc => by
    obtain ⟨f, rfl⟩ := open_fld hy
    exact ⟨f, hc 0 _ rfl, hc 1 _ rfl, hc 2 _ rfl, hc 3 _ rfl, hc 4 _ rfl⟩
set_option maxRecDepth 100000 in
theorem open_ob {fuel : Nat} {cs : List Value} {x : DataW H × List MemPlace} (h : DataW.trod enc Tryz.prog w base spare held fuel 54 cs = some x) (hw : Wt 54 x.1) :
    ∃ (o : Ob) (fv : Value), cs = [.string ⟨o.n.toArray⟩, fv] ∧ FldsAt w fv o.fs := by
  obtain ⟨xs, n, _, rfl, hl, hxl, hf⟩ := DataW.trod_struct Tryz.underlying54 h
  rw [Tryz.cOb] at hl
  match xs, hxl, cs, hl with
  | [y0, y1], _, [v0, v1], _ =>
    have g0 := hf 0 _ rfl
    have g1 := hf 1 _ rfl
    simp [Tryz.cStr, Tryz.cFs] at g0 g1
    obtain ⟨a0, e0⟩ := open_str g0
    obtain ⟨fv, fs, e1, hfs⟩ := open_flds g1 (hw.part Tryz.underlying54 (j := 1) rfl rfl)
    simp at e0 e1
    exact ⟨⟨a0, fs⟩, fv, by rw [e0, e1], hfs⟩
set_option maxRecDepth 100000 in
theorem open_en {fuel : Nat} {cs : List Value} {x : DataW H × List MemPlace} (h : DataW.trod enc Tryz.prog w base spare held fuel 59 cs = some x) (hw : Wt 59 x.1) :
    ∃ (o : En) (fv : Value), cs = [.string ⟨o.n.toArray⟩, fv] ∧ WdsAt w fv o.ws := by
  obtain ⟨xs, n, _, rfl, hl, hxl, hf⟩ := DataW.trod_struct Tryz.underlying59 h
  rw [Tryz.cEn] at hl
  match xs, hxl, cs, hl with
  | [y0, y1], _, [v0, v1], _ =>
    have g0 := hf 0 _ rfl
    have g1 := hf 1 _ rfl
    simp [Tryz.cStr, Tryz.cWs] at g0 g1
    obtain ⟨a0, e0⟩ := open_str g0
    obtain ⟨fv, fs, e1, hfs⟩ := open_wds g1 (hw.part Tryz.underlying59 (j := 1) rfl rfl)
    simp at e0 e1
    exact ⟨⟨a0, fs⟩, fv, by rw [e0, e1], hfs⟩
theorem open_obs {fuel : Nat} {cs : List Value} {x : DataW H × List MemPlace} (h : DataW.trod enc Tryz.prog w base spare held fuel 22 cs = some x) (hw : Wt 22 x.1) : ∃ (v : Value) (fs : List Ob), cs = [v] ∧ ObsAt w v fs :=
  open_sl Tryz.underlying22 Tryz.cOb (by decide) (of_decide_eq_true (by kernel_rfl)) h hw fun fuel cs y b o hy hwy _ hc => by
    obtain ⟨f, fv, rfl, hfs⟩ := open_ob hy hwy
    exact ⟨f, hc 0 _ rfl, fv, hc 1 _ rfl, hfs⟩
theorem open_ens {fuel : Nat} {cs : List Value} {x : DataW H × List MemPlace} (h : DataW.trod enc Tryz.prog w base spare held fuel 23 cs = some x) (hw : Wt 23 x.1) : ∃ (v : Value) (fs : List En), cs = [v] ∧ EnsAt w v fs :=
  open_sl Tryz.underlying23 Tryz.cEn (by decide) (of_decide_eq_true (by kernel_rfl)) h hw fun fuel cs y b o hy hwy _ hc => by
    obtain ⟨f, fv, rfl, hfs⟩ := open_en hy hwy
    exact ⟨f, hc 0 _ rfl, fv, hc 1 _ rfl, hfs⟩
set_option maxRecDepth 100000 in
theorem open_sch {fuel : Nat} {cs : List Value} {x : DataW H × List MemPlace} (h : DataW.trod enc Tryz.prog w base spare held fuel 25 cs = some x) (hw : Wt 25 x.1) :
    ∃ (s : Sch) (ov ev : Value), cs = [ov, ev] ∧ SchAt w ov ev s := by
  obtain ⟨xs, n, _, rfl, hl, hxl, hf⟩ := DataW.trod_struct Tryz.underlying25 h
  rw [Tryz.cSch] at hl
  match xs, hxl, cs, hl with
  | [y0, y1], _, [v0, v1], _ =>
    have g0 := hf 0 _ rfl
    have g1 := hf 1 _ rfl
    simp [Tryz.cOs, Tryz.cEs] at g0 g1
    obtain ⟨ov, os, e0, h0⟩ := open_obs g0 (hw.part Tryz.underlying25 (j := 0) rfl rfl)
    obtain ⟨ev, es, e1, h1⟩ := open_ens g1 (hw.part Tryz.underlying25 (j := 1) rfl rfl)
    simp at e0 e1
    exact ⟨⟨os, es⟩, ov, ev, by rw [e0, e1], h0, h1⟩
end
end Go.Proofs.YtbccpkclfpeckaaGreatDoor
namespace Go.Proofs.YtbccpkclfpeckaaGreatDoor
open Go Go.RowKit Go.Lib

def listed : List (String × DataW Unit) := Rows.genTellsRow.laid
theorem at_var {w : World} {n : String} {d : DataW Unit} {g t : Nat} (h : VarReads Tryz.prog w n d) (hg : Tryz.prog.globalNamed n = some g) (ht : (Tryz.prog.globals[g]?).map (·.type) = some t) :
    ∃ (cs : Array Value) (fuel : Nat) (p : List MemPlace), w.var? Tryz.prog n = some cs ∧ DataW.trod (fun _ => ()) Tryz.prog w 0 (fun _ => true) false fuel t cs.toList = some (d, p) ∧ ∀ i, w.cell? ⟨g, i, none⟩ = cs.toList[i]? := by
  obtain ⟨g', t', cs, fuel, p, hg', ht', hv, hd⟩ := h
  obtain rfl := Option.some.inj (hg.symm.trans hg')
  obtain rfl := Option.some.inj (ht.symm.trans ht')
  exact ⟨cs, fuel, p, hv, hd, fun i => by rw [World.var?_cell hg hv i, Array.getElem?_toList]⟩
theorem es_laid {w : World} (h : VarReads Tryz.prog w "strconv.ErrSyntax" Rows.laid_strconv_ErrSyntax) : ∃ te pe, w.cell? ⟨3, 0, none⟩ = some (.iface te pe) := by
  obtain ⟨cs, fuel, p, _, hd, hc⟩ := at_var h (g := 3) (t := 183) (by kernel_rfl) (by kernel_rfl)
  cases fuel with
  | zero => simp [DataW.trod] at hd
  | succ n =>
    have hu := Tryz.underlying183
    simp only [DataW.trod, hu, Rows.laid_strconv_ErrSyntax] at hd
    rw [hc]
    split at hd
    all_goals simp_all
theorem max_of {W : World} (h : W.ShapedOpen Tryz.prog) : ∃ m, W.cell? ⟨gM, 0, none⟩ = some (.int .i64 m) :=
  cell_of_shapedOpen_int h (g := 0) (t := 3) (zero := #[.int .i64 0]) (of_decide_eq_true (by kernel_rfl)) (by kernel_rfl) rfl (by kernel_rfl) (by kernel_rfl) Tryz.underlying3
theorem gl_laid {W : World} (hL : laidMet Tryz.prog listed W) (hs : W.ShapedOpen Tryz.prog) : Gl W := by
  obtain ⟨te, pe, he⟩ := es_laid (laidMet.reads hL (.tail _ (.tail _ (.tail _ (.tail _ (.tail _ (.head _)))))))
  exact ⟨max_of hs, ⟨_, he, Or.inr ⟨te, pe, rfl⟩⟩⟩
end Go.Proofs.YtbccpkclfpeckaaGreatDoor

namespace Go.Proofs.YtbccpkclfpeckaaGreatDoor
open Go.ChangeShapes Go.WideShapes Go.ChangeAt Go.RowKit
open Go.ChangeMaps (open_string shut_string)

theorem Tryz.own : ownKnob Tryz.prog.godebug = none := by kernel_rfl
theorem Tryz.laidOut : laidOutB Tryz.prog = true := by kernel_rfl

/-- The road from the contract to the row where the contract is handed both what is listed and the world's shape. -/
theorem lifted_by {H : Type} {enc : TypeId × Value → H} {C : Checked} {os : Os} {f : FuncId} {fn : Func} {s : ChangeSpec} {conds : List PathCond} {apart fresh handsOn again : Bool} {X : World → Array Value → Prop}
    (hX : ∀ (w w' : World) (args : Array Value), w.heap = w'.heap → X w args → X w' args)
    (own : ownKnob C.prog.godebug = none) (started : os.Started) (noInit : C.prog.inits.idxOf? f = none) (hfn : C.prog.funcs[f]? = some fn)
    (witness : ∃ (w : World) (tape : Tape) (i : Input), w.os = os ∧ (w.forCall tape i).Shaped C.prog ∧ i.vars = [] ∧ Input.okWide C.prog (w.forCall tape i) .any w.heap.size f i ∧
      ((s.pre enc C.prog fn conds apart (w.forCall tape i).memory i.args ∧ X (w.forCall tape i).memory i.args) ∧ sizedMet enc C.prog fn (OpenSpec.ofChange s) apart (w.forCall tape i).memory i.args) ∧ ({} : Assume).holds C.prog (lone (Frame.enter C.prog f i.args .normal) [] (w.forCall tape i)))
    (contract : ∀ (W : World) (base : Nat) (args : Array Value) (ds gs : List (DataW H)) (before : List MemPlace),
      (∀ (j : Nat) t v, fn.params[j]? = some t → args[j]? = some v → Value.okWide C.prog W .any base t v) →
      DataW.Whole enc C.prog fn.params.toList s.vars apart W args.toList ds gs before →
      (DataW.weightsEach C.prog (fn.params.toList ++ s.plain.varTypes C.prog) (ds ++ gs)).all (· ≤ reachBytes) = true → W.ShapedOpen C.prog → X W args →
      Calls C.prog f args W fun e W' => ∃ v, e = .returned v ∧ s.post enc C.prog fn apart fresh handsOn again W args v W') :
    ReturnsInHanded {} C os f .any (fun w args => (s.pre enc C.prog fn conds apart w args ∧ X w args) ∧ sizedMet enc C.prog fn (OpenSpec.ofChange s) apart w args) (s.post enc C.prog fn apart fresh handsOn again) := by
  refine returnsInHanded_of_calls own started noInit witness ?_
  intro w tape i _ hsh _ hok hpre _
  obtain ⟨_, _, _, fn', hfn', _, _, _, _, hval⟩ := hok
  obtain rfl : fn' = fn := Option.some.inj (hfn'.symm.trans hfn)
  obtain ⟨⟨⟨ds, gs, before, hw, _⟩, hx⟩, hz⟩ := hpre
  refine (contract (w.forCall tape i) w.heap.size i.args ds gs before hval (DataW.Whole.of_heap (w' := w.forCall tape i) (by rfl) hw) (hz.weights hw) hsh (hX _ _ _ (by rfl) hx)).mono fun e W' ⟨v, he, hp⟩ => ?_
  subst he
  exact ChangeSpec.post_blind hp

set_option maxRecDepth 100000 in
theorem genRoots_lifted (os : Os) (started : os.Started) (H : Type) (enc : TypeId × Value → H) :
    ReturnsInHanded {} Tryz.checked os 6 .any (fun w args => (Rows.genRootsSpec.pre enc Tryz.prog Tryz.f6 Rows.genRootsRow.domain false w args ∧ laidMetH Tryz.prog listed w) ∧ sizedMet enc Tryz.prog Tryz.f6 (OpenSpec.ofChange Rows.genRootsSpec) false w args)
      (Rows.genRootsSpec.post enc Tryz.prog Tryz.f6 false true false false) := by
  refine lifted_by (C := Tryz.checked) (X := fun w _ => laidMetH Tryz.prog listed w) (fun _ _ _ hh h => h.of_heap hh) Tryz.own started (by kernel_rfl) Tryz.func6
    (ChangeSpec.witness_shaped (enc := enc) (C := Tryz.checked) (os := os) (X := fun w _ => laidMetH Tryz.prog listed w) false (World.laidAll Tryz.prog os listed) #[.agg #[.slice none 0 0, .slice none 0 0]] 8 (World.laidAll_os _ _ _)
      (World.shaped_of_ZipB (by kernel_rfl) (by kernel_rfl)) (by kernel_rfl) (by kernel_rfl) (by kernel_rfl)
      (by rw [MakeChecks.laidMetH_plain _ _ _ (by kernel_rfl)]; exact laidMet_laidAll _ (by kernel_rfl) (by kernel_rfl))) ?_
  intro W base args ds gs before hval0 hW hsz hsh hL
  have hval : ∀ (j : Nat) t v, Tryz.f6.params[j]? = some t → args[j]? = some v → Value.okWide Tryz.prog W .any base t v := hval0
  have hW' := hW
  obtain ⟨p, q, hA0, hV, rfl, hfz, hnd⟩ := hW
  have hA : DataW.TrodAll enc Tryz.prog W 0 (fun _ => true) true Tryz.f6.params.toList args.toList ds p := hA0
  rw [Tryz.params6] at hA hval
  obtain ⟨v0, vs0, d0, ds0, p0, q0, hargs, rfl, rfl, h0, r0⟩ := trodAll_cons hA
  obtain ⟨rfl, rfl, rfl⟩ := trodAll_nil r0
  obtain rfl : args = #[v0] := by cases args; simp_all
  obtain ⟨rfl, rfl⟩ := trodVars_none hV
  obtain ⟨c0, rfl, _⟩ := okWide_struct Tryz.underlying25 (hval 0 25 v0 rfl rfl)
  have k0 := h0
  have lt0 : ∀ x ∈ p0, x.block < W.heap.size := by obtain ⟨m, hm⟩ := k0; exact DataW.trod_lt m _ _ _ hm
  have wt0 : Wt 25 d0 := fun n hn => by
    have := List.all_eq_true.1 hsz n (DataW.weights_mem_each (j := 0) rfl rfl n hn)
    simpa using this
  obtain ⟨s0, ov0, ev0, hc0, hS0⟩ : ∃ (s : Sch) (ov ev : Value), (Value.agg c0).cells.toList = [ov, ev] ∧ SchAt W ov ev s := by
    obtain ⟨fuel, hf⟩ := h0
    exact open_sch hf wt0
  obtain rfl : c0 = #[ov0, ev0] := Array.toList_inj.1 hc0
  have hL2 : laidMetH Tryz.prog listed W := hL
  rw [MakeChecks.laidMetH_plain _ _ _ (by kernel_rfl)] at hL2
  have gl := gl_laid hL2 hsh
  clear hA0 hval0 hL hL2 hsz
  have wk := roots_any hS0 gl
  refine wk.mono fun e W' ⟨he, bel⟩ => ?_
  subst he
  exact ⟨_, rfl, _, _, _, [], _, [], hW', trodAll_mk1 (shut_bool Tryz.underlying4 _), (trodAll_cons_mk (Below.trod Tryz.laidOut (by kernel_rfl) (of_decide_eq_true (by kernel_rfl)) k0 bel lt0) trodAll_mk0), rfl, bel.frame _, fun h => by cases h⟩

theorem genRoots_row : Rows.GenRootsSaid :=
  OpenClaim.holds_of_wide 6 Tryz.f6 rfl rfl rfl rfl rfl rfl rfl ⟨rfl, rfl, rfl, rfl, rfl⟩ rfl rfl rfl rfl rfl (by kernel_rfl) Tryz.func6 (by kernel_rfl)
    (of_decide_eq_true (by kernel_rfl)) (by unfold Func.isWrapper; first | (rw [if_pos (by decide +kernel)]; kernel_rfl) | (rw [if_neg (by decide +kernel)]; exact ⟨rfl, rfl⟩))
    (fun os started H enc _ => genRoots_lifted os started H enc)

theorem genRoots_holds : Rows.GenRootsCardSaid :=
  Claim7.holds_tied_plain_at .later [] _ _ _ _ genRoots_row (fun _ h => by cases h) (by kernel_rfl) (fun _ h => by cases h) genRoots_row_tie rfl ⟨rfl, rfl⟩ (by kernel_rfl) rfl
    (fun f fn hf hfn => by
      obtain rfl : f = 6 := Option.some.inj ((show Tryz.prog.funcNamed "rhizome/rhizomelaw10.GenRoots" = some 6 by kernel_rfl).symm.trans hf) |>.symm
      obtain rfl : fn = Tryz.f6 := (Option.some.inj (Tryz.func6.symm.trans hfn)).symm
      exact ⟨by kernel_rfl, fun j t ht => by
        rw [Tryz.params6] at ht
        have hm : t ∈ [25] := by simpa using Array.mem_of_getElem? ht
        have hall : ([25].all fun u => !Tryz.prog.wantsStandIn u) = true := by kernel_rfl
        exact (show Tryz.prog.wantsStandIn t = false by simpa using List.all_eq_true.1 hall t hm)⟩)
    (by kernel_rfl)
#print axioms genRoots_holds
end Go.Proofs.YtbccpkclfpeckaaGreatDoor
