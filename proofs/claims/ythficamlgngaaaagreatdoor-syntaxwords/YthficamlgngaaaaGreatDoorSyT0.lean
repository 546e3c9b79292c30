/- Selections: what is told of one. -/
import Derived.Test.YthficamlgngaaaaGreatDoorSyR
namespace Go.Proofs.YthficamlgngaaaaGreatDoor
open Go Go.RowKit
theorem Tryz.infoVar : (Tryz.prog.info? 72).map (fun i => (i.zero, i.size, i.bytes)) = some (some (.agg #[.string ⟨#[]⟩, .string ⟨#[]⟩, .string ⟨#[]⟩, .bool false, .int .i64 0, .string ⟨#[]⟩, .slice none 0 0, .slice none 0 0, .slice none 0 0]), 9, 152) := by kernel_rfl
section
variable {R g cap : Nat} {T : List Tok} {fx : Bool} {a b c : Nat} {V P B : Nat} {cur : Array Value} {ty tp : TypeId}
attribute [local go_sem ↓] Go.wp_at_zero Go.wp_at_succ
set_option maxRecDepth 100000 in
set_option maxHeartbeats 8000000 in
theorem vars1_item (pl : Pl R g V P B) (hi : 0 < cur.size) : ItemR R g cap T true a 0 0 V P B cur ty tp 0 72 9 97 #[.pointer (some ⟨V, 0, none⟩), .pointer (some ⟨P, 0, none⟩)] varDefS := by
  intro els l w lv xs D hj hn h hl
  obtain ⟨o, lc, rfl⟩ := hj.slice
  have XA := varDef_any h.drew hl
  have cP := hj.ptr
  have cV := hj.cell hi
  have HJ : Hid (Js R V P B cur ty tp 0 72 9 w els (.slice o els.length lc) xs D) := hj
  have hsz := hj.size
  have hn2 : els.length ≤ 2049 := by omega
  obtain ⟨ti, hti, hy0, hy1, hy2⟩ := info_parts Tryz.infoVar
  clear hj
  go_enter Tryz.func97, Tryz.ntmps97
  go_wp2
  go_region_law (first
    | (refine step_append_lies _ (by rfl) (.tmp 2) (.tmp 5) 59 (by rfl) B 72 ti _ 9 152 Tryz.underlying59 hti hy0 hy1 hy2 rfl (by decide) (.slice o els.length lc) els.length xs (by rfl) (HO.out.alloc _) ⟨w2.heap.size, 0, none⟩ 1 1 [.string t0, .string t1, .string t2, .bool hs, .int .i64 kk, .string tx, .slice o1 i1 z1, .slice o2 i2 z2, .slice o3 i3 z3] (by rfl) rfl (World.news_of_block (heap_alloc_new _ _)) (by intro u hu; simp at hu; rcases hu with rfl | rfl | rfl | rfl | rfl | rfl | rfl | rfl | rfl <;> rfl) (by decide) (by unfold maxLen; omega) (by omega) (by simp; omega) (w2.heap.size + 1) (by simp) ?_; intro q cp w3 own2 hgr hor hlt2; have OW : Hid _ := own2; have GR : Hid _ := hgr; have OR : Hid _ := hor; clear own2 hgr hor; have hv2 := HJ.out.var2 pl ((Kp.refl Non w).drew) K2.out ((Kp.refl Non w2).alloc _) GR.out; have e0 : w3.cell? ⟨V, 0, none⟩ = some (.slice o els.length lc) := (by simp [World.cell?, hv2, hi]); have ef := frozen_of_row w3 V 0 _ _ hv2; clear hv2)
    | (go_simp; go_wp2_with (first
        | (go_at_call 98; (with_reducible refine XA.mono ?_); rintro e w2 (⟨p, hq, rfl, k2⟩ | ⟨cs, m, v, hq, rfl, ⟨t0, t1, t2, hs, kk, tx, o1, i1, z1, o2, i2, z2, o3, i3, z3, rfl, hat⟩, h2, m2, k2⟩); (exact ⟨rfl, Or.inl ⟨p, hq, rfl, ((Kp.refl (Own1 R) w).drew).trans k2⟩⟩); have K2 : Hid _ := k2; have j2 := HJ.out.kp pl (((Kp.refl (Own1 R) w).drew).trans k2); have v2 := j2.cell hi; have f2 := j2.free 0; have p2 := j2.ptr; have aV := fun o => cell_on (al1 w2 o) v2; have HO : Hid (w2.ownsRow B 72 9 (.slice o els.length lc) els.length xs) := j2.own; have hz2 : w.heap.size ≤ w2.heap.size := k2.size; have AT : Hid _ := hat; have H2 : Hid _ := h2; have HQ : Hid _ := hq; clear k2 hat h2 hq j2)
        | fail))
    | fail)
  all_goals go_end0
  all_goals exact item_endB HJ.out pl ((Kp.refl Non w).drew) K2.out AT.out ((Kp.refl Non w2).alloc _) GR.out (World.size_alloc _ _) OR.out OW.out HQ.out H2.out m2 rfl
set_option maxRecDepth 100000 in
set_option maxHeartbeats 2000000 in
theorem vars_any {w : World} {l : List Tok} (h : Sx R g cap T w l false a 0 0) (hl : l ≠ []) : Calls Tryz.prog 62 #[.pointer (some ⟨R, 0, none⟩)] w (Out R g cap T w false a 0 0 (varsS l) (RowV 72 9 w.heap.size)) := by
  have hmf : ∀ (fn : Fn) (first cap : Array Value) (w : World), (Instr.makeFunc fn first cap).run Tryz.prog w = .ok (.func fn first cap) w := fun _ _ _ _ => rfl
  have hR := h.ltR
  have hg := h.lt
  have pl := preA_pl hR hg
  have hS0 : Sx R g cap T (preA R 59 w) l false a 0 0 := (h.alloc _).alloc _
  have TK := ytake_any [40] hS0 hl
  have HA : Hid _ := some_any 97 #[.pointer (some ⟨w.heap.size + 1, 0, none⟩), .pointer (some ⟨w.heap.size, 0, none⟩)] (fun _ _ => rfl) [41] varDefS varDefS_eats _ (Kp (Own1 R) w) (Jr.kp (cur := #[.slice none 0 0]) (ty := 59) (tp := 82) (i := 0) (E := 72) (sz := 9) (W0 := preA R 59 w) pl) (oneR_of (preA_size _ _ _).symm varDefS_eats w (preA_kp R _ w) (vars1_item (cap := cap) (T := T) (a := a) pl (by decide)))
  go_enter Tryz.func62, Tryz.ntmps62
  go_wp2_with (first
    | (go_at_call 33; refine (HA.out [] _ _ (preA_start hR (k1.trans (Kp.own R 2 (.bool true))) (h1.fix true) (Nat.le_refl _)) (h1.fix true) (hS0.next (by simp) hp)).mono ?_; rintro e w2 (⟨p, hq, rfl, k2⟩ | ⟨ys, m, hq, rfl, ⟨⟨lv, xs, D, hj⟩, hlen, k2⟩, h2, n2⟩); (exact ⟨rfl, Or.inl ⟨p, by simp only [varsS, hp, if_true, hq], rfl, k2⟩⟩); obtain ⟨o, lc, rfl⟩ := hj.slice; have v0 := hj.cell (by decide); have p0 := hj.ptr; have r2 := h2.c2; have g2 := h2.free 2; have HJ : Hid _ := hj; have KR : Hid _ := preA_kp R _ w _ k2; clear hj)
    | (go_at_call 87; refine TK.mono ?_; (rintro e w1 (⟨hp, rfl, h1, k1⟩ | ⟨hp, rfl, h1, k1⟩) <;> (have cP1 := (row1 (old_row (preA_P R _ w) k1 (fun e => by have e' : w.heap.size = R := e; omega))).1; have v1 := (row1 (old_row (preA_V R _ w) k1 (fun e => by have e' : w.heap.size + 1 = R := e; omega))).1; have r1 := h1.c2; have g1 := h1.free 2))))
  · go_ret
    have K3 : Kp (Own1 R) w2 (w2.setCell ⟨R, 2, none⟩ (.bool false)) := Kp.own R 2 _
    exact Or.inr ⟨ys, m, _, by simp only [varsS, hp, if_true, hq], rfl, row_told (HJ.out.kp pl K3), h2.fix false, n2 (by simp), KR.out.trans K3⟩
  · go_ret
    exact Or.inr ⟨[], l, _, by simp only [varsS, hp, Bool.false_eq_true, if_false], rfl, ⟨⟨_, _, _, rfl⟩, .nil _ _⟩, h1, hl, preA_kp R _ w _ (k1.mono (fun _ _ e => Or.inl e))⟩
end
end Go.Proofs.YthficamlgngaaaaGreatDoor
namespace Go.Proofs.YthficamlgngaaaaGreatDoor
open Go Go.RowKit
/-- What a selection's reading tells. -/
def SelV (lo : Nat) (cs : List CT) (v : Value) (w : World) : Prop := ∃ (k : Int) (x y z : ByteArray) (o1 : Option Addr) (n1 z1 : Nat) (o2 : Option Addr) (n2 z2 : Nat) (o3 : Option Addr) (n3 z3 : Nat), v = .agg #[.int .i64 k, .string x, .string y, .string z, .slice o1 n1 z1, .slice o2 n2 z2, .slice o3 n3 z3] ∧ Ats w (Iv lo w.heap.size) cs [.int .i64 k, .string x, .string y, .string z, .slice o1 n1 z1, .slice o2 n2 z2, .slice o3 n3 z3]
def SelP (R g cap : Nat) (T : List Tok) (a : Nat) (st : List Tok → Rs (List (List CT))) : Prop := ∀ w l, Sx R g cap T w l false a 0 0 → l ≠ [] → Calls Tryz.prog 96 #[.pointer (some ⟨R, 0, none⟩)] w (Out R g cap T w false a 0 0 (selS st l) (SelV w.heap.size))
theorem Tryz.infoSel : (Tryz.prog.info? 65).map (fun i => (i.zero, i.size, i.bytes)) = some (some (.agg #[.int .i64 0, .string ⟨#[]⟩, .string ⟨#[]⟩, .string ⟨#[]⟩, .slice none 0 0, .slice none 0 0, .slice none 0 0]), 7, 128) := by kernel_rfl
abbrev zeroS : Obj := .cells #[.int .i64 0, .string ⟨#[]⟩, .string ⟨#[]⟩, .string ⟨#[]⟩, .slice none 0 0, .slice none 0 0, .slice none 0 0] 65
abbrev zerosS : List Value := [.int .i64 0, .string ⟨#[]⟩, .string ⟨#[]⟩, .string ⟨#[]⟩, .slice none 0 0, .slice none 0 0, .slice none 0 0]
theorem zerosS_one : ∀ u ∈ zerosS, u.oneCell' = true := by intro u hu; simp [zerosS] at hu; rcases hu with rfl | rfl | rfl <;> rfl
section
variable {V B : Nat}
/-- What one more place in the row leaves. -/
theorem place7 {i E : Nat} {w1 W2 w2 : World} {els : List (List CT)} {lv : Value} {xs : List Value} {q cp : Nat} {z0 z1 z2 z3 z4 z5 z6 : Value} (cV : w1.cell? ⟨V, i, none⟩ = some lv) (fV : w1.frozen? ⟨V, i, none⟩ = false) (hV : V < B) (HO : w1.ownsRow B E 7 lv els.length xs) (hW2 : Below w1.heap.size w1 W2) (hgr : W2.grownBy w2 lv.ownBlock)
    (own : w2.ownsRow B E 7 (.slice (some ⟨q, 0, none⟩) (els.length + 1) cp) (els.length + 1) (xs ++ [z0, z1, z2, z3, z4, z5, z6])) :
    w2.cell? ⟨V, i, none⟩ = some lv ∧ w2.frozen? ⟨V, i, none⟩ = false ∧ w2.cell? ⟨q, els.length * 7, none⟩ = some z0 ∧ w2.cell? ⟨q, els.length * 7 + 1, none⟩ = some z1 ∧ w2.cell? ⟨q, els.length * 7 + 2, none⟩ = some z2 ∧ w2.cell? ⟨q, els.length * 7 + 3, none⟩ = some z3 ∧ w2.cell? ⟨q, els.length * 7 + 4, none⟩ = some z4 ∧ w2.cell? ⟨q, els.length * 7 + 5, none⟩ = some z5 ∧ w2.cell? ⟨q, els.length * 7 + 6, none⟩ = some z6 ∧ (∀ j, w2.frozen? ⟨q, j, none⟩ = false) ∧ ¬ q = V ∧ ¬ V = q := by
  have hBq : B ≤ q := (own_block own rfl).1
  have hl := HO.1
  have hb : w2.heap[V]? = w1.heap[V]? := (hgr.block V (Nat.lt_of_lt_of_le (World.block_lt_of_cell? w1 _ cV) hW2.size) (fun e => by have := (own_block HO e.symm).1; omega)).trans (hW2.block V (World.block_lt_of_cell? w1 _ cV))
  have hc : ∀ j, j < 7 → w2.cell? ⟨q, els.length * 7 + j, none⟩ = [z0, z1, z2, z3, z4, z5, z6][j]? := fun j hj => by
    rw [own.cellAt _ (by omega), List.getElem?_append_right (by omega), hl, Nat.add_sub_cancel_left]
  exact ⟨(by rw [← cV]; simp only [World.cell?, hb]), (by rw [← fV]; simp only [World.frozen?, hb]), hc 0 (by decide), hc 1 (by decide), hc 2 (by decide), hc 3 (by decide), hc 4 (by decide), hc 5 (by decide), hc 6 (by decide), fun j => own.frozenAt j, by omega, by omega⟩
end
end Go.Proofs.YthficamlgngaaaaGreatDoor
