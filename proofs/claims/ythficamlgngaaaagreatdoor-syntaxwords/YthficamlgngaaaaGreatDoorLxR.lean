/- The reader's small steps. -/
import Derived.Test.YthficamlgngaaaaGreatDoorSyW
import Derived.Test.YthficamlgngaaaaGreatDoorSyB
namespace Go.Proofs.YthficamlgngaaaaGreatDoor
open Go Go.RowKit
theorem Tryz.infoOp : (Tryz.prog.info? 61).map (fun i => (i.zero, i.size, i.bytes)) = some (some (.agg #[.int .i64 0, .string ⟨#[]⟩, .slice none 0 0, .slice none 0 0, .slice none 0 0]), 5, 96) := by kernel_rfl
theorem Tryz.infoFrag : (Tryz.prog.info? 57).map (fun i => (i.zero, i.size, i.bytes)) = some (some (.agg #[.string ⟨#[]⟩, .string ⟨#[]⟩, .slice none 0 0, .slice none 0 0]), 4, 80) := by kernel_rfl
section
variable {R g cap : Nat} {T : List Tok} {fx : Bool} {a b c : Nat} {V P B : Nat} {cur : Array Value} {ty tp : TypeId} {i E sz : Nat}
theorem item_endC {w w1 W2 w2 w4 : World} {m : List Tok} {els : List (List CT)} {el : List CT} {us : List Value} {lv : Value} {xs : List Value} {D : Nat → Prop} {q cp : Nat} (hj : Js R V P B cur ty tp i E sz w els lv xs D) (pl : Pl R g V P B) (hk : Kp (Own1 R) w w1)
    (hel : Ats w1 (Iv w.heap.size w1.heap.size) el us) (hW2 : Kp Non w1 W2) (hgr : W2.grownBy w2 lv.ownBlock) {H : Nat} (hH : W2.heap.size = H) (hat : lv.ownBlock = some q ∨ q = H) (own2 : w2.ownsRow B E sz (.slice (some ⟨q, 0, none⟩) (els.length + 1) cp) (els.length + 1) (xs ++ us)) (h1 : Sx R g cap T w1 m fx a b c)
    (h4 : w4 = w2.setCell ⟨V, i, none⟩ (.slice (some ⟨q, 0, none⟩) (els.length + 1) cp)) :
    (∃ lv' xs' D', Js R V P B cur ty tp i E sz w4 (els ++ [el]) lv' xs' D' ∧ (∀ k, lv'.ownBlock = some k → lv.ownBlock = some k ∨ w.heap.size ≤ k) ∧ (∀ k, D' k → D k ∨ w.heap.size ≤ k)) ∧ Kp (fun k => k = R ∨ k = V ∨ lv.ownBlock = some k) w w4 ∧ Sx R g cap T w4 m fx a b c := by
  have hv2 := hj.var2 pl (Kp.refl Non w) hk hW2 hgr
  have hBq : B ≤ q := (own_block own2 rfl).1
  have p1 := pl.bV; have p2 := pl.bg; have p3 := pl.bR
  have z1 := hk.size; have z2 := hW2.size
  subst h4
  have K4 : Kp (fun k => k = q ∨ k = V) w2 (w2.setCell ⟨V, i, none⟩ (.slice (some ⟨q, 0, none⟩) (els.length + 1) cp)) := (Kp.own V i _).mono (fun _ _ e => Or.inr e)
  have var4 : (w2.setCell ⟨V, i, none⟩ (.slice (some ⟨q, 0, none⟩) (els.length + 1) cp)).heap[V]? = some (.cells (cur.setIfInBounds i (.slice (some ⟨q, 0, none⟩) (els.length + 1) cp)) ty (0, 0)) := by
    rw [heap_setCell_same _ V i _ _ _ hv2]
    simp
  obtain ⟨hj4, k4⟩ := hj.push pl (Kp.refl Non w) hk hel hW2 hgr (by rcases hat with e | e; exact Or.inl e; exact Or.inr (by omega)) K4 var4 (ownsRow_setCell_below own2 (a := ⟨V, i, none⟩) p1 _)
  have KS : Kp (fun k => lv.ownBlock = some k ∨ k = q ∨ k = V) w1 (w2.setCell ⟨V, i, none⟩ (.slice (some ⟨q, 0, none⟩) (els.length + 1) cp)) := (hW2.any.grew hgr (fun k e => Or.inr (Or.inl e))).trans (K4.mono (fun _ _ e => Or.inr e))
  refine ⟨⟨_, _, _, hj4, ?_, ?_⟩, k4, h1.kp KS ?_ ?_⟩
  · intro k e
    have e2 : q = k := by simpa [Value.ownBlock] using e
    subst e2
    rcases hat with e | e
    · exact Or.inl e
    · exact Or.inr (by omega)
  · rintro k (e | e)
    · exact Or.inl e
    · exact Or.inr e.1
  · rintro (e | e | e)
    · have := (own_block hj.own e).1; omega
    · omega
    · exact pl.VR e.symm
  · rintro (e | e | e)
    · have := (own_block hj.own e).1; omega
    · omega
    · exact pl.Vg e.symm
end
abbrev curO (fv : Value) : Array Value := #[.slice none 0 0, fv]
abbrev curF (ov : Value) : Array Value := #[ov, .slice none 0 0]
/-- The operations, and the fragments. -/
structure Jd (R V P B : Nat) (w : World) (ops frs : List (List CT)) (ov fv : Value) (os fs : List Value) (D E : Nat → Prop) : Prop where
  jo : Js R V P B (curO fv) 25 82 0 61 5 w ops ov os D
  jf : Js R V P B (curF ov) 25 82 1 57 4 w frs fv fs E
  ap : ∀ q, ov.ownBlock = some q → fv.ownBlock ≠ some q ∧ ¬ E q
  ap' : ∀ q, fv.ownBlock = some q → ¬ D q
section
variable {R g cap : Nat} {T : List Tok} {V P B : Nat} {w : World} {ops frs : List (List CT)} {ov fv : Value} {os fs : List Value} {D E : Nat → Prop}
theorem Jd.kp {w' : World} (h : Jd R V P B w ops frs ov fv os fs D E) (pl : Pl R g V P B) (k : Kp (Own1 R) w w') : Jd R V P B w' ops frs ov fv os fs D E := ⟨h.jo.kp pl k, h.jf.kp pl k, h.ap, h.ap'⟩
theorem Jd.op {w4 : World} {el : List CT} {ov' : Value} {os' : List Value} {D' : Nat → Prop} (h : Jd R V P B w ops frs ov fv os fs D E) (pl : Pl R g V P B) (j : Js R V P B (curO fv) 25 82 0 61 5 w4 (ops ++ [el]) ov' os' D')
    (h1 : ∀ k, ov'.ownBlock = some k → ov.ownBlock = some k ∨ w.heap.size ≤ k) (h2 : ∀ k, D' k → D k ∨ w.heap.size ≤ k) (k : Kp (fun k => k = R ∨ k = V ∨ ov.ownBlock = some k) w w4) : Jd R V P B w4 (ops ++ [el]) frs ov' fv os' fs D' E where
  jo := j
  jf := h.jf.other pl k (by rw [j.var]; rfl) (fun q e => ⟨(own_block h.jo.own e).1, (h.ap q e).1, (h.ap q e).2⟩)
  ap := fun q e => by
    rcases h1 q e with e1 | e1
    · exact h.ap q e1
    · exact ⟨fun e2 => by have := (own_block h.jf.own e2).2; omega, fun e2 => by have := (h.jf.far q e2).2.1; omega⟩
  ap' := fun q e e2 => by
    rcases h2 q e2 with e1 | e1
    · exact h.ap' q e e1
    · have := (own_block h.jf.own e).2; omega
theorem Jd.frag {w4 : World} {el : List CT} {fv' : Value} {fs' : List Value} {E' : Nat → Prop} (h : Jd R V P B w ops frs ov fv os fs D E) (pl : Pl R g V P B) (j : Js R V P B (curF ov) 25 82 1 57 4 w4 (frs ++ [el]) fv' fs' E')
    (h1 : ∀ k, fv'.ownBlock = some k → fv.ownBlock = some k ∨ w.heap.size ≤ k) (h2 : ∀ k, E' k → E k ∨ w.heap.size ≤ k) (k : Kp (fun k => k = R ∨ k = V ∨ fv.ownBlock = some k) w w4) : Jd R V P B w4 ops (frs ++ [el]) ov fv' os fs' D E' where
  jo := h.jo.other pl k (by rw [j.var]; rfl) (fun q e => ⟨(own_block h.jf.own e).1, fun e2 => (h.ap q e2).1 e, h.ap' q e⟩)
  jf := j
  ap := fun q e => by
    refine ⟨fun e2 => ?_, fun e2 => ?_⟩
    · rcases h1 q e2 with e1 | e1
      · exact (h.ap q e).1 e1
      · have := (own_block h.jo.own e).2; omega
    · rcases h2 q e2 with e1 | e1
      · exact (h.ap q e).2 e1
      · have := (own_block h.jo.own e).2; omega
  ap' := fun q e e2 => by
    rcases h1 q e with e1 | e1
    · exact h.ap' q e1 e2
    · have := (h.jo.far q e2).2.1; omega
theorem opsOf_op (xs : List (Bool × List CT)) (x : List CT) : opsOf (xs ++ [(false, x)]) = opsOf xs ++ [x] ∧ fragsOf (xs ++ [(false, x)]) = fragsOf xs := by simp [opsOf, fragsOf, List.filter_append]
theorem opsOf_frag (xs : List (Bool × List CT)) (x : List CT) : opsOf (xs ++ [(true, x)]) = opsOf xs ∧ fragsOf (xs ++ [(true, x)]) = fragsOf xs ++ [x] := by simp [opsOf, fragsOf, List.filter_append]
theorem opsOf_len (xs : List (Bool × List CT)) : (opsOf xs).length ≤ xs.length ∧ (fragsOf xs).length ≤ xs.length := by
  unfold opsOf fragsOf
  rw [List.length_map, List.length_map]
  exact ⟨List.length_filter_le _ _, List.length_filter_le _ _⟩
attribute [local go_sem ↓] Go.wp_at_zero Go.wp_at_succ
set_option maxRecDepth 100000 in
set_option maxHeartbeats 16000000 in
theorem doc1_any (pl : Pl R g V P B) (l : List Tok) (hj : Jd R V P B w ops frs ov fv os fs D E) (hn : ops.length ≤ 2049 ∧ frs.length ≤ 2049) (h : Sx R g cap T w l false 0 0 0) (hl : l ≠ []) :
    Calls Tryz.prog 34 #[.pointer (some ⟨P, 0, none⟩), .pointer (some ⟨V, 0, none⟩)] w fun e w' => (∃ p, itemS l = .error p ∧ e = DiesY p ∧ Kp (Own1 R) w w') ∨ (∃ x m, itemS l = .ok (x, m) ∧ e = .returned (.tuple #[]) ∧ (∃ ov' fv' os' fs' D' E', Jd R V P B w' (if x.1 then ops else ops ++ [x.2]) (if x.1 then frs ++ [x.2] else frs) ov' fv' os' fs' D' E') ∧ Kp (fun k => k = R ∨ k = V ∨ ov.ownBlock = some k ∨ fv.ownBlock = some k) w w' ∧ Sx R g cap T w' m false 0 0 0 ∧ m ≠ []) := by
  obtain ⟨oo, oc, rfl⟩ := hj.jo.slice
  obtain ⟨fo, fc, rfl⟩ := hj.jf.slice
  obtain ⟨n1, n2⟩ := hn
  have cP := hj.jo.ptr
  have TK := ytakeW_any fragB h hl
  have HJ : Hid (Jd R V P B w ops frs (.slice oo ops.length oc) (.slice fo frs.length fc) os fs D E) := hj
  have HS : Hid (Sx R g cap T w l false 0 0 0) := h
  have hsz := hj.jo.size
  obtain ⟨ti, hti, hy0, hy1, hy2⟩ := info_parts Tryz.infoOp
  obtain ⟨si, hsi, sy0, sy1, sy2⟩ := info_parts Tryz.infoFrag
  clear hj h
  go_enter Tryz.func34, Tryz.ntmps34
  go_wp2_with (go_at_call 35; refine TK.mono ?_; rintro e w1 (⟨hp, rfl, h1, k1⟩ | ⟨hp, rfl, h1, k1⟩))
  · have j1 := HJ.out.kp pl k1
    have c1 := j1.jf.cell (by simp)
    have p1 := j1.jf.ptr
    have XA := frag_any h1.drew (HS.out.nextW hp)
    have K1 : Hid _ := k1
    have hz1 : w.heap.size ≤ w1.heap.size := k1.size
    clear j1 k1 h1
    go_region_law (first
      | (refine step_append_lies _ (by rfl) (.tmp 5) (.tmp 8) 23 (by rfl) B 57 si _ 4 80 Tryz.underlying23 hsi sy0 sy1 sy2 rfl (by decide) (.slice fo frs.length fc) frs.length fs (by rfl) (HO.out.alloc _) ⟨w2.heap.size, 0, none⟩ 1 1 [.string t0, .string t1, .slice o1 i1 z1, .slice o2 i2 z2] (by rfl) rfl (World.news_of_block (heap_alloc_new _ _)) (by intro u hu; simp at hu; rcases hu with rfl | rfl | rfl | rfl <;> rfl) (by decide) (by unfold maxLen; omega) (by omega) (by simp; omega) (w2.heap.size + 1) (by simp) ?_; intro q cp w3 own2 hgr hor hlt2; have OW : Hid _ := own2; have GR : Hid _ := hgr; have OR : Hid _ := hor; clear own2 hgr hor; have hv2 := HJ.out.jf.var2 pl (Kp.refl Non w) K2.out ((Kp.refl Non w2).alloc _) GR.out; obtain ⟨e0, e1, ef⟩ := row2 hv2; clear hv2)
      | (go_simp; go_wp2_with (first
          | (go_at_call 36; (with_reducible refine XA.mono ?_); rintro e w2 (⟨p, hq, rfl, k2⟩ | ⟨cs, m, v, hq, rfl, ⟨t0, t1, o1, i1, z1, o2, i2, z2, rfl, hat⟩, h2, m2, k2⟩); (exact ⟨rfl, Or.inl ⟨p, by simp only [itemS, hp, if_true, hq, go_error], rfl, K1.out.trans (((Kp.refl (Own1 R) w1).drew).trans k2)⟩⟩); have K2 : Hid _ := K1.out.trans (((Kp.refl (Own1 R) w1).drew).trans k2); have j2 := HJ.out.kp pl K2.out; have v2 := j2.jf.cell (by simp); have f2 := j2.jf.free 1; have p2 := j2.jf.ptr; have aV := fun o => cell_on (al1 w2 o) v2; have HO : Hid (w2.ownsRow B 57 4 (.slice fo frs.length fc) frs.length fs) := j2.jf.own; have hz2 : w1.heap.size ≤ w2.heap.size := k2.size; have AT : Hid _ := hat; have H2 : Hid _ := h2; have HQ : Hid _ := hq; clear k2 hat h2 hq j2)
          | fail))
      | fail)
    all_goals go_end0
    all_goals
      obtain ⟨⟨fv', fs', E', g1, g2, g3⟩, g4, g5⟩ := item_endC HJ.out.jf pl K2.out (AT.out.mono (fun k hk => ⟨Nat.le_trans hz1 hk.1, hk.2⟩)) ((Kp.refl Non w2).alloc _) GR.out (World.size_alloc _ _) OR.out OW.out H2.out rfl
      exact Or.inr ⟨(true, cs), m, by simp only [itemS, hp, if_true, HQ.out, go_ok], rfl, ⟨_, _, _, _, _, _, HJ.out.frag pl g1 g2 g3 g4⟩, g4.mono (fun _ _ e => by rcases e with e | e | e; exact Or.inl e; exact Or.inr (Or.inl e); exact Or.inr (Or.inr (Or.inr e))), g5, m2⟩
  · have j1 := HJ.out.kp pl k1
    have c1 := j1.jo.cell (by simp)
    have p1 := j1.jo.ptr
    have XA := op_any h1.drew hl
    have K1 : Hid _ := k1
    have hz1 : w.heap.size ≤ w1.heap.size := k1.size
    clear j1 k1 h1
    go_region_law (first
      | (refine step_append_lies _ (by rfl) (.tmp 12) (.tmp 15) 22 (by rfl) B 61 ti _ 5 96 Tryz.underlying22 hti hy0 hy1 hy2 rfl (by decide) (.slice oo ops.length oc) ops.length os (by rfl) (HO.out.alloc _) ⟨w2.heap.size, 0, none⟩ 1 1 [.int .i64 kk, .string t1, .slice o1 i1 z1, .slice o2 i2 z2, .slice o3 i3 z3] (by rfl) rfl (World.news_of_block (heap_alloc_new _ _)) (by intro u hu; simp at hu; rcases hu with rfl | rfl | rfl | rfl | rfl <;> rfl) (by decide) (by unfold maxLen; omega) (by omega) (by simp; omega) (w2.heap.size + 1) (by simp) ?_; intro q cp w3 own2 hgr hor hlt2; have OW : Hid _ := own2; have GR : Hid _ := hgr; have OR : Hid _ := hor; clear own2 hgr hor; have hv2 := HJ.out.jo.var2 pl (Kp.refl Non w) K2.out ((Kp.refl Non w2).alloc _) GR.out; obtain ⟨e0, e1, ef⟩ := row2 hv2; clear hv2)
      | (go_simp; go_wp2_with (first
          | (go_at_call 37; (with_reducible refine XA.mono ?_); rintro e w2 (⟨p, hq, rfl, k2⟩ | ⟨cs, m, v, hq, rfl, ⟨kk, t1, o1, i1, z1, o2, i2, z2, o3, i3, z3, rfl, hat⟩, h2, m2, k2⟩); (exact ⟨rfl, Or.inl ⟨p, by simp only [itemS, hp, Bool.false_eq_true, if_false, hq, go_error], rfl, K1.out.trans (((Kp.refl (Own1 R) w1).drew).trans k2)⟩⟩); have K2 : Hid _ := K1.out.trans (((Kp.refl (Own1 R) w1).drew).trans k2); have j2 := HJ.out.kp pl K2.out; have v2 := j2.jo.cell (by simp); have f2 := j2.jo.free 0; have p2 := j2.jo.ptr; have aV := fun o => cell_on (al1 w2 o) v2; have HO : Hid (w2.ownsRow B 61 5 (.slice oo ops.length oc) ops.length os) := j2.jo.own; have hz2 : w1.heap.size ≤ w2.heap.size := k2.size; have AT : Hid _ := hat; have H2 : Hid _ := h2; have HQ : Hid _ := hq; clear k2 hat h2 hq j2)
          | fail))
      | fail)
    all_goals go_end0
    all_goals
      obtain ⟨⟨ov', os', D', g1, g2, g3⟩, g4, g5⟩ := item_endC HJ.out.jo pl K2.out (AT.out.mono (fun k hk => ⟨Nat.le_trans hz1 hk.1, hk.2⟩)) ((Kp.refl Non w2).alloc _) GR.out (World.size_alloc _ _) OR.out OW.out H2.out rfl
      exact Or.inr ⟨(false, cs), m, by simp only [itemS, hp, Bool.false_eq_true, if_false, HQ.out, go_ok], rfl, ⟨_, _, _, _, _, _, HJ.out.op pl g1 g2 g3 g4⟩, g4.mono (fun _ _ e => by rcases e with e | e | e; exact Or.inl e; exact Or.inr (Or.inl e); exact Or.inr (Or.inr (Or.inl e))), g5, m2⟩
end
end Go.Proofs.YthficamlgngaaaaGreatDoor
namespace Go.Proofs.YthficamlgngaaaaGreatDoor
open Go Go.RowKit
def DocV (lo : Nat) (cs : List CT) (v : Value) (w : World) : Prop := ∃ (o1 : Option Addr) (n1 z1 : Nat) (o2 : Option Addr) (n2 z2 : Nat), v = .agg #[.slice o1 n1 z1, .slice o2 n2 z2] ∧ Ats w (Iv lo w.heap.size) cs [.slice o1 n1 z1, .slice o2 n2 z2]
def Jw (R V P B : Nat) (W0 : World) (xs : List (Bool × List CT)) (l : List Tok) (w : World) : Prop :=
  (∃ ov fv os fs D E, Jd R V P B w (opsOf xs) (fragsOf xs) ov fv os fs D E) ∧ xs.length + l.length ≤ 2049 ∧ Kp (fun k => k = R ∨ k = V) W0 w
section
variable {R g cap : Nat} {T : List Tok}
theorem Jw.kp {V P B : Nat} {W0 : World} (pl : Pl R g V P B) : ∀ xs l m w w', Jw R V P B W0 xs l w → Kp (Own1 R) w w' → m.length ≤ l.length → Jw R V P B W0 xs m w' := by
  rintro xs l m w w' ⟨⟨ov, fv, os, fs, D, E, hj⟩, hn, hk⟩ k hm
  exact ⟨⟨ov, fv, os, fs, D, E, hj.kp pl k⟩, by omega, hk.trans (k.mono (fun _ _ e => Or.inl e))⟩
theorem oneR_doc {V P B : Nat} {W0 : World} (hB : B = W0.heap.size) (w0 : World) (hw0 : ∀ w', Kp (fun k => k = R ∨ k = V) W0 w' → Kp (Own1 R) w0 w') (pl : Pl R g V P B) :
    OneR R g cap T false 0 0 0 34 #[.pointer (some ⟨P, 0, none⟩), .pointer (some ⟨V, 0, none⟩)] itemS (Jw R V P B W0) (Kp (Own1 R) w0) := by
  rintro xs l w ⟨⟨ov, fv, os, fs, D, E, hj⟩, hn, hk⟩ h hl
  have hlen := opsOf_len xs
  refine (doc1_any pl l hj ⟨by omega, by omega⟩ h hl).mono ?_
  rintro e w' (⟨p, hp, rfl, k⟩ | ⟨⟨bb, x⟩, m, hp, rfl, hj', k, h', n'⟩)
  · exact Or.inl ⟨p, hp, rfl, hw0 _ (hk.trans (k.mono (fun _ _ e => Or.inl e)))⟩
  · refine Or.inr ⟨(bb, x), m, hp, rfl, ⟨?_, ?_, hk.trans2 k (fun k hk e => ?_)⟩, h', n'⟩
    · cases bb with
      | true => rw [(opsOf_frag xs x).1, (opsOf_frag xs x).2]; exact hj'
      | false => rw [(opsOf_op xs x).1, (opsOf_op xs x).2]; exact hj'
    · have := itemS_eats _ _ _ hp
      rw [List.length_append]
      simp; omega
    · rcases e with e | e | e | e
      · exact Or.inl e
      · exact Or.inr e
      · have := (own_block hj.jo.own e).1
        omega
      · have := (own_block hj.jf.own e).1
        omega
abbrev preD (R : Nat) (w : World) : World := ((w.alloc (.cells #[.pointer (some ⟨R, 0, none⟩)] 82)).alloc (.cells #[.slice none 0 0, .slice none 0 0] 25)).alloc (.cells #[.slice none 0 0, .slice none 0 0] 25)
set_option maxRecDepth 100000 in
set_option maxHeartbeats 4000000 in
theorem doc_any {w : World} {l : List Tok} (h : Sx R g cap T w l false 0 0 0) (hl : l ≠ []) : Calls Tryz.prog 20 #[.pointer (some ⟨R, 0, none⟩)] w fun e w' => (∃ p, docS l = .error p ∧ e = DiesY p ∧ Kp (Own1 R) w w') ∨ (∃ cs m v, docS l = .ok (cs, m) ∧ e = .returned v ∧ DocV w.heap.size cs v w' ∧ Kp (Own1 R) w w') := by
  have hmf : ∀ (fn : Fn) (first cap : Array Value) (w : World), (Instr.makeFunc fn first cap).run Tryz.prog w = .ok (.func fn first cap) w := fun _ _ _ _ => rfl
  have hR := h.ltR
  have hg := h.lt
  have hS0 : Sx R g cap T (preD R w) l false 0 0 0 := ((h.alloc _).alloc _).alloc _
  have hz0 : (preD R w).heap.size = w.heap.size + 3 := by simp
  have pl : Pl R g (w.heap.size + 1 + 1) w.heap.size (w.heap.size + 3) := ⟨by omega, by omega, by omega, by omega, by omega, by omega, by omega, by omega⟩
  have bP : (preD R w).heap[w.heap.size]? = some (.cells #[.pointer (some ⟨R, 0, none⟩)] 82 (0, 0)) :=
    old_row (heap_alloc_new w (.cells #[.pointer (some ⟨R, 0, none⟩)] 82)) (((Kp.refl Non _).alloc _).alloc _) (fun e => e)
  have bX : (preD R w).heap[w.heap.size + 1]? = some (.cells #[.slice none 0 0, .slice none 0 0] 25 (0, 0)) := by
    have := old_row (heap_alloc_new (w.alloc (.cells #[.pointer (some ⟨R, 0, none⟩)] 82)) (.cells #[.slice none 0 0, .slice none 0 0] 25)) ((Kp.refl Non _).alloc (.cells #[.slice none 0 0, .slice none 0 0] 25)) (fun e => e)
    rw [World.size_alloc] at this
    exact this
  have bV : (preD R w).heap[w.heap.size + 1 + 1]? = some (.cells #[.slice none 0 0, .slice none 0 0] 25 (0, 0)) := by
    have := heap_alloc_new ((w.alloc (.cells #[.pointer (some ⟨R, 0, none⟩)] 82)).alloc (.cells #[.slice none 0 0, .slice none 0 0] 25)) (.cells #[.slice none 0 0, .slice none 0 0] 25)
    rw [World.size_alloc, World.size_alloc] at this
    exact this
  have KW : ∀ w', Kp (fun k => k = R ∨ k = w.heap.size + 1 + 1) (preD R w) w' → Kp (Own1 R) w w' := fun w' k => ((((Kp.refl (Own1 R) w).alloc _).alloc _).alloc _).trans2 k (fun j hj e => by rcases e with e | e; exact e; omega)
  have hle := h.le
  have hsm := h.full.small
  have J0 : Jw R (w.heap.size + 1 + 1) w.heap.size (w.heap.size + 3) (preD R w) [] l (preD R w) := ⟨⟨_, _, _, _, _, _, ⟨Js.new bV bP (by omega), Js.new bV bP (by omega), (fun _ e => by cases e), (fun _ e => by cases e)⟩⟩, by simp; omega, Kp.refl _ _⟩
  have AN := some_any 34 #[.pointer (some ⟨w.heap.size, 0, none⟩), .pointer (some ⟨w.heap.size + 1 + 1, 0, none⟩)] (fun _ _ => rfl) [] itemS itemS_eats _ (Kp (Own1 R) w) (Jw.kp (W0 := preD R w) pl) (oneR_doc hz0.symm w KW pl) [] l (preD R w) J0 hS0 hl
  have HB : Hid _ := bX
  have HKW : Hid _ := KW
  clear bP bV J0 KW bX
  go_enter Tryz.func20, Tryz.ntmps20
  go_wp2_with (go_at_call 33; refine AN.mono ?_; rintro e w2 (⟨p, hq, rfl, k2⟩ | ⟨ys, m, hq, rfl, ⟨⟨ov, fv, os, fs, D, E, hj⟩, hlen, k2⟩, h2, n2⟩); (exact ⟨rfl, Or.inl ⟨p, by unfold docS; rw [hq, go_error], rfl, k2⟩⟩); obtain ⟨oo, oc, rfl⟩ := hj.jo.slice; obtain ⟨fo, fc, rfl⟩ := hj.jf.slice; obtain ⟨v0, v1, vf⟩ := row2 hj.jo.var; obtain ⟨x0, x1, xf⟩ := row2 (old_row HB.out k2 (by rintro (e | e) <;> omega)); have HJ : Hid _ := hj; have K2 : Hid _ := k2; clear hj k2)
  have KQ := own2 (w := w2) (w.heap.size + 1) (.slice oo (opsOf ([] ++ ys)).length oc) (.slice fo (fragsOf ([] ++ ys)).length fc)
  have KA : Kp (fun k => k = w.heap.size + 1) w2 _ := KQ
  have u1 := HJ.out.jo.at.later (lo' := w.heap.size) KA (Nat.le_refl _) (by rintro k h1 h2 e; omega) (by omega) KA.size
  have u2 := HJ.out.jf.at.later (lo' := w.heap.size) KA (Nat.le_refl _) (by rintro k h1 h2 e; omega) (by omega) KA.size
  refine bodyPost_ret (v := .agg #[.slice oo (opsOf ([] ++ ys)).length oc, .slice fo (fragsOf ([] ++ ys)).length fc]) (by simp [results, Tryz.results20, go_sem, x0, x1]) rfl (Or.inr ⟨docC ([] ++ ys), m, _, by unfold docS; rw [hq, go_ok]; rfl, rfl, ⟨_, _, _, _, _, _, rfl, (Ats.nil.cons u2).cons u1⟩, (HKW.out _ K2.out).ret KQ (Nat.le_succ _)⟩)
end
end Go.Proofs.YthficamlgngaaaaGreatDoor
namespace Go.Proofs.YthficamlgngaaaaGreatDoor
open Go Go.RowKit
section
variable {R : Nat} {s : Bs} {b : Nat}

theorem ends_yes (w : World) (h : Rd w R s b []) : Calls Tryz.prog 81 #[.pointer (some ⟨R, 0, none⟩)] w fun e w' => e = .returned (.bool true) ∧ ∃ m, w' = w.drewN m := by
  have c0 := h.c0
  have c2 := h.c2
  obtain ⟨h1, _, _⟩ := suf_facts h.suf
  rw [show s.length - ([] : Bs).length = s.length from rfl] at c2
  generalize (ByteArray.mk s.toArray) = S at *
  go_enter Tryz.func81, Tryz.ntmps81
  go_wp2
  go_quiet (fail)
  go_wp2
  go_ret
  exact ⟨rfl, _, rfl⟩
theorem ends_no (c : UInt8) (l : Bs) (w : World) (h : Rd w R s b (c :: l)) : Calls Tryz.prog 81 #[.pointer (some ⟨R, 0, none⟩)] w fun e w' => e = .returned (.bool false) ∧ ∃ m, w' = w.drewN m := by
  have c0 := h.c0
  have c2 := h.c2
  have hle := h.le
  obtain ⟨h1, _, h3⟩ := suf_facts h.suf
  have hne : (((s.length - (c :: l).length : Nat) : Int) == (s.length : Int)) = false := by
    rw [beq_eq_false_iff_ne]; simp only [List.length_cons] at h3 hle ⊢; omega
  generalize s.length - (c :: l).length = A at *
  generalize (ByteArray.mk s.toArray) = S at *
  go_enter Tryz.func81, Tryz.ntmps81
  go_wp2
  go_quiet (fail)
  go_wp2
  go_ret
  exact ⟨rfl, _, rfl⟩

set_option maxHeartbeats 1000000 in
theorem sees_any (S l : Bs) (w : World) (h : Rd w R s b l) : Calls Tryz.prog 84 #[.pointer (some ⟨R, 0, none⟩), .string ⟨S.toArray⟩] w fun e w' => e = .returned (.bool (headIn S l)) ∧ ∃ m, w' = w.drewN m := by
  cases l with
  | nil =>
    have E := fun n => ends_yes (w.drewN n) (h.drewN n)
    go_enter Tryz.func84, Tryz.ntmps84
    go_wp2
    go_quiet ((go_at_call 81; exact Calls.quiet_of (E _)))
    go_wp2
    go_ret
    exact ⟨rfl, _, rfl⟩
  | cons c l =>
    have E := fun n => ends_no c l (w.drewN n) (h.drewN n)
    have c0 := h.c0
    have c2 := h.c2
    have hle := h.le
    obtain ⟨h1, _, h3⟩ := suf_facts h.suf
    have hg := suf_get h.suf
    have hlt : ((s.length - (c :: l).length : Nat) : Int) < s.length := by simp only [List.length_cons] at h3 hle ⊢; omega
    have I := fun w => Tryz.strings_IndexByte ⟨S.toArray⟩ (c.toNat : Int) w
    have e8 : ((c.toNat : Int)).toNat.toUInt8 = c := by simp
    rw [e8] at I
    have hx : decide (0 ≤ Lib.indexByte S c) = headIn S (c :: l) := index_ge0 S c
    generalize headIn S (c :: l) = T at *
    have I' : ∀ w, Calls Tryz.prog 108 #[.string ⟨S.toArray⟩, .int .u8 (c.toNat : Int)] w fun e w' => e = .returned (.int .i64 (Lib.indexByte S c)) ∧ w' = w := I
    clear I
    generalize Lib.indexByte S c = x at *
    generalize s.length - (c :: l).length = A at *
    generalize (ByteArray.mk s.toArray) = D at *
    have hA : ((A : Nat) : Int).toNat = A := by omega
    go_enter Tryz.func84, Tryz.ntmps84
    go_wp2
    go_quiet (first
      | (go_at_call 81; exact Calls.quiet_of (E _))
      | (go_at_call 108; exact Calls.quiet_of_same (I' _)))
    go_wp2
    go_ret
    exact ⟨by rw [← hx]; rfl, _, rfl⟩

set_option maxHeartbeats 1000000 in
theorem take_any (p l : Bs) (w : World) (h : Rd w R s b l) : Calls Tryz.prog 79 #[.pointer (some ⟨R, 0, none⟩), .string ⟨p.toArray⟩] w fun e w' => e = .returned (.bool (p.isPrefixOf l)) ∧ Rd w' R s b (optT p l) ∧ Kp (Own1 R) w w' := by
  have c0 := h.c0
  have c2 := h.c2
  have hf := h.free 2
  have hle := h.le
  have hsm := h.small
  obtain ⟨h1, h2, h3⟩ := suf_facts h.suf
  have H := fun w => Tryz.strings_HasPrefix ⟨l.toArray⟩ ⟨p.toArray⟩ w
  have H' : ∀ w, Calls Tryz.prog 105 #[.string ⟨l.toArray⟩, .string ⟨p.toArray⟩] w fun e w' => e = .returned (.bool (p.isPrefixOf l)) ∧ w' = w := H
  clear H
  have hA0 : (0 : Int) ≤ ((s.length - l.length : Nat) : Int) := by omega
  have hA1 : ((s.length - l.length : Nat) : Int) ≤ (s.length : Int) := by omega
  by_cases hp : p.isPrefixOf l = true
  · have hpl : p.length ≤ l.length := (List.isPrefixOf_iff_prefix.1 hp).length_le
    have hmv := h.move (drop_suf p.length l) (((s.length - l.length : Nat) : Int) + (p.length : Int)) (by rw [List.length_drop]; omega)
    have ho : optT p l = l.drop p.length := if_pos hp
    rw [ho, hp]
    rw [hp] at H'
    have hp1 := size_of p
    have HM : Hid (Rd (w.setCell ⟨R, 2, none⟩ (.int .i64 (((s.length - l.length : Nat) : Int) + (p.length : Int)))) R s b (l.drop p.length)) := hmv
    have hpI : (p.length : Int) ≤ 16384 := by omega
    have hAI : ((s.length - l.length : Nat) : Int) ≤ 16384 := by omega
    have hpI0 : (0 : Int) ≤ (p.length : Int) := by omega
    clear hmv h hp ho
    generalize s.length - l.length = A at *
    generalize (ByteArray.mk s.toArray) = D at *
    generalize (ByteArray.mk l.toArray) = L at *
    generalize (ByteArray.mk p.toArray) = P at *
    go_enter Tryz.func79, Tryz.ntmps79
    go_wp2
    go_quiet ((go_at_call 105; exact Calls.quiet_of_same (H' _)))
    go_wp2
    go_ret
    exact ⟨rfl, HM.out.drewN _, by first | exact (Kp.own R 2 _).drewN _ | exact (Kp.n w _).trans (Kp.own R 2 _)⟩
  · have hp' : p.isPrefixOf l = false := Bool.eq_false_iff.2 hp
    have ho : optT p l = l := if_neg hp
    rw [ho, hp']
    rw [hp'] at H'
    have HM : Hid (Rd w R s b l) := h
    clear h hp ho hp'
    generalize s.length - l.length = A at *
    generalize (ByteArray.mk s.toArray) = D at *
    generalize (ByteArray.mk l.toArray) = L at *
    generalize (ByteArray.mk p.toArray) = P at *
    go_enter Tryz.func79, Tryz.ntmps79
    go_wp2
    go_quiet ((go_at_call 105; exact Calls.quiet_of_same (H' _)))
    go_wp2
    go_ret
    exact ⟨rfl, HM.out.drewN _, (Kp.refl _ _).drewN _⟩

set_option maxHeartbeats 1000000 in
theorem one_any (S l : Bs) (w : World) (h : Rd w R s b l) : Calls Tryz.prog 82 #[.pointer (some ⟨R, 0, none⟩), .string ⟨S.toArray⟩] w fun e w' => e = .returned (.bool (headIn S l)) ∧ Rd w' R s b (optO S l) ∧ Kp (Own1 R) w w' := by
  have E := sees_any S l w h
  have c2 := h.c2
  have hf := h.free 2
  have hle := h.le
  have hsm := h.small
  by_cases hp : headIn S l = true
  · cases l with
    | nil => cases hp
    | cons c l =>
      have ho : optO S (c :: l) = l := by unfold optO; rw [if_pos hp]; rfl
      have hmv := h.move (tail_suf c l) (((s.length - (c :: l).length : Nat) : Int) + 1) (by simp only [List.length_cons] at hle ⊢; omega)
      rw [ho, hp]
      rw [hp] at E
      have HM : Hid (Rd (w.setCell ⟨R, 2, none⟩ (.int .i64 (((s.length - (c :: l).length : Nat) : Int) + 1))) R s b l) := hmv
      have hAI : ((s.length - (c :: l).length : Nat) : Int) ≤ 16384 := by omega
      have hA0 : (0 : Int) ≤ ((s.length - (c :: l).length : Nat) : Int) := by omega
      clear hmv h hp ho
      generalize s.length - (c :: l).length = A at *
      go_enter Tryz.func82, Tryz.ntmps82
      go_wp2_with (go_at_call 84; refine E.mono ?_; rintro e w1 ⟨rfl, m, rfl⟩)
      go_ret
      exact ⟨rfl, HM.out.drewN _, by first | exact (Kp.own R 2 _).drewN _ | exact (Kp.n w _).trans (Kp.own R 2 _)⟩
  · have hp' : headIn S l = false := by simpa using hp
    have ho : optO S l = l := if_neg hp
    rw [ho, hp']
    rw [hp'] at E
    have HM : Hid (Rd w R s b l) := h
    clear h hp ho hp'
    go_enter Tryz.func82, Tryz.ntmps82
    go_wp2_with (go_at_call 84; refine E.mono ?_; rintro e w1 ⟨rfl, m, rfl⟩)
    go_ret
    exact ⟨rfl, HM.out.drewN _, (Kp.refl _ _).drewN _⟩

theorem byte_any (c : UInt8) (l : Bs) (w : World) (h : Rd w R s b (c :: l)) : Calls Tryz.prog 106 #[.pointer (some ⟨R, 0, none⟩)] w fun e w' => e = .returned (.int .u8 (c.toNat : Int)) ∧ Rd w' R s b l ∧ Kp (Own1 R) w w' := by
  have c0 := h.c0
  have c2 := h.c2
  have hf := h.free 2
  have hle := h.le
  have hsm := h.small
  obtain ⟨h1, _, h3⟩ := suf_facts h.suf
  have hg := suf_get h.suf
  have hmv := h.move (tail_suf c l) (((s.length - (c :: l).length : Nat) : Int) + 1) (by simp only [List.length_cons] at hle ⊢; omega)
  have HM : Hid (Rd (w.setCell ⟨R, 2, none⟩ (.int .i64 (((s.length - (c :: l).length : Nat) : Int) + 1))) R s b l) := hmv
  have hAI : ((s.length - (c :: l).length : Nat) : Int) ≤ 16384 := by omega
  have hlt : ((s.length - (c :: l).length : Nat) : Int) < s.length := by simp only [List.length_cons] at h3 hle ⊢; omega
  have hA0 : (0 : Int) ≤ ((s.length - (c :: l).length : Nat) : Int) := by omega
  clear hmv h
  generalize s.length - (c :: l).length = A at *
  generalize (ByteArray.mk s.toArray) = D at *
  have e1 : (A : Int) + 1 - 1 = A := by omega
  have hA : ((A : Nat) : Int).toNat = A := by omega
  go_enter Tryz.func106, Tryz.ntmps106
  go_wp2
  go_quiet (fail)
  go_wp2
  go_ret
  exact ⟨rfl, HM.out.drewN _, by first | exact (Kp.own R 2 _).drewN _ | exact (Kp.n w _).trans (Kp.own R 2 _)⟩

theorem fail_any (l : Bs) (x : Int) (w : World) (h : Rd w R s b l) : Calls Tryz.prog 51 #[.pointer (some ⟨R, 0, none⟩), .int .i64 x] w fun e w' => e = Dies b x ∧ w' = w := by
  have c1 := h.c1
  go_enter Tryz.func51, Tryz.ntmps51
  go_wp2
  exact ⟨rfl, rfl, rfl⟩
end
end Go.Proofs.YthficamlgngaaaaGreatDoor
