/- Operations and fragments. -/
import Derived.Test.YthficamlgngaaaaGreatDoorSyT0
import Derived.Test.YthficamlgngaaaaGreatDoorSyU
namespace Go.Proofs.YthficamlgngaaaaGreatDoor
open Go Go.RowKit
section
variable {R g cap : Nat} {T : List Tok} {a : Nat} {V P B : Nat} {cur : Array Value} {ty tp : TypeId}
attribute [local go_sem ↓] Go.wp_at_zero Go.wp_at_succ
set_option maxRecDepth 100000 in
set_option maxHeartbeats 40000000 in
theorem set1_item (pl : Pl R g V P B) (hi : 0 < cur.size) (st : List Tok → Rs (List (List CT))) (X : SelP R g cap T a st) : ItemR R g cap T false a 0 0 V P B cur ty tp 0 65 7 95 #[.pointer (some ⟨V, 0, none⟩), .pointer (some ⟨P, 0, none⟩)] (selS st) := by
  intro els l w lv xs D hj hn h hl
  obtain ⟨o, lc, rfl⟩ := hj.slice
  have XA := X w.drew l h.drew hl
  have XB := X (w.alloc zeroS).drew l (h.alloc _).drew hl
  have cV := hj.cell hi
  have fV := hj.free 0
  have cP := hj.ptr
  have HJ : Hid (Js R V P B cur ty tp 0 65 7 w els (.slice o els.length lc) xs D) := hj
  have HS : Hid (Sx R g cap T w l false a 0 0) := h
  have hsz := hj.size
  have aV := fun o => cell_on (al1 w o) cV
  have aP := fun o => cell_on (al1 w o) cP
  have hn2 : els.length ≤ 2049 := by omega
  have hi0 : (0 : Int) ≤ (els.length : Int) := by omega
  have hi1 : (els.length : Int) < (els.length : Int) + 1 := by omega
  obtain ⟨ti, hti, hy0, hy1, hy2⟩ := info_parts Tryz.infoSel
  clear X hj h
  go_enter Tryz.func95, Tryz.ntmps95
  go_wp2
  go_region_law (first
    | (refine step_append_lies _ (by rfl) (.tmp 2) (.tmp 6) 55 (by rfl) B 65 ti _ 7 128 Tryz.underlying55 hti hy0 hy1 hy2 rfl (by decide) (.slice o els.length lc) els.length xs (by rfl) (HO.out.alloc _) ⟨w1.heap.size, 0, none⟩ 1 1 zerosS (by rfl) rfl (World.news_of_block (heap_alloc_new _ _)) zerosS_one (by decide) (by unfold maxLen; omega) (by omega) (by simp; omega) (w1.heap.size + 1) (by simp) ?_; intro q cp w2 own2 hgr hor hlt2; obtain ⟨cV2, fV2, q0, q1, q2, q3, q4, q5, q6, fq, x1, x2⟩ := place7 cV1 fV1 pl.bV HO.out (al1 w1 _) hgr own2; have OW : Hid _ := own2; have GR : Hid _ := hgr; have OR : Hid _ := hor; clear own2 hgr hor)
    | (refine step_append_lies _ (by rfl) (.tmp 2) (.tmp 6) 55 (by rfl) B 65 ti _ 7 128 Tryz.underlying55 hti hy0 hy1 hy2 rfl (by decide) (.slice o els.length lc) els.length xs (by rfl) HO.out ⟨w.heap.size, 0, none⟩ 1 1 zerosS (by rfl) rfl (World.news_of_block bT) zerosS_one (by decide) (by unfold maxLen; omega) (by omega) (by omega) w1.heap.size rfl ?_; intro q cp w2 own2 hgr hor hlt2; obtain ⟨cV2, fV2, q0, q1, q2, q3, q4, q5, q6, fq, x1, x2⟩ := place7 cV1 fV1 pl.bV HO.out (Below.refl _ w1) hgr own2; have OW : Hid _ := own2; have GR : Hid _ := hgr; have OR : Hid _ := hor; clear own2 hgr hor)
    | (go_simp; go_wp2_with (first
        | (go_at_call 96; (with_reducible refine XA.mono ?_); rintro e w1 (⟨p, hq, rfl, k1⟩ | ⟨el, m, v, hq, rfl, ⟨kk, ta, tn, to, o1, n1, z1, o2, n2, z2, o3, n3, z3, rfl, hat⟩, h1, m1, k1⟩); (exact ⟨rfl, Or.inl ⟨p, hq, rfl, ((Kp.refl (Own1 R) w).drew).trans k1⟩⟩); have isA : True := trivial; obtain ⟨cV1, fV1, cP1, HO⟩ := js_facts HJ.out pl hi (((Kp.refl (Own1 R) w).drew).trans k1); have hz1 : w.heap.size ≤ w1.heap.size := k1.size; have K1 : Hid _ := k1; have AT : Hid _ := hat; have H1 : Hid _ := h1; have HQ : Hid _ := hq; clear k1 hat h1 hq; have aV1 := fun o => cell_on (al1 w1 o) cV1)
        | (go_at_call 96; (with_reducible refine XB.mono ?_); rintro e w1 (⟨p, hq, rfl, k1⟩ | ⟨el, m, v, hq, rfl, ⟨kk, ta, tn, to, o1, n1, z1, o2, n2, z2, o3, n3, z3, rfl, hat⟩, h1, m1, k1⟩); (exact ⟨rfl, Or.inl ⟨p, hq, rfl, (((Kp.refl (Own1 R) w).alloc _).drew).trans k1⟩⟩); have isB : True := trivial; obtain ⟨cV1, fV1, cP1, HO⟩ := js_facts HJ.out pl hi ((((Kp.refl (Own1 R) w).alloc _).drew).trans k1); have bT : w1.heap[w.heap.size]? = some (.cells #[.int .i64 0, .string ⟨#[]⟩, .string ⟨#[]⟩, .string ⟨#[]⟩, .slice none 0 0, .slice none 0 0, .slice none 0 0] 65 (0, 0)) := new_row (((Kp.refl (Own1 R) (w.alloc _)).drew).trans k1) (fun e => by have e' : w.heap.size = R := e; have := pl.bR; omega); have hz1 : w.heap.size + 1 ≤ w1.heap.size := (by have hz := k1.size; simpa using hz); have K1 : Hid _ := k1; have AT : Hid _ := hat; have H1 : Hid _ := h1; have HQ : Hid _ := hq; clear k1 hat h1 hq; have aV1 := fun o => cell_on (al1 w1 o) cV1)
        | fail))
    | fail)
  all_goals go_end0
  all_goals try rw [swap7 x2]
  all_goals first
    | (have _m := isA; have hA := fun w4 h4 => item_end7 (w4 := w4) HJ.out pl ((Kp.refl Non w).drew) K1.out AT.out ((Kp.refl Non w1).alloc _) GR.out (World.size_alloc _ _) OR.out OW.out HQ.out H1.out m1 (Or.inl h4); (with_reducible exact hA _ rfl))
    | (have _m := isB; have hA := fun w4 h4 => item_end7 (w4 := w4) HJ.out pl (((Kp.refl Non w).alloc _).drew) K1.out AT.out (Kp.refl Non w1) GR.out rfl OR.out OW.out HQ.out H1.out m1 (Or.inl h4); (with_reducible exact hA _ rfl))
    | fail
end
end Go.Proofs.YthficamlgngaaaaGreatDoor
namespace Go.Proofs.YthficamlgngaaaaGreatDoor
open Go Go.RowKit
section
variable {R g cap : Nat} {T : List Tok} {a : Nat}
theorem set_shut {w : World} {l : List Tok} {inner : Option (List Tok → Rs (List (List CT)))} (h : Sx R g cap T w l false a 0 0) (hl : l ≠ []) (hp : isP [123] l = false) : Calls Tryz.prog 58 #[.pointer (some ⟨R, 0, none⟩)] w (Out R g cap T w false a 0 0 (setG inner l) (RowV 65 7 w.heap.size)) := by
  have hS0 : Sx R g cap T (preA R 55 w) l false a 0 0 := (h.alloc _).alloc _
  have X := open0_shut [123] hS0 hl hp
  have HQ : Hid (setG inner l = .error (atT l, 60)) := by show _ = _; unfold setG; rw [if_neg (by rw [hp]; simp)]
  go_enter Tryz.func58, Tryz.ntmps58
  go_wp2_with (go_at_call 94; refine X.mono ?_; rintro e w1 ⟨rfl, k1⟩)
  exact ⟨rfl, Or.inl ⟨_, HQ.out, rfl, (((Kp.refl (Own1 R) w).alloc _).alloc _).trans k1⟩⟩
theorem set_deep {w : World} {l : List Tok} (h : Sx R g cap T w l false 32 0 0) (hl : l ≠ []) (hp : isP [123] l = true) : Calls Tryz.prog 58 #[.pointer (some ⟨R, 0, none⟩)] w (Out R g cap T w false 32 0 0 (setG none l) (RowV 65 7 w.heap.size)) := by
  have hS0 : Sx R g cap T (preA R 55 w) l false 32 0 0 := (h.alloc _).alloc _
  have X := open0_deep [123] hS0 hl hp
  have HQ : Hid (setG none l = .error (atT l, 61)) := by show _ = _; unfold setG; rw [if_pos hp]
  go_enter Tryz.func58, Tryz.ntmps58
  go_wp2_with (go_at_call 94; refine X.mono ?_; rintro e w1 ⟨rfl, k1⟩)
  exact ⟨rfl, Or.inl ⟨_, HQ.out, rfl, (((Kp.refl (Own1 R) w).alloc _).alloc _).trans k1⟩⟩
set_option maxRecDepth 100000 in
set_option maxHeartbeats 4000000 in
theorem set_inner {w : World} {l : List Tok} {st : List Tok → Rs (List (List CT))} (hst : Eats st) (ST : SetC R g cap T (a + 1) st) (ha : a < 32) (h : Sx R g cap T w l false a 0 0) (hl : l ≠ []) (hp : isP [123] l = true) : Calls Tryz.prog 58 #[.pointer (some ⟨R, 0, none⟩)] w (Out R g cap T w false a 0 0 (setG (some st) l) (RowV 65 7 w.heap.size)) := by
  have hmf : ∀ (fn : Fn) (first cap : Array Value) (w : World), (Instr.makeFunc fn first cap).run Tryz.prog w = .ok (.func fn first cap) w := fun _ _ _ _ => rfl
  have hR := h.ltR
  have hg := h.lt
  have pl := preA_pl hR hg
  have hS0 : Sx R g cap T (preA R 55 w) l false a 0 0 := (h.alloc _).alloc _
  have OP := open0_any [123] (by simp) hS0 hl hp ha
  have hE := selS_eats hst.keeps
  have HA : Hid _ := some_any 95 #[.pointer (some ⟨w.heap.size + 1, 0, none⟩), .pointer (some ⟨w.heap.size, 0, none⟩)] (fun _ _ => rfl) [125] (selS st) hE _ (Kp (Own1 R) w) (Jr.kp (cur := #[.slice none 0 0]) (ty := 55) (tp := 82) (i := 0) (E := 65) (sz := 7) (W0 := preA R 55 w) pl) (oneR_of (preA_size _ _ _).symm hE w (preA_kp R _ w) (set1_item pl (by decide) st (sel_any ST)))
  have HQ : Hid (setG (some st) l = someS (selS st) [125] l.tail) := by show _ = _; unfold setG; rw [if_pos hp]
  have haI : ((a : Nat) : Int) < 32 := by omega
  have haI0 : (0 : Int) ≤ ((a : Nat) : Int) := by omega
  clear ST hE
  go_enter Tryz.func58, Tryz.ntmps58
  go_wp2_with (first
    | (go_at_call 33; refine (HA.out [] _ _ (preA_start hR k1 h1 (Nat.le_refl _)) h1 n1).mono ?_; rintro e w2 (⟨p, hq, rfl, k2⟩ | ⟨ys, m, hq, rfl, ⟨⟨lv, xs, D, hj⟩, hlen, k2⟩, h2, n2⟩); (exact ⟨rfl, Or.inl ⟨p, HQ.out.trans hq, rfl, k2⟩⟩); obtain ⟨o, lc, rfl⟩ := hj.slice; have v0 := hj.cell (by decide); have p0 := hj.ptr; have r3 := h2.c3; have g3 := h2.free 3; have HJ : Hid _ := hj; have KR : Hid _ := preA_kp R _ w _ k2; have H2 : Hid _ := h2; have HQ2 : Hid _ := hq; clear hj h2 hq k2)
    | (go_at_call 94; refine OP.mono ?_; rintro e w1 ⟨rfl, h1, n1, k1⟩; have cP1 := (row1 (old_row (preA_P R _ w) k1 (fun e => by have e' : w.heap.size = R := e; omega))).1))
  go_region
  all_goals go_wp2
  all_goals go_ret
  have K3 : Kp (Own1 R) w2 (w2.setCell ⟨R, 3, none⟩ (.int .i64 (a : Int))).drew := (Kp.own R 3 _).drew
  exact Or.inr ⟨ys, m, _, HQ.out.trans HQ2.out, rfl, row_told (HJ.out.kp pl K3), (H2.out.set3 (a : Int) a rfl (by omega)).drew, n2 (by simp), KR.out.trans K3⟩
/-- A set, wherever the reader stands. -/
theorem set_all : ∀ (n a : Nat), a + n = 32 → SetC R g cap T a (setF n)
  | n, a, ha => by
    intro w l h hl
    cases hp : isP [123] l with
    | false => cases n <;> exact set_shut h hl hp
    | true =>
      cases n with
      | zero =>
        obtain rfl : a = 32 := by omega
        exact set_deep h hl hp
      | succ n => exact set_inner (setF_eats n) (set_all n (a + 1) (by omega)) (by omega) h hl hp
end
end Go.Proofs.YthficamlgngaaaaGreatDoor
namespace Go.Proofs.YthficamlgngaaaaGreatDoor
open Go Go.RowKit
section
variable {R g cap : Nat} {T : List Tok} {a : Nat}
abbrev IntV : Int → Value → World → Prop := fun k v _ => v = .int .i64 k
def OpV (lo : Nat) (cs : List CT) (v : Value) (w : World) : Prop := ∃ (k : Int) (t : ByteArray) (o1 : Option Addr) (n1 z1 : Nat) (o2 : Option Addr) (n2 z2 : Nat) (o3 : Option Addr) (n3 z3 : Nat), v = .agg #[.int .i64 k, .string t, .slice o1 n1 z1, .slice o2 n2 z2, .slice o3 n3 z3] ∧ Ats w (Iv lo w.heap.size) cs [.int .i64 k, .string t, .slice o1 n1 z1, .slice o2 n2 z2, .slice o3 n3 z3]
def FragV (lo : Nat) (cs : List CT) (v : Value) (w : World) : Prop := ∃ (t u : ByteArray) (o1 : Option Addr) (n1 z1 : Nat) (o2 : Option Addr) (n2 z2 : Nat), v = .agg #[.string t, .string u, .slice o1 n1 z1, .slice o2 n2 z2] ∧ Ats w (Iv lo w.heap.size) cs [.string t, .string u, .slice o1 n1 z1, .slice o2 n2 z2]
set_option maxRecDepth 100000 in
theorem opKind_any {w : World} {l : List Tok} (h : Sx R g cap T w l false a 0 0) (hl : l ≠ []) : Calls Tryz.prog 60 #[.pointer (some ⟨R, 0, none⟩)] w (Out R g cap T w false a 0 0 (kindS l) IntV) := by
  have A := ytakeW_any [113, 117, 101, 114, 121] h hl
  go_enter Tryz.func60, Tryz.ntmps60
  go_wp2_with (first
    | (go_at_call 89; refine (yfault_any _ h3 hl).mono ?_; rintro e w4 ⟨rfl, k4⟩)
    | (go_at_call 35; (with_reducible refine (ytakeW_any [115, 117, 98, 115, 99, 114, 105, 112, 116, 105, 111, 110] h2 hl).mono ?_); rintro e w3 (⟨hc, rfl, h3, k3⟩ | ⟨hc, rfl, h3, k3⟩))
    | (go_at_call 35; (with_reducible refine (ytakeW_any [109, 117, 116, 97, 116, 105, 111, 110] h1 hl).mono ?_); rintro e w2 (⟨hb, rfl, h2, k2⟩ | ⟨hb, rfl, h2, k2⟩))
    | (go_at_call 35; (with_reducible refine A.mono ?_); rintro e w1 (⟨hp, rfl, h1, k1⟩ | ⟨hp, rfl, h1, k1⟩)))
  · go_ret
    exact Or.inr ⟨0, l.tail, _, by simp only [kindS, hp, if_true], rfl, rfl, h1, h.nextW hp, k1⟩
  · go_ret
    exact Or.inr ⟨1, l.tail, _, by simp only [kindS, hp, hb, Bool.false_eq_true, if_false, if_true], rfl, rfl, h2, h.nextW hb, k1.trans k2⟩
  · go_ret
    exact Or.inr ⟨2, l.tail, _, by simp only [kindS, hp, hb, hc, Bool.false_eq_true, if_false, if_true], rfl, rfl, h3, h.nextW hc, (k1.trans k2).trans k3⟩
  · exact ⟨rfl, Or.inl ⟨(atT l, 60), by simp only [kindS, hp, hb, hc, Bool.false_eq_true, if_false], rfl, ((k1.trans k2).trans k3).trans k4.any⟩⟩
abbrev zO : Obj := .cells #[.int .i64 0, .string ⟨#[]⟩, .slice none 0 0, .slice none 0 0, .slice none 0 0] 61
theorem preO_X (w : World) : ((w.alloc zO).alloc zO).heap[w.heap.size]? = some (.cells #[.int .i64 0, .string ⟨#[]⟩, .slice none 0 0, .slice none 0 0, .slice none 0 0] 61 (0, 0)) :=
  old_row (heap_alloc_new w zO) ((Kp.refl Non _).alloc zO) (fun e => e)
theorem preO_Y (w : World) : ((w.alloc zO).alloc zO).heap[w.heap.size + 1]? = some (.cells #[.int .i64 0, .string ⟨#[]⟩, .slice none 0 0, .slice none 0 0, .slice none 0 0] 61 (0, 0)) := by
  have := heap_alloc_new (w.alloc zO) zO
  rw [World.size_alloc] at this
  exact this
abbrev zF : Obj := .cells #[.string ⟨#[]⟩, .string ⟨#[]⟩, .slice none 0 0, .slice none 0 0] 57
theorem preF_X (w : World) : ((w.alloc zF).alloc zF).heap[w.heap.size]? = some (.cells #[.string ⟨#[]⟩, .string ⟨#[]⟩, .slice none 0 0, .slice none 0 0] 57 (0, 0)) :=
  old_row (heap_alloc_new w zF) ((Kp.refl Non _).alloc zF) (fun e => e)
theorem preF_Y (w : World) : ((w.alloc zF).alloc zF).heap[w.heap.size + 1]? = some (.cells #[.string ⟨#[]⟩, .string ⟨#[]⟩, .slice none 0 0, .slice none 0 0] 57 (0, 0)) := by
  have := heap_alloc_new (w.alloc zF) zF
  rw [World.size_alloc] at this
  exact this
set_option maxRecDepth 100000 in
set_option maxHeartbeats 4000000 in
theorem op_short {w : World} {l : List Tok} (h : Sx R g cap T w l false 0 0 0) (hl : l ≠ []) (hp : isP [123] l = true) : Calls Tryz.prog 37 #[.pointer (some ⟨R, 0, none⟩)] w (Out R g cap T w false 0 0 0 (opS l) (OpV w.heap.size)) := by
  have hR := h.ltR
  have hg := h.lt
  have hS0 : Sx R g cap T ((w.alloc zO).alloc zO) l false 0 0 0 := (h.alloc _).alloc _
  have A := see_any [123] hS0 hl
  rw [hp] at A
  have ST : SetC R g cap T 0 (setF 32) := set_all 32 0 rfl
  go_enter Tryz.func37, Tryz.ntmps37
  go_wp2_with (first
    | (go_at_call 58; refine (ST _ _ (hS0.non k1) hl).mono ?_; rintro e w2 (⟨p, hq, rfl, k2⟩ | ⟨ss, l2, v, hq, rfl, ⟨⟨o2, i2, z2, rfl⟩, hv2⟩, h2, n2, k2⟩); (exact ⟨rfl, Or.inl ⟨p, by simp only [opS, hp, if_true, hq, go_error], rfl, (((Kp.refl (Own1 R) w).alloc _).alloc _).trans (k1.any.trans k2)⟩⟩); have bY1 := keepY hR (preO_Y w) k1.any; have hz1 := lt_of_block bY1; have bY2 := keepY hR bY1 k2; have bX2 := keepX hR (preO_X w) (k1.any.trans k2); have KW2 := (((Kp.refl (Own1 R) w).alloc zO).alloc zO).trans (k1.any.trans k2); obtain ⟨y0, y1, y2, y3, y4, yf⟩ := row5 bY2; obtain ⟨x0, x1, x2, x3, x4, xf⟩ := row5 bX2)
    | (go_at_call 59; refine A.mono ?_; rintro e w1 ⟨rfl, k1⟩))
  have KQ := own5 (w := w2.setCell ⟨w.heap.size + 1, 4, none⟩ (.slice o2 i2 z2)) w.heap.size (.int .i64 0) (.string ⟨#[]⟩) (.slice none 0 0) (.slice none 0 0) (.slice o2 i2 z2)
  have K2 : Kp (fun k => k < w.heap.size + 1 + 1) w2 _ := (((Kp.own (w.heap.size + 1) 4 (.slice o2 i2 z2))).low (by omega)).trans (KQ.low (by omega))
  refine bodyPost_ret (v := .agg #[.int .i64 0, .string ⟨#[]⟩, .slice none 0 0, .slice none 0 0, .slice o2 i2 z2]) (by simp [results, Tryz.results37, go_sem, x0, x1, x2, x3, x4]) rfl (Or.inr ⟨opC 0 [] [] [] ss, l2, _, by simp only [opS, hp, if_true, hq, go_ok], rfl, ⟨_, _, _, _, _, _, _, _, _, _, _, rfl, ?_⟩, (h2.setY hR hg 4 _).kp KQ (fun e => by have e' : R = w.heap.size := e; omega) (fun e => by have e' : g = w.heap.size := e; omega), n2, (KW2.setY 4 _).ret KQ (Nat.le_refl _)⟩)
  have u2 := hv2.later (lo' := w.heap.size) K2 (Nat.le_refl _) (fun k h1 h2 e => by omega) (by omega) K2.size
  exact ((((Ats.nil.cons u2).cons (.nil _ _)).cons (.nil _ _)).cons (.lf _)).cons (.lf _)
set_option maxRecDepth 100000 in
set_option maxHeartbeats 8000000 in
theorem op_long {w : World} {l : List Tok} (h : Sx R g cap T w l false 0 0 0) (hl : l ≠ []) (hp : isP [123] l = false) : Calls Tryz.prog 37 #[.pointer (some ⟨R, 0, none⟩)] w (Out R g cap T w false 0 0 0 (opS l) (OpV w.heap.size)) := by
  have hR := h.ltR
  have hg := h.lt
  have hS0 : Sx R g cap T ((w.alloc zO).alloc zO) l false 0 0 0 := (h.alloc _).alloc _
  have A := see_any [123] hS0 hl
  rw [hp] at A
  have ST : SetC R g cap T 0 (setF 32) := set_all 32 0 rfl
  have XV : ValP R g cap T false 0 0 0 32 := value_all 32 0 rfl
  go_enter Tryz.func37, Tryz.ntmps37
  go_wp2_with (first
    | (go_at_call 58; refine (ST _ _ (h6.setY hR hg 3 (.slice o6 i6 z6)) n6).mono ?_; rintro e w7 (⟨p, hq7, rfl, k7⟩ | ⟨ss, l7, v, hq7, rfl, ⟨⟨o7, i7, z7, rfl⟩, hv7⟩, h7, n7, k7⟩); (exact ⟨rfl, Or.inl ⟨p, by simp only [opS, hp, Bool.false_eq_true, if_false, hq2, go_ok, HN.out, hq5, hq6, hq7, go_error], rfl, (KW6.setY 3 _).trans k7⟩⟩); have bYp := heap_setCell_same _ (w.heap.size + 1) 3 _ _ (.slice o6 i6 z6) bY6; have hz7 := lt_of_block bYp; have bY7 := keepY hR bYp k7; have bX7 := keepX hR (xrow bX6 3 _) k7; have KW7 := (KW6.setY 3 _).trans k7; clear bYp; obtain ⟨y0, y1, y2, y3, y4, yf⟩ := row5 bY7; obtain ⟨x0, x1, x2, x3, x4, xf⟩ := row5 bX7)
    | (go_at_call 57; refine (dirs_any XV (h5.setY hR hg 2 (.slice o5 i5 z5)) n5).mono ?_; rintro e w6 (⟨p, hq6, rfl, k6⟩ | ⟨ds, l6, v, hq6, rfl, ⟨⟨o6, i6, z6, rfl⟩, hv6⟩, h6, n6, k6⟩); (exact ⟨rfl, Or.inl ⟨p, by simp only [opS, hp, Bool.false_eq_true, if_false, hq2, go_ok, HN.out, hq5, hq6, go_error], rfl, (KW5.setY 2 _).trans k6⟩⟩); have bYp := heap_setCell_same _ (w.heap.size + 1) 2 _ _ (.slice o5 i5 z5) bY5; have hz6 := lt_of_block bYp; have bY6 := keepY hR bYp k6; have bX6 := keepX hR (xrow bX5 2 _) k6; have KW6 := (KW5.setY 2 _).trans k6; clear bYp; obtain ⟨y0, y1, y2, y3, y4, yf⟩ := row5 bY6)
    | (go_at_call 62; first
        | (refine (vars_any (h4.setY hR hg 1 (.string ⟨x.toArray⟩)) n4).mono ?_; rintro e w5 (⟨p, hq5, rfl, k5⟩ | ⟨vs, l5, v, hq5, rfl, ⟨⟨o5, i5, z5, rfl⟩, hv5⟩, h5, n5, k5⟩); (exact ⟨rfl, Or.inl ⟨p, by simp only [opS, hp, Bool.false_eq_true, if_false, hq2, go_ok, titleS, hk, if_true, hq4, hq5, go_error], rfl, (KW4.setY 1 _).trans k5⟩⟩); have bYp := heap_setCell_same _ (w.heap.size + 1) 1 _ _ (.string ⟨x.toArray⟩) bY4; have hz5 := lt_of_block bYp; have bY5 := keepY hR bYp k5; have bX5 := keepX hR (xrow bX4 1 _) k5; have KW5 := (KW4.setY 1 _).trans k5; clear bYp; have HN : Hid (titleS l2 = .ok (x, l4)) := (by show _ = _; simp only [titleS, hk, if_true, hq4]); obtain ⟨y0, y1, y2, y3, y4, yf⟩ := row5 bY5)
        | (refine (vars_any S3 n2).mono ?_; rintro e w5 (⟨p, hq5, rfl, k5⟩ | ⟨vs, l5, v, hq5, rfl, ⟨⟨o5, i5, z5, rfl⟩, hv5⟩, h5, n5, k5⟩); (exact ⟨rfl, Or.inl ⟨p, by simp only [opS, hp, Bool.false_eq_true, if_false, hq2, go_ok, titleS, hk, hq5, go_error], rfl, KW3.trans k5⟩⟩); have hz5 := lt_of_block bY3; have bY5 := keepY hR bY3 k5; have bX5 := keepX hR bX3 k5; have KW5 := KW3.trans k5; have HN : Hid (titleS l2 = .ok ([], l2)) := (by show _ = _; simp only [titleS, hk, Bool.false_eq_true, if_false]); obtain ⟨y0, y1, y2, y3, y4, yf⟩ := row5 bY5))
    | (go_at_call 56; refine (name_any S3 n2).mono ?_; rintro e w4 (⟨p, hq4, rfl, k4⟩ | ⟨x, l4, v, hq4, rfl, rfl, h4, n4, k4⟩); (exact ⟨rfl, Or.inl ⟨p, by simp only [opS, hp, Bool.false_eq_true, if_false, hq2, go_ok, titleS, hk, if_true, hq4, go_error], rfl, KW3.trans k4⟩⟩); have bY4 := keepY hR bY3 k4; have bX4 := keepX hR bX3 k4; have KW4 := KW3.trans k4; obtain ⟨y0, y1, y2, y3, y4, yf⟩ := row5 bY4)
    | (go_at_call 61; have S2 := h2.setY hR hg 0 (.int .i64 kk); cases hk : isK 1 l2 <;> (have A2 := seeK_any 1 S2 n2; rw [hk] at A2; refine A2.mono ?_; rintro e w3 ⟨rfl, k3⟩; have S3 := S2.non k3; have bY3 := keepY hR (heap_setCell_same _ (w.heap.size + 1) 0 _ _ (.int .i64 kk) bY2) k3.any; have bX3 := keepX hR (xrow bX2 0 _) k3.any; have KW3 := (KW2.setY 0 _).trans k3.any; obtain ⟨y0, y1, y2, y3, y4, yf⟩ := row5 bY3))
    | (go_at_call 60; refine (opKind_any (hS0.non k1) hl).mono ?_; rintro e w2 (⟨p, hq2, rfl, k2⟩ | ⟨kk, l2, v, hq2, rfl, rfl, h2, n2, k2⟩); (exact ⟨rfl, Or.inl ⟨p, by simp only [opS, hp, Bool.false_eq_true, if_false, hq2, go_error], rfl, (((Kp.refl (Own1 R) w).alloc _).alloc _).trans (k1.any.trans k2)⟩⟩); have bY2 := keepY hR (preO_Y w) (k1.any.trans k2); have bX2 := keepX hR (preO_X w) (k1.any.trans k2); have KW2 := (((Kp.refl (Own1 R) w).alloc zO).alloc zO).trans (k1.any.trans k2); obtain ⟨y0, y1, y2, y3, y4, yf⟩ := row5 bY2)
    | (go_at_call 59; refine A.mono ?_; rintro e w1 ⟨rfl, k1⟩))
  · have KQ := own5 (w := w7.setCell ⟨w.heap.size + 1, 4, none⟩ (.slice o7 i7 z7)) w.heap.size (.int .i64 kk) (.string ⟨#[]⟩) (.slice o5 i5 z5) (.slice o6 i6 z6) (.slice o7 i7 z7)
    have K7 : Kp (fun k => k < w.heap.size + 1 + 1) w7 _ := (((Kp.own (w.heap.size + 1) 4 (.slice o7 i7 z7))).low (by omega)).trans (KQ.low (by omega))
    have K6 := ((Kp.refl (fun k => k < w.heap.size + 1 + 1) w6).lowset (w.heap.size + 1) 3 (.slice o6 i6 z6) (by omega)).trans ((k7.low (by omega)).trans K7)
    have K5 := ((Kp.refl (fun k => k < w.heap.size + 1 + 1) w5).lowset (w.heap.size + 1) 2 (.slice o5 i5 z5) (by omega)).trans ((k6.low (by omega)).trans K6)
    refine bodyPost_ret (v := .agg #[.int .i64 kk, .string ⟨#[]⟩, .slice o5 i5 z5, .slice o6 i6 z6, .slice o7 i7 z7]) (by simp [results, Tryz.results37, go_sem, x0, x1, x2, x3, x4]) rfl (Or.inr ⟨opC kk [] vs ds ss, l7, _, by simp only [opS, hp, Bool.false_eq_true, if_false, hq2, go_ok, HN.out, hq5, hq6, hq7], rfl, ⟨_, _, _, _, _, _, _, _, _, _, _, rfl, ?_⟩, (h7.setY hR hg 4 _).kp KQ (fun e => by have e' : R = w.heap.size := e; omega) (fun e => by have e' : g = w.heap.size := e; omega), n7, (KW7.setY 4 _).ret KQ (Nat.le_refl _)⟩)
    have u5 := hv5.later (lo' := w.heap.size) K5 (Nat.le_refl _) (fun k h1 h2 e => by omega) (by omega) K5.size
    have u6 := hv6.later (lo' := w.heap.size) K6 (Nat.le_refl _) (fun k h1 h2 e => by omega) (by omega) K6.size
    have u7 := hv7.later (lo' := w.heap.size) K7 (Nat.le_refl _) (fun k h1 h2 e => by omega) (by omega) K7.size
    exact ((((Ats.nil.cons u7).cons u6).cons u5).cons (.lf _)).cons (.lf _)
  · have KQ := own5 (w := w7.setCell ⟨w.heap.size + 1, 4, none⟩ (.slice o7 i7 z7)) w.heap.size (.int .i64 kk) (.string ⟨x.toArray⟩) (.slice o5 i5 z5) (.slice o6 i6 z6) (.slice o7 i7 z7)
    have K7 : Kp (fun k => k < w.heap.size + 1 + 1) w7 _ := (((Kp.own (w.heap.size + 1) 4 (.slice o7 i7 z7))).low (by omega)).trans (KQ.low (by omega))
    have K6 := ((Kp.refl (fun k => k < w.heap.size + 1 + 1) w6).lowset (w.heap.size + 1) 3 (.slice o6 i6 z6) (by omega)).trans ((k7.low (by omega)).trans K7)
    have K5 := ((Kp.refl (fun k => k < w.heap.size + 1 + 1) w5).lowset (w.heap.size + 1) 2 (.slice o5 i5 z5) (by omega)).trans ((k6.low (by omega)).trans K6)
    refine bodyPost_ret (v := .agg #[.int .i64 kk, .string ⟨x.toArray⟩, .slice o5 i5 z5, .slice o6 i6 z6, .slice o7 i7 z7]) (by simp [results, Tryz.results37, go_sem, x0, x1, x2, x3, x4]) rfl (Or.inr ⟨opC kk x vs ds ss, l7, _, by simp only [opS, hp, Bool.false_eq_true, if_false, hq2, go_ok, HN.out, hq5, hq6, hq7], rfl, ⟨_, _, _, _, _, _, _, _, _, _, _, rfl, ?_⟩, (h7.setY hR hg 4 _).kp KQ (fun e => by have e' : R = w.heap.size := e; omega) (fun e => by have e' : g = w.heap.size := e; omega), n7, (KW7.setY 4 _).ret KQ (Nat.le_refl _)⟩)
    have u5 := hv5.later (lo' := w.heap.size) K5 (Nat.le_refl _) (fun k h1 h2 e => by omega) (by omega) K5.size
    have u6 := hv6.later (lo' := w.heap.size) K6 (Nat.le_refl _) (fun k h1 h2 e => by omega) (by omega) K6.size
    have u7 := hv7.later (lo' := w.heap.size) K7 (Nat.le_refl _) (fun k h1 h2 e => by omega) (by omega) K7.size
    exact ((((Ats.nil.cons u7).cons u6).cons u5).cons (.lf _)).cons (.lf _)
theorem op_any {w : World} {l : List Tok} (h : Sx R g cap T w l false 0 0 0) (hl : l ≠ []) : Calls Tryz.prog 37 #[.pointer (some ⟨R, 0, none⟩)] w (Out R g cap T w false 0 0 0 (opS l) (OpV w.heap.size)) := by
  cases hp : isP [123] l with
  | true => exact op_short h hl hp
  | false => exact op_long h hl hp
set_option maxRecDepth 100000 in
set_option maxHeartbeats 8000000 in
theorem frag_any {w : World} {l : List Tok} (h : Sx R g cap T w l false 0 0 0) (hl : l ≠ []) : Calls Tryz.prog 36 #[.pointer (some ⟨R, 0, none⟩)] w (Out R g cap T w false 0 0 0 (fragS l) (FragV w.heap.size)) := by
  have hR := h.ltR
  have hg := h.lt
  have hS0 : Sx R g cap T ((w.alloc zF).alloc zF) l false 0 0 0 := (h.alloc _).alloc _
  have A := seeW_any onB hS0 hl
  have ST : SetC R g cap T 0 (setF 32) := set_all 32 0 rfl
  have XV : ValP R g cap T false 0 0 0 32 := value_all 32 0 rfl
  cases hp : isW onB l with
  | true =>
    rw [hp] at A
    go_enter Tryz.func36, Tryz.ntmps36
    go_wp2_with (first
      | (go_at_call 55; refine (need_dies (hS0.non k1) hl).mono ?_; rintro e w2 ⟨rfl, k2⟩)
      | (go_at_call 54; refine A.mono ?_; rintro e w1 ⟨rfl, k1⟩))
    exact ⟨rfl, Or.inl ⟨(atT l, 60), by simp only [fragS, notOn, hp, if_true, go_error], rfl, (((Kp.refl (Own1 R) w).alloc _).alloc _).trans (k1.trans k2).any⟩⟩
  | false =>
    rw [hp] at A
    go_enter Tryz.func36, Tryz.ntmps36
    go_wp2_with (first
      | (go_at_call 58; refine (ST _ _ (h5.setY hR hg 2 (.slice o5 i5 z5)) n5).mono ?_; rintro e w6 (⟨p, hq6, rfl, k6⟩ | ⟨ss, l6, v, hq6, rfl, ⟨⟨o6, i6, z6, rfl⟩, hv6⟩, h6, n6, k6⟩); (exact ⟨rfl, Or.inl ⟨p, by simp only [fragS, notOn, hp, Bool.false_eq_true, if_false, go_ok, hq2, mustW, hb, if_true, hq4, hq5, hq6, go_error], rfl, (KW5.setY 2 _).trans k6⟩⟩); have bYp := heap_setCell_same _ (w.heap.size + 1) 2 _ _ (.slice o5 i5 z5) bY5; have hz6 := lt_of_block bYp; have bY6 := keepY hR bYp k6; have bX6 := keepX hR (xrow bX5 2 _) k6; have KW6 := (KW5.setY 2 _).trans k6; clear bYp; obtain ⟨y0, y1, y2, y3, yf⟩ := row4 bY6; obtain ⟨x0, x1, x2, x3, xf⟩ := row4 bX6)
      | (go_at_call 57; refine (dirs_any XV (h4.setY hR hg 1 (.string ⟨u.toArray⟩)) n4).mono ?_; rintro e w5 (⟨p, hq5, rfl, k5⟩ | ⟨ds, l5, v, hq5, rfl, ⟨⟨o5, i5, z5, rfl⟩, hv5⟩, h5, n5, k5⟩); (exact ⟨rfl, Or.inl ⟨p, by simp only [fragS, notOn, hp, Bool.false_eq_true, if_false, go_ok, hq2, mustW, hb, if_true, hq4, hq5, go_error], rfl, (KW4.setY 1 _).trans k5⟩⟩); have bYp := heap_setCell_same _ (w.heap.size + 1) 1 _ _ (.string ⟨u.toArray⟩) bY4; have hz5 := lt_of_block bYp; have bY5 := keepY hR bYp k5; have bX5 := keepX hR (xrow bX4 1 _) k5; have KW5 := (KW4.setY 1 _).trans k5; clear bYp; obtain ⟨y0, y1, y2, y3, yf⟩ := row4 bY5)
      | (go_at_call 56; (with_reducible refine (name_any h3 (h2.nextW hb)).mono ?_); rintro e w4 (⟨p, hq4, rfl, k4⟩ | ⟨u, l4, v, hq4, rfl, rfl, h4, n4, k4⟩); (exact ⟨rfl, Or.inl ⟨p, by simp only [fragS, notOn, hp, Bool.false_eq_true, if_false, go_ok, hq2, mustW, hb, if_true, hq4, go_error], rfl, KW3.trans k4⟩⟩); have bY4 := keepY hR bY3 k4; have bX4 := keepX hR bX3 k4; have KW4 := KW3.trans k4; obtain ⟨y0, y1, y2, y3, yf⟩ := row4 bY4)
      | (go_at_call 55; first
          | ((with_reducible refine (need_dies h3 n2).mono ?_); rintro e w3' ⟨rfl, k3'⟩; (exact ⟨rfl, Or.inl ⟨(atT l2, 60), by simp only [fragS, notOn, hp, Bool.false_eq_true, if_false, go_ok, hq2, mustW, hb, go_error], rfl, KW3.trans k3'.any⟩⟩))
          | ((with_reducible refine (yneed_yes _).mono ?_); rintro e w1' ⟨rfl, rfl⟩))
      | (go_at_call 35; refine (ytakeW_any onB (h2.setY hR hg 0 (.string ⟨x.toArray⟩)) n2).mono ?_; (rintro e w3 (⟨hb, rfl, h3, k3⟩ | ⟨hb, rfl, h3, k3⟩) <;> (have bY3 := keepY hR (heap_setCell_same _ (w.heap.size + 1) 0 _ _ (.string ⟨x.toArray⟩) bY2) k3; have bX3 := keepX hR (xrow bX2 0 _) k3; have KW3 := (KW2.setY 0 _).trans k3)))
      | (go_at_call 56; (with_reducible refine (name_any (hS0.non k1) hl).mono ?_); rintro e w2 (⟨p, hq2, rfl, k2⟩ | ⟨x, l2, v, hq2, rfl, rfl, h2, n2, k2⟩); (exact ⟨rfl, Or.inl ⟨p, by simp only [fragS, notOn, hp, Bool.false_eq_true, if_false, go_ok, hq2, go_error], rfl, (((Kp.refl (Own1 R) w).alloc _).alloc _).trans (k1.any.trans k2)⟩⟩); have bY2 := keepY hR (preF_Y w) (k1.any.trans k2); have bX2 := keepX hR (preF_X w) (k1.any.trans k2); have KW2 := (((Kp.refl (Own1 R) w).alloc zF).alloc zF).trans (k1.any.trans k2); obtain ⟨y0, y1, y2, y3, yf⟩ := row4 bY2)
      | (go_at_call 54; refine A.mono ?_; rintro e w1 ⟨rfl, k1⟩))
    have KQ := own4 (w := w6.setCell ⟨w.heap.size + 1, 3, none⟩ (.slice o6 i6 z6)) w.heap.size (.string ⟨x.toArray⟩) (.string ⟨u.toArray⟩) (.slice o5 i5 z5) (.slice o6 i6 z6)
    have K6 : Kp (fun k => k < w.heap.size + 1 + 1) w6 _ := (((Kp.own (w.heap.size + 1) 3 (.slice o6 i6 z6))).low (by omega)).trans (KQ.low (by omega))
    have K5 := ((Kp.refl (fun k => k < w.heap.size + 1 + 1) w5).lowset (w.heap.size + 1) 2 (.slice o5 i5 z5) (by omega)).trans ((k6.low (by omega)).trans K6)
    refine bodyPost_ret (v := .agg #[.string ⟨x.toArray⟩, .string ⟨u.toArray⟩, .slice o5 i5 z5, .slice o6 i6 z6]) (by simp [results, Tryz.results36, go_sem, x0, x1, x2, x3]) rfl (Or.inr ⟨fragC x u ds ss, l6, _, by simp only [fragS, notOn, hp, Bool.false_eq_true, if_false, go_ok, hq2, mustW, hb, if_true, hq4, hq5, hq6], rfl, ⟨_, _, _, _, _, _, _, _, rfl, ?_⟩, (h6.setY hR hg 3 _).kp KQ (fun e => by have e' : R = w.heap.size := e; omega) (fun e => by have e' : g = w.heap.size := e; omega), n6, (KW6.setY 3 _).ret KQ (Nat.le_refl _)⟩)
    have u5 := hv5.later (lo' := w.heap.size) K5 (Nat.le_refl _) (fun k h1 h2 e => by omega) (by omega) K5.size
    have u6 := hv6.later (lo' := w.heap.size) K6 (Nat.le_refl _) (fun k h1 h2 e => by omega) (by omega) K6.size
    exact (((Ats.nil.cons u6).cons u5).cons (.lf _)).cons (.lf _)
end
end Go.Proofs.YthficamlgngaaaaGreatDoor
