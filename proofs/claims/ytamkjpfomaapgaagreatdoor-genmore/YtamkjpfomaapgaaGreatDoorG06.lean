/- The roots: what is asked. -/
import Derived.Test.YtamkjpfomaapgaaGreatDoorG02
namespace Go.Proofs.YtamkjpfomaapgaaGreatDoor
open Go Go.RowKit Go.Shelf
set_option maxRecDepth 100000 in
set_option maxHeartbeats 2000000 in
theorem gmanyB_any (a : ByteArray) (t : Bs) (ht : t.length ≤ 1000) (w : World) : Calls Tryz.prog 73 #[.string a, .string ⟨t.toArray⟩] w fun e w' => ∃ g, e = .returned (.agg #[.string a, .string ⟨t.toArray⟩, .string ⟨#[33, 91, 33]⟩, .slice (some ⟨g, 0, none⟩) 4 4]) ∧ InR w' w.heap.size (.slice (some ⟨g, 0, none⟩) 4 4) (argT t) ∧ Below w.heap.size w w' := by
  have h6 : ¬ (9223372036854775807 < t.length + 6) := by omega
  have h5 : ¬ (9223372036854775807 < t.length + 5) := by omega
  have D0 : Below (w.alloc outZ).heap.size (w.alloc outZ) (w.alloc outZ) := Below.refl _ _
  clear ht
  go_enter Tryz.func73, Tryz.ntmps73
  go_wp2_with (first
    | (go_at_call 66; (with_reducible refine (gin_any _ _ _ _).mono ?_); rintro e x1 ⟨rfl, b1⟩; replace D0 := D0.trans (b1.mono D0.size); clear b1)
    | (go_at_call 34; (with_reducible refine (gout_any _ _ _ _ _ _ _).mono ?_); rintro e x6 ⟨rfl, b6⟩; have D6 := (D0.alloc D0.size _).trans (b6.mono (D0.alloc D0.size _).size); obtain ⟨c0, c1, c2, c3, cf⟩ := row4 (new_on D6))
    | fail)
  have hz := D0.size
  rw [World.size_alloc] at hz
  have A := arg_row (B := w.heap.size) (by omega) (new_on b6)
  exact bodyPost_ret (v := .agg #[.string a, .string ⟨t.toArray⟩, .string ⟨#[33, 91, 33]⟩, .slice (some ⟨x1.heap.size, 0, none⟩) 4 4]) (by simp [results, Tryz.results73, go_sem, c0, c1, c2, c3]) rfl ⟨x1.heap.size, rfl, A.kp (kp4 _ _ _ _ _ _) (new_on D6) (by decide), bel_kp ((al1 w _).trans (D6.mono (al1 w _).size)) (Nat.le_refl _) (kp4 _ _ _ _ _ _)⟩
theorem row_slc {α : Type} {f : α → List Value} {sz : Nat} {w : World} {B E : Nat} {v : Value} {l : List α} (h : RowO w B E sz f v l) : ∃ p n m, v = .slice p n m := by
  obtain ⟨p, m, e⟩ := h.slice
  exact ⟨p, _, m, e⟩
theorem RowO.pushL {α : Type} {f : α → List Value} {sz : Nat} {w : World} {B E n : Nat} {v : Value} {l m : List α} {xs : List Value} (h : w.ownsRow B E sz v n (l.flatMap f ++ xs)) (hn : n = l.length + m.length) (hx : m.flatMap f = xs) : RowO w B E sz f v (l ++ m) := by
  subst hn
  subst hx
  unfold RowO
  rw [List.length_append, List.flatMap_append]
  exact h
theorem flat_step {α β : Type} {l : List α} {j : Nat} {x : α} {f : α → List β} (h : l[j]? = some x) : (l.take (j + 1)).flatMap f = (l.take j).flatMap f ++ f x := by
  rw [take_step h, List.flatMap_append, List.flatMap_singleton]
theorem flat_lenK {α β : Type} {f : α → List β} {k : Nat} (hf : ∀ x, (f x).length = k) (l : List α) : (l.flatMap f).length = l.length * k := by
  induction l with
  | nil => simp
  | cons x l ih => rw [List.flatMap_cons, List.length_append, ih, hf, List.length_cons, Nat.add_mul]; omega
abbrev obO (n : Bs) (a : Option Addr) (k c : Nat) : Obj := .cells #[.string ⟨n.toArray⟩, .slice a k c] 54
abbrev schO (ov ev : Value) : Obj := .cells #[ov, ev] 25
def qO (o : Ob) : List Ot := [⟨[103, 101, 116] ++ o.n, o.n, [], [⟨nId, cID, wMust⟩]⟩, ⟨[113, 117, 101, 114, 121] ++ o.n, o.n, wAll, argT o.n⟩]
theorem row_id {X : World} {B g : Nat} (hB : B ≤ g) (h : X.heap[g]? = some (.cells #[.string ⟨#[105, 100]⟩, .string ⟨#[73, 68]⟩, .string ⟨#[33]⟩] 39)) : InR X B (.slice (some ⟨g, 0, none⟩) 1 1) [⟨nId, cID, wMust⟩] :=
  RowO.lit (fun _ => rfl) hB h (by simp [List.flatMap_cons]) rfl (by decide)
/-- The roots' own blocks: the schema, the result. -/
theorem root_new (w : World) (ov ev : Value) : ((w.alloc (schO ov ev)).alloc defZ).heap[w.heap.size]? = some (schO ov ev) ∧ ((w.alloc (schO ov ev)).alloc defZ).heap[w.heap.size + 1]? = some defZ := ⟨((al1 _ _).block _ (by simp)).trans (heap_alloc_new w _), new2 w _ _⟩
section
variable {w : World} {ov ev : Value} {s : Sch}
set_option maxRecDepth 100000 in
set_option maxHeartbeats 20000000 in
theorem gquery_any (h : SchAt w ov ev s) (hn : ∀ o ∈ s.os, o.n.length ≤ 1000) (hl : s.os.length ≤ 8) : Calls Tryz.prog 30 #[.agg #[ov, ev]] w fun e w' => ∃ v, e = .returned (.agg #[.string ⟨#[81, 117, 101, 114, 121]⟩, .int .i64 2, .slice none 0 0, v, .slice none 0 0]) ∧ OtR w' w.heap.size v (s.os.flatMap qO) ∧ Below w.heap.size w w' := by
  obtain ⟨ti, hti, hy0, hy1, hy2⟩ := info_parts Tryz.infoOut
  have hos := h.os
  obtain ⟨a, c, rfl, _, _⟩ := h.os.slice
  obtain ⟨a', c', rfl, _, _⟩ := h.es.slice
  obtain ⟨W0, hW0⟩ : ∃ W0, W0 = (w.alloc (schO (.slice a s.os.length c) (.slice a' s.es.length c'))).alloc defZ := ⟨_, rfl⟩
  have A0 : Below w.heap.size w W0 := by rw [hW0]; exact al2 w _ _
  obtain ⟨N1, N2⟩ := root_new w (.slice a s.os.length c) (.slice a' s.es.length c')
  rw [← hW0] at N1 N2
  have HW : Hid (W0 = (w.alloc (schO (.slice a s.os.length c) (.slice a' s.es.length c'))).alloc defZ) := hW0
  have L0 : W0.heap.size = w.heap.size + 2 := by rw [hW0, World.size_alloc, World.size_alloc]
  have LW : Hid (w.heap.size + 2 ≤ W0.heap.size) := Nat.le_of_eq L0.symm
  clear hW0 L0 h
  go_enter Tryz.func30, Tryz.ntmps30
  go_wp2
  rw [← HW.out]
  go_loopw [3, 9] (fun lz iv wr => ∃ (lv : Value) (j : Nat) (ll : List (Ot × Value)), lv = lz ∧ iv = .int .i64 (j : Int) ∧ j ≤ s.os.length ∧ RowO wr W0.heap.size 41 4 outC lv ll ∧ ll.map (·.1) = (s.os.take j).flatMap qO ∧ (∀ p ∈ ll, InR wr W0.heap.size p.2 p.1.ar) ∧ Gt W0.heap.size 41 W0 wr) (fun _ iv _ => s.os.length - (RowKit.intOf iv).toNat)
  case atStart => exact ⟨_, 0, [], rfl, rfl, Nat.zero_le _, RowO.none, rfl, (fun p hp => absurd hp List.not_mem_nil), Gt.refl _ _ _⟩
  case round =>
    obtain ⟨lv, j, ll, rfl, rfl, hj, hrow, hdn, hin, hg⟩ := hrel
    have hdl : ll.length ≤ 2 * j := by
      have e := congrArg List.length hdn
      rw [List.length_map, flat_lenK (k := 2) (fun _ => rfl), List.length_take] at e
      omega
    have hbr : Below w.heap.size w wr := A0.trans ((hg.below (Nat.le_refl _)).mono A0.size)
    have HI : Hid (∀ p ∈ ll, InR wr W0.heap.size p.2 p.1.ar) := hin
    by_cases hlt : j < s.os.length
    · obtain ⟨x, hx⟩ : ∃ x, s.os[j]? = some x := ⟨_, List.getElem?_eq_getElem hlt⟩
      have hxn := hn x (List.mem_of_getElem? hx)
      obtain ⟨b, o, c0, a1, c1, hv, hbl, _, e0, e1, hfs⟩ := ob_cells hos hx
      cases hv
      have f0 := cell_on hbr e0
      have f1 := cell_on hbr e1
      have l1 : ((j : Nat) : Int) < (s.os.length : Int) := by omega
      have hjN : ((j : Nat) : Int).toNat = j := by omega
      have HK : Hid (j + 1 ≤ s.os.length) := hlt
      have HD : Hid (ll.map (·.1) ++ qO x = (s.os.take (j + 1)).flatMap qO) := by
        show _ = _
        rw [flat_step hx, hdn]
      obtain ⟨lo, lc, rfl⟩ := hrow.slice
      have hlen : ll.length ≤ 16 := by omega
      have hzB := hg.size
      obtain ⟨xn, xf⟩ := x
      simp only at f0 f1 hxn
      clear hx hlt hdn e0 e1 hin hfs hn
      have h3 : ¬ (9223372036854775807 < 3 + xn.length) := by omega
      have h5 : ¬ (9223372036854775807 < 5 + xn.length) := by omega
      have MA := fun W => gmanyB_any (⟨#[113, 117, 101, 114, 121]⟩ ++ ⟨xn.toArray⟩) xn hxn W
      have HG : Hid (Gt W0.heap.size 41 W0 wr) := hg
      obtain ⟨W1, hW1⟩ : ∃ W1, W1 = wr.alloc (obO xn a1 xf.length c1) := ⟨_, rfl⟩
      have N9 : W1.heap[wr.heap.size]? = some (obO xn a1 xf.length c1) := by rw [hW1]; exact heap_alloc_new wr _
      have A1 : Below wr.heap.size wr W1 := by rw [hW1]; exact al1 wr _
      have c9 := (row2 N9).1
      have nx : ∀ {X Y : World}, Below W1.heap.size W1 X → Below X.heap.size X Y → Below W1.heap.size W1 Y := fun p q => p.trans (q.mono p.size)
      have al : ∀ {X : World} {o : Obj}, Below W1.heap.size W1 X → Below W1.heap.size W1 (X.alloc o) := fun p => p.alloc p.size _
      have DW : Below W1.heap.size W1 W1.drew := bel_dr (Below.refl _ _)
      go_wp2
      rw [← hW1]
      clear hW1
      go_region_held3 (fun w' => w'.cell? ⟨wr.heap.size, 0, none⟩ = some (.string ⟨xn.toArray⟩)) (first | exact c10 | exact cell_on D c9 | exact cell_on (al D) c9 | exact cell_on DW c9) ((first
        | (go_at_call 66; (with_reducible refine (gin_any _ _ _ _).mono ?_); rintro e y1 ⟨rfl, b1⟩; have D := nx DW b1; clear b1)
        | (go_at_call 34; (with_reducible refine (gout_any _ _ _ _ _ _ _).mono ?_); rintro e y2 ⟨rfl, b2⟩; have I1 := row_id D.size (new_on b2); replace D := nx (al D) b2; clear b2)
        | (go_at_call 73; (with_reducible refine (MA _).mono ?_); rintro e y3 ⟨g3, rfl, I3, b3⟩; replace I1 := RowO.on I1 b3; replace I3 := RowO.base I3 D.size; replace D := nx D b3; clear b3)
        | (refine step_append_lies _ (by rfl) (.tmp 13) (.tmp 28) 32 (by rfl) W0.heap.size 41 ti _ 4 72 Tryz.underlying32 hti hy0 hy1 hy2 rfl (by decide) (.slice lo ll.length lc) ll.length (ll.flatMap outC) (by rfl) ((RowO.on (RowO.on hrow A1) D).on (al1 _ _)) ⟨y3.heap.size, 0, none⟩ 2 2 [.string (⟨#[103, 101, 116]⟩ ++ ⟨xn.toArray⟩), .string ⟨xn.toArray⟩, .string ⟨#[]⟩, .slice (some ⟨y1.heap.size, 0, none⟩) 1 1, .string (⟨#[113, 117, 101, 114, 121]⟩ ++ ⟨xn.toArray⟩), .string ⟨xn.toArray⟩, .string ⟨#[33, 91, 33]⟩, .slice (some ⟨g3, 0, none⟩) 4 4] (by rfl) rfl (World.news_of_block (heap_alloc_new y3 _)) (by intro u hu; simp at hu; rcases hu with rfl | rfl | rfl | rfl | rfl | rfl | rfl | rfl <;> rfl) (by decide) (by unfold maxLen; omega) (by omega) (Nat.le_trans hzB (Nat.le_trans A1.size (al D).size)) _ rfl ?_; intro g8 cp8 w8 own8 gr8 hor8 hlt8; have G8 := gt_grown ((RowO.on (RowO.on hrow A1) D).on (al1 y3 _)) gr8; have c10 := (row2 (G8.block _ _ (((al D).block _ (lt_of_block N9)).trans N9) (Or.inr (by simp)))).1; have O8 : Hid (w8.ownsRow W0.heap.size 41 4 (.slice (some ⟨g8, 0, none⟩) (ll.length + 2) cp8) (ll.length + 2) (ll.flatMap outC ++ [.string (⟨#[103, 101, 116]⟩ ++ ⟨xn.toArray⟩), .string ⟨xn.toArray⟩, .string ⟨#[]⟩, .slice (some ⟨y1.heap.size, 0, none⟩) 1 1, .string (⟨#[113, 117, 101, 114, 121]⟩ ++ ⟨xn.toArray⟩), .string ⟨xn.toArray⟩, .string ⟨#[33, 91, 33]⟩, .slice (some ⟨g3, 0, none⟩) 4 4])) := own8; clear own8 gr8 hor8 hlt8)))
      go_wp2
      have hz1 : W0.heap.size ≤ W1.heap.size := Nat.le_trans hzB A1.size
      refine ⟨⟨_, j + 1, ll ++ [(⟨[103, 101, 116] ++ xn, xn, [], [⟨nId, cID, wMust⟩]⟩, .slice (some ⟨y1.heap.size, 0, none⟩) 1 1), (⟨[113, 117, 101, 114, 121] ++ xn, xn, wAll, argT xn⟩, .slice (some ⟨g3, 0, none⟩) 4 4)], rfl, by simp, HK.out, RowO.pushL O8.out rfl ?_, by rw [List.map_append]; exact HD.out, ?_, (((HG.out.trans (gt_of A1)).trans (gt_of D)).trans (gt_of (al1 _ _))).trans G8⟩, ?_⟩
      · show [Value.string ⟨([103, 101, 116] ++ xn).toArray⟩, .string ⟨xn.toArray⟩, .string ⟨#[]⟩, .slice (some ⟨y1.heap.size, 0, none⟩) 1 1, .string ⟨([113, 117, 101, 114, 121] ++ xn).toArray⟩, .string ⟨xn.toArray⟩, .string ⟨#[33, 91, 33]⟩, .slice (some ⟨g3, 0, none⟩) 4 4] = _
        rw [← bytes_add, ← bytes_add]
      · intro p hp
        rcases List.mem_append.1 hp with hp | hp
        · exact ((((HI.out p hp).on A1).on D).on (al1 _ _)).gt G8 (by decide)
        · simp only [List.mem_cons, List.not_mem_nil, or_false] at hp
          rcases hp with rfl | rfl
          · exact ((RowO.base I1 hz1).on (al1 _ _)).gt G8 (by decide)
          · exact ((RowO.base I3 hz1).on (al1 _ _)).gt G8 (by decide)
      · have := HK.out
        simp [RowKit.intOf]
        omega
    · have l2 : decide (((j : Nat) : Int) < (s.os.length : Int)) = false := by simp; omega
      have l3 : decide (j < s.os.length) = false := by simp; omega
      have hje : j = s.os.length := by omega
      have HS : Hid (ll.map (·.1) = s.os.flatMap qO) := by
        show _ = _
        rw [hdn, hje, List.take_length]
      have N2r := hg.block _ _ N2 (Or.inl (by have := LW.out; omega))
      obtain ⟨p9, n9, m9, rfl⟩ := row_slc hrow
      clear hje hlt hdn hdl hj hin
      go_wp2_with (first
        | (go_at_call 59; (with_reducible refine (gouts_any _ _ _ _ _).mono ?_); rintro e x6 ⟨rfl, b6⟩; have N6 := (b6.block _ (lt_of_block N2r)).trans N2r; obtain ⟨c0, c1, c2, c3, c4, cf⟩ := row5 N6)
        | fail)
      have B6 := hbr.trans (b6.mono hbr.size)
      refine bodyPost_ret (v := .agg #[.string ⟨#[81, 117, 101, 114, 121]⟩, .int .i64 2, .slice none 0 0, .slice p9 n9 m9, .slice none 0 0]) (by simp [results, Tryz.results30, go_sem, c0, c1, c2, c3, c4]) rfl ⟨_, rfl, ⟨ll, HS.out, ((RowO.on hrow b6).base A0.size).kp (kp5 _ _ _ _ _ _ _) N6 (by decide), fun p hp => ((RowO.on (HI.out p hp) b6).base A0.size).kp (kp5 _ _ _ _ _ _ _) N6 (by decide)⟩, bel_kp B6 (by omega) (kp5 _ _ _ _ _ _ _)⟩
end
def mO (o : Ob) : List Ot := [⟨[97, 100, 100] ++ o.n, o.n, wAll, [⟨[105, 110, 112, 117, 116], cAdd ++ o.n, wAll⟩]⟩, ⟨[117, 112, 100, 97, 116, 101] ++ o.n, o.n, wAll, [⟨[102, 105, 108, 116, 101, 114], o.n ++ cFilter, wMust⟩, ⟨[115, 101, 116], cPatch ++ o.n, wMust⟩]⟩, ⟨[100, 101, 108, 101, 116, 101] ++ o.n, intB, wMust, [⟨[102, 105, 108, 116, 101, 114], o.n ++ cFilter, wMust⟩]⟩]
abbrev o28 (xn : Bs) : Obj := .cells #[.string ⟨#[105, 110, 112, 117, 116]⟩, .string (⟨#[65, 100, 100]⟩ ++ ⟨xn.toArray⟩), .string ⟨#[33, 91, 33]⟩] 39
abbrev o40 (xn : Bs) : Obj := .cells #[.string ⟨#[102, 105, 108, 116, 101, 114]⟩, .string (⟨xn.toArray⟩ ++ ⟨#[70, 105, 108, 116, 101, 114]⟩), .string ⟨#[33]⟩, .string ⟨#[115, 101, 116]⟩, .string (⟨#[80, 97, 116, 99, 104]⟩ ++ ⟨xn.toArray⟩), .string ⟨#[33]⟩] 39
abbrev o46 (xn : Bs) : Obj := .cells #[.string ⟨#[102, 105, 108, 116, 101, 114]⟩, .string (⟨xn.toArray⟩ ++ ⟨#[70, 105, 108, 116, 101, 114]⟩), .string ⟨#[33]⟩] 39
theorem row28 {X : World} {xn : Bs} {B g : Nat} (hB : B ≤ g) (h : X.heap[g]? = some (o28 xn)) : InR X B (.slice (some ⟨g, 0, none⟩) 1 1) [⟨[105, 110, 112, 117, 116], cAdd ++ xn, wAll⟩] :=
  RowO.lit (fun _ => rfl) hB h (by show _ = [Value.string ⟨#[105, 110, 112, 117, 116]⟩, .string ⟨(cAdd ++ xn).toArray⟩, .string ⟨#[33, 91, 33]⟩]; rw [← bytes_add]) rfl (by decide)
theorem row40 {X : World} {xn : Bs} {B g : Nat} (hB : B ≤ g) (h : X.heap[g]? = some (o40 xn)) : InR X B (.slice (some ⟨g, 0, none⟩) 2 2) [⟨[102, 105, 108, 116, 101, 114], xn ++ cFilter, wMust⟩, ⟨[115, 101, 116], cPatch ++ xn, wMust⟩] :=
  RowO.lit (fun _ => rfl) hB h (by show _ = [Value.string ⟨#[102, 105, 108, 116, 101, 114]⟩, .string ⟨(xn ++ cFilter).toArray⟩, .string ⟨#[33]⟩, .string ⟨#[115, 101, 116]⟩, .string ⟨(cPatch ++ xn).toArray⟩, .string ⟨#[33]⟩]; rw [← bytes_add, ← bytes_add]) rfl (by decide)
theorem row46 {X : World} {xn : Bs} {B g : Nat} (hB : B ≤ g) (h : X.heap[g]? = some (o46 xn)) : InR X B (.slice (some ⟨g, 0, none⟩) 1 1) [⟨[102, 105, 108, 116, 101, 114], xn ++ cFilter, wMust⟩] :=
  RowO.lit (fun _ => rfl) hB h (by show _ = [Value.string ⟨#[102, 105, 108, 116, 101, 114]⟩, .string ⟨(xn ++ cFilter).toArray⟩, .string ⟨#[33]⟩]; rw [← bytes_add]) rfl (by decide)
section
variable {w : World} {ov ev : Value} {s : Sch}
set_option maxRecDepth 100000 in
set_option maxHeartbeats 20000000 in
theorem gmutation_any (h : SchAt w ov ev s) (hn : ∀ o ∈ s.os, o.n.length ≤ 1000) (hl : s.os.length ≤ 8) : Calls Tryz.prog 31 #[.agg #[ov, ev]] w fun e w' => ∃ v, e = .returned (.agg #[.string ⟨#[77, 117, 116, 97, 116, 105, 111, 110]⟩, .int .i64 2, .slice none 0 0, v, .slice none 0 0]) ∧ OtR w' w.heap.size v (s.os.flatMap mO) ∧ Below w.heap.size w w' := by
  obtain ⟨ti, hti, hy0, hy1, hy2⟩ := info_parts Tryz.infoOut
  have hos := h.os
  obtain ⟨a, c, rfl, _, _⟩ := h.os.slice
  obtain ⟨a', c', rfl, _, _⟩ := h.es.slice
  obtain ⟨W0, hW0⟩ : ∃ W0, W0 = (w.alloc (schO (.slice a s.os.length c) (.slice a' s.es.length c'))).alloc defZ := ⟨_, rfl⟩
  have A0 : Below w.heap.size w W0 := by rw [hW0]; exact al2 w _ _
  obtain ⟨N1, N2⟩ := root_new w (.slice a s.os.length c) (.slice a' s.es.length c')
  rw [← hW0] at N1 N2
  have HW : Hid (W0 = (w.alloc (schO (.slice a s.os.length c) (.slice a' s.es.length c'))).alloc defZ) := hW0
  have L0 : W0.heap.size = w.heap.size + 2 := by rw [hW0, World.size_alloc, World.size_alloc]
  have LW : Hid (w.heap.size + 2 ≤ W0.heap.size) := Nat.le_of_eq L0.symm
  clear hW0 L0 h
  go_enter Tryz.func31, Tryz.ntmps31
  go_wp2
  rw [← HW.out]
  go_loopw [3, 10] (fun lz iv wr => ∃ (lv : Value) (j : Nat) (ll : List (Ot × Value)), lv = lz ∧ iv = .int .i64 (j : Int) ∧ j ≤ s.os.length ∧ RowO wr W0.heap.size 41 4 outC lv ll ∧ ll.map (·.1) = (s.os.take j).flatMap mO ∧ (∀ p ∈ ll, InR wr W0.heap.size p.2 p.1.ar) ∧ Gt W0.heap.size 41 W0 wr) (fun _ iv _ => s.os.length - (RowKit.intOf iv).toNat)
  case atStart => exact ⟨_, 0, [], rfl, rfl, Nat.zero_le _, RowO.none, rfl, (fun p hp => absurd hp List.not_mem_nil), Gt.refl _ _ _⟩
  case round =>
    obtain ⟨lv, j, ll, rfl, rfl, hj, hrow, hdn, hin, hg⟩ := hrel
    have hdl : ll.length ≤ 3 * j := by
      have e := congrArg List.length hdn
      rw [List.length_map, flat_lenK (k := 3) (fun _ => rfl), List.length_take] at e
      omega
    have hbr : Below w.heap.size w wr := A0.trans ((hg.below (Nat.le_refl _)).mono A0.size)
    have HI : Hid (∀ p ∈ ll, InR wr W0.heap.size p.2 p.1.ar) := hin
    by_cases hlt : j < s.os.length
    · obtain ⟨x, hx⟩ : ∃ x, s.os[j]? = some x := ⟨_, List.getElem?_eq_getElem hlt⟩
      have hxn := hn x (List.mem_of_getElem? hx)
      obtain ⟨b, o, c0, a1, c1, hv, hbl, _, e0, e1, hfs⟩ := ob_cells hos hx
      cases hv
      have f0 := cell_on hbr e0
      have f1 := cell_on hbr e1
      have l1 : ((j : Nat) : Int) < (s.os.length : Int) := by omega
      have hjN : ((j : Nat) : Int).toNat = j := by omega
      have HK : Hid (j + 1 ≤ s.os.length) := hlt
      have HD : Hid (ll.map (·.1) ++ mO x = (s.os.take (j + 1)).flatMap mO) := by
        show _ = _
        rw [flat_step hx, hdn]
      obtain ⟨lo, lc, rfl⟩ := hrow.slice
      have hlen : ll.length ≤ 24 := by omega
      have hzB := hg.size
      obtain ⟨xn, xf⟩ := x
      simp only at f0 f1 hxn
      clear hx hlt hdn e0 e1 hin hfs hn
      have h3 : ¬ (9223372036854775807 < 3 + xn.length) := by omega
      have h5 : ¬ (9223372036854775807 < 5 + xn.length) := by omega
      have h6 : ¬ (9223372036854775807 < 6 + xn.length) := by omega
      have h6' : ¬ (9223372036854775807 < xn.length + 6) := by omega
      have HG : Hid (Gt W0.heap.size 41 W0 wr) := hg
      obtain ⟨W1, hW1⟩ : ∃ W1, W1 = wr.alloc (obO xn a1 xf.length c1) := ⟨_, rfl⟩
      have N9 : W1.heap[wr.heap.size]? = some (obO xn a1 xf.length c1) := by rw [hW1]; exact heap_alloc_new wr _
      have A1 : Below wr.heap.size wr W1 := by rw [hW1]; exact al1 wr _
      have c9 := (row2 N9).1
      have nx : ∀ {X Y : World}, Below W1.heap.size W1 X → Below X.heap.size X Y → Below W1.heap.size W1 Y := fun p q => p.trans (q.mono p.size)
      have al : ∀ {X : World} {o : Obj}, Below W1.heap.size W1 X → Below W1.heap.size W1 (X.alloc o) := fun p => p.alloc p.size _
      have DW : Below W1.heap.size W1 W1.drew := bel_dr (Below.refl _ _)
      have HN9 : Hid (W1.heap[wr.heap.size]? = some (obO xn a1 xf.length c1)) := N9
      have A9 := A1
      clear A1 N9 c9 nx al DW
      go_wp2_with (first
        | (go_at_call 66; (with_reducible refine (gin_any _ _ _ _).mono ?_); rintro e y0 ⟨rfl, b0⟩; rw [← hW1] at b0; clear hW1)
        | fail)
      obtain ⟨W2, hW2⟩ : ∃ W2, W2 = y0.alloc (o46 xn) := ⟨_, rfl⟩
      obtain ⟨F, hF⟩ : ∃ F, F = y0.heap.size := ⟨_, rfl⟩
      have N9 : W2.heap[wr.heap.size]? = some (obO xn a1 xf.length c1) := by
        rw [hW2]
        exact ((al1 _ _).block _ (Nat.lt_of_lt_of_le (lt_of_block HN9.out) b0.size)).trans ((b0.block _ (lt_of_block HN9.out)).trans HN9.out)
      have N6 : W2.heap[F]? = some (o46 xn) := by
        rw [hW2, hF]
        exact heap_alloc_new y0 _
      have A1 : Below wr.heap.size wr W2 := by
        rw [hW2]
        exact (A9.trans (b0.mono A9.size)).alloc (A9.trans (b0.mono A9.size)).size _
      rw [← hW2, ← hF]
      clear hW2 hF b0 A9 HN9
      have XS : ∀ {X : World}, X.heap[wr.heap.size]? = some (obO xn a1 xf.length c1) → X.heap[F]? = some (o46 xn) → (fun w' => w'.cell? ⟨wr.heap.size, 0, none⟩ = some (.string ⟨xn.toArray⟩) ∧ w'.cell? ⟨F, 0, none⟩ = some (.string ⟨#[102, 105, 108, 116, 101, 114]⟩) ∧ w'.cell? ⟨F, 1, none⟩ = some (.string (⟨xn.toArray⟩ ++ ⟨#[70, 105, 108, 116, 101, 114]⟩)) ∧ w'.cell? ⟨F, 2, none⟩ = some (.string ⟨#[33]⟩)) X := fun p q => ⟨(row2 p).1, (row3 q).1, (row3 q).2.1, (row3 q).2.2.1⟩
      have XD : ∀ {X : World}, Below W2.heap.size W2 X → (fun w' => w'.cell? ⟨wr.heap.size, 0, none⟩ = some (.string ⟨xn.toArray⟩) ∧ w'.cell? ⟨F, 0, none⟩ = some (.string ⟨#[102, 105, 108, 116, 101, 114]⟩) ∧ w'.cell? ⟨F, 1, none⟩ = some (.string (⟨xn.toArray⟩ ++ ⟨#[70, 105, 108, 116, 101, 114]⟩)) ∧ w'.cell? ⟨F, 2, none⟩ = some (.string ⟨#[33]⟩)) X := fun d => XS ((d.block _ (lt_of_block N9)).trans N9) ((d.block _ (lt_of_block N6)).trans N6)
      have nx : ∀ {X Y : World}, Below W2.heap.size W2 X → Below X.heap.size X Y → Below W2.heap.size W2 Y := fun p q => p.trans (q.mono p.size)
      have al : ∀ {X : World} {o : Obj}, Below W2.heap.size W2 X → Below W2.heap.size W2 (X.alloc o) := fun p => p.alloc p.size _
      have D : Below W2.heap.size W2 W2.drew := bel_dr (Below.refl _ _)
      refine wp_region_held_drew (S := fun w' => w'.cell? ⟨wr.heap.size, 0, none⟩ = some (.string ⟨xn.toArray⟩) ∧ w'.cell? ⟨F, 0, none⟩ = some (.string ⟨#[102, 105, 108, 116, 101, 114]⟩) ∧ w'.cell? ⟨F, 1, none⟩ = some (.string (⟨xn.toArray⟩ ++ ⟨#[70, 105, 108, 116, 101, 114]⟩)) ∧ w'.cell? ⟨F, 2, none⟩ = some (.string ⟨#[33]⟩)) (by kernel_rfl) ?_ (fun hHeld => ?_)
      · exact XD D
      refine wpAnyH_take (i := 0) (oi := ⟨some 18, _, _, _, _, _⟩) (v := ?_) rfl (by kernel_rfl) (by kernel_rfl) (by kernel_rfl) (fun _ _ _ h => h) (Or.inl ⟨by rfl, ?_⟩) (by assumption) ?_
      rotate_left
      · intro w' hSw
        (try dsimp only at hSw)
        go_simp
        (try with_reducible rfl)
      try simp only [Act.put, List.setIfInBounds_toArray, List.set_cons_zero, List.set_cons_succ]
      refine wpAnyH_take (i := 1) (oi := ⟨some 19, _, _, _, _, _⟩) (v := ?_) rfl (by kernel_rfl) (by kernel_rfl) (by kernel_rfl) (fun _ _ _ h => h) (Or.inl ⟨by rfl, ?_⟩) (by assumption) ?_
      rotate_left
      · intro w' hSw
        (try dsimp only at hSw)
        go_simp
        (try with_reducible rfl)
      try simp only [Act.put, List.setIfInBounds_toArray, List.set_cons_zero, List.set_cons_succ]
      refine wpAnyH_take (i := 2) (oi := ⟨some 20, _, _, _, _, _⟩) (v := ?_) rfl (by kernel_rfl) (by kernel_rfl) (by kernel_rfl) (fun _ _ _ h => h) (Or.inl ⟨by rfl, ?_⟩) (by assumption) ?_
      rotate_left
      · intro w' hSw
        (try dsimp only at hSw)
        go_simp
        (try with_reducible rfl)
      try simp only [Act.put, List.setIfInBounds_toArray, List.set_cons_zero, List.set_cons_succ]
      refine wpAnyH_take (i := 3) (oi := ⟨some 21, _, _, _, _, _⟩) (v := ?_) rfl (by kernel_rfl) (by kernel_rfl) (by kernel_rfl) (fun _ _ _ h => h) (Or.inl ⟨by rfl, ?_⟩) (by assumption) ?_
      rotate_left
      · intro w' hSw
        (try dsimp only at hSw)
        go_simp
        (try with_reducible rfl)
      try simp only [Act.put, List.setIfInBounds_toArray, List.set_cons_zero, List.set_cons_succ]
      refine wpAnyH_take (i := 4) (oi := ⟨some 22, _, _, _, _, _⟩) (v := ?_) rfl (by kernel_rfl) (by kernel_rfl) (by kernel_rfl) (fun _ _ _ h => h) (Or.inl ⟨by rfl, ?_⟩) (by assumption) ?_
      rotate_left
      · intro w' hSw
        (try dsimp only at hSw)
        go_simp
        (try with_reducible rfl)
      try simp only [Act.put, List.setIfInBounds_toArray, List.set_cons_zero, List.set_cons_succ]
      refine wpAnyH_take (i := 5) (oi := ⟨some 23, _, _, _, _, _⟩) (v := ?_) rfl (by kernel_rfl) (by kernel_rfl) (by kernel_rfl) (fun _ _ _ h => h) (Or.inl ⟨by rfl, ?_⟩) (by assumption) ?_
      rotate_left
      · intro w' hSw
        (try dsimp only at hSw)
        go_simp
        (try with_reducible rfl)
      try simp only [Act.put, List.setIfInBounds_toArray, List.set_cons_zero, List.set_cons_succ]
      refine wpAnyH_take (i := 6) (oi := ⟨some 24, _, _, _, _, _⟩) (v := ?_) rfl (by kernel_rfl) (by kernel_rfl) (by kernel_rfl) (fun _ _ _ h => h) (Or.inl ⟨by rfl, ?_⟩) (by assumption) ?_
      rotate_left
      · intro w' hSw
        (try dsimp only at hSw)
        go_simp
        (try with_reducible rfl)
      try simp only [Act.put, List.setIfInBounds_toArray, List.set_cons_zero, List.set_cons_succ]
      refine wpAnyH_take (i := 7) (oi := ⟨some 25, _, _, _, _, _⟩) (v := ?_) rfl (by kernel_rfl) (by kernel_rfl) (by kernel_rfl) (fun _ _ _ h => h) (Or.inl ⟨by rfl, ?_⟩) (by assumption) ?_
      rotate_left
      · intro w' hSw
        (try dsimp only at hSw)
        go_simp
        (try with_reducible rfl)
      try simp only [Act.put, List.setIfInBounds_toArray, List.set_cons_zero, List.set_cons_succ]
      refine wpAnyH_take (i := 8) (oi := ⟨some 26, _, _, _, _, _⟩) (v := ?_) rfl (by kernel_rfl) (by kernel_rfl) (by kernel_rfl) (fun _ _ _ h => h) (Or.inl ⟨by rfl, ?_⟩) (by assumption) ?_
      rotate_left
      · intro w' hSw
        (try dsimp only at hSw)
        go_simp
        (try with_reducible rfl)
      try simp only [Act.put, List.setIfInBounds_toArray, List.set_cons_zero, List.set_cons_succ]
      refine wpAnyH_take (i := 12) (oi := ⟨some 30, _, _, _, _, _⟩) (v := ?_) rfl (by kernel_rfl) (by kernel_rfl) (by kernel_rfl) (fun _ _ _ h => h) (Or.inl ⟨by rfl, ?_⟩) (by assumption) ?_
      rotate_left
      · intro w' hSw
        (try dsimp only at hSw)
        go_simp
        (try with_reducible rfl)
      try simp only [Act.put, List.setIfInBounds_toArray, List.set_cons_zero, List.set_cons_succ]
      refine wpAnyH_take (i := 13) (oi := ⟨some 31, _, _, _, _, _⟩) (v := ?_) rfl (by kernel_rfl) (by kernel_rfl) (by kernel_rfl) (fun _ _ _ h => h) (Or.inl ⟨by rfl, ?_⟩) (by assumption) ?_
      rotate_left
      · intro w' hSw
        (try dsimp only at hSw)
        go_simp
        (try with_reducible rfl)
      try simp only [Act.put, List.setIfInBounds_toArray, List.set_cons_zero, List.set_cons_succ]
      refine wpAnyH_take (i := 14) (oi := ⟨some 32, _, _, _, _, _⟩) (v := ?_) rfl (by kernel_rfl) (by kernel_rfl) (by kernel_rfl) (fun _ _ _ h => h) (Or.inl ⟨by rfl, ?_⟩) (by assumption) ?_
      rotate_left
      · intro w' hSw
        (try dsimp only at hSw)
        go_simp
        (try with_reducible rfl)
      try simp only [Act.put, List.setIfInBounds_toArray, List.set_cons_zero, List.set_cons_succ]
      refine wpAnyH_take (i := 15) (oi := ⟨some 33, _, _, _, _, _⟩) (v := ?_) rfl (by kernel_rfl) (by kernel_rfl) (by kernel_rfl) (fun _ _ _ h => h) (Or.inl ⟨by rfl, ?_⟩) (by assumption) ?_
      rotate_left
      · intro w' hSw
        (try dsimp only at hSw)
        go_simp
        (try with_reducible rfl)
      try simp only [Act.put, List.setIfInBounds_toArray, List.set_cons_zero, List.set_cons_succ]
      refine wpAnyH_take (i := 16) (oi := ⟨some 34, _, _, _, _, _⟩) (v := ?_) rfl (by kernel_rfl) (by kernel_rfl) (by kernel_rfl) (fun _ _ _ h => h) (Or.inl ⟨by rfl, ?_⟩) (by assumption) ?_
      rotate_left
      · intro w' hSw
        (try dsimp only at hSw)
        go_simp
        (try with_reducible rfl)
      try simp only [Act.put, List.setIfInBounds_toArray, List.set_cons_zero, List.set_cons_succ]
      refine wpAnyH_take (i := 17) (oi := ⟨some 35, _, _, _, _, _⟩) (v := ?_) rfl (by kernel_rfl) (by kernel_rfl) (by kernel_rfl) (fun _ _ _ h => h) (Or.inl ⟨by rfl, ?_⟩) (by assumption) ?_
      rotate_left
      · intro w' hSw
        (try dsimp only at hSw)
        go_simp
        (try with_reducible rfl)
      try simp only [Act.put, List.setIfInBounds_toArray, List.set_cons_zero, List.set_cons_succ]
      refine wpAnyH_take (i := 18) (oi := ⟨some 36, _, _, _, _, _⟩) (v := ?_) rfl (by kernel_rfl) (by kernel_rfl) (by kernel_rfl) (fun _ _ _ h => h) (Or.inl ⟨by rfl, ?_⟩) (by assumption) ?_
      rotate_left
      · intro w' hSw
        (try dsimp only at hSw)
        go_simp
        (try with_reducible rfl)
      try simp only [Act.put, List.setIfInBounds_toArray, List.set_cons_zero, List.set_cons_succ]
      refine wpAnyH_take (i := 19) (oi := ⟨some 37, _, _, _, _, _⟩) (v := ?_) rfl (by kernel_rfl) (by kernel_rfl) (by kernel_rfl) (fun _ _ _ h => h) (Or.inl ⟨by rfl, ?_⟩) (by assumption) ?_
      rotate_left
      · intro w' hSw
        (try dsimp only at hSw)
        go_simp
        (try with_reducible rfl)
      try simp only [Act.put, List.setIfInBounds_toArray, List.set_cons_zero, List.set_cons_succ]
      refine wpAnyH_take (i := 20) (oi := ⟨some 38, _, _, _, _, _⟩) (v := ?_) rfl (by kernel_rfl) (by kernel_rfl) (by kernel_rfl) (fun _ _ _ h => h) (Or.inl ⟨by rfl, ?_⟩) (by assumption) ?_
      rotate_left
      · intro w' hSw
        (try dsimp only at hSw)
        go_simp
        (try with_reducible rfl)
      try simp only [Act.put, List.setIfInBounds_toArray, List.set_cons_zero, List.set_cons_succ]
      refine wpAnyH_take (i := 24) (oi := ⟨some 42, _, _, _, _, _⟩) (v := ?_) rfl (by kernel_rfl) (by kernel_rfl) (by kernel_rfl) (fun _ _ _ h => h) (Or.inl ⟨by rfl, ?_⟩) (by assumption) ?_
      rotate_left
      · intro w' hSw
        (try dsimp only at hSw)
        go_simp
        (try with_reducible rfl)
      try simp only [Act.put, List.setIfInBounds_toArray, List.set_cons_zero, List.set_cons_succ]
      refine wpAnyH_take (i := 25) (oi := ⟨some 43, _, _, _, _, _⟩) (v := ?_) rfl (by kernel_rfl) (by kernel_rfl) (by kernel_rfl) (fun _ _ _ h => h) (Or.inl ⟨by rfl, ?_⟩) (by assumption) ?_
      rotate_left
      · intro w' hSw
        (try dsimp only at hSw)
        go_simp
        (try with_reducible rfl)
      try simp only [Act.put, List.setIfInBounds_toArray, List.set_cons_zero, List.set_cons_succ]
      refine wpAnyH_take (i := 26) (oi := ⟨some 44, _, _, _, _, _⟩) (v := ?_) rfl (by kernel_rfl) (by kernel_rfl) (by kernel_rfl) (fun _ _ _ h => h) (Or.inl ⟨by rfl, ?_⟩) (by assumption) ?_
      rotate_left
      · intro w' hSw
        (try dsimp only at hSw)
        go_simp
        (try with_reducible rfl)
      try simp only [Act.put, List.setIfInBounds_toArray, List.set_cons_zero, List.set_cons_succ]
      refine wpAnyH_take (i := 27) (oi := ⟨some 45, _, _, _, _, _⟩) (v := ?_) rfl (by kernel_rfl) (by kernel_rfl) (by kernel_rfl) (fun _ _ _ h => h) (Or.inl ⟨by rfl, ?_⟩) (by assumption) ?_
      rotate_left
      · intro w' hSw
        (try dsimp only at hSw)
        go_simp
        (try with_reducible rfl)
      try simp only [Act.put, List.setIfInBounds_toArray, List.set_cons_zero, List.set_cons_succ]
      refine wpAnyH_ready (rs := [9, 28]) (by kernel_rfl) (by simp) ?_
      refine AllReadyH.cons (o := ⟨some 27, _, _, _, _, _⟩) rfl (fun K hK => ?_) ?_
      · skip
        go_simp
        go_at_call 66
        (with_reducible refine (gin_any _ _ _ _).mono ?_)
        rintro e y9 ⟨rfl, b⟩
        replace D := nx D b
        clear b
        refine hK.out _ _ ?_ (fun hHeld => ?_)
        · exact XD D
        clear hK K
        try simp only [Act.put, List.setIfInBounds_toArray, List.set_cons_zero, List.set_cons_succ]
        refine wpAnyH_ready (rs := [10, 28]) (by kernel_rfl) (by simp) ?_
        refine AllReadyH.cons (o := ⟨some 28, _, _, _, _, _⟩) rfl (fun K hK => ?_) ?_
        · skip
          go_simp
          refine hK.out _ _ ?_ (fun hHeld => ?_)
          · exact XD (al D)
          clear hK K
          try simp only [Act.put, List.setIfInBounds_toArray, List.set_cons_zero, List.set_cons_succ]
          refine wpAnyH_ready (rs := [11, 28]) (by kernel_rfl) (by simp) ?_
          refine AllReadyH.cons (o := ⟨some 29, _, _, _, _, _⟩) rfl (fun K hK => ?_) ?_
          · skip
            go_simp
            go_at_call 34
            (with_reducible refine (gout_any _ _ _ _ _ _ _).mono ?_)
            rintro e y11 ⟨rfl, b⟩
            have I28 := row28 D.size (new_on b)
            replace D := nx (al D) b
            clear b
            refine hK.out _ _ ?_ (fun hHeld => ?_)
            · exact XD D
            clear hK K
            try simp only [Act.put, List.setIfInBounds_toArray, List.set_cons_zero, List.set_cons_succ]
            refine wpAnyH_ready (rs := [21, 28]) (by kernel_rfl) (by simp) ?_
            refine AllReadyH.cons (o := ⟨some 39, _, _, _, _, _⟩) rfl (fun K hK => ?_) ?_
            · skip
              go_simp
              go_at_call 66
              (with_reducible refine (gin_any _ _ _ _).mono ?_)
              rintro e y21 ⟨rfl, b⟩
              replace I28 := RowO.on I28 b
              replace D := nx D b
              clear b
              refine hK.out _ _ ?_ (fun hHeld => ?_)
              · exact XD D
              clear hK K
              try simp only [Act.put, List.setIfInBounds_toArray, List.set_cons_zero, List.set_cons_succ]
              refine wpAnyH_ready (rs := [22, 28]) (by kernel_rfl) (by simp) ?_
              refine AllReadyH.cons (o := ⟨some 40, _, _, _, _, _⟩) rfl (fun K hK => ?_) ?_
              · skip
                go_simp
                refine hK.out _ _ ?_ (fun hHeld => ?_)
                · exact XD (al D)
                clear hK K
                try simp only [Act.put, List.setIfInBounds_toArray, List.set_cons_zero, List.set_cons_succ]
                refine wpAnyH_ready (rs := [23, 28]) (by kernel_rfl) (by simp) ?_
                refine AllReadyH.cons (o := ⟨some 41, _, _, _, _, _⟩) rfl (fun K hK => ?_) ?_
                · skip
                  go_simp
                  go_at_call 34
                  (with_reducible refine (gout_any _ _ _ _ _ _ _).mono ?_)
                  rintro e y23 ⟨rfl, b⟩
                  replace I28 := RowO.on (RowO.on I28 (al1 _ _)) b
                  have I40 := row40 D.size (new_on b)
                  replace D := nx (al D) b
                  clear b
                  refine hK.out _ _ ?_ (fun hHeld => ?_)
                  · exact XD D
                  clear hK K
                  try simp only [Act.put, List.setIfInBounds_toArray, List.set_cons_zero, List.set_cons_succ]
                  refine wpAnyH_ready (rs := [28]) (by kernel_rfl) (by simp) ?_
                  refine AllReadyH.cons (o := ⟨some 46, _, _, _, _, _⟩) rfl (fun K hK => ?_) AllReadyH.nil
                  go_simp
                  refine hK.out _ _ ?_ (fun hHeld => ?_)
                  · exact XD (al D)
                  clear hK K
                  try simp only [Act.put, List.setIfInBounds_toArray, List.set_cons_zero, List.set_cons_succ]
                  refine wpAnyH_ready (rs := [29]) (by kernel_rfl) (by simp) ?_
                  refine AllReadyH.cons (o := ⟨some 47, _, _, _, _, _⟩) rfl (fun K hK => ?_) AllReadyH.nil
                  go_simp
                  go_at_call 34
                  (with_reducible refine (gout_any _ _ _ _ _ _ _).mono ?_)
                  rintro e y29 ⟨rfl, b⟩
                  replace I28 := RowO.on (RowO.on I28 (al1 _ _)) b
                  replace I40 := RowO.on (RowO.on I40 (al1 _ _)) b
                  have I46 := row46 D.size (new_on b)
                  replace D := nx (al D) b
                  clear b
                  refine hK.out _ _ ?_ (fun hHeld => ?_)
                  · exact XD D
                  clear hK K
                  try simp only [Act.put, List.setIfInBounds_toArray, List.set_cons_zero, List.set_cons_succ]
                  refine wpAnyH_ready (rs := [30]) (by kernel_rfl) (by simp) ?_
                  refine AllReadyH.cons (o := ⟨some 48, _, _, _, _, _⟩) rfl (fun K hK => ?_) AllReadyH.nil
                  go_simp
                  refine hK.out _ _ ?_ (fun hHeld => ?_)
                  · exact XD (al D)
                  clear hK K
                  try simp only [Act.put, List.setIfInBounds_toArray, List.set_cons_zero, List.set_cons_succ]
                  refine wpAnyH_ready (rs := [31]) (by kernel_rfl) (by simp) ?_
                  refine AllReadyH.cons (o := ⟨some 49, _, _, _, _, _⟩) rfl (fun K hK => ?_) AllReadyH.nil
                  refine step_append_lies _ (by rfl) (.tmp 18) (.tmp 48) 32 (by rfl) W0.heap.size 41 ti _ 4 72 Tryz.underlying32 hti hy0 hy1 hy2 rfl (by decide) (.slice lo ll.length lc) ll.length (ll.flatMap outC) (by rfl) ((RowO.on (RowO.on hrow A1) D).on (al1 _ _)) ⟨y29.heap.size, 0, none⟩ 3 3 [.string (⟨#[97, 100, 100]⟩ ++ ⟨xn.toArray⟩), .string ⟨xn.toArray⟩, .string ⟨#[33, 91, 33]⟩, .slice (some ⟨y9.heap.size, 0, none⟩) 1 1, .string (⟨#[117, 112, 100, 97, 116, 101]⟩ ++ ⟨xn.toArray⟩), .string ⟨xn.toArray⟩, .string ⟨#[33, 91, 33]⟩, .slice (some ⟨y21.heap.size, 0, none⟩) 2 2, .string (⟨#[100, 101, 108, 101, 116, 101]⟩ ++ ⟨xn.toArray⟩), .string ⟨#[73, 110, 116]⟩, .string ⟨#[33]⟩, .slice (some ⟨y23.heap.size, 0, none⟩) 1 1] (by rfl) rfl (World.news_of_block (heap_alloc_new y29 _)) (by intro u hu; simp at hu; rcases hu with rfl | rfl | rfl | rfl | rfl | rfl | rfl | rfl | rfl | rfl | rfl | rfl <;> rfl) (by decide) (by unfold maxLen; omega) (by omega) (Nat.le_trans hzB (Nat.le_trans A1.size (al D).size)) _ rfl ?_
                  intro g8 cp8 w8 own8 gr8 hor8 hlt8
                  have G8 := gt_grown ((RowO.on (RowO.on hrow A1) D).on (al1 y29 _)) gr8
                  have c10 := XS (G8.block _ _ (((al D).block _ (lt_of_block N9)).trans N9) (Or.inr (by simp))) (G8.block _ _ (((al D).block _ (lt_of_block N6)).trans N6) (Or.inr (by simp)))
                  have O8 : Hid (w8.ownsRow W0.heap.size 41 4 (.slice (some ⟨g8, 0, none⟩) (ll.length + 3) cp8) (ll.length + 3) (ll.flatMap outC ++ [.string (⟨#[97, 100, 100]⟩ ++ ⟨xn.toArray⟩), .string ⟨xn.toArray⟩, .string ⟨#[33, 91, 33]⟩, .slice (some ⟨y9.heap.size, 0, none⟩) 1 1, .string (⟨#[117, 112, 100, 97, 116, 101]⟩ ++ ⟨xn.toArray⟩), .string ⟨xn.toArray⟩, .string ⟨#[33, 91, 33]⟩, .slice (some ⟨y21.heap.size, 0, none⟩) 2 2, .string (⟨#[100, 101, 108, 101, 116, 101]⟩ ++ ⟨xn.toArray⟩), .string ⟨#[73, 110, 116]⟩, .string ⟨#[33]⟩, .slice (some ⟨y23.heap.size, 0, none⟩) 1 1])) := own8
                  clear own8 gr8 hor8 hlt8
                  refine hK.out _ _ ?_ (fun hHeld => ?_)
                  · exact c10
                  clear hK K
                  try simp only [Act.put, List.setIfInBounds_toArray, List.set_cons_zero, List.set_cons_succ]
                  refine wpAnyH_take (i := 32) (oi := ⟨some 3, _, _, _, _, _⟩) (v := ?_) rfl (by kernel_rfl) (by kernel_rfl) (by kernel_rfl) (fun _ _ _ h => h) (Or.inl ⟨by rfl, ?_⟩) (by assumption) ?_
                  rotate_left
                  · intro w' hSw
                    (try dsimp only at hSw)
                    go_simp
                    (try with_reducible rfl)
                  try simp only [Act.put, List.setIfInBounds_toArray, List.set_cons_zero, List.set_cons_succ]
                  refine wpAnyH_done (by kernel_rfl) ?_ _
                  go_wp2
                  have hz1 : W0.heap.size ≤ W2.heap.size := Nat.le_trans hzB A1.size
                  refine ⟨⟨_, j + 1, ll ++ [(⟨[97, 100, 100] ++ xn, xn, wAll, [⟨[105, 110, 112, 117, 116], cAdd ++ xn, wAll⟩]⟩, .slice (some ⟨y9.heap.size, 0, none⟩) 1 1), (⟨[117, 112, 100, 97, 116, 101] ++ xn, xn, wAll, [⟨[102, 105, 108, 116, 101, 114], xn ++ cFilter, wMust⟩, ⟨[115, 101, 116], cPatch ++ xn, wMust⟩]⟩, .slice (some ⟨y21.heap.size, 0, none⟩) 2 2), (⟨[100, 101, 108, 101, 116, 101] ++ xn, intB, wMust, [⟨[102, 105, 108, 116, 101, 114], xn ++ cFilter, wMust⟩]⟩, .slice (some ⟨y23.heap.size, 0, none⟩) 1 1)], rfl, by simp, HK.out, RowO.pushL O8.out rfl ?_, by rw [List.map_append]; exact HD.out, ?_, (((HG.out.trans (gt_of A1)).trans (gt_of D)).trans (gt_of (al1 _ _))).trans G8⟩, ?_⟩
                  · show [Value.string ⟨([97, 100, 100] ++ xn).toArray⟩, .string ⟨xn.toArray⟩, .string ⟨#[33, 91, 33]⟩, .slice (some ⟨y9.heap.size, 0, none⟩) 1 1, .string ⟨([117, 112, 100, 97, 116, 101] ++ xn).toArray⟩, .string ⟨xn.toArray⟩, .string ⟨#[33, 91, 33]⟩, .slice (some ⟨y21.heap.size, 0, none⟩) 2 2, .string ⟨([100, 101, 108, 101, 116, 101] ++ xn).toArray⟩, .string ⟨#[73, 110, 116]⟩, .string ⟨#[33]⟩, .slice (some ⟨y23.heap.size, 0, none⟩) 1 1] = _
                    rw [← bytes_add, ← bytes_add, ← bytes_add]
                  · intro p hp
                    rcases List.mem_append.1 hp with hp | hp
                    · exact ((((HI.out p hp).on A1).on D).on (al1 _ _)).gt G8 (by decide)
                    · simp only [List.mem_cons, List.not_mem_nil, or_false] at hp
                      rcases hp with rfl | rfl | rfl
                      · exact ((RowO.base I28 hz1).on (al1 _ _)).gt G8 (by decide)
                      · exact ((RowO.base I40 hz1).on (al1 _ _)).gt G8 (by decide)
                      · exact ((RowO.base I46 hz1).on (al1 _ _)).gt G8 (by decide)
                  · have := HK.out
                    simp [RowKit.intOf]
                    omega
                refine AllReadyH.cons (o := ⟨some 46, _, _, _, _, _⟩) rfl (fun K hK => ?_) AllReadyH.nil
                go_simp
                refine hK.out _ _ ?_ (fun hHeld => ?_)
                · exact XD (al (al D))
                clear hK K
                try simp only [Act.put, List.setIfInBounds_toArray, List.set_cons_zero, List.set_cons_succ]
                refine wpAnyH_ready (rs := [23]) (by kernel_rfl) (by simp) ?_
                refine AllReadyH.cons (o := ⟨some 41, _, _, _, _, _⟩) rfl (fun K hK => ?_) AllReadyH.nil
                go_simp
                go_at_call 34
                (with_reducible refine (gout_any _ _ _ _ _ _ _).mono ?_)
                rintro e y23 ⟨rfl, b⟩
                replace I28 := RowO.on (RowO.on I28 (al2 _ _ _)) b
                have I40 := row40 D.size ((new_on2 b).1)
                have I46 := row46 (Nat.le_succ_of_le D.size) ((new_on2 b).2)
                replace D := nx (al (al D)) b
                clear b
                refine hK.out _ _ ?_ (fun hHeld => ?_)
                · exact XD D
                clear hK K
                try simp only [Act.put, List.setIfInBounds_toArray, List.set_cons_zero, List.set_cons_succ]
                refine wpAnyH_ready (rs := [29]) (by kernel_rfl) (by simp) ?_
                refine AllReadyH.cons (o := ⟨some 47, _, _, _, _, _⟩) rfl (fun K hK => ?_) AllReadyH.nil
                go_simp
                go_at_call 34
                (with_reducible refine (gout_any _ _ _ _ _ _ _).mono ?_)
                rintro e y29 ⟨rfl, b⟩
                replace I28 := RowO.on I28 b
                replace I40 := RowO.on I40 b
                replace I46 := RowO.on I46 b
                replace D := nx D b
                clear b
                refine hK.out _ _ ?_ (fun hHeld => ?_)
                · exact XD D
                clear hK K
                try simp only [Act.put, List.setIfInBounds_toArray, List.set_cons_zero, List.set_cons_succ]
                refine wpAnyH_ready (rs := [30]) (by kernel_rfl) (by simp) ?_
                refine AllReadyH.cons (o := ⟨some 48, _, _, _, _, _⟩) rfl (fun K hK => ?_) AllReadyH.nil
                go_simp
                refine hK.out _ _ ?_ (fun hHeld => ?_)
                · exact XD (al D)
                clear hK K
                try simp only [Act.put, List.setIfInBounds_toArray, List.set_cons_zero, List.set_cons_succ]
                refine wpAnyH_ready (rs := [31]) (by kernel_rfl) (by simp) ?_
                refine AllReadyH.cons (o := ⟨some 49, _, _, _, _, _⟩) rfl (fun K hK => ?_) AllReadyH.nil
                refine step_append_lies _ (by rfl) (.tmp 18) (.tmp 48) 32 (by rfl) W0.heap.size 41 ti _ 4 72 Tryz.underlying32 hti hy0 hy1 hy2 rfl (by decide) (.slice lo ll.length lc) ll.length (ll.flatMap outC) (by rfl) ((RowO.on (RowO.on hrow A1) D).on (al1 _ _)) ⟨y29.heap.size, 0, none⟩ 3 3 [.string (⟨#[97, 100, 100]⟩ ++ ⟨xn.toArray⟩), .string ⟨xn.toArray⟩, .string ⟨#[33, 91, 33]⟩, .slice (some ⟨y9.heap.size, 0, none⟩) 1 1, .string (⟨#[117, 112, 100, 97, 116, 101]⟩ ++ ⟨xn.toArray⟩), .string ⟨xn.toArray⟩, .string ⟨#[33, 91, 33]⟩, .slice (some ⟨y21.heap.size, 0, none⟩) 2 2, .string (⟨#[100, 101, 108, 101, 116, 101]⟩ ++ ⟨xn.toArray⟩), .string ⟨#[73, 110, 116]⟩, .string ⟨#[33]⟩, .slice (some ⟨y21.heap.size + 1, 0, none⟩) 1 1] (by rfl) rfl (World.news_of_block (heap_alloc_new y29 _)) (by intro u hu; simp at hu; rcases hu with rfl | rfl | rfl | rfl | rfl | rfl | rfl | rfl | rfl | rfl | rfl | rfl <;> rfl) (by decide) (by unfold maxLen; omega) (by omega) (Nat.le_trans hzB (Nat.le_trans A1.size (al D).size)) _ rfl ?_
                intro g8 cp8 w8 own8 gr8 hor8 hlt8
                have G8 := gt_grown ((RowO.on (RowO.on hrow A1) D).on (al1 y29 _)) gr8
                have c10 := XS (G8.block _ _ (((al D).block _ (lt_of_block N9)).trans N9) (Or.inr (by simp))) (G8.block _ _ (((al D).block _ (lt_of_block N6)).trans N6) (Or.inr (by simp)))
                have O8 : Hid (w8.ownsRow W0.heap.size 41 4 (.slice (some ⟨g8, 0, none⟩) (ll.length + 3) cp8) (ll.length + 3) (ll.flatMap outC ++ [.string (⟨#[97, 100, 100]⟩ ++ ⟨xn.toArray⟩), .string ⟨xn.toArray⟩, .string ⟨#[33, 91, 33]⟩, .slice (some ⟨y9.heap.size, 0, none⟩) 1 1, .string (⟨#[117, 112, 100, 97, 116, 101]⟩ ++ ⟨xn.toArray⟩), .string ⟨xn.toArray⟩, .string ⟨#[33, 91, 33]⟩, .slice (some ⟨y21.heap.size, 0, none⟩) 2 2, .string (⟨#[100, 101, 108, 101, 116, 101]⟩ ++ ⟨xn.toArray⟩), .string ⟨#[73, 110, 116]⟩, .string ⟨#[33]⟩, .slice (some ⟨y21.heap.size + 1, 0, none⟩) 1 1])) := own8
                clear own8 gr8 hor8 hlt8
                refine hK.out _ _ ?_ (fun hHeld => ?_)
                · exact c10
                clear hK K
                try simp only [Act.put, List.setIfInBounds_toArray, List.set_cons_zero, List.set_cons_succ]
                refine wpAnyH_take (i := 32) (oi := ⟨some 3, _, _, _, _, _⟩) (v := ?_) rfl (by kernel_rfl) (by kernel_rfl) (by kernel_rfl) (fun _ _ _ h => h) (Or.inl ⟨by rfl, ?_⟩) (by assumption) ?_
                rotate_left
                · intro w' hSw
                  (try dsimp only at hSw)
                  go_simp
                  (try with_reducible rfl)
                try simp only [Act.put, List.setIfInBounds_toArray, List.set_cons_zero, List.set_cons_succ]
                refine wpAnyH_done (by kernel_rfl) ?_ _
                go_wp2
                have hz1 : W0.heap.size ≤ W2.heap.size := Nat.le_trans hzB A1.size
                refine ⟨⟨_, j + 1, ll ++ [(⟨[97, 100, 100] ++ xn, xn, wAll, [⟨[105, 110, 112, 117, 116], cAdd ++ xn, wAll⟩]⟩, .slice (some ⟨y9.heap.size, 0, none⟩) 1 1), (⟨[117, 112, 100, 97, 116, 101] ++ xn, xn, wAll, [⟨[102, 105, 108, 116, 101, 114], xn ++ cFilter, wMust⟩, ⟨[115, 101, 116], cPatch ++ xn, wMust⟩]⟩, .slice (some ⟨y21.heap.size, 0, none⟩) 2 2), (⟨[100, 101, 108, 101, 116, 101] ++ xn, intB, wMust, [⟨[102, 105, 108, 116, 101, 114], xn ++ cFilter, wMust⟩]⟩, .slice (some ⟨y21.heap.size + 1, 0, none⟩) 1 1)], rfl, by simp, HK.out, RowO.pushL O8.out rfl ?_, by rw [List.map_append]; exact HD.out, ?_, (((HG.out.trans (gt_of A1)).trans (gt_of D)).trans (gt_of (al1 _ _))).trans G8⟩, ?_⟩
                · show [Value.string ⟨([97, 100, 100] ++ xn).toArray⟩, .string ⟨xn.toArray⟩, .string ⟨#[33, 91, 33]⟩, .slice (some ⟨y9.heap.size, 0, none⟩) 1 1, .string ⟨([117, 112, 100, 97, 116, 101] ++ xn).toArray⟩, .string ⟨xn.toArray⟩, .string ⟨#[33, 91, 33]⟩, .slice (some ⟨y21.heap.size, 0, none⟩) 2 2, .string ⟨([100, 101, 108, 101, 116, 101] ++ xn).toArray⟩, .string ⟨#[73, 110, 116]⟩, .string ⟨#[33]⟩, .slice (some ⟨y21.heap.size + 1, 0, none⟩) 1 1] = _
                  rw [← bytes_add, ← bytes_add, ← bytes_add]
                · intro p hp
                  rcases List.mem_append.1 hp with hp | hp
                  · exact ((((HI.out p hp).on A1).on D).on (al1 _ _)).gt G8 (by decide)
                  · simp only [List.mem_cons, List.not_mem_nil, or_false] at hp
                    rcases hp with rfl | rfl | rfl
                    · exact ((RowO.base I28 hz1).on (al1 _ _)).gt G8 (by decide)
                    · exact ((RowO.base I40 hz1).on (al1 _ _)).gt G8 (by decide)
                    · exact ((RowO.base I46 hz1).on (al1 _ _)).gt G8 (by decide)
                · have := HK.out
                  simp [RowKit.intOf]
                  omega
              refine AllReadyH.cons (o := ⟨some 46, _, _, _, _, _⟩) rfl (fun K hK => ?_) AllReadyH.nil
              go_simp
              refine hK.out _ _ ?_ (fun hHeld => ?_)
              · exact XD (al D)
              clear hK K
              try simp only [Act.put, List.setIfInBounds_toArray, List.set_cons_zero, List.set_cons_succ]
              refine wpAnyH_ready (rs := [22]) (by kernel_rfl) (by simp) ?_
              refine AllReadyH.cons (o := ⟨some 40, _, _, _, _, _⟩) rfl (fun K hK => ?_) AllReadyH.nil
              go_simp
              refine hK.out _ _ ?_ (fun hHeld => ?_)
              · exact XD (al (al D))
              clear hK K
              try simp only [Act.put, List.setIfInBounds_toArray, List.set_cons_zero, List.set_cons_succ]
              refine wpAnyH_ready (rs := [23]) (by kernel_rfl) (by simp) ?_
              refine AllReadyH.cons (o := ⟨some 41, _, _, _, _, _⟩) rfl (fun K hK => ?_) AllReadyH.nil
              go_simp
              go_at_call 34
              (with_reducible refine (gout_any _ _ _ _ _ _ _).mono ?_)
              rintro e y23 ⟨rfl, b⟩
              replace I28 := RowO.on (RowO.on I28 (al2 _ _ _)) b
              have I46 := row46 D.size ((new_on2 b).1)
              have I40 := row40 (Nat.le_succ_of_le D.size) ((new_on2 b).2)
              replace D := nx (al (al D)) b
              clear b
              refine hK.out _ _ ?_ (fun hHeld => ?_)
              · exact XD D
              clear hK K
              try simp only [Act.put, List.setIfInBounds_toArray, List.set_cons_zero, List.set_cons_succ]
              refine wpAnyH_ready (rs := [29]) (by kernel_rfl) (by simp) ?_
              refine AllReadyH.cons (o := ⟨some 47, _, _, _, _, _⟩) rfl (fun K hK => ?_) AllReadyH.nil
              go_simp
              go_at_call 34
              (with_reducible refine (gout_any _ _ _ _ _ _ _).mono ?_)
              rintro e y29 ⟨rfl, b⟩
              replace I28 := RowO.on I28 b
              replace I46 := RowO.on I46 b
              replace I40 := RowO.on I40 b
              replace D := nx D b
              clear b
              refine hK.out _ _ ?_ (fun hHeld => ?_)
              · exact XD D
              clear hK K
              try simp only [Act.put, List.setIfInBounds_toArray, List.set_cons_zero, List.set_cons_succ]
              refine wpAnyH_ready (rs := [30]) (by kernel_rfl) (by simp) ?_
              refine AllReadyH.cons (o := ⟨some 48, _, _, _, _, _⟩) rfl (fun K hK => ?_) AllReadyH.nil
              go_simp
              refine hK.out _ _ ?_ (fun hHeld => ?_)
              · exact XD (al D)
              clear hK K
              try simp only [Act.put, List.setIfInBounds_toArray, List.set_cons_zero, List.set_cons_succ]
              refine wpAnyH_ready (rs := [31]) (by kernel_rfl) (by simp) ?_
              refine AllReadyH.cons (o := ⟨some 49, _, _, _, _, _⟩) rfl (fun K hK => ?_) AllReadyH.nil
              refine step_append_lies _ (by rfl) (.tmp 18) (.tmp 48) 32 (by rfl) W0.heap.size 41 ti _ 4 72 Tryz.underlying32 hti hy0 hy1 hy2 rfl (by decide) (.slice lo ll.length lc) ll.length (ll.flatMap outC) (by rfl) ((RowO.on (RowO.on hrow A1) D).on (al1 _ _)) ⟨y29.heap.size, 0, none⟩ 3 3 [.string (⟨#[97, 100, 100]⟩ ++ ⟨xn.toArray⟩), .string ⟨xn.toArray⟩, .string ⟨#[33, 91, 33]⟩, .slice (some ⟨y9.heap.size, 0, none⟩) 1 1, .string (⟨#[117, 112, 100, 97, 116, 101]⟩ ++ ⟨xn.toArray⟩), .string ⟨xn.toArray⟩, .string ⟨#[33, 91, 33]⟩, .slice (some ⟨y21.heap.size + 1, 0, none⟩) 2 2, .string (⟨#[100, 101, 108, 101, 116, 101]⟩ ++ ⟨xn.toArray⟩), .string ⟨#[73, 110, 116]⟩, .string ⟨#[33]⟩, .slice (some ⟨y21.heap.size, 0, none⟩) 1 1] (by rfl) rfl (World.news_of_block (heap_alloc_new y29 _)) (by intro u hu; simp at hu; rcases hu with rfl | rfl | rfl | rfl | rfl | rfl | rfl | rfl | rfl | rfl | rfl | rfl <;> rfl) (by decide) (by unfold maxLen; omega) (by omega) (Nat.le_trans hzB (Nat.le_trans A1.size (al D).size)) _ rfl ?_
              intro g8 cp8 w8 own8 gr8 hor8 hlt8
              have G8 := gt_grown ((RowO.on (RowO.on hrow A1) D).on (al1 y29 _)) gr8
              have c10 := XS (G8.block _ _ (((al D).block _ (lt_of_block N9)).trans N9) (Or.inr (by simp))) (G8.block _ _ (((al D).block _ (lt_of_block N6)).trans N6) (Or.inr (by simp)))
              have O8 : Hid (w8.ownsRow W0.heap.size 41 4 (.slice (some ⟨g8, 0, none⟩) (ll.length + 3) cp8) (ll.length + 3) (ll.flatMap outC ++ [.string (⟨#[97, 100, 100]⟩ ++ ⟨xn.toArray⟩), .string ⟨xn.toArray⟩, .string ⟨#[33, 91, 33]⟩, .slice (some ⟨y9.heap.size, 0, none⟩) 1 1, .string (⟨#[117, 112, 100, 97, 116, 101]⟩ ++ ⟨xn.toArray⟩), .string ⟨xn.toArray⟩, .string ⟨#[33, 91, 33]⟩, .slice (some ⟨y21.heap.size + 1, 0, none⟩) 2 2, .string (⟨#[100, 101, 108, 101, 116, 101]⟩ ++ ⟨xn.toArray⟩), .string ⟨#[73, 110, 116]⟩, .string ⟨#[33]⟩, .slice (some ⟨y21.heap.size, 0, none⟩) 1 1])) := own8
              clear own8 gr8 hor8 hlt8
              refine hK.out _ _ ?_ (fun hHeld => ?_)
              · exact c10
              clear hK K
              try simp only [Act.put, List.setIfInBounds_toArray, List.set_cons_zero, List.set_cons_succ]
              refine wpAnyH_take (i := 32) (oi := ⟨some 3, _, _, _, _, _⟩) (v := ?_) rfl (by kernel_rfl) (by kernel_rfl) (by kernel_rfl) (fun _ _ _ h => h) (Or.inl ⟨by rfl, ?_⟩) (by assumption) ?_
              rotate_left
              · intro w' hSw
                (try dsimp only at hSw)
                go_simp
                (try with_reducible rfl)
              try simp only [Act.put, List.setIfInBounds_toArray, List.set_cons_zero, List.set_cons_succ]
              refine wpAnyH_done (by kernel_rfl) ?_ _
              go_wp2
              have hz1 : W0.heap.size ≤ W2.heap.size := Nat.le_trans hzB A1.size
              refine ⟨⟨_, j + 1, ll ++ [(⟨[97, 100, 100] ++ xn, xn, wAll, [⟨[105, 110, 112, 117, 116], cAdd ++ xn, wAll⟩]⟩, .slice (some ⟨y9.heap.size, 0, none⟩) 1 1), (⟨[117, 112, 100, 97, 116, 101] ++ xn, xn, wAll, [⟨[102, 105, 108, 116, 101, 114], xn ++ cFilter, wMust⟩, ⟨[115, 101, 116], cPatch ++ xn, wMust⟩]⟩, .slice (some ⟨y21.heap.size + 1, 0, none⟩) 2 2), (⟨[100, 101, 108, 101, 116, 101] ++ xn, intB, wMust, [⟨[102, 105, 108, 116, 101, 114], xn ++ cFilter, wMust⟩]⟩, .slice (some ⟨y21.heap.size, 0, none⟩) 1 1)], rfl, by simp, HK.out, RowO.pushL O8.out rfl ?_, by rw [List.map_append]; exact HD.out, ?_, (((HG.out.trans (gt_of A1)).trans (gt_of D)).trans (gt_of (al1 _ _))).trans G8⟩, ?_⟩
              · show [Value.string ⟨([97, 100, 100] ++ xn).toArray⟩, .string ⟨xn.toArray⟩, .string ⟨#[33, 91, 33]⟩, .slice (some ⟨y9.heap.size, 0, none⟩) 1 1, .string ⟨([117, 112, 100, 97, 116, 101] ++ xn).toArray⟩, .string ⟨xn.toArray⟩, .string ⟨#[33, 91, 33]⟩, .slice (some ⟨y21.heap.size + 1, 0, none⟩) 2 2, .string ⟨([100, 101, 108, 101, 116, 101] ++ xn).toArray⟩, .string ⟨#[73, 110, 116]⟩, .string ⟨#[33]⟩, .slice (some ⟨y21.heap.size, 0, none⟩) 1 1] = _
                rw [← bytes_add, ← bytes_add, ← bytes_add]
              · intro p hp
                rcases List.mem_append.1 hp with hp | hp
                · exact ((((HI.out p hp).on A1).on D).on (al1 _ _)).gt G8 (by decide)
                · simp only [List.mem_cons, List.not_mem_nil, or_false] at hp
                  rcases hp with rfl | rfl | rfl
                  · exact ((RowO.base I28 hz1).on (al1 _ _)).gt G8 (by decide)
                  · exact ((RowO.base I40 hz1).on (al1 _ _)).gt G8 (by decide)
                  · exact ((RowO.base I46 hz1).on (al1 _ _)).gt G8 (by decide)
              · have := HK.out
                simp [RowKit.intOf]
                omega
            refine AllReadyH.cons (o := ⟨some 46, _, _, _, _, _⟩) rfl (fun K hK => ?_) AllReadyH.nil
            go_simp
            refine hK.out _ _ ?_ (fun hHeld => ?_)
            · exact XD (al D)
            clear hK K
            try simp only [Act.put, List.setIfInBounds_toArray, List.set_cons_zero, List.set_cons_succ]
            refine wpAnyH_ready (rs := [21]) (by kernel_rfl) (by simp) ?_
            refine AllReadyH.cons (o := ⟨some 39, _, _, _, _, _⟩) rfl (fun K hK => ?_) AllReadyH.nil
            go_simp
            go_at_call 66
            (with_reducible refine (gin_any _ _ _ _).mono ?_)
            rintro e y21 ⟨rfl, b⟩
            replace I28 := RowO.on (RowO.on I28 (al1 _ _)) b
            have I46 := row46 D.size (new_on b)
            replace D := nx (al D) b
            clear b
            refine hK.out _ _ ?_ (fun hHeld => ?_)
            · exact XD D
            clear hK K
            try simp only [Act.put, List.setIfInBounds_toArray, List.set_cons_zero, List.set_cons_succ]
            refine wpAnyH_ready (rs := [22]) (by kernel_rfl) (by simp) ?_
            refine AllReadyH.cons (o := ⟨some 40, _, _, _, _, _⟩) rfl (fun K hK => ?_) AllReadyH.nil
            go_simp
            refine hK.out _ _ ?_ (fun hHeld => ?_)
            · exact XD (al D)
            clear hK K
            try simp only [Act.put, List.setIfInBounds_toArray, List.set_cons_zero, List.set_cons_succ]
            refine wpAnyH_ready (rs := [23]) (by kernel_rfl) (by simp) ?_
            refine AllReadyH.cons (o := ⟨some 41, _, _, _, _, _⟩) rfl (fun K hK => ?_) AllReadyH.nil
            go_simp
            go_at_call 34
            (with_reducible refine (gout_any _ _ _ _ _ _ _).mono ?_)
            rintro e y23 ⟨rfl, b⟩
            replace I28 := RowO.on (RowO.on I28 (al1 _ _)) b
            replace I46 := RowO.on (RowO.on I46 (al1 _ _)) b
            have I40 := row40 D.size (new_on b)
            replace D := nx (al D) b
            clear b
            refine hK.out _ _ ?_ (fun hHeld => ?_)
            · exact XD D
            clear hK K
            try simp only [Act.put, List.setIfInBounds_toArray, List.set_cons_zero, List.set_cons_succ]
            refine wpAnyH_ready (rs := [29]) (by kernel_rfl) (by simp) ?_
            refine AllReadyH.cons (o := ⟨some 47, _, _, _, _, _⟩) rfl (fun K hK => ?_) AllReadyH.nil
            go_simp
            go_at_call 34
            (with_reducible refine (gout_any _ _ _ _ _ _ _).mono ?_)
            rintro e y29 ⟨rfl, b⟩
            replace I28 := RowO.on I28 b
            replace I46 := RowO.on I46 b
            replace I40 := RowO.on I40 b
            replace D := nx D b
            clear b
            refine hK.out _ _ ?_ (fun hHeld => ?_)
            · exact XD D
            clear hK K
            try simp only [Act.put, List.setIfInBounds_toArray, List.set_cons_zero, List.set_cons_succ]
            refine wpAnyH_ready (rs := [30]) (by kernel_rfl) (by simp) ?_
            refine AllReadyH.cons (o := ⟨some 48, _, _, _, _, _⟩) rfl (fun K hK => ?_) AllReadyH.nil
            go_simp
            refine hK.out _ _ ?_ (fun hHeld => ?_)
            · exact XD (al D)
            clear hK K
            try simp only [Act.put, List.setIfInBounds_toArray, List.set_cons_zero, List.set_cons_succ]
            refine wpAnyH_ready (rs := [31]) (by kernel_rfl) (by simp) ?_
            refine AllReadyH.cons (o := ⟨some 49, _, _, _, _, _⟩) rfl (fun K hK => ?_) AllReadyH.nil
            refine step_append_lies _ (by rfl) (.tmp 18) (.tmp 48) 32 (by rfl) W0.heap.size 41 ti _ 4 72 Tryz.underlying32 hti hy0 hy1 hy2 rfl (by decide) (.slice lo ll.length lc) ll.length (ll.flatMap outC) (by rfl) ((RowO.on (RowO.on hrow A1) D).on (al1 _ _)) ⟨y29.heap.size, 0, none⟩ 3 3 [.string (⟨#[97, 100, 100]⟩ ++ ⟨xn.toArray⟩), .string ⟨xn.toArray⟩, .string ⟨#[33, 91, 33]⟩, .slice (some ⟨y9.heap.size, 0, none⟩) 1 1, .string (⟨#[117, 112, 100, 97, 116, 101]⟩ ++ ⟨xn.toArray⟩), .string ⟨xn.toArray⟩, .string ⟨#[33, 91, 33]⟩, .slice (some ⟨y21.heap.size, 0, none⟩) 2 2, .string (⟨#[100, 101, 108, 101, 116, 101]⟩ ++ ⟨xn.toArray⟩), .string ⟨#[73, 110, 116]⟩, .string ⟨#[33]⟩, .slice (some ⟨y11.heap.size, 0, none⟩) 1 1] (by rfl) rfl (World.news_of_block (heap_alloc_new y29 _)) (by intro u hu; simp at hu; rcases hu with rfl | rfl | rfl | rfl | rfl | rfl | rfl | rfl | rfl | rfl | rfl | rfl <;> rfl) (by decide) (by unfold maxLen; omega) (by omega) (Nat.le_trans hzB (Nat.le_trans A1.size (al D).size)) _ rfl ?_
            intro g8 cp8 w8 own8 gr8 hor8 hlt8
            have G8 := gt_grown ((RowO.on (RowO.on hrow A1) D).on (al1 y29 _)) gr8
            have c10 := XS (G8.block _ _ (((al D).block _ (lt_of_block N9)).trans N9) (Or.inr (by simp))) (G8.block _ _ (((al D).block _ (lt_of_block N6)).trans N6) (Or.inr (by simp)))
            have O8 : Hid (w8.ownsRow W0.heap.size 41 4 (.slice (some ⟨g8, 0, none⟩) (ll.length + 3) cp8) (ll.length + 3) (ll.flatMap outC ++ [.string (⟨#[97, 100, 100]⟩ ++ ⟨xn.toArray⟩), .string ⟨xn.toArray⟩, .string ⟨#[33, 91, 33]⟩, .slice (some ⟨y9.heap.size, 0, none⟩) 1 1, .string (⟨#[117, 112, 100, 97, 116, 101]⟩ ++ ⟨xn.toArray⟩), .string ⟨xn.toArray⟩, .string ⟨#[33, 91, 33]⟩, .slice (some ⟨y21.heap.size, 0, none⟩) 2 2, .string (⟨#[100, 101, 108, 101, 116, 101]⟩ ++ ⟨xn.toArray⟩), .string ⟨#[73, 110, 116]⟩, .string ⟨#[33]⟩, .slice (some ⟨y11.heap.size, 0, none⟩) 1 1])) := own8
            clear own8 gr8 hor8 hlt8
            refine hK.out _ _ ?_ (fun hHeld => ?_)
            · exact c10
            clear hK K
            try simp only [Act.put, List.setIfInBounds_toArray, List.set_cons_zero, List.set_cons_succ]
            refine wpAnyH_take (i := 32) (oi := ⟨some 3, _, _, _, _, _⟩) (v := ?_) rfl (by kernel_rfl) (by kernel_rfl) (by kernel_rfl) (fun _ _ _ h => h) (Or.inl ⟨by rfl, ?_⟩) (by assumption) ?_
            rotate_left
            · intro w' hSw
              (try dsimp only at hSw)
              go_simp
              (try with_reducible rfl)
            try simp only [Act.put, List.setIfInBounds_toArray, List.set_cons_zero, List.set_cons_succ]
            refine wpAnyH_done (by kernel_rfl) ?_ _
            go_wp2
            have hz1 : W0.heap.size ≤ W2.heap.size := Nat.le_trans hzB A1.size
            refine ⟨⟨_, j + 1, ll ++ [(⟨[97, 100, 100] ++ xn, xn, wAll, [⟨[105, 110, 112, 117, 116], cAdd ++ xn, wAll⟩]⟩, .slice (some ⟨y9.heap.size, 0, none⟩) 1 1), (⟨[117, 112, 100, 97, 116, 101] ++ xn, xn, wAll, [⟨[102, 105, 108, 116, 101, 114], xn ++ cFilter, wMust⟩, ⟨[115, 101, 116], cPatch ++ xn, wMust⟩]⟩, .slice (some ⟨y21.heap.size, 0, none⟩) 2 2), (⟨[100, 101, 108, 101, 116, 101] ++ xn, intB, wMust, [⟨[102, 105, 108, 116, 101, 114], xn ++ cFilter, wMust⟩]⟩, .slice (some ⟨y11.heap.size, 0, none⟩) 1 1)], rfl, by simp, HK.out, RowO.pushL O8.out rfl ?_, by rw [List.map_append]; exact HD.out, ?_, (((HG.out.trans (gt_of A1)).trans (gt_of D)).trans (gt_of (al1 _ _))).trans G8⟩, ?_⟩
            · show [Value.string ⟨([97, 100, 100] ++ xn).toArray⟩, .string ⟨xn.toArray⟩, .string ⟨#[33, 91, 33]⟩, .slice (some ⟨y9.heap.size, 0, none⟩) 1 1, .string ⟨([117, 112, 100, 97, 116, 101] ++ xn).toArray⟩, .string ⟨xn.toArray⟩, .string ⟨#[33, 91, 33]⟩, .slice (some ⟨y21.heap.size, 0, none⟩) 2 2, .string ⟨([100, 101, 108, 101, 116, 101] ++ xn).toArray⟩, .string ⟨#[73, 110, 116]⟩, .string ⟨#[33]⟩, .slice (some ⟨y11.heap.size, 0, none⟩) 1 1] = _
              rw [← bytes_add, ← bytes_add, ← bytes_add]
            · intro p hp
              rcases List.mem_append.1 hp with hp | hp
              · exact ((((HI.out p hp).on A1).on D).on (al1 _ _)).gt G8 (by decide)
              · simp only [List.mem_cons, List.not_mem_nil, or_false] at hp
                rcases hp with rfl | rfl | rfl
                · exact ((RowO.base I28 hz1).on (al1 _ _)).gt G8 (by decide)
                · exact ((RowO.base I40 hz1).on (al1 _ _)).gt G8 (by decide)
                · exact ((RowO.base I46 hz1).on (al1 _ _)).gt G8 (by decide)
            · have := HK.out
              simp [RowKit.intOf]
              omega
          refine AllReadyH.cons (o := ⟨some 46, _, _, _, _, _⟩) rfl (fun K hK => ?_) AllReadyH.nil
          go_simp
          refine hK.out _ _ ?_ (fun hHeld => ?_)
          · exact XD (al (al D))
          clear hK K
          try simp only [Act.put, List.setIfInBounds_toArray, List.set_cons_zero, List.set_cons_succ]
          refine wpAnyH_ready (rs := [11]) (by kernel_rfl) (by simp) ?_
          refine AllReadyH.cons (o := ⟨some 29, _, _, _, _, _⟩) rfl (fun K hK => ?_) AllReadyH.nil
          go_simp
          go_at_call 34
          (with_reducible refine (gout_any _ _ _ _ _ _ _).mono ?_)
          rintro e y11 ⟨rfl, b⟩
          have I28 := row28 D.size ((new_on2 b).1)
          have I46 := row46 (Nat.le_succ_of_le D.size) ((new_on2 b).2)
          replace D := nx (al (al D)) b
          clear b
          refine hK.out _ _ ?_ (fun hHeld => ?_)
          · exact XD D
          clear hK K
          try simp only [Act.put, List.setIfInBounds_toArray, List.set_cons_zero, List.set_cons_succ]
          refine wpAnyH_ready (rs := [21]) (by kernel_rfl) (by simp) ?_
          refine AllReadyH.cons (o := ⟨some 39, _, _, _, _, _⟩) rfl (fun K hK => ?_) AllReadyH.nil
          go_simp
          go_at_call 66
          (with_reducible refine (gin_any _ _ _ _).mono ?_)
          rintro e y21 ⟨rfl, b⟩
          replace I28 := RowO.on I28 b
          replace I46 := RowO.on I46 b
          replace D := nx D b
          clear b
          refine hK.out _ _ ?_ (fun hHeld => ?_)
          · exact XD D
          clear hK K
          try simp only [Act.put, List.setIfInBounds_toArray, List.set_cons_zero, List.set_cons_succ]
          refine wpAnyH_ready (rs := [22]) (by kernel_rfl) (by simp) ?_
          refine AllReadyH.cons (o := ⟨some 40, _, _, _, _, _⟩) rfl (fun K hK => ?_) AllReadyH.nil
          go_simp
          refine hK.out _ _ ?_ (fun hHeld => ?_)
          · exact XD (al D)
          clear hK K
          try simp only [Act.put, List.setIfInBounds_toArray, List.set_cons_zero, List.set_cons_succ]
          refine wpAnyH_ready (rs := [23]) (by kernel_rfl) (by simp) ?_
          refine AllReadyH.cons (o := ⟨some 41, _, _, _, _, _⟩) rfl (fun K hK => ?_) AllReadyH.nil
          go_simp
          go_at_call 34
          (with_reducible refine (gout_any _ _ _ _ _ _ _).mono ?_)
          rintro e y23 ⟨rfl, b⟩
          replace I28 := RowO.on (RowO.on I28 (al1 _ _)) b
          replace I46 := RowO.on (RowO.on I46 (al1 _ _)) b
          have I40 := row40 D.size (new_on b)
          replace D := nx (al D) b
          clear b
          refine hK.out _ _ ?_ (fun hHeld => ?_)
          · exact XD D
          clear hK K
          try simp only [Act.put, List.setIfInBounds_toArray, List.set_cons_zero, List.set_cons_succ]
          refine wpAnyH_ready (rs := [29]) (by kernel_rfl) (by simp) ?_
          refine AllReadyH.cons (o := ⟨some 47, _, _, _, _, _⟩) rfl (fun K hK => ?_) AllReadyH.nil
          go_simp
          go_at_call 34
          (with_reducible refine (gout_any _ _ _ _ _ _ _).mono ?_)
          rintro e y29 ⟨rfl, b⟩
          replace I28 := RowO.on I28 b
          replace I46 := RowO.on I46 b
          replace I40 := RowO.on I40 b
          replace D := nx D b
          clear b
          refine hK.out _ _ ?_ (fun hHeld => ?_)
          · exact XD D
          clear hK K
          try simp only [Act.put, List.setIfInBounds_toArray, List.set_cons_zero, List.set_cons_succ]
          refine wpAnyH_ready (rs := [30]) (by kernel_rfl) (by simp) ?_
          refine AllReadyH.cons (o := ⟨some 48, _, _, _, _, _⟩) rfl (fun K hK => ?_) AllReadyH.nil
          go_simp
          refine hK.out _ _ ?_ (fun hHeld => ?_)
          · exact XD (al D)
          clear hK K
          try simp only [Act.put, List.setIfInBounds_toArray, List.set_cons_zero, List.set_cons_succ]
          refine wpAnyH_ready (rs := [31]) (by kernel_rfl) (by simp) ?_
          refine AllReadyH.cons (o := ⟨some 49, _, _, _, _, _⟩) rfl (fun K hK => ?_) AllReadyH.nil
          refine step_append_lies _ (by rfl) (.tmp 18) (.tmp 48) 32 (by rfl) W0.heap.size 41 ti _ 4 72 Tryz.underlying32 hti hy0 hy1 hy2 rfl (by decide) (.slice lo ll.length lc) ll.length (ll.flatMap outC) (by rfl) ((RowO.on (RowO.on hrow A1) D).on (al1 _ _)) ⟨y29.heap.size, 0, none⟩ 3 3 [.string (⟨#[97, 100, 100]⟩ ++ ⟨xn.toArray⟩), .string ⟨xn.toArray⟩, .string ⟨#[33, 91, 33]⟩, .slice (some ⟨y9.heap.size, 0, none⟩) 1 1, .string (⟨#[117, 112, 100, 97, 116, 101]⟩ ++ ⟨xn.toArray⟩), .string ⟨xn.toArray⟩, .string ⟨#[33, 91, 33]⟩, .slice (some ⟨y21.heap.size, 0, none⟩) 2 2, .string (⟨#[100, 101, 108, 101, 116, 101]⟩ ++ ⟨xn.toArray⟩), .string ⟨#[73, 110, 116]⟩, .string ⟨#[33]⟩, .slice (some ⟨y9.heap.size + 1, 0, none⟩) 1 1] (by rfl) rfl (World.news_of_block (heap_alloc_new y29 _)) (by intro u hu; simp at hu; rcases hu with rfl | rfl | rfl | rfl | rfl | rfl | rfl | rfl | rfl | rfl | rfl | rfl <;> rfl) (by decide) (by unfold maxLen; omega) (by omega) (Nat.le_trans hzB (Nat.le_trans A1.size (al D).size)) _ rfl ?_
          intro g8 cp8 w8 own8 gr8 hor8 hlt8
          have G8 := gt_grown ((RowO.on (RowO.on hrow A1) D).on (al1 y29 _)) gr8
          have c10 := XS (G8.block _ _ (((al D).block _ (lt_of_block N9)).trans N9) (Or.inr (by simp))) (G8.block _ _ (((al D).block _ (lt_of_block N6)).trans N6) (Or.inr (by simp)))
          have O8 : Hid (w8.ownsRow W0.heap.size 41 4 (.slice (some ⟨g8, 0, none⟩) (ll.length + 3) cp8) (ll.length + 3) (ll.flatMap outC ++ [.string (⟨#[97, 100, 100]⟩ ++ ⟨xn.toArray⟩), .string ⟨xn.toArray⟩, .string ⟨#[33, 91, 33]⟩, .slice (some ⟨y9.heap.size, 0, none⟩) 1 1, .string (⟨#[117, 112, 100, 97, 116, 101]⟩ ++ ⟨xn.toArray⟩), .string ⟨xn.toArray⟩, .string ⟨#[33, 91, 33]⟩, .slice (some ⟨y21.heap.size, 0, none⟩) 2 2, .string (⟨#[100, 101, 108, 101, 116, 101]⟩ ++ ⟨xn.toArray⟩), .string ⟨#[73, 110, 116]⟩, .string ⟨#[33]⟩, .slice (some ⟨y9.heap.size + 1, 0, none⟩) 1 1])) := own8
          clear own8 gr8 hor8 hlt8
          refine hK.out _ _ ?_ (fun hHeld => ?_)
          · exact c10
          clear hK K
          try simp only [Act.put, List.setIfInBounds_toArray, List.set_cons_zero, List.set_cons_succ]
          refine wpAnyH_take (i := 32) (oi := ⟨some 3, _, _, _, _, _⟩) (v := ?_) rfl (by kernel_rfl) (by kernel_rfl) (by kernel_rfl) (fun _ _ _ h => h) (Or.inl ⟨by rfl, ?_⟩) (by assumption) ?_
          rotate_left
          · intro w' hSw
            (try dsimp only at hSw)
            go_simp
            (try with_reducible rfl)
          try simp only [Act.put, List.setIfInBounds_toArray, List.set_cons_zero, List.set_cons_succ]
          refine wpAnyH_done (by kernel_rfl) ?_ _
          go_wp2
          have hz1 : W0.heap.size ≤ W2.heap.size := Nat.le_trans hzB A1.size
          refine ⟨⟨_, j + 1, ll ++ [(⟨[97, 100, 100] ++ xn, xn, wAll, [⟨[105, 110, 112, 117, 116], cAdd ++ xn, wAll⟩]⟩, .slice (some ⟨y9.heap.size, 0, none⟩) 1 1), (⟨[117, 112, 100, 97, 116, 101] ++ xn, xn, wAll, [⟨[102, 105, 108, 116, 101, 114], xn ++ cFilter, wMust⟩, ⟨[115, 101, 116], cPatch ++ xn, wMust⟩]⟩, .slice (some ⟨y21.heap.size, 0, none⟩) 2 2), (⟨[100, 101, 108, 101, 116, 101] ++ xn, intB, wMust, [⟨[102, 105, 108, 116, 101, 114], xn ++ cFilter, wMust⟩]⟩, .slice (some ⟨y9.heap.size + 1, 0, none⟩) 1 1)], rfl, by simp, HK.out, RowO.pushL O8.out rfl ?_, by rw [List.map_append]; exact HD.out, ?_, (((HG.out.trans (gt_of A1)).trans (gt_of D)).trans (gt_of (al1 _ _))).trans G8⟩, ?_⟩
          · show [Value.string ⟨([97, 100, 100] ++ xn).toArray⟩, .string ⟨xn.toArray⟩, .string ⟨#[33, 91, 33]⟩, .slice (some ⟨y9.heap.size, 0, none⟩) 1 1, .string ⟨([117, 112, 100, 97, 116, 101] ++ xn).toArray⟩, .string ⟨xn.toArray⟩, .string ⟨#[33, 91, 33]⟩, .slice (some ⟨y21.heap.size, 0, none⟩) 2 2, .string ⟨([100, 101, 108, 101, 116, 101] ++ xn).toArray⟩, .string ⟨#[73, 110, 116]⟩, .string ⟨#[33]⟩, .slice (some ⟨y9.heap.size + 1, 0, none⟩) 1 1] = _
            rw [← bytes_add, ← bytes_add, ← bytes_add]
          · intro p hp
            rcases List.mem_append.1 hp with hp | hp
            · exact ((((HI.out p hp).on A1).on D).on (al1 _ _)).gt G8 (by decide)
            · simp only [List.mem_cons, List.not_mem_nil, or_false] at hp
              rcases hp with rfl | rfl | rfl
              · exact ((RowO.base I28 hz1).on (al1 _ _)).gt G8 (by decide)
              · exact ((RowO.base I40 hz1).on (al1 _ _)).gt G8 (by decide)
              · exact ((RowO.base I46 hz1).on (al1 _ _)).gt G8 (by decide)
          · have := HK.out
            simp [RowKit.intOf]
            omega
        refine AllReadyH.cons (o := ⟨some 46, _, _, _, _, _⟩) rfl (fun K hK => ?_) AllReadyH.nil
        go_simp
        refine hK.out _ _ ?_ (fun hHeld => ?_)
        · exact XD (al D)
        clear hK K
        try simp only [Act.put, List.setIfInBounds_toArray, List.set_cons_zero, List.set_cons_succ]
        refine wpAnyH_ready (rs := [10]) (by kernel_rfl) (by simp) ?_
        refine AllReadyH.cons (o := ⟨some 28, _, _, _, _, _⟩) rfl (fun K hK => ?_) AllReadyH.nil
        go_simp
        refine hK.out _ _ ?_ (fun hHeld => ?_)
        · exact XD (al (al D))
        clear hK K
        try simp only [Act.put, List.setIfInBounds_toArray, List.set_cons_zero, List.set_cons_succ]
        refine wpAnyH_ready (rs := [11]) (by kernel_rfl) (by simp) ?_
        refine AllReadyH.cons (o := ⟨some 29, _, _, _, _, _⟩) rfl (fun K hK => ?_) AllReadyH.nil
        go_simp
        go_at_call 34
        (with_reducible refine (gout_any _ _ _ _ _ _ _).mono ?_)
        rintro e y11 ⟨rfl, b⟩
        have I46 := row46 D.size ((new_on2 b).1)
        have I28 := row28 (Nat.le_succ_of_le D.size) ((new_on2 b).2)
        replace D := nx (al (al D)) b
        clear b
        refine hK.out _ _ ?_ (fun hHeld => ?_)
        · exact XD D
        clear hK K
        try simp only [Act.put, List.setIfInBounds_toArray, List.set_cons_zero, List.set_cons_succ]
        refine wpAnyH_ready (rs := [21]) (by kernel_rfl) (by simp) ?_
        refine AllReadyH.cons (o := ⟨some 39, _, _, _, _, _⟩) rfl (fun K hK => ?_) AllReadyH.nil
        go_simp
        go_at_call 66
        (with_reducible refine (gin_any _ _ _ _).mono ?_)
        rintro e y21 ⟨rfl, b⟩
        replace I46 := RowO.on I46 b
        replace I28 := RowO.on I28 b
        replace D := nx D b
        clear b
        refine hK.out _ _ ?_ (fun hHeld => ?_)
        · exact XD D
        clear hK K
        try simp only [Act.put, List.setIfInBounds_toArray, List.set_cons_zero, List.set_cons_succ]
        refine wpAnyH_ready (rs := [22]) (by kernel_rfl) (by simp) ?_
        refine AllReadyH.cons (o := ⟨some 40, _, _, _, _, _⟩) rfl (fun K hK => ?_) AllReadyH.nil
        go_simp
        refine hK.out _ _ ?_ (fun hHeld => ?_)
        · exact XD (al D)
        clear hK K
        try simp only [Act.put, List.setIfInBounds_toArray, List.set_cons_zero, List.set_cons_succ]
        refine wpAnyH_ready (rs := [23]) (by kernel_rfl) (by simp) ?_
        refine AllReadyH.cons (o := ⟨some 41, _, _, _, _, _⟩) rfl (fun K hK => ?_) AllReadyH.nil
        go_simp
        go_at_call 34
        (with_reducible refine (gout_any _ _ _ _ _ _ _).mono ?_)
        rintro e y23 ⟨rfl, b⟩
        replace I46 := RowO.on (RowO.on I46 (al1 _ _)) b
        replace I28 := RowO.on (RowO.on I28 (al1 _ _)) b
        have I40 := row40 D.size (new_on b)
        replace D := nx (al D) b
        clear b
        refine hK.out _ _ ?_ (fun hHeld => ?_)
        · exact XD D
        clear hK K
        try simp only [Act.put, List.setIfInBounds_toArray, List.set_cons_zero, List.set_cons_succ]
        refine wpAnyH_ready (rs := [29]) (by kernel_rfl) (by simp) ?_
        refine AllReadyH.cons (o := ⟨some 47, _, _, _, _, _⟩) rfl (fun K hK => ?_) AllReadyH.nil
        go_simp
        go_at_call 34
        (with_reducible refine (gout_any _ _ _ _ _ _ _).mono ?_)
        rintro e y29 ⟨rfl, b⟩
        replace I46 := RowO.on I46 b
        replace I28 := RowO.on I28 b
        replace I40 := RowO.on I40 b
        replace D := nx D b
        clear b
        refine hK.out _ _ ?_ (fun hHeld => ?_)
        · exact XD D
        clear hK K
        try simp only [Act.put, List.setIfInBounds_toArray, List.set_cons_zero, List.set_cons_succ]
        refine wpAnyH_ready (rs := [30]) (by kernel_rfl) (by simp) ?_
        refine AllReadyH.cons (o := ⟨some 48, _, _, _, _, _⟩) rfl (fun K hK => ?_) AllReadyH.nil
        go_simp
        refine hK.out _ _ ?_ (fun hHeld => ?_)
        · exact XD (al D)
        clear hK K
        try simp only [Act.put, List.setIfInBounds_toArray, List.set_cons_zero, List.set_cons_succ]
        refine wpAnyH_ready (rs := [31]) (by kernel_rfl) (by simp) ?_
        refine AllReadyH.cons (o := ⟨some 49, _, _, _, _, _⟩) rfl (fun K hK => ?_) AllReadyH.nil
        refine step_append_lies _ (by rfl) (.tmp 18) (.tmp 48) 32 (by rfl) W0.heap.size 41 ti _ 4 72 Tryz.underlying32 hti hy0 hy1 hy2 rfl (by decide) (.slice lo ll.length lc) ll.length (ll.flatMap outC) (by rfl) ((RowO.on (RowO.on hrow A1) D).on (al1 _ _)) ⟨y29.heap.size, 0, none⟩ 3 3 [.string (⟨#[97, 100, 100]⟩ ++ ⟨xn.toArray⟩), .string ⟨xn.toArray⟩, .string ⟨#[33, 91, 33]⟩, .slice (some ⟨y9.heap.size + 1, 0, none⟩) 1 1, .string (⟨#[117, 112, 100, 97, 116, 101]⟩ ++ ⟨xn.toArray⟩), .string ⟨xn.toArray⟩, .string ⟨#[33, 91, 33]⟩, .slice (some ⟨y21.heap.size, 0, none⟩) 2 2, .string (⟨#[100, 101, 108, 101, 116, 101]⟩ ++ ⟨xn.toArray⟩), .string ⟨#[73, 110, 116]⟩, .string ⟨#[33]⟩, .slice (some ⟨y9.heap.size, 0, none⟩) 1 1] (by rfl) rfl (World.news_of_block (heap_alloc_new y29 _)) (by intro u hu; simp at hu; rcases hu with rfl | rfl | rfl | rfl | rfl | rfl | rfl | rfl | rfl | rfl | rfl | rfl <;> rfl) (by decide) (by unfold maxLen; omega) (by omega) (Nat.le_trans hzB (Nat.le_trans A1.size (al D).size)) _ rfl ?_
        intro g8 cp8 w8 own8 gr8 hor8 hlt8
        have G8 := gt_grown ((RowO.on (RowO.on hrow A1) D).on (al1 y29 _)) gr8
        have c10 := XS (G8.block _ _ (((al D).block _ (lt_of_block N9)).trans N9) (Or.inr (by simp))) (G8.block _ _ (((al D).block _ (lt_of_block N6)).trans N6) (Or.inr (by simp)))
        have O8 : Hid (w8.ownsRow W0.heap.size 41 4 (.slice (some ⟨g8, 0, none⟩) (ll.length + 3) cp8) (ll.length + 3) (ll.flatMap outC ++ [.string (⟨#[97, 100, 100]⟩ ++ ⟨xn.toArray⟩), .string ⟨xn.toArray⟩, .string ⟨#[33, 91, 33]⟩, .slice (some ⟨y9.heap.size + 1, 0, none⟩) 1 1, .string (⟨#[117, 112, 100, 97, 116, 101]⟩ ++ ⟨xn.toArray⟩), .string ⟨xn.toArray⟩, .string ⟨#[33, 91, 33]⟩, .slice (some ⟨y21.heap.size, 0, none⟩) 2 2, .string (⟨#[100, 101, 108, 101, 116, 101]⟩ ++ ⟨xn.toArray⟩), .string ⟨#[73, 110, 116]⟩, .string ⟨#[33]⟩, .slice (some ⟨y9.heap.size, 0, none⟩) 1 1])) := own8
        clear own8 gr8 hor8 hlt8
        refine hK.out _ _ ?_ (fun hHeld => ?_)
        · exact c10
        clear hK K
        try simp only [Act.put, List.setIfInBounds_toArray, List.set_cons_zero, List.set_cons_succ]
        refine wpAnyH_take (i := 32) (oi := ⟨some 3, _, _, _, _, _⟩) (v := ?_) rfl (by kernel_rfl) (by kernel_rfl) (by kernel_rfl) (fun _ _ _ h => h) (Or.inl ⟨by rfl, ?_⟩) (by assumption) ?_
        rotate_left
        · intro w' hSw
          (try dsimp only at hSw)
          go_simp
          (try with_reducible rfl)
        try simp only [Act.put, List.setIfInBounds_toArray, List.set_cons_zero, List.set_cons_succ]
        refine wpAnyH_done (by kernel_rfl) ?_ _
        go_wp2
        have hz1 : W0.heap.size ≤ W2.heap.size := Nat.le_trans hzB A1.size
        refine ⟨⟨_, j + 1, ll ++ [(⟨[97, 100, 100] ++ xn, xn, wAll, [⟨[105, 110, 112, 117, 116], cAdd ++ xn, wAll⟩]⟩, .slice (some ⟨y9.heap.size + 1, 0, none⟩) 1 1), (⟨[117, 112, 100, 97, 116, 101] ++ xn, xn, wAll, [⟨[102, 105, 108, 116, 101, 114], xn ++ cFilter, wMust⟩, ⟨[115, 101, 116], cPatch ++ xn, wMust⟩]⟩, .slice (some ⟨y21.heap.size, 0, none⟩) 2 2), (⟨[100, 101, 108, 101, 116, 101] ++ xn, intB, wMust, [⟨[102, 105, 108, 116, 101, 114], xn ++ cFilter, wMust⟩]⟩, .slice (some ⟨y9.heap.size, 0, none⟩) 1 1)], rfl, by simp, HK.out, RowO.pushL O8.out rfl ?_, by rw [List.map_append]; exact HD.out, ?_, (((HG.out.trans (gt_of A1)).trans (gt_of D)).trans (gt_of (al1 _ _))).trans G8⟩, ?_⟩
        · show [Value.string ⟨([97, 100, 100] ++ xn).toArray⟩, .string ⟨xn.toArray⟩, .string ⟨#[33, 91, 33]⟩, .slice (some ⟨y9.heap.size + 1, 0, none⟩) 1 1, .string ⟨([117, 112, 100, 97, 116, 101] ++ xn).toArray⟩, .string ⟨xn.toArray⟩, .string ⟨#[33, 91, 33]⟩, .slice (some ⟨y21.heap.size, 0, none⟩) 2 2, .string ⟨([100, 101, 108, 101, 116, 101] ++ xn).toArray⟩, .string ⟨#[73, 110, 116]⟩, .string ⟨#[33]⟩, .slice (some ⟨y9.heap.size, 0, none⟩) 1 1] = _
          rw [← bytes_add, ← bytes_add, ← bytes_add]
        · intro p hp
          rcases List.mem_append.1 hp with hp | hp
          · exact ((((HI.out p hp).on A1).on D).on (al1 _ _)).gt G8 (by decide)
          · simp only [List.mem_cons, List.not_mem_nil, or_false] at hp
            rcases hp with rfl | rfl | rfl
            · exact ((RowO.base I28 hz1).on (al1 _ _)).gt G8 (by decide)
            · exact ((RowO.base I40 hz1).on (al1 _ _)).gt G8 (by decide)
            · exact ((RowO.base I46 hz1).on (al1 _ _)).gt G8 (by decide)
        · have := HK.out
          simp [RowKit.intOf]
          omega
      refine AllReadyH.cons (o := ⟨some 46, _, _, _, _, _⟩) rfl (fun K hK => ?_) AllReadyH.nil
      go_simp
      refine hK.out _ _ ?_ (fun hHeld => ?_)
      · exact XD (al D)
      clear hK K
      try simp only [Act.put, List.setIfInBounds_toArray, List.set_cons_zero, List.set_cons_succ]
      refine wpAnyH_ready (rs := [9]) (by kernel_rfl) (by simp) ?_
      refine AllReadyH.cons (o := ⟨some 27, _, _, _, _, _⟩) rfl (fun K hK => ?_) AllReadyH.nil
      go_simp
      go_at_call 66
      (with_reducible refine (gin_any _ _ _ _).mono ?_)
      rintro e y9 ⟨rfl, b⟩
      have I46 := row46 D.size (new_on b)
      replace D := nx (al D) b
      clear b
      refine hK.out _ _ ?_ (fun hHeld => ?_)
      · exact XD D
      clear hK K
      try simp only [Act.put, List.setIfInBounds_toArray, List.set_cons_zero, List.set_cons_succ]
      refine wpAnyH_ready (rs := [10]) (by kernel_rfl) (by simp) ?_
      refine AllReadyH.cons (o := ⟨some 28, _, _, _, _, _⟩) rfl (fun K hK => ?_) AllReadyH.nil
      go_simp
      refine hK.out _ _ ?_ (fun hHeld => ?_)
      · exact XD (al D)
      clear hK K
      try simp only [Act.put, List.setIfInBounds_toArray, List.set_cons_zero, List.set_cons_succ]
      refine wpAnyH_ready (rs := [11]) (by kernel_rfl) (by simp) ?_
      refine AllReadyH.cons (o := ⟨some 29, _, _, _, _, _⟩) rfl (fun K hK => ?_) AllReadyH.nil
      go_simp
      go_at_call 34
      (with_reducible refine (gout_any _ _ _ _ _ _ _).mono ?_)
      rintro e y11 ⟨rfl, b⟩
      replace I46 := RowO.on (RowO.on I46 (al1 _ _)) b
      have I28 := row28 D.size (new_on b)
      replace D := nx (al D) b
      clear b
      refine hK.out _ _ ?_ (fun hHeld => ?_)
      · exact XD D
      clear hK K
      try simp only [Act.put, List.setIfInBounds_toArray, List.set_cons_zero, List.set_cons_succ]
      refine wpAnyH_ready (rs := [21]) (by kernel_rfl) (by simp) ?_
      refine AllReadyH.cons (o := ⟨some 39, _, _, _, _, _⟩) rfl (fun K hK => ?_) AllReadyH.nil
      go_simp
      go_at_call 66
      (with_reducible refine (gin_any _ _ _ _).mono ?_)
      rintro e y21 ⟨rfl, b⟩
      replace I46 := RowO.on I46 b
      replace I28 := RowO.on I28 b
      replace D := nx D b
      clear b
      refine hK.out _ _ ?_ (fun hHeld => ?_)
      · exact XD D
      clear hK K
      try simp only [Act.put, List.setIfInBounds_toArray, List.set_cons_zero, List.set_cons_succ]
      refine wpAnyH_ready (rs := [22]) (by kernel_rfl) (by simp) ?_
      refine AllReadyH.cons (o := ⟨some 40, _, _, _, _, _⟩) rfl (fun K hK => ?_) AllReadyH.nil
      go_simp
      refine hK.out _ _ ?_ (fun hHeld => ?_)
      · exact XD (al D)
      clear hK K
      try simp only [Act.put, List.setIfInBounds_toArray, List.set_cons_zero, List.set_cons_succ]
      refine wpAnyH_ready (rs := [23]) (by kernel_rfl) (by simp) ?_
      refine AllReadyH.cons (o := ⟨some 41, _, _, _, _, _⟩) rfl (fun K hK => ?_) AllReadyH.nil
      go_simp
      go_at_call 34
      (with_reducible refine (gout_any _ _ _ _ _ _ _).mono ?_)
      rintro e y23 ⟨rfl, b⟩
      replace I46 := RowO.on (RowO.on I46 (al1 _ _)) b
      replace I28 := RowO.on (RowO.on I28 (al1 _ _)) b
      have I40 := row40 D.size (new_on b)
      replace D := nx (al D) b
      clear b
      refine hK.out _ _ ?_ (fun hHeld => ?_)
      · exact XD D
      clear hK K
      try simp only [Act.put, List.setIfInBounds_toArray, List.set_cons_zero, List.set_cons_succ]
      refine wpAnyH_ready (rs := [29]) (by kernel_rfl) (by simp) ?_
      refine AllReadyH.cons (o := ⟨some 47, _, _, _, _, _⟩) rfl (fun K hK => ?_) AllReadyH.nil
      go_simp
      go_at_call 34
      (with_reducible refine (gout_any _ _ _ _ _ _ _).mono ?_)
      rintro e y29 ⟨rfl, b⟩
      replace I46 := RowO.on I46 b
      replace I28 := RowO.on I28 b
      replace I40 := RowO.on I40 b
      replace D := nx D b
      clear b
      refine hK.out _ _ ?_ (fun hHeld => ?_)
      · exact XD D
      clear hK K
      try simp only [Act.put, List.setIfInBounds_toArray, List.set_cons_zero, List.set_cons_succ]
      refine wpAnyH_ready (rs := [30]) (by kernel_rfl) (by simp) ?_
      refine AllReadyH.cons (o := ⟨some 48, _, _, _, _, _⟩) rfl (fun K hK => ?_) AllReadyH.nil
      go_simp
      refine hK.out _ _ ?_ (fun hHeld => ?_)
      · exact XD (al D)
      clear hK K
      try simp only [Act.put, List.setIfInBounds_toArray, List.set_cons_zero, List.set_cons_succ]
      refine wpAnyH_ready (rs := [31]) (by kernel_rfl) (by simp) ?_
      refine AllReadyH.cons (o := ⟨some 49, _, _, _, _, _⟩) rfl (fun K hK => ?_) AllReadyH.nil
      refine step_append_lies _ (by rfl) (.tmp 18) (.tmp 48) 32 (by rfl) W0.heap.size 41 ti _ 4 72 Tryz.underlying32 hti hy0 hy1 hy2 rfl (by decide) (.slice lo ll.length lc) ll.length (ll.flatMap outC) (by rfl) ((RowO.on (RowO.on hrow A1) D).on (al1 _ _)) ⟨y29.heap.size, 0, none⟩ 3 3 [.string (⟨#[97, 100, 100]⟩ ++ ⟨xn.toArray⟩), .string ⟨xn.toArray⟩, .string ⟨#[33, 91, 33]⟩, .slice (some ⟨y9.heap.size, 0, none⟩) 1 1, .string (⟨#[117, 112, 100, 97, 116, 101]⟩ ++ ⟨xn.toArray⟩), .string ⟨xn.toArray⟩, .string ⟨#[33, 91, 33]⟩, .slice (some ⟨y21.heap.size, 0, none⟩) 2 2, .string (⟨#[100, 101, 108, 101, 116, 101]⟩ ++ ⟨xn.toArray⟩), .string ⟨#[73, 110, 116]⟩, .string ⟨#[33]⟩, .slice (some ⟨W2.drew.heap.size, 0, none⟩) 1 1] (by rfl) rfl (World.news_of_block (heap_alloc_new y29 _)) (by intro u hu; simp at hu; rcases hu with rfl | rfl | rfl | rfl | rfl | rfl | rfl | rfl | rfl | rfl | rfl | rfl <;> rfl) (by decide) (by unfold maxLen; omega) (by omega) (Nat.le_trans hzB (Nat.le_trans A1.size (al D).size)) _ rfl ?_
      intro g8 cp8 w8 own8 gr8 hor8 hlt8
      have G8 := gt_grown ((RowO.on (RowO.on hrow A1) D).on (al1 y29 _)) gr8
      have c10 := XS (G8.block _ _ (((al D).block _ (lt_of_block N9)).trans N9) (Or.inr (by simp))) (G8.block _ _ (((al D).block _ (lt_of_block N6)).trans N6) (Or.inr (by simp)))
      have O8 : Hid (w8.ownsRow W0.heap.size 41 4 (.slice (some ⟨g8, 0, none⟩) (ll.length + 3) cp8) (ll.length + 3) (ll.flatMap outC ++ [.string (⟨#[97, 100, 100]⟩ ++ ⟨xn.toArray⟩), .string ⟨xn.toArray⟩, .string ⟨#[33, 91, 33]⟩, .slice (some ⟨y9.heap.size, 0, none⟩) 1 1, .string (⟨#[117, 112, 100, 97, 116, 101]⟩ ++ ⟨xn.toArray⟩), .string ⟨xn.toArray⟩, .string ⟨#[33, 91, 33]⟩, .slice (some ⟨y21.heap.size, 0, none⟩) 2 2, .string (⟨#[100, 101, 108, 101, 116, 101]⟩ ++ ⟨xn.toArray⟩), .string ⟨#[73, 110, 116]⟩, .string ⟨#[33]⟩, .slice (some ⟨W2.drew.heap.size, 0, none⟩) 1 1])) := own8
      clear own8 gr8 hor8 hlt8
      refine hK.out _ _ ?_ (fun hHeld => ?_)
      · exact c10
      clear hK K
      try simp only [Act.put, List.setIfInBounds_toArray, List.set_cons_zero, List.set_cons_succ]
      refine wpAnyH_take (i := 32) (oi := ⟨some 3, _, _, _, _, _⟩) (v := ?_) rfl (by kernel_rfl) (by kernel_rfl) (by kernel_rfl) (fun _ _ _ h => h) (Or.inl ⟨by rfl, ?_⟩) (by assumption) ?_
      rotate_left
      · intro w' hSw
        (try dsimp only at hSw)
        go_simp
        (try with_reducible rfl)
      try simp only [Act.put, List.setIfInBounds_toArray, List.set_cons_zero, List.set_cons_succ]
      refine wpAnyH_done (by kernel_rfl) ?_ _
      go_wp2
      have hz1 : W0.heap.size ≤ W2.heap.size := Nat.le_trans hzB A1.size
      refine ⟨⟨_, j + 1, ll ++ [(⟨[97, 100, 100] ++ xn, xn, wAll, [⟨[105, 110, 112, 117, 116], cAdd ++ xn, wAll⟩]⟩, .slice (some ⟨y9.heap.size, 0, none⟩) 1 1), (⟨[117, 112, 100, 97, 116, 101] ++ xn, xn, wAll, [⟨[102, 105, 108, 116, 101, 114], xn ++ cFilter, wMust⟩, ⟨[115, 101, 116], cPatch ++ xn, wMust⟩]⟩, .slice (some ⟨y21.heap.size, 0, none⟩) 2 2), (⟨[100, 101, 108, 101, 116, 101] ++ xn, intB, wMust, [⟨[102, 105, 108, 116, 101, 114], xn ++ cFilter, wMust⟩]⟩, .slice (some ⟨W2.drew.heap.size, 0, none⟩) 1 1)], rfl, by simp, HK.out, RowO.pushL O8.out rfl ?_, by rw [List.map_append]; exact HD.out, ?_, (((HG.out.trans (gt_of A1)).trans (gt_of D)).trans (gt_of (al1 _ _))).trans G8⟩, ?_⟩
      · show [Value.string ⟨([97, 100, 100] ++ xn).toArray⟩, .string ⟨xn.toArray⟩, .string ⟨#[33, 91, 33]⟩, .slice (some ⟨y9.heap.size, 0, none⟩) 1 1, .string ⟨([117, 112, 100, 97, 116, 101] ++ xn).toArray⟩, .string ⟨xn.toArray⟩, .string ⟨#[33, 91, 33]⟩, .slice (some ⟨y21.heap.size, 0, none⟩) 2 2, .string ⟨([100, 101, 108, 101, 116, 101] ++ xn).toArray⟩, .string ⟨#[73, 110, 116]⟩, .string ⟨#[33]⟩, .slice (some ⟨W2.drew.heap.size, 0, none⟩) 1 1] = _
        rw [← bytes_add, ← bytes_add, ← bytes_add]
      · intro p hp
        rcases List.mem_append.1 hp with hp | hp
        · exact ((((HI.out p hp).on A1).on D).on (al1 _ _)).gt G8 (by decide)
        · simp only [List.mem_cons, List.not_mem_nil, or_false] at hp
          rcases hp with rfl | rfl | rfl
          · exact ((RowO.base I28 hz1).on (al1 _ _)).gt G8 (by decide)
          · exact ((RowO.base I40 hz1).on (al1 _ _)).gt G8 (by decide)
          · exact ((RowO.base I46 hz1).on (al1 _ _)).gt G8 (by decide)
      · have := HK.out
        simp [RowKit.intOf]
        omega
    · have l2 : decide (((j : Nat) : Int) < (s.os.length : Int)) = false := by simp; omega
      have l3 : decide (j < s.os.length) = false := by simp; omega
      have hje : j = s.os.length := by omega
      have HS : Hid (ll.map (·.1) = s.os.flatMap mO) := by
        show _ = _
        rw [hdn, hje, List.take_length]
      have N2r := hg.block _ _ N2 (Or.inl (by have := LW.out; omega))
      obtain ⟨p9, n9, m9, rfl⟩ := row_slc hrow
      clear hje hlt hdn hdl hj hin
      go_wp2_with (first
        | (go_at_call 59; (with_reducible refine (gouts_any _ _ _ _ _).mono ?_); rintro e x6 ⟨rfl, b6⟩; have N6 := (b6.block _ (lt_of_block N2r)).trans N2r; obtain ⟨c0, c1, c2, c3, c4, cf⟩ := row5 N6)
        | fail)
      have B6 := hbr.trans (b6.mono hbr.size)
      refine bodyPost_ret (v := .agg #[.string ⟨#[77, 117, 116, 97, 116, 105, 111, 110]⟩, .int .i64 2, .slice none 0 0, .slice p9 n9 m9, .slice none 0 0]) (by simp [results, Tryz.results31, go_sem, c0, c1, c2, c3, c4]) rfl ⟨_, rfl, ⟨ll, HS.out, ((RowO.on hrow b6).base A0.size).kp (kp5 _ _ _ _ _ _ _) N6 (by decide), fun p hp => ((RowO.on (HI.out p hp) b6).base A0.size).kp (kp5 _ _ _ _ _ _ _) N6 (by decide)⟩, bel_kp B6 (by omega) (kp5 _ _ _ _ _ _ _)⟩
end
end Go.Proofs.YtamkjpfomaapgaaGreatDoor
