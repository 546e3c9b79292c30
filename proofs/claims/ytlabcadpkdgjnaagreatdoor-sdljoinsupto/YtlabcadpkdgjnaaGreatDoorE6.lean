/- The document's Same at like schemas. -/
import Derived.Test.YtlabcadpkdgjnaaGreatDoorE5
import Derived.BigQuiet
namespace Go.Proofs.YtlabcadpkdgjnaaGreatDoor
open Go Go.RowKit Go.Shelf
theorem joinW_eq : ∀ us : List Bs, Lib.join us [32] = joinW us
  | [] => rfl
  | [x] => Lib.join_one x [32]
  | x :: y :: l => by
    have ih := joinW_eq (y :: l)
    unfold joinW
    rw [← ih]
    simp [Lib.join, List.intercalate, List.intersperse]
theorem wjoin_any {w : World} {B : Nat} {lv : Value} {us : List Bs} (h : RowO w B 9 1 wrdC lv us) (hs : szW us ≤ 16385) : Calls Tryz.prog 27 #[lv, .string ⟨#[32]⟩] w fun e w' => e = .returned (.string ⟨(joinW us).toArray⟩) ∧ Below w.heap.size w w' := by
  by_cases hu : us = []
  · subst hu
    obtain ⟨a, c, rfl⟩ := h.slice
    refine (Tryz.strings_Join_none a c ⟨#[32]⟩ w).mono ?_
    rintro e w' ⟨rfl, rfl⟩
    exact ⟨rfl, Below.refl _ _⟩
  · obtain ⟨g, c, rfl, hB, hg, hc, hm, hcell⟩ := h.cells hu
    have hl : us.length ≤ 16385 := Nat.le_trans (len_szW us) hs
    have hj := joinW_len us hu
    have hmap : ((us.map fun x => ByteArray.mk x.toArray).map (·.data.toList)) = us := by
      rw [List.map_map]
      exact List.map_id'' (fun _ => rfl) _
    have hlen : (us.map fun x => ByteArray.mk x.toArray).length = us.length := List.length_map _
    have J := Tryz.strings_Join g 0 c (us.map fun x => ByteArray.mk x.toArray) ⟨#[32]⟩ w (fun j x hx => by
      rw [List.getElem?_map] at hx
      obtain ⟨y, hy, rfl⟩ := Option.map_eq_some_iff.1 hx
      rw [Nat.zero_add]
      refine hcell j _ ?_
      have := flat_at (f := wrdC) (sz := 1) (fun _ => rfl) us j y hy 0 (by decide)
      rw [Nat.mul_one, Nat.add_zero] at this
      rw [this]
      rfl) hg (by rw [hlen]; omega) (by rw [hlen]; exact hc) (by
      rw [hmap, show (ByteArray.mk #[32]).data.toList = [32] from rfl, joinW_eq]
      omega)
    rw [hlen, hmap, show (ByteArray.mk #[32]).data.toList = [32] from rfl, joinW_eq] at J
    exact J
/-- The two results' variables of Print. -/
structure ResP (W : World) (B : Nat) (t : Bs) (z : Int) : Prop where
  bt : W.heap[B]? = some (.cells #[.string ⟨t.toArray⟩] 9 (0, 0))
  be : W.heap[B + 1]? = some (.cells #[.int .i64 z] 26 (0, 0))
theorem ResP.kp {S : Nat → Prop} {W W' : World} {B : Nat} {t : Bs} {z : Int} (h : ResP W B t z) (k : Kp S W W') (h0 : ¬ S B) (h1 : ¬ S (B + 1)) : ResP W' B t z := ⟨rowOld h.bt k h0, rowOld h.be k h1⟩
theorem ResP.bel {W W' : World} {B K : Nat} {t : Bs} {z : Int} (h : ResP W B t z) (k : Below K W W') (hK : B + 1 < K) : ResP W' B t z := ⟨(k.block B (by omega)).trans h.bt, (k.block (B + 1) hK).trans h.be⟩
theorem ResP.put {W : World} {B : Nat} {t : Bs} {z : Int} (h : ResP W B t z) (u : Bs) (y : Int) : ResP ((W.setCell ⟨B, 0, none⟩ (.string ⟨u.toArray⟩)).setCell ⟨B + 1, 0, none⟩ (.int .i64 y)) B u y ∧ Kp (fun k => k = B ∨ k = B + 1) W ((W.setCell ⟨B, 0, none⟩ (.string ⟨u.toArray⟩)).setCell ⟨B + 1, 0, none⟩ (.int .i64 y)) := by
  refine ⟨⟨?_, ?_⟩, ?_⟩
  · exact rowOld (heap_setCell_same _ B 0 _ _ _ h.bt) (Kp.own (B + 1) 0 (.int .i64 y)) (by intro e; have e' : B = B + 1 := e; omega)
  · exact heap_setCell_same _ (B + 1) 0 _ _ _ (rowOld h.be (Kp.own B 0 (.string ⟨u.toArray⟩)) (by intro e; have e' : B + 1 = B := e; omega))
  · exact ((Kp.refl (fun k => k = B ∨ k = B + 1) W).set B 0 _ (Or.inr (Or.inl rfl))).set (B + 1) 0 _ (Or.inr (Or.inr rfl))
theorem pcatch_idle (B : Nat) (W : World) :
    CallsD Tryz.prog 25 #[.pointer (some ⟨B, 0, none⟩), .pointer (some ⟨B + 1, 0, none⟩)] .returning W fun e u' w' => e = .returned (.tuple #[]) ∧ u' = .returning ∧ w' = W := by
  refine callsD_of_wpS Tryz.func25 rfl fun c₀ cs hu => ?_
  apply wpS_seq
  apply wpS_region
  simp [wpOpsS, go_sem, recoverD, hu, Tryz.ntmps25, Exit.thenS]
  refine wpS_of_wp ?_
  go_wp2
  refine ⟨rfl, .returning, ?_, .tuple #[], results_none rfl _ _ _, rfl, rfl, rfl⟩
  cases c₀
  simp_all
theorem fldp1 (p : Nat × Int) (w : World) : (Instr.field 46 (.agg #[.int .i64 (p.1 : Int), .int .i64 p.2]) 1).run Tryz.prog w = .ok (.int .i64 p.2) w := by kernel_rfl
set_option maxRecDepth 100000 in
set_option maxHeartbeats 2000000 in
theorem pcatch_dies (B : Nat) (p : Nat × Int) (t : Bs) (z : Int) (older : List PanicEntry) (W : World) (h : ResP W B t z) :
    CallsD Tryz.prog 25 #[.pointer (some ⟨B, 0, none⟩), .pointer (some ⟨B + 1, 0, none⟩)] (.panicking ({ v := .iface 46 (.agg #[.int .i64 (p.1 : Int), .int .i64 p.2]), recovered := false } :: older)) W fun e u' w' =>
      e = .returned (.tuple #[]) ∧ u' = .panicking ({ v := .iface 46 (.agg #[.int .i64 (p.1 : Int), .int .i64 p.2]), recovered := true } :: older) ∧ ResP w' B [] p.2 ∧ Kp (fun k => k = B ∨ k = B + 1) W w' := by
  have F1 := fldp1 p
  refine callsD_of_wpS Tryz.func25 rfl fun c₀ cs hu => ?_
  apply wpS_seq
  apply wpS_region
  simp [wpOpsS, go_sem, recoverD, hu, Tryz.ntmps25, Exit.thenS]
  refine wpS_of_wp ?_
  go_wp2_with (first
    | (go_at_call 16; (with_reducible refine (dfaultOf_any p _).mono ?_); rintro e w1 ⟨rfl, k1⟩; have r1 := h.kp k1 (fun e => e) (fun e => e); obtain ⟨d0, df⟩ := row1 r1.bt; obtain ⟨e0, ef⟩ := row1 r1.be)
    | fail)
  exact ⟨rfl, _, rfl, .tuple #[], results_none rfl _ _ _, rfl, rfl, (r1.put [] p.2).1, k1.any.trans (r1.put [] p.2).2⟩
/-! ### What is wrong is told by 80 -/
def E80 {α : Type} (f : List Tok → Rs α) : Prop := ∀ l p, f l = .error p → p.2 = 80
theorem E80.go {α β : Type} {f : List Tok → Rs α} {g : α → List Tok → Rs β} (hf : E80 f) (hg : ∀ a, E80 (g a)) : E80 (fun l => (f l).go g) := by
  intro l p h
  cases hx : f l with
  | error q =>
    simp only [hx, go_error] at h
    cases h
    exact hf l _ hx
  | ok q =>
    simp only [hx] at h
    exact hg q.1 q.2 p h
theorem e80_ok {α : Type} (g : List Tok → α × List Tok) : E80 (fun l => (.ok (g l) : Rs α)) := fun l p h => by cases h
theorem e80_if {α : Type} {c : List Tok → Bool} {f g : List Tok → Rs α} (hf : E80 f) (hg : E80 g) : E80 (fun l => if c l then f l else g l) := by
  intro l p h
  simp only at h
  split at h
  · exact hf l p h
  · exact hg l p h
theorem e80_err {α : Type} (g : List Tok → Nat) : E80 (fun l => (.error (g l, 80) : Rs α)) := fun l p h => by cases h; rfl
theorem e80_tail {α : Type} {f : List Tok → Rs α} (hf : E80 f) : E80 (fun l => f l.tail) := fun l p h => hf l.tail p h
theorem e80_name : E80 nameD := e80_if (c := isK 1) (e80_ok _) (e80_err _)
theorem e80_sign (s : Bs) : E80 (signD s) := e80_if (c := isP s) (e80_ok _) (e80_err _)
theorem e80_must (s : Bs) : E80 (mustD s) := e80_if (c := isW s) (e80_ok _) (e80_err _)
theorem e80_word : E80 wordD := e80_if (c := fun l => notW.contains (txT l)) (e80_err _) e80_name
theorem e80_bang : E80 bangD := e80_if (c := isP [33]) (e80_ok _) (e80_ok _)
theorem e80_ref1 : E80 refD1 := e80_name.go fun _ => e80_bang.go fun _ => e80_ok _
theorem e80_ref : E80 refD := e80_if (c := isP [91]) (f := fun l => (refD1 l.tail).go fun x l2 => (signD [93] l2).go fun _ l3 => (bangD l3).go fun c l4 => .ok ((x.1, x.2 ++ 91 :: c), l4)) ((e80_tail e80_ref1).go fun _ => (e80_sign _).go fun _ => e80_bang.go fun _ => e80_ok _) e80_ref1
theorem e80_inverse : E80 inverseD := (e80_sign _).go fun _ => (e80_must _).go fun _ => (e80_sign _).go fun _ => e80_name.go fun _ => (e80_sign _).go fun _ => e80_ok _
theorem e80_directive (x : Bool × Bs) : E80 (directiveD x) := e80_if (c := fun l => !x.1 && isW searchB l) (e80_ok _) (e80_if (c := fun l => x.2 == [] && isW inverseB l) ((e80_tail e80_inverse).go fun _ => e80_ok _) (e80_err _))
theorem e80_dirs : ∀ (n : Nat) (x : Bool × Bs) (l : List Tok) (p : Nat × Int), l.length < n → dirsD x l = .error p → p.2 = 80
  | 0, _, _, _, h, _ => absurd h (Nat.not_lt_zero _)
  | n + 1, x, l, p, hn, h => by
    rw [dirsD_eq] at h
    split at h
    · rename_i hk
      simp only [Bool.and_eq_true] at hk
      have h0 := isP_pos hk.2
      cases hd : directiveD x l.tail with
      | error q =>
        rw [hd, go_error] at h
        cases h
        exact e80_directive x _ _ hd
      | ok q =>
        rw [hd] at h
        have := directiveD_eats _ _ _ _ hd
        rw [List.length_tail] at this
        exact e80_dirs n q.1 q.2 p (by omega) h
    · cases h
theorem e80_field : E80 fieldD := e80_name.go fun _ => (e80_sign _).go fun _ => e80_ref.go fun _ => E80.go (f := dirsD (false, [])) (fun l p h => e80_dirs (l.length + 1) _ l p (by omega) h) fun _ => e80_ok _
theorem e80_any {α : Type} {f : List Tok → Rs α} (hf : E80 f) (he : Eats f) (last : Bs) : ∀ (n : Nat) (l : List Tok) (p : Nat × Int), l.length < n → anyS f last l = .error p → p.2 = 80
  | 0, _, _, h, _ => absurd h (Nat.not_lt_zero _)
  | n + 1, l, p, hn, h => by
    rw [anyS_eq he] at h
    split at h
    · cases h
    · cases hd : f l with
      | error q =>
        rw [hd, go_error] at h
        cases h
        exact hf _ _ hd
      | ok q =>
        rw [hd] at h
        have := he _ _ _ hd
        cases ha : anyS f last q.2 with
        | error r =>
          have h' : ((anyS f last q.2).go fun b l2 => (.ok (q.1 :: b, l2) : Rs (List α))) = .error p := h
          rw [ha, go_error] at h'
          cases h'
          exact e80_any hf he last n q.2 _ (by omega) ha
        | ok r =>
          have h' : ((anyS f last q.2).go fun b l2 => (.ok (q.1 :: b, l2) : Rs (List α))) = .error p := h
          rw [ha] at h'
          cases h'
theorem e80_some {α : Type} {f : List Tok → Rs α} (hf : E80 f) (he : Eats f) (last : Bs) : E80 (someS f last) := hf.go fun _ => E80.go (f := anyS f last) (fun l p h => e80_any hf he last (l.length + 1) l p (by omega) h) fun _ => e80_ok _
theorem e80_within {α : Type} {f : List Tok → Rs α} (hf : E80 f) (he : Eats f) : E80 (withinD f) := (e80_sign _).go fun _ => e80_some hf he _
theorem e80_define : E80 defineD := e80_if (c := isW typeB) ((e80_tail e80_name).go fun _ => (e80_within e80_field fieldD_eats).go fun _ => e80_ok _) (e80_if (c := isW enumB) ((e80_tail e80_name).go fun _ => (e80_within e80_word wordD_eats).go fun _ => e80_ok _) (e80_err _))
theorem e80_schema : E80 schemaD := (e80_some e80_define defineD_eats []).go fun _ => e80_ok _
theorem parseD_bad {s : Bs} {p : Nat × Int} (h : parseD s = .error p) : p.2 ≠ 0 := by
  unfold parseD at h
  split at h
  · rename_i q hq
    cases h
    exact lexS_bad hq
  · split at h
    · rename_i q hq
      cases h
      rw [e80_schema _ _ hq]
      decide
    · cases h
end Go.Proofs.YtlabcadpkdgjnaaGreatDoor
namespace Go.Proofs.YtlabcadpkdgjnaaGreatDoor
open Go Go.RowKit Go.Shelf
/-- What Print comes to. -/
def PrntP (w : World) (r : Option Bs) (e : Ending) (w' : World) : Prop := (match r with
  | none => e = .returned (.tuple #[.string ⟨#[]⟩, .int .i64 81])
  | some t => e = .returned (.tuple #[.string ⟨t.toArray⟩, .int .i64 0])) ∧ Below w.heap.size w w'
abbrev preP (w : World) (ov ev : Value) : World := (((w.alloc (.cells #[ov, ev] 25)).alloc (.cells #[.string ⟨#[]⟩] 9)).alloc (.cells #[.int .i64 0] 26)).alloc (.cells #[.slice none 0 0, .int .i64 0] 69)
theorem preP_facts (w : World) (ov ev : Value) : (preP w ov ev).heap.size = w.heap.size + 1 + 1 + 1 + 1 ∧ (preP w ov ev).heap[w.heap.size]? = some (.cells #[ov, ev] 25 (0, 0)) ∧ ResP (preP w ov ev) (w.heap.size + 1) [] 0 ∧ Wr (w.heap.size + 1 + 1 + 1) (preP w ov ev) [] ∧ Below w.heap.size w (preP w ov ev) := by
  have e1 : (w.alloc (.cells #[ov, ev] 25)).heap.size = w.heap.size + 1 := World.size_alloc _ _
  have e2 : ((w.alloc (.cells #[ov, ev] 25)).alloc (.cells #[.string ⟨#[]⟩] 9)).heap.size = w.heap.size + 1 + 1 := by rw [World.size_alloc, e1]
  have e3 : (((w.alloc (.cells #[ov, ev] 25)).alloc (.cells #[.string ⟨#[]⟩] 9)).alloc (.cells #[.int .i64 0] 26)).heap.size = w.heap.size + 1 + 1 + 1 := by rw [World.size_alloc, e2]
  have h0 := heap_alloc_new w (.cells #[ov, ev] 25)
  have h1 := heap_alloc_new (w.alloc (.cells #[ov, ev] 25)) (.cells #[.string ⟨#[]⟩] 9)
  have h2 := heap_alloc_new ((w.alloc (.cells #[ov, ev] 25)).alloc (.cells #[.string ⟨#[]⟩] 9)) (.cells #[.int .i64 0] 26)
  have h3 := heap_alloc_new (((w.alloc (.cells #[ov, ev] 25)).alloc (.cells #[.string ⟨#[]⟩] 9)).alloc (.cells #[.int .i64 0] 26)) (.cells #[.slice none 0 0, .int .i64 0] 69)
  rw [e1] at h1
  rw [e2] at h2
  rw [e3] at h3
  refine ⟨by rw [World.size_alloc, e3], ?_, ⟨?_, ?_⟩, ⟨.slice none 0 0, h3, RowO.none, by decide⟩, ?_⟩
  · exact rowOld h0 ((((Kp.refl Non _).alloc _).alloc _).alloc _) (fun e => e)
  · exact rowOld h1 (((Kp.refl Non _).alloc _).alloc _) (fun e => e)
  · exact rowOld h2 ((Kp.refl Non _).alloc _) (fun e => e)
  · exact (((((Kp.refl Non w).alloc _).alloc _).alloc _).alloc _).bel
theorem dparse_two (t : Bs) (w : World) (gl : Gl w) : Calls Tryz.prog 8 #[.string ⟨t.toArray⟩] w fun e w' => (∃ p : Nat × Int, Hid (parseD t = .error p) ∧ e = .returned (.tuple #[.agg #[.slice none 0 0, .slice none 0 0], .int .i64 (p.1 : Int), .int .i64 p.2]) ∧ (p.2 == 0) = false ∧ Below w.heap.size w w') ∨ (∃ x p1 n1 m1 p2 n2 m2, Hid (parseD t = .ok x) ∧ e = .returned (.tuple #[.agg #[.slice p1 n1 m1, .slice p2 n2 m2], .int .i64 0, .int .i64 0]) ∧ Below w.heap.size w w') := by
  refine (dparse_any t w gl).mono ?_
  rintro e w' ⟨hm, hb⟩
  cases hp : parseD t with
  | error p =>
    rw [hp] at hm
    exact Or.inl ⟨p, rfl, hm, by simpa using parseD_bad hp, hb⟩
  | ok x =>
    rw [hp] at hm
    obtain ⟨p1, n1, m1, p2, n2, m2, he, _⟩ := hm
    exact Or.inr ⟨x, p1, n1, m1, p2, n2, m2, rfl, he, hb⟩
theorem ResP.text {W : World} {B : Nat} {t : Bs} {z : Int} (h : ResP W B t z) (u : Bs) : ResP (W.setCell ⟨B, 0, none⟩ (.string ⟨u.toArray⟩)) B u z := ⟨heap_setCell_same _ B 0 _ _ _ h.bt, rowOld h.be (Kp.own B 0 (.string ⟨u.toArray⟩)) (by intro e; have e' : B + 1 = B := e; omega)⟩
theorem ResP.errn {W : World} {B : Nat} {t : Bs} {z : Int} (h : ResP W B t z) (y : Int) : ResP (W.setCell ⟨B + 1, 0, none⟩ (.int .i64 y)) B t y := ⟨rowOld h.bt (Kp.own (B + 1) 0 (.int .i64 y)) (by intro e; have e' : B = B + 1 := e; omega), heap_setCell_same _ (B + 1) 0 _ _ _ h.be⟩
set_option maxRecDepth 100000 in
set_option maxHeartbeats 8000000 in
theorem dprint_any (s : Sch) (ov ev : Value) (w : World) (hS : SchAt w ov ev s) (L : SchL s) (gl : Gl w) : Calls Tryz.prog 12 #[.agg #[ov, ev]] w (PrntP w (printD s)) := by
  have hmf : ∀ (fn : Fn) (first cap : Array Value) (w : World), (Instr.makeFunc fn first cap).run Tryz.prog w = .ok (.func fn first cap) w := fun _ _ _ _ => rfl
  have hov : ∃ a n c, ov = .slice a n c := by obtain ⟨a, c, e, _⟩ := hS.os; exact ⟨_, _, _, e⟩
  have hev : ∃ a n c, ev = .slice a n c := by obtain ⟨a, c, e, _⟩ := hS.es; exact ⟨_, _, _, e⟩
  obtain ⟨oa, on, oc, rfl⟩ := hov
  obtain ⟨ea, en, ec, rfl⟩ := hev
  obtain ⟨w0, hw0⟩ : ∃ w0, w0 = preP w (.slice oa on oc) (.slice ea en ec) := ⟨_, rfl⟩
  obtain ⟨z0, p0, r0, h0, b0⟩ := preP_facts w (.slice oa on oc) (.slice ea en ec)
  rw [← hw0] at z0 p0 r0 h0 b0
  have gl0 : Gl w0 := gl.below b0 (Nat.le_refl _)
  have hV : gM < w.heap.size + 1 + 1 + 1 ∧ gE < w.heap.size + 1 + 1 + 1 := ⟨by have := gl.ltM; omega, by have := gl.ltE; omega⟩
  have C0 := wschema_any s (.slice oa on oc) (.slice ea en ec) h0 L hS ⟨by omega, b0⟩ gl0 hV
  obtain ⟨c0, c1, _⟩ := row2 p0
  obtain ⟨q, hq⟩ : ∃ q, printD s = q := ⟨_, rfl⟩
  rw [hq]
  have HQ : Hid (printD s = q) := hq
  have hz0 : w.heap.size + 1 + 1 + 1 ≤ w0.heap.size := by omega
  clear hq hS L z0
  have hw1 : w0 = (((w.alloc (.cells #[.slice oa on oc, .slice ea en ec] 25)).alloc (.cells #[.string ⟨#[]⟩] 9)).alloc (.cells #[.int .i64 0] 26)).alloc (.cells #[.slice none 0 0, .int .i64 0] 69) := hw0
  clear hw0
  go_enter_defers Tryz.func12, Tryz.ntmps12
  go_wp2_with (first
    | (go_at_call 28; (with_reducible refine (wneed_no _).mono ?_); rintro e w5 ⟨rfl, rfl⟩)
    | (go_at_call 28; (with_reducible refine (wneed_yes _).mono ?_); rintro e w5 ⟨rfl, rfl⟩)
    | (go_at_call 8; (with_reducible refine (dparse_two (joinW us) _ gl3).mono ?_); (rintro e w4 (⟨p, hp, rfl, hp0, b4⟩ | ⟨x, p1, n1, m1, p2, n2, m2, hp, rfl, b4⟩) <;> (have r4 := r3.bel b4 (by omega); obtain ⟨k0, kf⟩ := row1 r4.bt; obtain ⟨l0, lf⟩ := row1 r4.be)))
    | (go_at_call 27; (with_reducible refine (wjoin_any hl.own hl.few).mono ?_); rintro e w2 ⟨rfl, b2⟩; have z2 := b2.size; have r2 := r1.bel b2 (by omega); obtain ⟨d0, df⟩ := row1 r2.bt; obtain ⟨i0, jf⟩ := row1 r2.be; have r3 := r2.text (joinW us); have gl3 : Gl (w2.setCell ⟨w.heap.size + 1, 0, none⟩ (.string ⟨(joinW us).toArray⟩)) := (gl1.below b2 (Nat.le_refl _)).kp (Kp.own (w.heap.size + 1) 0 _) (fun e => by have := gl.ltM; have e' : gM = w.heap.size + 1 := e; omega) (fun e => by have := gl.ltE; have e' : gE = w.heap.size + 1 := e; omega); have z3 : w.heap.size + 1 + 1 + 1 < (w2.setCell ⟨w.heap.size + 1, 0, none⟩ (.string ⟨(joinW us).toArray⟩)).heap.size := (by simp [World.setCell]; omega))
    | (go_at_call 26; rw [← hw1]; (with_reducible refine C0.mono ?_); rintro e w1 (⟨hq1, rfl, f1⟩ | ⟨us, hq1, rfl, ⟨lv, hl⟩, f1⟩) <;> (have bl1 := f1.below hz0; have r1 := r0.bel bl1 (by omega); have gl1 : Gl w1 := gl0.frw f1 hV; try (rw [List.nil_append] at hl; have hlz := hl.lt; obtain ⟨a0, a1, af⟩ := row2 hl.row; obtain ⟨v1, v2, v3, hlv⟩ := row_slc hl.own; subst hlv)))
    | fail)
  · have hq0 : q = none := by
      rw [← HQ.out]
      unfold printD
      cases hw : schemaW s with
      | none => rfl
      | some us =>
        have h5 := hq1 us hw
        rw [List.nil_append] at h5
        have hne : us ≠ [] := by intro e; subst e; exact absurd h5 (by decide)
        have h6 := joinW_len us hne
        have hp : parseD (joinW us) = .error (0, 54) := by
          unfold parseD lexS
          rw [if_pos (by omega)]
        simp only [hp]
    subst hq0
    refine leaves_cons (f := 25) (args := #[.pointer (some ⟨w.heap.size + 1, 0, none⟩), .pointer (some ⟨w.heap.size + 1 + 1, 0, none⟩)]) (by simp) (by simp [go_sem]) ?_
    refine (pcatch_dies (w.heap.size + 1) (0, 81) [] 0 [] _ r1).mono ?_
    rintro e u' w'' ⟨rfl, rfl, r5, k5⟩
    obtain ⟨k0, kf⟩ := row1 r5.bt
    obtain ⟨l0, lf⟩ := row1 r5.be
    have hbF := (b0.trans (bl1.mono (by omega))).trans (k5.below (b0.trans (bl1.mono (by omega))).size (fun k hk e => by omega))
    simp [Leaves, settle, results, Tryz.results12, go_sem, k0, l0]
    exact ⟨rfl, hbF⟩
  · have hq0 : q = none := by
      rw [← HQ.out]
      unfold printD
      rw [hq1.out]
      simp only [hp.out]
    subst hq0
    have b3 : Below w.heap.size w (w2.setCell ⟨w.heap.size + 1, 0, none⟩ (.string ⟨(joinW us).toArray⟩)) := ((b0.trans (bl1.mono (by omega))).trans (b2.mono (by omega))).setCell (p := ⟨w.heap.size + 1, 0, none⟩) (by show _ ≤ _ + 1; omega) _
    have b4' := (b3.trans (b4.mono (by omega))).setCell (p := ⟨w.heap.size + 1 + 1, 0, none⟩) (by show _ ≤ _ + 1 + 1; omega) (.int .i64 p.2)
    refine leaves_cons (f := 25) (args := #[.pointer (some ⟨w.heap.size + 1, 0, none⟩), .pointer (some ⟨w.heap.size + 1 + 1, 0, none⟩)]) (by simp) (by simp [go_sem]) ?_
    refine (pcatch_dies (w.heap.size + 1) (0, 81) (joinW us) p.2 [] _ (r4.errn p.2)).mono ?_
    rintro e u' w'' ⟨rfl, rfl, r5, k5⟩
    obtain ⟨k0, kf⟩ := row1 r5.bt
    obtain ⟨l0, lf⟩ := row1 r5.be
    have hbF := b4'.trans (k5.below b4'.size (fun k hk e => by omega))
    simp [Leaves, settle, results, Tryz.results12, go_sem, k0, l0]
    exact ⟨rfl, hbF⟩
  · have hq0 : q = some (joinW us) := by
      rw [← HQ.out]
      unfold printD
      rw [hq1.out]
      simp only [hp.out]
    subst hq0
    have b3 : Below w.heap.size w (w2.setCell ⟨w.heap.size + 1, 0, none⟩ (.string ⟨(joinW us).toArray⟩)) := ((b0.trans (bl1.mono (by omega))).trans (b2.mono (by omega))).setCell (p := ⟨w.heap.size + 1, 0, none⟩) (by show _ ≤ _ + 1; omega) _
    have P5 := (r4.errn 0).put (joinW us) 0
    have b4' := (b3.trans (b4.mono (by omega))).setCell (p := ⟨w.heap.size + 1 + 1, 0, none⟩) (by show _ ≤ _ + 1 + 1; omega) (.int .i64 0)
    have hbF := b4'.trans (P5.2.below b4'.size (fun k hk e => by omega))
    have r5 := P5.1
    clear P5 b4'
    generalize ((w4.setCell ⟨w.heap.size + 1 + 1, 0, none⟩ (.int .i64 0)).setCell ⟨w.heap.size + 1, 0, none⟩ (.string ⟨(joinW us).toArray⟩)).setCell ⟨w.heap.size + 1 + 1, 0, none⟩ (.int .i64 0) = wF at *
    obtain ⟨k0', kf'⟩ := row1 r5.bt
    obtain ⟨l0', lf'⟩ := row1 r5.be
    refine leaves_cons (f := 25) (args := #[.pointer (some ⟨w.heap.size + 1, 0, none⟩), .pointer (some ⟨w.heap.size + 1 + 1, 0, none⟩)]) (by simp) (by simp [go_sem]) ?_
    refine (pcatch_idle (w.heap.size + 1) _).mono ?_
    rintro e u' w'' ⟨rfl, rfl, rfl⟩
    simp [Leaves, settle, results, Tryz.results12, go_sem, k0', l0']
    exact ⟨rfl, hbF⟩
end Go.Proofs.YtlabcadpkdgjnaaGreatDoor
namespace Go.Proofs.YtlabcadpkdgjnaaGreatDoor
open Go Go.RowKit Go.Shelf
theorem ObR.at {w : World} {B : Nat} {v : Value} {l : List Ob} (h : ObR w B v l) (hl : l.length ≤ 2049) : ObsAt w v l := by
  obtain ⟨lp, rfl, h2, h3⟩ := h
  rw [List.length_map] at hl
  exact obs_row h2 (by omega) fun p hp => flds_row (h3 p hp).1 (by have := (h3 p hp).2; omega)
theorem EnR.at {w : World} {B : Nat} {v : Value} {l : List En} (h : EnR w B v l) (hl : l.length ≤ 2049) : EnsAt w v l := by
  obtain ⟨lp, rfl, h2, h3⟩ := h
  rw [List.length_map] at hl
  exact ens_row h2 (by omega) fun p hp => wds_row (h3 p hp).1 (by have := (h3 p hp).2; omega)
/-- Parse at whatever bytes, the schema as it lies in memory. -/
theorem dparse_at (t : Bs) (w : World) (gl : Gl w) : Calls Tryz.prog 8 #[.string ⟨t.toArray⟩] w fun e w' => (∃ p : Nat × Int, Hid (parseD t = .error p) ∧ e = .returned (.tuple #[.agg #[.slice none 0 0, .slice none 0 0], .int .i64 (p.1 : Int), .int .i64 p.2]) ∧ (p.2 == 0) = false ∧ Below w.heap.size w w') ∨ (∃ x p1 n1 m1 p2 n2 m2, Hid (parseD t = .ok x) ∧ e = .returned (.tuple #[.agg #[.slice p1 n1 m1, .slice p2 n2 m2], .int .i64 0, .int .i64 0]) ∧ SchAt w' (.slice p1 n1 m1) (.slice p2 n2 m2) x ∧ Below w.heap.size w w') := by
  refine (dparse_any t w gl).mono ?_
  rintro e w' ⟨hm, hb⟩
  cases hp : parseD t with
  | error p =>
    rw [hp] at hm
    exact Or.inl ⟨p, rfl, hm, by simpa using parseD_bad hp, hb⟩
  | ok x =>
    rw [hp] at hm
    obtain ⟨p1, n1, m1, p2, n2, m2, he, ho, hn, l1, l2⟩ := hm
    exact Or.inr ⟨x, p1, n1, m1, p2, n2, m2, rfl, he, ⟨ho.at l1, hn.at l2⟩, hb⟩
abbrev fxA : Bs := [101, 110, 117, 109, 32, 69, 123, 65, 32, 66, 125, 32, 116, 121, 112, 101, 32, 84, 123, 97, 58, 73, 110, 116, 33, 64, 115, 101, 97, 114, 99, 104, 32, 98, 58, 91, 84, 33, 93, 33, 64, 104, 97, 115, 73, 110, 118, 101, 114, 115, 101, 40, 102, 105, 101, 108, 100, 58, 98, 41, 125]
abbrev fxB : Bs := [116, 121, 112, 101, 32, 84, 123, 97, 58, 73, 110, 116, 64, 115, 101, 97, 114, 99, 104, 64, 115, 101, 97, 114, 99, 104, 125]
abbrev fxC : Bs := [116, 121, 112, 101, 32, 84, 32, 123, 32, 97, 32, 58, 32, 73, 110, 116, 32, 33, 32, 64, 32, 115, 101, 97, 114, 99, 104, 32, 98, 32, 58, 32, 91, 32, 84, 32, 33, 32, 93, 32, 33, 32, 64, 32, 104, 97, 115, 73, 110, 118, 101, 114, 115, 101, 32, 40, 32, 102, 105, 101, 108, 100, 32, 58, 32, 98, 32, 41, 32, 125, 32, 101, 110, 117, 109, 32, 69, 32, 123, 32, 65, 32, 66, 32, 125]
abbrev fxS : Sch := ⟨[⟨[84], [⟨[97], [73, 110, 116], [33], true, []⟩, ⟨[98], [84], [33, 91, 33], false, [98]⟩]⟩], [⟨[69], [[65], [66]]⟩]⟩
set_option maxRecDepth 100000 in
theorem fxA_eq : parseD fxA = .ok fxS := by kernel_rfl
set_option maxRecDepth 100000 in
theorem fxB_eq : parseD fxB = .error (20, 80) := by kernel_rfl
set_option maxRecDepth 100000 in
theorem fxC_eq : printD fxS = some fxC := by kernel_rfl
theorem fxN_eq : printD ⟨[], []⟩ = none := by kernel_rfl
theorem fxS_L : SchL fxS := by
  refine ⟨fun o ho => ?_, fun o ho f hf => ?_, fun o ho => ?_, fun o ho x hx => ?_⟩
  · simp at ho; subst ho; decide
  · simp at ho; subst ho
    simp at hf
    rcases hf with rfl | rfl
    · exact ⟨by decide, by decide, by decide, by decide⟩
    · exact ⟨by decide, by decide, by decide, by decide⟩
  · simp at ho; subst ho; decide
  · simp at ho; subst ho
    simp at hx
    rcases hx with rfl | rfl <;> decide
theorem nil_L : SchL ⟨[], []⟩ := ⟨by simp, by simp, by simp, by simp⟩
theorem nil_At (w : World) : SchAt w (.slice none 0 0) (.slice none 0 0) ⟨[], []⟩ := ⟨⟨none, 0, rfl, Nat.le_refl _, by decide, fun h => absurd h (by decide)⟩, ⟨none, 0, rfl, Nat.le_refl _, by decide, fun h => absurd h (by decide)⟩⟩
theorem fxA_any (w : World) (gl : Gl w) : Calls Tryz.prog 8 #[.string ⟨fxA.toArray⟩] w fun e w' => ∃ p1 n1 m1 p2 n2 m2, e = .returned (.tuple #[.agg #[.slice p1 n1 m1, .slice p2 n2 m2], .int .i64 0, .int .i64 0]) ∧ SchAt w' (.slice p1 n1 m1) (.slice p2 n2 m2) fxS ∧ Below w.heap.size w w' := by
  refine (dparse_at fxA w gl).mono ?_
  rintro e w' (⟨p, hp, _⟩ | ⟨x, p1, n1, m1, p2, n2, m2, hp, he, hs, hb⟩)
  · rw [fxA_eq] at hp
    cases hp.out
  · rw [fxA_eq] at hp
    have := hp.out
    cases this
    exact ⟨p1, n1, m1, p2, n2, m2, he, hs, hb⟩
theorem fxB_any (w : World) (gl : Gl w) : Calls Tryz.prog 8 #[.string ⟨fxB.toArray⟩] w fun e w' => e = .returned (.tuple #[.agg #[.slice none 0 0, .slice none 0 0], .int .i64 20, .int .i64 80]) ∧ Below w.heap.size w w' := by
  refine (dparse_any fxB w gl).mono ?_
  rintro e w' ⟨hm, hb⟩
  rw [fxB_eq] at hm
  exact ⟨hm, hb⟩
theorem fxP_any (w : World) (ov ev : Value) (hS : SchAt w ov ev fxS) (gl : Gl w) : Calls Tryz.prog 12 #[.agg #[ov, ev]] w fun e w' => e = .returned (.tuple #[.string ⟨fxC.toArray⟩, .int .i64 0]) ∧ Below w.heap.size w w' := by
  have P := dprint_any fxS ov ev w hS fxS_L gl
  rw [fxC_eq] at P
  exact P.mono fun e w' h => h
theorem fxQ_any (w : World) (gl : Gl w) : Calls Tryz.prog 12 #[.agg #[.slice none 0 0, .slice none 0 0]] w fun e w' => e = .returned (.tuple #[.string ⟨#[]⟩, .int .i64 81]) ∧ Below w.heap.size w w' := by
  have P := dprint_any ⟨[], []⟩ _ _ w (nil_At w) nil_L gl
  rw [fxN_eq] at P
  exact P.mono fun e w' h => h
theorem Gl.on {w w' : World} (h : Gl w) (hb : Below w.heap.size w w') : Gl w' := h.below hb (Nat.le_refl _)
set_option maxRecDepth 100000 in
set_option maxHeartbeats 8000000 in
theorem dfixed_any (w : World) (gl : Gl w) : Calls Tryz.prog 10 #[] w fun e w' => e = .returned (.bool true) ∧ Below w.heap.size w w' := by
  have CA := fxA_any w gl
  go_enter Tryz.func10, Tryz.ntmps10
  go_wp2_with (first
    | (go_at_call 12; (with_reducible refine (fxQ_any _ gl5).mono ?_); rintro e w4 ⟨rfl, b4⟩; have B4 := B3.trans (b4.mono B3.size))
    | (go_at_call 12; (with_reducible refine (fxP_any _ _ _ s4 gl4).mono ?_); rintro e w3 ⟨rfl, b3⟩; have B3 := B2.trans (b3.mono B2.size); have gl5 := gl4.on b3)
    | (go_at_call 8; refine (fxB_any _ gl2).mono ?_; rintro e w2 ⟨rfl, b2⟩; have P2 := (b2.block _ (lt_of_block P1)).trans P1; obtain ⟨c0, c1, _⟩ := row2 P2; have lz := lt_of_block P2; have s4 := (s2.on b2).on (al1 w2 (.cells #[.slice none 0 0, .slice none 0 0] 25)); have gl4 := (gl2.on b2).alloc (.cells #[.slice none 0 0, .slice none 0 0] 25); have B2' := B1.trans (b2.mono B1.size); have B2 := B2'.trans ((al1 w2 (.cells #[.slice none 0 0, .slice none 0 0] 25)).mono B2'.size))
    | (go_at_call 8; refine CA.mono ?_; rintro e w1 ⟨p1, n1, m1, p2, n2, m2, rfl, s1, b1⟩; have gl1 := gl.on b1; have gl2 := gl1.alloc (.cells #[.slice p1 n1 m1, .slice p2 n2 m2] 25); have B1 := b1.trans ((al1 w1 (.cells #[.slice p1 n1 m1, .slice p2 n2 m2] 25)).mono b1.size); have P1 := heap_alloc_new w1 (.cells #[.slice p1 n1 m1, .slice p2 n2 m2] 25); have s2 := s1.on (al1 w1 (.cells #[.slice p1 n1 m1, .slice p2 n2 m2] 25)))
    | fail)
  go_ret
  exact ⟨rfl, B4⟩
end Go.Proofs.YtlabcadpkdgjnaaGreatDoor
namespace Go.Proofs.YtlabcadpkdgjnaaGreatDoor
open Go Go.RowKit Go.Shelf
theorem belD {n : Nat} {w w2 : World} (b : Below n w w2) : Below n w w2.drew := ⟨b.os, b.tape, b.output, b.size, b.block⟩
theorem belN {n : Nat} {w w2 : World} (b : Below n w w2) (k : Nat) : Below n w (w2.drewN k) := ⟨b.os, b.tape, b.output, b.size, b.block⟩
theorem wdD {w : World} {v : Value} {l : List Bs} {j : Nat} {x : Bs} (h : WdsAt w v l) (hx : l[j]? = some x) : ∃ b o c, v = .slice (some ⟨b, o, none⟩) l.length c ∧ b < w.heap.size ∧ l.length ≤ c ∧ w.cell? ⟨b, o + j, none⟩ = some (.string ⟨x.toArray⟩) := by
  obtain ⟨a, c, rfl, hc, _, hr⟩ := h
  have hi := (List.getElem?_eq_some_iff.1 hx).1
  obtain ⟨b, o, rfl, hb, hH⟩ := hr (by omega)
  have e := hH j hi x hx
  rw [Nat.mul_one] at e
  exact ⟨b, o, c, rfl, hb, hc, e⟩
theorem slD {w : World} {v : Value} {n sz : Nat} {p : Nat → Nat → Nat → Prop} (h : Sl w v n sz p) : ∃ a c, v = .slice a n c ∧ n ≤ c ∧ n ≤ 140737488355328 := by
  obtain ⟨a, c, h1, h2, h3, _⟩ := h
  exact ⟨a, c, h1, h2, h3⟩
theorem obD {w : World} {v : Value} {os : List Ob} {i : Nat} {x : Ob} (h : ObsAt w v os) (hx : os[i]? = some x) : ∃ b o c a1 c1, v = .slice (some ⟨b, o, none⟩) os.length c ∧ b < w.heap.size ∧ os.length ≤ c ∧ w.cell? ⟨b, o + i * 2, none⟩ = some (.string ⟨x.n.toArray⟩) ∧ w.cell? ⟨b, o + i * 2 + 1, none⟩ = some (.slice a1 x.fs.length c1) ∧ FldsAt w (.slice a1 x.fs.length c1) x.fs := by
  obtain ⟨a, c, rfl, hc, _, hr⟩ := h
  have hi := (List.getElem?_eq_some_iff.1 hx).1
  obtain ⟨b, o, rfl, hb, hH⟩ := hr (by omega)
  obtain ⟨e0, fv, e1, hf⟩ := hH i hi x hx
  obtain ⟨a1, c1, rfl, _, _⟩ := slD hf
  exact ⟨b, o, c, a1, c1, rfl, hb, hc, e0, e1, hf⟩
theorem enD {w : World} {v : Value} {os : List En} {i : Nat} {x : En} (h : EnsAt w v os) (hx : os[i]? = some x) : ∃ b o c a1 c1, v = .slice (some ⟨b, o, none⟩) os.length c ∧ b < w.heap.size ∧ os.length ≤ c ∧ w.cell? ⟨b, o + i * 2, none⟩ = some (.string ⟨x.n.toArray⟩) ∧ w.cell? ⟨b, o + i * 2 + 1, none⟩ = some (.slice a1 x.ws.length c1) ∧ WdsAt w (.slice a1 x.ws.length c1) x.ws := by
  obtain ⟨a, c, rfl, hc, _, hr⟩ := h
  have hi := (List.getElem?_eq_some_iff.1 hx).1
  obtain ⟨b, o, rfl, hb, hH⟩ := hr (by omega)
  obtain ⟨e0, fv, e1, hf⟩ := hH i hi x hx
  obtain ⟨a1, c1, rfl, _, _⟩ := slD hf
  exact ⟨b, o, c, a1, c1, rfl, hb, hc, e0, e1, hf⟩
theorem fldD2 {w : World} {a : Option Addr} {n c : Nat} {fs : List Fld} {i : Nat} {f : Fld} (h : FldsAt w (.slice a n c) fs) (hx : fs[i]? = some f) : ∃ b o, a = some ⟨b, o, none⟩ ∧ b < w.heap.size ∧ FldAt w f b (o + i * 5) := by
  obtain ⟨a, c, he, hc, _, hr⟩ := h
  cases he
  have hi := (List.getElem?_eq_some_iff.1 hx).1
  obtain ⟨b, o, rfl, hb, hH⟩ := hr (by omega)
  exact ⟨b, o, rfl, hb, hH i hi f hx⟩
set_option maxRecDepth 100000 in
set_option maxHeartbeats 4000000 in
theorem dsameT_eq {w : World} {va vb : Value} {l : List Bs} (ha : WdsAt w va l) (hb : WdsAt w vb l) : Calls Tryz.prog 24 #[va, vb] w fun e w' => e = .returned (.bool true) ∧ Below w.heap.size w w' := by
  have ha' := ha
  have hb' := hb
  obtain ⟨a1, c1, rfl, k1, _⟩ := slD ha
  obtain ⟨a2, c2, rfl, k2, _⟩ := slD hb
  clear ha hb
  go_enter Tryz.func24, Tryz.ntmps24
  go_wp2
  go_loopw [5] (fun i wr => ∃ j : Nat, i = .int .i64 (j : Int) ∧ j ≤ l.length ∧ Below w.heap.size w wr) (fun i _ => l.length - (RowKit.intOf i).toNat)
  case atStart => exact ⟨0, rfl, Nat.zero_le _, Below.refl _ _⟩
  case round =>
    obtain ⟨j, rfl, hj, hbr⟩ := hrel
    by_cases hlt : j < l.length
    · obtain ⟨x, hx⟩ : ∃ x, l[j]? = some x := ⟨_, List.getElem?_eq_getElem hlt⟩
      obtain ⟨b1, o1, _, e1, _, _, e0⟩ := wdD ha' hx
      cases e1
      obtain ⟨b2, o2, _, e2, _, _, f0⟩ := wdD hb' hx
      cases e2
      have l1 : ((j : Nat) : Int) < (l.length : Int) := by omega
      have hjN : ((j : Nat) : Int).toNat = j := by omega
      have hz : Hid (j + 1 ≤ l.length) := hlt
      have g0 := cell_on hbr e0
      have r0 := cell_on hbr f0
      clear hx hlt e0 f0 ha' hb'
      go_wp2
      go_region_held3 (fun w' => w'.cell? ⟨b1, o1 + j, none⟩ = some (.string ⟨x.toArray⟩) ∧ w'.cell? ⟨b2, o2 + j, none⟩ = some (.string ⟨x.toArray⟩)) (go_keep) (fail)
      go_wp2
      refine ⟨⟨j + 1, by simp, hz.out, belD hbr⟩, ?_⟩
      have := hz.out
      simp [RowKit.intOf]
      omega
    · have l2 : decide (((j : Nat) : Int) < (l.length : Int)) = false := by simp; omega
      have l3 : decide (j < l.length) = false := by simp; omega
      clear hlt hj ha' hb'
      go_wp2
      go_ret
      exact ⟨rfl, hbr⟩
theorem two_blk (w : World) (o o' : Obj) : Below w.heap.size w ((w.alloc o).alloc o') := (((Kp.refl Non w).alloc o).alloc o').bel
set_option maxRecDepth 100000 in
set_option maxHeartbeats 8000000 in
theorem dsame_eq {w : World} {oa ob ea eb : Value} {s : Sch} (ha : SchAt w oa ea s) (hb : SchAt w ob eb s) : Calls Tryz.prog 11 #[.agg #[oa, ea], .agg #[ob, eb]] w fun e w' => e = .returned (.bool true) ∧ Below w.heap.size w w' := by
  obtain ⟨a1, c1, rfl, k1, m1⟩ := slD ha.os
  obtain ⟨a2, c2, rfl, k2, m2⟩ := slD hb.os
  obtain ⟨a3, c3, rfl, k3, m3⟩ := slD ha.es
  obtain ⟨a4, c4, rfl, k4, m4⟩ := slD hb.es
  obtain ⟨w0, hw0⟩ : ∃ w0, w0 = (w.alloc (.cells #[.slice a1 s.os.length c1, .slice a3 s.es.length c3] 25)).alloc (.cells #[.slice a2 s.os.length c2, .slice a4 s.es.length c4] 25) := ⟨_, rfl⟩
  have b0 : Below w.heap.size w w0 := by rw [hw0]; exact two_blk _ _ _
  have P1 : w0.heap[w.heap.size]? = some (.cells #[.slice a1 s.os.length c1, .slice a3 s.es.length c3] 25 (0, 0)) := by rw [hw0]; exact rowOld (heap_alloc_new w _) ((Kp.refl Non _).alloc _) (fun e => e)
  have P2 : w0.heap[w.heap.size + 1]? = some (.cells #[.slice a2 s.os.length c2, .slice a4 s.es.length c4] 25 (0, 0)) := by
    rw [hw0]
    have := heap_alloc_new (w.alloc (.cells #[.slice a1 s.os.length c1, .slice a3 s.es.length c3] 25)) (.cells #[.slice a2 s.os.length c2, .slice a4 s.es.length c4] 25)
    rw [World.size_alloc] at this
    exact this
  have ha0 := ha.on b0
  have hb0 := hb.on b0
  have lz : w.heap.size + 1 < w0.heap.size := lt_of_block P2
  have A : Hid (∀ W, Below w0.heap.size w0 W → W.cell? ⟨w.heap.size, 0, none⟩ = some (.slice a1 s.os.length c1) ∧ W.cell? ⟨w.heap.size, 1, none⟩ = some (.slice a3 s.es.length c3) ∧ W.cell? ⟨w.heap.size + 1, 0, none⟩ = some (.slice a2 s.os.length c2) ∧ W.cell? ⟨w.heap.size + 1, 1, none⟩ = some (.slice a4 s.es.length c4)) := fun W F => (by
    have q1 := (F.block _ (lt_of_block P1)).trans P1
    have q2 := (F.block _ (lt_of_block P2)).trans P2
    exact ⟨(row2' q1).1, (row2' q1).2, (row2' q2).1, (row2' q2).2⟩)
  clear ha hb P1 P2
  go_enter Tryz.func11, Tryz.ntmps11
  go_wp2
  rw [← hw0]
  clear hw0
  go_loopw [5] (fun i wr => ∃ j : Nat, i = .int .i64 (j : Int) ∧ j ≤ s.os.length ∧ Below w0.heap.size w0 wr) (fun i _ => s.os.length - (RowKit.intOf i).toNat)
  case atStart => exact ⟨0, rfl, Nat.zero_le _, Below.refl _ _⟩
  case round =>
    obtain ⟨j, rfl, hj, hbr⟩ := hrel
    obtain ⟨p1, p2, p3, p4⟩ := A.out _ hbr
    by_cases hlt : j < s.os.length
    · obtain ⟨x, hx⟩ : ∃ x, s.os[j]? = some x := ⟨_, List.getElem?_eq_getElem hlt⟩
      obtain ⟨b1, o1, _, f1, g1, ee, hb1, _, e0, e1, hf1⟩ := obD (ha0.os.on hbr) hx
      cases ee
      obtain ⟨b2, o2, _, f2, g2, ee, hb2, _, d0, d1, hf2⟩ := obD (hb0.os.on hbr) hx
      cases ee
      have l1 : ((j : Nat) : Int) < (s.os.length : Int) := by omega
      have hjN : ((j : Nat) : Int).toNat = j := by omega
      have hz : Hid (j + 1 ≤ s.os.length) := hlt
      have hzw := hbr.size
      have m5 := (slD hf1)
      have n1 : w.heap.size + 1 < wr.heap.size := by omega
      have n2 : w.heap.size < wr.heap.size := by omega
      have n3 : ¬ w.heap.size = wr.heap.size := by omega
      have n4 : ¬ w.heap.size + 1 = wr.heap.size := by omega
      have n5 : ¬ w.heap.size = wr.heap.size + 1 := by omega
      have q3 := fun o o' => cell_on (two_blk wr o o') p3
      have q1 := fun o o' => cell_on (two_blk wr o o') p1
      clear hx hlt
      go_wp2
      go_region
      · obtain ⟨W0, hW0⟩ : ∃ W0, W0 = ((wr.alloc (.cells #[.string ⟨x.n.toArray⟩, .slice f1 x.fs.length g1] 58)).alloc (.cells #[.string ⟨x.n.toArray⟩, .slice f2 x.fs.length g2] 58)).drew := ⟨_, rfl⟩
        have bw : Below wr.heap.size wr W0 := by rw [hW0]; exact belD (two_blk _ _ _)
        have Q1 : W0.heap[wr.heap.size]? = some (.cells #[.string ⟨x.n.toArray⟩, .slice f1 x.fs.length g1] 58 (0, 0)) := by
          rw [hW0]
          exact rowOld (rowOld (heap_alloc_new wr _) ((Kp.refl Non _).alloc _) (fun e => e)) ((Kp.refl Non _).drew) (fun e => e)
        have Q2 : W0.heap[wr.heap.size + 1]? = some (.cells #[.string ⟨x.n.toArray⟩, .slice f2 x.fs.length g2] 58 (0, 0)) := by
          rw [hW0]
          have h2 := heap_alloc_new (wr.alloc (.cells #[.string ⟨x.n.toArray⟩, .slice f1 x.fs.length g1] 58)) (.cells #[.string ⟨x.n.toArray⟩, .slice f2 x.fs.length g2] 58)
          rw [World.size_alloc] at h2
          exact rowOld h2 ((Kp.refl Non _).drew) (fun e => e)
        rw [← hW0]
        have B : Hid (∀ W, Below W0.heap.size W0 W → W.cell? ⟨wr.heap.size, 0, none⟩ = some (.string ⟨x.n.toArray⟩) ∧ W.cell? ⟨wr.heap.size, 1, none⟩ = some (.slice f1 x.fs.length g1) ∧ W.cell? ⟨wr.heap.size + 1, 0, none⟩ = some (.string ⟨x.n.toArray⟩) ∧ W.cell? ⟨wr.heap.size + 1, 1, none⟩ = some (.slice f2 x.fs.length g2)) := fun W F => (by
          have q1 := (F.block _ (lt_of_block Q1)).trans Q1
          have q2 := (F.block _ (lt_of_block Q2)).trans Q2
          exact ⟨(row2' q1).1, (row2' q1).2, (row2' q2).1, (row2' q2).2⟩)
        obtain ⟨t1, t2, t3, t4⟩ := B.out _ (Below.refl _ _)
        have HF1 : Hid (FldsAt W0 (.slice f1 x.fs.length g1) x.fs) := hf1.on bw
        have HF2 : Hid (FldsAt W0 (.slice f2 x.fs.length g2) x.fs) := hf2.on bw
        have BW : Hid (Below w0.heap.size w0 W0) := hbr.trans (bw.mono hbr.size)
        clear hW0 Q1 Q2 hf1 hf2 e0 e1 d0 d1 p1 p2 p3 p4 q1 q3 m5
        generalize wr = wA at *
        go_wp2
        go_loopw [8] (fun i wr => ∃ k : Nat, i = .int .i64 (k : Int) ∧ k ≤ x.fs.length ∧ Below W0.heap.size W0 wr) (fun i _ => x.fs.length - (RowKit.intOf i).toNat)
        case atStart => exact ⟨0, rfl, Nat.zero_le _, Below.refl _ _⟩
        case round =>
          obtain ⟨k, rfl, hk, hkr⟩ := hrel
          obtain ⟨t1, t2, t3, t4⟩ := B.out _ hkr
          by_cases hlk : k < x.fs.length
          · obtain ⟨y, hy⟩ : ∃ y, x.fs[k]? = some y := ⟨_, List.getElem?_eq_getElem hlk⟩
            obtain ⟨b3, o3, rfl, hb3, y0, y1, y2, y3, y4⟩ := fldD2 (HF1.out.on hkr) hy
            obtain ⟨b4, o4, rfl, hb4, z0, z1, z2, z3, z4⟩ := fldD2 (HF2.out.on hkr) hy
            have lk : ((k : Nat) : Int) < (x.fs.length : Int) := by omega
            have hkN : ((k : Nat) : Int).toNat = k := by omega
            have hzk : Hid (k + 1 ≤ x.fs.length) := hlk
            have mf1 : x.fs.length ≤ g1 := (slD HF1.out).elim fun _ q => q.elim fun _ r => (by have := r.1; cases this; exact r.2.1)
            have mf3 : x.fs.length ≤ 140737488355328 := (slD HF1.out).elim fun _ q => q.elim fun _ r => r.2.2
            have mf2 : x.fs.length ≤ g2 := (slD HF2.out).elim fun _ q => q.elim fun _ r => (by have := r.1; cases this; exact r.2.1)
            clear hlk hy
            go_wp2
            go_quiet (fail)
            go_wp2
            refine ⟨⟨k + 1, by simp, hzk.out, belN hkr _⟩, ?_⟩
            have := hzk.out
            simp [RowKit.intOf]
            omega
          · have lk2 : decide (((k : Nat) : Int) < (x.fs.length : Int)) = false := by simp; omega
            have lk3 : decide (k < x.fs.length) = false := by simp; omega
            clear hlk
            go_wp2
            refine ⟨⟨j + 1, by simp, hz.out, BW.out.trans (hkr.mono BW.out.size)⟩, ?_⟩
            have := hz.out
            simp [RowKit.intOf]
            omega
      · obtain ⟨W0, hW0⟩ : ∃ W0, W0 = ((wr.alloc (.cells #[.string ⟨x.n.toArray⟩, .slice f2 x.fs.length g2] 58)).alloc (.cells #[.string ⟨x.n.toArray⟩, .slice f1 x.fs.length g1] 58)).drew := ⟨_, rfl⟩
        have bw : Below wr.heap.size wr W0 := by rw [hW0]; exact belD (two_blk _ _ _)
        have Q1 : W0.heap[wr.heap.size + 1]? = some (.cells #[.string ⟨x.n.toArray⟩, .slice f1 x.fs.length g1] 58 (0, 0)) := by
          rw [hW0]
          have h2 := heap_alloc_new (wr.alloc (.cells #[.string ⟨x.n.toArray⟩, .slice f2 x.fs.length g2] 58)) (.cells #[.string ⟨x.n.toArray⟩, .slice f1 x.fs.length g1] 58)
          rw [World.size_alloc] at h2
          exact rowOld h2 ((Kp.refl Non _).drew) (fun e => e)
        have Q2 : W0.heap[wr.heap.size]? = some (.cells #[.string ⟨x.n.toArray⟩, .slice f2 x.fs.length g2] 58 (0, 0)) := by
          rw [hW0]
          exact rowOld (rowOld (heap_alloc_new wr _) ((Kp.refl Non _).alloc _) (fun e => e)) ((Kp.refl Non _).drew) (fun e => e)
        rw [← hW0]
        have B : Hid (∀ W, Below W0.heap.size W0 W → W.cell? ⟨wr.heap.size + 1, 0, none⟩ = some (.string ⟨x.n.toArray⟩) ∧ W.cell? ⟨wr.heap.size + 1, 1, none⟩ = some (.slice f1 x.fs.length g1) ∧ W.cell? ⟨wr.heap.size, 0, none⟩ = some (.string ⟨x.n.toArray⟩) ∧ W.cell? ⟨wr.heap.size, 1, none⟩ = some (.slice f2 x.fs.length g2)) := fun W F => (by
          have q1 := (F.block _ (lt_of_block Q1)).trans Q1
          have q2 := (F.block _ (lt_of_block Q2)).trans Q2
          exact ⟨(row2' q1).1, (row2' q1).2, (row2' q2).1, (row2' q2).2⟩)
        obtain ⟨t1, t2, t3, t4⟩ := B.out _ (Below.refl _ _)
        have HF1 : Hid (FldsAt W0 (.slice f1 x.fs.length g1) x.fs) := hf1.on bw
        have HF2 : Hid (FldsAt W0 (.slice f2 x.fs.length g2) x.fs) := hf2.on bw
        have BW : Hid (Below w0.heap.size w0 W0) := hbr.trans (bw.mono hbr.size)
        clear hW0 Q1 Q2 hf1 hf2 e0 e1 d0 d1 p1 p2 p3 p4 q1 q3 m5
        generalize wr = wA at *
        go_wp2
        go_loopw [8] (fun i wr => ∃ k : Nat, i = .int .i64 (k : Int) ∧ k ≤ x.fs.length ∧ Below W0.heap.size W0 wr) (fun i _ => x.fs.length - (RowKit.intOf i).toNat)
        case atStart => exact ⟨0, rfl, Nat.zero_le _, Below.refl _ _⟩
        case round =>
          obtain ⟨k, rfl, hk, hkr⟩ := hrel
          obtain ⟨t1, t2, t3, t4⟩ := B.out _ hkr
          by_cases hlk : k < x.fs.length
          · obtain ⟨y, hy⟩ : ∃ y, x.fs[k]? = some y := ⟨_, List.getElem?_eq_getElem hlk⟩
            obtain ⟨b3, o3, rfl, hb3, y0, y1, y2, y3, y4⟩ := fldD2 (HF1.out.on hkr) hy
            obtain ⟨b4, o4, rfl, hb4, z0, z1, z2, z3, z4⟩ := fldD2 (HF2.out.on hkr) hy
            have lk : ((k : Nat) : Int) < (x.fs.length : Int) := by omega
            have hkN : ((k : Nat) : Int).toNat = k := by omega
            have hzk : Hid (k + 1 ≤ x.fs.length) := hlk
            have mf1 : x.fs.length ≤ g1 := (slD HF1.out).elim fun _ q => q.elim fun _ r => (by have := r.1; cases this; exact r.2.1)
            have mf3 : x.fs.length ≤ 140737488355328 := (slD HF1.out).elim fun _ q => q.elim fun _ r => r.2.2
            have mf2 : x.fs.length ≤ g2 := (slD HF2.out).elim fun _ q => q.elim fun _ r => (by have := r.1; cases this; exact r.2.1)
            clear hlk hy
            go_wp2
            go_quiet (fail)
            go_wp2
            refine ⟨⟨k + 1, by simp, hzk.out, belN hkr _⟩, ?_⟩
            have := hzk.out
            simp [RowKit.intOf]
            omega
          · have lk2 : decide (((k : Nat) : Int) < (x.fs.length : Int)) = false := by simp; omega
            have lk3 : decide (k < x.fs.length) = false := by simp; omega
            clear hlk
            go_wp2
            refine ⟨⟨j + 1, by simp, hz.out, BW.out.trans (hkr.mono BW.out.size)⟩, ?_⟩
            have := hz.out
            simp [RowKit.intOf]
            omega
    · have l2 : decide (((j : Nat) : Int) < (s.os.length : Int)) = false := by simp; omega
      have l3 : decide (j < s.os.length) = false := by simp; omega
      generalize wr = wB at *
      clear hlt hj
      go_wp2
      go_loopw [9] (fun i wr => ∃ k : Nat, i = .int .i64 (k : Int) ∧ k ≤ s.es.length ∧ Below w0.heap.size w0 wr) (fun i _ => s.es.length - (RowKit.intOf i).toNat)
      case atStart => exact ⟨0, rfl, Nat.zero_le _, hbr⟩
      case round =>
        obtain ⟨k, rfl, hk, hkr⟩ := hrel
        obtain ⟨p1, p2, p3, p4⟩ := A.out _ hkr
        by_cases hlk : k < s.es.length
        · obtain ⟨x, hx⟩ : ∃ x, s.es[k]? = some x := ⟨_, List.getElem?_eq_getElem hlk⟩
          obtain ⟨b1, o1, _, f1, g1, ee, hb1, _, e0, e1, hf1⟩ := enD (ha0.es.on hkr) hx
          cases ee
          obtain ⟨b2, o2, _, f2, g2, ee, hb2, _, d0, d1, hf2⟩ := enD (hb0.es.on hkr) hx
          cases ee
          have lk : ((k : Nat) : Int) < (s.es.length : Int) := by omega
          have hkN : ((k : Nat) : Int).toNat = k := by omega
          have hzk : Hid (k + 1 ≤ s.es.length) := hlk
          have ST : ∀ W, Below wr.heap.size wr W → Calls Tryz.prog 24 #[.slice f1 x.ws.length g1, .slice f2 x.ws.length g2] W fun e w' => e = .returned (.bool true) ∧ Below W.heap.size W w' := fun W F => dsameT_eq (hf1.on F) (hf2.on F)
          have SS : ∀ {W}, Below wr.heap.size wr W → (Below wr.heap.size wr W ∧ W.cell? ⟨w.heap.size, 1, none⟩ = some (.slice (some ⟨b1, o1, none⟩) s.es.length c3) ∧ W.cell? ⟨w.heap.size + 1, 1, none⟩ = some (.slice (some ⟨b2, o2, none⟩) s.es.length c4) ∧ W.cell? ⟨b1, o1 + k * 2, none⟩ = some (.string ⟨x.n.toArray⟩) ∧ W.cell? ⟨b1, o1 + k * 2 + 1, none⟩ = some (.slice f1 x.ws.length g1) ∧ W.cell? ⟨b2, o2 + k * 2, none⟩ = some (.string ⟨x.n.toArray⟩) ∧ W.cell? ⟨b2, o2 + k * 2 + 1, none⟩ = some (.slice f2 x.ws.length g2)) := fun F => ⟨F, cell_on F p2, cell_on F p4, cell_on F e0, cell_on F e1, cell_on F d0, cell_on F d1⟩
          have Y0 : Below wr.heap.size wr wr.drew := belD (Below.refl _ _)
          clear hx hlk hf1 hf2
          go_wp2
          go_region_held3 (fun w' => Below wr.heap.size wr w' ∧ w'.cell? ⟨w.heap.size, 1, none⟩ = some (.slice (some ⟨b1, o1, none⟩) s.es.length c3) ∧ w'.cell? ⟨w.heap.size + 1, 1, none⟩ = some (.slice (some ⟨b2, o2, none⟩) s.es.length c4) ∧ w'.cell? ⟨b1, o1 + k * 2, none⟩ = some (.string ⟨x.n.toArray⟩) ∧ w'.cell? ⟨b1, o1 + k * 2 + 1, none⟩ = some (.slice f1 x.ws.length g1) ∧ w'.cell? ⟨b2, o2 + k * 2, none⟩ = some (.string ⟨x.n.toArray⟩) ∧ w'.cell? ⟨b2, o2 + k * 2 + 1, none⟩ = some (.slice f2 x.ws.length g2)) (first | with_reducible exact SS Y7 | with_reducible exact SS Y0 | fail) ((go_at_call 24; (with_reducible refine (ST _ Y0).mono ?_); rintro e w7 ⟨rfl, b7⟩; have Y7 : Below wr.heap.size wr w7 := Y0.trans (b7.mono Y0.size)))
          all_goals go_wp2
          all_goals
            refine ⟨⟨k + 1, by simp, hzk.out, hkr.trans (Y7.mono hkr.size)⟩, ?_⟩
            have := hzk.out
            simp [RowKit.intOf]
            omega
        · have lk2 : decide (((k : Nat) : Int) < (s.es.length : Int)) = false := by simp; omega
          have lk3 : decide (k < s.es.length) = false := by simp; omega
          clear hlk
          go_wp2
          go_ret
          exact ⟨rfl, b0.trans (hkr.mono b0.size)⟩
end Go.Proofs.YtlabcadpkdgjnaaGreatDoor
