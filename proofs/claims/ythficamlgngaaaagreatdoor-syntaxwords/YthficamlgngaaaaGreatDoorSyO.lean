/- Arguments and directives. -/
import Derived.Test.YthficamlgngaaaaGreatDoorSyM
import Derived.Test.YthficamlgngaaaaGreatDoorSyG
namespace Go.Proofs.YthficamlgngaaaaGreatDoor
open Go Go.RowKit
theorem objS_some (f : List Tok → Rs (List CT)) (l : List Tok) : objS (some f) l = (anyS (memS f) [125] l.tail).go fun ms l1 => .ok (valC 9 [] (ms.map (·.2)) (ms.map fun m => [sC m.1]), l1) := rfl
/-- The state between two members. -/
def Jq (R V P B : Nat) (W0 : World) (ms : List (Bs × List CT)) (l : List Tok) (w : World) : Prop :=
  (∃ lv nv xs ns D Dn, Jo R V P B w ms lv nv xs ns D Dn) ∧ ms.length + l.length ≤ 2049 ∧ Kp (fun k => k = R ∨ k = V) W0 w
section
variable {R g cap : Nat} {T : List Tok} {fx : Bool} {a b c : Nat}
theorem Jq.kp {V P B : Nat} {W0 : World} (pl : Pl R g V P B) : ∀ xs l m w w', Jq R V P B W0 xs l w → Kp (Own1 R) w w' → m.length ≤ l.length → Jq R V P B W0 xs m w' := by
  rintro xs l m w w' ⟨⟨lv, nv, us, ns, D, Dn, hj⟩, hn, hk⟩ k hm
  exact ⟨⟨lv, nv, us, ns, D, Dn, hj.kp pl k⟩, by omega, hk.trans (k.mono (fun _ _ e => Or.inl e))⟩
theorem oneR_obj {V P B : Nat} {W0 : World} (hB : B = W0.heap.size) (w0 : World) (hw0 : ∀ w', Kp (fun k => k = R ∨ k = V) W0 w' → Kp (Own1 R) w0 w') (pl : Pl R g V P B) (n : Nat) (X : ValP R g cap T fx a b c n) :
    OneR R g cap T fx a b c 160 #[.pointer (some ⟨P, 0, none⟩), .pointer (some ⟨V, 0, none⟩)] (memS (valF fx n)) (Jq R V P B W0) (Kp (Own1 R) w0) := by
  rintro ms l w ⟨⟨lv, nv, xs, ns, D, Dn, hj⟩, hn, hk⟩ h hl
  refine (object1_any pl n X ms l w lv nv xs ns D Dn hj hn h hl).mono ?_
  rintro e w' (⟨p, hp, rfl, k⟩ | ⟨x, m, hp, rfl, hj', k, h', n'⟩)
  · exact Or.inl ⟨p, hp, rfl, hw0 _ (hk.trans (k.mono (fun _ _ e => Or.inl e)))⟩
  · refine Or.inr ⟨x, m, hp, rfl, ⟨hj', ?_, hk.trans2 k (fun k hk e => ?_)⟩, h', n'⟩
    · have := memS_eats (valF_eats fx n).keeps _ _ _ hp
      rw [List.length_append]
      simp; omega
    · rcases e with e | e | e | e
      · exact Or.inl e
      · exact Or.inr e
      · have := (own_block hj.jl.own e).1
        omega
      · have := (own_block hj.jn.own e).1
        omega
theorem object_deep {w : World} {l : List Tok} (h : Sx R g cap T w l fx a 32 c) (hl : l ≠ []) (hp : isP [123] l = true) : Calls Tryz.prog 149 #[.pointer (some ⟨R, 0, none⟩)] w (Out R g cap T w fx a 32 c (objS none l) (ValV w.heap.size)) := by
  have hS0 : Sx R g cap T (preL (R := R) w 9) l fx a 32 c := ((h.alloc _).alloc _).alloc _
  have X := open1_deep [123] hS0 hl hp
  have cP := (hS0.c0)
  go_enter Tryz.func149, Tryz.ntmps149
  go_wp2_with (go_at_call 94; refine X.mono ?_; rintro e w1 ⟨rfl, k1⟩)
  exact ⟨rfl, Or.inl ⟨_, rfl, rfl, ((((Kp.refl (Own1 R) w).alloc _).alloc _).alloc _).trans k1⟩⟩

set_option maxRecDepth 100000 in
set_option maxHeartbeats 4000000 in
theorem object_some {w : World} {l : List Tok} {n : Nat} (X : ValP R g cap T fx a (b + 1) c n) (hb : b < 32) (h : Sx R g cap T w l fx a b c) (hl : l ≠ []) (hp : isP [123] l = true) : Calls Tryz.prog 149 #[.pointer (some ⟨R, 0, none⟩)] w (Out R g cap T w fx a b c (objS (some (valF fx n)) l) (ValV w.heap.size)) := by
  have hmf : ∀ (fn : Fn) (first cap : Array Value) (w : World), (Instr.makeFunc fn first cap).run Tryz.prog w = .ok (.func fn first cap) w := fun _ _ _ _ => rfl
  have hR := h.ltR
  have hg := h.lt
  have hS0 : Sx R g cap T (preL (R := R) w 9) l fx a b c := ((h.alloc _).alloc _).alloc _
  have hz0 : (preL (R := R) w 9).heap.size = w.heap.size + 3 := by simp
  have pl : Pl R g (w.heap.size + 1 + 1) w.heap.size (w.heap.size + 3) := ⟨by omega, by omega, by omega, by omega, by omega, by omega, by omega, by omega⟩
  have bP : (preL (R := R) w 9).heap[w.heap.size]? = some (.cells #[.pointer (some ⟨R, 0, none⟩)] 82 (0, 0)) := by
    have := old_row (heap_alloc_new w (.cells #[.pointer (some ⟨R, 0, none⟩)] 82)) (((Kp.refl Non _).alloc (.cells #[.int .i64 0, .string ⟨#[]⟩, .slice none 0 0, .slice none 0 0] 70)).alloc (.cells #[.int .i64 9, .string ⟨#[]⟩, .slice none 0 0, .slice none 0 0] 70)) (fun e => e)
    exact this
  have bX : (preL (R := R) w 9).heap[w.heap.size + 1]? = some (.cells #[.int .i64 0, .string ⟨#[]⟩, .slice none 0 0, .slice none 0 0] 70 (0, 0)) := by
    have := old_row (heap_alloc_new (w.alloc (.cells #[.pointer (some ⟨R, 0, none⟩)] 82)) (.cells #[.int .i64 0, .string ⟨#[]⟩, .slice none 0 0, .slice none 0 0] 70)) ((Kp.refl Non _).alloc (.cells #[.int .i64 9, .string ⟨#[]⟩, .slice none 0 0, .slice none 0 0] 70)) (fun e => e)
    rw [World.size_alloc] at this
    exact this
  have bV : (preL (R := R) w 9).heap[w.heap.size + 1 + 1]? = some (.cells #[.int .i64 9, .string ⟨#[]⟩, .slice none 0 0, .slice none 0 0] 70 (0, 0)) := by
    have := heap_alloc_new ((w.alloc (.cells #[.pointer (some ⟨R, 0, none⟩)] 82)).alloc (.cells #[.int .i64 0, .string ⟨#[]⟩, .slice none 0 0, .slice none 0 0] 70)) (.cells #[.int .i64 9, .string ⟨#[]⟩, .slice none 0 0, .slice none 0 0] 70)
    rw [World.size_alloc, World.size_alloc] at this
    exact this
  have KW : ∀ w', Kp (fun k => k = R ∨ k = w.heap.size + 1 + 1) (preL (R := R) w 9) w' → Kp (Own1 R) w w' := fun w' k => ((((Kp.refl (Own1 R) w).alloc _).alloc _).alloc _).trans2 k (fun j hj e => by rcases e with e | e; exact e; omega)
  have OP := open1_any [123] (by simp) hS0 hl hp hb
  have AN := any_any 160 #[.pointer (some ⟨w.heap.size, 0, none⟩), .pointer (some ⟨w.heap.size + 1 + 1, 0, none⟩)] (fun _ _ => rfl) [125] (memS (valF fx n)) (memS_eats (valF_eats fx n).keeps) _ (Kp (Own1 R) w) (Jq.kp (W0 := preL (R := R) w 9) pl) (oneR_obj hz0.symm w KW pl n X)
  have HB : Hid (_ ∧ _ ∧ _) := ⟨bP, bX, bV⟩
  have HA : Hid _ := AN
  have HKW : Hid _ := KW
  have HZ : Hid (_ = _) := hz0
  clear bP bX bV AN KW hz0 X
  have hle := h.le
  have hsm := h.full.small
  have hbI : ((b : Nat) : Int) < 32 := by omega
  have hbI0 : (0 : Int) ≤ ((b : Nat) : Int) := by omega
  go_enter Tryz.func149, Tryz.ntmps149
  go_wp2_with (first
    | (go_at_call 53; refine (HA.out [] _ _ J0.out h1 n1).mono ?_; rintro e w2 (⟨p, hq, rfl, k2⟩ | ⟨ys, m, hq, rfl, ⟨⟨lv, nv, xs, ns, D, Dn, hj⟩, hlen, k2⟩, h2, n2⟩); (exact ⟨rfl, Or.inl ⟨p, by rw [objS_some, hq, go_error], rfl, k2⟩⟩); obtain ⟨o, lc, hlv⟩ := hj.jl.slice; obtain ⟨o', nc, hnv⟩ := hj.jn.slice; rw [List.length_map] at hlv hnv; subst hlv hnv; obtain ⟨v0, v1, v2, v3, vf⟩ := row4 hj.jl.var; have bX2 := old_row HB.out.2.1 k2 (by rintro (e | e) <;> omega); obtain ⟨x0, x1, x2, x3, xf⟩ := row4 bX2; have cP2 := hj.jl.ptr; have r4 := h2.c4; have f4 := h2.free 4; have HJ : Hid _ := hj; have H2 : Hid _ := h2; have K2 : Hid _ := k2; have HQ : Hid _ := hq; clear hj h2 k2 hq)
    | (go_at_call 94; refine OP.mono ?_; rintro e w1 ⟨rfl, h1, n1, k1⟩; have bP1 := old_row HB.out.1 k1 (by intro e; have e' : w.heap.size = R := e; omega); have bV1 := old_row HB.out.2.2 k1 (by intro e; have e' : w.heap.size + 1 + 1 = R := e; omega); have cP1 := (row1 bP1).1; have hz1 := k1.size; rw [HZ.out] at hz1; have J0 : Hid _ := (⟨⟨_, _, _, _, _, _, ⟨Js.new bV1 bP1 hz1, Js.new bV1 bP1 hz1, fun _ e => e, fun q e => by cases e⟩⟩, by have := h1.le; simp at this ⊢; omega, k1.mono (fun _ _ e => Or.inl e)⟩ : Jq R (w.heap.size + 1 + 1) w.heap.size (w.heap.size + 3) _ [] l.tail w1); clear bP1 bV1 k1))
  go_region
  all_goals go_wp2
  have S3 := H2.out.set4 (b : Int) b rfl (by omega)
  have KQ := own4 (w := w2.setCell ⟨R, 4, none⟩ (.int .i64 (b : Int))) (w.heap.size + 1) (.int .i64 9) (.string ⟨#[]⟩) (.slice o ys.length lc) (.slice o' ys.length nc)
  have S4 := (S3.kp KQ (fun e => by have e' : R = w.heap.size + 1 := e; omega) (fun e => by have e' : g = w.heap.size + 1 := e; omega)).drew
  have KX := K2.out.set R 4 (.int .i64 (b : Int)) (Or.inr (Or.inl rfl))
  have KR := ((HKW.out _ KX).ret KQ (Nat.le_succ _)).drew
  have KA : Kp (fun k => k = R ∨ k = w.heap.size + 1) w2 _ := (((Kp.own R 4 (.int .i64 (b : Int))).mono (fun _ _ e => Or.inl e)).trans (KQ.mono (fun _ _ e => Or.inr e))).drew
  have AT := HJ.out.jl.at.later (lo' := w.heap.size) KA (Nat.le_refl _) (by rintro k h1 h2 (e | e) <;> omega) (by omega) KA.size
  have AN := HJ.out.jn.at.later (lo' := w.heap.size) KA (Nat.le_refl _) (by rintro k h1 h2 (e | e) <;> omega) (by omega) KA.size
  refine bodyPost_ret (v := .agg #[.int .i64 9, .string ⟨#[]⟩, .slice o ys.length lc, .slice o' ys.length nc]) (by simp [results, Tryz.results149, go_sem, x0, x1, x2, x3]) rfl (Or.inr ⟨_, m, _, by rw [objS_some, HQ.out, go_ok], rfl, ⟨_, _, _, _, _, _, _, _, rfl, ?_⟩, S4, n2 (by simp), KR⟩)
  exact (((Ats.nil.cons AN).cons AT).cons (.lf _)).cons (.lf _)

set_option maxRecDepth 100000 in
set_option maxHeartbeats 2000000 in
theorem signed_any {w : World} {l : List Tok} {n : Nat} (h : Sx R g cap T w l fx a b c) (hl : l ≠ [])
    (LP : ∀ w, Sx R g cap T w l fx a b c → isP [91] l = true → Calls Tryz.prog 148 #[.pointer (some ⟨R, 0, none⟩)] w (Out R g cap T w fx a b c (listS (inF fx n) l) (ValV w.heap.size)))
    (OP : ∀ w, Sx R g cap T w l fx a b c → isP [123] l = true → Calls Tryz.prog 149 #[.pointer (some ⟨R, 0, none⟩)] w (Out R g cap T w fx a b c (objS (inF fx n) l) (ValV w.heap.size))) :
    Calls Tryz.prog 139 #[.pointer (some ⟨R, 0, none⟩)] w (Out R g cap T w fx a b c (signS fx (inF fx n) l) (ValV w.heap.size)) := by
  have hR := h.ltR
  have hg := h.lt
  have A := see_any [91] (h.alloc zeroV) hl
  have B := fun w1 (k1 : Kp Non (w.alloc zeroV) w1) => see_any [123] ((h.alloc zeroV).non k1) hl
  by_cases h1 : isP [91] l = true
  · rw [h1] at A
    have HQ : Hid (signS fx (inF fx n) l = listS (inF fx n) l) := if_pos h1
    go_enter Tryz.func139, Tryz.ntmps139
    go_wp2_with (first
      | (go_at_call 148; refine (LP _ ((h.alloc zeroV).non k1) h1).mono ?_; rintro e w2 (⟨p, hq, rfl, k2⟩ | ⟨cs, m, v, hq, rfl, ⟨kk, tt, o1, n1, z1, o2, n2, z2, rfl, hat⟩, h2, m2, k2⟩); (exact ⟨rfl, Or.inl ⟨p, HQ.out.trans hq, rfl, ((Kp.refl (Own1 R) w).alloc _).trans (k1.any.trans k2)⟩⟩); have K2 := k1.any.trans k2; obtain ⟨c0, c1, c2, c3, cf⟩ := row4 (new_row K2 (fun e => by have e' : w.heap.size = R := e; omega)))
      | (go_at_call 59; refine A.mono ?_; rintro e w1 ⟨rfl, k1⟩))
    obtain ⟨r1, r2⟩ := ret4 K2 h2 hR hg (.int .i64 kk) (.string tt) (.slice o1 n1 z1) (.slice o2 n2 z2)
    have hz : w.heap.size + 1 ≤ w1.heap.size := by have := k1.size; simpa using this
    refine bodyPost_ret (v := .agg #[.int .i64 kk, .string tt, .slice o1 n1 z1, .slice o2 n2 z2]) (by simp [results, Tryz.results139, go_sem, c0, c1, c2, c3]) rfl (Or.inr ⟨_, _, _, HQ.out.trans hq, rfl, ⟨_, _, _, _, _, _, _, _, rfl, ?_⟩, r1, m2, r2⟩)
    exact ats_up (by omega) hat (own4 w.heap.size _ _ _ _) (by omega)
  · have h1' : isP [91] l = false := Bool.eq_false_iff.2 h1
    rw [h1'] at A
    by_cases h2 : isP [123] l = true
    · rw [h2] at B
      have HQ : Hid (signS fx (inF fx n) l = objS (inF fx n) l) := (if_neg h1).trans (if_pos h2)
      clear h1
      go_enter Tryz.func139, Tryz.ntmps139
      go_wp2_with (first
        | (go_at_call 149; refine (OP _ (((h.alloc zeroV).non k0).non k1) h2).mono ?_; rintro e w2 (⟨p, hq, rfl, k2⟩ | ⟨cs, m, v, hq, rfl, ⟨kk, tt, o1, n1, z1, o2, n2, z2, rfl, hat⟩, h3, m2, k2⟩); (exact ⟨rfl, Or.inl ⟨p, HQ.out.trans hq, rfl, ((Kp.refl (Own1 R) w).alloc _).trans ((k0.trans k1).any.trans k2)⟩⟩); have K2 := (k0.trans k1).any.trans k2; obtain ⟨c0, c1, c2, c3, cf⟩ := row4 (new_row K2 (fun e => by have e' : w.heap.size = R := e; omega)))
        | (go_at_call 59; (with_reducible refine (B _ k0).mono ?_); rintro e w1 ⟨rfl, k1⟩)
        | (go_at_call 59; (with_reducible refine A.mono ?_); rintro e w0 ⟨rfl, k0⟩))
      obtain ⟨r1, r2⟩ := ret4 K2 h3 hR hg (.int .i64 kk) (.string tt) (.slice o1 n1 z1) (.slice o2 n2 z2)
      have hz : w.heap.size + 1 ≤ w1.heap.size := by have := (k0.trans k1).size; simpa using this
      refine bodyPost_ret (v := .agg #[.int .i64 kk, .string tt, .slice o1 n1 z1, .slice o2 n2 z2]) (by simp [results, Tryz.results139, go_sem, c0, c1, c2, c3]) rfl (Or.inr ⟨_, _, _, HQ.out.trans hq, rfl, ⟨_, _, _, _, _, _, _, _, rfl, ?_⟩, r1, m2, r2⟩)
      exact ats_up (by omega) hat (own4 w.heap.size _ _ _ _) (by omega)
    · have h2' : isP [123] l = false := Bool.eq_false_iff.2 h2
      rw [h2'] at B
      cases fx with
      | true =>
        have HQ : Hid (signS true (inF true n) l = .error (atT l, 60)) := (if_neg h1).trans ((if_neg h2).trans (if_pos rfl))
        clear h1 h2
        go_enter Tryz.func139, Tryz.ntmps139
        go_wp2_with (first
          | (go_at_call 55; refine (need_dies S1 hl).mono ?_; rintro e w2 ⟨rfl, k2⟩)
          | (go_at_call 59; (with_reducible refine (B _ k0).mono ?_); rintro e w1 ⟨rfl, k1⟩; have S1 := ((h.alloc zeroV).non k0).non k1; have cx := S1.c2)
          | (go_at_call 59; (with_reducible refine A.mono ?_); rintro e w0 ⟨rfl, k0⟩))
        exact ⟨rfl, Or.inl ⟨_, HQ.out, rfl, ((Kp.refl (Own1 R) w).alloc _).trans ((k0.trans k1).trans k2).any⟩⟩
      | false =>
        have HQ : Hid (signS false (inF false n) l = (varS l).go fun t l1 => .ok (valC 3 t [] [], l1)) := (if_neg h1).trans ((if_neg h2).trans (if_neg (by simp)))
        clear h1 h2
        go_enter Tryz.func139, Tryz.ntmps139
        go_wp2_with (first
          | (go_at_call 118; refine (variable_any S1 hl).mono ?_; rintro e w2 (⟨p, hq, rfl, k2⟩ | ⟨x, m, v, hq, rfl, rfl, h3, m2, k2⟩); (exact ⟨rfl, Or.inl ⟨p, by rw [HQ.out, hq, go_error], rfl, ((Kp.refl (Own1 R) w).alloc _).trans ((k0.trans k1).any.trans k2)⟩⟩); have K2 := (k0.trans k1).any.trans k2; obtain ⟨c0, c1, c2, c3, cf⟩ := row4 (new_row K2 (fun e => by have e' : w.heap.size = R := e; omega)))
          | (go_at_call 55; refine (yneed_yes _).mono ?_; rintro e w2' ⟨rfl, rfl⟩)
          | (go_at_call 59; (with_reducible refine (B _ k0).mono ?_); rintro e w1 ⟨rfl, k1⟩; have S1 := ((h.alloc zeroV).non k0).non k1; have cx := S1.c2)
          | (go_at_call 59; (with_reducible refine A.mono ?_); rintro e w0 ⟨rfl, k0⟩))
        obtain ⟨r1, r2⟩ := ret4 K2 h3 hR hg (.int .i64 3) (.string ⟨x.toArray⟩) (.slice none 0 0) (.slice none 0 0)
        exact bodyPost_ret (v := .agg #[.int .i64 3, .string ⟨x.toArray⟩, .slice none 0 0, .slice none 0 0]) (by simp [results, Tryz.results139, go_sem, c0, c1, c2, c3]) rfl (Or.inr ⟨_, _, _, by rw [HQ.out, hq, go_ok], rfl, ⟨_, _, _, _, _, _, _, _, rfl, leaf4 _ _⟩, r1, m2, r2⟩)
/-- A value, wherever the reader stands. -/
theorem value_all : ∀ (n b : Nat), b + n = 32 → ValP R g cap T fx a b c n
  | n, b, hb => by
    intro w l h hl
    cases l with
    | nil => exact absurd rfl hl
    | cons t r =>
      by_cases n1 : t.k = 1
      · exact value_1 n h n1
      by_cases n2 : t.k = 2
      · exact value_2 n h n2
      by_cases n3 : t.k = 3
      · exact value_3 n h n3
      by_cases n4 : t.k = 4
      · exact value_4 n h n4
      refine value_0 n h n1 n2 n3 n4 (fun w l h hl => ?_)
      cases n with
      | zero =>
        obtain rfl : b = 32 := by omega
        exact signed_any h hl (fun w h hp => list_deep h hl hp) (fun w h hp => object_deep h hl hp)
      | succ n =>
        have X := value_all n (b + 1) (by omega)
        exact signed_any h hl (fun w h hp => list_some X (by omega) h hl hp) (fun w h hp => object_some X (by omega) h hl hp)
end
end Go.Proofs.YthficamlgngaaaaGreatDoor
namespace Go.Proofs.YthficamlgngaaaaGreatDoor
open Go Go.RowKit
section
variable {R g cap : Nat} {T : List Tok} {fx : Bool} {a b c : Nat} {V P B : Nat} {cur : Array Value} {ty tp : TypeId} {i E sz : Nat} {f : List Tok → Rs (List CT)}
theorem item_endB {w W w1 W2 w2 w4 : World} {l m : List Tok} {els : List (List CT)} {el : List CT} {us : List Value} {lv : Value} {xs : List Value} {D : Nat → Prop} {q cp : Nat} (hj : Js R V P B cur ty tp i E sz w els lv xs D) (pl : Pl R g V P B) (hW : Kp Non w W) (hk : Kp (Own1 R) W w1)
    (hel : Ats w1 (Iv W.heap.size w1.heap.size) el us) (hW2 : Kp Non w1 W2) (hgr : W2.grownBy w2 lv.ownBlock) {H : Nat} (hH : W2.heap.size = H) (hat : lv.ownBlock = some q ∨ q = H) (own2 : w2.ownsRow B E sz (.slice (some ⟨q, 0, none⟩) (els.length + 1) cp) (els.length + 1) (xs ++ us)) (hq : f l = .ok (el, m)) (h1 : Sx R g cap T w1 m fx a b c) (m1 : m ≠ [])
    (h4 : w4 = w2.setCell ⟨V, i, none⟩ (.slice (some ⟨q, 0, none⟩) (els.length + 1) cp)) :
    (∃ p, f l = .error p ∧ Ending.returned (.tuple #[]) = DiesY p ∧ Kp (Own1 R) w w4) ∨ (∃ el m, f l = .ok (el, m) ∧ Ending.returned (.tuple #[]) = Ending.returned (.tuple #[]) ∧ (∃ lv' xs' D', Js R V P B cur ty tp i E sz w4 (els ++ [el]) lv' xs' D') ∧ Kp (fun k => k = R ∨ k = V ∨ lv.ownBlock = some k) w w4 ∧ Sx R g cap T w4 m fx a b c ∧ m ≠ []) := by
  have hv2 := hj.var2 pl hW hk hW2 hgr
  have hBq : B ≤ q := (own_block own2 rfl).1
  have p1 := pl.bV; have p2 := pl.bg; have p3 := pl.bR
  subst h4
  have K4 : Kp (fun k => k = q ∨ k = V) w2 (w2.setCell ⟨V, i, none⟩ (.slice (some ⟨q, 0, none⟩) (els.length + 1) cp)) := (Kp.own V i _).mono (fun _ _ e => Or.inr e)
  have var4 : (w2.setCell ⟨V, i, none⟩ (.slice (some ⟨q, 0, none⟩) (els.length + 1) cp)).heap[V]? = some (.cells (cur.setIfInBounds i (.slice (some ⟨q, 0, none⟩) (els.length + 1) cp)) ty (0, 0)) := by
    rw [heap_setCell_same _ V i _ _ _ hv2]
    simp
  obtain ⟨hj4, k4⟩ := hj.push pl hW hk hel hW2 hgr (by rcases hat with e | e; exact Or.inl e; exact Or.inr (by omega)) K4 var4 (ownsRow_setCell_below own2 (a := ⟨V, i, none⟩) p1 _)
  have KS : Kp (fun k => lv.ownBlock = some k ∨ k = q ∨ k = V) w1 (w2.setCell ⟨V, i, none⟩ (.slice (some ⟨q, 0, none⟩) (els.length + 1) cp)) := (hW2.any.grew hgr (fun k e => Or.inr (Or.inl e))).trans (K4.mono (fun _ _ e => Or.inr e))
  refine Or.inr ⟨el, m, hq, rfl, ⟨_, _, _, hj4⟩, k4, h1.kp KS ?_ ?_, m1⟩
  · rintro (e | e | e)
    · have := (own_block hj.own e).1; omega
    · omega
    · exact pl.VR e.symm
  · rintro (e | e | e)
    · have := (own_block hj.own e).1; omega
    · omega
    · exact pl.Vg e.symm
end
end Go.Proofs.YthficamlgngaaaaGreatDoor
namespace Go.Proofs.YthficamlgngaaaaGreatDoor
open Go Go.RowKit
theorem Tryz.infoArg : (Tryz.prog.info? 121).map (fun i => (i.zero, i.size, i.bytes)) = some (some (.agg #[.string ⟨#[]⟩, .int .i64 0, .string ⟨#[]⟩, .slice none 0 0, .slice none 0 0]), 5, 88) := by kernel_rfl
theorem Tryz.infoDir : (Tryz.prog.info? 97).map (fun i => (i.zero, i.size, i.bytes)) = some (some (.agg #[.string ⟨#[]⟩, .slice none 0 0]), 2, 40) := by kernel_rfl
/-- What a row's reading tells. -/
def RowV (E sz lo : Nat) (els : List (List CT)) (v : Value) (w : World) : Prop := (∃ o n z, v = .slice o n z) ∧ At w (Iv lo w.heap.size) (rowC E sz els) v
section
variable {R g cap : Nat} {T : List Tok} {fx : Bool} {a b c : Nat} {V P B : Nat} {cur : Array Value} {ty tp : TypeId}
set_option maxRecDepth 100000 in
set_option maxHeartbeats 4000000 in
theorem args1_item (pl : Pl R g V P B) (hi : 0 < cur.size) (X : ValP R g cap T fx a b c 32) : ItemR R g cap T fx a b c V P B cur ty tp 0 121 5 113 #[.pointer (some ⟨P, 0, none⟩), .pointer (some ⟨V, 0, none⟩)] (argS fx) := by
  intro els l w lv xs D hj hn h hl
  obtain ⟨o, lc, rfl⟩ := hj.slice
  have M := member_any X h hl
  have cP := hj.ptr
  have HJ : Hid (Js R V P B cur ty tp 0 121 5 w els (.slice o els.length lc) xs D) := hj
  have hsz := hj.size
  have hn2 : els.length ≤ 2049 := by omega
  obtain ⟨ti, hti, hy0, hy1, hy2⟩ := info_parts Tryz.infoArg
  clear X hj
  go_enter Tryz.func113, Tryz.ntmps113
  go_wp2_with (first
    | (at_builtin; refine wpList_append_lies _ rfl _ _ _ rfl B 121 ti _ 5 88 Tryz.underlying63 hti hy0 hy1 hy2 rfl (by decide) (.slice o els.length lc) els.length xs rfl HO.out ⟨w1.heap.size + 1, 0, none⟩ 1 1 [.string ⟨x.toArray⟩, .int .i64 kk, .string tt, .slice o1 n1 z1, .slice o2 n2 z2] rfl rfl (World.news_of_block bT.out) (by intro u hu; simp at hu; rcases hu with rfl | rfl | rfl | rfl | rfl <;> rfl) (by decide) (by unfold maxLen; omega) (by omega) (by simp; omega) (w1.heap.size + 2) (by simp) ?_; intro q cp w2 own2 hgr hor hlt2; have OW : Hid _ := own2; have GR : Hid _ := hgr; have OR : Hid _ := hor; clear own2 hgr hor; have hv2 := HJ.out.var2 pl (Kp.refl Non w) K1.out (((Kp.refl Non w1).alloc _).alloc _) GR.out; have e0 : w2.cell? ⟨V, 0, none⟩ = some (.slice o els.length lc) := (by simp [World.cell?, hv2, hi]); have ef := frozen_of_row w2 V 0 _ _ hv2; clear hv2)
    | (go_at_call 114; refine M.mono ?_; rintro e w1 (⟨p, hq, rfl, k1⟩ | ⟨⟨x, cs⟩, m, v, hq, rfl, ⟨kk, tt, o1, n1, z1, o2, n2, z2, rfl, hat⟩, h1, m1, k1⟩); (exact ⟨rfl, Or.inl ⟨p, by simp only [argS, hq, go_error], rfl, k1⟩⟩); have hz1 := k1.size; have j1 := HJ.out.kp pl k1; have v0 := j1.cell hi; have aV := fun o => cell_on (al1 w1 o) v0; have HO : Hid _ := ((j1.own.alloc (.cells #[.int .i64 kk, .string tt, .slice o1 n1 z1, .slice o2 n2 z2] 70)).alloc (.cells #[.string ⟨x.toArray⟩, .int .i64 kk, .string tt, .slice o1 n1 z1, .slice o2 n2 z2] 121)); have bT : Hid _ := heap_alloc_new (w1.alloc (.cells #[.int .i64 kk, .string tt, .slice o1 n1 z1, .slice o2 n2 z2] 70)) (.cells #[.string ⟨x.toArray⟩, .int .i64 kk, .string tt, .slice o1 n1 z1, .slice o2 n2 z2] 121); rw [World.size_alloc] at bT; have K1 : Hid _ := k1; have AT : Hid _ := hat; have H1 : Hid _ := h1; have HQ : Hid _ := hq; clear k1 hat h1 hq j1))
  go_end0
  exact item_endB HJ.out pl (Kp.refl Non w) K1.out (AT.out.cons (.lf _)) (((Kp.refl Non w1).alloc _).alloc _) GR.out (by simp) OR.out OW.out (by simp only [argS, HQ.out, go_ok]) H1.out m1 rfl
/-- The worlds ahead of a row's elements: the box of the reader, the row's variable. -/
abbrev preA (R : Nat) (t : TypeId) (w : World) : World := (w.alloc (.cells #[.pointer (some ⟨R, 0, none⟩)] 82)).alloc (.cells #[.slice none 0 0] t)
theorem preA_P (R : Nat) (t : TypeId) (w : World) : (preA R t w).heap[w.heap.size]? = some (.cells #[.pointer (some ⟨R, 0, none⟩)] 82 (0, 0)) :=
  old_row (heap_alloc_new w (.cells #[.pointer (some ⟨R, 0, none⟩)] 82)) ((Kp.refl Non _).alloc (.cells #[.slice none 0 0] t)) (fun e => e)
theorem preA_V (R : Nat) (t : TypeId) (w : World) : (preA R t w).heap[w.heap.size + 1]? = some (.cells #[.slice none 0 0] t (0, 0)) := by
  have := heap_alloc_new (w.alloc (.cells #[.pointer (some ⟨R, 0, none⟩)] 82)) (.cells #[.slice none 0 0] t)
  rw [World.size_alloc] at this
  exact this
theorem preA_size (R : Nat) (t : TypeId) (w : World) : (preA R t w).heap.size = w.heap.size + 2 := by simp
theorem preA_pl {w : World} (hR : R < w.heap.size) (hg : g < w.heap.size) : Pl R g (w.heap.size + 1) w.heap.size (w.heap.size + 2) := ⟨by omega, by omega, by omega, by omega, by omega, by omega, by omega, by omega⟩
theorem preA_kp (R : Nat) (t : TypeId) (w : World) : ∀ w', Kp (fun k => k = R ∨ k = w.heap.size + 1) (preA R t w) w' → Kp (Own1 R) w w' := fun w' k => (((Kp.refl (Own1 R) w).alloc _).alloc _).trans2 k (fun j hj e => by rcases e with e | e; exact e; omega)
/-- Nothing is read yet. -/
theorem preA_start {t : TypeId} {E sz : Nat} {w w1 : World} {l m : List Tok} (hR : R < w.heap.size) (k1 : Kp (Own1 R) (preA R t w) w1) (hS : Sx R g cap T w1 l fx a b c) (hm : m.length ≤ l.length) : Jr R (w.heap.size + 1) w.heap.size (w.heap.size + 2) #[.slice none 0 0] t 82 0 E sz (preA R t w) [] m w1 := by
  have hz := k1.size
  rw [preA_size] at hz
  refine ⟨⟨_, _, _, Js.new (old_row (preA_V R t w) k1 (fun e => by have e' : w.heap.size + 1 = R := e; omega)) (old_row (preA_P R t w) k1 (fun e => by have e' : w.heap.size = R := e; omega)) hz⟩, ?_, k1.mono (fun _ _ e => Or.inl e)⟩
  have := hS.le; have := hS.full.small
  simp; omega
/-- The row, told. -/
theorem row_told {t : TypeId} {E sz : Nat} {w w2 : World} {els : List (List CT)} {lv : Value} {xs : List Value} {D : Nat → Prop} (hj : Js R (w.heap.size + 1) w.heap.size (w.heap.size + 2) #[.slice none 0 0] t 82 0 E sz w2 els lv xs D) : RowV E sz w.heap.size els lv w2 := by
  obtain ⟨o, n, h⟩ := hj.slice
  exact ⟨⟨o, _, n, h⟩, hj.at.mono (fun k hk => ⟨by have := hk.1; omega, hk.2⟩)⟩
set_option maxRecDepth 100000 in
set_option maxHeartbeats 2000000 in
theorem args_any {w : World} {l : List Tok} (X : ValP R g cap T fx a b c 32) (h : Sx R g cap T w l fx a b c) (hl : l ≠ []) : Calls Tryz.prog 93 #[.pointer (some ⟨R, 0, none⟩)] w (Out R g cap T w fx a b c (argsS fx l) (RowV 121 5 w.heap.size)) := by
  have hmf : ∀ (fn : Fn) (first cap : Array Value) (w : World), (Instr.makeFunc fn first cap).run Tryz.prog w = .ok (.func fn first cap) w := fun _ _ _ _ => rfl
  have hR := h.ltR
  have hg := h.lt
  have pl := preA_pl hR hg
  have hS0 : Sx R g cap T (preA R 63 w) l fx a b c := (h.alloc _).alloc _
  have TK := ytake_any [40] hS0 hl
  have HA : Hid _ := some_any 113 #[.pointer (some ⟨w.heap.size, 0, none⟩), .pointer (some ⟨w.heap.size + 1, 0, none⟩)] (fun _ _ => rfl) [41] (argS fx) (argS_eats fx) _ (Kp (Own1 R) w) (Jr.kp (cur := #[.slice none 0 0]) (ty := 63) (tp := 82) (i := 0) (E := 121) (sz := 5) (W0 := preA R 63 w) pl) (oneR_of (preA_size _ _ _).symm (argS_eats fx) w (preA_kp R _ w) (args1_item pl (by decide) X))
  clear X
  go_enter Tryz.func93, Tryz.ntmps93
  go_wp2_with (first
    | (go_at_call 33; refine (HA.out [] _ _ (preA_start hR k1 h1 (Nat.le_refl _)) h1 (hS0.next (by simp) hp)).mono ?_; rintro e w2 (⟨p, hq, rfl, k2⟩ | ⟨ys, m, hq, rfl, ⟨⟨lv, xs, D, hj⟩, hlen, k2⟩, h2, n2⟩); (exact ⟨rfl, Or.inl ⟨p, by simp only [argsS, hp, if_true, hq], rfl, k2⟩⟩); have HT : Hid _ := row_told hj; obtain ⟨o, lc, rfl⟩ := hj.slice; have v0 := hj.cell (by decide); have KR : Hid _ := preA_kp R _ w _ k2)
    | (go_at_call 87; refine TK.mono ?_; (rintro e w1 (⟨hp, rfl, h1, k1⟩ | ⟨hp, rfl, h1, k1⟩) <;> (have cP1 := (row1 (old_row (preA_P R _ w) k1 (fun e => by have e' : w.heap.size = R := e; omega))).1; have v1 := (row1 (old_row (preA_V R _ w) k1 (fun e => by have e' : w.heap.size + 1 = R := e; omega))).1))))
  · go_ret
    exact Or.inr ⟨ys, m, _, by simp only [argsS, hp, if_true, hq], rfl, HT.out, h2, n2 (by simp), KR.out⟩
  · go_ret
    exact Or.inr ⟨[], l, _, by simp only [argsS, hp, Bool.false_eq_true, if_false], rfl, ⟨⟨_, _, _, rfl⟩, .nil _ _⟩, h1, hl, preA_kp R _ w _ (k1.mono (fun _ _ e => Or.inl e))⟩
end
end Go.Proofs.YthficamlgngaaaaGreatDoor
