/- Lists of values; values that begin with a sign. -/
import Derived.Test.YthficamlgngaaaaGreatDoorSyG
namespace Go.Proofs.YthficamlgngaaaaGreatDoor
open Go Go.RowKit

theorem leaf4 {w : World} {D : Nat → Prop} (k : Int) (x : ByteArray) : Ats w D [iC k, .lf (.string x), rowC 70 4 [], rowC 9 1 []] [.int .i64 k, .string x, .slice none 0 0, .slice none 0 0] :=
  (Ats.nil.cons (.nil _ _)).cons (.nil _ _) |>.cons (.lf _) |>.cons (.lf _)
theorem Kp.ret {X : Nat} {S : Nat → Prop} {w w1 w2 : World} (h : Kp S w w1) (h2 : Kp (Own1 X) w1 w2) (hX : w.heap.size ≤ X) : Kp S w w2 := h.trans2 h2 (fun k hk e => by have e' : k = X := e; omega)
theorem named_any (t : Bs) (w : World) : Calls Tryz.prog 138 #[.string ⟨t.toArray⟩] w fun e w' => ∃ k x, e = .returned (.agg #[.int .i64 k, .string x, .slice none 0 0, .slice none 0 0]) ∧ namedC t = [iC k, .lf (.string x), rowC 70 4 [], rowC 9 1 []] ∧ Kp Non w w' := by
  unfold namedC
  by_cases h1 : t = [110, 117, 108, 108]
  · subst h1
    rw [if_pos rfl]
    go_enter Tryz.func138, Tryz.ntmps138
    go_wp2
    refine bodyPost_ret (v := .agg #[.int .i64 0, .string ⟨#[]⟩, .slice none 0 0, .slice none 0 0]) (by simp [results, Tryz.results138, go_sem]) rfl ⟨0, ⟨#[]⟩, rfl, rfl, ?_⟩
    exact (Kp.refl Non w).alloc _
  · rw [if_neg h1]
    have e1 : (t == [110, 117, 108, 108]) = false := by rw [beq_eq_false_iff_ne]; exact h1
    by_cases h2 : t = [102, 97, 108, 115, 101]
    · subst h2
      rw [if_pos rfl]
      go_enter Tryz.func138, Tryz.ntmps138
      go_wp2
      refine bodyPost_ret (v := .agg #[.int .i64 1, .string ⟨#[]⟩, .slice none 0 0, .slice none 0 0]) (by simp [results, Tryz.results138, go_sem]) rfl ⟨1, ⟨#[]⟩, rfl, rfl, ?_⟩
      exact (Kp.refl Non w).alloc _
    · rw [if_neg h2]
      have e2 : (t == [102, 97, 108, 115, 101]) = false := by rw [beq_eq_false_iff_ne]; exact h2
      by_cases h3 : t = [116, 114, 117, 101]
      · subst h3
        rw [if_pos rfl]
        go_enter Tryz.func138, Tryz.ntmps138
        go_wp2
        refine bodyPost_ret (v := .agg #[.int .i64 2, .string ⟨#[]⟩, .slice none 0 0, .slice none 0 0]) (by simp [results, Tryz.results138, go_sem]) rfl ⟨2, ⟨#[]⟩, rfl, rfl, ?_⟩
        exact (Kp.refl Non w).alloc _
      · rw [if_neg h3]
        have e3 : (t == [116, 114, 117, 101]) = false := by rw [beq_eq_false_iff_ne]; exact h3
        clear h1 h2 h3
        go_enter Tryz.func138, Tryz.ntmps138
        go_wp2
        refine bodyPost_ret (v := .agg #[.int .i64 7, .string ⟨t.toArray⟩, .slice none 0 0, .slice none 0 0]) (by simp [results, Tryz.results138, go_sem]) rfl ⟨7, ⟨t.toArray⟩, rfl, rfl, ?_⟩
        exact (Kp.refl Non w).alloc _
section
variable {R g cap : Nat} {T : List Tok} {fx : Bool} {a b c : Nat} {w w3 : World} {l m : List Tok} {o : Obj}
theorem ret1 (hk : Kp (Own1 R) (w.alloc o) w3) (hS : Sx R g cap T w3 m fx a b c) (hR : R < w.heap.size) (hg : g < w.heap.size) (u0 : Value) : Sx R g cap T (w3.setCell ⟨w.heap.size, 0, none⟩ u0) m fx a b c ∧ Kp (Own1 R) w (w3.setCell ⟨w.heap.size, 0, none⟩ u0) :=
  ⟨hS.kp (own1 w.heap.size u0) (fun e => by have e' : R = w.heap.size := e; omega) (fun e => by have e' : g = w.heap.size := e; omega), (((Kp.refl (Own1 R) w).alloc o).trans hk).ret (own1 w.heap.size u0) (Nat.le_refl _)⟩
theorem ret2 (hk : Kp (Own1 R) (w.alloc o) w3) (hS : Sx R g cap T w3 m fx a b c) (hR : R < w.heap.size) (hg : g < w.heap.size) (u0 u1 : Value) : Sx R g cap T ((w3.setCell ⟨w.heap.size, 0, none⟩ u0).setCell ⟨w.heap.size, 1, none⟩ u1) m fx a b c ∧ Kp (Own1 R) w ((w3.setCell ⟨w.heap.size, 0, none⟩ u0).setCell ⟨w.heap.size, 1, none⟩ u1) :=
  ⟨hS.kp (own2 w.heap.size u0 u1) (fun e => by have e' : R = w.heap.size := e; omega) (fun e => by have e' : g = w.heap.size := e; omega), (((Kp.refl (Own1 R) w).alloc o).trans hk).ret (own2 w.heap.size u0 u1) (Nat.le_refl _)⟩
theorem ret4 (hk : Kp (Own1 R) (w.alloc o) w3) (hS : Sx R g cap T w3 m fx a b c) (hR : R < w.heap.size) (hg : g < w.heap.size) (u0 u1 u2 u3 : Value) : Sx R g cap T ((((w3.setCell ⟨w.heap.size, 0, none⟩ u0).setCell ⟨w.heap.size, 1, none⟩ u1).setCell ⟨w.heap.size, 2, none⟩ u2).setCell ⟨w.heap.size, 3, none⟩ u3) m fx a b c ∧ Kp (Own1 R) w ((((w3.setCell ⟨w.heap.size, 0, none⟩ u0).setCell ⟨w.heap.size, 1, none⟩ u1).setCell ⟨w.heap.size, 2, none⟩ u2).setCell ⟨w.heap.size, 3, none⟩ u3) :=
  ⟨hS.kp (own4 w.heap.size u0 u1 u2 u3) (fun e => by have e' : R = w.heap.size := e; omega) (fun e => by have e' : g = w.heap.size := e; omega), (((Kp.refl (Own1 R) w).alloc o).trans hk).ret (own4 w.heap.size u0 u1 u2 u3) (Nat.le_refl _)⟩
theorem ret5 (hk : Kp (Own1 R) (w.alloc o) w3) (hS : Sx R g cap T w3 m fx a b c) (hR : R < w.heap.size) (hg : g < w.heap.size) (u0 u1 u2 u3 u4 : Value) : Sx R g cap T (((((w3.setCell ⟨w.heap.size, 0, none⟩ u0).setCell ⟨w.heap.size, 1, none⟩ u1).setCell ⟨w.heap.size, 2, none⟩ u2).setCell ⟨w.heap.size, 3, none⟩ u3).setCell ⟨w.heap.size, 4, none⟩ u4) m fx a b c ∧ Kp (Own1 R) w (((((w3.setCell ⟨w.heap.size, 0, none⟩ u0).setCell ⟨w.heap.size, 1, none⟩ u1).setCell ⟨w.heap.size, 2, none⟩ u2).setCell ⟨w.heap.size, 3, none⟩ u3).setCell ⟨w.heap.size, 4, none⟩ u4) :=
  ⟨hS.kp (own5 w.heap.size u0 u1 u2 u3 u4) (fun e => by have e' : R = w.heap.size := e; omega) (fun e => by have e' : g = w.heap.size := e; omega), (((Kp.refl (Own1 R) w).alloc o).trans hk).ret (own5 w.heap.size u0 u1 u2 u3 u4) (Nat.le_refl _)⟩
theorem ret7 (hk : Kp (Own1 R) (w.alloc o) w3) (hS : Sx R g cap T w3 m fx a b c) (hR : R < w.heap.size) (hg : g < w.heap.size) (u0 u1 u2 u3 u4 u5 u6 : Value) : Sx R g cap T (((((((w3.setCell ⟨w.heap.size, 0, none⟩ u0).setCell ⟨w.heap.size, 1, none⟩ u1).setCell ⟨w.heap.size, 2, none⟩ u2).setCell ⟨w.heap.size, 3, none⟩ u3).setCell ⟨w.heap.size, 4, none⟩ u4).setCell ⟨w.heap.size, 5, none⟩ u5).setCell ⟨w.heap.size, 6, none⟩ u6) m fx a b c ∧ Kp (Own1 R) w (((((((w3.setCell ⟨w.heap.size, 0, none⟩ u0).setCell ⟨w.heap.size, 1, none⟩ u1).setCell ⟨w.heap.size, 2, none⟩ u2).setCell ⟨w.heap.size, 3, none⟩ u3).setCell ⟨w.heap.size, 4, none⟩ u4).setCell ⟨w.heap.size, 5, none⟩ u5).setCell ⟨w.heap.size, 6, none⟩ u6) :=
  ⟨hS.kp (own7 w.heap.size u0 u1 u2 u3 u4 u5 u6) (fun e => by have e' : R = w.heap.size := e; omega) (fun e => by have e' : g = w.heap.size := e; omega), (((Kp.refl (Own1 R) w).alloc o).trans hk).ret (own7 w.heap.size u0 u1 u2 u3 u4 u5 u6) (Nat.le_refl _)⟩
theorem ret9 (hk : Kp (Own1 R) (w.alloc o) w3) (hS : Sx R g cap T w3 m fx a b c) (hR : R < w.heap.size) (hg : g < w.heap.size) (u0 u1 u2 u3 u4 u5 u6 u7 u8 : Value) : Sx R g cap T (((((((((w3.setCell ⟨w.heap.size, 0, none⟩ u0).setCell ⟨w.heap.size, 1, none⟩ u1).setCell ⟨w.heap.size, 2, none⟩ u2).setCell ⟨w.heap.size, 3, none⟩ u3).setCell ⟨w.heap.size, 4, none⟩ u4).setCell ⟨w.heap.size, 5, none⟩ u5).setCell ⟨w.heap.size, 6, none⟩ u6).setCell ⟨w.heap.size, 7, none⟩ u7).setCell ⟨w.heap.size, 8, none⟩ u8) m fx a b c ∧ Kp (Own1 R) w (((((((((w3.setCell ⟨w.heap.size, 0, none⟩ u0).setCell ⟨w.heap.size, 1, none⟩ u1).setCell ⟨w.heap.size, 2, none⟩ u2).setCell ⟨w.heap.size, 3, none⟩ u3).setCell ⟨w.heap.size, 4, none⟩ u4).setCell ⟨w.heap.size, 5, none⟩ u5).setCell ⟨w.heap.size, 6, none⟩ u6).setCell ⟨w.heap.size, 7, none⟩ u7).setCell ⟨w.heap.size, 8, none⟩ u8) :=
  ⟨hS.kp (own9 w.heap.size u0 u1 u2 u3 u4 u5 u6 u7 u8) (fun e => by have e' : R = w.heap.size := e; omega) (fun e => by have e' : g = w.heap.size := e; omega), (((Kp.refl (Own1 R) w).alloc o).trans hk).ret (own9 w.heap.size u0 u1 u2 u3 u4 u5 u6 u7 u8) (Nat.le_refl _)⟩
set_option maxHeartbeats 1000000 in
theorem value_2 (n : Nat) {t : Tok} {r : List Tok} (h : Sx R g cap T w (t :: r) fx a b c) (hk : t.k = 2) : Calls Tryz.prog 120 #[.pointer (some ⟨R, 0, none⟩)] w (Out R g cap T w fx a b c (valF fx n (t :: r)) (ValV w.heap.size)) := by
  have HQ : Hid (valF fx n (t :: r) = .ok (valC 4 t.t [] [], r)) := by show _ = _; rw [valF_eq]; unfold valG; simp [isK, hk, txT]
  have hne := h.full.more h.suf (fun e => by have := e.1; omega)
  have hR := h.ltR
  have hg := h.lt
  have F := fld0 t
  obtain ⟨tk, tt, tb, te⟩ := t
  simp only at hk
  subst hk
  go_enter Tryz.func120, Tryz.ntmps120
  go_wp2_with (first
    | (go_at_call 90; refine (read_any ((h.alloc _).non k1)).mono ?_; rintro e w2 ⟨rfl, h2, k2⟩; have K2 := k1.any.trans k2; obtain ⟨c0, c1, c2, c3, cf⟩ := row4 (new_row K2 (fun e => by have e' : w.heap.size = R := e; omega)))
    | (go_at_call 88; refine (ynext_any (h.alloc _)).mono ?_; rintro e w1 ⟨rfl, k1⟩))
  obtain ⟨r1, r2⟩ := ret4 K2 h2 hR hg (.int .i64 4) (.string ⟨tt.toArray⟩) (.slice none 0 0) (.slice none 0 0)
  refine bodyPost_ret (v := .agg #[.int .i64 4, .string ⟨tt.toArray⟩, .slice none 0 0, .slice none 0 0]) (by simp [results, Tryz.results120, go_sem, c0, c1, c2, c3]) rfl (Or.inr ⟨_, _, _, HQ.out, rfl, ⟨_, _, _, _, _, _, _, _, rfl, leaf4 _ _⟩, r1, hne, r2⟩)
set_option maxHeartbeats 1000000 in
theorem value_3 (n : Nat) {t : Tok} {r : List Tok} (h : Sx R g cap T w (t :: r) fx a b c) (hk : t.k = 3) : Calls Tryz.prog 120 #[.pointer (some ⟨R, 0, none⟩)] w (Out R g cap T w fx a b c (valF fx n (t :: r)) (ValV w.heap.size)) := by
  have HQ : Hid (valF fx n (t :: r) = .ok (valC 5 t.t [] [], r)) := by show _ = _; rw [valF_eq]; unfold valG; simp [isK, hk, txT]
  have hne := h.full.more h.suf (fun e => by have := e.1; omega)
  have hR := h.ltR
  have hg := h.lt
  have F := fld0 t
  obtain ⟨tk, tt, tb, te⟩ := t
  simp only at hk
  subst hk
  go_enter Tryz.func120, Tryz.ntmps120
  go_wp2_with (first
    | (go_at_call 90; refine (read_any ((h.alloc _).non k1)).mono ?_; rintro e w2 ⟨rfl, h2, k2⟩; have K2 := k1.any.trans k2; obtain ⟨c0, c1, c2, c3, cf⟩ := row4 (new_row K2 (fun e => by have e' : w.heap.size = R := e; omega)))
    | (go_at_call 88; refine (ynext_any (h.alloc _)).mono ?_; rintro e w1 ⟨rfl, k1⟩))
  obtain ⟨r1, r2⟩ := ret4 K2 h2 hR hg (.int .i64 5) (.string ⟨tt.toArray⟩) (.slice none 0 0) (.slice none 0 0)
  refine bodyPost_ret (v := .agg #[.int .i64 5, .string ⟨tt.toArray⟩, .slice none 0 0, .slice none 0 0]) (by simp [results, Tryz.results120, go_sem, c0, c1, c2, c3]) rfl (Or.inr ⟨_, _, _, HQ.out, rfl, ⟨_, _, _, _, _, _, _, _, rfl, leaf4 _ _⟩, r1, hne, r2⟩)
set_option maxHeartbeats 1000000 in
theorem value_4 (n : Nat) {t : Tok} {r : List Tok} (h : Sx R g cap T w (t :: r) fx a b c) (hk : t.k = 4) : Calls Tryz.prog 120 #[.pointer (some ⟨R, 0, none⟩)] w (Out R g cap T w fx a b c (valF fx n (t :: r)) (ValV w.heap.size)) := by
  have HQ : Hid (valF fx n (t :: r) = .ok (valC 6 t.t [] [], r)) := by show _ = _; rw [valF_eq]; unfold valG; simp [isK, hk, txT]
  have hne := h.full.more h.suf (fun e => by have := e.1; omega)
  have hR := h.ltR
  have hg := h.lt
  have F := fld0 t
  obtain ⟨tk, tt, tb, te⟩ := t
  simp only at hk
  subst hk
  go_enter Tryz.func120, Tryz.ntmps120
  go_wp2_with (first
    | (go_at_call 90; refine (read_any ((h.alloc _).non k1)).mono ?_; rintro e w2 ⟨rfl, h2, k2⟩; have K2 := k1.any.trans k2; obtain ⟨c0, c1, c2, c3, cf⟩ := row4 (new_row K2 (fun e => by have e' : w.heap.size = R := e; omega)))
    | (go_at_call 88; refine (ynext_any (h.alloc _)).mono ?_; rintro e w1 ⟨rfl, k1⟩))
  obtain ⟨r1, r2⟩ := ret4 K2 h2 hR hg (.int .i64 6) (.string ⟨tt.toArray⟩) (.slice none 0 0) (.slice none 0 0)
  refine bodyPost_ret (v := .agg #[.int .i64 6, .string ⟨tt.toArray⟩, .slice none 0 0, .slice none 0 0]) (by simp [results, Tryz.results120, go_sem, c0, c1, c2, c3]) rfl (Or.inr ⟨_, _, _, HQ.out, rfl, ⟨_, _, _, _, _, _, _, _, rfl, leaf4 _ _⟩, r1, hne, r2⟩)
set_option maxHeartbeats 1000000 in
theorem value_1 (n : Nat) {t : Tok} {r : List Tok} (h : Sx R g cap T w (t :: r) fx a b c) (hk : t.k = 1) : Calls Tryz.prog 120 #[.pointer (some ⟨R, 0, none⟩)] w (Out R g cap T w fx a b c (valF fx n (t :: r)) (ValV w.heap.size)) := by
  have HQ : Hid (valF fx n (t :: r) = .ok (namedC t.t, r)) := by show _ = _; rw [valF_eq]; unfold valG; simp [isK, hk, txT]
  have hne := h.full.more h.suf (fun e => by have := e.1; omega)
  have hR := h.ltR
  have hg := h.lt
  have F := fld0 t
  obtain ⟨tk, tt, tb, te⟩ := t
  simp only at hk
  subst hk
  go_enter Tryz.func120, Tryz.ntmps120
  go_wp2_with (first
    | (go_at_call 138; refine (named_any _ _).mono ?_; rintro e w3 ⟨kk, xx, rfl, hnm, k3⟩; have K3 := K2.trans k3.any; obtain ⟨c0, c1, c2, c3, cf⟩ := row4 (new_row K3 (fun e => by have e' : w.heap.size = R := e; omega)))
    | (go_at_call 90; refine (read_any ((h.alloc _).non k1)).mono ?_; rintro e w2 ⟨rfl, h2, k2⟩; have K2 := k1.any.trans k2)
    | (go_at_call 88; refine (ynext_any (h.alloc _)).mono ?_; rintro e w1 ⟨rfl, k1⟩))
  obtain ⟨r1, r2⟩ := ret4 K3 (h2.non k3) hR hg (.int .i64 kk) (.string xx) (.slice none 0 0) (.slice none 0 0)
  refine bodyPost_ret (v := .agg #[.int .i64 kk, .string xx, .slice none 0 0, .slice none 0 0]) (by simp [results, Tryz.results120, go_sem, c0, c1, c2, c3]) rfl (Or.inr ⟨_, _, _, HQ.out, rfl, ⟨_, _, _, _, _, _, _, _, rfl, ?_⟩, r1, hne, r2⟩)
  rw [hnm]
  exact leaf4 _ _
/-- A value behind its result's block: what was told lies above, and stays. -/
theorem ats_up {cs : List CT} {us : List Value} {w1 w2 w4 : World} (hk : w.heap.size ≤ w1.heap.size) (h : Ats w2 (Iv w1.heap.size w2.heap.size) cs us) (h4 : Kp (Own1 w.heap.size) w2 w4) (h1 : w.heap.size < w1.heap.size) : Ats w4 (Iv w.heap.size w4.heap.size) cs us :=
  h.later h4 (Nat.le_refl _) (fun k h1 h2 e => by have e' : k = w.heap.size := e; omega) hk h4.size
set_option maxHeartbeats 1000000 in
theorem value_0 (n : Nat) {t : Tok} {r : List Tok} (h : Sx R g cap T w (t :: r) fx a b c) (n1 : t.k ≠ 1) (n2 : t.k ≠ 2) (n3 : t.k ≠ 3) (n4 : t.k ≠ 4)
    (X : ∀ w l, Sx R g cap T w l fx a b c → l ≠ [] → Calls Tryz.prog 139 #[.pointer (some ⟨R, 0, none⟩)] w (Out R g cap T w fx a b c (signS fx (inF fx n) l) (ValV w.heap.size))) :
    Calls Tryz.prog 120 #[.pointer (some ⟨R, 0, none⟩)] w (Out R g cap T w fx a b c (valF fx n (t :: r)) (ValV w.heap.size)) := by
  have HQ : Hid (valF fx n (t :: r) = signS fx (inF fx n) (t :: r)) := by show _ = _; rw [valF_eq]; unfold valG; simp [isK, n1, n2, n3, n4]
  have e1 : (t.k == 1) = false := by simpa using n1
  have e2 : (t.k == 2) = false := by simpa using n2
  have e3 : (t.k == 3) = false := by simpa using n3
  have e4 : (t.k == 4) = false := by simpa using n4
  have hR := h.ltR
  have hg := h.lt
  have F := fld0 t
  clear n1 n2 n3 n4
  go_enter Tryz.func120, Tryz.ntmps120
  go_wp2_with (first
    | (go_at_call 139; refine (X _ _ ((h.alloc _).non k1) (by simp)).mono ?_; rintro e w2 (⟨p, hq, rfl, k2⟩ | ⟨cs, m, v, hq, rfl, ⟨kk, tt, o1, n1, z1, o2, n2, z2, rfl, hat⟩, h2, m2, k2⟩); (exact ⟨rfl, Or.inl ⟨p, HQ.out.trans hq, rfl, ((Kp.refl (Own1 R) w).alloc _).trans (k1.any.trans k2)⟩⟩); have K2 := k1.any.trans k2; obtain ⟨c0, c1, c2, c3, cf⟩ := row4 (new_row K2 (fun e => by have e' : w.heap.size = R := e; omega)))
    | (go_at_call 88; refine (ynext_any (h.alloc _)).mono ?_; rintro e w1 ⟨rfl, k1⟩))
  obtain ⟨r1, r2⟩ := ret4 K2 h2 hR hg (.int .i64 kk) (.string tt) (.slice o1 n1 z1) (.slice o2 n2 z2)
  have hz : w.heap.size + 1 ≤ w1.heap.size := by have := k1.size; simpa using this
  refine bodyPost_ret (v := .agg #[.int .i64 kk, .string tt, .slice o1 n1 z1, .slice o2 n2 z2]) (by simp [results, Tryz.results120, go_sem, c0, c1, c2, c3]) rfl (Or.inr ⟨_, _, _, HQ.out.trans hq, rfl, ⟨_, _, _, _, _, _, _, _, rfl, ?_⟩, r1, m2, r2⟩)
  exact ats_up (by omega) hat (own4 w.heap.size _ _ _ _) (by omega)
end
end Go.Proofs.YthficamlgngaaaaGreatDoor
namespace Go.Proofs.YthficamlgngaaaaGreatDoor
open Go Go.RowKit
section
variable {R g cap : Nat} {T : List Tok} {fx : Bool} {a b c : Nat} {V P B : Nat} {cur : Array Value} {ty tp : TypeId}
attribute [local go_sem ↓] Go.wp_at_zero Go.wp_at_succ
set_option maxRecDepth 100000 in
set_option maxHeartbeats 40000000 in
theorem list1_item (pl : Pl R g V P B) (hi : 2 < cur.size) (n : Nat) (X : ValP R g cap T fx a b c n) : ItemR R g cap T fx a b c V P B cur ty tp 2 70 4 159 #[.pointer (some ⟨V, 0, none⟩), .pointer (some ⟨P, 0, none⟩)] (valF fx n) := by
  intro els l w lv xs D hj hn h hl
  obtain ⟨o, lc, rfl⟩ := hj.slice
  have XA := X w.drew l h.drew hl
  have XB := X (w.alloc zeroV).drew l (h.alloc _).drew hl
  have cV := hj.cell hi
  have fV := hj.free 2
  have cP := hj.ptr
  have HJ : Hid (Js R V P B cur ty tp 2 70 4 w els (.slice o els.length lc) xs D) := hj
  have HS : Hid (Sx R g cap T w l fx a b c) := h
  have hsz := hj.size
  have aV := fun o => cell_on (al1 w o) cV
  have aP := fun o => cell_on (al1 w o) cP
  have hn2 : els.length ≤ 2049 := by omega
  have hi0 : (0 : Int) ≤ (els.length : Int) := by omega
  have hi1 : (els.length : Int) < (els.length : Int) + 1 := by omega
  obtain ⟨ti, hti, hy0, hy1, hy2⟩ := info_parts Tryz.infoVal
  clear X hj h
  go_enter Tryz.func159, Tryz.ntmps159
  go_wp2
  go_region_law (first
    | (refine step_append_lies _ (by rfl) (.tmp 3) (.tmp 7) 68 (by rfl) B 70 ti _ 4 72 Tryz.underlying68 hti hy0 hy1 hy2 rfl (by decide) (.slice o els.length lc) els.length xs (by rfl) (HO.out.alloc _) ⟨w1.heap.size, 0, none⟩ 1 1 zerosV (by rfl) rfl (World.news_of_block (heap_alloc_new _ _)) zerosV_one (by decide) (by unfold maxLen; omega) (by omega) (by simp; omega) (w1.heap.size + 1) (by simp) ?_; intro q cp w2 own2 hgr hor hlt2; obtain ⟨cV2, fV2, q0, q1, q2, q3, fq, x1, x2⟩ := place4 cV1 fV1 pl.bV HO.out (al1 w1 _) hgr own2; have OW : Hid _ := own2; have GR : Hid _ := hgr; have OR : Hid _ := hor; clear own2 hgr hor)
    | (refine step_append_lies _ (by rfl) (.tmp 3) (.tmp 7) 68 (by rfl) B 70 ti _ 4 72 Tryz.underlying68 hti hy0 hy1 hy2 rfl (by decide) (.slice o els.length lc) els.length xs (by rfl) HO.out ⟨w.heap.size, 0, none⟩ 1 1 zerosV (by rfl) rfl (World.news_of_block bT) zerosV_one (by decide) (by unfold maxLen; omega) (by omega) (by omega) w1.heap.size rfl ?_; intro q cp w2 own2 hgr hor hlt2; obtain ⟨cV2, fV2, q0, q1, q2, q3, fq, x1, x2⟩ := place4 cV1 fV1 pl.bV HO.out (Below.refl _ w1) hgr own2; have OW : Hid _ := own2; have GR : Hid _ := hgr; have OR : Hid _ := hor; clear own2 hgr hor)
    | (go_simp; go_wp2_with (first
        | (go_at_call 120; (with_reducible refine XA.mono ?_); rintro e w1 (⟨p, hq, rfl, k1⟩ | ⟨el, m, v, hq, rfl, ⟨kk, tt, o1, n1, z1, o2, n2, z2, rfl, hat⟩, h1, m1, k1⟩); (exact ⟨rfl, Or.inl ⟨p, hq, rfl, ((Kp.refl (Own1 R) w).drew).trans k1⟩⟩); have isA : True := trivial; obtain ⟨cV1, fV1, cP1, HO⟩ := js_facts HJ.out pl hi (((Kp.refl (Own1 R) w).drew).trans k1); have hz1 : w.heap.size ≤ w1.heap.size := k1.size; have K1 : Hid _ := k1; have AT : Hid _ := hat; have H1 : Hid _ := h1; have HQ : Hid _ := hq; clear k1 hat h1 hq; have aV1 := fun o => cell_on (al1 w1 o) cV1)
        | (go_at_call 120; (with_reducible refine XB.mono ?_); rintro e w1 (⟨p, hq, rfl, k1⟩ | ⟨el, m, v, hq, rfl, ⟨kk, tt, o1, n1, z1, o2, n2, z2, rfl, hat⟩, h1, m1, k1⟩); (exact ⟨rfl, Or.inl ⟨p, hq, rfl, (((Kp.refl (Own1 R) w).alloc _).drew).trans k1⟩⟩); have isB : True := trivial; obtain ⟨cV1, fV1, cP1, HO⟩ := js_facts HJ.out pl hi ((((Kp.refl (Own1 R) w).alloc _).drew).trans k1); have bT : w1.heap[w.heap.size]? = some (.cells #[.int .i64 0, .string ⟨#[]⟩, .slice none 0 0, .slice none 0 0] 70 (0, 0)) := new_row (((Kp.refl (Own1 R) (w.alloc _)).drew).trans k1) (fun e => by have e' : w.heap.size = R := e; have := pl.bR; omega); have hz1 : w.heap.size + 1 ≤ w1.heap.size := (by have hz := k1.size; simpa using hz); have K1 : Hid _ := k1; have AT : Hid _ := hat; have H1 : Hid _ := h1; have HQ : Hid _ := hq; clear k1 hat h1 hq; have aV1 := fun o => cell_on (al1 w1 o) cV1)
        | fail))
    | fail)
  all_goals go_end0
  all_goals try rw [swap4 x2]
  all_goals first
    | (have _m := isA; have hA := fun w4 h4 => item_end4 (w4 := w4) HJ.out pl ((Kp.refl Non w).drew) K1.out AT.out ((Kp.refl Non w1).alloc _) GR.out (World.size_alloc _ _) OR.out OW.out HQ.out H1.out m1 (Or.inl h4); (with_reducible exact hA _ rfl))
    | (have _m := isB; have hA := fun w4 h4 => item_end4 (w4 := w4) HJ.out pl (((Kp.refl Non w).alloc _).drew) K1.out AT.out (Kp.refl Non w1) GR.out rfl OR.out OW.out HQ.out H1.out m1 (Or.inl h4); (with_reducible exact hA _ rfl))
    | fail
end
end Go.Proofs.YthficamlgngaaaaGreatDoor
namespace Go.Proofs.YthficamlgngaaaaGreatDoor
open Go Go.RowKit
/-- The row in the variable, as a cell of a tree. -/
theorem Js.at {R V P B : Nat} {cur : Array Value} {ty tp : TypeId} {i E sz : Nat} {w : World} {els : List (List CT)} {lv : Value} {xs : List Value} {D : Nat → Prop} (h : Js R V P B cur ty tp i E sz w els lv xs D) : At w (Iv B w.heap.size) (rowC E sz els) lv := by
  rcases h.own.2 with ⟨rfl, h0⟩ | ⟨q, cp, cu, hv, hb, hg, hn, _, hcs, ht⟩
  · have : els = [] := List.length_eq_zero_iff.1 h0
    subst this
    exact .nil _ _
  · subst hv
    have hl : els.flatten.length = els.length * sz := h.ats.len.trans h.own.1
    refine .row hg ⟨hb, lt_of_block hg⟩ hn hl (by rw [hcs]; exact Nat.mul_le_mul_right _ hn) (fun j y u hy hu => ?_)
    have hj : j < els.length * sz := by
      rw [← hl]
      exact (List.getElem?_eq_some_iff.1 hy).1
    refine (h.ats.all j y u hy ?_).mono (fun k hk => ⟨(h.far k hk).1, (h.far k hk).2.1⟩)
    rw [← ht, List.getElem?_take, if_pos hj]
    simpa using hu
/-- Nothing yet. -/
theorem Js.new {R V P B : Nat} {cur : Array Value} {ty tp : TypeId} {i E sz : Nat} {w : World} (hv : w.heap[V]? = some (.cells (cur.setIfInBounds i (.slice none 0 0)) ty (0, 0))) (hp : w.heap[P]? = some (.cells #[.pointer (some ⟨R, 0, none⟩)] tp (0, 0))) (hB : B ≤ w.heap.size) :
    Js R V P B cur ty tp i E sz w [] (.slice none 0 0) [] Non := ⟨hv, hp, World.ownsRow_nil _ _ _ _, Ats.nil, fun _ e => e.elim, hB⟩
theorem listS_some (f : List Tok → Rs (List CT)) (l : List Tok) : listS (some f) l = (anyS f [93] l.tail).go fun vs l1 => .ok (valC 8 [] vs [], l1) := rfl
section
variable {R g cap : Nat} {T : List Tok} {fx : Bool} {a b c : Nat}

/-- The worlds ahead of a list's items: the box of the reader, the result's block, the list's variable. -/
abbrev preL (w : World) (k : Int) : World := ((w.alloc (.cells #[.pointer (some ⟨R, 0, none⟩)] 82)).alloc (.cells #[.int .i64 0, .string ⟨#[]⟩, .slice none 0 0, .slice none 0 0] 70)).alloc (.cells #[.int .i64 k, .string ⟨#[]⟩, .slice none 0 0, .slice none 0 0] 70)
theorem list_deep {w : World} {l : List Tok} (h : Sx R g cap T w l fx a 32 c) (hl : l ≠ []) (hp : isP [91] l = true) : Calls Tryz.prog 148 #[.pointer (some ⟨R, 0, none⟩)] w (Out R g cap T w fx a 32 c (listS none l) (ValV w.heap.size)) := by
  have hS0 : Sx R g cap T (preL (R := R) w 8) l fx a 32 c := ((h.alloc _).alloc _).alloc _
  have X := open1_deep [91] hS0 hl hp
  have cP := (hS0.c0)
  go_enter Tryz.func148, Tryz.ntmps148
  go_wp2_with (go_at_call 94; refine X.mono ?_; rintro e w1 ⟨rfl, k1⟩)
  exact ⟨rfl, Or.inl ⟨_, rfl, rfl, ((((Kp.refl (Own1 R) w).alloc _).alloc _).alloc _).trans k1⟩⟩

set_option maxRecDepth 100000 in
set_option maxHeartbeats 4000000 in
theorem list_some {w : World} {l : List Tok} {n : Nat} (X : ValP R g cap T fx a (b + 1) c n) (hb : b < 32) (h : Sx R g cap T w l fx a b c) (hl : l ≠ []) (hp : isP [91] l = true) : Calls Tryz.prog 148 #[.pointer (some ⟨R, 0, none⟩)] w (Out R g cap T w fx a b c (listS (some (valF fx n)) l) (ValV w.heap.size)) := by
  have hmf : ∀ (fn : Fn) (first cap : Array Value) (w : World), (Instr.makeFunc fn first cap).run Tryz.prog w = .ok (.func fn first cap) w := fun _ _ _ _ => rfl
  have hR := h.ltR
  have hg := h.lt
  have hS0 : Sx R g cap T (preL (R := R) w 8) l fx a b c := ((h.alloc _).alloc _).alloc _
  have hz0 : (preL (R := R) w 8).heap.size = w.heap.size + 3 := by simp
  have pl : Pl R g (w.heap.size + 1 + 1) w.heap.size (w.heap.size + 3) := ⟨by omega, by omega, by omega, by omega, by omega, by omega, by omega, by omega⟩
  have bP : (preL (R := R) w 8).heap[w.heap.size]? = some (.cells #[.pointer (some ⟨R, 0, none⟩)] 82 (0, 0)) := by
    have := old_row (heap_alloc_new w (.cells #[.pointer (some ⟨R, 0, none⟩)] 82)) (((Kp.refl Non _).alloc (.cells #[.int .i64 0, .string ⟨#[]⟩, .slice none 0 0, .slice none 0 0] 70)).alloc (.cells #[.int .i64 8, .string ⟨#[]⟩, .slice none 0 0, .slice none 0 0] 70)) (fun e => e)
    exact this
  have bX : (preL (R := R) w 8).heap[w.heap.size + 1]? = some (.cells #[.int .i64 0, .string ⟨#[]⟩, .slice none 0 0, .slice none 0 0] 70 (0, 0)) := by
    have := old_row (heap_alloc_new (w.alloc (.cells #[.pointer (some ⟨R, 0, none⟩)] 82)) (.cells #[.int .i64 0, .string ⟨#[]⟩, .slice none 0 0, .slice none 0 0] 70)) ((Kp.refl Non _).alloc (.cells #[.int .i64 8, .string ⟨#[]⟩, .slice none 0 0, .slice none 0 0] 70)) (fun e => e)
    rw [World.size_alloc] at this
    exact this
  have bV : (preL (R := R) w 8).heap[w.heap.size + 1 + 1]? = some (.cells #[.int .i64 8, .string ⟨#[]⟩, .slice none 0 0, .slice none 0 0] 70 (0, 0)) := by
    have := heap_alloc_new ((w.alloc (.cells #[.pointer (some ⟨R, 0, none⟩)] 82)).alloc (.cells #[.int .i64 0, .string ⟨#[]⟩, .slice none 0 0, .slice none 0 0] 70)) (.cells #[.int .i64 8, .string ⟨#[]⟩, .slice none 0 0, .slice none 0 0] 70)
    rw [World.size_alloc, World.size_alloc] at this
    exact this
  have KW : ∀ w', Kp (fun k => k = R ∨ k = w.heap.size + 1 + 1) (preL (R := R) w 8) w' → Kp (Own1 R) w w' := fun w' k => ((((Kp.refl (Own1 R) w).alloc _).alloc _).alloc _).trans2 k (fun j hj e => by rcases e with e | e; exact e; omega)
  have OP := open1_any [91] (by simp) hS0 hl hp hb
  have AN := any_any 159 #[.pointer (some ⟨w.heap.size + 1 + 1, 0, none⟩), .pointer (some ⟨w.heap.size, 0, none⟩)] (fun _ _ => rfl) [93] (valF fx n) (valF_eats fx n) _ (Kp (Own1 R) w) (Jr.kp (cur := #[.int .i64 8, .string ⟨#[]⟩, .slice none 0 0, .slice none 0 0]) (ty := 70) (tp := 82) (i := 2) (E := 70) (sz := 4) (W0 := preL (R := R) w 8) pl) (oneR_of hz0.symm (valF_eats fx n) w KW (list1_item pl (by decide) n X))
  have HB : Hid (_ ∧ _ ∧ _) := ⟨bP, bX, bV⟩
  have HA : Hid _ := AN
  have HKW : Hid _ := KW
  have HZ : Hid (_ = _) := hz0
  clear bP bX bV AN KW hz0 X
  have hle := h.le
  have hsm := h.full.small
  have hbI : ((b : Nat) : Int) < 32 := by omega
  have hbI0 : (0 : Int) ≤ ((b : Nat) : Int) := by omega
  go_enter Tryz.func148, Tryz.ntmps148
  go_wp2_with (first
    | (go_at_call 53; refine (HA.out [] _ _ J0.out h1 n1).mono ?_; rintro e w2 (⟨p, hq, rfl, k2⟩ | ⟨ys, m, hq, rfl, ⟨⟨lv, xs, D, hj⟩, hlen, k2⟩, h2, n2⟩); (exact ⟨rfl, Or.inl ⟨p, by rw [listS_some, hq, go_error], rfl, k2⟩⟩); obtain ⟨o, lc, rfl⟩ := hj.slice; obtain ⟨v0, v1, v2, v3, vf⟩ := row4 hj.var; have bX2 := old_row HB.out.2.1 k2 (by rintro (e | e) <;> omega); obtain ⟨x0, x1, x2, x3, xf⟩ := row4 bX2; have cP2 := hj.ptr; have r4 := h2.c4; have f4 := h2.free 4; have HJ : Hid _ := hj; have H2 : Hid _ := h2; have K2 : Hid _ := k2; have HQ : Hid _ := hq; clear hj h2 k2 hq)
    | (go_at_call 94; refine OP.mono ?_; rintro e w1 ⟨rfl, h1, n1, k1⟩; have bP1 := old_row HB.out.1 k1 (by intro e; have e' : w.heap.size = R := e; omega); have bV1 := old_row HB.out.2.2 k1 (by intro e; have e' : w.heap.size + 1 + 1 = R := e; omega); have cP1 := (row1 bP1).1; have hz1 := k1.size; rw [HZ.out] at hz1; have J0 : Hid _ := (⟨⟨_, _, _, Js.new bV1 bP1 hz1⟩, by have := h1.le; simp at this ⊢; omega, k1.mono (fun _ _ e => Or.inl e)⟩ : Jr R (w.heap.size + 1 + 1) w.heap.size (w.heap.size + 3) #[.int .i64 8, .string ⟨#[]⟩, .slice none 0 0, .slice none 0 0] 70 82 2 70 4 _ [] l.tail w1); clear bP1 bV1 k1))
  go_region
  all_goals go_wp2
  have S3 := H2.out.set4 (b : Int) b rfl (by omega)
  have KQ := own4 (w := w2.setCell ⟨R, 4, none⟩ (.int .i64 (b : Int))) (w.heap.size + 1) (.int .i64 8) (.string ⟨#[]⟩) (.slice o ys.length lc) (.slice none 0 0)
  have S4 := (S3.kp KQ (fun e => by have e' : R = w.heap.size + 1 := e; omega) (fun e => by have e' : g = w.heap.size + 1 := e; omega)).drew
  have KX := K2.out.set R 4 (.int .i64 (b : Int)) (Or.inr (Or.inl rfl))
  have KR := ((HKW.out _ KX).ret KQ (Nat.le_succ _)).drew
  have KA : Kp (fun k => k = R ∨ k = w.heap.size + 1) w2 _ := (((Kp.own R 4 (.int .i64 (b : Int))).mono (fun _ _ e => Or.inl e)).trans (KQ.mono (fun _ _ e => Or.inr e))).drew
  have AT := HJ.out.at.later (lo' := w.heap.size) KA (Nat.le_refl _) (by rintro k h1 h2 (e | e) <;> omega) (by omega) KA.size
  refine bodyPost_ret (v := .agg #[.int .i64 8, .string ⟨#[]⟩, .slice o ys.length lc, .slice none 0 0]) (by simp [results, Tryz.results148, go_sem, x0, x1, x2, x3]) rfl (Or.inr ⟨_, m, _, by rw [listS_some, HQ.out, go_ok], rfl, ⟨_, _, _, _, _, _, _, _, rfl, ?_⟩, S4, n2 (by simp), KR⟩)
  exact (((Ats.nil.cons (.nil _ _)).cons AT).cons (.lf _)).cons (.lf _)
end
end Go.Proofs.YthficamlgngaaaaGreatDoor
