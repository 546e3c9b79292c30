/- The reader of a schema's tokens: an object, an enum. -/
import Derived.Test.YtlabcadpkdgjnaaGreatDoorE1
namespace Go.Proofs.YtlabcadpkdgjnaaGreatDoor
open Go Go.RowKit
abbrev fldO (n t u : Bs) (s : Bool) (i : Bs) : Obj := .cells #[.string ⟨n.toArray⟩, .string ⟨t.toArray⟩, .string ⟨u.toArray⟩, .bool s, .string ⟨i.toArray⟩] 63
abbrev RF (R F : Nat) : Nat → Prop := fun k => k = R ∨ k = F
section
variable {R g cap F : Nat} {T : List Tok} {w w' : World} {l : List Tok} {n t u i : Bs} {s : Bool}
/-- What a directive comes to. -/
def DirP (R g cap F : Nat) (T : List Tok) (w : World) (n t u : Bs) (x : Bool × Bs) (l : List Tok) (e : Ending) (w' : World) : Prop :=
  (∃ p, directiveD x l = .error p ∧ e = DiesD p ∧ Kp (RF R F) w w') ∨ (∃ y m, directiveD x l = .ok (y, m) ∧ e = .returned (.tuple #[]) ∧ w'.heap[F]? = some (fldO n t u y.1 y.2) ∧ Sd R g cap T w' m ∧ m ≠ [] ∧ Kp (RF R F) w w')
theorem Kp.rf {R F : Nat} {w w' : World} (k : Kp (Own1 R) w w') : Kp (RF R F) w w' := k.mono fun _ _ e => Or.inl e
set_option maxRecDepth 100000 in
set_option maxHeartbeats 1000000 in
theorem ddir_1 (h : Sd R g cap T w l) (_hl : l ≠ []) (hF : w.heap[F]? = some (fldO n t u false i)) (hFR : F ≠ R) (hFg : F ≠ g) (hs : isW searchB l = true) : Calls Tryz.prog 87 #[.pointer (some ⟨R, 0, none⟩), .pointer (some ⟨F, 0, none⟩)] w (DirP R g cap F T w n t u (false, i) l) := by
  have c3 := (row5 hF).2.2.2.1
  have c4 := (row5 hF).2.2.2.2.1
  have cf := (row5 hF).2.2.2.2.2
  go_enter Tryz.func87, Tryz.ntmps87
  go_wp2_with (first
    | (go_at_call 51; (with_reducible refine (dtakeW_yes searchB h hs).mono ?_); rintro e w1 ⟨rfl, h1, k1⟩; have F1 := rowOld hF k1 (fun e => hFR e); have q3 := (row5 F1).2.2.2.1; have qf := (row5 F1).2.2.2.2.2)
    | fail)
  go_end0
  exact Or.inr ⟨(true, i), l.tail, by unfold directiveD; rw [if_pos (by simp [hs])], rfl, by exact heap_setCell_same w1 F 3 _ _ _ F1, h1.set _ _ _ hFR hFg, h.nextW hs, k1.rf.set _ _ _ (Or.inr (Or.inr rfl))⟩
set_option maxRecDepth 100000 in
set_option maxHeartbeats 1000000 in
theorem ddir_2 (h : Sd R g cap T w l) (hl : l ≠ []) (hF : w.heap[F]? = some (fldO n t u false [])) (hFR : F ≠ R) (hFg : F ≠ g) (hs : isW searchB l = false) (hi : isW inverseB l = true) : Calls Tryz.prog 87 #[.pointer (some ⟨R, 0, none⟩), .pointer (some ⟨F, 0, none⟩)] w (DirP R g cap F T w n t u (false, []) l) := by
  have c3 := (row5 hF).2.2.2.1
  have c4 := (row5 hF).2.2.2.2.1
  have cf := (row5 hF).2.2.2.2.2
  go_enter Tryz.func87, Tryz.ntmps87
  go_wp2_with (first
    | (go_at_call 51; (with_reducible refine (dtakeW_yes inverseB h1 hi).mono ?_); rintro e w2 ⟨rfl, h2, k2⟩)
    | (go_at_call 107; (with_reducible refine (dinverse_any h2 (h1.nextW hi)).mono ?_); rintro e w3 (⟨p, hq3, rfl, k3⟩ | ⟨x3, l3, v3, hq3, rfl, rfl, h3, n3, k3⟩); (exact ⟨rfl, Or.inl ⟨p, by unfold directiveD; rw [if_neg (by simp [hs]), if_pos (by simp [hi]), hq3, go_error], rfl, ((k1.trans k2).trans k3).rf⟩⟩); have F3 := rowOld hF ((k1.trans k2).trans k3) (fun e => hFR e); have q4 := (row5 F3).2.2.2.2.1; have qf := (row5 F3).2.2.2.2.2)
    | (go_at_call 51; (with_reducible refine (dtakeW_no searchB h hl hs).mono ?_); rintro e w1 ⟨rfl, h1, k1⟩; have F1 := rowOld hF k1 (fun e => hFR e); have q4 := (row5 F1).2.2.2.2.1)
    | fail)
  go_end0
  exact Or.inr ⟨(false, x3), l3, by unfold directiveD; rw [if_neg (by simp [hs]), if_pos (by simp [hi]), hq3, go_ok], rfl, by exact heap_setCell_same w3 F 4 _ _ _ F3, h3.set _ _ _ hFR hFg, n3, ((k1.trans k2).trans k3).rf.set _ _ _ (Or.inr (Or.inr rfl))⟩
set_option maxRecDepth 100000 in
set_option maxHeartbeats 1000000 in
theorem ddir_3 (h : Sd R g cap T w l) (hl : l ≠ []) (hF : w.heap[F]? = some (fldO n t u false [])) (hFR : F ≠ R) (_hFg : F ≠ g) (hs : isW searchB l = false) (hi : isW inverseB l = false) : Calls Tryz.prog 87 #[.pointer (some ⟨R, 0, none⟩), .pointer (some ⟨F, 0, none⟩)] w (DirP R g cap F T w n t u (false, []) l) := by
  have c3 := (row5 hF).2.2.2.1
  have c4 := (row5 hF).2.2.2.2.1
  have cf := (row5 hF).2.2.2.2.2
  go_enter Tryz.func87, Tryz.ntmps87
  go_wp2_with (first
    | (go_at_call 57; (with_reducible refine (dgiveUp_any h2 hl).mono ?_); rintro e w4 ⟨rfl, k4⟩; exact ⟨rfl, Or.inl ⟨_, by unfold directiveD; rw [if_neg (by simp [hs]), if_neg (by simp [hi])], rfl, ((k1.trans k2).trans k4.any).rf⟩⟩)
    | (go_at_call 51; (with_reducible refine (dtakeW_no inverseB h1 hl hi).mono ?_); rintro e w2 ⟨rfl, h2, k2⟩)
    | (go_at_call 51; (with_reducible refine (dtakeW_no searchB h hl hs).mono ?_); rintro e w1 ⟨rfl, h1, k1⟩; have F1 := rowOld hF k1 (fun e => hFR e); have q4 := (row5 F1).2.2.2.2.1)
    | fail)
set_option maxRecDepth 100000 in
set_option maxHeartbeats 1000000 in
theorem ddir_4 (h : Sd R g cap T w l) (hl : l ≠ []) (hF : w.heap[F]? = some (fldO n t u false i)) (hFR : F ≠ R) (_hFg : F ≠ g) (hs : isW searchB l = false) (hx : (i == []) = false) : Calls Tryz.prog 87 #[.pointer (some ⟨R, 0, none⟩), .pointer (some ⟨F, 0, none⟩)] w (DirP R g cap F T w n t u (false, i) l) := by
  have c3 := (row5 hF).2.2.2.1
  have c4 := (row5 hF).2.2.2.2.1
  have cf := (row5 hF).2.2.2.2.2
  go_enter Tryz.func87, Tryz.ntmps87
  go_wp2_with (first
    | (go_at_call 57; (with_reducible refine (dgiveUp_any h1 hl).mono ?_); rintro e w4 ⟨rfl, k4⟩; exact ⟨rfl, Or.inl ⟨_, by unfold directiveD; rw [if_neg (by simp [hs]), if_neg (by simp [hx])], rfl, (k1.trans k4.any).rf⟩⟩)
    | (go_at_call 51; (with_reducible refine (dtakeW_no searchB h hl hs).mono ?_); rintro e w1 ⟨rfl, h1, k1⟩; have F1 := rowOld hF k1 (fun e => hFR e); have q4 := (row5 F1).2.2.2.2.1)
    | fail)
set_option maxRecDepth 100000 in
set_option maxHeartbeats 1000000 in
theorem ddir_5 (h : Sd R g cap T w l) (_hl : l ≠ []) (hF : w.heap[F]? = some (fldO n t u true [])) (hFR : F ≠ R) (hFg : F ≠ g) (hi : isW inverseB l = true) : Calls Tryz.prog 87 #[.pointer (some ⟨R, 0, none⟩), .pointer (some ⟨F, 0, none⟩)] w (DirP R g cap F T w n t u (true, []) l) := by
  have c3 := (row5 hF).2.2.2.1
  have c4 := (row5 hF).2.2.2.2.1
  have cf := (row5 hF).2.2.2.2.2
  go_enter Tryz.func87, Tryz.ntmps87
  go_wp2_with (first
    | (go_at_call 51; (with_reducible refine (dtakeW_yes inverseB h hi).mono ?_); rintro e w2 ⟨rfl, h2, k2⟩)
    | (go_at_call 107; (with_reducible refine (dinverse_any h2 (h.nextW hi)).mono ?_); rintro e w3 (⟨p, hq3, rfl, k3⟩ | ⟨x3, l3, v3, hq3, rfl, rfl, h3, n3, k3⟩); (exact ⟨rfl, Or.inl ⟨p, by unfold directiveD; rw [if_neg (by simp), if_pos (by simp [hi]), hq3, go_error], rfl, (k2.trans k3).rf⟩⟩); have F3 := rowOld hF (k2.trans k3) (fun e => hFR e); have q4 := (row5 F3).2.2.2.2.1; have qf := (row5 F3).2.2.2.2.2)
    | fail)
  go_end0
  exact Or.inr ⟨(true, x3), l3, by unfold directiveD; rw [if_neg (by simp), if_pos (by simp [hi]), hq3, go_ok], rfl, by exact heap_setCell_same w3 F 4 _ _ _ F3, h3.set _ _ _ hFR hFg, n3, (k2.trans k3).rf.set _ _ _ (Or.inr (Or.inr rfl))⟩
set_option maxRecDepth 100000 in
set_option maxHeartbeats 1000000 in
theorem ddir_6 (h : Sd R g cap T w l) (hl : l ≠ []) (hF : w.heap[F]? = some (fldO n t u true [])) (_hFR : F ≠ R) (_hFg : F ≠ g) (hi : isW inverseB l = false) : Calls Tryz.prog 87 #[.pointer (some ⟨R, 0, none⟩), .pointer (some ⟨F, 0, none⟩)] w (DirP R g cap F T w n t u (true, []) l) := by
  have c3 := (row5 hF).2.2.2.1
  have c4 := (row5 hF).2.2.2.2.1
  have cf := (row5 hF).2.2.2.2.2
  go_enter Tryz.func87, Tryz.ntmps87
  go_wp2_with (first
    | (go_at_call 57; (with_reducible refine (dgiveUp_any h2 hl).mono ?_); rintro e w4 ⟨rfl, k4⟩; exact ⟨rfl, Or.inl ⟨_, by unfold directiveD; rw [if_neg (by simp), if_neg (by simp [hi])], rfl, (k2.trans k4.any).rf⟩⟩)
    | (go_at_call 51; (with_reducible refine (dtakeW_no inverseB h hl hi).mono ?_); rintro e w2 ⟨rfl, h2, k2⟩)
    | fail)
set_option maxRecDepth 100000 in
set_option maxHeartbeats 1000000 in
theorem ddir_7 (h : Sd R g cap T w l) (hl : l ≠ []) (hF : w.heap[F]? = some (fldO n t u true i)) (_hFR : F ≠ R) (_hFg : F ≠ g) (hx : (i == []) = false) : Calls Tryz.prog 87 #[.pointer (some ⟨R, 0, none⟩), .pointer (some ⟨F, 0, none⟩)] w (DirP R g cap F T w n t u (true, i) l) := by
  have c3 := (row5 hF).2.2.2.1
  have c4 := (row5 hF).2.2.2.2.1
  have cf := (row5 hF).2.2.2.2.2
  go_enter Tryz.func87, Tryz.ntmps87
  go_wp2_with (first
    | (go_at_call 57; (with_reducible refine (dgiveUp_any h hl).mono ?_); rintro e w4 ⟨rfl, k4⟩; exact ⟨rfl, Or.inl ⟨_, by unfold directiveD; rw [if_neg (by simp), if_neg (by simp [hx])], rfl, (((Kp.refl (Own1 R) w)).trans k4.any).rf⟩⟩)
    | fail)
theorem ddirective_any (h : Sd R g cap T w l) (hl : l ≠ []) (hF : w.heap[F]? = some (fldO n t u s i)) (hFR : F ≠ R) (hFg : F ≠ g) : Calls Tryz.prog 87 #[.pointer (some ⟨R, 0, none⟩), .pointer (some ⟨F, 0, none⟩)] w (DirP R g cap F T w n t u (s, i) l) := by
  cases s with
  | false =>
    cases hs : isW searchB l with
    | true => exact ddir_1 h hl hF hFR hFg hs
    | false =>
      cases hx : (i == []) with
      | false => exact ddir_4 h hl hF hFR hFg hs hx
      | true =>
        obtain rfl : i = [] := by simpa using hx
        cases hi : isW inverseB l with
        | true => exact ddir_2 h hl hF hFR hFg hs hi
        | false => exact ddir_3 h hl hF hFR hFg hs hi
  | true =>
    cases hx : (i == []) with
    | false => exact ddir_7 h hl hF hFR hFg hx
    | true =>
      obtain rfl : i = [] := by simpa using hx
      cases hi : isW inverseB l with
      | true => exact ddir_5 h hl hF hFR hFg hi
      | false => exact ddir_6 h hl hF hFR hFg hi
end
end Go.Proofs.YtlabcadpkdgjnaaGreatDoor
namespace Go.Proofs.YtlabcadpkdgjnaaGreatDoor
open Go Go.RowKit
abbrev fldV (f : Fld) : Value := .agg #[.string ⟨f.n.toArray⟩, .string ⟨f.t.toArray⟩, .string ⟨f.w.toArray⟩, .bool f.s, .string ⟨f.i.toArray⟩]
def atD (w : World) (R : Nat) : Int := match w.cell? ⟨R, 1, none⟩ with | some (.int _ n) => n | _ => 0
theorem atD_eq {R g cap : Nat} {T : List Tok} {w : World} {l : List Tok} (h : Sd R g cap T w l) : atD w R = ((T.length - l.length : Nat) : Int) := by
  unfold atD; rw [h.c1]
/-- A block that is new since a has changed. -/
theorem Kp.loFF {R F : Nat} {a w w' : World} (j : Kp (Own1 R) a w) (k : Kp (RF R F) w w') (hF : a.heap.size ≤ F) : Kp (Own1 R) a w' := ⟨k.os.trans j.os, k.tape.trans j.tape, k.output.trans j.output, Nat.le_trans j.size k.size, fun q hq hS => (k.block q (Nat.lt_of_lt_of_le hq j.size) (fun e => by rcases e with e | e; exact hS e; omega)).trans (j.block q hq hS)⟩
section
variable {R g cap : Nat} {T : List Tok} {w w' : World} {l : List Tok}
set_option maxRecDepth 100000 in
set_option maxHeartbeats 4000000 in
theorem dfield_any (h : Sd R g cap T w l) (hl : l ≠ []) : Calls Tryz.prog 54 #[.pointer (some ⟨R, 0, none⟩)] w (OutD R g cap T w (fieldD l) fun x v _ => v = fldV x) := by
  have hR := h.ltR
  have hg := h.lt
  have A := dname_any (h.alloc (fldO [] [] [] false [])) hl
  have P0 := heap_alloc_new w (fldO [] [] [] false [])
  have KW : Kp (Own1 R) w (w.alloc (fldO [] [] [] false [])) := (Kp.refl _ _).alloc _
  clear h
  go_enter Tryz.func54, Tryz.ntmps54
  go_wp2_with (first
    | (go_at_call 86; (with_reducible refine (dref_any h2 n2).mono ?_); rintro e w3 (⟨p, hq3, rfl, k3⟩ | ⟨⟨x3, y3⟩, l3, v3, hq3, rfl, ⟨rfl, hy3⟩, h3, n3, k3⟩); (exact ⟨rfl, Or.inl ⟨p, by unfold fieldD; simp only [hq1, hq2, hq3, go_ok, go_error], rfl, K2.trans k3⟩⟩); have F3 := rowOld F2 k3 (fun e => by have e' : w1.heap.size = R := e; omega); have P3 := rowOld P2 k3 (fun e => by have e' : w.heap.size = R := e; omega); have K3 := K2.trans k3; obtain ⟨f0, f1, f2, f3, f4, ff⟩ := row5 F3)
    | (go_at_call 85; (with_reducible refine (dsign_any [58] (by decide) (h1.alloc _) n1).mono ?_); rintro e w2 (⟨p, hq2, rfl, k2⟩ | ⟨_, l2, v2, hq2, rfl, rfl, h2, n2, k2⟩); (exact ⟨rfl, Or.inl ⟨p, by unfold fieldD; simp only [hq1, hq2, go_ok, go_error], rfl, ((KW.trans k1).alloc _).trans k2⟩⟩); have K2 := ((KW.trans k1).alloc (fldO x1 [] [] false [])).trans k2; have hz1 := (KW.trans k1).size; have F2 := rowOld (heap_alloc_new w1 (fldO x1 [] [] false [])) k2 (fun e => by have e' : w1.heap.size = R := e; omega); have P2 := rowOld (rowOld (rowOld P0 k1 (fun e => by have e' : w.heap.size = R := e; omega)) ((Kp.refl Non w1).alloc (fldO x1 [] [] false [])) (fun e => e)) k2 (fun e => by have e' : w.heap.size = R := e; omega))
    | (go_at_call 52; (with_reducible refine A.mono ?_); rintro e w1 (⟨p, hq1, rfl, k1⟩ | ⟨x1, l1, v1, hq1, rfl, rfl, h1, n1, k1⟩); (exact ⟨rfl, Or.inl ⟨p, by unfold fieldD; rw [hq1, go_error], rfl, KW.trans k1⟩⟩))
    | fail)
  have F4 : ((w3.setCell ⟨w1.heap.size, 1, none⟩ (.string ⟨x3.toArray⟩)).setCell ⟨w1.heap.size, 2, none⟩ (.string ⟨y3.toArray⟩)).heap[w1.heap.size]? = some (fldO x1 x3 y3 false []) := heap_setCell_same _ _ 2 _ _ _ (heap_setCell_same w3 _ 1 _ _ _ F3)
  have hz0 := lt_of_block (rowOld P0 k1 (fun e => by have e' : w.heap.size = R := e; omega))
  have P4 := rowOld P3 (((Kp.refl (Own1 w1.heap.size) w3).set w1.heap.size 1 (.string ⟨x3.toArray⟩) (Or.inr rfl)).set w1.heap.size 2 (.string ⟨y3.toArray⟩) (Or.inr rfl)) (fun e => by have e' : w.heap.size = w1.heap.size := e; omega)
  have S4 := (h3.set w1.heap.size 1 (.string ⟨x3.toArray⟩) (by omega) (by omega)).set w1.heap.size 2 (.string ⟨y3.toArray⟩) (by omega) (by omega)
  have K4 := (K3.set w1.heap.size 1 (.string ⟨x3.toArray⟩) (Or.inl hz1)).set w1.heap.size 2 (.string ⟨y3.toArray⟩) (Or.inl hz1)
  clear f0 f1 f2 f3 f4 ff
  generalize (w3.setCell ⟨w1.heap.size, 1, none⟩ (.string ⟨x3.toArray⟩)).setCell ⟨w1.heap.size, 2, none⟩ (.string ⟨y3.toArray⟩) = w4 at *
  obtain ⟨Fb, hFb⟩ : ∃ Fb, Fb = w1.heap.size := ⟨_, rfl⟩
  rw [← hFb] at F4 hz0 hz1 ⊢
  clear hFb P2 P3 F2 F3 P0 A
  go_loopw [] (fun wr => ∃ (x : Bool × Bs) (l' : List Tok), wr.heap[Fb]? = some (fldO x1 x3 y3 x.1 x.2) ∧ wr.heap[w.heap.size]? = some (fldO [] [] [] false []) ∧ Sd R g cap T wr l' ∧ l' ≠ [] ∧ dirsD (false, []) l3 = dirsD x l' ∧ Kp (Own1 R) w wr) (fun wr => T.length - (atD wr R).toNat)
  case atStart => exact ⟨(false, []), l3, F4, P4, S4, n3, rfl, K4⟩
  case round =>
    obtain ⟨⟨s, i⟩, l', hF, hP, hS, hl', he, hK⟩ := hrel
    have HE : Hid (dirsD (false, []) l3 = dirsD (s, i) l') := he
    have ha := atD_eq hS
    have hle := hS.le
    have hpos : 0 < l'.length := List.length_pos_iff.2 hl'
    clear he S4 P4 F4
    simp only at hF
    have r3 := (row5 hF).2.2.2.1
    have r4 := (row5 hF).2.2.2.2.1
    cases s with
    | false =>
      cases hp : isP [64] l' with
      | true =>
        have n5 := hS.next (by decide) hp
        go_wp2_with (first
          | (go_at_call 34; (with_reducible refine (dtake_yes [64] hS hp).mono ?_); rintro e w5 ⟨rfl, h5, k5⟩; have F5 := rowOld hF k5 (fun e => by have e' : Fb = R := e; omega); have P5 := rowOld hP k5 (fun e => by have e' : w.heap.size = R := e; omega))
          | (go_at_call 87; (with_reducible refine (ddirective_any h5 n5 F5 (by omega) (by omega)).mono ?_); rintro e w6 (⟨p, hq6, rfl, k6⟩ | ⟨⟨s6, i6⟩, l6, hq6, rfl, F6, h6, n6, k6⟩); (refine ⟨rfl, Or.inl ⟨p, ?_, rfl, (hK.trans k5).loFF k6 (by omega)⟩⟩; unfold fieldD; simp only [hq1, hq2, hq3, HE.out, go_ok]; rw [dirsD_eq, if_pos (by simp [hp]), hq6]; rfl))
          | fail)
        have hx := directiveD_eats _ _ _ _ hq6
        have h7 := atD_eq h6
        have h8 := h6.le
        have h9 := isP_pos hp
        rw [List.length_tail] at hx
        refine ⟨⟨(s6, i6), l6, F6, rowOld P5 k6 (fun e => by have e' : w.heap.size = R ∨ w.heap.size = Fb := e; omega), h6, n6, ?_, (hK.trans k5).loFF k6 (by omega)⟩, ?_⟩
        · rw [HE.out, dirsD_eq, if_pos (by simp [hp]), hq6]; rfl
        · rw [h7, ha]
          simp only [Int.toNat_natCast]
          omega
      | false =>
        go_wp2_with (first
          | (go_at_call 34; (with_reducible refine (dtake_no [64] hS hl' hp).mono ?_); rintro e w5 ⟨rfl, h5, k5⟩; have F5 := rowOld hF k5 (fun e => by have e' : Fb = R := e; omega); have P5 := rowOld hP k5 (fun e => by have e' : w.heap.size = R := e; omega); obtain ⟨u0, u1, u2, u3, u4, uf⟩ := row5 F5; obtain ⟨v0, v1, v2, v3, v4, vf⟩ := row5 P5)
          | fail)
        refine bodyPost_ret (v := fldV ⟨x1, x3, y3, false, i⟩) (by simp [results, Tryz.results54, go_sem, v0, v1, v2, v3, v4]) rfl (Or.inr ⟨⟨x1, x3, y3, false, i⟩, l', _, ?_, rfl, rfl, ((((h5.set _ _ _ (by omega) (by omega)).set _ _ _ (by omega) (by omega)).set _ _ _ (by omega) (by omega)).set _ _ _ (by omega) (by omega)).set _ _ _ (by omega) (by omega), hl', (((((hK.trans k5).set _ _ _ (Or.inl (Nat.le_refl _))).set _ _ _ (Or.inl (Nat.le_refl _))).set _ _ _ (Or.inl (Nat.le_refl _))).set _ _ _ (Or.inl (Nat.le_refl _))).set _ _ _ (Or.inl (Nat.le_refl _))⟩)
        unfold fieldD
        simp only [hq1, hq2, hq3, HE.out, go_ok]
        rw [dirsD_eq]
        simp [hp]; simp only [go_ok]
    | true =>
      cases hx : (i == []) with
      | false =>
        obtain ⟨u0, u1, u2, u3, u4, uf⟩ := row5 hF
        obtain ⟨v0, v1, v2, v3, v4, vf⟩ := row5 hP
        go_wp2
        refine bodyPost_ret (v := fldV ⟨x1, x3, y3, true, i⟩) (by simp [results, Tryz.results54, go_sem, v0, v1, v2, v3, v4]) rfl (Or.inr ⟨⟨x1, x3, y3, true, i⟩, l', _, ?_, rfl, rfl, ((((hS.set _ _ _ (by omega) (by omega)).set _ _ _ (by omega) (by omega)).set _ _ _ (by omega) (by omega)).set _ _ _ (by omega) (by omega)).set _ _ _ (by omega) (by omega), hl', ((((hK.set _ _ _ (Or.inl (Nat.le_refl _))).set _ _ _ (Or.inl (Nat.le_refl _))).set _ _ _ (Or.inl (Nat.le_refl _))).set _ _ _ (Or.inl (Nat.le_refl _))).set _ _ _ (Or.inl (Nat.le_refl _))⟩)
        unfold fieldD
        simp only [hq1, hq2, hq3, HE.out, go_ok]
        rw [dirsD_eq]
        simp [hx]; simp only [go_ok]
      | true =>
        obtain rfl : i = [] := by simpa using hx
        clear hx
        cases hp : isP [64] l' with
        | true =>
          have n5 := hS.next (by decide) hp
          go_wp2_with (first
            | (go_at_call 34; (with_reducible refine (dtake_yes [64] hS hp).mono ?_); rintro e w5 ⟨rfl, h5, k5⟩; have F5 := rowOld hF k5 (fun e => by have e' : Fb = R := e; omega); have P5 := rowOld hP k5 (fun e => by have e' : w.heap.size = R := e; omega))
            | (go_at_call 87; (with_reducible refine (ddirective_any h5 n5 F5 (by omega) (by omega)).mono ?_); rintro e w6 (⟨p, hq6, rfl, k6⟩ | ⟨⟨s6, i6⟩, l6, hq6, rfl, F6, h6, n6, k6⟩); (refine ⟨rfl, Or.inl ⟨p, ?_, rfl, (hK.trans k5).loFF k6 (by omega)⟩⟩; unfold fieldD; simp only [hq1, hq2, hq3, HE.out, go_ok]; rw [dirsD_eq, if_pos (by simp [hp]), hq6]; rfl))
            | fail)
          have hx := directiveD_eats _ _ _ _ hq6
          have h7 := atD_eq h6
          have h8 := h6.le
          have h9 := isP_pos hp
          rw [List.length_tail] at hx
          refine ⟨⟨(s6, i6), l6, F6, rowOld P5 k6 (fun e => by have e' : w.heap.size = R ∨ w.heap.size = Fb := e; omega), h6, n6, ?_, (hK.trans k5).loFF k6 (by omega)⟩, ?_⟩
          · rw [HE.out, dirsD_eq, if_pos (by simp [hp]), hq6]; rfl
          · rw [h7, ha]
            simp only [Int.toNat_natCast]
            omega
        | false =>
          go_wp2_with (first
            | (go_at_call 34; (with_reducible refine (dtake_no [64] hS hl' hp).mono ?_); rintro e w5 ⟨rfl, h5, k5⟩; have F5 := rowOld hF k5 (fun e => by have e' : Fb = R := e; omega); have P5 := rowOld hP k5 (fun e => by have e' : w.heap.size = R := e; omega); obtain ⟨u0, u1, u2, u3, u4, uf⟩ := row5 F5; obtain ⟨v0, v1, v2, v3, v4, vf⟩ := row5 P5)
            | fail)
          refine bodyPost_ret (v := fldV ⟨x1, x3, y3, true, []⟩) (by simp [results, Tryz.results54, go_sem, v0, v1, v2, v3, v4]) rfl (Or.inr ⟨⟨x1, x3, y3, true, []⟩, l', _, ?_, rfl, rfl, ((((h5.set _ _ _ (by omega) (by omega)).set _ _ _ (by omega) (by omega)).set _ _ _ (by omega) (by omega)).set _ _ _ (by omega) (by omega)).set _ _ _ (by omega) (by omega), hl', (((((hK.trans k5).set _ _ _ (Or.inl (Nat.le_refl _))).set _ _ _ (Or.inl (Nat.le_refl _))).set _ _ _ (Or.inl (Nat.le_refl _))).set _ _ _ (Or.inl (Nat.le_refl _))).set _ _ _ (Or.inl (Nat.le_refl _))⟩)
          unfold fieldD
          simp only [hq1, hq2, hq3, HE.out, go_ok]
          rw [dirsD_eq]
          simp [hp]; simp only [go_ok]
end
end Go.Proofs.YtlabcadpkdgjnaaGreatDoor
namespace Go.Proofs.YtlabcadpkdgjnaaGreatDoor
open Go Go.RowKit Go.Shelf
theorem Kp.grew {S : Nat → Prop} {a W w8 : World} {ob : Option Nat} (h : Kp S a W) (g : W.grownBy w8 ob) (ho : ∀ k, ob = some k → a.heap.size ≤ k) : Kp S a w8 := ⟨g.os.trans h.os, g.tape.trans h.tape, g.output.trans h.output, Nat.le_trans h.size g.size, fun q hq hS => (g.block q (Nat.lt_of_lt_of_le hq h.size) (fun e => by have := ho q e.symm; omega)).trans (h.block q hq hS)⟩
theorem Kp.grewN {W w8 : World} {ob : Option Nat} (g : W.grownBy w8 ob) : Kp (fun k => ob = some k) W w8 := ⟨g.os, g.tape, g.output, g.size, fun q hq hS => g.block q hq (fun e => hS e.symm)⟩
theorem ownBlk {w : World} {B E sz n : Nat} {v : Value} {xs : List Value} (h : w.ownsRow B E sz v n xs) {q : Nat} (hq : v.ownBlock = some q) : B ≤ q ∧ q < w.heap.size := by
  rcases h.2 with ⟨rfl, _⟩ | ⟨g, cap, cur, hv, hB, hg, _⟩
  · cases hq
  · rw [hv] at hq
    have e : g = q := by simpa [Value.ownBlock] using hq
    subst e
    exact ⟨hB, lt_of_block hg⟩
theorem go_moreD {α : Type} (r : Rs (List α)) (x : α) (ys : List α) : (r.go fun b l2 => .ok (x :: b, l2)).go (fun b l2 => (.ok (ys ++ b, l2) : Rs (List α))) = r.go fun b l2 => .ok ((ys ++ [x]) ++ b, l2) := by
  cases r with
  | error p => rfl
  | ok p => simp [Rs.go]
section
variable {R g cap : Nat} {T : List Tok} {w w' : World} {l : List Tok}
theorem Sd.grew {w8 : World} {ob : Option Nat} (h : Sd R g cap T w l) (k : w.grownBy w8 ob) (h1 : ob ≠ some R) (h2 : ob ≠ some g) : Sd R g cap T w8 l := h.kp (Kp.grewN k) h1 h2
set_option maxRecDepth 100000 in
set_option maxHeartbeats 4000000 in
theorem dwithinF (h : Sd R g cap T w l) (hl : l ≠ []) : Calls Tryz.prog 53 #[.pointer (some ⟨R, 0, none⟩), .func (.func 54) #[.pointer (some ⟨R, 0, none⟩)] #[]] w (OutD R g cap T w (withinD fieldD l) fun fs v w' => RowO w' w.heap.size 63 5 fldC v fs ∧ fs.length ≤ 2049) := by
  have hR := h.ltR
  have hg := h.lt
  have A := dsign_any [123] (by decide) h hl
  obtain ⟨ti, hti, hy0, hy1, hy2⟩ := info_parts Tryz.infoFld
  have hT := h.full.small
  clear h
  go_enter Tryz.func53, Tryz.ntmps53
  go_wp2_with (first
    | (go_at_call 54; (with_reducible refine (dfield_any h1 n1).mono ?_); rintro e w2 (⟨p, hq2, rfl, k2⟩ | ⟨x2, l2, v2, hq2, rfl, rfl, h2, n2, k2⟩); (exact ⟨rfl, Or.inl ⟨p, by unfold withinD someS; rw [hq1, go_ok, hq2, go_error], rfl, k1.trans k2⟩⟩))
    | (go_at_call 85; (with_reducible refine A.mono ?_); rintro e w1 (⟨p, hq1, rfl, k1⟩ | ⟨_, l1, v1, hq1, rfl, rfl, h1, n1, k1⟩); (exact ⟨rfl, Or.inl ⟨p, by unfold withinD; rw [hq1, go_error], rfl, k1⟩⟩))
    | fail)
  have HQ : Hid (withinD fieldD l = (anyS fieldD [125] l2).go fun b l3 => .ok ([x2] ++ b, l3)) := by show _ = _; unfold withinD someS; rw [hq1, go_ok, hq2, go_ok]; rfl
  have K2 := k1.trans k2
  have z2 := K2.size
  have R2 : RowO (w2.alloc (.cells #[.string ⟨x2.n.toArray⟩, .string ⟨x2.t.toArray⟩, .string ⟨x2.w.toArray⟩, .bool x2.s, .string ⟨x2.i.toArray⟩] 63)) w.heap.size 63 5 fldC (.slice (some ⟨w2.heap.size, 0, none⟩) 1 1) [x2] := RowO.lit (fun _ => rfl) z2 (heap_alloc_new w2 _) rfl rfl (by decide)
  have S2 := h2.alloc (.cells #[.string ⟨x2.n.toArray⟩, .string ⟨x2.t.toArray⟩, .string ⟨x2.w.toArray⟩, .bool x2.s, .string ⟨x2.i.toArray⟩] 63)
  have K3 := K2.alloc (.cells #[.string ⟨x2.n.toArray⟩, .string ⟨x2.t.toArray⟩, .string ⟨x2.w.toArray⟩, .bool x2.s, .string ⟨x2.i.toArray⟩] 63)
  have hx2 := fieldD_eats _ _ _ hq2
  have hle2 := h1.le
  clear A hq1 hq2 h1 h2 k1 k2 K2
  generalize w2.alloc (.cells #[.string ⟨x2.n.toArray⟩, .string ⟨x2.t.toArray⟩, .string ⟨x2.w.toArray⟩, .bool x2.s, .string ⟨x2.i.toArray⟩] 63) = w3 at *
  go_loopw [5] (fun lz wr => ∃ (lv : Value) (ys : List Fld) (l' : List Tok), lv = lz ∧ RowO wr w.heap.size 63 5 fldC lv ys ∧ ys.length + l'.length ≤ T.length ∧ Sd R g cap T wr l' ∧ l' ≠ [] ∧ withinD fieldD l = ((anyS fieldD [125] l').go fun b l3 => .ok (ys ++ b, l3)) ∧ Kp (Own1 R) w wr) (fun _ wr => T.length - (atD wr R).toNat)
  case atStart => exact ⟨_, [x2], l2, rfl, R2, by simp; omega, S2, n2, HQ.out, K3⟩
  case round =>
    obtain ⟨lv, ys, l', rfl, hRow, hlen, hS, hl', he, hK⟩ := hrel
    have HE : Hid (withinD fieldD l = ((anyS fieldD [125] l').go fun b l3 => .ok (ys ++ b, l3))) := he
    have ha := atD_eq hS
    have hle := hS.le
    have hpos : 0 < l'.length := List.length_pos_iff.2 hl'
    have hown := hRow.own rfl
    clear he S2 R2 K3 HQ
    cases hp : isP [125] l' with
    | true =>
      go_wp2_with (first
        | (go_at_call 34; (with_reducible refine (dtake_yes [125] hS hp).mono ?_); rintro e w5 ⟨rfl, h5, k5⟩)
        | fail)
      go_ret
      refine Or.inr ⟨ys, l'.tail, _, ?_, rfl, ⟨?_, by omega⟩, h5, hS.next (by decide) hp, hK.trans k5⟩
      · rw [HE.out, anyS_eq fieldD_eats, if_pos hp]
        simp [go_ok]
      · exact hRow.blk fun q cur hq hb => rowOld hb k5 (fun e => by have e' : q = R := e; omega)
    | false =>
      have hp' : ¬ isP [125] l' = true := by rw [hp]; simp
      go_wp2_with (first
        | (at_builtin; refine wpList_append_own _ rfl (.tmp 14) (.tmp 17) 56 rfl w.heap.size 63 ti _ 5 72 Tryz.underlying56 hti hy0 hy1 hy2 rfl (by decide) lv ys.length (ys.flatMap fldC) rfl O6 ⟨w6.heap.size, 0, none⟩ 1 1 (fldC x6) rfl rfl (World.news_of_block (heap_alloc_new w6 (.cells #[.string ⟨x6.n.toArray⟩, .string ⟨x6.t.toArray⟩, .string ⟨x6.w.toArray⟩, .bool x6.s, .string ⟨x6.i.toArray⟩] 63))) (by intro u hu; simp at hu; rcases hu with rfl | rfl | rfl | rfl | rfl <;> rfl) (by unfold maxLen; omega) (by omega) (Nat.le_trans K6.size (al1 w6 _).size) ?_; intro v8 w8 own8 gr8 _)
        | (go_at_call 54; (with_reducible refine (dfield_any h5 hl').mono ?_); rintro e w6 (⟨p, hq6, rfl, k6⟩ | ⟨x6, l6, v6, hq6, rfl, rfl, h6, n6, k6⟩); (exact ⟨rfl, Or.inl ⟨p, by rw [HE.out, anyS_eq fieldD_eats, if_neg hp', hq6, go_error, go_error], rfl, (hK.trans k5).trans k6⟩⟩); have K6 := (hK.trans k5).trans k6; have O6 := ((hRow.blk fun q cur hq hb => rowOld hb (k5.trans k6) (fun e => by have e' : q = R := e; omega)).own rfl).alloc (.cells #[.string ⟨x6.n.toArray⟩, .string ⟨x6.t.toArray⟩, .string ⟨x6.w.toArray⟩, .bool x6.s, .string ⟨x6.i.toArray⟩] 63))
        | (go_at_call 34; (with_reducible refine (dtake_no [125] hS hl' hp).mono ?_); rintro e w5 ⟨rfl, h5, k5⟩)
        | fail)
      have hx := fieldD_eats _ _ _ hq6
      have hob : ∀ k, lv.ownBlock = some k → w.heap.size ≤ k := fun k e => (ownBlk O6 e).1
      have S8 := (h6.alloc (.cells #[.string ⟨x6.n.toArray⟩, .string ⟨x6.t.toArray⟩, .string ⟨x6.w.toArray⟩, .bool x6.s, .string ⟨x6.i.toArray⟩] 63)).grew gr8 (fun e => by have := hob _ e; omega) (fun e => by have := hob _ e; omega)
      have h7 := atD_eq S8
      have h8 := S8.le
      refine ⟨⟨v8, ys ++ [x6], l6, rfl, RowO.pushL own8 rfl (by simp), by simp; omega, S8, n6, ?_, (K6.alloc _).grew gr8 hob⟩, ?_⟩
      · rw [HE.out, anyS_eq fieldD_eats, if_neg hp', hq6, go_ok, go_moreD]
      · rw [h7, ha]
        simp only [Int.toNat_natCast]
        omega
set_option maxRecDepth 100000 in
set_option maxHeartbeats 4000000 in
theorem dwithinS (h : Sd R g cap T w l) (hl : l ≠ []) : Calls Tryz.prog 55 #[.pointer (some ⟨R, 0, none⟩), .func (.func 56) #[.pointer (some ⟨R, 0, none⟩)] #[]] w (OutD R g cap T w (withinD wordD l) fun fs v w' => RowO w' w.heap.size 9 1 wrdC v fs ∧ fs.length ≤ 2049) := by
  have hR := h.ltR
  have hg := h.lt
  have A := dsign_any [123] (by decide) h hl
  obtain ⟨ti, hti, hy0, hy1, hy2⟩ := info_parts Tryz.infoStr
  have hT := h.full.small
  clear h
  go_enter Tryz.func55, Tryz.ntmps55
  go_wp2_with (first
    | (go_at_call 56; (with_reducible refine (dword_any h1 n1).mono ?_); rintro e w2 (⟨p, hq2, rfl, k2⟩ | ⟨x2, l2, v2, hq2, rfl, rfl, h2, n2, k2⟩); (exact ⟨rfl, Or.inl ⟨p, by unfold withinD someS; rw [hq1, go_ok, hq2, go_error], rfl, k1.trans k2⟩⟩))
    | (go_at_call 85; (with_reducible refine A.mono ?_); rintro e w1 (⟨p, hq1, rfl, k1⟩ | ⟨_, l1, v1, hq1, rfl, rfl, h1, n1, k1⟩); (exact ⟨rfl, Or.inl ⟨p, by unfold withinD; rw [hq1, go_error], rfl, k1⟩⟩))
    | fail)
  have HQ : Hid (withinD wordD l = (anyS wordD [125] l2).go fun b l3 => .ok ([x2] ++ b, l3)) := by show _ = _; unfold withinD someS; rw [hq1, go_ok, hq2, go_ok]; rfl
  have K2 := k1.trans k2
  have z2 := K2.size
  have R2 : RowO (w2.alloc (.cells #[.string ⟨x2.toArray⟩] 9)) w.heap.size 9 1 wrdC (.slice (some ⟨w2.heap.size, 0, none⟩) 1 1) [x2] := RowO.lit (fun _ => rfl) z2 (heap_alloc_new w2 _) rfl rfl (by decide)
  have S2 := h2.alloc (.cells #[.string ⟨x2.toArray⟩] 9)
  have K3 := K2.alloc (.cells #[.string ⟨x2.toArray⟩] 9)
  have hx2 := wordD_eats _ _ _ hq2
  have hle2 := h1.le
  clear A hq1 hq2 h1 h2 k1 k2 K2
  generalize w2.alloc (.cells #[.string ⟨x2.toArray⟩] 9) = w3 at *
  go_loopw [5] (fun lz wr => ∃ (lv : Value) (ys : List Bs) (l' : List Tok), lv = lz ∧ RowO wr w.heap.size 9 1 wrdC lv ys ∧ ys.length + l'.length ≤ T.length ∧ Sd R g cap T wr l' ∧ l' ≠ [] ∧ withinD wordD l = ((anyS wordD [125] l').go fun b l3 => .ok (ys ++ b, l3)) ∧ Kp (Own1 R) w wr) (fun _ wr => T.length - (atD wr R).toNat)
  case atStart => exact ⟨_, [x2], l2, rfl, R2, by simp; omega, S2, n2, HQ.out, K3⟩
  case round =>
    obtain ⟨lv, ys, l', rfl, hRow, hlen, hS, hl', he, hK⟩ := hrel
    have HE : Hid (withinD wordD l = ((anyS wordD [125] l').go fun b l3 => .ok (ys ++ b, l3))) := he
    have ha := atD_eq hS
    have hle := hS.le
    have hpos : 0 < l'.length := List.length_pos_iff.2 hl'
    have hown := hRow.own rfl
    clear he S2 R2 K3 HQ
    cases hp : isP [125] l' with
    | true =>
      go_wp2_with (first
        | (go_at_call 34; (with_reducible refine (dtake_yes [125] hS hp).mono ?_); rintro e w5 ⟨rfl, h5, k5⟩)
        | fail)
      go_ret
      refine Or.inr ⟨ys, l'.tail, _, ?_, rfl, ⟨?_, by omega⟩, h5, hS.next (by decide) hp, hK.trans k5⟩
      · rw [HE.out, anyS_eq wordD_eats, if_pos hp]
        simp [go_ok]
      · exact hRow.blk fun q cur hq hb => rowOld hb k5 (fun e => by have e' : q = R := e; omega)
    | false =>
      have hp' : ¬ isP [125] l' = true := by rw [hp]; simp
      go_wp2_with (first
        | (at_builtin; refine wpList_append_own _ rfl (.tmp 14) (.tmp 17) 41 rfl w.heap.size 9 ti _ 1 16 Tryz.underlying41 hti hy0 hy1 hy2 rfl (by decide) lv ys.length (ys.flatMap wrdC) rfl O6 ⟨w6.heap.size, 0, none⟩ 1 1 (wrdC x6) rfl rfl (World.news_of_block (heap_alloc_new w6 (.cells #[.string ⟨x6.toArray⟩] 9))) (by intro u hu; simp at hu; rcases hu with rfl <;> rfl) (by unfold maxLen; omega) (by omega) (Nat.le_trans K6.size (al1 w6 _).size) ?_; intro v8 w8 own8 gr8 _)
        | (go_at_call 56; (with_reducible refine (dword_any h5 hl').mono ?_); rintro e w6 (⟨p, hq6, rfl, k6⟩ | ⟨x6, l6, v6, hq6, rfl, rfl, h6, n6, k6⟩); (exact ⟨rfl, Or.inl ⟨p, by rw [HE.out, anyS_eq wordD_eats, if_neg hp', hq6, go_error, go_error], rfl, (hK.trans k5).trans k6⟩⟩); have K6 := (hK.trans k5).trans k6; have O6 := ((hRow.blk fun q cur hq hb => rowOld hb (k5.trans k6) (fun e => by have e' : q = R := e; omega)).own rfl).alloc (.cells #[.string ⟨x6.toArray⟩] 9))
        | (go_at_call 34; (with_reducible refine (dtake_no [125] hS hl' hp).mono ?_); rintro e w5 ⟨rfl, h5, k5⟩)
        | fail)
      have hx := wordD_eats _ _ _ hq6
      have hob : ∀ k, lv.ownBlock = some k → w.heap.size ≤ k := fun k e => (ownBlk O6 e).1
      have S8 := (h6.alloc (.cells #[.string ⟨x6.toArray⟩] 9)).grew gr8 (fun e => by have := hob _ e; omega) (fun e => by have := hob _ e; omega)
      have h7 := atD_eq S8
      have h8 := S8.le
      refine ⟨⟨v8, ys ++ [x6], l6, rfl, RowO.pushL own8 rfl (by simp), by simp; omega, S8, n6, ?_, (K6.alloc _).grew gr8 hob⟩, ?_⟩
      · rw [HE.out, anyS_eq wordD_eats, if_neg hp', hq6, go_ok, go_moreD]
      · rw [h7, ha]
        simp only [Int.toNat_natCast]
        omega
end
end Go.Proofs.YtlabcadpkdgjnaaGreatDoor
namespace Go.Proofs.YtlabcadpkdgjnaaGreatDoor
open Go Go.RowKit Go.Shelf
abbrev obC (p : Ob × Value) : List Value := nmdC (p.1.n, p.2)
abbrev enC (p : En × Value) : List Value := nmdC (p.1.n, p.2)
/-- Objects, enums: rows of a call's own. -/
def ObR (w : World) (B : Nat) (v : Value) (l : List Ob) : Prop := ∃ lp : List (Ob × Value), lp.map (·.1) = l ∧ RowO w B 58 2 obC v lp ∧ ∀ p ∈ lp, RowO w B 63 5 fldC p.2 p.1.fs ∧ p.1.fs.length ≤ 2049
def EnR (w : World) (B : Nat) (v : Value) (l : List En) : Prop := ∃ lp : List (En × Value), lp.map (·.1) = l ∧ RowO w B 66 2 enC v lp ∧ ∀ p ∈ lp, RowO w B 9 1 wrdC p.2 p.1.ws ∧ p.1.ws.length ≤ 2049
theorem ObR.blk {w w' : World} {B : Nat} {v : Value} {l : List Ob} (h : ObR w B v l) (hb : ∀ g o, B ≤ g → w.heap[g]? = some o → w'.heap[g]? = some o) : ObR w' B v l := by
  obtain ⟨lp, h1, h2, h3⟩ := h
  exact ⟨lp, h1, h2.blk fun _ _ q => hb _ _ q, fun p hp => ⟨(h3 p hp).1.blk fun _ _ q => hb _ _ q, (h3 p hp).2⟩⟩
theorem EnR.blk {w w' : World} {B : Nat} {v : Value} {l : List En} (h : EnR w B v l) (hb : ∀ g o, B ≤ g → w.heap[g]? = some o → w'.heap[g]? = some o) : EnR w' B v l := by
  obtain ⟨lp, h1, h2, h3⟩ := h
  exact ⟨lp, h1, h2.blk fun _ _ q => hb _ _ q, fun p hp => ⟨(h3 p hp).1.blk fun _ _ q => hb _ _ q, (h3 p hp).2⟩⟩
theorem kp_blk {S : Nat → Prop} {w w' : World} {B : Nat} (k : Kp S w w') (hS : ∀ q, S q → q < B) : ∀ g o, B ≤ g → w.heap[g]? = some o → w'.heap[g]? = some o := fun g _ hB hg => (k.block g (lt_of_block hg) (fun e => by have := hS g e; omega)).trans hg
theorem ObR.gt {w w' : World} {B B' E : Nat} {v : Value} {l : List Ob} (h : ObR w B v l) (g : Gt B' E w w') (h1 : 58 ≠ E) (h2 : 63 ≠ E) : ObR w' B v l := by
  obtain ⟨lp, q1, q2, q3⟩ := h
  exact ⟨lp, q1, q2.gt g h1, fun p hp => ⟨(q3 p hp).1.gt g h2, (q3 p hp).2⟩⟩
theorem EnR.gt {w w' : World} {B B' E : Nat} {v : Value} {l : List En} (h : EnR w B v l) (g : Gt B' E w w') (h1 : 66 ≠ E) (h2 : 9 ≠ E) : EnR w' B v l := by
  obtain ⟨lp, q1, q2, q3⟩ := h
  exact ⟨lp, q1, q2.gt g h1, fun p hp => ⟨(q3 p hp).1.gt g h2, (q3 p hp).2⟩⟩
theorem ObR.slc {w : World} {B : Nat} {v : Value} {l : List Ob} (h : ObR w B v l) : ∃ p n m, v = .slice p n m := by
  obtain ⟨lp, _, q, _⟩ := h
  exact row_slc q
theorem EnR.slc {w : World} {B : Nat} {v : Value} {l : List En} (h : EnR w B v l) : ∃ p n m, v = .slice p n m := by
  obtain ⟨lp, _, q, _⟩ := h
  exact row_slc q
/-- One object more. -/
theorem ObR.push {w w' : World} {B n : Nat} {v' fv : Value} {l : List Ob} {lp : List (Ob × Value)} {o : Ob} (h1 : lp.map (·.1) = l) (F : ∀ p ∈ lp, RowO w B 63 5 fldC p.2 p.1.fs ∧ p.1.fs.length ≤ 2049) (hf : RowO w B 63 5 fldC fv o.fs) (hl : o.fs.length ≤ 2049) (G : Gt B 58 w w') (own : w'.ownsRow B 58 2 v' n (lp.flatMap obC ++ [.string ⟨o.n.toArray⟩, fv])) (hn : n = lp.length + 1) : ObR w' B v' (l ++ [o]) := by
  refine ⟨lp ++ [(o, fv)], by rw [List.map_append, h1]; rfl, RowO.pushL own hn (by simp), fun p hp => ?_⟩
  rcases List.mem_append.1 hp with hp | hp
  · exact ⟨(F p hp).1.gt G (by decide), (F p hp).2⟩
  · rw [List.mem_singleton] at hp
    subst hp
    exact ⟨hf.gt G (by decide), hl⟩
theorem EnR.push {w w' : World} {B n : Nat} {v' fv : Value} {l : List En} {lp : List (En × Value)} {o : En} (h1 : lp.map (·.1) = l) (F : ∀ p ∈ lp, RowO w B 9 1 wrdC p.2 p.1.ws ∧ p.1.ws.length ≤ 2049) (hf : RowO w B 9 1 wrdC fv o.ws) (hl : o.ws.length ≤ 2049) (G : Gt B 66 w w') (own : w'.ownsRow B 66 2 v' n (lp.flatMap enC ++ [.string ⟨o.n.toArray⟩, fv])) (hn : n = lp.length + 1) : EnR w' B v' (l ++ [o]) := by
  refine ⟨lp ++ [(o, fv)], by rw [List.map_append, h1]; rfl, RowO.pushL own hn (by simp), fun p hp => ?_⟩
  rcases List.mem_append.1 hp with hp | hp
  · exact ⟨(F p hp).1.gt G (by decide), (F p hp).2⟩
  · rw [List.mem_singleton] at hp
    subst hp
    exact ⟨hf.gt G (by decide), hl⟩
/-- A schema as it grows. -/
structure SchR (w : World) (B Sb : Nat) (ov ev : Value) (s : Sch) : Prop where
  row : w.heap[Sb]? = some (.cells #[ov, ev] 25)
  os : ObR w B ov s.os
  es : EnR w B ev s.es
abbrev RSB (R Sb B : Nat) : Nat → Prop := fun k => k = R ∨ k = Sb ∨ B ≤ k
theorem SchR.kp {S : Nat → Prop} {w w' : World} {B Sb : Nat} {ov ev : Value} {s : Sch} (h : SchR w B Sb ov ev s) (k : Kp S w w') (hS : ∀ q, S q → q < B) (hb : ¬ S Sb) : SchR w' B Sb ov ev s := ⟨rowOld h.row k hb, h.os.blk (kp_blk k hS), h.es.blk (kp_blk k hS)⟩
end Go.Proofs.YtlabcadpkdgjnaaGreatDoor
namespace Go.Proofs.YtlabcadpkdgjnaaGreatDoor
open Go Go.RowKit Go.Shelf
attribute [local go_sem ↓] Go.wp_at_zero Go.wp_at_succ
/-- What one definition comes to. -/
def DefP (R g cap B Sb : Nat) (T : List Tok) (w : World) (xs : List (Ob ⊕ En)) (l : List Tok) (e : Ending) (w' : World) : Prop :=
  (∃ p, defineD l = .error p ∧ e = DiesD p ∧ Kp (RSB R Sb B) w w') ∨ (∃ x m ov' ev', defineD l = .ok (x, m) ∧ e = .returned (.tuple #[]) ∧ SchR w' B Sb ov' ev' (schOf (xs ++ [x])) ∧ Sd R g cap T w' m ∧ m ≠ [] ∧ Kp (RSB R Sb B) w w')
theorem Kp.rsb {R Sb B : Nat} {w w' : World} (k : Kp (Own1 R) w w') : Kp (RSB R Sb B) w w' := k.mono fun _ _ e => Or.inl e
theorem gt_kp {B E : Nat} {w w' : World} (g : Gt B E w w') (hB : B ≤ w.heap.size) : Kp (fun k => B ≤ k) w w' := ⟨g.os, g.tape, g.output, g.size, fun q _ hS => (g.below hB).block q (by omega)⟩
theorem Tryz.makeFnD : ∀ (fn : Fn) (first cap : Array Value) (w : World), (Instr.makeFunc fn first cap).run Tryz.prog w = .ok (.func fn first cap) w := fun _ _ _ _ => rfl
section
variable {R g cap B Sb : Nat} {T : List Tok} {w w' : World} {l : List Tok} {xs : List (Ob ⊕ En)} {ov ev : Value}
theorem sch_endT {w3 w4 : World} {X : Obj} {lp : List (Ob × Value)} {n : Bs} {fs : List Fld} {fv v4 : Value} {k : Nat} (hlp : lp.map (·.1) = obsOf xs) (F : ∀ p ∈ lp, RowO w3 B 63 5 fldC p.2 p.1.fs ∧ p.1.fs.length ≤ 2049) (hO : w3.ownsRow B 58 2 ov lp.length (lp.flatMap obC)) (row : w3.heap[Sb]? = some (.cells #[ov, ev] 25)) (ot : EnR w3 B ev (ensOf xs))
    (hf : RowO w3 B 63 5 fldC fv fs) (hfl : fs.length ≤ 2049) (gr : (w3.alloc X).grownBy w4 ov.ownBlock) (hk : k = lp.length + 1) (own : w4.ownsRow B 58 2 v4 k (lp.flatMap obC ++ [.string ⟨n.toArray⟩, fv])) (hSb : Sb < B) (hB : B ≤ w3.heap.size) :
    SchR (w4.setCell ⟨Sb, 0, none⟩ v4) B Sb v4 ev (schOf (xs ++ [.inl ⟨n, fs⟩])) ∧ Kp (fun k => B ≤ k) w3 w4 ∧ w4.heap[Sb]? = some (.cells #[ov, ev] 25) := by
  have ga : Gt B 58 w3 (w3.alloc X) := gt_of (al1 w3 X)
  have gg : Gt B 58 w3 w4 := ga.trans (gt_grown (hO.alloc X) gr)
  have kp := gt_kp gg hB
  have row4 := rowOld row kp (fun e => by have e' : B ≤ Sb := e; omega)
  have ks : Kp (Own1 Sb) w4 (w4.setCell ⟨Sb, 0, none⟩ v4) := Kp.own Sb 0 v4
  have bk := kp_blk (B := B) ks (fun q e => by have e' : q = Sb := e; omega)
  have P := (ObR.push (o := ⟨n, fs⟩) hlp F hf hfl gg own hk).blk bk
  have O := (ot.gt gg (by decide) (by decide)).blk bk
  refine ⟨⟨heap_setCell_same w4 Sb 0 _ _ _ row4, ?_, ?_⟩, kp, row4⟩
  · show ObR _ B v4 (obsOf (xs ++ [.inl ⟨n, fs⟩]))
    rw [obsOf_app]
    exact P
  · show EnR _ B ev (ensOf (xs ++ [.inl ⟨n, fs⟩]))
    rw [ensOf_app, show ensOf [Sum.inl (⟨n, fs⟩ : Ob)] = [] from rfl, List.append_nil]
    exact O
set_option maxRecDepth 100000 in
set_option maxHeartbeats 8000000 in
theorem ddefT (h : Sd R g cap T w l) (hs : SchR w B Sb ov ev (schOf xs)) (hR : R < B) (hg : g < B) (hSb : Sb < B) (hB : B ≤ w.heap.size) (hRS : Sb ≠ R) (hgS : Sb ≠ g) (hn : xs.length ≤ 2049) (hp : isW typeB l = true) : Calls Tryz.prog 33 #[.pointer (some ⟨R, 0, none⟩), .pointer (some ⟨Sb, 0, none⟩)] w (DefP R g cap B Sb T w xs l) := by
  obtain ⟨ti, hti, hy0, hy1, hy2⟩ := info_parts Tryz.infoObj
  have TW := dtakeW_yes typeB h hp
  have n1 := h.nextW hp
  have HQ : Hid (defineD l = (nameD l.tail).go fun n l1 => (withinD fieldD l1).go fun fs l2 => .ok (.inl ⟨n, fs⟩, l2)) := by show _ = _; unfold defineD; rw [if_pos hp]
  have hmf := Tryz.makeFnD
  have hrow := hs.row
  obtain ⟨lp, hlp, hO, hF⟩ := hs.os
  have hlen : lp.length ≤ xs.length := by
    have e := congrArg List.length hlp
    rw [List.length_map] at e
    rw [e]
    exact List.length_filterMap_le _ _
  have hot : EnR w B ev (ensOf xs) := hs.es
  have hso : ∀ (w : World) (a : Addr) (m : Mode), (store a ov m).run Tryz.prog w = stored Tryz.prog w a ov m := fun w a m => run_store Tryz.prog w a _ m (by obtain ⟨_, _, _, e⟩ := hs.os.slc; rw [e]; rfl)
  have sk : ∀ {W : World}, Kp (Own1 R) w W → (W.heap[Sb]? = some (.cells #[ov, ev] 25) ∧ W.ownsRow B 58 2 ov lp.length (lp.flatMap obC) ∧ (∀ p ∈ lp, RowO W B 63 5 fldC p.2 p.1.fs ∧ p.1.fs.length ≤ 2049) ∧ EnR W B ev (ensOf xs)) := fun k => by
    have bk := kp_blk (B := B) k (fun q e => by have e' : q = R := e; omega)
    exact ⟨rowOld hrow k (fun e => hRS e), (hO.blk fun _ _ q => bk _ _ q).own rfl, fun p hp => ⟨(hF p hp).1.blk fun _ _ q => bk _ _ q, (hF p hp).2⟩, hot.blk bk⟩
  have HL : Hid (lp.map (·.1) = obsOf xs) := hlp
  clear hs hO hF hlp hot
  go_enter Tryz.func33, Tryz.ntmps33
  go_wp2_with (first
    | (go_at_call 51; (with_reducible refine TW.mono ?_); rintro e w1 ⟨rfl, h1, k1⟩)
    | fail)
  have XA := dname_any h1.drew n1
  have K1 : Hid (Kp (Own1 R) w w1) := k1
  obtain ⟨c0', c1', cf'⟩ := row2 (sk k1).1
  clear k1 h1
  go_region_law (first
    | (refine step_append_lies _ (by rfl) (.tmp 13) (.tmp 21) 22 (by rfl) B 58 ti _ 2 40 Tryz.underlying22 hti hy0 hy1 hy2 rfl (by decide) ov lp.length (lp.flatMap obC) (by rfl) ((sk K3.out).2.1.alloc _) ⟨w3.heap.size, 0, none⟩ 1 1 [.string ⟨x2.toArray⟩, .slice pf nf mf] (by rfl) rfl (World.news_of_block (heap_alloc_new _ _)) (by intro u hu; simp at hu; rcases hu with rfl | rfl <;> rfl) (by decide) (by unfold maxLen; omega) (by omega) (by simp; omega) (w3.heap.size + 1) (by simp) ?_; intro q cp w4 own4 hgr hor hlt4; have OW : Hid _ := own4; have GR : Hid _ := hgr; clear own4 hgr hor; obtain ⟨SR, KB, R4⟩ := sch_endT (fs := fs) HL.out (sk K3.out).2.2.1 (sk K3.out).2.1 (sk K3.out).1 (sk K3.out).2.2.2 RW.out hfl GR.out rfl OW.out hSb (by omega); obtain ⟨e0, e1, ef⟩ := row2 R4)
    | (go_simp; go_wp2_with (first
        | (go_at_call 53; (with_reducible refine (dwithinF h2 n2).mono ?_); rintro e w3 (⟨p, hq3, rfl, k3⟩ | ⟨fs, l3, v3, hq3, rfl, ⟨hrw, hfl⟩, h3, n3, k3⟩); (exact ⟨rfl, Or.inl ⟨p, by rw [HQ.out, hq2, go_ok, hq3, go_error], rfl, (K2.out.trans k3).rsb⟩⟩); obtain ⟨pf, nf, mf, rfl⟩ := row_slc hrw; have K3 : Hid (Kp (Own1 R) w w3) := K2.out.trans k3; have z2 : w.heap.size ≤ w2.heap.size := K2.out.size; have z3 : w2.heap.size ≤ w3.heap.size := k3.size; have RW : Hid (RowO w3 B 63 5 fldC (.slice pf nf mf) fs) := hrw.base (by omega); have v3 := (row2 (sk K3.out).1).1; have aV := fun o => cell_on (al1 w3 o) v3; have H3 : Hid (Sd R g cap T w3 l3) := h3; clear hrw k3 h3)
        | (go_at_call 52; (with_reducible refine XA.mono ?_); rintro e w2 (⟨p, hq2, rfl, k2⟩ | ⟨x2, l2, v2, hq2, rfl, rfl, h2, n2, k2⟩); (exact ⟨rfl, Or.inl ⟨p, by rw [HQ.out, hq2, go_error], rfl, (K1.out.trans (((Kp.refl (Own1 R) w1).drew).trans k2)).rsb⟩⟩); have K2 : Hid (Kp (Own1 R) w w2) := K1.out.trans (((Kp.refl (Own1 R) w1).drew).trans k2); have v2 := (row2 (sk K2.out).1).1; clear k2)
        | fail))
    | fail)
  all_goals go_end0
  all_goals
    have S4 : Sd R g cap T w4 l3 := H3.out.kp KB (fun e => by have e' : B ≤ R := e; omega) (fun e => by have e' : B ≤ g := e; omega)
    exact Or.inr ⟨.inl ⟨x2, fs⟩, l3, _, _, by rw [HQ.out, hq2, go_ok, hq3, go_ok], rfl, SR, S4.set _ _ _ hRS hgS, n3, ((K3.out.rsb.trans (KB.mono fun _ _ e => Or.inr (Or.inr e))).set _ _ _ (Or.inr (Or.inr (Or.inl rfl))))⟩
theorem sch_endE {w3 w4 : World} {X : Obj} {lp : List (En × Value)} {n : Bs} {fs : List Bs} {fv v4 : Value} {k : Nat} (hlp : lp.map (·.1) = ensOf xs) (F : ∀ p ∈ lp, RowO w3 B 9 1 wrdC p.2 p.1.ws ∧ p.1.ws.length ≤ 2049) (hO : w3.ownsRow B 66 2 ev lp.length (lp.flatMap enC)) (row : w3.heap[Sb]? = some (.cells #[ov, ev] 25)) (ot : ObR w3 B ov (obsOf xs))
    (hf : RowO w3 B 9 1 wrdC fv fs) (hfl : fs.length ≤ 2049) (gr : (w3.alloc X).grownBy w4 ev.ownBlock) (hk : k = lp.length + 1) (own : w4.ownsRow B 66 2 v4 k (lp.flatMap enC ++ [.string ⟨n.toArray⟩, fv])) (hSb : Sb < B) (hB : B ≤ w3.heap.size) :
    SchR (w4.setCell ⟨Sb, 1, none⟩ v4) B Sb ov v4 (schOf (xs ++ [.inr ⟨n, fs⟩])) ∧ Kp (fun k => B ≤ k) w3 w4 ∧ w4.heap[Sb]? = some (.cells #[ov, ev] 25) := by
  have ga : Gt B 66 w3 (w3.alloc X) := gt_of (al1 w3 X)
  have gg : Gt B 66 w3 w4 := ga.trans (gt_grown (hO.alloc X) gr)
  have kp := gt_kp gg hB
  have row4 := rowOld row kp (fun e => by have e' : B ≤ Sb := e; omega)
  have ks : Kp (Own1 Sb) w4 (w4.setCell ⟨Sb, 1, none⟩ v4) := Kp.own Sb 1 v4
  have bk := kp_blk (B := B) ks (fun q e => by have e' : q = Sb := e; omega)
  have P := (EnR.push (o := ⟨n, fs⟩) hlp F hf hfl gg own hk).blk bk
  have O := (ot.gt gg (by decide) (by decide)).blk bk
  refine ⟨⟨heap_setCell_same w4 Sb 1 _ _ _ row4, ?_, ?_⟩, kp, row4⟩
  · show ObR _ B ov (obsOf (xs ++ [.inr ⟨n, fs⟩]))
    rw [obsOf_app, show obsOf [Sum.inr (⟨n, fs⟩ : En)] = [] from rfl, List.append_nil]
    exact O
  · show EnR _ B v4 (ensOf (xs ++ [.inr ⟨n, fs⟩]))
    rw [ensOf_app]
    exact P
set_option maxRecDepth 100000 in
set_option maxHeartbeats 8000000 in
theorem ddefE (h : Sd R g cap T w l) (hs : SchR w B Sb ov ev (schOf xs)) (hR : R < B) (hg : g < B) (hSb : Sb < B) (hB : B ≤ w.heap.size) (hRS : Sb ≠ R) (hgS : Sb ≠ g) (hn : xs.length ≤ 2049) (hy : isW typeB l = false) (hp : isW enumB l = true) : Calls Tryz.prog 33 #[.pointer (some ⟨R, 0, none⟩), .pointer (some ⟨Sb, 0, none⟩)] w (DefP R g cap B Sb T w xs l) := by
  obtain ⟨ti, hti, hy0, hy1, hy2⟩ := info_parts Tryz.infoEn
  have TN := dtakeW_no typeB h (fun e => by rw [e] at hp; cases hp) hy
  have n1 := h.nextW hp
  have HQ : Hid (defineD l = (nameD l.tail).go fun n l1 => (withinD wordD l1).go fun fs l2 => .ok (.inr ⟨n, fs⟩, l2)) := by show _ = _; unfold defineD; rw [if_neg (by rw [hy]; simp), if_pos hp]
  have hmf := Tryz.makeFnD
  have hrow := hs.row
  obtain ⟨lp, hlp, hO, hF⟩ := hs.es
  have hlen : lp.length ≤ xs.length := by
    have e := congrArg List.length hlp
    rw [List.length_map] at e
    rw [e]
    exact List.length_filterMap_le _ _
  have hot : ObR w B ov (obsOf xs) := hs.os
  have hso : ∀ (w : World) (a : Addr) (m : Mode), (store a ov m).run Tryz.prog w = stored Tryz.prog w a ov m := fun w a m => run_store Tryz.prog w a _ m (by obtain ⟨_, _, _, e⟩ := hs.os.slc; rw [e]; rfl)
  have sk : ∀ {W : World}, Kp (Own1 R) w W → (W.heap[Sb]? = some (.cells #[ov, ev] 25) ∧ W.ownsRow B 66 2 ev lp.length (lp.flatMap enC) ∧ (∀ p ∈ lp, RowO W B 9 1 wrdC p.2 p.1.ws ∧ p.1.ws.length ≤ 2049) ∧ ObR W B ov (obsOf xs)) := fun k => by
    have bk := kp_blk (B := B) k (fun q e => by have e' : q = R := e; omega)
    exact ⟨rowOld hrow k (fun e => hRS e), (hO.blk fun _ _ q => bk _ _ q).own rfl, fun p hp => ⟨(hF p hp).1.blk fun _ _ q => bk _ _ q, (hF p hp).2⟩, hot.blk bk⟩
  have HL : Hid (lp.map (·.1) = ensOf xs) := hlp
  clear hs hO hF hlp hot
  go_enter Tryz.func33, Tryz.ntmps33
  go_wp2_with (first
    | (go_at_call 51; (with_reducible refine (dtakeW_yes enumB h0 hp).mono ?_); rintro e w1 ⟨rfl, h1, k0'⟩; have k1 := k0.trans k0')
    | (go_at_call 51; (with_reducible refine TN.mono ?_); rintro e w0 ⟨rfl, h0, k0⟩)
    | fail)
  have XA := dname_any h1.drew n1
  have K1 : Hid (Kp (Own1 R) w w1) := k1
  obtain ⟨c0', c1', cf'⟩ := row2 (sk k1).1
  clear k1 h1
  go_region_law (first
    | (refine step_append_lies _ (by rfl) (.tmp 32) (.tmp 40) 23 (by rfl) B 66 ti _ 2 40 Tryz.underlying23 hti hy0 hy1 hy2 rfl (by decide) ev lp.length (lp.flatMap enC) (by rfl) ((sk K3.out).2.1.alloc _) ⟨w3.heap.size, 0, none⟩ 1 1 [.string ⟨x2.toArray⟩, .slice pf nf mf] (by rfl) rfl (World.news_of_block (heap_alloc_new _ _)) (by intro u hu; simp at hu; rcases hu with rfl | rfl <;> rfl) (by decide) (by unfold maxLen; omega) (by omega) (by simp; omega) (w3.heap.size + 1) (by simp) ?_; intro q cp w4 own4 hgr hor hlt4; have OW : Hid _ := own4; have GR : Hid _ := hgr; clear own4 hgr hor; obtain ⟨SR, KB, R4⟩ := sch_endE (fs := fs) HL.out (sk K3.out).2.2.1 (sk K3.out).2.1 (sk K3.out).1 (sk K3.out).2.2.2 RW.out hfl GR.out rfl OW.out hSb (by omega); obtain ⟨e0, e1, ef⟩ := row2 R4)
    | (go_simp; go_wp2_with (first
        | (go_at_call 55; (with_reducible refine (dwithinS h2 n2).mono ?_); rintro e w3 (⟨p, hq3, rfl, k3⟩ | ⟨fs, l3, v3, hq3, rfl, ⟨hrw, hfl⟩, h3, n3, k3⟩); (exact ⟨rfl, Or.inl ⟨p, by rw [HQ.out, hq2, go_ok, hq3, go_error], rfl, (K2.out.trans k3).rsb⟩⟩); obtain ⟨pf, nf, mf, rfl⟩ := row_slc hrw; have K3 : Hid (Kp (Own1 R) w w3) := K2.out.trans k3; have z2 : w.heap.size ≤ w2.heap.size := K2.out.size; have z3 : w2.heap.size ≤ w3.heap.size := k3.size; have RW : Hid (RowO w3 B 9 1 wrdC (.slice pf nf mf) fs) := hrw.base (by omega); have v3 := (row2 (sk K3.out).1).2.1; have aV := fun o => cell_on (al1 w3 o) v3; have H3 : Hid (Sd R g cap T w3 l3) := h3; clear hrw k3 h3)
        | (go_at_call 52; (with_reducible refine XA.mono ?_); rintro e w2 (⟨p, hq2, rfl, k2⟩ | ⟨x2, l2, v2, hq2, rfl, rfl, h2, n2, k2⟩); (exact ⟨rfl, Or.inl ⟨p, by rw [HQ.out, hq2, go_error], rfl, (K1.out.trans (((Kp.refl (Own1 R) w1).drew).trans k2)).rsb⟩⟩); have K2 : Hid (Kp (Own1 R) w w2) := K1.out.trans (((Kp.refl (Own1 R) w1).drew).trans k2); have v2 := (row2 (sk K2.out).1).2.1; clear k2)
        | fail))
    | fail)
  all_goals go_end0
  all_goals
    have S4 : Sd R g cap T w4 l3 := H3.out.kp KB (fun e => by have e' : B ≤ R := e; omega) (fun e => by have e' : B ≤ g := e; omega)
    exact Or.inr ⟨.inr ⟨x2, fs⟩, l3, _, _, by rw [HQ.out, hq2, go_ok, hq3, go_ok], rfl, SR, S4.set _ _ _ hRS hgS, n3, ((K3.out.rsb.trans (KB.mono fun _ _ e => Or.inr (Or.inr e))).set _ _ _ (Or.inr (Or.inr (Or.inl rfl))))⟩
theorem ddefN (h : Sd R g cap T w l) (hl : l ≠ []) (hy : isW typeB l = false) (hp : isW enumB l = false) : Calls Tryz.prog 33 #[.pointer (some ⟨R, 0, none⟩), .pointer (some ⟨Sb, 0, none⟩)] w (DefP R g cap B Sb T w xs l) := by
  have TN := dtakeW_no typeB h hl hy
  clear h
  go_enter Tryz.func33, Tryz.ntmps33
  go_wp2_with (first
    | (go_at_call 57; (with_reducible refine (dgiveUp_any h1 hl).mono ?_); rintro e w4 ⟨rfl, k4⟩; exact ⟨rfl, Or.inl ⟨_, by unfold defineD; rw [if_neg (by rw [hy]; simp), if_neg (by rw [hp]; simp)], rfl, ((k0.trans k1).trans k4.any).rsb⟩⟩)
    | (go_at_call 51; (with_reducible refine (dtakeW_no enumB h0 hl hp).mono ?_); rintro e w1 ⟨rfl, h1, k1⟩)
    | (go_at_call 51; (with_reducible refine TN.mono ?_); rintro e w0 ⟨rfl, h0, k0⟩)
    | fail)
theorem ddefine_any (h : Sd R g cap T w l) (hl : l ≠ []) (hs : SchR w B Sb ov ev (schOf xs)) (hR : R < B) (hg : g < B) (hSb : Sb < B) (hB : B ≤ w.heap.size) (hRS : Sb ≠ R) (hgS : Sb ≠ g) (hn : xs.length ≤ 2049) : Calls Tryz.prog 33 #[.pointer (some ⟨R, 0, none⟩), .pointer (some ⟨Sb, 0, none⟩)] w (DefP R g cap B Sb T w xs l) := by
  cases hy : isW typeB l with
  | true => exact ddefT h hs hR hg hSb hB hRS hgS hn hy
  | false =>
    cases hp : isW enumB l with
    | true => exact ddefE h hs hR hg hSb hB hRS hgS hn hy hp
    | false => exact ddefN h hl hy hp
end
end Go.Proofs.YtlabcadpkdgjnaaGreatDoor
