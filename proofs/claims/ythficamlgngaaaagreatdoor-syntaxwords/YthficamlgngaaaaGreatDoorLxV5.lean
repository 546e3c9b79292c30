/- What a raw text says, by the document: the plain facts. -/
import Derived.Test.YthficamlgngaaaaGreatDoorLxV3
namespace Go.Proofs.YthficamlgngaaaaGreatDoor
open Go Go.RowKit
theorem Tryz.infoStrX : (Tryz.prog.info? 9).map (fun i => (i.zero, i.size, i.bytes)) = some (some (.string ⟨#[]⟩), 1, 16) := by kernel_rfl
abbrev strCs (L : List Bs) : List Value := L.map fun x => Value.string ⟨x.toArray⟩
abbrev StrOwn (w : World) (B : Nat) (v : Value) (L : List Bs) : Prop := w.ownsRow B 9 1 v L.length (strCs L)
/-- Between two bytes: the lines that have ended, where the line at hand begins, what is left. -/
structure LnS (s : Bs) (w wr : World) (o : Value) (lb l : Bs) (L : List Bs) : Prop where
  lbs : lb <:+ s
  suf : l <:+ lb
  eq : L ++ linesC (ahead lb l) l = linesS s
  len : L.length + l.length ≤ s.length
  own : StrOwn wr w.heap.size o L
  bel : Below w.heap.size w wr
theorem ahead_self (l : Bs) : ahead l l = [] := by unfold ahead; simp
theorem ahead_nil (l : Bs) : ahead l [] = l := by unfold ahead; simp
theorem ahead_snoc {lb r : Bs} {c : UInt8} (h : (c :: r) <:+ lb) : ahead lb r = ahead lb (c :: r) ++ [c] := by
  obtain ⟨p, rfl⟩ := h
  unfold ahead
  have e1 : (p ++ c :: r).length - r.length = p.length + 1 := by simp; omega
  have e2 : (p ++ c :: r).length - (c :: r).length = p.length := by simp
  rw [e1, e2, List.take_length_add_append]
  simp
theorem LnS.step {s : Bs} {w wr : World} {o : Value} {lb r : Bs} {c : UInt8} {L : List Bs} (h : LnS s w wr o lb (c :: r) L) (h1 : c ≠ 10) (h2 : c ≠ 13) : LnS s w wr o lb r L := by
  refine ⟨h.lbs, (List.suffix_cons c r).trans h.suf, ?_, ?_, h.own, h.bel⟩
  · rw [← h.eq, linesC_out h1 h2, ahead_snoc h.suf]
  · have := h.len
    simp at this
    omega
theorem own_gt {w : World} {B e sz n : Nat} {v : Value} {xs : List Value} (h : w.ownsRow B e sz v n xs) : ∀ k, v.ownBlock = some k → B ≤ k := own_ge h
theorem LnS.line {s : Bs} {w wr w2 : World} {o v' : Value} {lb l r : Bs} {L : List Bs} {X : Obj} (h : LnS s w wr o lb l L) (hr : r <:+ l) (hlt : r.length < l.length) (he : linesC (ahead lb l) l = ahead lb l :: linesC [] r)
    (hown : w2.ownsRow w.heap.size 9 1 v' (L.length + 1) (strCs L ++ [.string ⟨(ahead lb l).toArray⟩])) (hg : (wr.alloc X).grownBy w2 o.ownBlock) : LnS s w w2 v' r r (L ++ [ahead lb l]) := by
  refine ⟨(hr.trans h.suf).trans h.lbs, List.suffix_refl _, ?_, ?_, ?_, (h.bel.alloc h.bel.size _).grown hg (by simp; have := h.bel.size; omega) (own_ge h.own)⟩
  · rw [ahead_self, ← h.eq, he, List.append_assoc]
    rfl
  · have := h.len
    rw [List.length_append, List.length_singleton]
    omega
  · unfold StrOwn strCs
    rw [List.length_append, List.map_append]
    exact hown

theorem own_no (w : World) : (w.alloc (.cells #[] 9)).ownsRow w.heap.size 9 1 (.slice (some ⟨w.heap.size, 0, none⟩) 0 0) 0 [] :=
  ⟨rfl, Or.inr ⟨w.heap.size, 0, _, rfl, Nat.le_refl _, heap_alloc_new _ _, Nat.le_refl _, by decide, rfl, rfl⟩⟩
set_option maxRecDepth 100000 in
set_option maxHeartbeats 4000000 in
theorem xlines_any (s : Bs) (hs : s.length ≤ 1048576) (w : World) : Calls Tryz.prog 101 #[.string ⟨s.toArray⟩] w fun e w' => ∃ v, e = .returned v ∧ StrOwn w' w.heap.size v (linesS s) ∧ Below w.heap.size w w' := by
  obtain ⟨i1, hi1, hy0, hy1, hy2⟩ := info_parts Tryz.infoStrX
  have hsz := size_of s
  have hsI : (s.length : Int) ≤ 1048576 := by omega
  have AT := fun k w => xat_any s (by omega) k w
  generalize hD : (ByteArray.mk s.toArray) = D at *
  go_enter Tryz.func101, Tryz.ntmps101
  go_wp2
  go_loopw [3, 4, 5] (fun o f v wr => ∃ lb l L, f = .int .i64 ((s.length - lb.length : Nat) : Int) ∧ v = .int .i64 ((s.length - l.length : Nat) : Int) ∧ LnS s w wr o lb l L) (fun _ _ v _ => s.length - (RowKit.intOf v).toNat)
  case atStart =>
    refine ⟨s, s, [], by simp, by simp, List.suffix_refl _, List.suffix_refl _, ?_, by simp, own_no w, (Below.refl _ _).alloc (Nat.le_refl _) _⟩
    rw [ahead_self]
    exact linesC_start s
  case round =>
    obtain ⟨lb, l, L, rfl, rfl, hQ⟩ := hrel
    have hor := hQ.own
    have hbel := hQ.bel
    have hz1 := hbel.size
    have hlen := hQ.len
    have hll : L.length ≤ 1048576 := by omega
    have hcut := cut_ahead hQ.lbs hQ.suf
    rw [hD] at hcut
    have hle := hQ.suf.length_le
    have hle2 := hQ.lbs.length_le
    have f1 : ((s.length - lb.length : Nat) : Int) ≤ ((s.length - l.length : Nat) : Int) := by omega
    have f2 : (0 : Int) ≤ ((s.length - lb.length : Nat) : Int) := by omega
    have f3 : ((s.length - l.length : Nat) : Int) ≤ (s.length : Int) := by omega
    have f4 : (((s.length - l.length : Nat) : Int)).toNat = s.length - l.length := by omega
    have f5 : (((s.length - lb.length : Nat) : Int)).toNat = s.length - lb.length := by omega
    cases l with
    | nil =>
      have HE : Hid (L ++ [ahead lb []] = linesS s) := by
        show _ = _
        rw [← hQ.eq, linesC_nil]
      simp only [List.length_nil, Nat.sub_zero] at hcut f1 f3 f4
      clear hQ hle hle2 hlen AT
      generalize s.length - lb.length = A at *
      generalize hT : (ahead lb []).toArray = T at *
      go_wp2_with (first
        | (at_builtin; refine wpList_append_own _ rfl _ _ 38 rfl w.heap.size 9 i1 (.string ⟨#[]⟩) 1 16 Tryz.underlying38 hi1 hy0 hy1 hy2 rfl (by decide) _ _ _ rfl (hor.alloc _) ⟨wr.heap.size, 0, none⟩ 1 1 [.string ⟨T⟩] rfl rfl ?c1 ?c2 ?c3 ?c4 ?c5 ?_)
        | fail)
      case c1 =>
        intro j u hj
        match j, hj with
        | 0, hj => simp at hj; subst hj; simp [Addr.add]
      case c2 => intro u hu; simp at hu; subst hu; rfl
      case c3 => unfold maxLen; first | omega | (simp; omega)
      case c4 => first | omega | (simp; omega)
      case c5 => first | omega | (simp; omega)
      intro v' w2 hown' hgrow' _
      have hown2 : StrOwn w2 w.heap.size v' (L ++ [ahead lb []]) := by
        unfold StrOwn strCs
        rw [List.length_append, List.map_append]
        subst hT
        exact hown'
      have hbr2 : Below w.heap.size w w2 := (hbel.alloc hz1 _).grown hgrow' (by simp; omega) (own_ge hor)
      rw [HE.out] at hown2
      clear hown' hgrow' hor HE
      go_wp2
      go_ret
      exact ⟨v', rfl, hown2, hbr2⟩
    | cons c r =>
      have g0 := at_suf0 (hQ.suf.trans hQ.lbs)
      have gX : ∀ hh, (((ByteArray.mk s.toArray)[s.length - (c :: r).length]'hh).toNat : Int) = (c.toNat : Int) := fun hh => by rw [g0 hh]
      rw [hD] at gX
      have b1 : ((s.length - (c :: r).length : Nat) : Int) < (s.length : Int) := by simp only [List.length_cons] at hle ⊢; omega
      have b2 : (0 : Int) ≤ ((s.length - (c :: r).length : Nat) : Int) := by omega
      have HA : Hid (s.length - (c :: r).length + (c :: r).length = s.length) := by show _ = _; omega
      have HN : Hid (((s.length - (c :: r).length : Nat) : Int) + 1 = ((s.length - r.length : Nat) : Int)) := by
        show _ = _
        simp only [List.length_cons] at hle ⊢; omega
      have HQ : Hid (LnS s w wr _ lb (c :: r) L) := hQ
      by_cases h10 : c = 10
      · subst h10
        have gX : ∀ hh, ((D[s.length - (10 :: r).length]'hh).toNat : Int) = 10 := gX
        clear hQ hle hle2 hlen AT g0
        generalize hgA : s.length - lb.length = A at *
        generalize hgB : s.length - (10 :: r).length = B at *
        clear hgB
        generalize hT : (ahead lb (10 :: r)).toArray = T at *
        go_wp2_with (first
          | (at_builtin; refine wpList_append_own _ rfl _ _ 38 rfl w.heap.size 9 i1 (.string ⟨#[]⟩) 1 16 Tryz.underlying38 hi1 hy0 hy1 hy2 rfl (by decide) _ _ _ rfl (hor.alloc _) ⟨wr.heap.size, 0, none⟩ 1 1 [.string ⟨T⟩] rfl rfl ?c1 ?c2 ?c3 ?c4 ?c5 ?_)
          | fail)
        case c1 =>
          intro j u hj
          match j, hj with
          | 0, hj => simp at hj; subst hj; simp [Addr.add]
        case c2 => intro u hu; simp at hu; subst hu; rfl
        case c3 => unfold maxLen; first | omega | (simp; omega)
        case c4 => first | omega | (simp; omega)
        case c5 => first | omega | (simp; omega)
        intro v' w2 hown' hgrow' _
        have hq2 : LnS s w w2 v' r r (L ++ [ahead lb (10 :: r)]) := by
          subst hT
          exact HQ.out.line (List.suffix_cons _ _) (by simp) (linesC_10 _ _) hown' hgrow'
        clear hown' hgrow' hor
        go_wp2
        refine ⟨⟨r, r, _, congrArg (Value.int .i64) HN.out, congrArg (Value.int .i64) HN.out, hq2⟩, ?_⟩
        have h3 := HA.out
        simp [RowKit.intOf]
        simp at h3
        omega
      · by_cases h13 : c = 13
        · subst h13
          have gX : ∀ hh, ((D[s.length - (13 :: r).length]'hh).toNat : Int) = 13 := gX
          have e1 : ((s.length - (13 :: r).length : Nat) : Int) + 1 = ((s.length - (13 :: r).length + 1 : Nat) : Int) := by omega
          have AT := AT (s.length - (13 :: r).length + 1)
          have hat : s.getD (s.length - (13 :: r).length + 1) 0 = r.getD 0 0 := by
            obtain ⟨p, hp⟩ := hQ.suf.trans hQ.lbs
            have e9 : s.length - (13 :: r).length + 1 = p.length + 1 := by rw [← hp]; simp
            rw [e9, ← hp]
            simp only [List.getD]
            rw [List.getElem?_append_right (by omega), show p.length + 1 - p.length = 1 by omega]
            rfl
          rw [hat] at AT
          have HM : Hid (((s.length - (13 :: r).length + 1 : Nat) : Int) = ((s.length - r.length : Nat) : Int)) := by
            show _ = _
            simp only [List.length_cons] at hle ⊢; omega
          have x1 : ((s.length - (13 :: r).length + 1 : Nat) : Int) ≤ 1048577 := by omega
          by_cases hr : ∃ r', r = 10 :: r'
          · obtain ⟨r', rfl⟩ := hr
            have AT : ∀ w, Calls Tryz.prog 66 #[.string D, .int .i64 ((s.length - (13 :: 10 :: r').length + 1 : Nat) : Int)] w fun e w' => e = .returned (.int .u8 10) ∧ w = w' := AT
            have HM2 : Hid (((s.length - (13 :: 10 :: r').length + 1 : Nat) : Int) + 1 = ((s.length - r'.length : Nat) : Int)) := by
              show _ = _
              simp only [List.length_cons] at hle ⊢; omega
            clear hQ hle hle2 hlen g0 hat
            generalize hgC : s.length - (13 :: 10 :: r').length + 1 = C at *
            clear hgC
            generalize hgA : s.length - lb.length = A at *
            generalize hgB : s.length - (13 :: 10 :: r').length = B at *
            clear hgB
            generalize hT : (ahead lb (13 :: 10 :: r')).toArray = T at *
            go_wp2_with (first
              | (at_builtin; refine wpList_append_own _ rfl _ _ 38 rfl w.heap.size 9 i1 (.string ⟨#[]⟩) 1 16 Tryz.underlying38 hi1 hy0 hy1 hy2 rfl (by decide) _ _ _ rfl (hor.alloc _) ⟨wr.heap.size, 0, none⟩ 1 1 [.string ⟨T⟩] rfl rfl ?c1 ?c2 ?c3 ?c4 ?c5 ?_)
              | fail)
            case c1 =>
              intro j u hj
              match j, hj with
              | 0, hj => simp at hj; subst hj; simp [Addr.add]
            case c2 => intro u hu; simp at hu; subst hu; rfl
            case c3 => unfold maxLen; first | omega | (simp; omega)
            case c4 => first | omega | (simp; omega)
            case c5 => first | omega | (simp; omega)
            intro v' w2 hown' hgrow' _
            have hq2 : LnS s w w2 v' r' r' (L ++ [ahead lb (13 :: 10 :: r')]) := by
              subst hT
              exact HQ.out.line ((List.suffix_cons _ _).trans (List.suffix_cons _ _)) (by simp; omega) (linesC_1310 _ _) hown' hgrow'
            clear hown' hgrow' hor
            go_wp2_with (go_at_call 66; refine (AT _).mono ?_; rintro e w7 ⟨rfl, rfl⟩)
            refine ⟨⟨r', r', _, congrArg (Value.int .i64) HM2.out, congrArg (Value.int .i64) HM2.out, hq2⟩, ?_⟩
            have h3 := HA.out
            simp [RowKit.intOf]
            simp at h3
            omega
          · have hr' : ∀ r', r ≠ 10 :: r' := fun r' e => hr ⟨r', e⟩
            have m1 : (((r.getD 0 0).toNat : Int) == 10) = false := by
              rw [beq_eq_false_iff_ne]
              intro e
              cases r with
              | nil => cases e
              | cons d r =>
                have : d.toNat = 10 := by
                  have e' : (d.toNat : Int) = 10 := e
                  omega
                exact hr' r (by rw [show d = 10 from u8_eq this])
            have HL : Hid (linesC (ahead lb (13 :: r)) (13 :: r) = ahead lb (13 :: r) :: linesC [] r) := linesC_13 hr'
            clear hQ hle hle2 hlen g0 hat hr hr'
            generalize hgC : s.length - (13 :: r).length + 1 = C at *
            clear hgC
            generalize hgA : s.length - lb.length = A at *
            generalize hgB : s.length - (13 :: r).length = B at *
            clear hgB
            generalize ((r.getD 0 0).toNat : Int) = Y at *
            generalize hT : (ahead lb (13 :: r)).toArray = T at *
            go_wp2_with (first
              | (at_builtin; refine wpList_append_own _ rfl _ _ 38 rfl w.heap.size 9 i1 (.string ⟨#[]⟩) 1 16 Tryz.underlying38 hi1 hy0 hy1 hy2 rfl (by decide) _ _ _ rfl (hor.alloc _) ⟨wr.heap.size, 0, none⟩ 1 1 [.string ⟨T⟩] rfl rfl ?c1 ?c2 ?c3 ?c4 ?c5 ?_)
              | fail)
            case c1 =>
              intro j u hj
              match j, hj with
              | 0, hj => simp at hj; subst hj; simp [Addr.add]
            case c2 => intro u hu; simp at hu; subst hu; rfl
            case c3 => unfold maxLen; first | omega | (simp; omega)
            case c4 => first | omega | (simp; omega)
            case c5 => first | omega | (simp; omega)
            intro v' w2 hown' hgrow' _
            have hq2 : LnS s w w2 v' r r (L ++ [ahead lb (13 :: r)]) := by
              subst hT
              exact HQ.out.line (List.suffix_cons _ _) (by simp) HL.out hown' hgrow'
            clear hown' hgrow' hor
            go_wp2_with (go_at_call 66; refine (AT _).mono ?_; rintro e w7 ⟨rfl, rfl⟩)
            refine ⟨⟨r, r, _, congrArg (Value.int .i64) HM.out, congrArg (Value.int .i64) HM.out, hq2⟩, ?_⟩
            have h3 := HA.out
            simp [RowKit.intOf]
            simp at h3
            omega
        · have hq2 := hQ.step h10 h13
          have n1 : ¬ c.toNat = 10 := fun e => h10 (u8_eq e)
          have n2 : ¬ c.toNat = 13 := fun e => h13 (u8_eq e)
          have m1 : ((c.toNat : Int) == 10) = false := beq_eq_false_iff_ne.2 (by omega)
          have m2 : ((c.toNat : Int) == 13) = false := beq_eq_false_iff_ne.2 (by omega)
          clear hQ hle hle2 hlen AT g0 n1 n2 h10 h13 HQ hcut
          generalize hgA : s.length - lb.length = A at *
          have HG : Hid (s.length - lb.length = A) := hgA
          clear hgA
          generalize hgB : s.length - (c :: r).length = B at *
          clear hgB
          generalize (c.toNat : Int) = X at *
          go_wp2
          refine ⟨⟨lb, r, L, by rw [HG.out], congrArg (Value.int .i64) HN.out, hq2⟩, ?_⟩
          have h3 := HA.out
          simp [RowKit.intOf]
          simp at h3
          omega
end Go.Proofs.YthficamlgngaaaaGreatDoor
namespace Go.Proofs.YthficamlgngaaaaGreatDoor
open Go Go.RowKit

/-- A row of texts with room behind it. -/
def RowC (w : World) (g cap : Nat) (L : List Bs) : Prop := ∃ cur, w.heap[g]? = some (.cells cur 9 (0, 0)) ∧ L.length ≤ cap ∧ cur.size = cap ∧ cur.toList.take L.length = strCs L
theorem RowC.cell {w : World} {g cap : Nat} {L : List Bs} (h : RowC w g cap L) (i : Nat) (hi : i < L.length) : w.cell? ⟨g, i, none⟩ = some (.string ⟨L[i].toArray⟩) := by
  obtain ⟨cur, h1, h2, h3, h4⟩ := h
  unfold World.cell?
  rw [h1]
  have e : (cur.toList.take L.length)[i]? = (strCs L)[i]? := by rw [h4]
  rw [List.getElem?_take, if_pos hi] at e
  have e2 : (strCs L)[i]? = some (.string ⟨L[i].toArray⟩) := by simp [hi]
  rw [e2] at e
  simpa using e
theorem RowC.free {w : World} {g cap : Nat} {L : List Bs} (h : RowC w g cap L) (i : Nat) : w.frozen? ⟨g, i, none⟩ = false := by
  obtain ⟨cur, h1, _⟩ := h
  exact frozen_of_row w g i _ _ h1
theorem RowC.lt {w : World} {g cap : Nat} {L : List Bs} (h : RowC w g cap L) : g < w.heap.size := by
  obtain ⟨cur, h1, _⟩ := h
  exact lt_of_block h1
theorem RowC.below {w w' : World} {g cap B : Nat} {L : List Bs} (h : RowC w g cap L) (hb : Below B w w') (hg : g < B) : RowC w' g cap L := by
  obtain ⟨cur, h1, r⟩ := h
  exact ⟨cur, (hb.block g hg).trans h1, r⟩
theorem RowC.drewN {w : World} {g cap : Nat} {L : List Bs} (h : RowC w g cap L) (n : Nat) : RowC (w.drewN n) g cap L := h
theorem RowC.set {w : World} {g cap : Nat} {L : List Bs} (h : RowC w g cap L) (i : Nat) (x : Bs) : RowC (w.setCell ⟨g, i, none⟩ (.string ⟨x.toArray⟩)) g cap (L.set i x) := by
  obtain ⟨cur, h1, h2, h3, h4⟩ := h
  refine ⟨_, heap_setCell_same w g i _ _ (.string ⟨x.toArray⟩) h1, by simpa using h2, by simpa using h3, ?_⟩
  rw [Array.toList_setIfInBounds, List.length_set, List.take_set, h4]
  simp [List.map_set]
theorem RowC.of_own {w : World} {B : Nat} {v : Value} {L : List Bs} (h : StrOwn w B v L) (hL : L ≠ []) : ∃ g cap, v = .slice (some ⟨g, 0, none⟩) L.length cap ∧ L.length ≤ cap ∧ B ≤ g ∧ RowC w g cap L := by
  rcases h.2 with ⟨_, h0⟩ | ⟨g, cap, cur, hv, hB, hg, hn, _, hs, ht⟩
  · exact absurd (List.length_eq_zero_iff.1 h0) hL
  · exact ⟨g, cap, hv, hn, hB, cur, hg, hn, by omega, by simpa using ht⟩

theorem indS_le (x : Bs) : indS x ≤ x.length := by unfold indS; omega
theorem blank_iff (x : Bs) : blankB x = false ↔ indS x < x.length := by
  have := indS_le x
  unfold blankB
  rw [beq_eq_false_iff_ne]
  omega
/-- One line more, for the indent that all share. -/
def comStep (a : Option Nat) (x : Bs) : Option Nat := if blankB x then a else match a with
    | none => some (indS x)
    | some n => if indS x < n then some (indS x) else some n
theorem commonS_cons (x : Bs) (xs : List Bs) (a : Option Nat) : commonS (x :: xs) a = commonS xs (comStep a x) := rfl
/-- The lines that are not blank, between which: none yet; or from the first to the last. -/
inductive Mids (n : Nat) : List Bs → Int → Int → Prop
  | no (D : List Bs) (h : ∀ x ∈ D, blankB x = true) : Mids n D (n : Int) (-1)
  | yes (A M C : List Bs) (y z : Bs) (M1 : List Bs) (hA : ∀ x ∈ A, blankB x = true) (hC : ∀ x ∈ C, blankB x = true) (hy : blankB y = false) (hz : blankB z = false) (h1 : ∃ T, M = y :: T) (h2 : M = M1 ++ [z]) : Mids n (A ++ M ++ C) (A.length : Int) ((A.length + M.length : Nat) - 1 : Int)
theorem Mids.blank {n : Nat} {D : List Bs} {f l : Int} (h : Mids n D f l) {x : Bs} (hx : blankB x = true) : Mids n (D ++ [x]) f l := by
  cases h with
  | no D h => exact .no _ (fun y hy => by
      rcases List.mem_append.1 hy with h' | h'
      · exact h y h'
      · rw [List.mem_singleton.1 h']; exact hx)
  | yes A M C y z M1 hA hC hy hz h1 h2 =>
    rw [List.append_assoc]
    exact .yes A M (C ++ [x]) y z M1 hA (fun y hy => by
      rcases List.mem_append.1 hy with h' | h'
      · exact hC y h'
      · rw [List.mem_singleton.1 h']; exact hx) hy hz h1 h2
theorem Mids.full {n : Nat} {D : List Bs} {f l : Int} (h : Mids n D f l) {x : Bs} (hx : blankB x = false) (hn : D.length ≤ n) : Mids n (D ++ [x]) (min f (D.length : Int)) (D.length : Int) := by
  cases h with
  | no D h =>
    have := Mids.yes (n := n) D [x] [] x x [] h (by simp) hx hx ⟨[], rfl⟩ rfl
    rw [List.append_nil] at this
    rw [show min (n : Int) (D.length : Int) = D.length by omega]
    have e : ((D.length + [x].length : Nat) - 1 : Int) = (D.length : Int) := by simp
    rw [e] at this
    exact this
  | yes A M C y z M1 hA hC hy hz h1 h2 =>
    obtain ⟨T, hT⟩ := h1
    have := Mids.yes (n := n) A (M ++ C ++ [x]) [] y x (M ++ C) hA (by simp) hy hx ⟨T ++ C ++ [x], by rw [hT]; simp⟩ rfl
    rw [List.append_nil] at this
    have e1 : min (A.length : Int) ((A ++ M ++ C).length : Int) = (A.length : Int) := by simp; omega
    have e2 : ((A.length + (M ++ C ++ [x]).length : Nat) - 1 : Int) = ((A ++ M ++ C).length : Int) := by simp; omega
    rw [e1, ← e2]
    have e3 : A ++ M ++ C ++ [x] = A ++ (M ++ C ++ [x]) := by simp
    rw [e3]
    exact this
theorem dropWhile_all {p : Bs → Bool} : ∀ {A : List Bs} {l : List Bs}, (∀ x ∈ A, p x = true) → (A ++ l).dropWhile p = l.dropWhile p
  | [], _, _ => rfl
  | a :: A, l, h => by
    rw [List.cons_append, List.dropWhile_cons, if_pos (h a (by simp))]
    exact dropWhile_all fun x hx => h x (by simp [hx])
/-- What is left when the blank lines at both ends are gone. -/
theorem Mids.trim {n : Nat} {R : List Bs} {f l : Int} (h : Mids n R f l) : (trimS R = [] ∧ f = n ∧ l = -1) ∨ ∃ A M C : List Bs, R = A ++ M ++ C ∧ trimS R = M ∧ M ≠ [] ∧ f = A.length ∧ l = ((A.length + M.length : Nat) - 1 : Int) := by
  cases h with
  | no D h =>
    left
    refine ⟨?_, rfl, rfl⟩
    unfold trimS
    have e : R.dropWhile blankB = [] := by
      have := dropWhile_all (l := []) h
      rw [List.append_nil] at this
      rw [this]; rfl
    rw [e]
    rfl
  | yes A M C y z M1 hA hC hy hz h1 h2 =>
    right
    obtain ⟨T, hT⟩ := h1
    refine ⟨A, M, C, rfl, ?_, by rw [hT]; simp, rfl, rfl⟩
    unfold trimS
    rw [List.append_assoc, dropWhile_all hA]
    have e1 : (M ++ C).dropWhile blankB = M ++ C := by
      rw [hT, List.cons_append, List.dropWhile_cons, if_neg (by rw [hy]; decide)]
    rw [e1, List.reverse_append, dropWhile_all (fun x hx => hC x (List.mem_reverse.1 hx)), h2, List.reverse_append]
    show (([z] ++ M1.reverse).dropWhile blankB).reverse = _
    rw [List.singleton_append, List.dropWhile_cons, if_neg (by rw [hz]; decide)]
    simp
theorem joinS_snoc : ∀ (L : List Bs) (x : Bs), L ≠ [] → joinS (L ++ [x]) = joinS L ++ 10 :: x
  | [], _, h => absurd rfl h
  | [a], x, _ => rfl
  | a :: b :: L, x, _ => by
    have ih := joinS_snoc (b :: L) x (by simp)
    show a ++ 10 :: joinS ((b :: L) ++ [x]) = (a ++ 10 :: joinS (b :: L)) ++ 10 :: x
    rw [ih]
    simp
/-- The lines, cut. -/
def cutL (c : Nat) : List Bs → List Bs
  | [] => []
  | x :: xs => x :: xs.map (cutS c)
theorem cutL_len (c : Nat) (L : List Bs) : (cutL c L).length = L.length := by cases L <;> simp [cutL]
theorem cutL_at (c : Nat) (L : List Bs) (i : Nat) (hi : i < L.length) : (cutL c L)[i]'(by rw [cutL_len]; exact hi) = if i = 0 then L[i] else cutS c L[i] := by
  cases L with
  | nil => simp at hi
  | cons x xs =>
    cases i with
    | zero => rfl
    | succ i => simp [cutL]
theorem blockS_cut (raw : Bs) : blockS raw = joinS (trimS (cutL ((commonS (linesS raw).tail none).getD 0) (linesS raw))) := by
  unfold blockS
  cases linesS raw with
  | nil => rfl
  | cons x xs => rfl
end Go.Proofs.YthficamlgngaaaaGreatDoor
