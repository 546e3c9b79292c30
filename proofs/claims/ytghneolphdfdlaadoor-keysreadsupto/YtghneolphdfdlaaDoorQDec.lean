/- A key read from its bytes, by the document. -/
import Derived.Test.YtghneolphdfdlaaDoorQGuess2
import Derived.Test.YtghneolphdfdlaaDoorOne
namespace Go.Proofs.YtghneolphdfdlaaDoor
open Go Go.RowKit

theorem owns_none4 {e : TypeId} (w : World) : (w.alloc (.cells #[] e)).ownsRow w.heap.size e 4 (.slice (some ⟨w.heap.size, 0, none⟩) 0 0) 0 [] :=
  ⟨rfl, Or.inr ⟨w.heap.size, 0, #[], rfl, Nat.le_refl _, heap_alloc_new _ _, Nat.le_refl _, by decide, rfl, rfl⟩⟩
/-- Four cells of a block. -/
def Four (w : World) (b : Nat) (x0 x1 x2 x3 : Value) : Prop := w.cell? ⟨b, 0, none⟩ = some x0 ∧ w.cell? ⟨b, 1, none⟩ = some x1 ∧ w.cell? ⟨b, 2, none⟩ = some x2 ∧ w.cell? ⟨b, 3, none⟩ = some x3
theorem Four.keep {w w' : World} {b : Nat} {x0 x1 x2 x3 : Value} (h : Four w b x0 x1 x2 x3) (hb : Below w.heap.size w w') : Four w' b x0 x1 x2 x3 := by
  have hlt : b < w.heap.size := World.block_lt_of_cell? w _ h.1
  exact ⟨(hb.cell (p := ⟨b, _, none⟩) hlt).trans h.1, (hb.cell (p := ⟨b, _, none⟩) hlt).trans h.2.1, (hb.cell (p := ⟨b, _, none⟩) hlt).trans h.2.2.1, (hb.cell (p := ⟨b, _, none⟩) hlt).trans h.2.2.2⟩
theorem four_new (w : World) (x0 x1 x2 x3 : Value) (t : TypeId) : Four (w.alloc (.cells #[x0, x1, x2, x3] t)) w.heap.size x0 x1 x2 x3 := by
  have hh := heap_alloc_new w (.cells #[x0, x1, x2, x3] t)
  generalize w.alloc (.cells #[x0, x1, x2, x3] t) = W at hh
  exact ⟨by simp [World.cell?, hh], by simp [World.cell?, hh], by simp [World.cell?, hh], by simp [World.cell?, hh]⟩
theorem pre_of (L B : List UInt8) : ((ByteArray.mk L.toArray).extract 0 (ByteArray.mk B.toArray).size).toList = L.take B.length ∧ (ByteArray.mk B.toArray).toList = B := by
  constructor
  · rw [ByteArray.toList_eq]; simp [mk_len]
  · rw [ByteArray.toList_eq]

theorem take_of_app {L B r : List UInt8} (h : L = B ++ r) : L.take B.length = B := by rw [h]; exact List.take_left
theorem new1 (w : World) (a b c d : Value) (t : TypeId) : (w.alloc (.cells #[a, b, c, d] t)).cell? ((⟨w.heap.size, 0, none⟩ : Addr).add 0) = some a ∧ (w.alloc (.cells #[a, b, c, d] t)).cell? ((⟨w.heap.size, 0, none⟩ : Addr).add 1) = some b ∧ (w.alloc (.cells #[a, b, c, d] t)).cell? ((⟨w.heap.size, 0, none⟩ : Addr).add 2) = some c ∧ (w.alloc (.cells #[a, b, c, d] t)).cell? ((⟨w.heap.size, 0, none⟩ : Addr).add 3) = some d :=
  cells4 (heap_alloc_new w (.cells #[a, b, c, d] t))

set_option maxRecDepth 100000 in
set_option maxHeartbeats 2000000 in
theorem qdecode_any (s : List UInt8) (w : World) (hs : s.length ≤ 3999999999) :
    Calls Tryd.prog 13 #[.string ⟨s.toArray⟩] w fun e w' => toldL w w' (decL s) e ∧ Below w.heap.size w w' := by
  obtain ⟨i1, hi1, hy0, hy1, hy2⟩ := info_parts Tryd.infoPart
  go_enter Tryd.func13, Tryd.ntmps13
  go_wp2
  go_loopw [4, 5] (fun a t wr => ∃ (n : Nat) (l : List UInt8) (acc : List Pt), t = .string ⟨l.toArray⟩ ∧ l.length ≤ n ∧ n ≤ s.length ∧ acc.length + l.length ≤ s.length ∧ outF n l acc = decL s ∧ Parts wr w.heap.size a acc ∧ Below w.heap.size w wr) (fun _ t _ => match t with | .string b => b.size | _ => 0)
  case atStart => exact ⟨s.length, s, [], rfl, Nat.le_refl _, Nat.le_refl _, by simp, rfl, owns_none4 w, (Below.refl _ _).alloc (Nat.le_refl _) _⟩
  case round =>
    obtain ⟨n, l, acc, rfl, hln, hn, hacc, hD, hP, hbr⟩ := hrel
    have HD : Hid (outF n l acc = decL s) := hD
    clear hD
    have hz := hbr.size
    cases l with
    | nil =>
      have hD2 := HD.out
      rw [out_end] at hD2
      by_cases h16 : acc.length ≤ 16
      · rw [if_pos h16] at hD2
        have HR : Hid (decL s = some acc) := hD2.symm
        clear hD2
        have HP := own_hid hP
        have h16' : ¬ (16 : Int) < acc.length := by omega
        rcases hP.2 with ⟨rfl, hnil⟩ | ⟨g, cap, cur, rfl, hg, hh, hr'⟩
        · clear hP hnil h16'
          go_wp2
          go_ret2
          rw [HR.out]
          exact ⟨⟨_, rfl, HP.out, h16⟩, hbr⟩
        · clear hP hh hr'
          go_wp2
          go_ret2
          rw [HR.out]
          exact ⟨⟨_, rfl, HP.out, h16⟩, hbr⟩
      · rw [if_neg h16] at hD2
        have HR : Hid (decL s = none) := hD2.symm
        clear hD2
        rcases hP.2 with ⟨rfl, hnil⟩ | ⟨g, cap, cur, rfl, hg, hh, hr'⟩
        · omega
        · have h16' : (16 : Int) < acc.length := by omega
          clear hP hh hr' h16
          go_wp2
          go_ret2
          rw [HR.out]
          exact ⟨rfl, hbr⟩
    | cons c l =>
      obtain ⟨m, rfl⟩ : ∃ m, n = m + 1 := ⟨n - 1, by simp at hln; omega⟩
      have hl2 : l.length ≤ 3999999999 := by simp at hln; omega
      have G := fun w => qguess_any c l w (by omega)
      have hsm := guess_small (c :: l)
      have O := fun w => one_any (guessP (c :: l)) w
      have hRS : (ByteArray.mk (c :: l).toArray).size = l.length + 1 := rfl
      cases hm : mayB (guessP (c :: l))
      · have HR : Hid (decL s = none) := by
          show _ = _
          rw [← HD.out]
          exact out_no m c l acc (fun h => by rw [hm] at h; cases h)
        rw [hm] at O
        generalize guessP (c :: l) = p at G O
        obtain ⟨k, i, b, t⟩ := p
        simp only [Pt.val, Pt.cells] at G O
        clear hm hsm HD
        go_wp2_with (first
          | (go_at_call 24; refine (G _).mono ?_; rintro e w1 ⟨rfl, hb1⟩)
          | (go_at_call 25; refine (O _).mono ?_; rintro e w2 ⟨rfl, hb2⟩))
        go_ret2
        rw [HR.out]
        have x1 := hbr.trans (hb1.mono hz)
        have x2 := x1.alloc x1.size (.cells #[.int .i64 k, .int .i64 i, .int .u64 (b : Int), .string t] 34)
        exact ⟨rfl, x2.trans (hb2.mono x2.size)⟩
      · have B := fun w => qbytes_any (guessP (c :: l)) w hm hsm.2.2
        rw [hm] at O
        have hel := encP_len (guessP (c :: l)) hm
        obtain ⟨e1, e2⟩ := pre_of (c :: l) (encP (guessP (c :: l)))
        have hBS : (ByteArray.mk (encP (guessP (c :: l))).toArray).size = (encP (guessP (c :: l))).length := rfl
        by_cases hlen : (encP (guessP (c :: l))).length ≤ l.length + 1
        · by_cases hpre : (c :: l).take (encP (guessP (c :: l))).length = encP (guessP (c :: l))
          · have hcat : c :: l = encP (guessP (c :: l)) ++ (c :: l).drop (encP (guessP (c :: l))).length := by
              conv => lhs; rw [← List.take_append_drop (encP (guessP (c :: l))).length (c :: l), hpre]
            have hout := out_yes m c l _ acc hm hcat
            have HR : Hid (outF m ((c :: l).drop (encP (guessP (c :: l))).length) (acc ++ [guessP (c :: l)]) = decL s) := hout.symm.trans HD.out
            have hq : (((ByteArray.mk (c :: l).toArray).extract 0 (ByteArray.mk (encP (guessP (c :: l))).toArray).size).toList == (ByteArray.mk (encP (guessP (c :: l))).toArray).toList) = true := by
              rw [e1, e2, hpre]; simp
            have HX : Hid ((ByteArray.mk (c :: l).toArray).extract (ByteArray.mk (encP (guessP (c :: l))).toArray).size (ByteArray.mk (c :: l).toArray).size = ⟨((c :: l).drop (encP (guessP (c :: l))).length).toArray⟩) := ext_more (c :: l) _
            obtain ⟨c0, l0, ec⟩ := encP_cons (guessP (c :: l))
            have hpos : 1 ≤ (encP (guessP (c :: l))).length := by rw [ec]; simp
            have hdl : ((c :: l).drop (encP (guessP (c :: l))).length).length = l.length + 1 - (encP (guessP (c :: l))).length := by simp
            clear hout hcat hpre e1 e2 HD hm hsm ec
            generalize (c :: l).drop (encP (guessP (c :: l))).length = R at HR HX hdl
            generalize ByteArray.mk (encP (guessP (c :: l))).toArray = BS at B hq HX hBS
            generalize (encP (guessP (c :: l))).length = K at *
            generalize guessP (c :: l) = p at *
            generalize ByteArray.mk (c :: l).toArray = RS at *
            subst hBS
            obtain ⟨k, i, b, t⟩ := p
            simp only [Pt.val, Pt.cells] at G O B
            have HP := own_hid hP
            clear hP
            go_wp2_with (first
              | (go_at_call 24; refine (G _).mono ?_; rintro e w1 ⟨rfl, hb1⟩; have HP1 := own_hid (owns_below HP.out hb1); have hz1 := hb1.size)
              | (go_at_call 25; refine (O _).mono ?_; rintro e w2 ⟨rfl, hb2⟩; have HP2 := own_hid (owns_below (HP1.out.alloc _) hb2); have hz2 := hb2.size; obtain ⟨y0, y1, y2, y3⟩ := (four_new w1 _ _ _ _ _).keep hb2)
              | (go_at_call 22; refine (B _).mono ?_; rintro e w3 ⟨rfl, hb3⟩; have HP3 := own_hid (owns_below HP2.out hb3); have hz3 := hb3.size; obtain ⟨z0, z1, z2, z3⟩ := Four.keep ⟨y0, y1, y2, y3⟩ hb3)
              | (at_builtin; refine wpList_append_own _ rfl _ _ 22 rfl w.heap.size 34 i1 _ 4 40 Tryd.underlying22 hi1 hy0 hy1 hy2 rfl (by decide) _ _ _ rfl (HP3.out.alloc _) ⟨w3.heap.size, 0, none⟩ 1 1 [.int .i64 k, .int .i64 i, .int .u64 (b : Int), .string t] rfl rfl ?c1 ?c2 ?c3 ?c4 ?c5 ?_))
            case c1 =>
              intro j u hj
              match j, hj with
              | 0, hj => simp at hj; subst hj; exact (new1 _ _ _ _ _ _).1
              | 1, hj => simp at hj; subst hj; exact (new1 _ _ _ _ _ _).2.1
              | 2, hj => simp at hj; subst hj; exact (new1 _ _ _ _ _ _).2.2.1
              | 3, hj => simp at hj; subst hj; exact (new1 _ _ _ _ _ _).2.2.2
            case c2 => intro u hu; simp at hu; rcases hu with rfl | rfl | rfl | rfl <;> rfl
            case c3 => unfold maxLen; simp at hacc; omega
            case c4 => simp at hacc; omega
            case c5 => have x1 := hbr.trans (hb1.mono hz); have x2 := x1.alloc x1.size (.cells #[.int .i64 k, .int .i64 i, .int .u64 (b : Int), .string t] 34); have x3 := x2.trans (hb2.mono x2.size); have x4 := x3.trans (hb3.mono x3.size); simp; have := x4.size; omega
            intro v' w4 hown' hgrow' _
            have hown2 : Parts w4 w.heap.size v' (acc ++ [⟨k, i, b, t⟩]) := by
              unfold Parts
              rw [cellsL_snoc, List.length_append]
              exact hown'
            have hbr4 : Below w.heap.size w w4 := by
              have x1 := hbr.trans (hb1.mono hz)
              have x2 := x1.alloc x1.size (.cells #[.int .i64 k, .int .i64 i, .int .u64 (b : Int), .string t] 34)
              have x3 := x2.trans (hb2.mono x2.size)
              have x4 := x3.trans (hb3.mono x3.size)
              exact (x4.alloc x4.size _).grown hgrow' (by have := x4.size; simp; omega) (own_ge HP3.out)
            clear hown' hgrow' HP HP1 HP2 HP3 G O B y0 y1 y2 y3 z0 z1 z2 z3
            go_wp2
            refine ⟨⟨m, R, acc ++ [⟨k, i, b, t⟩], by rw [← HX.out, hRS], by rw [hdl]; simp at hln; omega, by omega, by rw [hdl, List.length_append]; simp at hacc ⊢; omega, HR.out, hown2, hbr4⟩, ?_⟩
            show (RS.extract BS.size (l.length + 1)).size < RS.size
            rw [ByteArray.size_extract, hRS]
            omega
          · have HR : Hid (decL s = none) := by
              show _ = _
              rw [← HD.out]
              exact out_no m c l acc (fun _ r h => hpre (take_of_app h))
            have hq : (((ByteArray.mk (c :: l).toArray).extract 0 (ByteArray.mk (encP (guessP (c :: l))).toArray).size).toList == (ByteArray.mk (encP (guessP (c :: l))).toArray).toList) = false := by
              rw [e1, e2, beq_eq_false_iff_ne]; exact hpre
            clear hpre e1 e2 HD hm hsm
            generalize ByteArray.mk (encP (guessP (c :: l))).toArray = BS at B hq hBS
            generalize (encP (guessP (c :: l))).length = K at *
            generalize guessP (c :: l) = p at *
            generalize ByteArray.mk (c :: l).toArray = RS at *
            subst hBS
            obtain ⟨k, i, b, t⟩ := p
            simp only [Pt.val, Pt.cells] at G O B
            have HP := own_hid hP
            clear hP
            go_wp2_with (first
              | (go_at_call 24; refine (G _).mono ?_; rintro e w1 ⟨rfl, hb1⟩; have HP1 := own_hid (owns_below HP.out hb1); have hz1 := hb1.size)
              | (go_at_call 25; refine (O _).mono ?_; rintro e w2 ⟨rfl, hb2⟩; have HP2 := own_hid (owns_below (HP1.out.alloc _) hb2); have hz2 := hb2.size; obtain ⟨y0, y1, y2, y3⟩ := (four_new w1 _ _ _ _ _).keep hb2)
              | (go_at_call 22; refine (B _).mono ?_; rintro e w3 ⟨rfl, hb3⟩; have HP3 := own_hid (owns_below HP2.out hb3); have hz3 := hb3.size; obtain ⟨z0, z1, z2, z3⟩ := Four.keep ⟨y0, y1, y2, y3⟩ hb3))
            go_ret2
            rw [HR.out]
            have x1 := hbr.trans (hb1.mono hz)
            have x2 := x1.alloc x1.size (.cells #[.int .i64 k, .int .i64 i, .int .u64 (b : Int), .string t] 34)
            have x3 := x2.trans (hb2.mono x2.size)
            have x4 := x3.trans (hb3.mono x3.size)
            exact ⟨rfl, x4⟩
        · have HR : Hid (decL s = none) := by
            show _ = _
            rw [← HD.out]
            refine out_no m c l acc (fun _ r h => hlen ?_)
            have := congrArg List.length h
            rw [List.length_append] at this
            simp at this
            omega
          clear e1 e2 HD hm hsm
          generalize ByteArray.mk (encP (guessP (c :: l))).toArray = BS at B hBS
          generalize (encP (guessP (c :: l))).length = K at *
          generalize guessP (c :: l) = p at *
          generalize ByteArray.mk (c :: l).toArray = RS at *
          subst hBS
          obtain ⟨k, i, b, t⟩ := p
          simp only [Pt.val, Pt.cells] at G O B
          have HP := own_hid hP
          clear hP
          go_wp2_with (first
            | (go_at_call 24; refine (G _).mono ?_; rintro e w1 ⟨rfl, hb1⟩; have HP1 := own_hid (owns_below HP.out hb1); have hz1 := hb1.size)
            | (go_at_call 25; refine (O _).mono ?_; rintro e w2 ⟨rfl, hb2⟩; have HP2 := own_hid (owns_below (HP1.out.alloc _) hb2); have hz2 := hb2.size; obtain ⟨y0, y1, y2, y3⟩ := (four_new w1 _ _ _ _ _).keep hb2)
            | (go_at_call 22; refine (B _).mono ?_; rintro e w3 ⟨rfl, hb3⟩; have HP3 := own_hid (owns_below HP2.out hb3); have hz3 := hb3.size; obtain ⟨z0, z1, z2, z3⟩ := Four.keep ⟨y0, y1, y2, y3⟩ hb3))
          go_ret2
          rw [HR.out]
          have x1 := hbr.trans (hb1.mono hz)
          have x2 := x1.alloc x1.size (.cells #[.int .i64 k, .int .i64 i, .int .u64 (b : Int), .string t] 34)
          have x3 := x2.trans (hb2.mono x2.size)
          have x4 := x3.trans (hb3.mono x3.size)
          exact ⟨rfl, x4⟩
end Go.Proofs.YtghneolphdfdlaaDoor
