/- A part's bytes, by the document. -/
import Derived.Test.YtghneolphdfdlaaDoorEight
import Derived.Test.YtghneolphdfdlaaDoorEncMath
namespace Go.Proofs.YtghneolphdfdlaaDoor
open Go Go.RowKit

theorem wrap_int2 (i : Int) : IntKind.u64.wrap (9223372036854775808 + IntKind.u64.wrap i) = ((intW i : Nat) : Int) := by
  unfold intW
  simp only [IntKind.wrap_u64]
  omega
theorem intW_lt (i : Int) : intW i < 18446744073709551616 := by
  unfold intW; omega
theorem keyI_nat (b : Nat) : keyI b = (((keyI b).toNat : Nat) : Int) ∧ (keyI b).toNat < 18446744073709551616 := by
  have : 0 ≤ keyI b ∧ keyI b < 18446744073709551616 := by
    unfold keyI
    by_cases h : sz b ≤ 9218868437227405312
    · rw [isN_true h, if_pos rfl, pos_eq]
      have := sz_lt b
      cases sgn b <;> simp <;> omega
    · rw [isN_false h]; simp
  omega
theorem head_app (c : UInt8) (l : List UInt8) : (ByteArray.mk #[c]) ++ (ByteArray.mk l.toArray) = ⟨(c :: l).toArray⟩ := by
  apply ByteArray.ext; simp
theorem mk_len (l : List UInt8) : (ByteArray.mk l.toArray).size = l.length := rfl
theorem esc_snoc (l : List UInt8) (c : UInt8) : esc (l ++ [c]) = esc l ++ (if c = 0 then [0, 255] else [c]) := by
  induction l with
  | nil =>
    show esc [c] = _
    unfold esc
    by_cases h : c = 0
    · simp [h, esc]
    · simp [h, esc]
  | cons d l ih =>
    show esc (d :: (l ++ [c])) = esc (d :: l) ++ _
    unfold esc
    rw [ih]
    by_cases h : d = 0 <;> simp [h]

set_option maxHeartbeats 1000000 in
theorem qbytes_0 (i : Int) (b : Nat) (t : ByteArray) (w : World) :
    Calls Tryd.prog 22 #[.agg #[.int .i64 0, .int .i64 i, .int .u64 (b : Int), .string t]] w fun e w' => e = .returned (.string ⟨(encP ⟨0, i, b, t⟩).toArray⟩) ∧ Below w.heap.size w w' := by
  have Q := fun w => qeight_any (intW i) w (intW_lt i)
  have hwr : Hid (IntKind.u64.wrap (9223372036854775808 + IntKind.u64.wrap i) = ((intW i : Nat) : Int)) := wrap_int2 i
  have hA : Hid ((ByteArray.mk #[1]) ++ (ByteArray.mk (be8 (intW i)).toArray) = ⟨(encP ⟨0, i, b, t⟩).toArray⟩) := head_app 1 (be8 (intW i))
  have hE : (ByteArray.mk (be8 (intW i)).toArray).size = 8 := (mk_len _).trans (be8_len _)
  generalize ByteArray.mk (be8 (intW i)).toArray = E at Q hA hE
  generalize ((intW i : Nat) : Int) = I at *
  go_enter Tryd.func22, Tryd.ntmps22
  go_wp2_with (go_at_call 34; rw [hwr.out]; refine (Q _).mono ?_; rintro e w1 ⟨rfl, hb1⟩)
  go_ret
  exact ⟨by rw [← hA.out]; rfl, ((Below.refl _ _).alloc (Nat.le_refl _) _).trans (hb1.mono (by simp))⟩

set_option maxHeartbeats 1000000 in
theorem qbytes_1 (i : Int) (b : Nat) (t : ByteArray) (w : World) (hb : b < 18446744073709551616) :
    Calls Tryd.prog 22 #[.agg #[.int .i64 1, .int .i64 i, .int .u64 (b : Int), .string t]] w fun e w' => e = .returned (.string ⟨(encP ⟨1, i, b, t⟩).toArray⟩) ∧ Below w.heap.size w w' := by
  have Q := fun w => qeight_any (keyI b).toNat w (keyI_nat b).2
  have K := fun w => rkey_any b w hb
  rw [← (keyI_nat b).1] at Q
  have hA : Hid ((ByteArray.mk #[2]) ++ (ByteArray.mk (be8 (keyI b).toNat).toArray) = ⟨(encP ⟨1, i, b, t⟩).toArray⟩) := head_app 2 (be8 (keyI b).toNat)
  have hE : (ByteArray.mk (be8 (keyI b).toNat).toArray).size = 8 := (mk_len _).trans (be8_len _)
  generalize ByteArray.mk (be8 (keyI b).toNat).toArray = E at Q hA hE
  generalize keyI b = I at Q K
  generalize errN (isN b) = N at K
  clear hb
  generalize (b : Int) = C at *
  go_enter Tryd.func22, Tryd.ntmps22
  go_wp2_with (first
    | (go_at_call 35; refine (K _).mono ?_; rintro e w0 ⟨rfl, rfl⟩)
    | (go_at_call 34; refine (Q _).mono ?_; rintro e w1 ⟨rfl, hb1⟩))
  go_ret
  exact ⟨by rw [← hA.out]; rfl, ((Below.refl _ _).alloc (Nat.le_refl _) _).trans (hb1.mono (by simp))⟩

theorem own_three (w : World) (o : Obj) : ((w.alloc o).alloc (.cells #[.int .u8 3] 5)).ownsRow (w.heap.size + 1) 5 1 (.slice (some ⟨w.heap.size + 1, 0, none⟩) 1 1) 1 (Lib.byteCells [3]) :=
  ⟨rfl, Or.inr ⟨w.heap.size + 1, 1, _, rfl, Nat.le_refl _, by rw [show w.heap.size + 1 = (w.alloc o).heap.size by simp]; exact heap_alloc_new _ _, Nat.le_refl _, by decide, by kernel_rfl, by kernel_rfl⟩⟩

set_option maxHeartbeats 2000000 in
theorem qbytes_2 (i : Int) (b : Nat) (t : ByteArray) (w : World) (ht : t.size ≤ 255) :
    Calls Tryd.prog 22 #[.agg #[.int .i64 2, .int .i64 i, .int .u64 (b : Int), .string t]] w fun e w' => e = .returned (.string ⟨(encP ⟨2, i, b, t⟩).toArray⟩) ∧ Below w.heap.size w w' := by
  obtain ⟨i1, hi1, hy0, hy1, hy2⟩ := info_parts Tryd.infoByte
  have etl : t.data.toList.length = t.size := by rw [Array.length_toList]; rfl
  go_enter Tryd.func22, Tryd.ntmps22
  go_wp2
  obtain ⟨w0, hw0⟩ : ∃ w0, w0 = w.alloc (.cells #[.int .i64 2, .int .i64 i, .int .u64 (b : Int), .string t] 34) := ⟨_, rfl⟩
  have hz0 : w0.heap.size = w.heap.size + 1 := by rw [hw0]; simp
  have hx3 : w0.cell? ⟨w.heap.size, 3, none⟩ = some (.string t) := by
    have hh : w0.heap[w.heap.size]? = some (.cells #[.int .i64 2, .int .i64 i, .int .u64 (b : Int), .string t] 34 (0, 0)) := by rw [hw0]; exact heap_alloc_new _ _
    simp [World.cell?, hh]
  have hown0 := own_three w (.cells #[.int .i64 2, .int .i64 i, .int .u64 (b : Int), .string t] 34)
  rw [← hw0] at hown0 ⊢
  have hbb : Below w.heap.size w w0 := by rw [hw0]; exact (Below.refl _ _).alloc (Nat.le_refl _) _
  go_loopw [5, 6] (fun o i wr => ∃ j : Nat, j ≤ t.size ∧ i = .int .i64 j ∧ Bytes wr (w.heap.size + 1) o (3 :: esc (t.data.toList.take j)) ∧ Below (w.heap.size + 1) w0 wr) (fun _ i _ => t.size - (intOf i).toNat)
  case atStart => exact ⟨0, Nat.zero_le _, rfl, hown0, (Below.refl _ _).alloc (by omega) _⟩
  case round =>
    obtain ⟨j, hj, rfl, hor, hbr⟩ := hrel
    have hz := hbr.size
    have x3 : wr.cell? ⟨w.heap.size, 3, none⟩ = some (.string t) := (hbr.cell (p := ⟨w.heap.size, 3, none⟩) (by show w.heap.size < _; omega)).trans hx3
    have hel := esc_len (t.data.toList.take j)
    have htl : (t.data.toList.take j).length ≤ 255 := by rw [List.length_take]; omega
    by_cases hlt : j < t.size
    · have HS : Hid (esc (t.data.toList.take (j + 1)) = esc (t.data.toList.take j) ++ (if t[j] = 0 then [0, 255] else [t[j]])) := by
        have e : t.data.toList.take (j + 1) = t.data.toList.take j ++ [t[j]] := by
          rw [List.take_succ_eq_append_getElem (by omega)]
          rfl
        show _ = _
        rw [e, esc_snoc]
      clear etl
      go_wp2_with (at_builtin; refine wpList_append_own _ rfl _ _ 41 rfl (w.heap.size + 1) 5 i1 (.int .u8 0) 1 1 Tryd.underlying41 hi1 hy0 hy1 hy2 rfl (by decide) _ _ _ rfl (hor.alloc _) ⟨wr.heap.size, 0, none⟩ 1 1 [.int .u8 (t[j].toNat : Int)] rfl rfl ?c1 ?c2 ?c3 ?c4 ?c5 ?_)
      case c1 =>
        intro j u hj
        match j, hj with
        | 0, hj => simp at hj; subst hj; simp [Addr.add]
      case c2 => intro u hu; simp at hu; subst hu; rfl
      case c3 => unfold maxLen; simp; omega
      case c4 => simp; omega
      case c5 => simp; omega
      intro v' w2 hown' hgrow' _
      have hown2 : Bytes w2 (w.heap.size + 1) v' ((3 :: esc (t.data.toList.take j)) ++ [t[j]]) := by
        unfold Bytes
        rw [cells_snoc, List.length_append]
        exact hown'
      have hbr2 : Below (w.heap.size + 1) w0 w2 := (hbr.alloc (by omega) _).grown hgrow' (by simp; omega) (own_ge hor)
      have hz2 := hbr2.size
      have x3' : w2.cell? ⟨w.heap.size, 3, none⟩ = some (.string t) := (hbr2.cell (p := ⟨w.heap.size, 3, none⟩) (by show w.heap.size < _; omega)).trans hx3
      clear hown' hgrow' hor x3
      by_cases hc : t[j] = 0
      · have hc' : (t[j].toNat : Int) = 0 := by rw [hc]; rfl
        have HS2 := HS.out
        rw [if_pos hc] at HS2
        have HT : Hid (3 :: esc (t.data.toList.take (j + 1)) = ((3 :: esc (t.data.toList.take j)) ++ [t[j]]) ++ [255]) := by
          show _ = _
          rw [HS2, hc]; simp
        clear HS HS2 hc
        generalize hF : (3 :: esc (t.data.toList.take j)) ++ [t[j]] = F at hown2 HT
        have hFl : F.length ≤ 600 := by rw [← hF]; simp; omega
        clear hF
        go_wp2_with (at_builtin; refine wpList_append_own _ rfl _ _ 41 rfl (w.heap.size + 1) 5 i1 (.int .u8 0) 1 1 Tryd.underlying41 hi1 hy0 hy1 hy2 rfl (by decide) _ _ _ rfl (hown2.alloc _) ⟨w2.heap.size, 0, none⟩ 1 1 [.int .u8 255] rfl rfl ?c1 ?c2 ?c3 ?c4 ?c5 ?_)
        case c1 =>
          intro j u hj
          match j, hj with
          | 0, hj => simp at hj; subst hj; simp [Addr.add]
        case c2 => intro u hu; simp at hu; subst hu; rfl
        case c3 => unfold maxLen; omega
        case c4 => omega
        case c5 => simp; omega
        intro v3 w3 hown' hgrow' _
        have hown3 : Bytes w3 (w.heap.size + 1) v3 (F ++ [255]) := by
          unfold Bytes
          rw [cells_snoc, List.length_append]
          exact hown'
        have hbr3 : Below (w.heap.size + 1) w0 w3 := (hbr2.alloc (by omega) _).grown hgrow' (by simp; omega) (own_ge hown2)
        clear hown' hgrow' hown2
        go_wp2
        go_roundw
        case rel => exact ⟨j + 1, by omega, by go_num, by rw [HT.out]; exact hown3, hbr3⟩
        case measure => simp [intOf]; omega
      · have hc' : ((t[j].toNat : Int) == 0) = false := by
          rw [beq_eq_false_iff_ne]
          intro e
          have e' : t[j].toNat = 0 := by omega
          exact hc (UInt8.toNat_inj.1 e')
        have HS2 := HS.out
        rw [if_neg hc] at HS2
        have HT : Hid (3 :: esc (t.data.toList.take (j + 1)) = (3 :: esc (t.data.toList.take j)) ++ [t[j]]) := by
          show _ = _
          rw [HS2]; simp
        clear HS HS2 hc
        go_wp2
        go_roundw
        case rel => exact ⟨j + 1, by omega, by go_num, by rw [HT.out]; exact hown2, hbr2⟩
        case measure => simp [intOf]; omega
    · have HT : Hid (t.data.toList.take j = t.data.toList) := List.take_of_length_le (by omega)
      rw [HT.out] at hor hel
      clear HT
      rcases hor.2 with ⟨_, hnil⟩ | ⟨g, cap', cur, rfl, hg, hh, hr⟩
      · simp at hnil
      · have hcv := conv_row hor
        have hA : Hid ((ByteArray.mk (3 :: esc t.data.toList).toArray) ++ (ByteArray.mk #[0, 0]) = ⟨(encP ⟨2, i, b, t⟩).toArray⟩) := by
          show _ = _
          apply ByteArray.ext
          simp [encP]
        have hE : (ByteArray.mk (3 :: esc t.data.toList).toArray).size ≤ 600 := by rw [mk_len]; simp; omega
        generalize (3 :: esc t.data.toList).length = L at hcv
        generalize ByteArray.mk (3 :: esc t.data.toList).toArray = E at hcv hA hE
        clear hor hh hr
        go_wp2
        go_ret
        exact ⟨by rw [← hA.out]; rfl, hbb.trans (hbr.mono (by omega))⟩
theorem qbytes_any (p : Pt) (w : World) (hm : mayB p = true) (hb : p.b < 18446744073709551616) : Calls Tryd.prog 22 #[p.val] w fun e w' => e = .returned (.string ⟨(encP p).toArray⟩) ∧ Below w.heap.size w w' := by
  obtain ⟨k, i, b, t⟩ := p
  unfold mayB at hm
  dsimp only at hm hb
  by_cases h0 : k = 0
  · subst h0; exact qbytes_0 i b t w
  · rw [if_neg h0] at hm
    by_cases h1 : k = 1
    · subst h1; exact qbytes_1 i b t w hb
    · rw [if_neg h1] at hm
      by_cases h2 : k = 2
      · subst h2
        rw [if_pos rfl] at hm
        unfold may2 at hm
        simp only [Bool.and_eq_true, decide_eq_true_iff] at hm
        exact qbytes_2 i b t w hm.2
      · rw [if_neg h2] at hm; cases hm
end Go.Proofs.YtghneolphdfdlaaDoor
