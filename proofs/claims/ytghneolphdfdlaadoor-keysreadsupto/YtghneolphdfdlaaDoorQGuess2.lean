/- The text that bytes seem to begin with, by the document. -/
import Derived.Test.YtghneolphdfdlaaDoorQGuess
import Derived.Test.YtghneolphdfdlaaDoorCutP
namespace Go.Proofs.YtghneolphdfdlaaDoor
open Go Go.RowKit

theorem drop_at (s : ByteArray) (j : Nat) (h : j < s.size) : s.data.toList.drop j = s[j] :: s.data.toList.drop (j + 1) := by
  have : j < s.data.toList.length := by rw [Array.length_toList]; exact h
  rw [List.drop_eq_getElem_cons this]; rfl
theorem guess_zero_end (l : List UInt8) (h : l = []) : guessT (0 :: l) = [] := by subst h; rfl
theorem guess_zero_other (d : UInt8) (l : List UInt8) (h : d ≠ 255) : guessT (0 :: d :: l) = [] := by rw [guessT, if_pos rfl, if_neg h]
theorem guess_zero_more (l : List UInt8) : guessT (0 :: 255 :: l) = 0 :: guessT l := by rw [guessT, if_pos rfl, if_pos rfl]
theorem owns_empty1 {e : TypeId} (w : World) : (w.alloc (.cells #[] e)).ownsRow w.heap.size e 1 (.slice (some ⟨w.heap.size, 0, none⟩) 0 0) 0 [] :=
  ⟨rfl, Or.inr ⟨w.heap.size, 0, #[], rfl, Nat.le_refl _, heap_alloc_new _ _, Nat.le_refl _, by decide, rfl, rfl⟩⟩

set_option maxRecDepth 100000 in
set_option maxHeartbeats 2000000 in
theorem qguess_t (r : List UInt8) (w : World) (hr : r.length ≤ 4000000000) :
    Calls Tryd.prog 24 #[.string ⟨((3 : UInt8) :: r).toArray⟩] w fun e w' => e = .returned (guessP (3 :: r)).val ∧ Below w.heap.size w w' := by
  obtain ⟨i1, hi1, hy0, hy1, hy2⟩ := info_parts Tryd.infoByte
  rw [guess_3 r]
  have hsz : (ByteArray.mk ((3 : UInt8) :: r).toArray).size = r.length + 1 := rfl
  have h0 : ∀ h, (ByteArray.mk ((3 : UInt8) :: r).toArray)[0]'h = 3 := fun _ => rfl
  have hd : (ByteArray.mk ((3 : UInt8) :: r).toArray).data.toList.drop 1 = r := rfl
  generalize (ByteArray.mk ((3 : UInt8) :: r).toArray) = s at *
  go_enter Tryd.func24, Tryd.ntmps24
  go_wp2
  obtain ⟨w0, hw0⟩ : ∃ w0, w0 = (w.alloc (.cells #[.int .i64 0, .int .i64 0, .int .u64 0, .string ⟨#[]⟩] 34)).alloc (.cells #[.int .i64 2, .int .i64 0, .int .u64 0, .string ⟨#[]⟩] 34) := ⟨_, rfl⟩
  have hz0 : w0.heap.size = w.heap.size + 2 := by rw [hw0]; simp
  have hR : w0.heap[w.heap.size]? = some (.cells #[.int .i64 0, .int .i64 0, .int .u64 0, .string ⟨#[]⟩] 34 (0, 0)) := by rw [hw0, Lib.alloc_old _ _ _ (by simp)]; exact heap_alloc_new _ _
  have hP : w0.heap[w.heap.size + 1]? = some (.cells #[.int .i64 2, .int .i64 0, .int .u64 0, .string ⟨#[]⟩] 34 (0, 0)) := by
    rw [hw0, show w.heap.size + 1 = (w.alloc (.cells #[.int .i64 0, .int .i64 0, .int .u64 0, .string ⟨#[]⟩] 34)).heap.size by simp]
    exact heap_alloc_new _ _
  have hbb : Below w.heap.size w w0 := by rw [hw0]; exact ((Below.refl _ _).alloc (Nat.le_refl _) _).alloc (by simp) _
  have hown0 := owns_empty1 (e := 5) w0
  rw [hz0] at hown0
  rw [← hw0]
  clear hw0
  go_loopw [4, 5] (fun o i wr => ∃ (j : Nat) (acc : List UInt8), 1 ≤ j ∧ j ≤ s.size ∧ i = .int .i64 j ∧ Bytes wr (w.heap.size + 2) o acc ∧ acc ++ guessT (s.data.toList.drop j) = guessT r ∧ acc.length ≤ j ∧ Below (w.heap.size + 2) w0 wr) (fun _ i _ => s.size - (intOf i).toNat)
  case atStart => exact ⟨1, [], Nat.le_refl _, by omega, rfl, hown0, by rw [hd]; rfl, Nat.zero_le _, (Below.refl _ _).alloc (by omega) _⟩
  case round =>
    obtain ⟨j, acc, hj1, hj, rfl, hor, hac, hal, hbr⟩ := hrel
    have HA0 : Hid (acc ++ guessT (s.data.toList.drop j) = guessT r) := hac
    clear hac hd
    have hz := hbr.size
    have bR : wr.heap[w.heap.size]? = _ := (hbr.block w.heap.size (by omega)).trans hR
    have bP : wr.heap[w.heap.size + 1]? = _ := (hbr.block (w.heap.size + 1) (by omega)).trans hP
    obtain ⟨cP0, cP1, cP2, cP3⟩ : wr.cell? ⟨w.heap.size + 1, 0, none⟩ = some (.int .i64 2) ∧ wr.cell? ⟨w.heap.size + 1, 1, none⟩ = some (.int .i64 0) ∧ wr.cell? ⟨w.heap.size + 1, 2, none⟩ = some (.int .u64 0) ∧ wr.cell? ⟨w.heap.size + 1, 3, none⟩ = some (.string ⟨#[]⟩) := by refine ⟨?_, ?_, ?_, ?_⟩ <;> simp [World.cell?, bP]
    obtain ⟨cR0, cR1, cR2, cR3⟩ : wr.cell? ⟨w.heap.size, 0, none⟩ = some (.int .i64 0) ∧ wr.cell? ⟨w.heap.size, 1, none⟩ = some (.int .i64 0) ∧ wr.cell? ⟨w.heap.size, 2, none⟩ = some (.int .u64 0) ∧ wr.cell? ⟨w.heap.size, 3, none⟩ = some (.string ⟨#[]⟩) := by refine ⟨?_, ?_, ?_, ?_⟩ <;> simp [World.cell?, bR]
    have fP : ∀ o, wr.frozen? ⟨w.heap.size + 1, o, none⟩ = false := fun o => frozen_of_row wr _ o _ _ bP
    have fR : ∀ o, wr.frozen? ⟨w.heap.size, o, none⟩ = false := fun o => frozen_of_row wr _ o _ _ bR
    clear bR bP
    by_cases hlt : j < s.size
    · have hdr := drop_at s j hlt
      by_cases hc : s[j] = 0
      · have hc' : ((s[j].toNat : Int) != 0) = false := by rw [hc]; rfl
        by_cases hlt2 : j + 1 < s.size
        · have hdr2 := drop_at s (j + 1) hlt2
          by_cases h255 : s[j + 1] = 255
          · have h255' : ((s[j + 1].toNat : Int) != 255) = false := by rw [h255]; rfl
            have HA : Hid ((acc ++ [0]) ++ guessT (s.data.toList.drop (j + 2)) = guessT r) := by
              show _ = _
              rw [← HA0.out, hdr, hdr2, hc, h255, guess_zero_more]; simp
            clear hdr hdr2 hc h255 HA0
            go_wp2_with (at_builtin; refine wpList_append_own _ rfl _ _ 41 rfl (w.heap.size + 2) 5 i1 (.int .u8 0) 1 1 Tryd.underlying41 hi1 hy0 hy1 hy2 rfl (by decide) _ _ _ rfl (hor.alloc _) ⟨wr.heap.size, 0, none⟩ 1 1 [.int .u8 0] rfl rfl ?c1 ?c2 ?c3 ?c4 ?c5 ?_)
            case c1 =>
              intro j u hj
              match j, hj with
              | 0, hj => simp at hj; subst hj; simp [Addr.add]
            case c2 => intro u hu; simp at hu; subst hu; rfl
            case c3 => unfold maxLen; omega
            case c4 => omega
            case c5 => simp; omega
            intro v' w2 hown' hgrow' _
            have hown2 : Bytes w2 (w.heap.size + 2) v' (acc ++ [0]) := by
              unfold Bytes
              rw [cells_snoc, List.length_append]
              exact hown'
            have hbr2 : Below (w.heap.size + 2) w0 w2 := (hbr.alloc (by omega) _).grown hgrow' (by simp; omega) (own_ge hor)
            clear hown' hgrow' hor cP0 cP1 cP2 cP3 cR0 cR1 cR2 cR3 fP fR
            go_wp2
            go_roundw
            case rel => exact ⟨j + 2, acc ++ [0], by omega, by omega, by go_num, hown2, HA.out, by simp; omega, hbr2⟩
            case measure => simp [intOf]; omega
          · have h255' : ((s[j + 1].toNat : Int) != 255) = true := by
              rw [bne_iff_ne]; intro e; exact h255 (UInt8.toNat_inj.1 (show s[j + 1].toNat = 255 by omega))
            have HA : Hid (acc = guessT r) := by
              show _ = _
              rw [← HA0.out, hdr, hdr2, hc, guess_zero_other _ _ h255, List.append_nil]
            clear hdr hdr2 hc h255 HA0
            rcases hor.2 with ⟨rfl, hnil⟩ | ⟨g, cap', cur, rfl, hg, hh, hr'⟩
            · have hcv := conv_nil
              have HA2 : Hid ((ByteArray.mk #[]) = ⟨(guessT r).toArray⟩) := by rw [← HA.out, List.eq_nil_of_length_eq_zero hnil]; rfl
              clear hnil hor
              go_wp2
              refine bodyPost_ret (v := .agg #[.int .i64 2, .int .i64 0, .int .u64 0, .string ⟨#[]⟩]) (by simp [results, Tryd.results24, go_sem, cR0, cR1, cR2, cR3]) rfl ⟨by rw [HA2.out]; rfl, ?_⟩
              exact setB (setB (setB (setB ((hbb.trans (hbr.mono (by omega))).setCell (p := ⟨w.heap.size + 1, 3, none⟩) (by show _ ≤ w.heap.size + 1; omega) _))))
            · have hcv := conv_row hor
              have HA2 : Hid ((ByteArray.mk acc.toArray) = ⟨(guessT r).toArray⟩) := by rw [← HA.out]; rfl
              clear hor hr' hh
              generalize ByteArray.mk acc.toArray = E at hcv HA2
              generalize acc.length = L at *
              go_wp2
              refine bodyPost_ret (v := .agg #[.int .i64 2, .int .i64 0, .int .u64 0, .string E]) (by simp [results, Tryd.results24, go_sem, cR0, cR1, cR2, cR3]) rfl ⟨by rw [HA2.out]; rfl, ?_⟩
              exact setB (setB (setB (setB ((hbb.trans (hbr.mono (by omega))).setCell (p := ⟨w.heap.size + 1, 3, none⟩) (by show _ ≤ w.heap.size + 1; omega) _))))
        · have HA : Hid (acc = guessT r) := by
            show _ = _
            rw [← HA0.out, hdr, hc, guess_zero_end _ (List.drop_of_length_le (by rw [Array.length_toList]; show s.size ≤ _; omega)), List.append_nil]
          clear hdr hc HA0
          rcases hor.2 with ⟨rfl, hnil⟩ | ⟨g, cap', cur, rfl, hg, hh, hr'⟩
          · have hcv := conv_nil
            have HA2 : Hid ((ByteArray.mk #[]) = ⟨(guessT r).toArray⟩) := by rw [← HA.out, List.eq_nil_of_length_eq_zero hnil]; rfl
            clear hnil hor
            go_wp2
            refine bodyPost_ret (v := .agg #[.int .i64 2, .int .i64 0, .int .u64 0, .string ⟨#[]⟩]) (by simp [results, Tryd.results24, go_sem, cR0, cR1, cR2, cR3]) rfl ⟨by rw [HA2.out]; rfl, ?_⟩
            exact setB (setB (setB (setB ((hbb.trans (hbr.mono (by omega))).setCell (p := ⟨w.heap.size + 1, 3, none⟩) (by show _ ≤ w.heap.size + 1; omega) _))))
          · have hcv := conv_row hor
            have HA2 : Hid ((ByteArray.mk acc.toArray) = ⟨(guessT r).toArray⟩) := by rw [← HA.out]; rfl
            clear hor hr' hh
            generalize ByteArray.mk acc.toArray = E at hcv HA2
            generalize acc.length = L at *
            go_wp2
            refine bodyPost_ret (v := .agg #[.int .i64 2, .int .i64 0, .int .u64 0, .string E]) (by simp [results, Tryd.results24, go_sem, cR0, cR1, cR2, cR3]) rfl ⟨by rw [HA2.out]; rfl, ?_⟩
            exact setB (setB (setB (setB ((hbb.trans (hbr.mono (by omega))).setCell (p := ⟨w.heap.size + 1, 3, none⟩) (by show _ ≤ w.heap.size + 1; omega) _))))
      · have hc' : ((s[j].toNat : Int) != 0) = true := by
          rw [bne_iff_ne]; intro e; exact hc (UInt8.toNat_inj.1 (show s[j].toNat = 0 by omega))
        have HA : Hid ((acc ++ [s[j]]) ++ guessT (s.data.toList.drop (j + 1)) = guessT r) := by
          show _ = _
          rw [← HA0.out, hdr, guessT_cons _ _ hc]; simp
        clear hdr hc HA0
        go_wp2_with (at_builtin; refine wpList_append_own _ rfl _ _ 41 rfl (w.heap.size + 2) 5 i1 (.int .u8 0) 1 1 Tryd.underlying41 hi1 hy0 hy1 hy2 rfl (by decide) _ _ _ rfl (hor.alloc _) ⟨wr.heap.size, 0, none⟩ 1 1 [.int .u8 (s[j].toNat : Int)] rfl rfl ?c1 ?c2 ?c3 ?c4 ?c5 ?_)
        case c1 =>
          intro j u hj
          match j, hj with
          | 0, hj => simp at hj; subst hj; simp [Addr.add]
        case c2 => intro u hu; simp at hu; subst hu; rfl
        case c3 => unfold maxLen; omega
        case c4 => omega
        case c5 => simp; omega
        intro v' w2 hown' hgrow' _
        have hown2 : Bytes w2 (w.heap.size + 2) v' (acc ++ [s[j]]) := by
          unfold Bytes
          rw [cells_snoc, List.length_append]
          exact hown'
        have hbr2 : Below (w.heap.size + 2) w0 w2 := (hbr.alloc (by omega) _).grown hgrow' (by simp; omega) (own_ge hor)
        clear hown' hgrow' hor cP0 cP1 cP2 cP3 cR0 cR1 cR2 cR3 fP fR
        go_wp2
        go_roundw
        case rel => exact ⟨j + 1, acc ++ [s[j]], by omega, by omega, by go_num, hown2, HA.out, by simp; omega, hbr2⟩
        case measure => simp [intOf]; omega
    · have HA : Hid (acc = guessT r) := by
        show _ = _
        rw [← HA0.out, List.drop_of_length_le (by rw [Array.length_toList]; show s.size ≤ _; omega)]
        exact (List.append_nil _).symm
      clear HA0
      rcases hor.2 with ⟨rfl, hnil⟩ | ⟨g, cap', cur, rfl, hg, hh, hr'⟩
      · have hcv := conv_nil
        have HA2 : Hid ((ByteArray.mk #[]) = ⟨(guessT r).toArray⟩) := by rw [← HA.out, List.eq_nil_of_length_eq_zero hnil]; rfl
        clear hnil hor
        go_wp2
        refine bodyPost_ret (v := .agg #[.int .i64 2, .int .i64 0, .int .u64 0, .string ⟨#[]⟩]) (by simp [results, Tryd.results24, go_sem, cR0, cR1, cR2, cR3]) rfl ⟨by rw [HA2.out]; rfl, ?_⟩
        exact setB (setB (setB (setB ((hbb.trans (hbr.mono (by omega))).setCell (p := ⟨w.heap.size + 1, 3, none⟩) (by show _ ≤ w.heap.size + 1; omega) _))))
      · have hcv := conv_row hor
        have HA2 : Hid ((ByteArray.mk acc.toArray) = ⟨(guessT r).toArray⟩) := by rw [← HA.out]; rfl
        clear hor hr' hh
        generalize ByteArray.mk acc.toArray = E at hcv HA2
        generalize acc.length = L at *
        go_wp2
        refine bodyPost_ret (v := .agg #[.int .i64 2, .int .i64 0, .int .u64 0, .string E]) (by simp [results, Tryd.results24, go_sem, cR0, cR1, cR2, cR3]) rfl ⟨by rw [HA2.out]; rfl, ?_⟩
        exact setB (setB (setB (setB ((hbb.trans (hbr.mono (by omega))).setCell (p := ⟨w.heap.size + 1, 3, none⟩) (by show _ ≤ w.heap.size + 1; omega) _))))

theorem qguess_any (c : UInt8) (r : List UInt8) (w : World) (hr : r.length ≤ 4000000000) :
    Calls Tryd.prog 24 #[.string ⟨(c :: r).toArray⟩] w fun e w' => e = .returned (guessP (c :: r)).val ∧ Below w.heap.size w w' := by
  by_cases h3 : c = 3
  · subst h3; exact qguess_t r w hr
  · by_cases h1 : c = 1 ∧ 8 ≤ r.length
    · obtain ⟨rfl, h⟩ := h1; exact qguess_0 r w h
    · by_cases h2 : c = 2 ∧ 8 ≤ r.length
      · obtain ⟨rfl, h⟩ := h2; exact qguess_1 r w h
      · exact qguess_o c r w h3 h1 h2
end Go.Proofs.YtghneolphdfdlaaDoor
