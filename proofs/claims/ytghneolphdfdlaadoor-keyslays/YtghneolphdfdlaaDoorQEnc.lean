/- The bytes of a key, by the document. -/
import Derived.Test.YtghneolphdfdlaaDoorQBytes
import Derived.Test.YtghneolphdfdlaaDoorQChk
import Derived.Test.YtghneolphdfdlaaDoorEnc
namespace Go.Proofs.YtghneolphdfdlaaDoor
open Go Go.RowKit

theorem mk_app (l m : List UInt8) : (ByteArray.mk l.toArray) ++ (ByteArray.mk m.toArray) = ⟨(l ++ m).toArray⟩ := by
  apply ByteArray.ext; simp

set_option maxHeartbeats 2000000 in
theorem qencode_yes (v : Value) (ps : List Pt) (w : World) (hp : PartsAt w v ps) (hW : Words ps) (hk : keyB ps = true) :
    Calls Tryd.prog 10 #[v] w fun e w' => e = .returned (.tuple #[.string ⟨(encL ps).toArray⟩, .int .i64 0]) ∧ Below w.heap.size w w' := by
  obtain ⟨hlen, hall⟩ := keyB_parts hk
  have CK := qcheck_any v ps w hp (by omega)
  rw [check_yes hk] at CK
  clear hk
  obtain ⟨a, cap, rfl, hcap, hcells⟩ := hp
  go_enter Tryd.func10, Tryd.ntmps10
  go_wp2_with (go_at_call 18; refine CK.mono ?_; rintro e w1 ⟨rfl, hb1⟩)
  go_loopw [5, 6] (fun o i wr => ∃ j : Nat, j ≤ ps.length ∧ i = .int .i64 j ∧ o = .string ⟨(encL (ps.take j)).toArray⟩ ∧ Below w.heap.size w wr) (fun _ i _ => ps.length - (intOf i).toNat)
  case atStart => exact ⟨0, Nat.zero_le _, rfl, rfl, hb1⟩
  case round =>
    obtain ⟨j, hj, rfl, rfl, hbr⟩ := hrel
    have hz := hbr.size
    have hel := encL_len _ (all_take hall j)
    have htl : (ps.take j).length ≤ 16 := by rw [List.length_take]; omega
    by_cases hlt : j < ps.length
    · obtain ⟨b, o, rfl, hblt, hc⟩ := hcells (by intro e; rw [e] at hlt; simp at hlt)
      obtain ⟨h0, h1, h2, h3⟩ := hc j ps[j] (List.getElem?_eq_getElem hlt)
      have hbw := hW ps[j] (List.getElem_mem hlt)
      have hm : mayB ps[j] = true := by rw [List.all_eq_true] at hall; exact hall _ (List.getElem_mem hlt)
      have HS : Hid ((ByteArray.mk (encL (ps.take j)).toArray) ++ (ByteArray.mk (encP ps[j]).toArray) = ⟨(encL (ps.take (j + 1))).toArray⟩) := by
        show _ = _
        rw [mk_app, encL_snoc ps j hlt]
      have hs1 : (ByteArray.mk (encL (ps.take j)).toArray).size ≤ 8208 := by rw [mk_len]; omega
      have hs2 : (ByteArray.mk (encP ps[j]).toArray).size ≤ 513 := by rw [mk_len]; exact encP_len _ hm
      have PP := fun w => qbytes_any ps[j] w hm hbw
      generalize ByteArray.mk (encL (ps.take j)).toArray = S at HS hs1 ⊢
      generalize ByteArray.mk (encP ps[j]).toArray = T at HS hs2 PP
      clear hm hbw
      generalize ps[j] = p at PP h0 h1 h2 h3
      obtain ⟨k, i, b', t⟩ := p
      obtain ⟨hc', hf'⟩ := bcell hbr
      simp only [Pt.val, Pt.cells] at PP h0 h1 h2 h3
      rw [← hc' b _ hblt] at h0 h1 h2 h3
      clear hc' hf' hc hcells hel htl
      go_wp2_with (go_at_call 22; refine (PP _).mono ?_; rintro e w3 ⟨rfl, hb3⟩)
      go_roundw
      case rel => exact ⟨j + 1, by omega, by go_num, by rw [← HS.out], hbr.trans (hb3.mono hz)⟩
      case measure => simp [intOf]; omega
    · have HT : Hid (ps.take j = ps) := List.take_of_length_le (by omega)
      rw [HT.out]
      clear hel htl
      go_wp2
      go_ret2
      exact ⟨rfl, hbr⟩

theorem qencode_no (v : Value) (ps : List Pt) (w : World) (hp : PartsAt w v ps) (hl : ps.length ≤ 1099511627776000) (hk : keyB ps = false) :
    Calls Tryd.prog 10 #[v] w fun e w' => e = .returned (.tuple #[.string ⟨#[]⟩, .int .i64 30]) ∧ Below w.heap.size w w' := by
  have CK := qcheck_any v ps w hp hl
  rw [check_no hk] at CK
  go_enter Tryd.func10, Tryd.ntmps10
  go_wp2_with (go_at_call 18; refine CK.mono ?_; rintro e w1 ⟨rfl, hb1⟩)
  go_ret2
  exact ⟨rfl, hb1⟩
end Go.Proofs.YtghneolphdfdlaaDoor
