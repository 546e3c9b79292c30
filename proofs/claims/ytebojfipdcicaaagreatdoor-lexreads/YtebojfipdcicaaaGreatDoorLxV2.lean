/- How a text is quoted, by the document: the walk. -/
import Derived.Test.YtebojfipdcicaaaGreatDoorLxV1
namespace Go.Proofs.YtebojfipdcicaaaGreatDoor
open Go Go.RowKit
theorem at_suf0 {s : Bs} {c : UInt8} {r : Bs} (h : (c :: r) <:+ s) : ∀ hh, (ByteArray.mk s.toArray)[s.length - (c :: r).length]'hh = c := by
  obtain ⟨p, rfl⟩ := h
  intro hh
  show (p ++ c :: r).toArray[(p ++ c :: r).length - (c :: r).length] = c
  simp
theorem at_suf1 {s : Bs} {c d : UInt8} {r : Bs} (h : (c :: d :: r) <:+ s) : ∀ hh, (ByteArray.mk s.toArray)[s.length - (c :: d :: r).length + 1]'hh = d := by
  obtain ⟨p, rfl⟩ := h
  intro hh
  show (p ++ c :: d :: r).toArray[(p ++ c :: d :: r).length - (c :: d :: r).length + 1] = d
  simp
theorem at_suf2 {s : Bs} {c d e : UInt8} {r : Bs} (h : (c :: d :: e :: r) <:+ s) : ∀ hh, (ByteArray.mk s.toArray)[s.length - (c :: d :: e :: r).length + 2]'hh = e := by
  obtain ⟨p, rfl⟩ := h
  intro hh
  show (p ++ c :: d :: e :: r).toArray[(p ++ c :: d :: e :: r).length - (c :: d :: e :: r).length + 2] = e
  simp

set_option maxRecDepth 100000 in
set_option maxHeartbeats 4000000 in
theorem xquote_any (s : Bs) (hs : s.length ≤ 1048576) (w : World) : Calls Tryz.prog 16 #[.string ⟨s.toArray⟩] w fun e w' => e = .returned (.string ⟨(quoS s).toArray⟩) ∧ Below w.heap.size w w' := by
  obtain ⟨i1, hi1, hy0, hy1, hy2⟩ := info_parts Tryz.infoByte
  have hsz := size_of s
  have hsI : (s.length : Int) ≤ 1048576 := by omega
  have hown0 := own_quote w
  generalize hD : (ByteArray.mk s.toArray) = D at *
  go_enter Tryz.func16, Tryz.ntmps16
  go_wp2
  go_loopw [3, 4] (fun o v wr => ∃ l acc, v = .int .i64 ((s.length - l.length : Nat) : Int) ∧ QdS s w wr o l acc) (fun _ v _ => s.length - (RowKit.intOf v).toNat)
  case atStart => exact ⟨s, [34], by simp, List.suffix_refl _, rfl, by simp, hown0, (Below.refl _ _).alloc (Nat.le_refl _) _⟩
  case round =>
    clear hown0
    obtain ⟨l, acc, rfl, hQ⟩ := hrel
    have hbel := hQ.bel
    have hor := hQ.own
    have hlen := hQ.len
    have hz1 := hbel.size
    cases l with
    | nil =>
      have HE : Hid (acc ++ [34] = quoS s) := by
        show _ = _
        have := hQ.eq
        unfold quoS
        rw [show quoL [] = [] from rfl, List.append_nil] at this
        rw [this]
        rfl
      have hal : acc.length ≤ 6291457 := by simp at hlen; omega
      clear hQ hlen
      go_wp2_with (first
        | (at_builtin; refine wpList_append_own _ rfl _ _ 33 rfl w.heap.size 5 i1 (.int .u8 0) 1 1 Tryz.underlying33 hi1 hy0 hy1 hy2 rfl (by decide) _ _ _ rfl (hor.alloc _) ⟨wr.heap.size, 0, none⟩ 1 1 [.int .u8 34] rfl rfl ?c1 ?c2 ?c3 ?c4 ?c5 ?_)
        | fail)
      case c1 =>
        intro j u hj
        match j, hj with
        | 0, hj => simp at hj; subst hj; simp [Addr.add]
      case c2 => intro u hu; simp at hu; first | (subst hu; rfl) | (rcases hu with rfl | rfl <;> rfl) | (rcases hu with rfl | rfl | rfl | rfl | rfl | rfl <;> rfl)
      case c3 => unfold maxLen; simp; omega
      case c4 => simp; omega
      case c5 => simp; omega
      intro v' w2 hown' hgrow' _
      have hown2 : Bytes w2 w.heap.size v' (acc ++ [34]) := by
        unfold Bytes
        rw [cells_app, List.length_append]
        exact hown'
      have hbr2 : Below w.heap.size w w2 := (hbel.alloc hz1 _).grown hgrow' (by simp; omega) (own_ge hor)
      clear hown' hgrow' hor
      generalize acc ++ [34] = acc2 at *
      rcases hown2.2 with ⟨_, hnil⟩ | ⟨g, cap', cur, rfl, hg, hh, hr⟩
      · exfalso
        have e := HE.out
        rw [List.length_eq_zero_iff.1 hnil] at e
        unfold quoS at e
        cases e
      · have hcv := conv_row hown2
        generalize acc2.length = L at hcv
        have HF : Hid ((ByteArray.mk acc2.toArray) = ⟨(quoS s).toArray⟩) := by show _ = _; rw [HE.out]
        clear hown2 hh hr HE
        generalize (ByteArray.mk acc2.toArray) = E at *
        go_wp2
        go_ret
        exact ⟨by rw [← HF.out]; rfl, hbr2⟩
    | cons c r =>
      have hp := pieceQ_len c r
      have hle : (c :: r).length ≤ s.length := hQ.suf.length_le
      have HQ : Hid (QdS s w wr _ (c :: r) acc) := hQ
      have hal : acc.length ≤ 6291457 := by simp at hlen hle; omega
      have g0 := at_suf0 hQ.suf
      have gX : ∀ hh, (((ByteArray.mk s.toArray)[s.length - (c :: r).length]'hh).toNat : Int) = (c.toNat : Int) := fun hh => by rw [g0 hh]
      rw [hD] at gX g0
      have b1 : ((s.length - (c :: r).length : Nat) : Int) < (s.length : Int) := by simp only [List.length_cons] at hle ⊢; omega
      have b2 : (0 : Int) ≤ ((s.length - (c :: r).length : Nat) : Int) := by omega
      have b3 : (((s.length - (c :: r).length : Nat) : Int)).toNat = s.length - (c :: r).length := by omega
      have b4 : ((s.length - (c :: r).length : Nat) : Int) ≤ 1048576 := by omega
      have hcl := c.toNat_lt
      have c1 : (0 : Int) ≤ (c.toNat : Int) := by omega
      have c2 : (c.toNat : Int) < 256 := by omega
      have HA : Hid (s.length - (c :: r).length + (c :: r).length = s.length) := by show _ = _; omega
      by_cases h237 : c = 237
      · subst h237
        have hPn : halfQ (237 :: r) = none → pieceQ 237 r = ([237], 1) := by
          intro h
          unfold pieceQ
          rw [h]
          rfl
        have HN : Hid (((s.length - (237 :: r).length : Nat) : Int) + 1 = ((s.length - ((237 :: r).drop 1).length : Nat) : Int)) := by
          show _ = _
          rw [List.length_drop]; simp only [List.length_cons] at hle ⊢; omega
        have gX : ∀ hh, ((D[s.length - (237 :: r).length]'hh).toNat : Int) = 237 := gX
        rcases r with _ | ⟨d, _ | ⟨e, r⟩⟩
        · have HP : Hid (pieceQ 237 [] = ([237], 1)) := hPn rfl
          have l1 : ¬ (3 : Int) ≤ (s.length : Int) - ((s.length - (237 :: [] : Bs).length : Nat) : Int) := by simp only [List.length_cons, List.length_nil] at hle ⊢; omega
          have l2 := decide_eq_false l1
          have l3 : (s.length : Int) - ((s.length - (237 :: [] : Bs).length : Nat) : Int) = 1 := by simp only [List.length_cons, List.length_nil] at hle ⊢; omega
          clear l1
          clear hQ hp hlen hle hcl g0 c1 c2 hPn
          generalize hgA : s.length - (237 :: []).length = A at *
          clear hgA
          go_wp2_with (first
            | (at_builtin; refine wpList_append_own _ rfl _ _ 33 rfl w.heap.size 5 i1 (.int .u8 0) 1 1 Tryz.underlying33 hi1 hy0 hy1 hy2 rfl (by decide) _ _ _ rfl (hor.alloc _) ⟨wr.heap.size, 0, none⟩ 1 1 [.int .u8 237] rfl rfl ?c1 ?c2 ?c3 ?c4 ?c5 ?_)
            | fail)
          case c1 =>
            intro j u hj
            match j, hj with
            | 0, hj => simp at hj; subst hj; simp [Addr.add]
          case c2 => intro u hu; simp at hu; first | (subst hu; rfl) | (rcases hu with rfl | rfl <;> rfl) | (rcases hu with rfl | rfl | rfl | rfl | rfl | rfl <;> rfl)
          case c3 => unfold maxLen; simp; omega
          case c4 => simp; omega
          case c5 => simp; omega
          intro v' w2 hown' hgrow' _
          have hq2 : QdS s w w2 v' ((237 :: []).drop 1) (acc ++ [237]) := HQ.out.next HP.out hown' hgrow'
          clear hown' hgrow' hor
          go_wp2
          refine ⟨⟨(237 :: []).drop 1, acc ++ [237], congrArg (Value.int .i64) (by have h9 := HN.out; omega), hq2⟩, ?_⟩
          have h3 := HA.out
          have h4 := HQ.out.suf.length_le
          simp [RowKit.intOf]
          simp at h3 h4
          omega
        · have HP : Hid (pieceQ 237 [d] = ([237], 1)) := hPn rfl
          have l1 : ¬ (3 : Int) ≤ (s.length : Int) - ((s.length - (237 :: [d] : Bs).length : Nat) : Int) := by simp only [List.length_cons, List.length_nil] at hle ⊢; omega
          have l2 := decide_eq_false l1
          have l3 : (s.length : Int) - ((s.length - (237 :: [d] : Bs).length : Nat) : Int) = 2 := by simp only [List.length_cons, List.length_nil] at hle ⊢; omega
          clear l1
          clear hQ hp hlen hle hcl g0 c1 c2 hPn
          generalize hgA : s.length - (237 :: [d]).length = A at *
          clear hgA
          go_wp2_with (first
            | (at_builtin; refine wpList_append_own _ rfl _ _ 33 rfl w.heap.size 5 i1 (.int .u8 0) 1 1 Tryz.underlying33 hi1 hy0 hy1 hy2 rfl (by decide) _ _ _ rfl (hor.alloc _) ⟨wr.heap.size, 0, none⟩ 1 1 [.int .u8 237] rfl rfl ?c1 ?c2 ?c3 ?c4 ?c5 ?_)
            | fail)
          case c1 =>
            intro j u hj
            match j, hj with
            | 0, hj => simp at hj; subst hj; simp [Addr.add]
          case c2 => intro u hu; simp at hu; first | (subst hu; rfl) | (rcases hu with rfl | rfl <;> rfl) | (rcases hu with rfl | rfl | rfl | rfl | rfl | rfl <;> rfl)
          case c3 => unfold maxLen; simp; omega
          case c4 => simp; omega
          case c5 => simp; omega
          intro v' w2 hown' hgrow' _
          have hq2 : QdS s w w2 v' ((237 :: [d]).drop 1) (acc ++ [237]) := HQ.out.next HP.out hown' hgrow'
          clear hown' hgrow' hor
          go_wp2
          refine ⟨⟨(237 :: [d]).drop 1, acc ++ [237], congrArg (Value.int .i64) (by have h9 := HN.out; omega), hq2⟩, ?_⟩
          have h3 := HA.out
          have h4 := HQ.out.suf.length_le
          simp [RowKit.intOf]
          simp at h3 h4
          omega
        · have g1 := at_suf1 hQ.suf
          have g2 := at_suf2 hQ.suf
          have gD : ∀ hh, (((ByteArray.mk s.toArray)[s.length - (237 :: d :: e :: r).length + 1]'hh).toNat : Int) = (d.toNat : Int) := fun hh => by rw [g1 hh]
          have gE : ∀ hh, (((ByteArray.mk s.toArray)[s.length - (237 :: d :: e :: r).length + 2]'hh).toNat : Int) = (e.toNat : Int) := fun hh => by rw [g2 hh]
          rw [hD] at gD gE
          have l2 : decide ((3 : Int) ≤ (s.length : Int) - ((s.length - (237 :: d :: e :: r).length : Nat) : Int)) = true := decide_eq_true (by simp only [List.length_cons] at hle ⊢; omega)
          have l4 : ((s.length - (237 :: d :: e :: r).length : Nat) : Int) + 1 < (s.length : Int) := by simp only [List.length_cons] at hle ⊢; omega
          have l5 : ((s.length - (237 :: d :: e :: r).length : Nat) : Int) + 2 < (s.length : Int) := by simp only [List.length_cons] at hle ⊢; omega
          have l6 : (((s.length - (237 :: d :: e :: r).length : Nat) : Int) + 1).toNat = s.length - (237 :: d :: e :: r).length + 1 := by omega
          have l7 : (((s.length - (237 :: d :: e :: r).length : Nat) : Int) + 2).toNat = s.length - (237 :: d :: e :: r).length + 2 := by omega
          have l8 : (3 : Int) ≤ (s.length : Int) - ((s.length - (237 :: d :: e :: r).length : Nat) : Int) := of_decide_eq_true l2
          have hdl := d.toNat_lt
          have hel := e.toNat_lt
          have d1 : (0 : Int) ≤ (d.toNat : Int) := by omega
          have d2 : (d.toNat : Int) < 256 := by omega
          have e1 : (0 : Int) ≤ (e.toNat : Int) := by omega
          have e2 : (e.toNat : Int) < 256 := by omega
          by_cases hC : halfC 237 d e
          · obtain ⟨h1, h2, h3⟩ := halfN_yes hC
            have hP : pieceQ 237 (d :: e :: r) = (escQ (halfV d e), 3) := by
              unfold pieceQ
              rw [show halfQ (237 :: d :: e :: r) = some (halfV d e) from if_pos hC]
            unfold escQ at hP
            obtain ⟨_, k1, k2, k3, k4⟩ := hC
            have hV : 53248 + ((d.toNat : Int) - 128) * 64 + ((e.toNat : Int) - 128) = (halfV d e : Nat) := by
              have h5 : halfN 237 d e = ((237 : UInt8).toNat : Int) * 4096 - 224 * 4096 + ((d.toNat : Int) - 128) * 64 + (e.toNat : Int) - 128 := by unfold halfN; omega
              rw [show ((237 : UInt8).toNat : Int) = 237 from rfl] at h5
              omega
            have k5 : (160 : Int) ≤ (d.toNat : Int) := by omega
            have k6 : (d.toNat : Int) ≤ 191 := by omega
            have k7 : (128 : Int) ≤ (e.toNat : Int) := by omega
            have k8 : (e.toNat : Int) ≤ 191 := by omega
            have HP : Hid (pieceQ 237 (d :: e :: r) = ([92, 117, hexD (halfV d e / 4096), hexD (halfV d e / 256 % 16), hexD (halfV d e / 16 % 16), hexD (halfV d e % 16)], 3)) := hP
            have HN : Hid (((s.length - (237 :: d :: e :: r).length : Nat) : Int) + 3 = ((s.length - ((237 :: d :: e :: r).drop 3).length : Nat) : Int)) := by
              show _ = _
              rw [List.length_drop]; simp only [List.length_cons] at hle ⊢; omega
            clear hP hPn h1 hQ hp hlen hle hcl g0 g1 g2 k1 k2 k3 k4 hdl hel c1 c2
            generalize hgA : s.length - (237 :: d :: e :: r).length = A at *
            clear hgA
            generalize hgV : halfV d e = V at *
            clear hgV
            generalize (d.toNat : Int) = X at *
            generalize (e.toNat : Int) = Y at *
            have y0 : (0 : Int) ≤ (V : Int) := by omega
            have y1 : (V : Int) < 65536 := by omega
            have D1 := fun w => digit_sym (V / 4096) (by omega) w
            have D2 := fun w => digit_sym (V / 256 % 16) (by omega) w
            have D3 := fun w => digit_sym (V / 16 % 16) (by omega) w
            have D4 := fun w => digit_sym (V % 16) (by omega) w
            have e1 : (V : Int) / 4096 = ((V / 4096 : Nat) : Int) := by omega
            have e2 : (V : Int) / 256 = ((V / 256 : Nat) : Int) := by omega
            have e3 : (V : Int) / 16 = ((V / 16 : Nat) : Int) := by omega
            have e4 : (V : Int) % 16 = ((V % 16 : Nat) : Int) := by omega
            have e5 : ((V / 256 : Nat) : Int) % 16 = ((V / 256 % 16 : Nat) : Int) := by omega
            have e6 : ((V / 16 : Nat) : Int) % 16 = ((V / 16 % 16 : Nat) : Int) := by omega
            have e7 : ((V / 256 : Nat) : Int) < 65536 := by omega
            have e8 : ((V / 16 : Nat) : Int) < 65536 := by omega
            have e9 : ((V / 4096 : Nat) : Int) < 65536 := by omega
            generalize hexD (V / 4096) = p1 at *
            generalize hexD (V / 256 % 16) = p2 at *
            generalize hexD (V / 16 % 16) = p3 at *
            generalize hexD (V % 16) = p4 at *
            generalize V / 4096 = v1 at *
            generalize V / 256 % 16 = v2 at *
            generalize V / 16 % 16 = v3 at *
            generalize V % 16 = v4 at *
            generalize V / 256 = v5 at *
            generalize V / 16 = v6 at *
            go_wp2
            go_quiet (fail)
            have hQ9 := HQ.out.drewN nq
            have hor := hQ9.own
            have hbel := hQ9.bel
            have hz1 := hbel.size
            clear HQ
            have HQ : Hid (QdS s w (wr.drewN nq) _ (237 :: d :: e :: r) acc) := hQ9
            clear hQ9
            generalize wr.drewN nq = wr9 at *
            go_wp2_with (first
              | (at_builtin; refine wpList_append_own _ rfl _ _ 33 rfl w.heap.size 5 i1 (.int .u8 0) 1 1 Tryz.underlying33 hi1 hy0 hy1 hy2 rfl (by decide) _ _ _ rfl (hor.alloc _) ⟨wr9.heap.size, 0, none⟩ 6 6 [.int .u8 92, .int .u8 117, .int .u8 (p1.toNat : Int), .int .u8 (p2.toNat : Int), .int .u8 (p3.toNat : Int), .int .u8 (p4.toNat : Int)] rfl rfl ?c1 ?c2 ?c3 ?c4 ?c5 ?_)
              | (go_at_call 34; with_reducible refine (D1 _).mono ?_; rintro e w7 ⟨rfl, rfl⟩)
              | (go_at_call 34; with_reducible refine (D2 _).mono ?_; rintro e w7 ⟨rfl, rfl⟩)
              | (go_at_call 34; with_reducible refine (D3 _).mono ?_; rintro e w7 ⟨rfl, rfl⟩)
              | (go_at_call 34; with_reducible refine (D4 _).mono ?_; rintro e w7 ⟨rfl, rfl⟩)
              | fail)
            case c1 =>
              intro j u hj
              match j, hj with
              | 0, hj => simp at hj; subst hj; simp [Addr.add]
              | 1, hj => simp at hj; subst hj; simp [Addr.add]
              | 2, hj => simp at hj; subst hj; simp [Addr.add]
              | 3, hj => simp at hj; subst hj; simp [Addr.add]
              | 4, hj => simp at hj; subst hj; simp [Addr.add]
              | 5, hj => simp at hj; subst hj; simp [Addr.add]
            case c2 => intro u hu; simp at hu; first | (subst hu; rfl) | (rcases hu with rfl | rfl <;> rfl) | (rcases hu with rfl | rfl | rfl | rfl | rfl | rfl <;> rfl)
            case c3 => unfold maxLen; simp; omega
            case c4 => simp; omega
            case c5 => simp; omega
            intro v' w2 hown' hgrow' _
            have hq2 : QdS s w w2 v' ((237 :: d :: e :: r).drop 3) (acc ++ [92, 117, p1, p2, p3, p4]) := HQ.out.next HP.out hown' hgrow'
            clear hown' hgrow' hor
            go_wp2
            refine ⟨⟨(237 :: d :: e :: r).drop 3, acc ++ [92, 117, p1, p2, p3, p4], congrArg (Value.int .i64) (by have h9 := HN.out; omega), hq2⟩, ?_⟩
            have h3 := HA.out
            have h4 := HQ.out.suf.length_le
            simp [RowKit.intOf]
            simp at h3 h4
            omega
          · have HP : Hid (pieceQ 237 (d :: e :: r) = ([237], 1)) := hPn (if_neg hC)
            have hcase : (¬ (160 : Int) ≤ (d.toNat : Int)) ∨ ((160 : Int) ≤ (d.toNat : Int) ∧ ¬ (d.toNat : Int) ≤ 191) ∨ ((160 : Int) ≤ (d.toNat : Int) ∧ (d.toNat : Int) ≤ 191 ∧ ¬ (128 : Int) ≤ (e.toNat : Int)) ∨ ((160 : Int) ≤ (d.toNat : Int) ∧ (d.toNat : Int) ≤ 191 ∧ (128 : Int) ≤ (e.toNat : Int) ∧ ¬ (e.toNat : Int) ≤ 191) := by
              have := hC
              unfold halfC at this
              simp only [true_and] at this
              omega
            clear hQ hp hlen hle hcl g0 g1 g2 hdl hel c1 c2 hPn hC
            generalize hgA : s.length - (237 :: d :: e :: r).length = A at *
            clear hgA
            generalize (d.toNat : Int) = X at *
            generalize (e.toNat : Int) = Y at *
            rcases hcase with k1 | ⟨k1, k2⟩ | ⟨k1, k2, k3⟩ | ⟨k1, k2, k3, k4⟩
            · have j1 := decide_eq_false k1
              clear k1
              go_wp2_with (first
                | (at_builtin; refine wpList_append_own _ rfl _ _ 33 rfl w.heap.size 5 i1 (.int .u8 0) 1 1 Tryz.underlying33 hi1 hy0 hy1 hy2 rfl (by decide) _ _ _ rfl (hor.alloc _) ⟨wr.heap.size, 0, none⟩ 1 1 [.int .u8 237] rfl rfl ?c1 ?c2 ?c3 ?c4 ?c5 ?_)
                | fail)
              case c1 =>
                intro j u hj
                match j, hj with
                | 0, hj => simp at hj; subst hj; simp [Addr.add]
              case c2 => intro u hu; simp at hu; first | (subst hu; rfl) | (rcases hu with rfl | rfl <;> rfl) | (rcases hu with rfl | rfl | rfl | rfl | rfl | rfl <;> rfl)
              case c3 => unfold maxLen; simp; omega
              case c4 => simp; omega
              case c5 => simp; omega
              intro v' w2 hown' hgrow' _
              have hq2 : QdS s w w2 v' ((237 :: d :: e :: r).drop 1) (acc ++ [237]) := HQ.out.next HP.out hown' hgrow'
              clear hown' hgrow' hor
              go_wp2
              refine ⟨⟨(237 :: d :: e :: r).drop 1, acc ++ [237], congrArg (Value.int .i64) (by have h9 := HN.out; omega), hq2⟩, ?_⟩
              have h3 := HA.out
              have h4 := HQ.out.suf.length_le
              simp [RowKit.intOf]
              simp at h3 h4
              omega
            · have j1 := decide_eq_true k1
              have j2 := decide_eq_false k2
              clear k2
              go_wp2_with (first
                | (at_builtin; refine wpList_append_own _ rfl _ _ 33 rfl w.heap.size 5 i1 (.int .u8 0) 1 1 Tryz.underlying33 hi1 hy0 hy1 hy2 rfl (by decide) _ _ _ rfl (hor.alloc _) ⟨wr.heap.size, 0, none⟩ 1 1 [.int .u8 237] rfl rfl ?c1 ?c2 ?c3 ?c4 ?c5 ?_)
                | fail)
              case c1 =>
                intro j u hj
                match j, hj with
                | 0, hj => simp at hj; subst hj; simp [Addr.add]
              case c2 => intro u hu; simp at hu; first | (subst hu; rfl) | (rcases hu with rfl | rfl <;> rfl) | (rcases hu with rfl | rfl | rfl | rfl | rfl | rfl <;> rfl)
              case c3 => unfold maxLen; simp; omega
              case c4 => simp; omega
              case c5 => simp; omega
              intro v' w2 hown' hgrow' _
              have hq2 : QdS s w w2 v' ((237 :: d :: e :: r).drop 1) (acc ++ [237]) := HQ.out.next HP.out hown' hgrow'
              clear hown' hgrow' hor
              go_wp2
              refine ⟨⟨(237 :: d :: e :: r).drop 1, acc ++ [237], congrArg (Value.int .i64) (by have h9 := HN.out; omega), hq2⟩, ?_⟩
              have h3 := HA.out
              have h4 := HQ.out.suf.length_le
              simp [RowKit.intOf]
              simp at h3 h4
              omega
            · have j1 := decide_eq_true k1
              have j2 := decide_eq_true k2
              have j3 := decide_eq_false k3
              clear k3
              go_wp2_with (first
                | (at_builtin; refine wpList_append_own _ rfl _ _ 33 rfl w.heap.size 5 i1 (.int .u8 0) 1 1 Tryz.underlying33 hi1 hy0 hy1 hy2 rfl (by decide) _ _ _ rfl (hor.alloc _) ⟨wr.heap.size, 0, none⟩ 1 1 [.int .u8 237] rfl rfl ?c1 ?c2 ?c3 ?c4 ?c5 ?_)
                | fail)
              case c1 =>
                intro j u hj
                match j, hj with
                | 0, hj => simp at hj; subst hj; simp [Addr.add]
              case c2 => intro u hu; simp at hu; first | (subst hu; rfl) | (rcases hu with rfl | rfl <;> rfl) | (rcases hu with rfl | rfl | rfl | rfl | rfl | rfl <;> rfl)
              case c3 => unfold maxLen; simp; omega
              case c4 => simp; omega
              case c5 => simp; omega
              intro v' w2 hown' hgrow' _
              have hq2 : QdS s w w2 v' ((237 :: d :: e :: r).drop 1) (acc ++ [237]) := HQ.out.next HP.out hown' hgrow'
              clear hown' hgrow' hor
              go_wp2
              refine ⟨⟨(237 :: d :: e :: r).drop 1, acc ++ [237], congrArg (Value.int .i64) (by have h9 := HN.out; omega), hq2⟩, ?_⟩
              have h3 := HA.out
              have h4 := HQ.out.suf.length_le
              simp [RowKit.intOf]
              simp at h3 h4
              omega
            · have j1 := decide_eq_true k1
              have j2 := decide_eq_true k2
              have j3 := decide_eq_true k3
              have j4 := decide_eq_false k4
              clear k4
              go_wp2_with (first
                | (at_builtin; refine wpList_append_own _ rfl _ _ 33 rfl w.heap.size 5 i1 (.int .u8 0) 1 1 Tryz.underlying33 hi1 hy0 hy1 hy2 rfl (by decide) _ _ _ rfl (hor.alloc _) ⟨wr.heap.size, 0, none⟩ 1 1 [.int .u8 237] rfl rfl ?c1 ?c2 ?c3 ?c4 ?c5 ?_)
                | fail)
              case c1 =>
                intro j u hj
                match j, hj with
                | 0, hj => simp at hj; subst hj; simp [Addr.add]
              case c2 => intro u hu; simp at hu; first | (subst hu; rfl) | (rcases hu with rfl | rfl <;> rfl) | (rcases hu with rfl | rfl | rfl | rfl | rfl | rfl <;> rfl)
              case c3 => unfold maxLen; simp; omega
              case c4 => simp; omega
              case c5 => simp; omega
              intro v' w2 hown' hgrow' _
              have hq2 : QdS s w w2 v' ((237 :: d :: e :: r).drop 1) (acc ++ [237]) := HQ.out.next HP.out hown' hgrow'
              clear hown' hgrow' hor
              go_wp2
              refine ⟨⟨(237 :: d :: e :: r).drop 1, acc ++ [237], congrArg (Value.int .i64) (by have h9 := HN.out; omega), hq2⟩, ?_⟩
              have h3 := HA.out
              have h4 := HQ.out.suf.length_le
              simp [RowKit.intOf]
              simp at h3 h4
              omega
      · have m0 : ((c.toNat : Int) == 237) = false := beq_eq_false_iff_ne.2 (fun e => h237 (u8_eq (by rw [show (237 : UInt8).toNat = 237 from rfl]; omega)))
        have hq : halfQ (c :: r) = none := by
          match r with
          | [] => rfl
          | [_] => rfl
          | d :: e :: r => exact if_neg (fun h => h237 h.1)
        have hP : pieceQ c r = (if c = 34 ∨ c = 92 then [92, c] else if c.toNat < 32 ∨ c = 127 then escQ c.toNat else [c], 1) := by unfold pieceQ; rw [hq]
        have HN : Hid (((s.length - (c :: r).length : Nat) : Int) + 1 = ((s.length - ((c :: r).drop 1).length : Nat) : Int)) := by
          show _ = _
          rw [List.length_drop]; simp only [List.length_cons] at hle ⊢; omega
        by_cases hA : c = 34 ∨ c = 92
        · rw [if_pos hA] at hP
          have HP : Hid (pieceQ c r = ([92, c], 1)) := hP
          have n1 : ¬ (c.toNat : Int) < 32 := by rcases hA with rfl | rfl <;> decide
          have m1 : decide ((c.toNat : Int) < 32) = false := decide_eq_false n1
          have m2 : ((c.toNat : Int) == 127) = false := by rcases hA with rfl | rfl <;> decide
          have m3 : ((c.toNat : Int) == 34) = true ∨ (((c.toNat : Int) == 34) = false ∧ ((c.toNat : Int) == 92) = true) := by rcases hA with rfl | rfl <;> decide
          clear hA hP hq h237 hQ hp hlen hle hcl g0
          generalize hgA : s.length - (c :: r).length = A at *
          clear hgA n1
          generalize hgX : (c.toNat : Int) = X at *
          rcases m3 with m3 | ⟨m3, m4⟩
          all_goals
            go_wp2_with (first
              | (at_builtin; refine wpList_append_own _ rfl _ _ 33 rfl w.heap.size 5 i1 (.int .u8 0) 1 1 Tryz.underlying33 hi1 hy0 hy1 hy2 rfl (by decide) _ _ _ rfl (hor.alloc _) ⟨wr.heap.size, 0, none⟩ 2 2 [.int .u8 92, .int .u8 X] rfl rfl ?c1 ?c2 ?c3 ?c4 ?c5 ?_)
              | fail)
            case c1 =>
              intro j u hj
              match j, hj with
              | 0, hj => simp at hj; subst hj; simp [Addr.add]
              | 1, hj => simp at hj; subst hj; simp [Addr.add]
            case c2 => intro u hu; simp at hu; first | (subst hu; rfl) | (rcases hu with rfl | rfl <;> rfl) | (rcases hu with rfl | rfl | rfl | rfl | rfl | rfl <;> rfl)
            case c3 => unfold maxLen; simp; omega
            case c4 => simp; omega
            case c5 => simp; omega
            intro v' w2 hown' hgrow' _
            subst hgX
            have hq2 : QdS s w w2 v' ((c :: r).drop 1) (acc ++ [92, c]) := HQ.out.next HP.out hown' hgrow'
            clear hown' hgrow' hor
            go_wp2
            refine ⟨⟨(c :: r).drop 1, acc ++ [92, c], congrArg (Value.int .i64) (by have h9 := HN.out; omega), hq2⟩, ?_⟩
            have h3 := HA.out
            have h4 := HQ.out.suf.length_le
            simp [RowKit.intOf]
            simp at h3 h4
            omega
        · rw [if_neg hA] at hP
          have n34 : ¬ c.toNat = 34 := fun e => hA (Or.inl (u8_eq e))
          have n92 : ¬ c.toNat = 92 := fun e => hA (Or.inr (u8_eq e))
          have m3 : ((c.toNat : Int) == 34) = false := beq_eq_false_iff_ne.2 (by omega)
          have m4 : ((c.toNat : Int) == 92) = false := beq_eq_false_iff_ne.2 (by omega)
          by_cases hB : c.toNat < 32 ∨ c = 127
          · rw [if_pos hB] at hP
            unfold escQ at hP
            have HP : Hid (pieceQ c r = ([92, 117, hexD (c.toNat / 4096), hexD (c.toNat / 256 % 16), hexD (c.toNat / 16 % 16), hexD (c.toNat % 16)], 1)) := hP
            have m5 : decide ((c.toNat : Int) < 32) = true ∨ (decide ((c.toNat : Int) < 32) = false ∧ ((c.toNat : Int) == 127) = true) := by
              rcases hB with h | rfl
              · exact Or.inl (decide_eq_true (by omega))
              · exact Or.inr (by decide)
            clear hA hP hq h237 hQ hp hlen hle g0 n34 n92 hB
            generalize hgA : s.length - (c :: r).length = A at *
            clear hgA
            generalize hgV : c.toNat = V at *
            have y0 : (0 : Int) ≤ (V : Int) := by omega
            have y1 : (V : Int) < 65536 := by omega
            have D1 := fun w => digit_sym (V / 4096) (by omega) w
            have D2 := fun w => digit_sym (V / 256 % 16) (by omega) w
            have D3 := fun w => digit_sym (V / 16 % 16) (by omega) w
            have D4 := fun w => digit_sym (V % 16) (by omega) w
            have e1 : (V : Int) / 4096 = ((V / 4096 : Nat) : Int) := by omega
            have e2 : (V : Int) / 256 = ((V / 256 : Nat) : Int) := by omega
            have e3 : (V : Int) / 16 = ((V / 16 : Nat) : Int) := by omega
            have e4 : (V : Int) % 16 = ((V % 16 : Nat) : Int) := by omega
            have e5 : ((V / 256 : Nat) : Int) % 16 = ((V / 256 % 16 : Nat) : Int) := by omega
            have e6 : ((V / 16 : Nat) : Int) % 16 = ((V / 16 % 16 : Nat) : Int) := by omega
            have e7 : ((V / 256 : Nat) : Int) < 65536 := by omega
            have e8 : ((V / 16 : Nat) : Int) < 65536 := by omega
            have e9 : ((V / 4096 : Nat) : Int) < 65536 := by omega
            generalize hexD (V / 4096) = p1 at *
            generalize hexD (V / 256 % 16) = p2 at *
            generalize hexD (V / 16 % 16) = p3 at *
            generalize hexD (V % 16) = p4 at *
            generalize V / 4096 = v1 at *
            generalize V / 256 % 16 = v2 at *
            generalize V / 16 % 16 = v3 at *
            generalize V % 16 = v4 at *
            generalize V / 256 = v5 at *
            generalize V / 16 = v6 at *
            rcases m5 with m5 | ⟨m5, m6⟩
            all_goals
              go_wp2_with (first
                | (at_builtin; refine wpList_append_own _ rfl _ _ 33 rfl w.heap.size 5 i1 (.int .u8 0) 1 1 Tryz.underlying33 hi1 hy0 hy1 hy2 rfl (by decide) _ _ _ rfl (hor.alloc _) ⟨wr.heap.size, 0, none⟩ 6 6 [.int .u8 92, .int .u8 117, .int .u8 (p1.toNat : Int), .int .u8 (p2.toNat : Int), .int .u8 (p3.toNat : Int), .int .u8 (p4.toNat : Int)] rfl rfl ?c1 ?c2 ?c3 ?c4 ?c5 ?_)
                | (go_at_call 34; with_reducible refine (D1 _).mono ?_; rintro e w7 ⟨rfl, rfl⟩)
                | (go_at_call 34; with_reducible refine (D2 _).mono ?_; rintro e w7 ⟨rfl, rfl⟩)
                | (go_at_call 34; with_reducible refine (D3 _).mono ?_; rintro e w7 ⟨rfl, rfl⟩)
                | (go_at_call 34; with_reducible refine (D4 _).mono ?_; rintro e w7 ⟨rfl, rfl⟩)
                | fail)
              case c1 =>
                intro j u hj
                match j, hj with
                | 0, hj => simp at hj; subst hj; simp [Addr.add]
                | 1, hj => simp at hj; subst hj; simp [Addr.add]
                | 2, hj => simp at hj; subst hj; simp [Addr.add]
                | 3, hj => simp at hj; subst hj; simp [Addr.add]
                | 4, hj => simp at hj; subst hj; simp [Addr.add]
                | 5, hj => simp at hj; subst hj; simp [Addr.add]
              case c2 => intro u hu; simp at hu; first | (subst hu; rfl) | (rcases hu with rfl | rfl <;> rfl) | (rcases hu with rfl | rfl | rfl | rfl | rfl | rfl <;> rfl)
              case c3 => unfold maxLen; simp; omega
              case c4 => simp; omega
              case c5 => simp; omega
              intro v' w2 hown' hgrow' _
              have hq2 : QdS s w w2 v' ((c :: r).drop 1) (acc ++ [92, 117, p1, p2, p3, p4]) := HQ.out.next HP.out hown' hgrow'
              clear hown' hgrow' hor
              go_wp2
              refine ⟨⟨(c :: r).drop 1, acc ++ [92, 117, p1, p2, p3, p4], congrArg (Value.int .i64) (by have h9 := HN.out; omega), hq2⟩, ?_⟩
              have h3 := HA.out
              have h4 := HQ.out.suf.length_le
              simp [RowKit.intOf]
              simp at h3 h4
              omega
          · rw [if_neg hB] at hP
            have HP : Hid (pieceQ c r = ([c], 1)) := hP
            have n32 : ¬ (c.toNat : Int) < 32 := fun h => hB (Or.inl (by omega))
            have m5 : decide ((c.toNat : Int) < 32) = false := decide_eq_false n32
            have n127 : ¬ c.toNat = 127 := fun e => hB (Or.inr (u8_eq e))
            have m6 : ((c.toNat : Int) == 127) = false := beq_eq_false_iff_ne.2 (by omega)
            clear hA hP hq h237 hQ hp hlen hle hcl g0 n34 n92 hB n32 n127
            generalize hgA : s.length - (c :: r).length = A at *
            clear hgA
            generalize hgX : (c.toNat : Int) = X at *
            go_wp2_with (first
              | (at_builtin; refine wpList_append_own _ rfl _ _ 33 rfl w.heap.size 5 i1 (.int .u8 0) 1 1 Tryz.underlying33 hi1 hy0 hy1 hy2 rfl (by decide) _ _ _ rfl (hor.alloc _) ⟨wr.heap.size, 0, none⟩ 1 1 [.int .u8 X] rfl rfl ?c1 ?c2 ?c3 ?c4 ?c5 ?_)
              | fail)
            case c1 =>
              intro j u hj
              match j, hj with
              | 0, hj => simp at hj; subst hj; simp [Addr.add]
            case c2 => intro u hu; simp at hu; first | (subst hu; rfl) | (rcases hu with rfl | rfl <;> rfl) | (rcases hu with rfl | rfl | rfl | rfl | rfl | rfl <;> rfl)
            case c3 => unfold maxLen; simp; omega
            case c4 => simp; omega
            case c5 => simp; omega
            intro v' w2 hown' hgrow' _
            subst hgX
            have hq2 : QdS s w w2 v' ((c :: r).drop 1) (acc ++ [c]) := HQ.out.next HP.out hown' hgrow'
            clear hown' hgrow' hor
            go_wp2
            refine ⟨⟨(c :: r).drop 1, acc ++ [c], congrArg (Value.int .i64) (by have h9 := HN.out; omega), hq2⟩, ?_⟩
            have h3 := HA.out
            have h4 := HQ.out.suf.length_le
            simp [RowKit.intOf]
            simp at h3 h4
            omega
end Go.Proofs.YtebojfipdcicaaaGreatDoor
