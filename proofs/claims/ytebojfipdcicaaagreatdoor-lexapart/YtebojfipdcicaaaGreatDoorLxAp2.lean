/- Tokens lie in order and apart: the law's own walk, both ways together. -/
import Derived.Test.YtebojfipdcicaaaGreatDoorLxEn
import Derived.Test.YtebojfipdcicaaaGreatDoorLxV1
namespace Go.Proofs.YtebojfipdcicaaaGreatDoor
open Go Go.RowKit

/-- What a round of the law's loop finds. -/
structure Rnd (s : Bs) (ps : List Pc) (ts : List Tok) (j : Nat) (t : Tok) (p : Bs) : Prop where
  at_ : ts[j]? = some t
  lo : preL (ps.take j) ≤ t.b
  lt : t.b < t.e
  hi : t.e ≤ s.length
  nxt : preL (ps.take (j + 1)) = t.e
  cut : (ByteArray.mk s.toArray).extract t.b t.e = ⟨p.toArray⟩
  len : p.length = t.e - t.b
  lex : lexS p = .inr [⟨t.k, t.t, 0, p.length⟩]
  blk : blk (ps.take (j + 1)) = blk (ps.take j) ++ (p ++ [32])
theorem rnd_of {s : Bs} {ps : List Pc} {tl : Bs} (h : Right s ps tl) (j : Nat) (hj : j < ps.length) : ∃ t p, Rnd s ps (toksP s.length ps tl) j t p := by
  have hsp : ps = ps.take j ++ ps[j] :: ps.drop (j + 1) := by
    rw [← List.drop_eq_getElem_cons hj, List.take_append_drop]
  have hkl : (ps.take j).length = j := by rw [List.length_take]; omega
  have hta : ps.take (j + 1) = ps.take j ++ [ps[j]] := by
    rw [List.take_add_one, List.getElem?_eq_getElem hj]
    rfl
  rw [hsp] at h
  obtain ⟨p1, p2, p3, p4, p5, p6⟩ := piece_at h
  rw [← hsp, hkl] at p1
  have hpl : 0 < ps[j].p.length := List.length_pos_iff.2 p5
  refine ⟨_, ps[j].p, p1, ?_, ?_, ?_, ?_, ?_, ?_, ?_, ?_⟩
  · show preL (ps.take j) ≤ preL (ps.take j) + ps[j].g.length
    omega
  · show preL (ps.take j) + ps[j].g.length < preL (ps.take j) + ps[j].g.length + ps[j].p.length
    omega
  · exact p4
  · rw [hta, preL_snoc]
  · show (ByteArray.mk s.toArray).extract (preL (ps.take j) + ps[j].g.length) (preL (ps.take j) + ps[j].g.length + ps[j].p.length) = _
    apply ByteArray.ext; apply Array.toList_inj.1
    have e : (s.take (preL (ps.take j) + ps[j].g.length + ps[j].p.length)).drop (preL (ps.take j) + ps[j].g.length) = ps[j].p := by
      rw [List.drop_take, p3, Nat.add_sub_cancel_left, List.take_left' rfl]
    simpa [List.drop_take] using e
  · show ps[j].p.length = preL (ps.take j) + ps[j].g.length + ps[j].p.length - (preL (ps.take j) + ps[j].g.length)
    omega
  · exact lexS_one p6 (by have := h.short; omega)
  · rw [hta, blk_app]
    simp [Go.Proofs.YtebojfipdcicaaaGreatDoor.blk]
theorem toksAt_one {w : World} {b o c : Nat} {t : Tok} (hb : b < w.heap.size) (hc : 1 ≤ c) (h : w.cell? ⟨b, o, none⟩ = some (.int .i64 t.k) ∧ w.cell? ⟨b, o + 1, none⟩ = some (.string ⟨t.t.toArray⟩) ∧ w.cell? ⟨b, o + 2, none⟩ = some (.int .i64 (t.b : Int)) ∧ w.cell? ⟨b, o + 3, none⟩ = some (.int .i64 (t.e : Int))) :
    ToksAt w (.slice (some ⟨b, o, none⟩) 1 c) [t] := by
  refine ⟨_, _, rfl, hc, fun _ => ⟨b, o, rfl, hb, fun i u hi => ?_⟩⟩
  match i, hi with
  | 0, hi =>
    cases hi
    simpa using h
  | _ + 1, hi => simp at hi
theorem owns_belowB {W W' : World} {B e sz n : Nat} {v : Value} {xs : List Value} (h : W.ownsRow B e sz v n xs) (hb : Below W.heap.size W W') : W'.ownsRow B e sz v n xs := by
  refine ⟨h.1, ?_⟩
  rcases h.2 with h2 | ⟨g, cap, cur, hv, hg, hh, r⟩
  · exact Or.inl h2
  · exact Or.inr ⟨g, cap, cur, hv, hg, (hb.block g (lt_of_block hh)).trans hh, r⟩
theorem below_dN (w : World) (m : Nat) : Below w.heap.size w (w.drewN m) := ⟨rfl, rfl, rfl, Nat.le_refl _, fun _ _ => rfl⟩
theorem new_cells {w w' : World} {cs : Array Value} {ty : TypeId} (hb : Below (w.alloc (.cells cs ty)).heap.size (w.alloc (.cells cs ty)) w') (i : Nat) (m : Nat) : (w'.drewN m).cell? ⟨w.heap.size, i, none⟩ = cs[i]? := by
  have h := cell_new w cs ty i
  rw [Addr.add_lit, Nat.zero_add] at h
  rw [← h]
  exact hb.cell (p := ⟨w.heap.size, i, none⟩) (by simp)
theorem not_noneA {w : World} {B e n : Nat} {v : Value} {xs : List Value} (h : w.ownsRow B e 1 v n xs) (hn : v ≠ .slice none 0 0) : ∃ g cap, v = .slice (some ⟨g, 0, none⟩) n cap := by
  rcases h.2 with ⟨h1, _⟩ | ⟨g, cap, cur, h1, _⟩
  · exact absurd h1 hn
  · exact ⟨g, cap, h1⟩
theorem below_oneA (w : World) (o : Obj) : Below w.heap.size w (w.alloc o) := (Below.refl _ _).alloc (Nat.le_refl _) _
theorem own_nobT (w : World) : Bytes (w.alloc (.cells #[] 5)) w.heap.size (.slice (some ⟨w.heap.size, 0, none⟩) 0 0) [] :=
  ⟨rfl, Or.inr ⟨w.heap.size, 0, #[], rfl, Nat.le_refl _, heap_alloc_new _ _, Nat.le_refl _, Nat.zero_le _, rfl, rfl⟩⟩

theorem blk_len {s : Bs} {tl : Bs} (ps : List Pc) (j : Nat) (hj : j ≤ ps.length) (h : Right s ps tl) : (blk (ps.take j)).length ≤ s.length + 2048 := by
  have hx : ∀ qs : List Pc, (blk qs).length ≤ preL qs + qs.length := by
    intro qs
    induction qs with
    | nil => simp [blk, preL, catP]
    | cons a qs ih =>
      have e : preL (a :: qs) = a.g.length + a.p.length + preL qs := by
        unfold preL
        show (a.g ++ (a.p ++ catP qs [])).length = _
        simp only [List.length_append]
        omega
      rw [e]
      simp only [blk, List.length_append, List.length_cons]
      omega
  have h1 := hx (ps.take j)
  have h2 := right_len h
  have h3 : preL ps = preL (ps.take j) + preL (ps.drop j) := by
    unfold preL
    conv => lhs; rw [← List.take_append_drop j ps, catP_app, catP_head, List.length_append]
  have h4 := h.few
  rw [List.length_take] at h1
  omega

set_option maxRecDepth 100000 in
set_option maxHeartbeats 2000000 in
theorem apart_no (s : Bs) (b : Nat) (x : Int) (hl : lexS s = .inl (b, x)) (hx : x ≠ 0) (w : World) (gl : Gl w) (hz : Tz w) :
    Calls Tryz.prog 6 #[.string ⟨s.toArray⟩] w fun e w' => e = .returned (.bool true) ∧ Below w.heap.size w w' := by
  have ok : Ok w w := ⟨Below.refl _ _, gl, hz⟩
  have T := tokens_any s w gl
  rw [hl] at T
  have x1 : (x == 0) = false := by simpa using hx
  clear hl gl hz
  generalize (ByteArray.mk s.toArray) = D at *
  go_enter Tryz.func6, Tryz.ntmps6
  go_wp2_with (first
    | (go_at_call 12; refine (fixed_any _ ok1.gl ok1.tz).mono ?_; rintro e w2 ⟨rfl, hb2⟩; have ok2 := ok1.go hb2)
    | (go_at_call 10; refine T.mono ?_; rintro e w1 ⟨rfl, hb1⟩; have ok1 := ok.go hb1)
    | fail)
  go_ret
  exact ⟨rfl, ok2.bel⟩

set_option maxRecDepth 100000 in
set_option maxHeartbeats 4000000 in
theorem apart_yes (s : Bs) (ps : List Pc) (tl : Bs) (hR : Right s ps tl) (w : World) (gl : Gl w) (hz : Tz w) :
    Calls Tryz.prog 6 #[.string ⟨s.toArray⟩] w fun e w' => e = .returned (.bool true) ∧ Below w.heap.size w w' := by
  have ok : Ok w w := ⟨Below.refl _ _, gl, hz⟩
  have T := tokens_any s w gl
  rw [lexS_right hR] at T
  have HR : Hid (Right s ps tl) := hR
  have hlen : (toksP s.length ps tl).length = ps.length := toksP_len _ _ _
  have hfew := hR.few
  have hsh := hR.short
  have hD : (ByteArray.mk s.toArray).size = s.length := rfl
  obtain ⟨ts, hts⟩ : ∃ ts, ts = toksP s.length ps tl := ⟨_, rfl⟩
  have HTS : Hid (ts = toksP s.length ps tl) := hts
  rw [← hts] at T hlen
  clear hR gl hz hts
  generalize hDD : (ByteArray.mk s.toArray) = D at *
  have HD : Hid ((ByteArray.mk s.toArray) = D) := hDD
  clear hDD
  obtain ⟨i1, hi1, hy0, hy1, hy2⟩ := info_parts Tryz.infoByte
  go_enter Tryz.func6, Tryz.ntmps6
  go_wp2_with (first
    | (go_at_call 12; refine (fixed_any _ ok1.gl ok1.tz).mono ?_; rintro e w2 ⟨rfl, hb2⟩; have ok2 := ok1.go hb2)
    | (go_at_call 10; refine T.mono ?_; rintro e w1 ⟨⟨v, rfl, ht⟩, hb1⟩; have ok1 := ok.go hb1; obtain ⟨a1, c1, rfl⟩ := toks_sl ht; rw [hlen])
    | fail)
  have HT2 : Hid (ToksAt w2 (.slice a1 ts.length c1) ts) := (toksAt_own ht).below hb2
  go_loopw [6, 7, 8] (fun e b i wr => ∃ (j : Nat) (vb : Value), j ≤ ps.length ∧ i = .int .i64 (j : Int) ∧ e = .int .i64 (preL (ps.take j) : Int) ∧ b = vb ∧ Bytes wr w2.heap.size vb (Go.Proofs.YtebojfipdcicaaaGreatDoor.blk (ps.take j)) ∧ vb ≠ .slice none 0 0 ∧ Below w2.heap.size w2 wr) (fun _ _ i _ => ps.length - (RowKit.intOf i).toNat)
  case atStart => exact ⟨0, _, Nat.zero_le _, rfl, rfl, rfl, own_nobT w2, by simp, (Below.refl _ _).alloc (Nat.le_refl _) _⟩
  case round =>
    obtain ⟨j, vb, hj, rfl, rfl, rfl, hob, hnn, hbr⟩ := hrel
    by_cases hlt : j < ps.length
    · obtain ⟨t, p, R⟩ := rnd_of HR.out j hlt
      rw [← HTS.out] at R
      obtain ⟨r1, r2, r3, r4, r5, r6, r7, r8, r9⟩ := R
      rw [HD.out] at r6
      have hne : ts ≠ [] := by rintro rfl; simp at r1
      obtain ⟨a0, cap, e0, hcap, hca⟩ := HT2.out.below hbr
      obtain ⟨bb, oo, ea, hblt, hcell⟩ := hca hne
      injection e0 with e1 _ e3
      rw [ea] at e1
      subst e1 e3
      obtain ⟨h0, h1, h2, h3⟩ := hcell j t r1
      clear hcell hca ea
      generalize hE : preL (ps.take j) = E at *
      obtain ⟨tk, tt, tb, te⟩ := t
      simp only at h0 h1 h2 h3 r2 r3 r4 r5 r6 r7 r8
      have hal : alikeT [⟨tk, tt, 0, p.length⟩] [⟨tk, tt, tb, te⟩] := rfl
      have T3 : ∀ w, Gl w → Calls Tryz.prog 10 #[.string ⟨p.toArray⟩] w (TokensP w (.inr [⟨tk, tt, 0, p.length⟩])) := fun w g => by
        have := tokens_any p w g
        rw [r8] at this
        exact this
      have HB : Hid (Go.Proofs.YtebojfipdcicaaaGreatDoor.blk (ps.take (j + 1)) = Go.Proofs.YtebojfipdcicaaaGreatDoor.blk (ps.take j) ++ (p ++ [32])) := r9
      have HE : Hid (preL (ps.take (j + 1)) = te) := r5
      have hsz : (ByteArray.mk p.toArray).size = te - tb := by rw [← r7]; rfl
      have f1 : ¬ ((tb : Int) < (E : Int)) := by omega
      have f2 : ¬ ((te : Int) ≤ (tb : Int)) := by omega
      have f3 : ¬ ((s.length : Int) < (te : Int)) := by omega
      have f4 : ((tb : Int) ≤ (te : Int)) := by omega
      have f5 : (te : Int) ≤ (s.length : Int) := by omega
      have HX : Hid ((ByteArray.mk p.toArray) ++ ⟨#[32]⟩ = ⟨(p ++ [32]).toArray⟩) := by
        show _ = _
        apply ByteArray.ext; simp
      obtain ⟨XB, hXB, hsx, HXB⟩ : ∃ XB : ByteArray, (ByteArray.mk p.toArray) ++ ⟨#[32]⟩ = XB ∧ XB.size = te - tb + 1 ∧ Hid (XB = ⟨(p ++ [32]).toArray⟩) := by
        refine ⟨_, HX.out, ?_, rfl⟩
        show (p ++ [32]).toArray.size = _
        simp
        omega
      have s1 : (ByteArray.mk #[32]).size = 1 := rfl
      have hbl : (Go.Proofs.YtebojfipdcicaaaGreatDoor.blk (ps.take j)).length ≤ 40000000 := by
        have := blk_len ps j (by omega) HR.out
        omega
      have hcj : j < c1 := by omega
      generalize (ByteArray.mk p.toArray) = PB at *
      clear r5 r8 r9 hE
      have hb5 := below_oneA wr (.cells #[.int .i64 tk, .string ⟨tt.toArray⟩, .int .i64 (tb : Int), .int .i64 (te : Int)] 28)
      have ok5 := (ok2.go hbr).go hb5
      have HO : Hid (ToksAt wr (.slice (some ⟨bb, oo + j * 4, none⟩) 1 (c1 - j)) [⟨tk, tt, tb, te⟩]) := toksAt_one hblt (by omega) ⟨h0, h1, h2, h3⟩
      by_cases h60 : j < 60
      · go_wp2_with (first
          | (at_builtin; refine Lib.wpList_append_own_string _ rfl _ _ 33 9 rfl w2.heap.size 5 i1 Tryz.underlying33 Tryz.underlying9 hi1 hy0 hy1 hy2 _ _ _ rfl hor XB rfl ?d1 ?d2 ?d3 ?_)
          | (go_at_call 18; (with_reducible refine (alike_yes _ _ _ _ _ hu6 ((HO.out.below hb5).below hb6) hal (by simp)).mono ?_); rintro e w7 ⟨rfl, m7, rfl⟩; have q2 := new_cells hb6 2 m7; have q3 := new_cells hb6 3 m7; have hb7 := (hb5.trans (hb6.mono hb5.size)).trans ((below_dN w6 m7).mono (Nat.le_trans hb5.size hb6.size)); have hor := owns_belowB hob hb7)
          | (go_at_call 10; (with_reducible refine (T3 _ ok5.gl).mono ?_); rintro e w6 ⟨⟨u6, rfl, ht6⟩, hb6⟩; have ok6 := ok5.go hb6; obtain ⟨a6, c6, rfl⟩ := toks_sl ht6; have hu6 : ToksAt w6 (.slice a6 1 c6) [⟨tk, tt, 0, p.length⟩] := toksAt_own ht6)
          | fail)
        case d1 => unfold maxLen; omega
        case d2 => omega
        case d3 => first | exact Nat.le_trans hbr.size hb7.size | (have := hbr.size; omega)
        intro vb' w8 hob8 hg8 hnil8
        have hob9 : Bytes w8 w2.heap.size vb' (Go.Proofs.YtebojfipdcicaaaGreatDoor.blk (ps.take (j + 1))) := by
          have hx := HXB.out
          subst hx
          unfold Bytes
          have hpl : (p ++ [32]).length = te - tb + 1 := by simp; omega
          rw [HB.out, cells_app, List.length_append, ← strCells_eq (p ++ [32]), hpl]
          exact hob8
        have hb9 : Below w2.heap.size w2 w8 := (hbr.trans (hb7.mono hbr.size)).grown hg8 (Nat.le_trans hbr.size hb7.size) (own_ge hor)
        have hnn9 : vb' ≠ .slice none 0 0 := by first | exact fun e => hnn (hnil8.1 e).1 | exact hnil8
        clear hob8 hg8 hnil8 hor
        go_wp2
        refine ⟨⟨j + 1, vb', by omega, congrArg (Value.int .i64) (by omega), by rw [HE.out], rfl, hob9, hnn9, hb9⟩, ?_⟩
        simp [RowKit.intOf]
        omega
      · have hb7 := hb5
        have hor := owns_belowB hob hb5
        go_wp2_with (first
          | (at_builtin; refine Lib.wpList_append_own_string _ rfl _ _ 33 9 rfl w2.heap.size 5 i1 Tryz.underlying33 Tryz.underlying9 hi1 hy0 hy1 hy2 _ _ _ rfl hor XB rfl ?d1 ?d2 ?d3 ?_)
          | fail)
        case d1 => unfold maxLen; omega
        case d2 => omega
        case d3 => first | exact Nat.le_trans hbr.size hb7.size | (have := hbr.size; omega)
        intro vb' w8 hob8 hg8 hnil8
        have hob9 : Bytes w8 w2.heap.size vb' (Go.Proofs.YtebojfipdcicaaaGreatDoor.blk (ps.take (j + 1))) := by
          have hx := HXB.out
          subst hx
          unfold Bytes
          have hpl : (p ++ [32]).length = te - tb + 1 := by simp; omega
          rw [HB.out, cells_app, List.length_append, ← strCells_eq (p ++ [32]), hpl]
          exact hob8
        have hb9 : Below w2.heap.size w2 w8 := (hbr.trans (hb7.mono hbr.size)).grown hg8 (Nat.le_trans hbr.size hb7.size) (own_ge hor)
        have hnn9 : vb' ≠ .slice none 0 0 := by first | exact fun e => hnn (hnil8.1 e).1 | exact hnil8
        clear hob8 hg8 hnil8 hor
        go_wp2
        refine ⟨⟨j + 1, vb', by omega, congrArg (Value.int .i64) (by omega), by rw [HE.out], rfl, hob9, hnn9, hb9⟩, ?_⟩
        simp [RowKit.intOf]
        omega
    · obtain rfl : j = ps.length := by omega
      rw [List.take_length] at hob
      have hne9 := not_noneA hob hnn
      obtain ⟨g9, cap9, rfl⟩ := hne9
      have hcv := conv_row hob
      have ok4 := ok2.go hbr
      by_cases hbig : (Go.Proofs.YtebojfipdcicaaaGreatDoor.blk ps).length ≤ 16384
      · obtain ⟨us, hus, hsa⟩ := lexS_blk HR.out hbig
        have hal : alikeT us ts := by
          rw [HTS.out]
          exact alike_says (hsa.trans (toksP_says _ _ _).symm)
        have HU : Hid (us.length ≤ 1099511627776) := by
          have := congrArg List.length hal
          have h2 : us.length = ts.length := by simpa using this
          show us.length ≤ 1099511627776
          omega
        have HT4 : Hid (ToksAt wr (.slice a1 ps.length c1) ts) := by
          have := HT2.out.below hbr
          rw [hlen] at this
          exact this
        have T3 : ∀ w, Gl w → Calls Tryz.prog 10 #[.string ⟨(Go.Proofs.YtebojfipdcicaaaGreatDoor.blk ps).toArray⟩] w (TokensP w (.inr us)) := fun w g => by
          have := tokens_any (Go.Proofs.YtebojfipdcicaaaGreatDoor.blk ps) w g
          rw [hus] at this
          exact this
        have z1 : ¬ (16384 : Int) < ((Go.Proofs.YtebojfipdcicaaaGreatDoor.blk ps).length : Int) := by omega
        generalize (Go.Proofs.YtebojfipdcicaaaGreatDoor.blk ps).length = BL at *
        generalize (ByteArray.mk (Go.Proofs.YtebojfipdcicaaaGreatDoor.blk ps).toArray) = BB at *
        go_wp2_with (first
          | (go_at_call 18; (with_reducible refine (alike_yes _ _ us ts _ hu6 (HT4.out.below hb6) hal HU.out).mono ?_); rintro e w7 ⟨rfl, m7, rfl⟩)
          | (go_at_call 10; (with_reducible refine (T3 _ ok4.gl).mono ?_); rintro e w6 ⟨⟨u6, rfl, ht6⟩, hb6⟩; have ok6 := ok4.go hb6; have hu6 := toksAt_own ht6; obtain ⟨a6, c6, rfl⟩ := toks_sl ht6)
          | fail)
        go_ret
        exact ⟨by first | rfl | simp, below_drewW ok6.bel m7⟩
      · have z1 : (16384 : Int) < ((Go.Proofs.YtebojfipdcicaaaGreatDoor.blk ps).length : Int) := by omega
        generalize (Go.Proofs.YtebojfipdcicaaaGreatDoor.blk ps).length = BL at *
        clear hcv
        go_wp2
        go_ret
        exact ⟨rfl, ok4.bel⟩
end Go.Proofs.YtebojfipdcicaaaGreatDoor
namespace Go.Proofs.YtebojfipdcicaaaGreatDoor
open Go Go.RowKit

theorem lexApart_walk (s : Bs) (_ : s.length ≤ 140737488351232) (w : World) (gl : Gl w) (hz : Tz w) :
    Calls Tryz.prog 6 #[.string ⟨s.toArray⟩] w fun e w' => e = .returned (.bool true) ∧ Below w.heap.size w w' := by
  cases hl : lexS s with
  | inr ts =>
    obtain ⟨ps, tl, hR, _⟩ := right_of hl
    exact apart_yes s ps tl hR w gl hz
  | inl p =>
    refine apart_no s p.1 p.2 hl ?_ w gl hz
    rcases wrong_of src_cut hl with ⟨h, _⟩ | ⟨_, h, _⟩
    · rw [h]; decide
    · exact h
end Go.Proofs.YtebojfipdcicaaaGreatDoor
