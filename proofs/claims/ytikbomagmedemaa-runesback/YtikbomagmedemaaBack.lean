/- Characters' bytes, one behind the other, are a text, and its characters are these, all of them, in order: for every slice of ints (of at most 2^47 - 4096 bytes: the form's own reach). -/
import Derived.Test.YtikbomagmedemaaBackMath
import Derived.Lib.AppendStr
import Derived.Lib.UnsafeStr
namespace Go.Proofs.Ytikbomagmedemaa
open Go.ChangeShapes Go.WideShapes Go.ChangeAt Go.RowKit

theorem Try.infoByte : (Try.prog.info? 5).map (fun i => (i.zero, i.size, i.bytes)) = some (some (.int .u8 0), 1, 1) := by kernel_rfl

/-- Points of a text, however long, whose characters are not too many for a slice. -/
theorem points_full (s : ByteArray) (w : World) (hs : s.size ≤ 1125899906842624) (hl : (pointsS s).length ≤ 17592186044415) (h : validS s = true) :
    Calls Try.prog 15 #[.string s] w fun e w' => ∃ v, e = .returned (.tuple #[v, .bool true]) ∧ w'.ownsRow w.heap.size 3 1 v (pointsS s).length (intsV (pointsS s)) ∧ Below w.heap.size w w' := by
  have hJ : ∀ (a : List Int) (p : Nat), p < s.size → walk s (pointsStep s) p a = pointsS s → a.length + 1 ≤ 17592186044415 := by
    intro a p hp he
    have e1 : walk s (pointsStep s) p a = walk s (pointsStep s) (p + stW s p) (a ++ [stC s p]) := by rw [walk_step hp]; rfl
    have e2 := points_acc s s.size (p + stW s p) (a ++ [stC s p]) [] (by omega)
    rw [List.append_nil] at e2
    rw [← he, e1, e2] at hl
    simp at hl
    omega
  have hE := fun w1 : World => each_walk (α := List Int) 28 #[.pointer (some ⟨w1.heap.size, 0, none⟩)] s (w1.alloc (.cells #[.slice none 0 0] 26)) hs
    (fun (a : List Int) W => (∃ v, W.heap[w1.heap.size]? = some (.cells #[v] 26 (0, 0)) ∧ W.ownsRow (w1.heap.size + 1) 3 1 v a.length (intsV a)) ∧ Below w1.heap.size w1 W) (fun a p => walk s (pointsStep s) p a = pointsS s) (pointsStep s) [] (fun _ _ => rfl)
    (fun a W W' ⟨⟨v, h1, h2⟩, h3⟩ k => ⟨⟨v, Keep.one k h1 (by decide), owns_keep h2 k⟩, h3.trans (k.below.mono (by simp))⟩)
    ⟨⟨_, heap_alloc_new _ _, ⟨by simp [intsV], Or.inl ⟨rfl, rfl⟩⟩⟩, (Below.refl _ _).alloc (Nat.le_refl _) _⟩ rfl
    (fun a p hp hJ _ => by rw [← hJ, walk_step hp]; rfl)
    (fun a p W hp hJp ⟨⟨v, h1, h2⟩, h3⟩ => (points1_any w1.heap.size a.length a v _ _ _ W h1 h2 (by have := hJ a p hp hJp; omega)).mono fun e W' ⟨g1, g2, ⟨v', g3, g4⟩, g5⟩ => ⟨g1, g2, ⟨⟨v', g3, by simpa [pointsStep] using g4⟩, h3.trans g5⟩⟩)
  go_enter Try.func15, Try.ntmps15
  go_wp2_with (first | (go_at_call 12; refine (valid_any _ _ (by omega)).mono ?_; rintro e w1 ⟨rfl, hb⟩) | (go_at_call 23; refine Calls.mono (hE _) ?_; rintro e w2 ⟨rfl, ⟨v, h1, h2⟩, h3⟩; have c1 := cell_of_one h1))
  go_ret2
  refine ⟨v, rfl, ⟨h2.1, ?_⟩, hb.trans (h3.mono hb.size)⟩
  rcases h2.2 with h2 | ⟨g, cap, cur, g1, g2, g3⟩
  · exact Or.inl h2
  · exact Or.inr ⟨g, cap, cur, g1, by have := hb.size; omega, g3⟩

/-- WHAT IS TOLD OF THE SLICE THAT CAME IN. -/
def IsRow (k : IntKind) (w : World) (a : Option Addr) (len cap : Nat) (zs : List Int) : Prop :=
  (a = none ∧ len = 0 ∧ cap = 0 ∧ zs = []) ∨
  ∃ x, a = some x ∧ len ≤ cap ∧ cap ≤ maxLen ∧ zs.length = cap ∧ (∀ i, i < zs.length → w.cell? (x.add i) = some (.int k (zs.getD i 0))) ∧ ∀ n ∈ zs, (Lit.int k n).wf = true

/-- The characters among the first j numbers. -/
def chs (zs : List Int) (j : Nat) : List Int := (zs.take j).filter charB
theorem chs_char (zs : List Int) (j : Nat) : ∀ c ∈ chs zs j, charB c = true := fun _ h => (List.mem_filter.1 h).2
theorem chs_yes (zs : List Int) (j : Nat) (h : j < zs.length) (hc : charB (zs.getD j 0) = true) : chs zs (j + 1) = chs zs j ++ [zs.getD j 0] := by
  have e : zs.getD j 0 = zs[j] := by simp [List.getD, h]
  unfold chs
  rw [List.take_succ_eq_append_getElem h, List.filter_append]
  rw [e] at hc ⊢
  simp [hc]
theorem chs_no (zs : List Int) (j : Nat) (h : j < zs.length) (hc : charB (zs.getD j 0) = false) : chs zs (j + 1) = chs zs j := by
  have e : zs.getD j 0 = zs[j] := by simp [List.getD, h]
  unfold chs
  rw [List.take_succ_eq_append_getElem h, List.filter_append]
  rw [e] at hc
  simp [hc]
theorem chs_len (zs : List Int) (j : Nat) : (chs zs j).length ≤ j := by
  unfold chs
  exact Nat.le_trans (List.length_filter_le _ _) (List.length_take_le _ _)

theorem owns_below {W W' : World} {B e sz n : Nat} {v : Value} {xs : List Value} (h : W.ownsRow B e sz v n xs) (hb : Below W.heap.size W W') : W'.ownsRow B e sz v n xs := by
  refine ⟨h.1, ?_⟩
  rcases h.2 with h2 | ⟨g, cap, cur, hv, hg, hh, r⟩
  · exact Or.inl h2
  · exact Or.inr ⟨g, cap, cur, hv, hg, (hb.block g (lt_of_block hh)).trans hh, r⟩
/-- A row of another kind stands while one grows. -/
theorem owns_other {W W' : World} {B B' e e' sz sz' n n' : Nat} {v v' : Value} {xs xs' : List Value} (h : W.ownsRow B e sz v n xs) (h' : W.ownsRow B' e' sz' v' n' xs') (he : e ≠ e') (hg : W.grownBy W' v'.ownBlock) : W'.ownsRow B e sz v n xs := by
  refine ⟨h.1, ?_⟩
  rcases h.2 with h2 | ⟨g, cap, cur, hv, hb, hh, r⟩
  · exact Or.inl h2
  · refine Or.inr ⟨g, cap, cur, hv, hb, (hg.block g (lt_of_block hh) ?_).trans hh, r⟩
    intro e1
    rcases h'.2 with ⟨rfl, _⟩ | ⟨g', cap', cur', rfl, _, hh', _⟩
    · simp [Value.ownBlock] at e1
    · simp [Value.ownBlock] at e1
      rw [e1, hh'] at hh
      simp at hh
      exact he hh.2.symm
theorem owns_empty {e : TypeId} (w : World) : (w.alloc (.cells #[] e)).ownsRow w.heap.size e 1 (.slice (some ⟨w.heap.size, 0, none⟩) 0 0) 0 [] :=
  ⟨rfl, Or.inr ⟨w.heap.size, 0, #[], rfl, Nat.le_refl _, heap_alloc_new _ _, Nat.le_refl _, Nat.zero_le _, rfl, rfl⟩⟩
theorem own_ge {w : World} {B e sz n : Nat} {v : Value} {xs : List Value} (h : w.ownsRow B e sz v n xs) : ∀ k, v.ownBlock = some k → B ≤ k := by
  intro k hk
  rcases h.2 with ⟨rfl, _⟩ | ⟨g, cap, cur, rfl, hg, _⟩
  · simp [Value.ownBlock] at hk
  · simp [Value.ownBlock] at hk
    omega
theorem owns_base {w : World} {B B' e sz n : Nat} {v : Value} {xs : List Value} (h : w.ownsRow B e sz v n xs) (hB : B' ≤ B) : w.ownsRow B' e sz v n xs := by
  refine ⟨h.1, ?_⟩
  rcases h.2 with h2 | ⟨g, cap, cur, hv, hb, r⟩
  · exact Or.inl h2
  · exact Or.inr ⟨g, cap, cur, hv, Nat.le_trans hB hb, r⟩

theorem cell_lt {w : World} {b o : Nat} {v : Value} (hc : w.cell? ⟨b, o, none⟩ = some v) : b < w.heap.size := by
  rcases Nat.lt_or_ge b w.heap.size with h' | h'
  · exact h'
  · simp [World.cell?, Array.getElem?_eq_none h'] at hc
/-- A cell that was there reads as it did. -/
theorem old_cell {w wr : World} {b o : Nat} {v : Value} (h : Below w.heap.size w wr) (hc : w.cell? ⟨b, o, none⟩ = some v) : wr.cell? ⟨b, o, none⟩ = some v :=
  (h.cell (p := ⟨b, o, none⟩) (cell_lt hc)).trans hc
/-- The bytes of a row, as a string. -/
theorem conv_row {W : World} {B g cap : Nat} {l : List UInt8} (h : W.ownsRow B 5 1 (.slice (some ⟨g, 0, none⟩) l.length cap) l.length (Lib.byteCells l)) :
    (convert 37 9 (.slice (some ⟨g, 0, none⟩) l.length cap)).run Try.prog W = .ok (.string ⟨l.toArray⟩) W := by
  refine run_convert_bytes_back (P := Try.prog) W 37 9 5 ⟨g, 0, none⟩ cap l Try.underlying37 Try.underlying5 Try.underlying9 ?_
  intro j hj
  rw [Addr.add_lit, Nat.zero_add, h.cellAt j (by omega)]
  simp [Lib.byteCells, hj]

set_option maxHeartbeats 8000000 in
theorem back_walk (a0 : Option Addr) (len cap : Nat) (zs : List Int) (w : World) (h : IsRow .i64 w a0 len cap zs) (hl : len ≤ 17592186043904) :
    Calls Try.prog 7 #[.slice a0 len cap] w fun e w' => e = .returned (.bool true) ∧ Below w.heap.size w w' := by
  have hb := Below.refl w.heap.size w
  obtain ⟨i0, hi, hz0, hz1, hz2⟩ := info_parts Try.infoInt
  obtain ⟨i1, hi1, hy0, hy1, hy2⟩ := info_parts Try.infoByte
  go_enter Try.func7, Try.ntmps7
  go_wp2
  go_loopw [3, 4, 5] (fun b k i wr => ∃ (j g cap1 : Nat), j ≤ len ∧ i = .int .i64 j ∧ b = .slice (some ⟨g, 0, none⟩) (encs (chs zs j)).length cap1 ∧ wr.ownsRow w.heap.size 5 1 b (encs (chs zs j)).length (Lib.byteCells (encs (chs zs j))) ∧ wr.ownsRow w.heap.size 3 1 k (chs zs j).length (intsV (chs zs j)) ∧ Below w.heap.size w wr) (fun _ _ i _ => len - (intOf i).toNat)
  case atStart =>
    refine ⟨0, w.heap.size, 0, Nat.zero_le _, rfl, rfl, (owns_empty w).alloc _, ?_, ((Below.refl _ w).alloc (Nat.le_refl _) _).alloc (by simp) _⟩
    have e := owns_empty (e := 3) (w.alloc (.cells #[] 5))
    have e1 : (w.alloc (.cells #[] 5)).heap.size = w.heap.size + 1 := by simp
    rw [e1] at e
    exact owns_base e (by omega)
  case round =>
    obtain ⟨j, g, cap1, hj, rfl, rfl, hob, hok, hbr⟩ := hrel
    by_cases hlt : j < len
    · rcases h with ⟨_, h0, _⟩ | ⟨x, rfl, h1, h2, h3, h4, _⟩
      · omega
      obtain ⟨bk, off, rfl, hc⟩ := ints_at h4 (by omega)
      have hlt9' : bk < w.heap.size := cell_lt (hc j (by omega))
      have c0 : w.cell? ⟨bk, off + j, none⟩ = some (.int .i64 (zs.getD j 0)) := hc j (by omega)
      have c1 : wr.cell? ⟨bk, off + j, none⟩ = some (.int .i64 (zs.getD j 0)) := old_cell hbr c0
      obtain ⟨c, hcc⟩ : ∃ c, c = zs.getD j 0 := ⟨_, rfl⟩
      rw [← hcc] at c1
      clear c0 h4 hc
      have hlt' : (j : Int) < len := by omega
      unfold maxLen at h2
      have hlen := chs_len zs j
      have henc := encs_len (chs zs j) (chs_char zs j)
      by_cases hch : charB c = true
      · have hsm := enc_small c hch
        have hnx := chs_yes zs j (by omega) (by rw [← hcc]; exact hch)
        rw [← hcc] at hnx
        have HN : Hid (chs zs (j + 1) = chs zs j ++ [c]) := hnx
        clear hnx hcc
        go_wp2_with (first
          | (go_at_call 17; refine (put_yes _ _ hch).mono ?_; rintro e w1 ⟨rfl, rfl⟩)
          | (at_builtin; refine Lib.wpList_append_own_string _ rfl _ _ 37 9 rfl w.heap.size 5 i1 Try.underlying37 Try.underlying9 hi1 hy0 hy1 hy2 _ _ _ rfl hob (Utf8.encode c) rfl ?d1 ?d2 ?d3 ?_))
        case d1 => unfold maxLen; omega
        case d2 => omega
        case d3 => exact hbr.size
        intro vb w2 hob2 hg2 hnil
        have hbr2 : Below w.heap.size w w2 := hbr.grown hg2 hbr.size (own_ge hob)
        have hok2 := owns_other hok hob (by decide) hg2
        have c2 : w2.cell? ⟨bk, off + j, none⟩ = some (.int .i64 c) := by
          exact (hbr2.cell (p := ⟨bk, off + j, none⟩) hlt9').trans ((hbr.cell (p := ⟨bk, off + j, none⟩) hlt9').symm.trans c1)
        have eb : encs (chs zs (j + 1)) = encs (chs zs j) ++ (Utf8.encode c).data.toList := by
          rw [HN.out, encs_app]
          simp [encs]
        have el : (Utf8.encode c).data.toList.length = (Utf8.encode c).size := by rw [Array.length_toList]; rfl
        have hob2' : w2.ownsRow w.heap.size 5 1 vb (encs (chs zs (j + 1))).length (Lib.byteCells (encs (chs zs (j + 1)))) := by
          rw [eb, Lib.byteCells_append, ← Lib.strCells_eq, List.length_append, el]
          exact hob2
        rcases hob2'.2 with ⟨e9, _⟩ | ⟨g2, cap2, cur2, rfl, _⟩
        · rw [e9] at hnil
          simp at hnil
        clear hob2 hnil eb
        go_wp2_with (at_builtin; refine wpList_append_own _ rfl _ _ 26 rfl w.heap.size 3 i0 (.int .i64 0) 1 8 Try.underlying26 hi hz0 hz1 hz2 rfl (by decide) _ _ _ rfl (hok2.alloc _) ⟨w2.heap.size, 0, none⟩ 1 1 [.int .i64 c] rfl rfl ?c1 ?c2 ?c3 ?c4 ?c5 ?_)
        case c1 =>
          intro j u hj
          match j, hj with
          | 0, hj => simp at hj; subst hj; simp [Addr.add]
        case c2 => intro u hu; simp at hu; subst hu; rfl
        case c3 => unfold maxLen; omega
        case c4 => omega
        case c5 => have := hbr2.size; simp; omega
        intro vk w3 hok3 hg3 _
        have hob3 := owns_other (hob2'.alloc _) (hok2.alloc _) (by decide) hg3
        have hbr3 : Below w.heap.size w w3 := (hbr2.alloc hbr2.size _).grown hg3 (by have := hbr2.size; simp; omega) (own_ge hok2)
        have hok3' : w3.ownsRow w.heap.size 3 1 vk (chs zs (j + 1)).length (intsV (chs zs (j + 1))) := by
          have e2 : intsV (chs zs j ++ [c]) = intsV (chs zs j) ++ [.int .i64 c] := by simp [intsV]
          rw [HN.out, e2, List.length_append]
          exact hok3
        clear hok3 hg3 hok2 hob2' hg2 hob hok
        go_wp2
        go_roundw
        case rel => exact ⟨j + 1, g2, cap2, by omega, by go_num, rfl, hob3, hok3', hbr3⟩
        case measure => simp [intOf]; omega
      · have hch' : charB c = false := by simpa using hch
        have hnx := chs_no zs j (by omega) (by rw [← hcc]; exact hch')
        have HN : Hid (chs zs (j + 1) = chs zs j) := hnx
        clear hnx hcc
        go_wp2_with (go_at_call 17; refine (put_no _ _ hch').mono ?_; rintro e w1 ⟨rfl, rfl⟩)
        go_roundw
        case rel => exact ⟨j + 1, g, cap1, by omega, by go_num, by rw [HN.out], by rw [HN.out]; exact hob, by rw [HN.out]; exact hok, hbr⟩
        case measure => simp [intOf]; omega
    · have e : j = len := by omega
      have hT := encs_text (chs zs j) (chs_char zs j)
      have hlen := chs_len zs j
      have henc := encs_len (chs zs j) (chs_char zs j)
      obtain ⟨hT3, hT4⟩ := hT
      have hT1 : (⟨(encs (chs zs j)).toArray⟩ : ByteArray).size ≤ 1125899906842624 := by
        have e2 : (⟨(encs (chs zs j)).toArray⟩ : ByteArray).size = (encs (chs zs j)).length := by show ((encs (chs zs j)).toArray).size = _; simp
        omega
      have P1 := fun w => points_full ⟨(encs (chs zs j)).toArray⟩ w hT1 (by rw [hT4]; omega) hT3
      rw [hT4] at P1
      have V1 := fun w => valid_any ⟨(encs (chs zs j)).toArray⟩ w hT1
      rw [hT3] at V1
      have hcv := conv_row hob
      have hlt' : ¬ (j : Int) < len := by omega
      clear hT3 hT4 e
      go_wp2_with (first
        | (go_at_call 15; with_reducible refine (P1 _).mono ?_; rintro e w2 ⟨vm, rfl, hm, hb2⟩; have hob := owns_below hob hb2; have hok := owns_below hok hb2; have hbr := hbr.trans (hb2.mono hbr.size); have hcv := conv_row hob)
        | (go_at_call 11; refine (fixed_any _).mono ?_; rintro e w3 ⟨rfl, hb3⟩; have hob := owns_below hob hb3; have hok := owns_below hok hb3; have hm := owns_below hm hb3; have hbr := hbr.trans (hb3.mono hbr.size); have hcv := conv_row hob)
        | (go_at_call 16; refine (same_yes _ _ _ _ (rowIs_of hm) (rowIs_of hok)).mono ?_; rintro e w4 ⟨rfl, hb4⟩; have hob := owns_below hob hb4; have hbr := hbr.trans (hb4.mono hbr.size); have hcv := conv_row hob)
        | (go_at_call 12; with_reducible refine (V1 _).mono ?_; rintro e w5 ⟨rfl, hb5⟩; have hbr := hbr.trans (hb5.mono hbr.size)))
      go_ret
      exact ⟨rfl, hbr⟩

theorem Try.laidOut : laidOutB Try.prog = true := by kernel_rfl
theorem Try.bytesInt : Try.checked.prog.bytesOf 3 = 8 := by kernel_rfl

set_option maxRecDepth 100000 in
theorem runesBack_lifted (os : Os) (started : os.Started) (H : Type) (enc : TypeId × Value → H) :
    ReturnsInHanded {} Try.checked os 7 .any (Rows.runesBackSpec.pre6 enc Try.prog Try.f7 Rows.runesBackRow.domain false) (Rows.runesBackSpec.post enc Try.prog Try.f7 false true false false) := by
  refine returnsInHanded_of_change_sized (C := Try.checked) Try.own started (by kernel_rfl) Try.func7
    (ChangeSpec.witness6 (enc := enc) (C := Try.checked) false ⟨#[], #[.slice none 0 0], []⟩ 8 (by kernel_rfl) (by kernel_rfl) (by kernel_rfl) (by kernel_rfl)) ?_
  intro W base args ds gs before hval0 hW _ hsz _
  have hval : ∀ (j : Nat) t v, Try.f7.params[j]? = some t → args[j]? = some v → Value.okWide Try.prog W .any base t v := hval0
  have hW' := hW
  obtain ⟨p, q, hA0, hV, rfl, hfz, hnd⟩ := hW
  have hA : DataW.TrodAll enc Try.prog W 0 (fun _ => true) true Try.f7.params.toList args.toList ds p := hA0
  rw [Try.params7] at hA hval
  obtain ⟨v0, vs0, d0, ds0, p0, q0, hargs, rfl, rfl, h0, r0⟩ := trodAll_cons hA
  obtain ⟨rfl, rfl, rfl⟩ := trodAll_nil r0
  obtain rfl : args = #[v0] := by cases args; simp_all
  obtain ⟨rfl, rfl⟩ := trodVars_none hV
  obtain ⟨a0, len0, cap0, rfl⟩ := okWide_slice Try.underlying26 (hval 0 26 v0 rfl rfl)
  have k0 := h0
  have lt0 : ∀ x ∈ p0, x.block < W.heap.size := by obtain ⟨m, hm⟩ := k0; exact DataW.trod_lt m _ _ _ hm
  obtain ⟨z0, w0, b0⟩ : ∃ zs, IsRow .i64 W a0 len0 cap0 zs ∧ len0 ≤ 17592186043904 := by
    obtain ⟨fuel, hf⟩ := h0
    rcases open_ints Try.underlying26 Try.underlying3 (by kernel_rfl) hf with ⟨hcs, _⟩ | ⟨x, l, c, zs, hcs, _, hl, hm, hz, hx, hcell, hwz⟩
    · simp [Value.cells] at hcs
      obtain ⟨rfl, rfl, rfl⟩ := hcs
      exact ⟨[], .inl ⟨rfl, rfl, rfl, rfl⟩, Nat.zero_le _⟩
    · simp [Value.cells] at hcs
      obtain ⟨rfl, rfl, rfl⟩ := hcs
      have hz' : zs.length = cap0 := by simpa using hz
      obtain ⟨hd, _⟩ := Prod.mk.inj hx
      refine ⟨zs, .inr ⟨_, rfl, hl, hm, hz', hcell, hwz⟩, ?_⟩
      subst hd
      have h := sized_slice hsz (j := 0) rfl rfl Try.underlying26
      rw [Try.bytesInt] at h
      simp only [lits, List.length_map, List.length_take, List.length_drop] at h
      unfold reachBytes at h
      omega
  clear hA0 hval0 hsz
  refine (back_walk a0 len0 cap0 z0 W w0 b0).mono fun e W' ⟨he, bel⟩ => ?_
  subst he
  exact ⟨_, rfl, _, _, _, [], _, [], hW', trodAll_mk1 (shut_bool Try.underlying4 _), (trodAll_cons_mk (Below.trod Try.laidOut (by kernel_rfl) (of_decide_eq_true (by kernel_rfl)) k0 bel lt0) trodAll_mk0), rfl, bel.frame _, fun h => by cases h⟩

theorem runesBack_holds : Rows.RunesBackSaid :=
  OpenClaim.holds_of_wide 7 Try.f7 rfl rfl rfl rfl rfl rfl rfl ⟨rfl, rfl, rfl, rfl, rfl⟩ rfl rfl rfl rfl rfl (by kernel_rfl) Try.func7 (by kernel_rfl)
    (of_decide_eq_true (by kernel_rfl)) (by unfold Func.isWrapper; first | (rw [if_pos (by decide +kernel)]; kernel_rfl) | (rw [if_neg (by decide +kernel)]; exact ⟨rfl, rfl⟩))
    (fun os started H enc _ => runesBack_lifted os started H enc)
#print axioms runesBack_holds

end Go.Proofs.Ytikbomagmedemaa
