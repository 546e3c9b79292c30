/- What is ignored changes no tree: the law's own walk. -/
import Derived.Test.YtkmopfmofcehiaaGreatDoorB23
import Derived.Test.YtkmopfmofcehiaaGreatDoorB22
import Derived.Test.YtkmopfmofcehiaaGreatDoorB24
import Derived.OpenShut
namespace Go.Proofs.YtkmopfmofcehiaaGreatDoor
open Go Go.RowKit Go.Shelf

/-- What is told of the slice that came in. -/
def IsRow (k : IntKind) (w : World) (a : Option Addr) (len cap : Nat) (zs : List Int) : Prop :=
  (a = none ∧ len = 0 ∧ cap = 0 ∧ zs = []) ∨
  ∃ x, a = some x ∧ len ≤ cap ∧ cap ≤ maxLen ∧ zs.length = cap ∧ (∀ i, i < zs.length → w.cell? (x.add i) = some (.int k (zs.getD i 0))) ∧ ∀ n ∈ zs, (Lit.int k n).wf = true
theorem and3 (x : Int) : ∃ n : Nat, n < 4 ∧ bits .and .i64 x 3 = (n : Int) := by
  have h : (BitVec.ofInt 64 x &&& BitVec.ofInt 64 3).toNat < 4 := by
    rw [BitVec.toNat_and]
    exact Nat.lt_succ_of_le (Nat.le_trans Nat.and_le_right (by decide))
  refine ⟨_, h, ?_⟩
  show IntKind.wrap .i64 (((BitVec.ofInt 64 x &&& BitVec.ofInt 64 3).toNat : Nat) : Int) = _
  generalize (BitVec.ofInt 64 x &&& BitVec.ofInt 64 3).toNat = v at h
  have h1 : (v : Int) % 2 ^ IntKind.i64.bits = v := Int.emod_eq_of_lt (by omega) (by show (v : Int) < 2 ^ 64; omega)
  unfold IntKind.wrap
  simp only [h1]
  rw [if_neg]
  intro e
  simp only [Bool.and_eq_true, decide_eq_true_eq] at e
  have := e.2
  have h2 : (2 ^ (IntKind.i64.bits - 1) : Int) = 9223372036854775808 := by decide
  omega
abbrev gapO : Obj := .cells #[.string ⟨#[32]⟩, .string ⟨#[44]⟩, .string ⟨#[10, 35, 120, 10]⟩, .string ⟨#[9, 13, 10]⟩] 9
theorem gap_cell (w : World) (n : Nat) (hn : n < 4) : (w.alloc gapO).cell? ⟨w.heap.size, n, none⟩ = some (.string ⟨(gapB n).toArray⟩) := by
  have h := fun i => cell_new w #[.string ⟨#[32]⟩, .string ⟨#[44]⟩, .string ⟨#[10, 35, 120, 10]⟩, .string ⟨#[9, 13, 10]⟩] 9 i
  have h' := h n
  rw [Addr.add_lit, Nat.zero_add] at h'
  refine h'.trans ?_
  match n, hn with
  | 0, _ => rfl
  | 1, _ => rfl
  | 2, _ => rfl
  | 3, _ => rfl
set_option maxRecDepth 100000 in
set_option maxHeartbeats 4000000 in
theorem ignores_walk (s : Bs) (a0 : Option Addr) (len cap : Nat) (zs : List Int) (w : World) (h : IsRow .i64 w a0 len cap zs) (gl : Gl w) :
    Calls Tryz.prog 6 #[.string ⟨s.toArray⟩, .slice a0 len cap] w fun e w' => e = .returned (.bool true) ∧ Below w.heap.size w w' := by
  have ok : Ok6 w w := ⟨Below.refl _ _, gl⟩
  have T := tokens_any s w gl
  cases hs : lexS s with
  | inl p =>
    rw [hs] at T
    have hp0 := lexS_bad hs
    obtain ⟨b, x⟩ := p
    have x1 : (x == 0) = false := by simpa using hp0
    have x2 : (x != 0) = true := by simp only [bne, x1]; rfl
    clear hs hp0 h
    go_enter Tryz.func6, Tryz.ntmps6
    go_wp2_with (first
      | (go_at_call 11; refine (fixed_any _ ok2.gl).mono ?_; rintro e w3 ⟨rfl, hb3⟩; have ok3 := ok2.go hb3)
      | (go_at_call 11; refine (fixed_any _ ok1.gl).mono ?_; rintro e w2 ⟨rfl, hb2⟩; have ok2 := ok1.go hb2)
      | (go_at_call 17; refine T.mono ?_; rintro e w1 ⟨rfl, hb1⟩; have ok1 := ok.go hb1)
      | fail)
    go_ret
    exact ⟨rfl, ok3.bel⟩
  | inr ts0 =>
    rw [hs] at T
    obtain ⟨ps, tl, hR, hts⟩ := right_of hs
    have HR : Hid (Right s ps tl) := hR
    have hlen : ts0.length = ps.length := by rw [hts]; exact toksP_len _ _ _
    have hfew := hR.few
    have hsh := hR.short
    have hD : (ByteArray.mk s.toArray).size = s.length := rfl
    have HTS : Hid (ts0 = toksP s.length ps tl) := hts
    clear hR hts hs
    generalize hDD : (ByteArray.mk s.toArray) = D at *
    have HD : Hid ((ByteArray.mk s.toArray) = D) := hDD
    clear hDD
    obtain ⟨i1, hi1, hy0, hy1, hy2⟩ := info_parts Tryz.infoByteI
    go_enter Tryz.func6, Tryz.ntmps6
    go_wp2_with (first
      | (go_at_call 11; refine (fixed_any _ ok1.gl).mono ?_; rintro e w2 ⟨rfl, hb2⟩; have ok2 := ok1.go hb2)
      | (go_at_call 17; refine T.mono ?_; rintro e w1 ⟨⟨v, rfl, ht⟩, hb1⟩; have ok1 := ok.go hb1; obtain ⟨a1, c1, rfl, hc1, hrow⟩ := toks_rowI ht; rw [hlen])
      | fail)
    go_loopw [8, 9] (fun b i wr => ∃ (j : Nat) (vb : Value) (qs : List Pc), j ≤ ps.length ∧ i = .int .i64 (j : Int) ∧ b = vb ∧ BytesI wr w2.heap.size vb (catP qs []) ∧ vb ≠ .slice none 0 0 ∧ Hid (Gs qs (ps.take j)) ∧ Below w2.heap.size w2 wr) (fun _ i _ => ps.length - (RowKit.intOf i).toNat)
    case atStart => exact ⟨0, _, [], Nat.zero_le _, rfl, rfl, own_nobI w2, by simp, trivial, (Below.refl _ _).alloc (Nat.le_refl _) _⟩
    case round =>
      obtain ⟨j, vb, qs, hj, rfl, rfl, hob, hnn, hG, hbr⟩ := hrel
      by_cases hlt : j < ps.length
      · obtain ⟨a, t, R⟩ := rndI_of HR.out j hlt
        rw [← HTS.out] at R
        obtain ⟨r1, r2, r3, r4, r5, r6⟩ := R
        rw [HD.out] at r4
        have hne : ts0 ≠ [] := by rintro rfl; simp at r1
        obtain ⟨g1, rfl, hg1, hcell⟩ := hrow hne
        obtain ⟨h2, h3⟩ := hcell j t r1
        rw [Nat.mul_comm 4 j] at h2 h3
        clear hcell
        obtain ⟨tk, tt, tb, te⟩ := t
        simp only at h2 h3 r2 r3 r4 r5
        have hbl := gs_bytes HR.out hG.out
        have hsz : (ByteArray.mk a.p.toArray).size = te - tb := by rw [← r5]; rfl
        have f4 : ((tb : Int) ≤ (te : Int)) := by omega
        have f5 : (te : Int) ≤ (s.length : Int) := by omega
        have hcj : j < c1 := by omega
        have HN : ∀ k, Gs (qs ++ [⟨gapB k, a.p, a.k, a.t⟩]) (ps.take (j + 1)) := fun k => by rw [r6]; exact hG.out.snoc a k
        have HB : ∀ k, catP (qs ++ [⟨gapB k, a.p, a.k, a.t⟩]) [] = catP qs [] ++ gapB k ++ a.p := fun k => by
          rw [catP_app, catP_head]
          simp [catP]
        by_cases hgj : j < len
        · rcases h with ⟨_, h0, _⟩ | ⟨xa, rfl, q1, q2, q3, q4, _⟩
          · omega
          obtain ⟨bk, off, rfl, hc⟩ := ints_at q4 (by omega)
          have c0 : w.cell? ⟨bk, off + j, none⟩ = some (.int .i64 (zs.getD j 0)) := hc j (by omega)
          have cg : wr.cell? ⟨bk, off + j, none⟩ = some (.int .i64 (zs.getD j 0)) := cell_on (ok2.bel.trans (hbr.mono ok2.bel.size)) c0
          generalize zs.getD j 0 = c at cg
          clear c0 q4 hc
          unfold maxLen at q2
          obtain ⟨n, hn, hb3⟩ := and3 c
          have hl1 : (j : Int) < (len : Int) := by omega
          have CF := gap_cell wr n hn
          have hn4 : (n : Int) < 4 := by omega
          obtain ⟨GB, hGB, HGB, hGs⟩ : ∃ GB : ByteArray, (ByteArray.mk (gapB n).toArray) = GB ∧ Hid (GB = ⟨(gapB n).toArray⟩) ∧ GB.size ≤ 4 := ⟨_, rfl, rfl, (gap_of n).2.2⟩
          rw [hGB] at CF
          clear hGB
          have hb5 : Below wr.heap.size wr (wr.alloc gapO) := al1 _ _
          have hor := owns_belowI hob hb5
          go_wp2_with (first
            | (at_builtin; refine Lib.wpList_append_own_string _ rfl _ _ 37 9 rfl w2.heap.size 5 i1 Tryz.underlying37 Tryz.underlying9 hi1 hy0 hy1 hy2 _ _ _ rfl hor GB rfl ?d1 ?d2 ?d3 ?_)
            | fail)
          case d1 => unfold maxLen; omega
          case d2 => omega
          case d3 => first | exact Nat.le_trans hbr.size hb5.size | (have := hbr.size; omega)
          intro vb8 w8 hob8 hg8 hnil8
          have hb8 : Below w2.heap.size w2 w8 := (hbr.trans (hb5.mono hbr.size)).grown hg8 (Nat.le_trans hbr.size hb5.size) (own_geI hor)
          have hob9 : BytesI w8 w2.heap.size vb8 (catP qs [] ++ gapB n) := by
            have hx := HGB.out
            subst hx
            unfold BytesI
            rw [cells_app, List.length_append, ← strCells_eq (gapB n)]
            exact hob8
          have hn9 : vb8 ≠ .slice none 0 0 := by first | exact fun e => hnn (hnil8.1 e).1 | exact hnil8
          have h2' := cell_on (hb2.trans (hb8.mono hb2.size)) h2
          have h3' := cell_on (hb2.trans (hb8.mono hb2.size)) h3
          have hbl2 : (catP qs [] ++ gapB n).length ≤ s.length + 8196 := by
            have := (gap_of n).2.2
            rw [List.length_append]; omega
          have HN' : Hid (Gs (qs ++ [⟨gapB n, a.p, a.k, a.t⟩]) (ps.take (j + 1))) := HN n
          have HB' : Hid (catP (qs ++ [⟨gapB n, a.p, a.k, a.t⟩]) [] = catP qs [] ++ gapB n ++ a.p) := HB n
          generalize catP qs [] ++ gapB n = L2 at *
          clear hob8 hg8 hnil8 hor hob hG CF cg h2 h3 HN HB hbl
          obtain ⟨PB, hPB, HPB, hPs⟩ : ∃ PB : ByteArray, (ByteArray.mk a.p.toArray) = PB ∧ Hid (PB = ⟨a.p.toArray⟩) ∧ PB.size = te - tb := ⟨_, rfl, rfl, hsz⟩
          rw [hPB] at r4
          clear hPB hsz
          have hob9d : BytesI w8.drew w2.heap.size vb8 L2 := hob9
          have hb8d : Below w2.heap.size w2 w8.drew := hb8.drew
          have d1 : L2.length + PB.size ≤ maxLen := by unfold maxLen; omega
          have d3 := hb8d.size
          go_wp2
          go_region_law (first
            | (refine step_append_str rfl (.tmp 52) (.tmp 64) 37 9 rfl w2.heap.size 5 i1 Tryz.underlying37 Tryz.underlying9 hi1 hy0 hy1 hy2 vb8 L2.length (Lib.byteCells L2) rfl hob9d PB rfl d1 (by omega) d3 ?_; intro vb9 w9 hobA hgA hnilA; have OA : Hid _ := hobA; have GA : Hid _ := hgA; have NA : Hid _ := hnilA; clear hobA hgA hnilA)
            | fail)
          all_goals
            have hbF : Below w2.heap.size w2 w9 := hb8d.grown GA.out hb8d.size (own_geI hob9d)
            have hobF : BytesI w9 w2.heap.size vb9 (catP (qs ++ [⟨gapB n, a.p, a.k, a.t⟩]) []) := by
              have hx := HPB.out
              subst hx
              have ho := OA.out
              unfold BytesI
              rw [HB'.out, cells_app, List.length_append, ← strCells_eq a.p]
              exact ho
            have hnF : vb9 ≠ .slice none 0 0 := fun e => hn9 ((NA.out.1 e).1)
            go_wp2
            refine ⟨⟨j + 1, vb9, _, by omega, congrArg (Value.int .i64) (by omega), rfl, hobF, hnF, HN', hbF⟩, ?_⟩
            simp [RowKit.intOf]
            omega
        · have hl1 : ¬ (j : Int) < (len : Int) := by omega
          have CF := gap_cell wr 0 (by decide)
          obtain ⟨GB, hGB, HGB, hGs⟩ : ∃ GB : ByteArray, (ByteArray.mk (gapB 0).toArray) = GB ∧ Hid (GB = ⟨(gapB 0).toArray⟩) ∧ GB.size ≤ 4 := ⟨_, rfl, rfl, (gap_of 0).2.2⟩
          rw [hGB] at CF
          clear hGB
          have hb5 : Below wr.heap.size wr (wr.alloc gapO) := al1 _ _
          have hor := owns_belowI hob hb5
          go_wp2_with (first
            | (at_builtin; refine Lib.wpList_append_own_string _ rfl _ _ 37 9 rfl w2.heap.size 5 i1 Tryz.underlying37 Tryz.underlying9 hi1 hy0 hy1 hy2 _ _ _ rfl hor GB rfl ?d1 ?d2 ?d3 ?_)
            | fail)
          case d1 => unfold maxLen; omega
          case d2 => omega
          case d3 => first | exact Nat.le_trans hbr.size hb5.size | (have := hbr.size; omega)
          intro vb8 w8 hob8 hg8 hnil8
          have hb8 : Below w2.heap.size w2 w8 := (hbr.trans (hb5.mono hbr.size)).grown hg8 (Nat.le_trans hbr.size hb5.size) (own_geI hor)
          have hob9 : BytesI w8 w2.heap.size vb8 (catP qs [] ++ gapB 0) := by
            have hx := HGB.out
            subst hx
            unfold BytesI
            rw [cells_app, List.length_append, ← strCells_eq (gapB 0)]
            exact hob8
          have hn9 : vb8 ≠ .slice none 0 0 := by first | exact fun e => hnn (hnil8.1 e).1 | exact hnil8
          have h2' := cell_on (hb2.trans (hb8.mono hb2.size)) h2
          have h3' := cell_on (hb2.trans (hb8.mono hb2.size)) h3
          have hbl2 : (catP qs [] ++ gapB 0).length ≤ s.length + 8196 := by
            have := (gap_of 0).2.2
            rw [List.length_append]; omega
          have HN' : Hid (Gs (qs ++ [⟨gapB 0, a.p, a.k, a.t⟩]) (ps.take (j + 1))) := HN 0
          have HB' : Hid (catP (qs ++ [⟨gapB 0, a.p, a.k, a.t⟩]) [] = catP qs [] ++ gapB 0 ++ a.p) := HB 0
          generalize catP qs [] ++ gapB 0 = L2 at *
          clear hob8 hg8 hnil8 hor hob hG CF h2 h3 HN HB hbl
          obtain ⟨PB, hPB, HPB, hPs⟩ : ∃ PB : ByteArray, (ByteArray.mk a.p.toArray) = PB ∧ Hid (PB = ⟨a.p.toArray⟩) ∧ PB.size = te - tb := ⟨_, rfl, rfl, hsz⟩
          rw [hPB] at r4
          clear hPB hsz
          have hob9d : BytesI w8.drew w2.heap.size vb8 L2 := hob9
          have hb8d : Below w2.heap.size w2 w8.drew := hb8.drew
          have d1 : L2.length + PB.size ≤ maxLen := by unfold maxLen; omega
          have d3 := hb8d.size
          go_wp2
          go_region_law (first
            | (refine step_append_str rfl (.tmp 52) (.tmp 64) 37 9 rfl w2.heap.size 5 i1 Tryz.underlying37 Tryz.underlying9 hi1 hy0 hy1 hy2 vb8 L2.length (Lib.byteCells L2) rfl hob9d PB rfl d1 (by omega) d3 ?_; intro vb9 w9 hobA hgA hnilA; have OA : Hid _ := hobA; have GA : Hid _ := hgA; have NA : Hid _ := hnilA; clear hobA hgA hnilA)
            | fail)
          all_goals
            have hbF : Below w2.heap.size w2 w9 := hb8d.grown GA.out hb8d.size (own_geI hob9d)
            have hobF : BytesI w9 w2.heap.size vb9 (catP (qs ++ [⟨gapB 0, a.p, a.k, a.t⟩]) []) := by
              have hx := HPB.out
              subst hx
              have ho := OA.out
              unfold BytesI
              rw [HB'.out, cells_app, List.length_append, ← strCells_eq a.p]
              exact ho
            have hnF : vb9 ≠ .slice none 0 0 := fun e => hn9 ((NA.out.1 e).1)
            go_wp2
            refine ⟨⟨j + 1, vb9, _, by omega, congrArg (Value.int .i64) (by omega), rfl, hobF, hnF, HN', hbF⟩, ?_⟩
            simp [RowKit.intOf]
            omega
      · obtain rfl : j = ps.length := by omega
        rw [List.take_length] at hG
        obtain ⟨g9, cap9, rfl⟩ := not_noneI hob hnn
        have okr : Ok6 w wr := ok2.go hbr
        have hbl := gs_bytes (j := ps.length) HR.out (by rw [List.take_length]; exact hG.out)
        by_cases hbig : (catP qs []).length ≤ 16384
        · have P1 := parse_any s wr okr.gl
          have P2 := parse_any (catP qs [])
          rw [HD.out] at P1
          have hlb : ¬ ((catP qs []).length : Int) > 16384 := by omega
          have hlb' : ¬ (16384 : Int) < ((catP qs []).length : Int) := by omega
          rcases ign_same HR.out hG.out hbig with ⟨xs, e1, e2, l, m, hl, hit⟩ | ⟨c, p, p', e1, e2⟩
          · rw [e1] at P1
            rw [e2] at P2
            have hrows := its_rows hl hit
            clear e1 e2 hit
            generalize hA : (opsOf xs) = A at *
            generalize hB : (fragsOf xs) = B at *
            go_wp2_with (first
              | (go_at_call 12; (with_reducible refine (same_docs hrows.1 hrows.2 U2 U1).mono ?_); rintro e w6 ⟨rfl, b6⟩)
              | (go_at_call 9; (with_reducible refine (P2 _ ok3.gl).mono ?_); rintro e w5 ⟨⟨v5, rfl, hv5⟩, b5⟩; obtain ⟨p1, y1, p2, y2, rfl, U5⟩ := docV_at hv5; rw [hA, hB] at U5 ⊢; have U2 := U5.up (al1 w5 (.cells #[.slice p1 A.length y1, .slice p2 B.length y2] 25)); have U1 := ((U0.up (al1 w3 (.cells #[.slice o1 A.length z1, .slice o2 B.length z2] 25))).up b5).up (al1 w5 (.cells #[.slice p1 A.length y1, .slice p2 B.length y2] 25)); have d0 := cell_on (al1 w5 (.cells #[.slice p1 A.length y1, .slice p2 B.length y2] 25)) (cell_on b5 (row2 (heap_alloc_new w3 (.cells #[.slice o1 A.length z1, .slice o2 B.length z2] 25))).1); have d1 := cell_on (al1 w5 (.cells #[.slice p1 A.length y1, .slice p2 B.length y2] 25)) (cell_on b5 (row2 (heap_alloc_new w3 (.cells #[.slice o1 A.length z1, .slice o2 B.length z2] 25))).2.1); have ok5 := (ok3.go b5).alloc (.cells #[.slice p1 A.length y1, .slice p2 B.length y2] 25))
              | (go_at_call 9; (with_reducible refine P1.mono ?_); rintro e w3 ⟨⟨v3, rfl, hv3⟩, b3⟩; obtain ⟨o1, z1, o2, z2, rfl, U0⟩ := docV_at hv3; rw [hA, hB] at U0 ⊢; have ok3 := (okr.go b3).alloc (.cells #[.slice o1 A.length z1, .slice o2 B.length z2] 25); have CONV := conv_rowI (owns_belowI (owns_belowI hob b3) (al1 w3 (.cells #[.slice o1 A.length z1, .slice o2 B.length z2] 25))))
              | fail)
            go_ret
            exact ⟨by first | rfl | simp, (ok5.go b6).bel⟩
          · rw [e1] at P1
            rw [e2] at P2
            clear e1 e2
            go_wp2_with (first
              | (go_at_call 12; (with_reducible refine (same_none _).mono ?_); rintro e w6 ⟨rfl, b6⟩)
              | (go_at_call 9; (with_reducible refine (P2 _ ok3.gl).mono ?_); rintro e w5 ⟨rfl, b5⟩; have d0 := cell_on (al1 w5 (.cells #[.slice none 0 0, .slice none 0 0] 25)) (cell_on b5 (row2 (heap_alloc_new w3 (.cells #[.slice none 0 0, .slice none 0 0] 25))).1); have d1 := cell_on (al1 w5 (.cells #[.slice none 0 0, .slice none 0 0] 25)) (cell_on b5 (row2 (heap_alloc_new w3 (.cells #[.slice none 0 0, .slice none 0 0] 25))).2.1); have ok5 := (ok3.go b5).alloc (.cells #[.slice none 0 0, .slice none 0 0] 25))
              | (go_at_call 9; (with_reducible refine P1.mono ?_); rintro e w3 ⟨rfl, b3⟩; have ok3 := (okr.go b3).alloc (.cells #[.slice none 0 0, .slice none 0 0] 25); have CONV := conv_rowI (owns_belowI (owns_belowI hob b3) (al1 w3 (.cells #[.slice none 0 0, .slice none 0 0] 25))))
              | fail)
            go_ret
            exact ⟨by first | rfl | simp, (ok5.go b6).bel⟩
        · have hlb : ((catP qs []).length : Int) > 16384 := by omega
          have hlb' : (16384 : Int) < ((catP qs []).length : Int) := by omega
          go_wp2
          go_ret
          exact ⟨rfl, okr.bel⟩
end Go.Proofs.YtkmopfmofcehiaaGreatDoor
