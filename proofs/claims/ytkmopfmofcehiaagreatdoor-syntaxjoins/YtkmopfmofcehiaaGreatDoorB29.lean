/- A document behind another one: where both are. -/
import Derived.Test.YtkmopfmofcehiaaGreatDoorB27
import Derived.Test.YtkmopfmofcehiaaGreatDoorB26
namespace Go.Proofs.YtkmopfmofcehiaaGreatDoor
open Go Go.RowKit Go.Shelf

theorem opsOf_app (xs ys : List (Bool × List CT)) : opsOf (xs ++ ys) = opsOf xs ++ opsOf ys := by simp [opsOf]
theorem fragsOf_app (xs ys : List (Bool × List CT)) : fragsOf (xs ++ ys) = fragsOf xs ++ fragsOf ys := by simp [fragsOf]
theorem rowP_app {p : List CT → Prop} {a b : List (List CT)} (ha : RowP p a) (hb : RowP p b) (h : (a ++ b).length ≤ 1099511627776) : RowP p (a ++ b) := ⟨h, fun x hx => (List.mem_append.1 hx).elim (ha.2 x) (hb.2 x)⟩
set_option maxRecDepth 100000 in
set_option maxHeartbeats 80000000 in
theorem joins_both (s t : Bs) (hb : t.length ≤ 140737488351232) (ts : List Tok) (xs : List (Bool × List CT)) (hs : lexS s = .inr ts) (hd : docS (ts ++ [eofT s.length]) = .ok (docC xs, [])) (hx : itsS (ts ++ [eofT s.length]) = .ok (xs, [])) (us : List Tok) (ys : List (Bool × List CT)) (ht : lexS t = .inr us) (hdt : docS (us ++ [eofT t.length]) = .ok (docC ys, [])) (hy : itsS (us ++ [eofT t.length]) = .ok (ys, [])) (w : World) (gl : Gl w) :
    Calls Tryz.prog 7 #[.string ⟨s.toArray⟩, .string ⟨t.toArray⟩] w fun e w' => e = .returned (.bool true) ∧ Below w.heap.size w w' := by
  have ok : Ok6 w w := ⟨Below.refl _ _, gl⟩
  have P1 := parse_any s w gl
  rw [parse_of_lex hs hd] at P1
  have P2 := parse_any t
  have T1 := tokens_any s
  have T2 := tokens_any t
  have P3 := parse_any (s ++ 10 :: t)
  rw [hs] at T1
  obtain ⟨hn1, hn2, _⟩ := lexS_full hs
  have hsz := size_of s
  have htz := size_of t
  have hcat := catJ s t
  have hk1 : ¬ 9223372036854775807 < s.length + 1 := by omega
  have hk2 : ¬ 9223372036854775807 < s.length + 1 + t.length := by omega
  obtain ⟨hrA, hrB⟩ := its_rows (by simp only [List.length_append, List.length_cons, List.length_nil]; omega) hx
  obtain ⟨hm1, hm2, _⟩ := lexS_full ht
  obtain ⟨hrC, hrF⟩ := its_rows (by simp only [List.length_append, List.length_cons, List.length_nil]; omega) hy
  have nx := any_few itemS_eats [] _ _ _ _ (Nat.le_refl _) hx
  have ny := any_few itemS_eats [] _ _ _ _ (Nat.le_refl _) hy
  have mx := opsFrags_len xs
  have my := opsFrags_len ys
  simp only [List.length_append, List.length_cons, List.length_nil] at nx ny
  rw [parse_of_lex ht hdt] at P2
  rw [ht] at T2
  by_cases hb1 : s.length + t.length + 1 > 16384
  · have i1 : (s.length : Int) + (t.length : Int) + 1 > 16384 := by omega
    have i1' : (16384 : Int) < (s.length : Int) + (t.length : Int) + 1 := by omega
    clear hx hd hs ht hy hdt P3 hrA hrB hrC hrF
    generalize hA : (opsOf xs) = A at *
    generalize hB : (fragsOf xs) = B at *
    generalize hC : (opsOf ys) = C at *
    generalize hF : (fragsOf ys) = F at *
    go_enter Tryz.func7, Tryz.ntmps7
    go_wp2_with (first
      | (go_at_call 17; (with_reducible refine (T2 _ ok4.gl).mono ?_); intro e w5 h5; obtain ⟨to2, tc2, rfl, b5⟩ := tok_slice h5; have ok5 := ok4.go b5)
      | (go_at_call 17; (with_reducible refine (T1 _ ok3.gl).mono ?_); intro e w4 h4; obtain ⟨to1, tc1, rfl, b4⟩ := tok_slice h4; have ok4 := ok3.go b4)
      | (go_at_call 11; (with_reducible refine (fixed_any _ (ok2.alloc (.cells #[.slice p1 C.length y1, .slice p2 F.length y2] 25)).gl).mono ?_); rintro e w3 ⟨rfl, b3⟩; have ok3 := (ok2.alloc (.cells #[.slice p1 C.length y1, .slice p2 F.length y2] 25)).go b3)
      | (go_at_call 9; (with_reducible refine (P2 _ (ok1.alloc (.cells #[.slice o1 A.length z1, .slice o2 B.length z2] 25)).gl).mono ?_); rintro e w2 ⟨⟨v2, rfl, hv2⟩, b2⟩; obtain ⟨p1, y1, p2, y2, rfl, U2⟩ := docV_at hv2; rw [hC, hF] at U2 ⊢; have ok2 := (ok1.alloc (.cells #[.slice o1 A.length z1, .slice o2 B.length z2] 25)).go b2)
      | (go_at_call 9; (with_reducible refine P1.mono ?_); rintro e w1 ⟨⟨v1, rfl, hv1⟩, b1⟩; obtain ⟨o1, z1, o2, z2, rfl, U1⟩ := docV_at hv1; rw [hA, hB] at U1 ⊢; have ok1 := ok.go b1)
      | fail)
    go_ret
    exact ⟨by first | rfl | simp, ok5.bel⟩
  by_cases hb2 : ts.length + us.length > 2048
  · have i1 : ¬ (s.length : Int) + (t.length : Int) + 1 > 16384 := by omega
    have i1' : ¬ (16384 : Int) < (s.length : Int) + (t.length : Int) + 1 := by omega
    have i2 : (2048 : Int) < (ts.length : Int) + (us.length : Int) := by omega
    clear hx hd hs ht hy hdt P3 hrA hrB hrC hrF
    generalize hA : (opsOf xs) = A at *
    generalize hB : (fragsOf xs) = B at *
    generalize hC : (opsOf ys) = C at *
    generalize hF : (fragsOf ys) = F at *
    go_enter Tryz.func7, Tryz.ntmps7
    go_wp2_with (first
      | (go_at_call 17; (with_reducible refine (T2 _ ok4.gl).mono ?_); intro e w5 h5; obtain ⟨to2, tc2, rfl, b5⟩ := tok_slice h5; have ok5 := ok4.go b5)
      | (go_at_call 17; (with_reducible refine (T1 _ ok3.gl).mono ?_); intro e w4 h4; obtain ⟨to1, tc1, rfl, b4⟩ := tok_slice h4; have ok4 := ok3.go b4)
      | (go_at_call 11; (with_reducible refine (fixed_any _ (ok2.alloc (.cells #[.slice p1 C.length y1, .slice p2 F.length y2] 25)).gl).mono ?_); rintro e w3 ⟨rfl, b3⟩; have ok3 := (ok2.alloc (.cells #[.slice p1 C.length y1, .slice p2 F.length y2] 25)).go b3)
      | (go_at_call 9; (with_reducible refine (P2 _ (ok1.alloc (.cells #[.slice o1 A.length z1, .slice o2 B.length z2] 25)).gl).mono ?_); rintro e w2 ⟨⟨v2, rfl, hv2⟩, b2⟩; obtain ⟨p1, y1, p2, y2, rfl, U2⟩ := docV_at hv2; rw [hC, hF] at U2 ⊢; have ok2 := (ok1.alloc (.cells #[.slice o1 A.length z1, .slice o2 B.length z2] 25)).go b2)
      | (go_at_call 9; (with_reducible refine P1.mono ?_); rintro e w1 ⟨⟨v1, rfl, hv1⟩, b1⟩; obtain ⟨o1, z1, o2, z2, rfl, U1⟩ := docV_at hv1; rw [hA, hB] at U1 ⊢; have ok1 := ok.go b1)
      | fail)
    go_ret
    exact ⟨by first | rfl | simp, ok5.bel⟩
  have i1 : ¬ (s.length : Int) + (t.length : Int) + 1 > 16384 := by omega
  have i1' : ¬ (16384 : Int) < (s.length : Int) + (t.length : Int) + 1 := by omega
  have i2 : ¬ (2048 : Int) < (ts.length : Int) + (us.length : Int) := by omega
  have h1 := join_ok hs ht hd hx hy (by omega) (by omega)
  rw [h1] at P3
  have hAC := opsOf_app xs ys
  have hBF := fragsOf_app xs ys
  clear hx hd hs ht hy hdt h1
  generalize hA : (opsOf xs) = A at *
  generalize hB : (fragsOf xs) = B at *
  generalize hC : (opsOf ys) = C at *
  generalize hF : (fragsOf ys) = F at *
  have hrAC : RowP OpT (A ++ C) := rowP_app hrA hrC (by rw [List.length_append]; omega)
  have hrBF : RowP FragT (B ++ F) := rowP_app hrB hrF (by rw [List.length_append]; omega)
  have l1 : ([] : List (List CT)).length + A.length ≤ 1000000 := by simp; omega
  have l2 : A.length + C.length ≤ 1000000 := by omega
  have l3 : ([] : List (List CT)).length + B.length ≤ 1000000 := by simp; omega
  have l4 : B.length + F.length ≤ 1000000 := by omega
  go_enter Tryz.func7, Tryz.ntmps7
  go_wp2_with (first
    | (go_at_call 9; (with_reducible refine (P3 _ ok5.gl).mono ?_); rintro e w6 ⟨⟨v6, rfl, hv6⟩, b6⟩; obtain ⟨o5, z5, o6, z6, rfl, U6⟩ := docV_at hv6; rw [hAC, hBF] at U6 ⊢; simp only [List.length_append] at U6 ⊢; have V6 := U6.up (al1 w6 (.cells #[.slice o5 (A.length + C.length) z5, .slice o6 (B.length + F.length) z6] 25)); have B2 := bnx (bnx (bnx (bnx b3 b4) b5) b6) (al1 w6 (.cells #[.slice o5 (A.length + C.length) z5, .slice o6 (B.length + F.length) z6] 25)); have B1 := bnx (bnx b2 (al1 w2 (.cells #[.slice p1 C.length y1, .slice p2 F.length y2] 25))) B2; have V1 := (U1.up (al1 w1 (.cells #[.slice o1 A.length z1, .slice o2 B.length z2] 25))).up B1; have V2 := (U2.up (al1 w2 (.cells #[.slice p1 C.length y1, .slice p2 F.length y2] 25))).up B2; have c0 := cell_on B1 (row2 (heap_alloc_new w1 (.cells #[.slice o1 A.length z1, .slice o2 B.length z2] 25))).1; have c1 := cell_on B1 (row2 (heap_alloc_new w1 (.cells #[.slice o1 A.length z1, .slice o2 B.length z2] 25))).2.1; have c2 := cell_on B2 (row2 (heap_alloc_new w2 (.cells #[.slice p1 C.length y1, .slice p2 F.length y2] 25))).1; have c3 := cell_on B2 (row2 (heap_alloc_new w2 (.cells #[.slice p1 C.length y1, .slice p2 F.length y2] 25))).2.1; have ok6 := (ok5.go b6).alloc (.cells #[.slice o5 (A.length + C.length) z5, .slice o6 (B.length + F.length) z6] 25))
    | (go_at_call 17; (with_reducible refine (T2 _ ok4.gl).mono ?_); intro e w5 h5; obtain ⟨to2, tc2, rfl, b5⟩ := tok_slice h5; have ok5 := ok4.go b5)
    | (go_at_call 17; (with_reducible refine (T1 _ ok3.gl).mono ?_); intro e w4 h4; obtain ⟨to1, tc1, rfl, b4⟩ := tok_slice h4; have ok4 := ok3.go b4)
    | (go_at_call 11; (with_reducible refine (fixed_any _ (ok2.alloc (.cells #[.slice p1 C.length y1, .slice p2 F.length y2] 25)).gl).mono ?_); rintro e w3 ⟨rfl, b3⟩; have ok3 := (ok2.alloc (.cells #[.slice p1 C.length y1, .slice p2 F.length y2] 25)).go b3)
    | (go_at_call 9; (with_reducible refine (P2 _ (ok1.alloc (.cells #[.slice o1 A.length z1, .slice o2 B.length z2] 25)).gl).mono ?_); rintro e w2 ⟨⟨v2, rfl, hv2⟩, b2⟩; obtain ⟨p1, y1, p2, y2, rfl, U2⟩ := docV_at hv2; rw [hC, hF] at U2 ⊢; have ok2 := (ok1.alloc (.cells #[.slice o1 A.length z1, .slice o2 B.length z2] 25)).go b2)
    | (go_at_call 9; (with_reducible refine P1.mono ?_); rintro e w1 ⟨⟨v1, rfl, hv1⟩, b1⟩; obtain ⟨o1, z1, o2, z2, rfl, U1⟩ := docV_at hv1; rw [hA, hB] at U1 ⊢; have ok1 := ok.go b1)
    | fail)
  have c5 := (row2 (heap_alloc_new w6 (.cells #[.slice o5 (A.length + C.length) z5, .slice o6 (B.length + F.length) z6] 25))).1
  have c6 := (row2 (heap_alloc_new w6 (.cells #[.slice o5 (A.length + C.length) z5, .slice o6 (B.length + F.length) z6] 25))).2.1
  have hq5 := World.block_lt_of_cell? _ _ c0
  have hq8 := World.block_lt_of_cell? _ _ c2
  have hq9 := World.block_lt_of_cell? _ _ c5
  generalize w1.heap.size = q5 at *
  generalize w2.heap.size = q8 at *
  generalize w6.heap.size = q9 at *
  generalize w6.alloc (.cells #[.slice o5 (A.length + C.length) z5, .slice o6 (B.length + F.length) z6] 25) = W at *
  have V6l : Ats W (fun k => k < W.heap.size) (docR (A ++ C) (B ++ F)) [.slice o5 (A ++ C).length z5, .slice o6 (B ++ F).length z6] := by simpa only [List.length_append] using V6
  have hA1 := V1.all 0 _ _ rfl rfl
  have hB1 := V1.all 1 _ _ rfl rfl
  have hC1 := V2.all 0 _ _ rfl rfl
  have hF1 := V2.all 1 _ _ rfl rfl
  have r := rs_begin W
  have d0 : W.drew.cell? ⟨q5, 0, none⟩ = some (.slice o1 A.length z1) := c0
  have d1 : W.drew.cell? ⟨q5, 1, none⟩ = some (.slice o2 B.length z2) := c1
  have d2 : W.drew.cell? ⟨q8, 0, none⟩ = some (.slice p1 C.length y1) := c2
  have d3 : W.drew.cell? ⟨q8, 1, none⟩ = some (.slice p2 F.length y2) := c3
  go_region_held3 (fun w' => w'.cell? ⟨q5, 0, none⟩ = some (.slice o1 A.length z1) ∧ w'.cell? ⟨q5, 1, none⟩ = some (.slice o2 B.length z2) ∧ w'.cell? ⟨q8, 0, none⟩ = some (.slice p1 C.length y1) ∧ w'.cell? ⟨q8, 1, none⟩ = some (.slice p2 F.length y2)) (first | exact ⟨(r.s.cell (p := ⟨q5, 0, none⟩) hq5).trans c0, (r.s.cell (p := ⟨q5, 1, none⟩) hq5).trans c1, (r.s.cell (p := ⟨q8, 0, none⟩) hq8).trans c2, (r.s.cell (p := ⟨q8, 1, none⟩) hq8).trans c3⟩ | exact ⟨((r.alloc _).s.cell (p := ⟨q5, 0, none⟩) hq5).trans c0, ((r.alloc _).s.cell (p := ⟨q5, 1, none⟩) hq5).trans c1, ((r.alloc _).s.cell (p := ⟨q8, 0, none⟩) hq8).trans c2, ((r.alloc _).s.cell (p := ⟨q8, 1, none⟩) hq8).trans c3⟩ | exact ⟨((rs_end r (by simp) (by simp)).1.cell (p := ⟨q5, 0, none⟩) hq5).trans c0, ((rs_end r (by simp) (by simp)).1.cell (p := ⟨q5, 1, none⟩) hq5).trans c1, ((rs_end r (by simp) (by simp)).1.cell (p := ⟨q8, 0, none⟩) hq8).trans c2, ((rs_end r (by simp) (by simp)).1.cell (p := ⟨q8, 1, none⟩) hq8).trans c3⟩ | exact ⟨(((r.alloc _).alloc _).s.cell (p := ⟨q5, 0, none⟩) hq5).trans c0, (((r.alloc _).alloc _).s.cell (p := ⟨q5, 1, none⟩) hq5).trans c1, (((r.alloc _).alloc _).s.cell (p := ⟨q8, 0, none⟩) hq8).trans c2, (((r.alloc _).alloc _).s.cell (p := ⟨q8, 1, none⟩) hq8).trans c3⟩ | exact ⟨((((r.alloc _).alloc _).alloc _).s.cell (p := ⟨q5, 0, none⟩) hq5).trans c0, ((((r.alloc _).alloc _).alloc _).s.cell (p := ⟨q5, 1, none⟩) hq5).trans c1, ((((r.alloc _).alloc _).alloc _).s.cell (p := ⟨q8, 0, none⟩) hq8).trans c2, ((((r.alloc _).alloc _).alloc _).s.cell (p := ⟨q8, 1, none⟩) hq8).trans c3⟩ | exact ⟨((r.alloc _).drew.s.cell (p := ⟨q5, 0, none⟩) hq5).trans c0, ((r.alloc _).drew.s.cell (p := ⟨q5, 1, none⟩) hq5).trans c1, ((r.alloc _).drew.s.cell (p := ⟨q8, 0, none⟩) hq8).trans c2, ((r.alloc _).drew.s.cell (p := ⟨q8, 1, none⟩) hq8).trans c3⟩ | exact ⟨(((r.alloc _).alloc _).drew.s.cell (p := ⟨q5, 0, none⟩) hq5).trans c0, (((r.alloc _).alloc _).drew.s.cell (p := ⟨q5, 1, none⟩) hq5).trans c1, (((r.alloc _).alloc _).drew.s.cell (p := ⟨q8, 0, none⟩) hq8).trans c2, (((r.alloc _).alloc _).drew.s.cell (p := ⟨q8, 1, none⟩) hq8).trans c3⟩ | exact ⟨((((r.alloc _).alloc _).alloc _).drew.s.cell (p := ⟨q5, 0, none⟩) hq5).trans c0, ((((r.alloc _).alloc _).alloc _).drew.s.cell (p := ⟨q5, 1, none⟩) hq5).trans c1, ((((r.alloc _).alloc _).alloc _).drew.s.cell (p := ⟨q8, 0, none⟩) hq8).trans c2, ((((r.alloc _).alloc _).alloc _).drew.s.cell (p := ⟨q8, 1, none⟩) hq8).trans c3⟩ | go_keep) (first
    | (refine rs_A (.tmp 117) (.tmp 119) _ _ [] A (.slice o1 A.length z1) rfl rfl rfl rfl hA1 hrA l1 (by first | exact r | exact (r.nA rfl) | exact (r.nA rfl).drew | exact (r.nB rfl) | exact (r.nB rfl).drew | exact (r.nC rfl) | exact (r.nC rfl).drew | exact ((r.nA rfl).nB (World.size_alloc _ _)) | exact ((r.nA rfl).nB (World.size_alloc _ _)).drew | exact ((r.nA rfl).nC (World.size_alloc _ _)) | exact ((r.nA rfl).nC (World.size_alloc _ _)).drew | exact ((r.nB rfl).nA (World.size_alloc _ _)) | exact ((r.nB rfl).nA (World.size_alloc _ _)).drew | exact ((r.nB rfl).nC (World.size_alloc _ _)) | exact ((r.nB rfl).nC (World.size_alloc _ _)).drew | exact ((r.nC rfl).nA (World.size_alloc _ _)) | exact ((r.nC rfl).nA (World.size_alloc _ _)).drew | exact ((r.nC rfl).nB (World.size_alloc _ _)) | exact ((r.nC rfl).nB (World.size_alloc _ _)).drew | exact (((r.nA rfl).nB (World.size_alloc _ _)).nC (size2J _ _ _)) | exact (((r.nA rfl).nB (World.size_alloc _ _)).nC (size2J _ _ _)).drew | exact (((r.nA rfl).nC (World.size_alloc _ _)).nB (size2J _ _ _)) | exact (((r.nA rfl).nC (World.size_alloc _ _)).nB (size2J _ _ _)).drew | exact (((r.nB rfl).nA (World.size_alloc _ _)).nC (size2J _ _ _)) | exact (((r.nB rfl).nA (World.size_alloc _ _)).nC (size2J _ _ _)).drew | exact (((r.nB rfl).nC (World.size_alloc _ _)).nA (size2J _ _ _)) | exact (((r.nB rfl).nC (World.size_alloc _ _)).nA (size2J _ _ _)).drew | exact (((r.nC rfl).nA (World.size_alloc _ _)).nB (size2J _ _ _)) | exact (((r.nC rfl).nA (World.size_alloc _ _)).nB (size2J _ _ _)).drew | exact (((r.nC rfl).nB (World.size_alloc _ _)).nA (size2J _ _ _)) | exact (((r.nC rfl).nB (World.size_alloc _ _)).nA (size2J _ _ _)).drew) ?_; clear r; intro qa capa w7 r; (try clear e0 e1 fz); (try (have hc := (r.c _ rfl).1; have e0 := (row2 hc).1; have e1 := (row2 hc).2.1; have fz := (row2 hc).2.2; clear hc)))
    | (refine rs_A (.tmp 120) (.tmp 122) _ _ A C (.slice p1 C.length y1) rfl rfl rfl rfl hC1 hrC l2 (by first | exact r | exact (r.nA rfl) | exact (r.nA rfl).drew | exact (r.nB rfl) | exact (r.nB rfl).drew | exact (r.nC rfl) | exact (r.nC rfl).drew | exact ((r.nA rfl).nB (World.size_alloc _ _)) | exact ((r.nA rfl).nB (World.size_alloc _ _)).drew | exact ((r.nA rfl).nC (World.size_alloc _ _)) | exact ((r.nA rfl).nC (World.size_alloc _ _)).drew | exact ((r.nB rfl).nA (World.size_alloc _ _)) | exact ((r.nB rfl).nA (World.size_alloc _ _)).drew | exact ((r.nB rfl).nC (World.size_alloc _ _)) | exact ((r.nB rfl).nC (World.size_alloc _ _)).drew | exact ((r.nC rfl).nA (World.size_alloc _ _)) | exact ((r.nC rfl).nA (World.size_alloc _ _)).drew | exact ((r.nC rfl).nB (World.size_alloc _ _)) | exact ((r.nC rfl).nB (World.size_alloc _ _)).drew | exact (((r.nA rfl).nB (World.size_alloc _ _)).nC (size2J _ _ _)) | exact (((r.nA rfl).nB (World.size_alloc _ _)).nC (size2J _ _ _)).drew | exact (((r.nA rfl).nC (World.size_alloc _ _)).nB (size2J _ _ _)) | exact (((r.nA rfl).nC (World.size_alloc _ _)).nB (size2J _ _ _)).drew | exact (((r.nB rfl).nA (World.size_alloc _ _)).nC (size2J _ _ _)) | exact (((r.nB rfl).nA (World.size_alloc _ _)).nC (size2J _ _ _)).drew | exact (((r.nB rfl).nC (World.size_alloc _ _)).nA (size2J _ _ _)) | exact (((r.nB rfl).nC (World.size_alloc _ _)).nA (size2J _ _ _)).drew | exact (((r.nC rfl).nA (World.size_alloc _ _)).nB (size2J _ _ _)) | exact (((r.nC rfl).nA (World.size_alloc _ _)).nB (size2J _ _ _)).drew | exact (((r.nC rfl).nB (World.size_alloc _ _)).nA (size2J _ _ _)) | exact (((r.nC rfl).nB (World.size_alloc _ _)).nA (size2J _ _ _)).drew) ?_; clear r; intro qa capa w7 r; (try clear e0 e1 fz); (try (have hc := (r.c _ rfl).1; have e0 := (row2 hc).1; have e1 := (row2 hc).2.1; have fz := (row2 hc).2.2; clear hc)))
    | (refine rs_B (.tmp 124) (.tmp 126) _ _ [] B (.slice o2 B.length z2) rfl rfl rfl rfl hB1 hrB l3 (by first | exact r | exact (r.nA rfl) | exact (r.nA rfl).drew | exact (r.nB rfl) | exact (r.nB rfl).drew | exact (r.nC rfl) | exact (r.nC rfl).drew | exact ((r.nA rfl).nB (World.size_alloc _ _)) | exact ((r.nA rfl).nB (World.size_alloc _ _)).drew | exact ((r.nA rfl).nC (World.size_alloc _ _)) | exact ((r.nA rfl).nC (World.size_alloc _ _)).drew | exact ((r.nB rfl).nA (World.size_alloc _ _)) | exact ((r.nB rfl).nA (World.size_alloc _ _)).drew | exact ((r.nB rfl).nC (World.size_alloc _ _)) | exact ((r.nB rfl).nC (World.size_alloc _ _)).drew | exact ((r.nC rfl).nA (World.size_alloc _ _)) | exact ((r.nC rfl).nA (World.size_alloc _ _)).drew | exact ((r.nC rfl).nB (World.size_alloc _ _)) | exact ((r.nC rfl).nB (World.size_alloc _ _)).drew | exact (((r.nA rfl).nB (World.size_alloc _ _)).nC (size2J _ _ _)) | exact (((r.nA rfl).nB (World.size_alloc _ _)).nC (size2J _ _ _)).drew | exact (((r.nA rfl).nC (World.size_alloc _ _)).nB (size2J _ _ _)) | exact (((r.nA rfl).nC (World.size_alloc _ _)).nB (size2J _ _ _)).drew | exact (((r.nB rfl).nA (World.size_alloc _ _)).nC (size2J _ _ _)) | exact (((r.nB rfl).nA (World.size_alloc _ _)).nC (size2J _ _ _)).drew | exact (((r.nB rfl).nC (World.size_alloc _ _)).nA (size2J _ _ _)) | exact (((r.nB rfl).nC (World.size_alloc _ _)).nA (size2J _ _ _)).drew | exact (((r.nC rfl).nA (World.size_alloc _ _)).nB (size2J _ _ _)) | exact (((r.nC rfl).nA (World.size_alloc _ _)).nB (size2J _ _ _)).drew | exact (((r.nC rfl).nB (World.size_alloc _ _)).nA (size2J _ _ _)) | exact (((r.nC rfl).nB (World.size_alloc _ _)).nA (size2J _ _ _)).drew) ?_; clear r; intro qb capb w7 r; (try clear e0 e1 fz); (try (have hc := (r.c _ rfl).1; have e0 := (row2 hc).1; have e1 := (row2 hc).2.1; have fz := (row2 hc).2.2; clear hc)))
    | (refine rs_B (.tmp 127) (.tmp 129) _ _ B F (.slice p2 F.length y2) rfl rfl rfl rfl hF1 hrF l4 (by first | exact r | exact (r.nA rfl) | exact (r.nA rfl).drew | exact (r.nB rfl) | exact (r.nB rfl).drew | exact (r.nC rfl) | exact (r.nC rfl).drew | exact ((r.nA rfl).nB (World.size_alloc _ _)) | exact ((r.nA rfl).nB (World.size_alloc _ _)).drew | exact ((r.nA rfl).nC (World.size_alloc _ _)) | exact ((r.nA rfl).nC (World.size_alloc _ _)).drew | exact ((r.nB rfl).nA (World.size_alloc _ _)) | exact ((r.nB rfl).nA (World.size_alloc _ _)).drew | exact ((r.nB rfl).nC (World.size_alloc _ _)) | exact ((r.nB rfl).nC (World.size_alloc _ _)).drew | exact ((r.nC rfl).nA (World.size_alloc _ _)) | exact ((r.nC rfl).nA (World.size_alloc _ _)).drew | exact ((r.nC rfl).nB (World.size_alloc _ _)) | exact ((r.nC rfl).nB (World.size_alloc _ _)).drew | exact (((r.nA rfl).nB (World.size_alloc _ _)).nC (size2J _ _ _)) | exact (((r.nA rfl).nB (World.size_alloc _ _)).nC (size2J _ _ _)).drew | exact (((r.nA rfl).nC (World.size_alloc _ _)).nB (size2J _ _ _)) | exact (((r.nA rfl).nC (World.size_alloc _ _)).nB (size2J _ _ _)).drew | exact (((r.nB rfl).nA (World.size_alloc _ _)).nC (size2J _ _ _)) | exact (((r.nB rfl).nA (World.size_alloc _ _)).nC (size2J _ _ _)).drew | exact (((r.nB rfl).nC (World.size_alloc _ _)).nA (size2J _ _ _)) | exact (((r.nB rfl).nC (World.size_alloc _ _)).nA (size2J _ _ _)).drew | exact (((r.nC rfl).nA (World.size_alloc _ _)).nB (size2J _ _ _)) | exact (((r.nC rfl).nA (World.size_alloc _ _)).nB (size2J _ _ _)).drew | exact (((r.nC rfl).nB (World.size_alloc _ _)).nA (size2J _ _ _)) | exact (((r.nC rfl).nB (World.size_alloc _ _)).nA (size2J _ _ _)).drew) ?_; clear r; intro qb capb w7 r; (try clear e0 e1 fz); (try (have hc := (r.c _ rfl).1; have e0 := (row2 hc).1; have e1 := (row2 hc).2.1; have fz := (row2 hc).2.2; clear hc)))
    | fail)
  all_goals
    first
    | (have EE := rs_endN r (.cells #[.slice (some ⟨qa, 0, none⟩) (A.length + C.length) capa, .slice (some ⟨qb, 0, none⟩) (B.length + F.length) capb] 25); obtain ⟨bel, VE⟩ := EE; have f0 := (row2 (heap_alloc_new w7 (.cells #[.slice (some ⟨qa, 0, none⟩) (A.length + C.length) capa, .slice (some ⟨qb, 0, none⟩) (B.length + F.length) capb] 25))).1; have f1 := (row2 (heap_alloc_new w7 (.cells #[.slice (some ⟨qa, 0, none⟩) (A.length + C.length) capa, .slice (some ⟨qb, 0, none⟩) (B.length + F.length) capb] 25))).2.1)
    | (have EE := rs_end r (na := A.length + C.length) (nb := B.length + F.length) (by simp) (by simp); obtain ⟨bel, VE⟩ := EE; have f0 := (row2 (set2J (a := .slice (some ⟨qa, 0, none⟩) (A.length + C.length) capa) (b := .slice (some ⟨qb, 0, none⟩) (B.length + F.length) capb) (r.c _ rfl).1)).1; have f1 := (row2 (set2J (a := .slice (some ⟨qa, 0, none⟩) (A.length + C.length) capa) (b := .slice (some ⟨qb, 0, none⟩) (B.length + F.length) capb) (r.c _ rfl).1)).2.1)
    have g0 := (bel.cell (p := ⟨q9, 0, none⟩) hq9).trans c5
    have g1 := (bel.cell (p := ⟨q9, 1, none⟩) hq9).trans c6
    have SM := same_docs hrAC hrBF (V6l.up bel) VE
    simp only [List.length_append] at SM
    have okb := ok6.bel.trans (bel.mono ok6.bel.size)
    clear VE r bel
    go_wp2_with (first
      | (go_at_call 12; (with_reducible refine SM.mono ?_); rintro e w8 ⟨rfl, b8⟩)
      | fail)
    go_ret
    exact ⟨by first | rfl | simp, okb.trans (b8.mono okb.size)⟩
end Go.Proofs.YtkmopfmofcehiaaGreatDoor
