/- A document behind another one: where that is none. -/
import Derived.Test.YtkmopfmofcehiaaGreatDoorB26
namespace Go.Proofs.YtkmopfmofcehiaaGreatDoor
open Go Go.RowKit Go.Shelf

set_option maxRecDepth 100000 in
set_option maxHeartbeats 8000000 in
theorem joins_bad (s t : Bs) (hb : t.length ≤ 140737488351232) (ts : List Tok) (xs : List (Bool × List CT)) (hs : lexS s = .inr ts) (h0 : ts ≠ []) (hd : docS (ts ++ [eofT s.length]) = .ok (docC xs, [])) (hx : itsS (ts ++ [eofT s.length]) = .ok (xs, [])) (us : List Tok) (p : Nat) (c : Int) (ht : lexS t = .inr us) (hpt : parseS t = .error (p, c)) (w : World) (gl : Gl w) :
    Calls Tryz.prog 7 #[.string ⟨s.toArray⟩, .string ⟨t.toArray⟩] w fun e w' => e = .returned (.bool true) ∧ Below w.heap.size w w' := by
  have ok : Ok6 w w := ⟨Below.refl _ _, gl⟩
  have P1 := parse_any s w gl
  rw [parse_of_lex hs hd] at P1
  have P2 := parse_any t
  have T1 := tokens_any s
  have T2 := tokens_any t
  have P3 := parse_any (s ++ 10 :: t)
  rw [hs] at T1
  obtain ⟨hn1, hn2, _⟩ := lexS_full hs
  have hsz := size_of s
  have htz := size_of t
  have hcat := catJ s t
  have hk1 : ¬ 9223372036854775807 < s.length + 1 := by omega
  have hk2 : ¬ 9223372036854775807 < s.length + 1 + t.length := by omega
  have hrows := its_rows (by simp only [List.length_append, List.length_cons, List.length_nil]; omega) hx
  obtain ⟨hm1, hm2, _⟩ := lexS_full ht
  have hc : c = 60 ∨ c = 61 := (parse_places ht (doc_of_err ht hpt)).1
  rw [hpt] at P2
  rw [ht] at T2
  have x1 : (c == 0) = false := by simp; omega
  have x2 : (c != 0) = true := by simp only [bne, x1]; rfl
  by_cases hb1 : s.length + t.length + 1 > 16384
  · have i1 : (s.length : Int) + (t.length : Int) + 1 > 16384 := by omega
    have i1' : (16384 : Int) < (s.length : Int) + (t.length : Int) + 1 := by omega
    clear hx hd hs ht hpt P3 hrows
    generalize hA : (opsOf xs) = A at *
    generalize hB : (fragsOf xs) = B at *
    go_enter Tryz.func7, Tryz.ntmps7
    go_wp2_with (first
      | (go_at_call 17; (with_reducible refine (T2 _ ok4.gl).mono ?_); intro e w5 h5; obtain ⟨to2, tc2, rfl, b5⟩ := tok_slice h5; have ok5 := ok4.go b5)
      | (go_at_call 17; (with_reducible refine (T1 _ ok3.gl).mono ?_); intro e w4 h4; obtain ⟨to1, tc1, rfl, b4⟩ := tok_slice h4; have ok4 := ok3.go b4)
      | (go_at_call 11; (with_reducible refine (fixed_any _ (ok2.alloc (.cells #[.slice none 0 0, .slice none 0 0] 25)).gl).mono ?_); rintro e w3 ⟨rfl, b3⟩; have ok3 := (ok2.alloc (.cells #[.slice none 0 0, .slice none 0 0] 25)).go b3)
      | (go_at_call 9; (with_reducible refine (P2 _ (ok1.alloc (.cells #[.slice o1 A.length z1, .slice o2 B.length z2] 25)).gl).mono ?_); rintro e w2 ⟨rfl, b2⟩; have ok2 := (ok1.alloc (.cells #[.slice o1 A.length z1, .slice o2 B.length z2] 25)).go b2)
      | (go_at_call 9; (with_reducible refine P1.mono ?_); rintro e w1 ⟨⟨v1, rfl, hv1⟩, b1⟩; obtain ⟨o1, z1, o2, z2, rfl, U1⟩ := docV_at hv1; rw [hA, hB] at U1 ⊢; have ok1 := ok.go b1)
      | fail)
    go_ret
    exact ⟨by first | rfl | simp, ok5.bel⟩
  by_cases hb2 : ts.length + us.length > 2048
  · have i1 : ¬ (s.length : Int) + (t.length : Int) + 1 > 16384 := by omega
    have i1' : ¬ (16384 : Int) < (s.length : Int) + (t.length : Int) + 1 := by omega
    have i2 : (2048 : Int) < (ts.length : Int) + (us.length : Int) := by omega
    clear hx hd hs ht hpt P3 hrows
    generalize hA : (opsOf xs) = A at *
    generalize hB : (fragsOf xs) = B at *
    go_enter Tryz.func7, Tryz.ntmps7
    go_wp2_with (first
      | (go_at_call 17; (with_reducible refine (T2 _ ok4.gl).mono ?_); intro e w5 h5; obtain ⟨to2, tc2, rfl, b5⟩ := tok_slice h5; have ok5 := ok4.go b5)
      | (go_at_call 17; (with_reducible refine (T1 _ ok3.gl).mono ?_); intro e w4 h4; obtain ⟨to1, tc1, rfl, b4⟩ := tok_slice h4; have ok4 := ok3.go b4)
      | (go_at_call 11; (with_reducible refine (fixed_any _ (ok2.alloc (.cells #[.slice none 0 0, .slice none 0 0] 25)).gl).mono ?_); rintro e w3 ⟨rfl, b3⟩; have ok3 := (ok2.alloc (.cells #[.slice none 0 0, .slice none 0 0] 25)).go b3)
      | (go_at_call 9; (with_reducible refine (P2 _ (ok1.alloc (.cells #[.slice o1 A.length z1, .slice o2 B.length z2] 25)).gl).mono ?_); rintro e w2 ⟨rfl, b2⟩; have ok2 := (ok1.alloc (.cells #[.slice o1 A.length z1, .slice o2 B.length z2] 25)).go b2)
      | (go_at_call 9; (with_reducible refine P1.mono ?_); rintro e w1 ⟨⟨v1, rfl, hv1⟩, b1⟩; obtain ⟨o1, z1, o2, z2, rfl, U1⟩ := docV_at hv1; rw [hA, hB] at U1 ⊢; have ok1 := ok.go b1)
      | fail)
    go_ret
    exact ⟨by first | rfl | simp, ok5.bel⟩
  have i1 : ¬ (s.length : Int) + (t.length : Int) + 1 > 16384 := by omega
  have i1' : ¬ (16384 : Int) < (s.length : Int) + (t.length : Int) + 1 := by omega
  have i2 : ¬ (2048 : Int) < (ts.length : Int) + (us.length : Int) := by omega
  by_cases hu : us = []
  · subst hu
    have h1 := join_none hs ht hd hx (by omega) hn1
    rw [h1] at P3
    clear hx hd hs ht hpt h1
    generalize hA : (opsOf xs) = A at *
    generalize hB : (fragsOf xs) = B at *
    go_enter Tryz.func7, Tryz.ntmps7
    go_wp2_with (first
      | (go_at_call 12; (with_reducible refine (same_docs hrows.1 hrows.2 V6 V1).mono ?_); rintro e w7 ⟨rfl, b7⟩)
      | (go_at_call 9; (with_reducible refine (P3 _ ok5.gl).mono ?_); rintro e w6 ⟨⟨v6, rfl, hv6⟩, b6⟩; obtain ⟨o5, z5, o6, z6, rfl, U6⟩ := docV_at hv6; rw [hA, hB] at U6 ⊢; have BB := bnx (bnx (bnx (bnx (bnx (bnx b2 (al1 w2 (.cells #[.slice none 0 0, .slice none 0 0] 25))) b3) b4) b5) b6) (al1 w6 (.cells #[.slice o5 A.length z5, .slice o6 B.length z6] 25)); have V6 := U6.up (al1 w6 (.cells #[.slice o5 A.length z5, .slice o6 B.length z6] 25)); have V1 := (U1.up (al1 w1 (.cells #[.slice o1 A.length z1, .slice o2 B.length z2] 25))).up BB; have d0 := cell_on BB (row2 (heap_alloc_new w1 (.cells #[.slice o1 A.length z1, .slice o2 B.length z2] 25))).1; have d1 := cell_on BB (row2 (heap_alloc_new w1 (.cells #[.slice o1 A.length z1, .slice o2 B.length z2] 25))).2.1; have ok6 := (ok5.go b6).alloc (.cells #[.slice o5 A.length z5, .slice o6 B.length z6] 25))
      | (go_at_call 17; (with_reducible refine (T2 _ ok4.gl).mono ?_); intro e w5 h5; obtain ⟨to2, tc2, rfl, b5⟩ := tok_slice h5; have ok5 := ok4.go b5)
      | (go_at_call 17; (with_reducible refine (T1 _ ok3.gl).mono ?_); intro e w4 h4; obtain ⟨to1, tc1, rfl, b4⟩ := tok_slice h4; have ok4 := ok3.go b4)
      | (go_at_call 11; (with_reducible refine (fixed_any _ (ok2.alloc (.cells #[.slice none 0 0, .slice none 0 0] 25)).gl).mono ?_); rintro e w3 ⟨rfl, b3⟩; have ok3 := (ok2.alloc (.cells #[.slice none 0 0, .slice none 0 0] 25)).go b3)
      | (go_at_call 9; (with_reducible refine (P2 _ (ok1.alloc (.cells #[.slice o1 A.length z1, .slice o2 B.length z2] 25)).gl).mono ?_); rintro e w2 ⟨rfl, b2⟩; have ok2 := (ok1.alloc (.cells #[.slice o1 A.length z1, .slice o2 B.length z2] 25)).go b2)
      | (go_at_call 9; (with_reducible refine P1.mono ?_); rintro e w1 ⟨⟨v1, rfl, hv1⟩, b1⟩; obtain ⟨o1, z1, o2, z2, rfl, U1⟩ := docV_at hv1; rw [hA, hB] at U1 ⊢; have ok1 := ok.go b1)
      | fail)
    go_ret
    exact ⟨by first | rfl | simp, (ok6.go b7).bel⟩
  · obtain ⟨p', h1, h2, h3⟩ := join_bad hs ht h0 hx hu hpt (by omega) (by omega)
    rw [h1] at P3
    have i4 : (s.length : Int) < (p' : Int) := by omega
    have i5 : ((us.length : Int) == 0) = false := by
      have := List.length_pos_iff.2 hu
      simp; omega
    clear hx hd hs ht hpt h1 hrows hu
    generalize hA : (opsOf xs) = A at *
    generalize hB : (fragsOf xs) = B at *
    go_enter Tryz.func7, Tryz.ntmps7
    go_wp2_with (first
      | (go_at_call 9; (with_reducible refine (P3 _ ok5.gl).mono ?_); rintro e w6 ⟨rfl, b6⟩; have ok6 := ok5.go b6)
      | (go_at_call 17; (with_reducible refine (T2 _ ok4.gl).mono ?_); intro e w5 h5; obtain ⟨to2, tc2, rfl, b5⟩ := tok_slice h5; have ok5 := ok4.go b5)
      | (go_at_call 17; (with_reducible refine (T1 _ ok3.gl).mono ?_); intro e w4 h4; obtain ⟨to1, tc1, rfl, b4⟩ := tok_slice h4; have ok4 := ok3.go b4)
      | (go_at_call 11; (with_reducible refine (fixed_any _ (ok2.alloc (.cells #[.slice none 0 0, .slice none 0 0] 25)).gl).mono ?_); rintro e w3 ⟨rfl, b3⟩; have ok3 := (ok2.alloc (.cells #[.slice none 0 0, .slice none 0 0] 25)).go b3)
      | (go_at_call 9; (with_reducible refine (P2 _ (ok1.alloc (.cells #[.slice o1 A.length z1, .slice o2 B.length z2] 25)).gl).mono ?_); rintro e w2 ⟨rfl, b2⟩; have ok2 := (ok1.alloc (.cells #[.slice o1 A.length z1, .slice o2 B.length z2] 25)).go b2)
      | (go_at_call 9; (with_reducible refine P1.mono ?_); rintro e w1 ⟨⟨v1, rfl, hv1⟩, b1⟩; obtain ⟨o1, z1, o2, z2, rfl, U1⟩ := docV_at hv1; rw [hA, hB] at U1 ⊢; have ok1 := ok.go b1)
      | fail)
    go_ret
    exact ⟨by first | rfl | simp, (ok6.alloc _).bel⟩
end Go.Proofs.YtkmopfmofcehiaaGreatDoor
