/- Where a document is wrong: the law's own walk. -/
import Derived.Test.YtkmopfmofcehiaaGreatDoorB21
import Derived.Test.YtkmopfmofcehiaaGreatDoorB13
namespace Go.Proofs.YtkmopfmofcehiaaGreatDoor
open Go Go.RowKit Go.Shelf

theorem docV_lens {lo : Nat} {xs : List (Bool × List CT)} {v : Value} {w : World} (h : DocV lo (docC xs) v w) : ∃ (o1 : Option Addr) (z1 : Nat) (o2 : Option Addr) (z2 : Nat), v = .agg #[.slice o1 (opsOf xs).length z1, .slice o2 (fragsOf xs).length z2] := by
  obtain ⟨o1, n1, z1, o2, n2, z2, rfl, ha⟩ := h
  obtain ⟨_, _, e1, _⟩ := (ha.all 0 _ _ rfl rfl).rowInv
  obtain ⟨_, _, e2, _⟩ := (ha.all 1 _ _ rfl rfl).rowInv
  cases e1; cases e2
  exact ⟨_, _, _, _, rfl⟩
theorem tok_slice {W w : World} {e : Ending} {ts : List Tok} (h : TokensP W (.inr ts) e w) : ∃ o cap, e = .returned (.tuple #[.slice o ts.length cap, .int .i64 0, .int .i64 0]) ∧ Below W.heap.size W w := by
  obtain ⟨⟨v, rfl, ht⟩, hb⟩ := h
  rcases ht.2 with ⟨rfl, h0⟩ | ⟨g, cap, cur, rfl, _⟩
  · exact ⟨none, 0, by rw [h0], hb⟩
  · exact ⟨_, _, rfl, hb⟩
theorem cut_to (s : Bs) (p : Nat) : (ByteArray.mk s.toArray).extract 0 p = ⟨(s.take p).toArray⟩ := by
  rw [ByteArray.ext_iff]
  simp
set_option maxRecDepth 100000 in
set_option maxHeartbeats 2000000 in
theorem places_walk (s : Bs) (w : World) (gl : Gl w) : Calls Tryz.prog 5 #[.string ⟨s.toArray⟩] w fun e w' => e = .returned (.bool true) ∧ Below w.heap.size w w' := by
  have ok : Ok6 w w := ⟨Below.refl _ _, gl⟩
  have PP := parse_any s w gl
  have hsz := size_of s
  cases hp : parseS s with
  | ok d =>
    rw [hp] at PP
    obtain ⟨ts, xs, _, _, _, h0, hx9, rfl, _⟩ := parse_items hp
    have hl := opsFrags_len xs
    have hx : 0 < xs.length := List.length_pos_iff.2 h0
    generalize hA : (opsOf xs).length = A at *
    generalize hB : (fragsOf xs).length = B at *
    have hg : (0 : Int) < (A : Int) + (B : Int) := by omega
    have hA1 : A ≤ 2049 := by omega
    have hB1 : B ≤ 2049 := by omega
    clear hp
    go_enter Tryz.func5, Tryz.ntmps5
    go_wp2_with (first
      | (go_at_call 11; (with_reducible refine (fixed_any _ (ok1.alloc _).gl).mono ?_); rintro e w2 ⟨rfl, b2⟩; have d0 := cell_on b2 (row2 (heap_alloc_new w1 (.cells #[.slice o1 A z1, .slice o2 B z2] 25))).1; have d1 := cell_on b2 (row2 (heap_alloc_new w1 (.cells #[.slice o1 A z1, .slice o2 B z2] 25))).2.1)
      | (go_at_call 9; refine PP.mono ?_; rintro e w1 ⟨⟨v, rfl, hv⟩, b1⟩; obtain ⟨o1, z1, o2, z2, rfl⟩ := docV_lens hv; rw [hA, hB]; have ok1 := ok.go b1))
    go_ret
    exact ⟨by first | rfl | simp, ((ok1.alloc _).go b2).bel⟩
  | error p =>
    rw [hp] at PP
    obtain ⟨p, c⟩ := p
    unfold parseS at hp
    have TT := tokens_any s
    cases hs : lexS s with
    | inl q =>
      rw [hs] at hp
      obtain rfl : q = (p, c) := by injection hp
      rw [hs] at TT
      obtain ⟨h1, h2, h3⟩ := lexS_codes hs
      have i1 : ¬ (p : Int) < 0 := by omega
      have i2 : ¬ (p : Int) > (s.length : Int) := by omega
      have i2' : ¬ (s.length : Int) < (p : Int) := by omega
      have i3 : (c == 0) = false := by simp; omega
      have i4 : (c == 60) = false := by simp; omega
      have i5 : (c == 61) = false := by simp; omega
      have i6 : (c != 60) = true := by simp only [bne, i4]; rfl
      have i7 : (c != 61) = true := by simp only [bne, i5]; rfl
      clear hs hp h2 h3
      go_enter Tryz.func5, Tryz.ntmps5
      go_wp2_with (first
        | (go_at_call 17; refine (TT _ (ok1.alloc _ |>.go b2).gl).mono ?_; rintro e w3 ⟨rfl, b3⟩)
        | (go_at_call 11; (with_reducible refine (fixed_any _ (ok1.alloc _).gl).mono ?_); rintro e w2 ⟨rfl, b2⟩; have d0 := cell_on b2 (row2 (heap_alloc_new w1 (.cells #[.slice none 0 0, .slice none 0 0] 25))).1; have d1 := cell_on b2 (row2 (heap_alloc_new w1 (.cells #[.slice none 0 0, .slice none 0 0] 25))).2.1)
        | (go_at_call 9; refine PP.mono ?_; rintro e w1 ⟨rfl, b1⟩; have ok1 := ok.go b1))
      go_ret
      exact ⟨by first | rfl | simp, (((ok1.alloc _).go b2).go b3).bel⟩
    | inr ts =>
      rw [hs] at hp
      simp only at hp
      have hd : docS (ts ++ [eofT s.length]) = .error (p, c) := by
        cases hd : docS (ts ++ [eofT s.length]) with
        | error q => rw [hd] at hp; injection hp with hp; rw [hp]
        | ok q => rw [hd] at hp; cases hp
      obtain ⟨hc, h1, ⟨us, hu⟩, hor⟩ := parse_places hs hd
      have i1 : ¬ (p : Int) < 0 := by omega
      have i2 : ¬ (p : Int) > (s.length : Int) := by omega
      have i2' : ¬ (s.length : Int) < (p : Int) := by omega
      have i3 : (p : Int) ≤ (s.length : Int) := by omega
      have i4 : (p : Int).toNat = p := by omega
      have T2 := tokens_any (s.take p)
      rw [hu] at T2
      have P2 := parse_any (s.take p)
      have hcut := cut_to s p
      clear hs hp hd TT hu
      rcases hor with ⟨xs, h0, hx⟩ | hx
      · rw [hx] at P2
        have hl := opsFrags_len xs
        have hx0 : 0 < xs.length := List.length_pos_iff.2 h0
        have hx9 : xs.length ≤ 2049 := by
          obtain ⟨_, ys, _, _, _, _, h9, e0, _⟩ := parse_items hx
          have e1 : (opsOf xs).length = (opsOf ys).length ∧ (fragsOf xs).length = (fragsOf ys).length := by
            injection e0 with e1 e2
            injection e1 with _ _ e1
            injection e2 with e2
            injection e2 with _ _ e2
            exact ⟨e1, e2⟩
          have := opsFrags_len ys
          omega
        generalize hA : (opsOf xs).length = A at *
        generalize hB : (fragsOf xs).length = B at *
        have hg : (0 : Int) < (A : Int) + (B : Int) := by omega
        have hA1 : A ≤ 2049 := by omega
        have hB1 : B ≤ 2049 := by omega
        clear hx
        rcases hc with rfl | rfl
        · go_enter Tryz.func5, Tryz.ntmps5
          go_wp2_with (first
            | (go_at_call 9; (with_reducible refine (P2 _ ok3.gl).mono ?_); rintro e w4 ⟨⟨v, rfl, hv⟩, b4⟩; obtain ⟨o1, z1, o2, z2, rfl⟩ := docV_lens hv; rw [hA, hB]; have ok4 := ok3.go b4)
            | (go_at_call 17; (with_reducible refine (T2 _ ok2.gl).mono ?_); intro e w3 h3; obtain ⟨to, tc, rfl, b3⟩ := tok_slice h3; have ok3 := ok2.go b3)
            | (go_at_call 11; (with_reducible refine (fixed_any _ (ok1.alloc _).gl).mono ?_); rintro e w2 ⟨rfl, b2⟩; have ok2 := (ok1.alloc (.cells #[.slice none 0 0, .slice none 0 0] 25)).go b2; have d0 := cell_on b2 (row2 (heap_alloc_new w1 (.cells #[.slice none 0 0, .slice none 0 0] 25))).1; have d1 := cell_on b2 (row2 (heap_alloc_new w1 (.cells #[.slice none 0 0, .slice none 0 0] 25))).2.1)
            | (go_at_call 9; refine PP.mono ?_; rintro e w1 ⟨rfl, b1⟩; have ok1 := ok.go b1))
          go_ret
          exact ⟨by first | rfl | simp, (ok4.alloc _).bel⟩
        · go_enter Tryz.func5, Tryz.ntmps5
          go_wp2_with (first
            | (go_at_call 9; (with_reducible refine (P2 _ ok3.gl).mono ?_); rintro e w4 ⟨⟨v, rfl, hv⟩, b4⟩; obtain ⟨o1, z1, o2, z2, rfl⟩ := docV_lens hv; rw [hA, hB]; have ok4 := ok3.go b4)
            | (go_at_call 17; (with_reducible refine (T2 _ ok2.gl).mono ?_); intro e w3 h3; obtain ⟨to, tc, rfl, b3⟩ := tok_slice h3; have ok3 := ok2.go b3)
            | (go_at_call 11; (with_reducible refine (fixed_any _ (ok1.alloc _).gl).mono ?_); rintro e w2 ⟨rfl, b2⟩; have ok2 := (ok1.alloc (.cells #[.slice none 0 0, .slice none 0 0] 25)).go b2; have d0 := cell_on b2 (row2 (heap_alloc_new w1 (.cells #[.slice none 0 0, .slice none 0 0] 25))).1; have d1 := cell_on b2 (row2 (heap_alloc_new w1 (.cells #[.slice none 0 0, .slice none 0 0] 25))).2.1)
            | (go_at_call 9; refine PP.mono ?_; rintro e w1 ⟨rfl, b1⟩; have ok1 := ok.go b1))
          go_ret
          exact ⟨by first | rfl | simp, (ok4.alloc _).bel⟩
      · rw [hx] at P2
        clear hx
        rcases hc with rfl | rfl
        · go_enter Tryz.func5, Tryz.ntmps5
          go_wp2_with (first
            | (go_at_call 9; (with_reducible refine (P2 _ ok3.gl).mono ?_); rintro e w4 ⟨rfl, b4⟩; have ok4 := ok3.go b4)
            | (go_at_call 17; (with_reducible refine (T2 _ ok2.gl).mono ?_); intro e w3 h3; obtain ⟨to, tc, rfl, b3⟩ := tok_slice h3; have ok3 := ok2.go b3)
            | (go_at_call 11; (with_reducible refine (fixed_any _ (ok1.alloc _).gl).mono ?_); rintro e w2 ⟨rfl, b2⟩; have ok2 := (ok1.alloc (.cells #[.slice none 0 0, .slice none 0 0] 25)).go b2; have d0 := cell_on b2 (row2 (heap_alloc_new w1 (.cells #[.slice none 0 0, .slice none 0 0] 25))).1; have d1 := cell_on b2 (row2 (heap_alloc_new w1 (.cells #[.slice none 0 0, .slice none 0 0] 25))).2.1)
            | (go_at_call 9; refine PP.mono ?_; rintro e w1 ⟨rfl, b1⟩; have ok1 := ok.go b1))
          go_ret
          exact ⟨by first | rfl | simp, (ok4.alloc _).bel⟩
        · go_enter Tryz.func5, Tryz.ntmps5
          go_wp2_with (first
            | (go_at_call 9; (with_reducible refine (P2 _ ok3.gl).mono ?_); rintro e w4 ⟨rfl, b4⟩; have ok4 := ok3.go b4)
            | (go_at_call 17; (with_reducible refine (T2 _ ok2.gl).mono ?_); intro e w3 h3; obtain ⟨to, tc, rfl, b3⟩ := tok_slice h3; have ok3 := ok2.go b3)
            | (go_at_call 11; (with_reducible refine (fixed_any _ (ok1.alloc _).gl).mono ?_); rintro e w2 ⟨rfl, b2⟩; have ok2 := (ok1.alloc (.cells #[.slice none 0 0, .slice none 0 0] 25)).go b2; have d0 := cell_on b2 (row2 (heap_alloc_new w1 (.cells #[.slice none 0 0, .slice none 0 0] 25))).1; have d1 := cell_on b2 (row2 (heap_alloc_new w1 (.cells #[.slice none 0 0, .slice none 0 0] 25))).2.1)
            | (go_at_call 9; refine PP.mono ?_; rintro e w1 ⟨rfl, b1⟩; have ok1 := ok.go b1))
          go_ret
          exact ⟨by first | rfl | simp, (ok4.alloc _).bel⟩
end Go.Proofs.YtkmopfmofcehiaaGreatDoor
