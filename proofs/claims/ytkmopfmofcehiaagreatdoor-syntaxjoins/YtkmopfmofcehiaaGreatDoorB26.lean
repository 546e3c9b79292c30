/- A document behind another one: plain mathematics. -/
import Derived.Test.YtkmopfmofcehiaaGreatDoorB21
import Derived.Test.YtkmopfmofcehiaaGreatDoorB22
import Derived.Test.YtkmopfmofcehiaaGreatDoorB24
import Derived.Deep.AppendLies
import Derived.Laws.OwnMore
namespace Go.Proofs.YtkmopfmofcehiaaGreatDoor
open Go Go.RowKit

theorem toksP_ge : ∀ (ps : List Pc) (tl : Bs) (N : Nat), AllOk ps tl → ∀ x ∈ toksP N ps tl, N - (catP ps tl).length ≤ x.b
  | [], _, _, _ => fun _ h => by cases h
  | a :: az, tl, N, ⟨_, _, _, h4⟩ => by
    intro x hx
    have l0 : (catP (a :: az) tl).length = a.g.length + (a.p.length + (catP az tl).length) := by
      show (a.g ++ (a.p ++ catP az tl)).length = _
      rw [List.length_append, List.length_append]
    rcases List.mem_cons.1 hx with rfl | hx
    · show _ ≤ N - (a.p ++ catP az tl).length
      rw [List.length_append]
      omega
    · have := toksP_ge az tl N h4 x hx
      omega
/-- The tokens of both. -/
theorem join_toks {s t : Bs} {ps qs : List Pc} {tl tm : Bs} (h : Right s ps tl) (h' : Right t qs tm) (hl : s.length + t.length + 1 ≤ 16384) (hm : ps.length + qs.length ≤ 2048) :
    ∃ ts us, lexS (s ++ 10 :: t) = .inr (ts ++ us) ∧ saysK ts = saysK (toksP s.length ps tl) ∧ saysK us = saysK (toksP t.length qs tm) ∧ ∀ x ∈ us, s.length < x.b := by
  rw [lexS_two h hl]
  have hN : (s ++ 10 :: t).length = s.length + (t.length + 1) := by simp
  generalize (s ++ 10 :: t).length = N at *
  have e := lexG_cat (N := N) qs tm ps.length h'.ok hm
  rw [lexG_end h'.fin, ← h'.cat] at e
  rw [e]
  refine ⟨_, _, rfl, (toksP_says _ _ _).trans (toksP_says _ _ _).symm, ?_, ?_⟩
  · rw [List.append_nil]
    exact (toksP_says _ _ _).trans (toksP_says _ _ _).symm
  · intro x hx
    rw [List.append_nil] at hx
    have := toksP_ge qs tm N h'.ok x hx
    rw [← h'.cat] at this
    omega
theorem parse_of_lex {s : Bs} {ts : List Tok} (h : lexS s = .inr ts) {d : List CT} {l : List Tok} (hd : docS (ts ++ [eofT s.length]) = .ok (d, l)) : parseS s = .ok d := by
  unfold parseS
  rw [h]
  simp only
  rw [hd]
theorem parse_of_err {s : Bs} {ts : List Tok} (h : lexS s = .inr ts) {p : Nat × Int} (hd : docS (ts ++ [eofT s.length]) = .error p) : parseS s = .error p := by
  unfold parseS
  rw [h]
  simp only
  rw [hd]
theorem doc_of_err {s : Bs} {ts : List Tok} (h : lexS s = .inr ts) {p : Nat × Int} (hd : parseS s = .error p) : docS (ts ++ [eofT s.length]) = .error p := by
  unfold parseS at hd
  rw [h] at hd
  simp only at hd
  cases hx : docS (ts ++ [eofT s.length]) with
  | error q => rw [hx] at hd; injection hd with hd; rw [hd]
  | ok q => rw [hx] at hd; cases hd
theorem join_ok {s t : Bs} {ts us : List Tok} {xs ys : List (Bool × List CT)} (hs : lexS s = .inr ts) (ht : lexS t = .inr us) (hd : docS (ts ++ [eofT s.length]) = .ok (docC xs, [])) (hx : itsS (ts ++ [eofT s.length]) = .ok (xs, [])) (hy : itsS (us ++ [eofT t.length]) = .ok (ys, [])) (hl : s.length + t.length + 1 ≤ 16384) (hm : ts.length + us.length ≤ 2048) :
    parseS (s ++ 10 :: t) = .ok (docC (xs ++ ys)) := by
  have n1 : NoE ts := (lexS_full hs).2.2
  have n2 : NoE us := (lexS_full ht).2.2
  obtain ⟨ps, tl, hr, rfl⟩ := right_of hs
  obtain ⟨qs, tm, hr', rfl⟩ := right_of ht
  rw [toksP_len, toksP_len] at hm
  obtain ⟨ts', us', h1, h2, h3, _⟩ := join_toks hr hr' hl hm
  exact parse_of_lex h1 (doc_join h2.symm h3.symm n1 n2 hd hx hy)
theorem join_none {s t : Bs} {ts : List Tok} {xs : List (Bool × List CT)} (hs : lexS s = .inr ts) (ht : lexS t = .inr []) (hd : docS (ts ++ [eofT s.length]) = .ok (docC xs, [])) (hx : itsS (ts ++ [eofT s.length]) = .ok (xs, [])) (hl : s.length + t.length + 1 ≤ 16384) (hm : ts.length ≤ 2048) :
    parseS (s ++ 10 :: t) = .ok (docC xs) := by
  have := join_ok hs ht hd hx (its_eof _) hl (by simpa using hm)
  rwa [List.append_nil] at this
theorem join_bad {s t : Bs} {ts us : List Tok} {xs : List (Bool × List CT)} {p : Nat} {c : Int} (hs : lexS s = .inr ts) (ht : lexS t = .inr us) (h0 : ts ≠ []) (hx : itsS (ts ++ [eofT s.length]) = .ok (xs, [])) (hu : us ≠ []) (hy : parseS t = .error (p, c)) (hl : s.length + t.length + 1 ≤ 16384) (hm : ts.length + us.length ≤ 2048) :
    ∃ p', parseS (s ++ 10 :: t) = .error (p', c) ∧ s.length < p' ∧ p' ≤ 16384 := by
  have n1 : NoE ts := (lexS_full hs).2.2
  have n2 : NoE us := (lexS_full ht).2.2
  have hyd := doc_of_err ht hy
  obtain ⟨ps, tl, hr, rfl⟩ := right_of hs
  obtain ⟨qs, tm, hr', rfl⟩ := right_of ht
  rw [toksP_len, toksP_len] at hm
  obtain ⟨ts', us', h1, h2, h3, h4⟩ := join_toks hr hr' hl hm
  have hN : (s ++ 10 :: t).length = s.length + (t.length + 1) := by simp
  obtain ⟨i, hi, hb⟩ := doc_join_bad (K := (s ++ 10 :: t).length) h2.symm h3.symm n1 n2 h0 hx hu hyd
  refine ⟨_, parse_of_err h1 hb, ?_, ?_⟩
  · cases hq : us'.drop i with
    | nil => show s.length < (s ++ 10 :: t).length; omega
    | cons x r => exact h4 x (List.mem_of_mem_drop (by rw [hq]; exact List.mem_cons_self))
  · have hp := parse_of_err h1 hb
    have e1 : atT (us'.drop i ++ [eofT (s ++ 10 :: t).length]) ≤ (s ++ 10 :: t).length := (parse_places h1 (doc_of_err h1 hp)).2.1
    omega
theorem catP_many : ∀ (ps : List Pc) (tl : Bs), AllOk ps tl → ps.length ≤ (catP ps tl).length
  | [], _, _ => Nat.zero_le _
  | a :: az, tl, ⟨_, h2, _, h4⟩ => by
    have := catP_many az tl h4
    have hp : 0 < a.p.length := List.length_pos_iff.2 (tok_ne h2)
    show az.length + 1 ≤ (a.g ++ (a.p ++ catP az tl)).length
    simp only [List.length_append]
    omega
/-- Tokens that are wrong, behind a document. -/
theorem join_wrong {s t : Bs} {ts : List Tok} {p : Nat} {c : Int} (hs : lexS s = .inr ts) (ht : lexS t = .inl (p, c)) (hl : s.length + t.length + 1 ≤ 16384) (hm : ts.length + t.length ≤ 2048) :
    ∃ p', parseS (s ++ 10 :: t) = .error (p', c) ∧ s.length < p' ∧ p' ≤ 16384 := by
  obtain ⟨ps, tl, hr, rfl⟩ := right_of hs
  rw [toksP_len] at hm
  have hN : (s ++ 10 :: t).length = s.length + (t.length + 1) := by simp
  have key : ∃ p', lexS (s ++ 10 :: t) = .inl (p', c) ∧ s.length < p' ∧ p' ≤ 16384 := by
    rw [lexS_two hr hl]
    generalize (s ++ 10 :: t).length = N at *
    unfold lexS at ht
    rw [if_neg (by omega)] at ht
    have ht' : lexG t.length 0 t = .inl (p, c) := ht
    obtain ⟨qs, tm, e1, e2, e3, e4⟩ := lex_dec t.length 0 t (Nat.le_refl _) (by omega)
    have hq := catP_many qs tm e2
    rw [← e1] at hq
    have a1 := lexG_cat (N := t.length) qs tm 0 e2 e3
    have a2 := lexG_cat (N := N) qs tm ps.length e2 (by omega)
    rw [← e1] at a1 a2
    rw [ht'] at a1
    rw [a2]
    have hsm := skip_parts tm
    have htm : tm.length ≤ t.length := by
      have := congrArg List.length e1
      rw [catP_len] at this
      omega
    rcases e4 with hf | ⟨k, hf⟩ | ⟨x, l1, hf, hx⟩
    · rw [lexG_end hf] at a1; cases a1
    · rw [lexG_wrong hf] at a1 ⊢
      simp only [withL, Sum.inl.injEq, Prod.mk.injEq] at a1
      rw [hf] at hsm
      obtain ⟨q, cc, j, g1, g2, g3, g4⟩ := hsm
      have := congrArg List.length g1
      rw [List.length_append] at this
      refine ⟨N - k, by simp only [withL, a1.2], ?_, ?_⟩ <;> omega
    · have hx1 : (x :: l1).length ≤ tm.length := (skipS_suf hf).length_le
      have h8 : 0 + qs.length ≠ 2048 ∨ t.length = 2048 := by omega
      rcases hx with h8' | ⟨y, hy⟩
      · -- 2048 tokens of one byte each, and one more: more bytes than there are
        exfalso
        have := congrArg List.length e1
        rw [catP_len] at this
        have h9 := catP_many qs [] (AllOk.change (HeadC.nil _) qs e2)
        simp only [List.length_cons] at hx1
        omega
      · by_cases h8 : 0 + qs.length = 2048
        · exfalso
          have := congrArg List.length e1
          rw [catP_len] at this
          have h9 := catP_many qs [] (AllOk.change (HeadC.nil _) qs e2)
          simp only [List.length_cons] at hx1
          omega
        · rw [lexG_bad hf h8 hy] at a1
          have h88 : ps.length + qs.length ≠ 2048 := by
            have := congrArg List.length e1
            rw [catP_len] at this
            have h9 := catP_many qs [] (AllOk.change (HeadC.nil _) qs e2)
            simp only [List.length_cons] at hx1
            omega
          rw [lexG_bad hf h88 hy]
          simp only [withL, Sum.inl.injEq, Prod.mk.injEq] at a1
          refine ⟨N - (x :: l1).length, by simp only [withL, a1.2], ?_, ?_⟩ <;> simp only [List.length_cons] at * <;> omega
  obtain ⟨p', h1, h2⟩ := key
  refine ⟨p', ?_, h2⟩
  unfold parseS
  rw [h1]
end Go.Proofs.YtkmopfmofcehiaaGreatDoor
namespace Go.Proofs.YtkmopfmofcehiaaGreatDoor
open Go Go.RowKit Go.Shelf

theorem bnx {w w1 w2 : World} (h : Below w.heap.size w w1) (h' : Below w1.heap.size w1 w2) : Below w.heap.size w w2 := h.trans (h'.mono h.size)
theorem catJ (s t : Bs) : ByteArray.mk s.toArray ++ ⟨#[10]⟩ ++ ByteArray.mk t.toArray = ⟨(s ++ 10 :: t).toArray⟩ := by
  rw [ByteArray.ext_iff]
  simp
set_option maxRecDepth 100000 in
set_option maxHeartbeats 4000000 in
/-- Where the first one is none. -/
theorem joins_first (s t : Bs) (p : Nat) (c : Int) (hc : c ≠ 0) (hp : parseS s = .error (p, c)) (w : World) (gl : Gl w) :
    Calls Tryz.prog 7 #[.string ⟨s.toArray⟩, .string ⟨t.toArray⟩] w fun e w' => e = .returned (.bool true) ∧ Below w.heap.size w w' := by
  have ok : Ok6 w w := ⟨Below.refl _ _, gl⟩
  have P1 := parse_any s w gl
  rw [hp] at P1
  have P2 := parse_any t
  have x1 : (c == 0) = false := by simpa using hc
  have x2 : (c != 0) = true := by simp only [bne, x1]; rfl
  clear hp hc
  cases hq : parseS t with
  | error q =>
    rw [hq] at P2
    go_enter Tryz.func7, Tryz.ntmps7
    go_wp2_with (first
      | (go_at_call 11; (with_reducible refine (fixed_any _ ok3.gl).mono ?_); rintro e w4 ⟨rfl, b4⟩; have ok4 := ok3.go b4)
      | (go_at_call 11; (with_reducible refine (fixed_any _ (ok2.alloc _).gl).mono ?_); rintro e w3 ⟨rfl, b3⟩; have ok3 := (ok2.alloc _).go b3)
      | (go_at_call 9; (with_reducible refine (P2 _ (ok1.alloc _).gl).mono ?_); rintro e w2 ⟨rfl, b2⟩; have ok2 := (ok1.alloc _).go b2)
      | (go_at_call 9; (with_reducible refine P1.mono ?_); rintro e w1 ⟨rfl, b1⟩; have ok1 := ok.go b1)
      | fail)
    go_ret
    exact ⟨by first | rfl | simp, ok4.bel⟩
  | ok d =>
    rw [hq] at P2
    go_enter Tryz.func7, Tryz.ntmps7
    go_wp2_with (first
      | (go_at_call 11; (with_reducible refine (fixed_any _ ok3.gl).mono ?_); rintro e w4 ⟨rfl, b4⟩; have ok4 := ok3.go b4)
      | (go_at_call 11; (with_reducible refine (fixed_any _ (ok2.alloc _).gl).mono ?_); rintro e w3 ⟨rfl, b3⟩; have ok3 := (ok2.alloc _).go b3)
      | (go_at_call 9; (with_reducible refine (P2 _ (ok1.alloc _).gl).mono ?_); rintro e w2 ⟨⟨v, rfl, ⟨o1, n1, z1, o2, n2, z2, rfl, _⟩⟩, b2⟩; have ok2 := (ok1.alloc _).go b2)
      | (go_at_call 9; (with_reducible refine P1.mono ?_); rintro e w1 ⟨rfl, b1⟩; have ok1 := ok.go b1)
      | fail)
    go_ret
    exact ⟨by first | rfl | simp, ok4.bel⟩
set_option maxRecDepth 100000 in
set_option maxHeartbeats 8000000 in
/-- Where the other one's tokens are wrong. -/
theorem joins_lex (s t : Bs) (hb : t.length ≤ 140737488351232) (ts : List Tok) (xs : List (Bool × List CT)) (hs : lexS s = .inr ts) (hd : docS (ts ++ [eofT s.length]) = .ok (docC xs, [])) (p : Nat) (c : Int) (ht : lexS t = .inl (p, c)) (w : World) (gl : Gl w) :
    Calls Tryz.prog 7 #[.string ⟨s.toArray⟩, .string ⟨t.toArray⟩] w fun e w' => e = .returned (.bool true) ∧ Below w.heap.size w w' := by
  have ok : Ok6 w w := ⟨Below.refl _ _, gl⟩
  have P1 := parse_any s w gl
  rw [parse_of_lex hs hd] at P1
  have P2 := parse_any t
  have T1 := tokens_any s
  have T2 := tokens_any t
  have P3 := parse_any (s ++ 10 :: t)
  rw [hs] at T1
  obtain ⟨hn1, hn2, _⟩ := lexS_full hs
  have hsz := size_of s
  have htz := size_of t
  have hcat := catJ s t
  have hk1 : ¬ 9223372036854775807 < s.length + 1 := by omega
  have hk2 : ¬ 9223372036854775807 < s.length + 1 + t.length := by omega
  obtain ⟨_, hc1, hc2⟩ := lexS_codes ht
  have hpt : parseS t = .error (p, c) := by unfold parseS; rw [ht]
  rw [hpt] at P2
  rw [ht] at T2
  have x1 : (c == 0) = false := by simp; omega
  have x2 : (c != 0) = true := by simp only [bne, x1]; rfl
  by_cases hb1 : s.length + t.length + 1 > 16384
  · have i1 : (s.length : Int) + (t.length : Int) + 1 > 16384 := by omega
    have i1' : (16384 : Int) < (s.length : Int) + (t.length : Int) + 1 := by omega
    clear hd hs ht hpt P3
    generalize hA : (opsOf xs) = A at *
    generalize hB : (fragsOf xs) = B at *
    go_enter Tryz.func7, Tryz.ntmps7
    go_wp2_with (first
      | (go_at_call 17; (with_reducible refine (T2 _ ok4.gl).mono ?_); rintro e w5 ⟨rfl, b5⟩; have ok5 := ok4.go b5)
      | (go_at_call 17; (with_reducible refine (T1 _ ok3.gl).mono ?_); intro e w4 h4; obtain ⟨to1, tc1, rfl, b4⟩ := tok_slice h4; have ok4 := ok3.go b4)
      | (go_at_call 11; (with_reducible refine (fixed_any _ (ok2.alloc (.cells #[.slice none 0 0, .slice none 0 0] 25)).gl).mono ?_); rintro e w3 ⟨rfl, b3⟩; have ok3 := (ok2.alloc (.cells #[.slice none 0 0, .slice none 0 0] 25)).go b3)
      | (go_at_call 9; (with_reducible refine (P2 _ (ok1.alloc (.cells #[.slice o1 A.length z1, .slice o2 B.length z2] 25)).gl).mono ?_); rintro e w2 ⟨rfl, b2⟩; have ok2 := (ok1.alloc (.cells #[.slice o1 A.length z1, .slice o2 B.length z2] 25)).go b2)
      | (go_at_call 9; (with_reducible refine P1.mono ?_); rintro e w1 ⟨⟨v1, rfl, hv1⟩, b1⟩; obtain ⟨o1, z1, o2, z2, rfl, U1⟩ := docV_at hv1; rw [hA, hB] at U1 ⊢; have ok1 := ok.go b1)
      | fail)
    go_ret
    exact ⟨by first | rfl | simp, ok5.bel⟩
  · have i1 : ¬ (s.length : Int) + (t.length : Int) + 1 > 16384 := by omega
    have i1' : ¬ (16384 : Int) < (s.length : Int) + (t.length : Int) + 1 := by omega
    have i2 : ¬ (2048 : Int) < (ts.length : Int) := by omega
    by_cases hb3 : ts.length + t.length > 2048
    · have i3 : (2048 : Int) < (ts.length : Int) + (t.length : Int) := by omega
      clear hd hs ht hpt P3
      generalize hA : (opsOf xs) = A at *
      generalize hB : (fragsOf xs) = B at *
      go_enter Tryz.func7, Tryz.ntmps7
      go_wp2_with (first
        | (go_at_call 17; (with_reducible refine (T2 _ ok4.gl).mono ?_); rintro e w5 ⟨rfl, b5⟩; have ok5 := ok4.go b5)
        | (go_at_call 17; (with_reducible refine (T1 _ ok3.gl).mono ?_); intro e w4 h4; obtain ⟨to1, tc1, rfl, b4⟩ := tok_slice h4; have ok4 := ok3.go b4)
        | (go_at_call 11; (with_reducible refine (fixed_any _ (ok2.alloc (.cells #[.slice none 0 0, .slice none 0 0] 25)).gl).mono ?_); rintro e w3 ⟨rfl, b3⟩; have ok3 := (ok2.alloc (.cells #[.slice none 0 0, .slice none 0 0] 25)).go b3)
        | (go_at_call 9; (with_reducible refine (P2 _ (ok1.alloc (.cells #[.slice o1 A.length z1, .slice o2 B.length z2] 25)).gl).mono ?_); rintro e w2 ⟨rfl, b2⟩; have ok2 := (ok1.alloc (.cells #[.slice o1 A.length z1, .slice o2 B.length z2] 25)).go b2)
        | (go_at_call 9; (with_reducible refine P1.mono ?_); rintro e w1 ⟨⟨v1, rfl, hv1⟩, b1⟩; obtain ⟨o1, z1, o2, z2, rfl, U1⟩ := docV_at hv1; rw [hA, hB] at U1 ⊢; have ok1 := ok.go b1)
        | fail)
      go_ret
      exact ⟨by first | rfl | simp, ok5.bel⟩
    · have i3 : ¬ (2048 : Int) < (ts.length : Int) + (t.length : Int) := by omega
      obtain ⟨p', h1, h2, h3⟩ := join_wrong hs ht (by omega) (by omega)
      rw [h1] at P3
      have i4 : (s.length : Int) < (p' : Int) := by omega
      clear hd hs ht hpt h1
      generalize hA : (opsOf xs) = A at *
      generalize hB : (fragsOf xs) = B at *
      go_enter Tryz.func7, Tryz.ntmps7
      go_wp2_with (first
        | (go_at_call 9; (with_reducible refine (P3 _ ok5.gl).mono ?_); rintro e w6 ⟨rfl, b6⟩; have ok6 := ok5.go b6)
        | (go_at_call 17; (with_reducible refine (T2 _ ok4.gl).mono ?_); rintro e w5 ⟨rfl, b5⟩; have ok5 := ok4.go b5)
        | (go_at_call 17; (with_reducible refine (T1 _ ok3.gl).mono ?_); intro e w4 h4; obtain ⟨to1, tc1, rfl, b4⟩ := tok_slice h4; have ok4 := ok3.go b4)
        | (go_at_call 11; (with_reducible refine (fixed_any _ (ok2.alloc (.cells #[.slice none 0 0, .slice none 0 0] 25)).gl).mono ?_); rintro e w3 ⟨rfl, b3⟩; have ok3 := (ok2.alloc (.cells #[.slice none 0 0, .slice none 0 0] 25)).go b3)
        | (go_at_call 9; (with_reducible refine (P2 _ (ok1.alloc (.cells #[.slice o1 A.length z1, .slice o2 B.length z2] 25)).gl).mono ?_); rintro e w2 ⟨rfl, b2⟩; have ok2 := (ok1.alloc (.cells #[.slice o1 A.length z1, .slice o2 B.length z2] 25)).go b2)
        | (go_at_call 9; (with_reducible refine P1.mono ?_); rintro e w1 ⟨⟨v1, rfl, hv1⟩, b1⟩; obtain ⟨o1, z1, o2, z2, rfl, U1⟩ := docV_at hv1; rw [hA, hB] at U1 ⊢; have ok1 := ok.go b1)
        | fail)
      go_ret
      exact ⟨by first | rfl | simp, (ok6.alloc _).bel⟩
end Go.Proofs.YtkmopfmofcehiaaGreatDoor
