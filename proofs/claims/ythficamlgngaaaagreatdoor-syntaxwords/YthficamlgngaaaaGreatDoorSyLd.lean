/- From what the row lists of the package-level variables, and from the world's shape, to the facts that the walks ask. -/
import Derived.Test.YthficamlgngaaaaGreatDoorXrU
import Derived.Test.YthficamlgngaaaaGreatDoorSyZ
import Derived.Test.YthficamlgngaaaaGreatDoorMtS
import Derived.Test.YthficamlgngaaaaGreatDoorRows
import Derived.Test.YthficamlgngaaaaGreatDoorSyB
import Derived.Lib.LaidU8
import Derived.LaidMore
import Derived.Stop.LaidErr
import Derived.Lay
import Derived.Shelf.Vars
namespace Go.Proofs.YthficamlgngaaaaGreatDoor
open Go Go.RowKit
attribute [local irreducible] srcB unitS

theorem tokS_ne {l : Bs} {e : Int} (h : tokS l = .bad e) : e ≠ 0 := by
  unfold tokS wrt at h
  split at h
  · cases h
  · split at h
    · cases h
    · split at h
      · cases h
      · split at h
        · split at h
          · cases h; decide
          · cases h
        · split at h
          · split at h
            · cases h; decide
            · cases h
          · cases h; decide
theorem suf_cut {s m : Bs} {j : Nat} (h : m <:+ s.drop j) : s.drop (s.length - m.length) = m := by
  obtain ⟨x, hx⟩ := h.trans (List.drop_suffix j s)
  rw [← hx, List.length_append, Nat.add_sub_cancel]
  simp
/-- The loop's state: the tokens so far. -/
structure TK (s : Bs) (w wr : World) (j : Nat) (v : Value) (pre : List Tok) : Prop where
  row : Toks wr w.heap.size v pre
  few : pre.length ≤ 2048
  jle : j ≤ s.length
  nn : v ≠ .slice none 0 0
  bel : Below w.heap.size w wr
  res : lexG s.length 0 s = withL pre (lexG s.length pre.length (s.drop j))
theorem own_tok (w : World) : Toks (w.alloc (.cells #[] 40)) w.heap.size (.slice (some ⟨w.heap.size, 0, none⟩) 0 0) [] :=
  ⟨rfl, Or.inr ⟨w.heap.size, 0, #[], rfl, Nat.le_refl _, heap_alloc_new _ _, Nat.le_refl _, Nat.zero_le _, rfl, rfl⟩⟩
theorem not_noneT {w : World} {B e z n : Nat} {v : Value} {xs : List Value} (h : w.ownsRow B e z v n xs) (hn : v ≠ .slice none 0 0) : ∃ g cap, v = .slice (some ⟨g, 0, none⟩) n cap := by
  rcases h.2 with ⟨h1, _⟩ | ⟨g, cap, cur, h1, _⟩
  · exact absurd h1 hn
  · exact ⟨g, cap, h1⟩

set_option maxRecDepth 100000 in
set_option maxHeartbeats 2000000 in
theorem xtokens_short (s : Bs) (hs : s.length ≤ 16384) (w : World) : Calls Tryz.prog 21 #[.string ⟨s.toArray⟩] w (TokensP w (lexG s.length 0 s)) := by
  obtain ⟨i1, hi1, hy0, hy1, hy2⟩ := info_parts Tryz.infoTok
  have hD : (ByteArray.mk s.toArray).size = s.length := rfl
  have hsI : ¬ (16384 : Int) < (s.length : Int) := by omega
  generalize hDD : (ByteArray.mk s.toArray) = D at *
  have HD : Hid ((ByteArray.mk s.toArray) = D) := hDD
  clear hDD
  go_enter Tryz.func21, Tryz.ntmps21
  go_wp2
  go_loopw [5, 6] (fun l i wr => ∃ (j : Nat) (v : Value) (pre : List Tok), l = v ∧ i = .int .i64 (j : Int) ∧ TK s w wr j v pre) (fun _ i _ => s.length - (RowKit.intOf i).toNat)
  case atStart => exact ⟨0, _, [], rfl, rfl, own_tok w, by simp, by omega, by simp, (Below.refl _ _).alloc (Nat.le_refl _) _, (withL_nil _).symm⟩
  case round =>
    obtain ⟨j, v, pre, rfl, rfl, hT⟩ := hrel
    obtain ⟨hob, hfew, hj, hnn, hbr, hres⟩ := hT
    have HR : Hid (lexG s.length 0 s = withL pre (lexG s.length pre.length (s.drop j))) := hres
    clear hres
    obtain ⟨g9, cap9, rfl⟩ := not_noneT hob hnn
    cases hk : skipS (s.drop j) with
    | inr k =>
      have S : ∀ w, Calls Tryz.prog 38 #[.string D, .int .i64 (j : Int)] w fun e w' => e = .returned (.tuple #[.int .i64 ((s.length - k : Nat) : Int), .bool false]) ∧ Below w.heap.size w w' := fun w => by
        have := xskip_any (fun e => e = .returned (.tuple #[.int .i64 ((s.length - k : Nat) : Int), .bool false])) s j hj hs (fun m h => by rw [hk] at h; cases h) (fun k' h => by rw [hk] at h; cases h; rfl) w
        rw [HD.out] at this
        exact this
      have HX : Hid (lexG s.length 0 s = .inl (s.length - k, 50)) := by rw [Hid, HR.out, lexG_wrong hk]; rfl
      clear hk
      generalize s.length - k = q at *
      go_wp2_with (first
        | (go_at_call 38; (with_reducible refine (S _).mono ?_); rintro e w1 ⟨rfl, hb1⟩; have hbr1 := hbr.trans (hb1.mono hbr.size))
        | fail)
      go_ret3
      rw [HX.out]
      exact ⟨rfl, hbr1⟩
    | inl m =>
      have hm := skipS_suf hk
      have hml := hm.length_le
      rw [List.length_drop] at hml
      have hmd := suf_cut hm
      have S : ∀ w, Calls Tryz.prog 38 #[.string D, .int .i64 (j : Int)] w fun e w' => e = .returned (.tuple #[.int .i64 ((s.length - m.length : Nat) : Int), .bool true]) ∧ Below w.heap.size w w' := fun w => by
        have := xskip_any (fun e => e = .returned (.tuple #[.int .i64 ((s.length - m.length : Nat) : Int), .bool true])) s j hj hs (fun m' h => by rw [hk] at h; cases h; rfl) (fun k' h => by rw [hk] at h; cases h) w
        rw [HD.out] at this
        exact this
      cases m with
      | nil =>
        have HX : Hid (lexG s.length 0 s = .inr pre) := by rw [Hid, HR.out, lexG_end hk]; simp [withL]
        rw [List.length_nil, Nat.sub_zero] at S
        clear hk hm hml hmd
        go_wp2_with (first
          | (go_at_call 38; (with_reducible refine (S _).mono ?_); rintro e w1 ⟨rfl, hb1⟩; have hbr1 := hbr.trans (hb1.mono hbr.size); have hob1 := owns_belowX hob hb1)
          | fail)
        go_ret3
        rw [HX.out]
        exact ⟨⟨_, rfl, hob1⟩, hbr1⟩
      | cons x l1 =>
        rw [List.length_cons] at hml
        by_cases hc : pre.length = 2048
        · have HX : Hid (lexG s.length 0 s = .inl (s.length - (x :: l1).length, 53)) := by rw [Hid, HR.out, lexG_many hk hc]; rfl
          have hq : s.length - (x :: l1).length < s.length := by rw [List.length_cons]; omega
          clear hk hm hml hmd
          generalize s.length - (x :: l1).length = q at *
          have hqI : (q : Int) < (s.length : Int) := by omega
          go_wp2_with (first
            | (go_at_call 38; (with_reducible refine (S _).mono ?_); rintro e w1 ⟨rfl, hb1⟩; have hbr1 := hbr.trans (hb1.mono hbr.size))
            | fail)
          go_ret3
          rw [HX.out]
          exact ⟨rfl, hbr1⟩
        · have hq : s.length - (x :: l1).length < s.length := by rw [List.length_cons]; omega
          have hqj : j ≤ s.length - (x :: l1).length := by rw [List.length_cons]; omega
          have hc2 : pre.length < 2048 := by omega
          cases ht : tokS (x :: l1) with
          | bad e =>
            have HX : Hid (lexG s.length 0 s = .inl (s.length - (x :: l1).length, e)) := by rw [Hid, HR.out, lexG_bad hk hc ht]; rfl
            have he := tokS_ne ht
            have O : ∀ w, Calls Tryz.prog 39 #[.string D, .int .i64 ((s.length - (x :: l1).length : Nat) : Int)] w fun e' w' => e' = .returned (.tuple #[tokV 0 [] 0 0, .int .i64 e]) ∧ Below w.heap.size w w' := fun w => by
              have := oneS_any s (s.length - (x :: l1).length) hq hs w
              rw [HD.out] at this
              refine this.mono fun _ _ h => ?_
              unfold One at h
              rw [oneV_bad (by rw [hmd]; exact ht)] at h
              exact h
            clear hk hm hml hmd ht hqj
            generalize s.length - (x :: l1).length = q at *
            have hqI : (q : Int) < (s.length : Int) := by omega
            go_wp2_with (first
              | (go_at_call 38; (with_reducible refine (S _).mono ?_); rintro e1 w1 ⟨rfl, hb1⟩; have hbr1 := hbr.trans (hb1.mono hbr.size))
              | (go_at_call 39; (with_reducible refine (O _).mono ?_); rintro e2 w2 ⟨rfl, hb2⟩; have hbr2 := hbr1.trans (hb2.mono hbr1.size))
              | fail)
            go_ret3
            rw [HX.out]
            exact ⟨rfl, hbr2.alloc hbr2.size _⟩
          | ok k t r =>
            have hf := tokS_facts ht
            have hr : s.drop (s.length - r.length) = r := suf_cut (hf.1.trans hm)
            have hrl := hf.2
            rw [List.length_cons] at hrl
            have HX : Hid (lexG s.length 0 s = withL (pre ++ [⟨k, t, s.length - (x :: l1).length, s.length - r.length⟩]) (lexG s.length (pre.length + 1) (s.drop (s.length - r.length)))) := by
              rw [Hid, HR.out, lexG_ok hk hc ht, withL_withL, hr]
            have O : ∀ w, Calls Tryz.prog 39 #[.string D, .int .i64 ((s.length - (x :: l1).length : Nat) : Int)] w fun e' w' => e' = .returned (.tuple #[tokV k t (s.length - (x :: l1).length) (s.length - r.length), .int .i64 0]) ∧ Below w.heap.size w w' := fun w => by
              have := oneS_any s (s.length - (x :: l1).length) hq hs w
              rw [HD.out] at this
              refine this.mono fun _ _ h => ?_
              unfold One at h
              rw [oneV_ok (by rw [hmd]; exact ht)] at h
              exact h
            have hqb : s.length - (x :: l1).length < s.length - r.length := by rw [List.length_cons]; omega
            have hbl : s.length - r.length ≤ s.length := by omega
            clear hk hm hml hmd ht hf hr hrl
            generalize s.length - (x :: l1).length = q at *
            generalize s.length - r.length = b at *
            have hqI : (q : Int) < (s.length : Int) := by omega
            go_wp2_with (first
              | (go_at_call 38; (with_reducible refine (S _).mono ?_); rintro e1 w1 ⟨rfl, hb1⟩; have hbr1 := hbr.trans (hb1.mono hbr.size); have hob1 := owns_belowX hob hb1)
              | (go_at_call 39; (with_reducible refine (O _).mono ?_); rintro e2 w2 ⟨rfl, hb2⟩; have hbr2 := hbr1.trans (hb2.mono hbr1.size); have hob2 := owns_belowX hob1 hb2)
              | (at_builtin; refine wpList_append_own _ rfl _ _ 33 rfl w.heap.size 40 i1 _ 4 40 Tryz.underlying33 hi1 hy0 hy1 hy2 rfl (by decide) _ _ _ rfl ((hob2.alloc _).alloc _) ⟨w2.heap.size + 1, 0, none⟩ 1 1 [.int .i64 k, .string ⟨t.toArray⟩, .int .i64 (q : Int), .int .i64 (b : Int)] rfl rfl ?c1 ?c2 ?c3 ?c4 ?c5 ?_)
              | fail)
            case c1 =>
              intro i u hu
              rw [show w2.heap.size + 1 = (w2.alloc (.cells #[.int .i64 k, .string ⟨t.toArray⟩, .int .i64 (q : Int), .int .i64 (b : Int)] 40)).heap.size by simp, cell_new]
              simpa using hu
            case c2 => simp [Value.oneCell']
            case c3 =>
              have : (2049 : Nat) ≤ maxLen := by decide
              omega
            case c4 => omega
            case c5 => have := hbr2.size; simp; omega
            intro v' w4 hown' hgrow hnil
            have hbr3 : Below w.heap.size w ((w2.alloc (.cells #[.int .i64 k, .string ⟨t.toArray⟩, .int .i64 (q : Int), .int .i64 (b : Int)] 40)).alloc (.cells #[.int .i64 k, .string ⟨t.toArray⟩, .int .i64 (q : Int), .int .i64 (b : Int)] 40)) := (hbr2.alloc hbr2.size _).alloc (by have := hbr2.size; simp; omega) _
            have hbr4 : Below w.heap.size w w4 := hbr3.grown hgrow hbr3.size (own_ge hob2)
            have hlt := (toks_block hob2 (g := g9) rfl).1
            have hT4 : w4.heap[w2.heap.size]? = some (.cells #[.int .i64 k, .string ⟨t.toArray⟩, .int .i64 (q : Int), .int .i64 (b : Int)] 40 (0, 0)) := by
              rw [hgrow.block _ (by simp; omega) (by simp [Value.ownBlock]; omega), Below.heap_alloc _ _ _ (by simp)]
              exact heap_alloc_new _ _
            have k3 : w4.cell? ⟨w2.heap.size, 3, none⟩ = some (.int .i64 (b : Int)) := by simp [World.cell?, hT4]
            have HG : Hid (Toks w4 w.heap.size v' (pre ++ [⟨k, t, q, b⟩])) := by
              show World.ownsRow _ _ _ _ _ (pre ++ [_]).length (cellsT (pre ++ [_]))
              rw [cellsT_snoc, List.length_append]
              exact hown'
            clear hown' hgrow hT4 hbr3
            go_wp2
            refine ⟨⟨b, v', pre ++ [⟨k, t, q, b⟩], rfl, rfl, HG.out, by rw [List.length_append]; simp; omega, hbl, hnil, hbr4, ?_⟩, ?_⟩
            · rw [HX.out, List.length_append]
              rfl
            · simp [RowKit.intOf]
              omega

set_option maxRecDepth 100000 in
set_option maxHeartbeats 2000000 in
theorem xtokens_long (s : Bs) (hs : 16384 < s.length) (w : World) : Calls Tryz.prog 21 #[.string ⟨s.toArray⟩] w (TokensP w (.inl (0, 54))) := by
  have hD : (ByteArray.mk s.toArray).size = s.length := rfl
  have hsI : (16384 : Int) < (s.length : Int) := by omega
  generalize (ByteArray.mk s.toArray) = D at *
  go_enter Tryz.func21, Tryz.ntmps21
  go_wp2
  go_ret3
  exact ⟨rfl, Below.refl _ _⟩
theorem xtokens_any (s : Bs) (w : World) : Calls Tryz.prog 21 #[.string ⟨s.toArray⟩] w (TokensP w (lexS s)) := by
  unfold lexS
  by_cases h : 16384 < s.length
  · rw [if_pos h]; exact xtokens_long s h w
  · rw [if_neg h]; exact xtokens_short s (by omega) w
end Go.Proofs.YthficamlgngaaaaGreatDoor
namespace Go.Proofs.YthficamlgngaaaaGreatDoor
open Go Go.RowKit Go.Shelf

theorem one_at {s : Bs} {t : Tok} (h : lexS s = .inr [t]) : ((t.e : Int) - (t.b : Int) = (s.length : Int)) ↔ (t.b = 0 ∧ t.e = s.length) := by
  have hl := (lexS_full h).2.1
  unfold lexS at h
  rw [if_neg (by omega)] at h
  have := lexF_ends _ _ _ _ _ h t (by simp)
  omega
theorem oneK_bad {s : Bs} {p : Nat × Int} (h : lexS s = .inl p) : oneK s = -1 := by unfold oneK; rw [h]
theorem oneK_one {s : Bs} {t : Tok} (h : lexS s = .inr [t]) : oneK s = if (t.e : Int) - (t.b : Int) = (s.length : Int) then t.k else -1 := by unfold oneK; rw [h]
theorem oneK_many {s : Bs} {ts : List Tok} (h : lexS s = .inr ts) (h1 : ts.length ≠ 1) : oneK s = -1 := by
  unfold oneK
  rw [h]
  match ts, h1 with
  | [], _ => rfl
  | [_], h => exact absurd rfl h
  | _ :: _ :: _, _ => rfl
set_option maxRecDepth 100000 in
set_option maxHeartbeats 2000000 in
theorem zone_any (s : Bs) (w : World) : Calls Tryz.prog 29 #[.string ⟨s.toArray⟩] w fun e w' => e = .returned (.int .i64 (oneK s)) ∧ Below w.heap.size w w' := by
  have TO := xtokens_any s w
  have hsz := size_of s
  cases hs : lexS s with
  | inl p =>
    rw [hs] at TO
    rw [oneK_bad hs]
    have hp0 := lexS_bad hs
    obtain ⟨a, x⟩ := p
    have hp : (x != 0) = true := by simpa using hp0
    have hp2 : (x == 0) = false := by simpa using hp0
    clear hs hp0
    go_enter Tryz.func29, Tryz.ntmps29
    go_wp2_with (go_at_call 21; refine TO.mono ?_; rintro e w1 ⟨rfl, hb⟩)
    go_ret
    exact ⟨rfl, hb⟩
  | inr ts =>
    rw [hs] at TO
    obtain ⟨hn1, hn2, _⟩ := lexS_full hs
    by_cases h1 : ts.length = 1
    · obtain ⟨t, rfl⟩ := List.length_eq_one_iff.1 h1
      rw [oneK_one hs]
      have hat := one_at hs
      have htl := tok_small hs
      clear hs
      by_cases h2 : (t.e : Int) - (t.b : Int) = (s.length : Int)
      · rw [if_pos h2]
        obtain ⟨hb0, he0⟩ := hat.1 h2
        clear h1 h2 hat
        go_enter Tryz.func29, Tryz.ntmps29
        go_wp2_with (go_at_call 21; refine TO.mono ?_; rintro e w1 ⟨⟨v, rfl, ht⟩, hb⟩; obtain ⟨q, lc, rfl, c0, c2, c3⟩ := one_cells ht; rw [hb0] at c2; rw [he0] at c3)
        go_ret
        exact ⟨rfl, hb⟩
      · rw [if_neg h2]
        have hne : ¬ (t.b = 0 ∧ t.e = s.length) := fun e => h2 (hat.2 e)
        by_cases hb0 : t.b = 0
        · have he0 : ((t.e : Int) == (s.length : Int)) = false := by rw [beq_eq_false_iff_ne]; omega
          have he1 : ((t.e : Int) != (s.length : Int)) = true := by simp only [bne, he0]; rfl
          clear h1 h2 hat hne
          go_enter Tryz.func29, Tryz.ntmps29
          go_wp2_with (go_at_call 21; refine TO.mono ?_; rintro e w1 ⟨⟨v, rfl, ht⟩, hb⟩; obtain ⟨q, lc, rfl, c0, c2, c3⟩ := one_cells ht; rw [hb0] at c2)
          go_ret
          exact ⟨rfl, hb⟩
        · have he0 : ((t.b : Int) == 0) = false := by rw [beq_eq_false_iff_ne]; omega
          have he1 : ((t.b : Int) != 0) = true := by simp only [bne, he0]; rfl
          clear h1 h2 hat hne
          go_enter Tryz.func29, Tryz.ntmps29
          go_wp2_with (go_at_call 21; refine TO.mono ?_; rintro e w1 ⟨⟨v, rfl, ht⟩, hb⟩; obtain ⟨q, lc, rfl, c0, c2, c3⟩ := one_cells ht)
          go_ret
          exact ⟨rfl, hb⟩
    · rw [oneK_many hs h1]
      clear hs
      have h2 : ((ts.length : Int) == 1) = false := by rw [beq_eq_false_iff_ne]; omega
      have h3 : ((ts.length : Int) != 1) = true := by simp only [bne, h2]; rfl
      clear h1
      go_enter Tryz.func29, Tryz.ntmps29
      go_wp2_with (go_at_call 21; refine TO.mono ?_; rintro e w1 ⟨⟨v, rfl, ht⟩, hb⟩; obtain ⟨o, lc, rfl⟩ := own_slice ht)
      go_ret
      exact ⟨rfl, hb⟩
set_option maxRecDepth 100000 in
theorem znumber_any (s : Bs) (w : World) : Calls Tryz.prog 14 #[.string ⟨s.toArray⟩] w fun e w' => e = .returned (.int .i64 (numK s)) ∧ Below w.heap.size w w' := by
  have O := zone_any s w
  unfold numK
  generalize oneK s = k at *
  by_cases h2 : k = 2
  · subst h2
    go_enter Tryz.func14, Tryz.ntmps14
    go_wp2_with (go_at_call 29; refine O.mono ?_; rintro e w1 ⟨rfl, hb⟩)
    go_ret
    exact ⟨rfl, hb⟩
  · by_cases h3 : k = 3
    · subst h3
      go_enter Tryz.func14, Tryz.ntmps14
      go_wp2_with (go_at_call 29; refine O.mono ?_; rintro e w1 ⟨rfl, hb⟩)
      go_ret
      exact ⟨rfl, hb⟩
    · rw [if_neg (by rintro (e | e); exact h2 e; exact h3 e)]
      have a1 : (k == 2) = false := by simpa using h2
      have a2 : (k == 3) = false := by simpa using h3
      go_enter Tryz.func14, Tryz.ntmps14
      go_wp2_with (go_at_call 29; refine O.mono ?_; rintro e w1 ⟨rfl, hb⟩)
      go_ret
      exact ⟨rfl, hb⟩
theorem zname_any (s : Bs) (w : World) : Calls Tryz.prog 16 #[.string ⟨s.toArray⟩] w fun e w' => e = .returned (.bool (nameK s)) ∧ Below w.heap.size w w' := by
  have O := zone_any s w
  unfold nameK
  generalize oneK s = k at *
  go_enter Tryz.func16, Tryz.ntmps16
  go_wp2_with (go_at_call 29; refine O.mono ?_; rintro e w1 ⟨rfl, hb⟩)
  go_ret
  exact ⟨rfl, hb⟩
set_option maxRecDepth 100000 in
theorem syntaxWords_walk (s : Bs) (w : World) (gl : Gl w) : Calls Tryz.prog 4 #[.string ⟨s.toArray⟩] w fun e w' => e = .returned (.bool true) ∧ Below w.heap.size w w' := by
  have ok : Ok6 w w := ⟨Below.refl _ _, gl⟩
  have F := fixed_any w gl
  have N1 := fun w1 (o : Ok6 w w1) => fy5 o s (numK s) rfl
  have N2 := fun w1 => znumber_any s w1
  have M1 := fun w1 (o : Ok6 w w1) => fy6 o s (nameK s) rfl
  have M2 := fun w1 => zname_any s w1
  clear gl
  generalize numK s = x at *
  generalize nameK s = y at *
  go_enter Tryz.func4, Tryz.ntmps4
  go_wp2_with (first
    | (go_at_call 16; refine (M2 _).mono ?_; rintro e w5 ⟨rfl, b5⟩)
    | (go_at_call 15; refine (M1 _ ok3).mono ?_; rintro e w4 ⟨rfl, ok4, b4⟩)
    | (go_at_call 14; refine (N2 _).mono ?_; rintro e w3 ⟨rfl, b3⟩; have ok3 := ok2.go b3)
    | (go_at_call 13; refine (N1 _ ok1).mono ?_; rintro e w2 ⟨rfl, ok2, b2⟩)
    | (go_at_call 11; refine F.mono ?_; rintro e w1 ⟨rfl, b1⟩; have ok1 := ok.go b1))
  go_ret
  exact ⟨by first | rfl | simp, (ok4.go b5).bel⟩
end Go.Proofs.YthficamlgngaaaaGreatDoor
namespace Go.Proofs.YthficamlgngaaaaGreatDoor
open Go Go.RowKit Go.Lib

def listed : List (String × DataW Unit) := Rows.syntaxReadsRow.laid
theorem at_var {w : World} {n : String} {d : DataW Unit} {g t : Nat} (h : VarReads Tryz.prog w n d) (hg : Tryz.prog.globalNamed n = some g) (ht : (Tryz.prog.globals[g]?).map (·.type) = some t) :
    ∃ (cs : Array Value) (fuel : Nat) (p : List MemPlace), w.var? Tryz.prog n = some cs ∧ DataW.trod (fun _ => ()) Tryz.prog w 0 (fun _ => true) false fuel t cs.toList = some (d, p) ∧ ∀ i, w.cell? ⟨g, i, none⟩ = cs.toList[i]? := by
  obtain ⟨g', t', cs, fuel, p, hg', ht', hv, hd⟩ := h
  obtain rfl := Option.some.inj (hg.symm.trans hg')
  obtain rfl := Option.some.inj (ht.symm.trans ht')
  exact ⟨cs, fuel, p, hv, hd, fun i => by rw [World.var?_cell hg hv i, Array.getElem?_toList]⟩
theorem es_laid {w : World} (h : VarReads Tryz.prog w "strconv.ErrSyntax" Rows.laid_strconv_ErrSyntax) : ∃ te pe, w.cell? ⟨3, 0, none⟩ = some (.iface te pe) := by
  obtain ⟨cs, fuel, p, _, hd, hc⟩ := at_var h (g := 3) (t := 147) (by kernel_rfl) (by kernel_rfl)
  cases fuel with
  | zero => simp [DataW.trod] at hd
  | succ n =>
    have hu := Tryz.underlying147
    simp only [DataW.trod, hu, Rows.laid_strconv_ErrSyntax] at hd
    rw [hc]
    split at hd
    all_goals simp_all
theorem max_of {W : World} (h : W.ShapedOpen Tryz.prog) : ∃ m, W.cell? ⟨gM, 0, none⟩ = some (.int .i64 m) :=
  cell_of_shapedOpen_int h (g := 0) (t := 3) (zero := #[.int .i64 0]) (of_decide_eq_true (by kernel_rfl)) (by kernel_rfl) rfl (by kernel_rfl) (by kernel_rfl) Tryz.underlying3
theorem gl_laid {W : World} (hL : laidMet Tryz.prog listed W) (hs : W.ShapedOpen Tryz.prog) : Gl W := by
  obtain ⟨te, pe, he⟩ := es_laid (laidMet.reads hL (.tail _ (.tail _ (.tail _ (.tail _ (.tail _ (.head _)))))))
  exact ⟨max_of hs, ⟨_, he, Or.inr ⟨te, pe, rfl⟩⟩⟩
end Go.Proofs.YthficamlgngaaaaGreatDoor
