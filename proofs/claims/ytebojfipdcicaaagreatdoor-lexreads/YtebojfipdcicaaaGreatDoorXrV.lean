/- The document's own Tokens against lexS. -/
import Derived.Test.YtebojfipdcicaaaGreatDoorXrQ
import Derived.Test.YtebojfipdcicaaaGreatDoorLxG5
namespace Go.Proofs.YtebojfipdcicaaaGreatDoor
open Go Go.RowKit
attribute [local irreducible] srcB unitS

theorem xlF_le (s : Bs) : ∀ (n i : Nat) (t : Bs) (e : Nat), xlF s n i = some (t, e) → e ≤ s.length := by
  intro n
  induction n with
  | zero => intro i t e h; cases h
  | succ n ih =>
    intro i t e h
    unfold xlF at h
    cases hs : srcC s i with
    | none => rw [hs] at h; cases h
    | some k =>
      rw [hs] at h
      have hH := hs
      rw [srcC_H] at hH
      obtain ⟨k1, k2, _, _⟩ := srcH_facts hH
      rw [List.length_drop] at k2
      simp only at h
      split at h
      · cases h
      · split at h
        · cases h; omega
        · split at h
          · split at h
            · cases h
            · obtain ⟨q, hq, he⟩ := Option.map_eq_some_iff.1 h
              cases he
              exact ih _ q.1 q.2 hq
          · obtain ⟨q, hq, he⟩ := Option.map_eq_some_iff.1 h
            cases he
            exact ih _ q.1 q.2 hq
theorem xrF_le (s : Bs) : ∀ (n i : Nat) (t : Bs) (e : Nat), xrF s n i = some (t, e) → e ≤ s.length := by
  intro n
  induction n with
  | zero => intro i t e h; cases h
  | succ n ih =>
    intro i t e h
    unfold xrF at h
    by_cases h4 : List.isPrefixOf [92, 34, 34, 34] (s.drop i) = true
    · rw [if_pos h4] at h
      obtain ⟨q, hq, he⟩ := Option.map_eq_some_iff.1 h
      cases he
      exact ih _ q.1 q.2 hq
    · rw [if_neg h4] at h
      by_cases h3 : List.isPrefixOf [34, 34, 34] (s.drop i) = true
      · rw [if_pos h3] at h
        have := (pre_pos h3).resolve_right (by simp)
        cases h
        simpa using this
      · rw [if_neg h3] at h
        cases hs : srcC s i with
        | none => rw [hs] at h; cases h
        | some k =>
          rw [hs] at h
          simp only at h
          obtain ⟨q, hq, he⟩ := Option.map_eq_some_iff.1 h
          cases he
          exact ih _ q.1 q.2 hq
theorem textR_line {r : Bs} (hq : List.isPrefixOf [34, 34, 34] (34 :: r) = false) : textR (34 :: r) = lineS r := by
  unfold textR
  rw [if_neg (by rw [hq]; simp), List.drop_one, List.tail_cons]
  unfold lineS
  exact lineF_fuel _ _ r (by rw [List.length_cons]; omega) (by omega)
theorem ahead_line {r t m : Bs} (h : lineS r = some (t, m)) : ahead (34 :: r) m = 34 :: ahead r m := by
  have ha := (line_ahead h).1
  conv => lhs; rw [ha]
  rw [← List.cons_append, ahead_app]
theorem cut_same {α : Type} (a b : Option Nat) (h : a = none ↔ b = none) (x : α) : (if a.isSome then none else some x) = if b.isSome then none else some x := by
  cases a with
  | none => rw [h.1 rfl]
  | some i => cases b with
    | none => cases h.2 rfl
    | some j => rfl
theorem textS_lineC {r : Bs} (hq : List.isPrefixOf [34, 34, 34] (34 :: r) = false) : textS (34 :: r) = lineC r := by
  unfold textS lineC
  rw [textR_line hq]
  cases h : lineS r with
  | none => rw [Option.bind_none, Option.bind_none]
  | some q =>
    obtain ⟨t, m⟩ := q
    rw [Option.bind_some, Option.bind_some]
    simp only
    rw [ahead_line h]
    exact cut_same _ _ (plain_iff 34 (by decide) (ahead r m)) _
/-- A string, read by its characters. -/
theorem textS_line (s : Bs) (p : Nat) (r : Bs) (hl : s.drop p = 34 :: r) (hq : List.isPrefixOf [34, 34, 34] (s.drop p) = false) :
    textS (s.drop p) = (xl s (p + 1)).map fun q => (q.1, s.drop q.2) := by
  have hr : s.drop (p + 1) = r := by rw [← List.drop_drop, hl, List.drop_one, List.tail_cons]
  rw [hl] at hq ⊢
  rw [textS_lineC hq, ← hr]
  exact (xl_line s (s.length - (p + 1) + 1) (p + 1) (by omega)).symm
/-- A block string, read by its characters. -/
theorem textS_raw (s : Bs) (p : Nat) (hq : List.isPrefixOf [34, 34, 34] (s.drop p) = true) :
    textS (s.drop p) = (xr s (p + 3)).map fun q => (blockS q.1, s.drop q.2) := by
  obtain ⟨r, hm⟩ := List.isPrefixOf_iff_prefix.1 hq
  have hl : s.drop p = 34 :: 34 :: 34 :: r := hm.symm
  have hr : s.drop (p + 3) = r := by rw [← List.drop_drop, hl]; rfl
  have hx := xr_raw s (s.length - (p + 3) + 1) (p + 3) (by omega)
  rw [hr] at hx
  have hT : textR (s.drop p) = (rawS r).map fun q => (blockS q.1, q.2) := by
    unfold textR
    rw [if_pos hq, hl]
    rw [rawF_fuel _ (r.length + 1) _ (by simp; omega) (by simp)]
    rfl
  have hy : ((xr s (p + 3)).map fun q => (blockS q.1, s.drop q.2)) = (rawC r).map fun q => (blockS q.1, q.2) := by
    rw [← hx, Option.map_map]
    rfl
  rw [hy]
  unfold textS rawC
  rw [hT, hl]
  cases h : rawS r with
  | none => rfl
  | some q =>
    obtain ⟨t, m⟩ := q
    have ha := raw_ahead h
    have hh : ahead (34 :: 34 :: 34 :: r) m = 34 :: 34 :: 34 :: ahead r m := by
      conv => lhs; rw [ha.1]
      rw [← List.cons_append, ← List.cons_append, ← List.cons_append, ahead_app]
    rw [Option.map_some, Option.bind_some, Option.bind_some]
    simp only
    rw [hh]
    have := ((plain_iff 34 (by decide) (34 :: 34 :: ahead r m)).trans (plain_iff 34 (by decide) (34 :: ahead r m))).trans (plain_iff 34 (by decide) (ahead r m))
    by_cases h0 : srcB (ahead r m) = none
    · rw [if_neg (by rw [this.2 h0]; simp), if_neg (by rw [h0]; simp)]
      rfl
    · rw [if_pos (by rw [isSome_iff]; exact fun h1 => h0 (this.1 h1)), if_pos (by rw [isSome_iff]; exact h0)]
      rfl
theorem xr_short {s t : Bs} {i e : Nat} (h : xr s i = some (t, e)) : t.length ≤ s.length := by
  have hx := xr_raw s (s.length - i + 1) i (by omega)
  rw [show xrF s (s.length - i + 1) i = some (t, e) from h, Option.map_some] at hx
  unfold rawC at hx
  obtain ⟨q, hq, hb⟩ := Option.bind_eq_some_iff.1 hx.symm
  split at hb
  · cases hb
  · cases hb
    have := (rawF_facts _ _ _ _ hq).2
    rw [List.length_drop] at this
    simp only at this
    omega
theorem tokS_text (l r : Bs) (hl : l = 34 :: r) : tokS l = match textS l with | none => .bad 52 | some p => .ok 4 p.1 p.2 := by
  subst hl
  rfl

/-- What one hands back. -/
def One (s : Bs) (p : Nat) (w : World) (e : Ending) (w' : World) : Prop := e = .returned (.tuple #[(oneV s p).1, .int .i64 (oneV s p).2]) ∧ Below w.heap.size w w'
theorem oneV_ok {s t r : Bs} {p : Nat} {k : Int} (h : tokS (s.drop p) = .ok k t r) : oneV s p = (tokV k t p (s.length - r.length), 0) := by unfold oneV; rw [h]
theorem oneV_bad {s : Bs} {p : Nat} {e : Int} (h : tokS (s.drop p) = .bad e) : oneV s p = (tokV 0 [] 0 0, e) := by unfold oneV; rw [h]
theorem one_ok {s t r : Bs} {p b : Nat} {k : Int} {w : World} (h : tokS (s.drop p) = .ok k t r) (hb : b = s.length - r.length)
    (C : Calls Tryz.prog 20 #[.string ⟨s.toArray⟩, .int .i64 (p : Int)] w fun e w' => e = .returned (.tuple #[tokV k t p b, .int .i64 0]) ∧ Below w.heap.size w w') : Calls Tryz.prog 20 #[.string ⟨s.toArray⟩, .int .i64 (p : Int)] w (One s p w) := by
  refine C.mono fun e w' h' => ?_
  unfold One
  rw [oneV_ok h, ← hb]
  exact h'
theorem one_err {s : Bs} {p : Nat} {x : Int} {w : World} (h : tokS (s.drop p) = .bad x)
    (C : Calls Tryz.prog 20 #[.string ⟨s.toArray⟩, .int .i64 (p : Int)] w fun e w' => e = .returned (.tuple #[tokV 0 [] 0 0, .int .i64 x]) ∧ Below w.heap.size w w') : Calls Tryz.prog 20 #[.string ⟨s.toArray⟩, .int .i64 (p : Int)] w (One s p w) := by
  refine C.mono fun e w' h' => ?_
  unfold One
  rw [oneV_bad h]
  exact h'
theorem oneS_any (s : Bs) (p : Nat) (hp : p < s.length) (hs : s.length ≤ 16384) (w : World) : Calls Tryz.prog 20 #[.string ⟨s.toArray⟩, .int .i64 (p : Int)] w (One s p w) := by
  cases hl : s.drop p with
  | nil => have := congrArg List.length hl; rw [List.length_drop] at this; simp at this; omega
  | cons x r =>
    have hlen := congrArg List.length hl
    rw [List.length_drop, List.length_cons] at hlen
    by_cases g0 : punL.contains x = true
    · have ht : tokS (s.drop p) = .ok 0 [x] r := by
        rw [hl]
        unfold tokS wrt
        rw [if_pos (show headIn punL (x :: r) = true from g0)]
        rw [show List.drop 1 (x :: r) = r from rfl, show x :: r = [x] ++ r from rfl, ahead_app]
      exact one_ok ht (by omega) (one_pun s p x r hl hs g0 w)
    · have g0' : punL.contains x = false := by simpa using g0
      by_cases gd : List.isPrefixOf [46, 46, 46] (s.drop p) = true
      · have ht : tokS (s.drop p) = .ok 0 [46, 46, 46] ((s.drop p).drop 3) := by
          obtain ⟨m, hm⟩ := List.isPrefixOf_iff_prefix.1 gd
          unfold tokS wrt
          rw [if_neg (by rw [hl]; exact g0), if_pos gd, ← hm]
          rw [show List.drop 3 ([46, 46, 46] ++ m) = m from rfl, ahead_app]
        have := (pre_pos gd).resolve_right (by simp)
        simp only [List.length_cons, List.length_nil] at this
        exact one_ok ht (by rw [List.length_drop, List.length_drop]; omega) (one_dots s p hs gd w)
      · have gd' : List.isPrefixOf [46, 46, 46] (s.drop p) = false := Bool.eq_false_iff.2 gd
        by_cases g1 : letL.contains x = true
        · have hn : nmN r ≤ r.length := (List.takeWhile_prefix _).length_le
          have ht : tokS (s.drop p) = .ok 1 ((s.drop p).take (1 + nmN r)) (r.drop (nmN r)) := by
            unfold tokS wrt
            rw [if_neg (by rw [hl]; exact g0), if_neg gd, if_pos (by rw [hl]; exact g1), hl]
            rw [show List.drop 1 (x :: r) = r from rfl, show (letL ++ digL) = nmL from rfl, span_nm]
            unfold ahead
            rw [List.length_drop, List.length_cons, show r.length + 1 - (r.length - nmN r) = 1 + nmN r by omega]
          exact one_ok ht (by rw [List.length_drop]; omega) (one_name s p x r hl hs g1 w)
        · have g1' : letL.contains x = false := by simpa using g1
          by_cases g2 : x = 45 ∨ digL.contains x = true
          · have C := one_num s p x r hl hs g2 w
            have ht : tokS (s.drop p) = (match numS (s.drop p) with | none => .bad 51 | some q => wrt q.1 (s.drop p) q.2) := by
              have : headIn (45 :: digL) (s.drop p) = true := by
                rw [hl]
                show (45 :: digL).contains x = true
                rcases g2 with g | g
                · rw [g]; rfl
                · exact List.contains_iff_mem.2 (List.mem_cons_of_mem _ (List.contains_iff_mem.1 g))
              unfold tokS
              rw [if_neg (by rw [hl]; exact g0), if_neg gd, if_neg (by rw [hl]; exact g1), if_pos this]
              cases numS (s.drop p) <;> rfl
            cases hn : numS (s.drop p) with
            | none => rw [hn] at C ht; exact one_err ht C
            | some q => rw [hn] at C ht; exact one_ok ht rfl C
          · have g2' : digL.contains x = false := by cases h : digL.contains x with | false => rfl | true => exact absurd (Or.inr h) g2
            have g3 : x ≠ 45 := fun h => g2 (Or.inl h)
            by_cases g4 : x = 34
            · subst g4
              have ht := tokS_text _ r hl
              by_cases hq : List.isPrefixOf [34, 34, 34] (s.drop p) = true
              · rw [textS_raw s p hq] at ht
                cases hx : xr s (p + 3) with
                | none => rw [hx] at ht; exact one_err ht (one_block_no s p r hl hs hq hx w)
                | some q =>
                  obtain ⟨t, e⟩ := q
                  rw [hx] at ht
                  have := xrF_le s _ _ _ _ hx
                  exact one_ok ht (by rw [List.length_drop]; omega) (one_block s p r hl hs hq t e hx (by have := xr_short hx; omega) w)
              · have hq' : List.isPrefixOf [34, 34, 34] (s.drop p) = false := Bool.eq_false_iff.2 hq
                rw [textS_line s p r hl hq'] at ht
                cases hx : xl s (p + 1) with
                | none => rw [hx] at ht; exact one_err ht (one_text_no s p r hl hs hq' hx w)
                | some q =>
                  obtain ⟨t, e⟩ := q
                  rw [hx] at ht
                  have := xlF_le s _ _ _ _ hx
                  exact one_ok ht (by rw [List.length_drop]; omega) (one_text s p r hl hs hq' t e hx w)
            · have ht : tokS (s.drop p) = .bad 50 := by
                unfold tokS
                rw [if_neg (by rw [hl]; exact g0), if_neg gd, if_neg (by rw [hl]; exact g1)]
                rw [if_neg (by rw [hl]; show ¬ (45 :: digL).contains x = true; rw [List.contains_iff_mem]; intro h; rcases List.mem_cons.1 h with h | h; exact g3 h; exact g2 (Or.inr (List.contains_iff_mem.2 h)))]
                rw [if_neg (by rw [hl]; show ¬ [34].contains x = true; rw [List.contains_iff_mem]; intro h; exact g4 (List.mem_singleton.1 h))]
              exact one_err ht (one_bad s p x r hl hs g0' g1' g2' g3 g4 gd' w)
end Go.Proofs.YtebojfipdcicaaaGreatDoor
namespace Go.Proofs.YtebojfipdcicaaaGreatDoor
open Go Go.RowKit
attribute [local irreducible] srcB unitS

theorem tokS_ne {l : Bs} {e : Int} (h : tokS l = .bad e) : e ≠ 0 := by
  unfold tokS wrt at h
  split at h
  · cases h
  · split at h
    · cases h
    · split at h
      · cases h
      · split at h
        · split at h
          · cases h; decide
          · cases h
        · split at h
          · split at h
            · cases h; decide
            · cases h
          · cases h; decide
theorem suf_cut {s m : Bs} {j : Nat} (h : m <:+ s.drop j) : s.drop (s.length - m.length) = m := by
  obtain ⟨x, hx⟩ := h.trans (List.drop_suffix j s)
  rw [← hx, List.length_append, Nat.add_sub_cancel]
  simp
/-- The loop's state: the tokens so far. -/
structure TK (s : Bs) (w wr : World) (j : Nat) (v : Value) (pre : List Tok) : Prop where
  row : Toks wr w.heap.size v pre
  few : pre.length ≤ 2048
  jle : j ≤ s.length
  nn : v ≠ .slice none 0 0
  bel : Below w.heap.size w wr
  res : lexG s.length 0 s = withL pre (lexG s.length pre.length (s.drop j))
theorem own_tok (w : World) : Toks (w.alloc (.cells #[] 28)) w.heap.size (.slice (some ⟨w.heap.size, 0, none⟩) 0 0) [] :=
  ⟨rfl, Or.inr ⟨w.heap.size, 0, #[], rfl, Nat.le_refl _, heap_alloc_new _ _, Nat.le_refl _, Nat.zero_le _, rfl, rfl⟩⟩
theorem not_noneT {w : World} {B e z n : Nat} {v : Value} {xs : List Value} (h : w.ownsRow B e z v n xs) (hn : v ≠ .slice none 0 0) : ∃ g cap, v = .slice (some ⟨g, 0, none⟩) n cap := by
  rcases h.2 with ⟨h1, _⟩ | ⟨g, cap, cur, h1, _⟩
  · exact absurd h1 hn
  · exact ⟨g, cap, h1⟩

set_option maxRecDepth 100000 in
set_option maxHeartbeats 2000000 in
theorem xtokens_short (s : Bs) (hs : s.length ≤ 16384) (w : World) : Calls Tryz.prog 9 #[.string ⟨s.toArray⟩] w (TokensP w (lexG s.length 0 s)) := by
  obtain ⟨i1, hi1, hy0, hy1, hy2⟩ := info_parts Tryz.infoTok
  have hD : (ByteArray.mk s.toArray).size = s.length := rfl
  have hsI : ¬ (16384 : Int) < (s.length : Int) := by omega
  generalize hDD : (ByteArray.mk s.toArray) = D at *
  have HD : Hid ((ByteArray.mk s.toArray) = D) := hDD
  clear hDD
  go_enter Tryz.func9, Tryz.ntmps9
  go_wp2
  go_loopw [5, 6] (fun l i wr => ∃ (j : Nat) (v : Value) (pre : List Tok), l = v ∧ i = .int .i64 (j : Int) ∧ TK s w wr j v pre) (fun _ i _ => s.length - (RowKit.intOf i).toNat)
  case atStart => exact ⟨0, _, [], rfl, rfl, own_tok w, by simp, by omega, by simp, (Below.refl _ _).alloc (Nat.le_refl _) _, (withL_nil _).symm⟩
  case round =>
    obtain ⟨j, v, pre, rfl, rfl, hT⟩ := hrel
    obtain ⟨hob, hfew, hj, hnn, hbr, hres⟩ := hT
    have HR : Hid (lexG s.length 0 s = withL pre (lexG s.length pre.length (s.drop j))) := hres
    clear hres
    obtain ⟨g9, cap9, rfl⟩ := not_noneT hob hnn
    cases hk : skipS (s.drop j) with
    | inr k =>
      have S : ∀ w, Calls Tryz.prog 19 #[.string D, .int .i64 (j : Int)] w fun e w' => e = .returned (.tuple #[.int .i64 ((s.length - k : Nat) : Int), .bool false]) ∧ Below w.heap.size w w' := fun w => by
        have := xskip_any (fun e => e = .returned (.tuple #[.int .i64 ((s.length - k : Nat) : Int), .bool false])) s j hj hs (fun m h => by rw [hk] at h; cases h) (fun k' h => by rw [hk] at h; cases h; rfl) w
        rw [HD.out] at this
        exact this
      have HX : Hid (lexG s.length 0 s = .inl (s.length - k, 50)) := by rw [Hid, HR.out, lexG_wrong hk]; rfl
      clear hk
      generalize s.length - k = q at *
      go_wp2_with (first
        | (go_at_call 19; (with_reducible refine (S _).mono ?_); rintro e w1 ⟨rfl, hb1⟩; have hbr1 := hbr.trans (hb1.mono hbr.size))
        | fail)
      go_ret3
      rw [HX.out]
      exact ⟨rfl, hbr1⟩
    | inl m =>
      have hm := skipS_suf hk
      have hml := hm.length_le
      rw [List.length_drop] at hml
      have hmd := suf_cut hm
      have S : ∀ w, Calls Tryz.prog 19 #[.string D, .int .i64 (j : Int)] w fun e w' => e = .returned (.tuple #[.int .i64 ((s.length - m.length : Nat) : Int), .bool true]) ∧ Below w.heap.size w w' := fun w => by
        have := xskip_any (fun e => e = .returned (.tuple #[.int .i64 ((s.length - m.length : Nat) : Int), .bool true])) s j hj hs (fun m' h => by rw [hk] at h; cases h; rfl) (fun k' h => by rw [hk] at h; cases h) w
        rw [HD.out] at this
        exact this
      cases m with
      | nil =>
        have HX : Hid (lexG s.length 0 s = .inr pre) := by rw [Hid, HR.out, lexG_end hk]; simp [withL]
        rw [List.length_nil, Nat.sub_zero] at S
        clear hk hm hml hmd
        go_wp2_with (first
          | (go_at_call 19; (with_reducible refine (S _).mono ?_); rintro e w1 ⟨rfl, hb1⟩; have hbr1 := hbr.trans (hb1.mono hbr.size); have hob1 := owns_belowX hob hb1)
          | fail)
        go_ret3
        rw [HX.out]
        exact ⟨⟨_, rfl, hob1⟩, hbr1⟩
      | cons x l1 =>
        rw [List.length_cons] at hml
        by_cases hc : pre.length = 2048
        · have HX : Hid (lexG s.length 0 s = .inl (s.length - (x :: l1).length, 53)) := by rw [Hid, HR.out, lexG_many hk hc]; rfl
          have hq : s.length - (x :: l1).length < s.length := by rw [List.length_cons]; omega
          clear hk hm hml hmd
          generalize s.length - (x :: l1).length = q at *
          have hqI : (q : Int) < (s.length : Int) := by omega
          go_wp2_with (first
            | (go_at_call 19; (with_reducible refine (S _).mono ?_); rintro e w1 ⟨rfl, hb1⟩; have hbr1 := hbr.trans (hb1.mono hbr.size))
            | fail)
          go_ret3
          rw [HX.out]
          exact ⟨rfl, hbr1⟩
        · have hq : s.length - (x :: l1).length < s.length := by rw [List.length_cons]; omega
          have hqj : j ≤ s.length - (x :: l1).length := by rw [List.length_cons]; omega
          have hc2 : pre.length < 2048 := by omega
          cases ht : tokS (x :: l1) with
          | bad e =>
            have HX : Hid (lexG s.length 0 s = .inl (s.length - (x :: l1).length, e)) := by rw [Hid, HR.out, lexG_bad hk hc ht]; rfl
            have he := tokS_ne ht
            have O : ∀ w, Calls Tryz.prog 20 #[.string D, .int .i64 ((s.length - (x :: l1).length : Nat) : Int)] w fun e' w' => e' = .returned (.tuple #[tokV 0 [] 0 0, .int .i64 e]) ∧ Below w.heap.size w w' := fun w => by
              have := oneS_any s (s.length - (x :: l1).length) hq hs w
              rw [HD.out] at this
              refine this.mono fun _ _ h => ?_
              unfold One at h
              rw [oneV_bad (by rw [hmd]; exact ht)] at h
              exact h
            clear hk hm hml hmd ht hqj
            generalize s.length - (x :: l1).length = q at *
            have hqI : (q : Int) < (s.length : Int) := by omega
            go_wp2_with (first
              | (go_at_call 19; (with_reducible refine (S _).mono ?_); rintro e1 w1 ⟨rfl, hb1⟩; have hbr1 := hbr.trans (hb1.mono hbr.size))
              | (go_at_call 20; (with_reducible refine (O _).mono ?_); rintro e2 w2 ⟨rfl, hb2⟩; have hbr2 := hbr1.trans (hb2.mono hbr1.size))
              | fail)
            go_ret3
            rw [HX.out]
            exact ⟨rfl, hbr2.alloc hbr2.size _⟩
          | ok k t r =>
            have hf := tokS_facts ht
            have hr : s.drop (s.length - r.length) = r := suf_cut (hf.1.trans hm)
            have hrl := hf.2
            rw [List.length_cons] at hrl
            have HX : Hid (lexG s.length 0 s = withL (pre ++ [⟨k, t, s.length - (x :: l1).length, s.length - r.length⟩]) (lexG s.length (pre.length + 1) (s.drop (s.length - r.length)))) := by
              rw [Hid, HR.out, lexG_ok hk hc ht, withL_withL, hr]
            have O : ∀ w, Calls Tryz.prog 20 #[.string D, .int .i64 ((s.length - (x :: l1).length : Nat) : Int)] w fun e' w' => e' = .returned (.tuple #[tokV k t (s.length - (x :: l1).length) (s.length - r.length), .int .i64 0]) ∧ Below w.heap.size w w' := fun w => by
              have := oneS_any s (s.length - (x :: l1).length) hq hs w
              rw [HD.out] at this
              refine this.mono fun _ _ h => ?_
              unfold One at h
              rw [oneV_ok (by rw [hmd]; exact ht)] at h
              exact h
            have hqb : s.length - (x :: l1).length < s.length - r.length := by rw [List.length_cons]; omega
            have hbl : s.length - r.length ≤ s.length := by omega
            clear hk hm hml hmd ht hf hr hrl
            generalize s.length - (x :: l1).length = q at *
            generalize s.length - r.length = b at *
            have hqI : (q : Int) < (s.length : Int) := by omega
            go_wp2_with (first
              | (go_at_call 19; (with_reducible refine (S _).mono ?_); rintro e1 w1 ⟨rfl, hb1⟩; have hbr1 := hbr.trans (hb1.mono hbr.size); have hob1 := owns_belowX hob hb1)
              | (go_at_call 20; (with_reducible refine (O _).mono ?_); rintro e2 w2 ⟨rfl, hb2⟩; have hbr2 := hbr1.trans (hb2.mono hbr1.size); have hob2 := owns_belowX hob1 hb2)
              | (at_builtin; refine wpList_append_own _ rfl _ _ 22 rfl w.heap.size 28 i1 _ 4 40 Tryz.underlying22 hi1 hy0 hy1 hy2 rfl (by decide) _ _ _ rfl ((hob2.alloc _).alloc _) ⟨w2.heap.size + 1, 0, none⟩ 1 1 [.int .i64 k, .string ⟨t.toArray⟩, .int .i64 (q : Int), .int .i64 (b : Int)] rfl rfl ?c1 ?c2 ?c3 ?c4 ?c5 ?_)
              | fail)
            case c1 =>
              intro i u hu
              rw [show w2.heap.size + 1 = (w2.alloc (.cells #[.int .i64 k, .string ⟨t.toArray⟩, .int .i64 (q : Int), .int .i64 (b : Int)] 28)).heap.size by simp, cell_new]
              simpa using hu
            case c2 => simp [Value.oneCell']
            case c3 =>
              have : (2049 : Nat) ≤ maxLen := by decide
              omega
            case c4 => omega
            case c5 => have := hbr2.size; simp; omega
            intro v' w4 hown' hgrow hnil
            have hbr3 : Below w.heap.size w ((w2.alloc (.cells #[.int .i64 k, .string ⟨t.toArray⟩, .int .i64 (q : Int), .int .i64 (b : Int)] 28)).alloc (.cells #[.int .i64 k, .string ⟨t.toArray⟩, .int .i64 (q : Int), .int .i64 (b : Int)] 28)) := (hbr2.alloc hbr2.size _).alloc (by have := hbr2.size; simp; omega) _
            have hbr4 : Below w.heap.size w w4 := hbr3.grown hgrow hbr3.size (own_ge hob2)
            have hlt := (toks_block hob2 (g := g9) rfl).1
            have hT4 : w4.heap[w2.heap.size]? = some (.cells #[.int .i64 k, .string ⟨t.toArray⟩, .int .i64 (q : Int), .int .i64 (b : Int)] 28 (0, 0)) := by
              rw [hgrow.block _ (by simp; omega) (by simp [Value.ownBlock]; omega), Below.heap_alloc _ _ _ (by simp)]
              exact heap_alloc_new _ _
            have k3 : w4.cell? ⟨w2.heap.size, 3, none⟩ = some (.int .i64 (b : Int)) := by simp [World.cell?, hT4]
            have HG : Hid (Toks w4 w.heap.size v' (pre ++ [⟨k, t, q, b⟩])) := by
              show World.ownsRow _ _ _ _ _ (pre ++ [_]).length (cellsT (pre ++ [_]))
              rw [cellsT_snoc, List.length_append]
              exact hown'
            clear hown' hgrow hT4 hbr3
            go_wp2
            refine ⟨⟨b, v', pre ++ [⟨k, t, q, b⟩], rfl, rfl, HG.out, by rw [List.length_append]; simp; omega, hbl, hnil, hbr4, ?_⟩, ?_⟩
            · rw [HX.out, List.length_append]
              rfl
            · simp [RowKit.intOf]
              omega

set_option maxRecDepth 100000 in
set_option maxHeartbeats 2000000 in
theorem xtokens_long (s : Bs) (hs : 16384 < s.length) (w : World) : Calls Tryz.prog 9 #[.string ⟨s.toArray⟩] w (TokensP w (.inl (0, 54))) := by
  have hD : (ByteArray.mk s.toArray).size = s.length := rfl
  have hsI : (16384 : Int) < (s.length : Int) := by omega
  generalize (ByteArray.mk s.toArray) = D at *
  go_enter Tryz.func9, Tryz.ntmps9
  go_wp2
  go_ret3
  exact ⟨rfl, Below.refl _ _⟩
theorem xtokens_any (s : Bs) (w : World) : Calls Tryz.prog 9 #[.string ⟨s.toArray⟩] w (TokensP w (lexS s)) := by
  unfold lexS
  by_cases h : 16384 < s.length
  · rw [if_pos h]; exact xtokens_long s h w
  · rw [if_neg h]; exact xtokens_short s (by omega) w
end Go.Proofs.YtebojfipdcicaaaGreatDoor
