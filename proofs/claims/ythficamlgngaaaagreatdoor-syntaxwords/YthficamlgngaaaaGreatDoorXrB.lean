/- The document's own block: a block string's raw text, read by source characters. -/
import Derived.Test.YthficamlgngaaaaGreatDoorXrT
namespace Go.Proofs.YthficamlgngaaaaGreatDoor
open Go Go.RowKit
attribute [local irreducible] srcB

def xrF (s : Bs) : Nat → Nat → Option (Bs × Nat)
  | 0, _ => none
  | n + 1, i => if List.isPrefixOf [92, 34, 34, 34] (s.drop i) then (xrF s n (i + 4)).map fun q => ([34, 34, 34] ++ q.1, q.2) else if List.isPrefixOf [34, 34, 34] (s.drop i) then some ([], i + 3) else match srcC s i with
    | none => none
    | some k => (xrF s n (i + k)).map fun q => ((s.drop i).take k ++ q.1, q.2)
theorem pre_pos {s t : Bs} {i : Nat} (h : t.isPrefixOf (s.drop i) = true) : i + t.length ≤ s.length ∨ t = [] := by
  have := prefix_le h
  rw [List.length_drop] at this
  cases t with
  | nil => exact Or.inr rfl
  | cons c t => left; simp at this ⊢; omega
theorem xrF_fuel (s : Bs) : ∀ (n m i : Nat), s.length - i < n → s.length - i < m → xrF s n i = xrF s m i := by
  intro n
  induction n with
  | zero => intro m i h; omega
  | succ n ih =>
    intro m i hn hm
    cases m with
    | zero => omega
    | succ m =>
      unfold xrF
      by_cases h4 : List.isPrefixOf [92, 34, 34, 34] (s.drop i) = true
      · have := (pre_pos h4).resolve_right (by simp)
        simp only [List.length_cons, List.length_nil] at this
        rw [if_pos h4, if_pos h4, ih m (i + 4) (by omega) (by omega)]
      · rw [if_neg h4, if_neg h4]
        cases hs : srcC s i with
        | none => rfl
        | some k =>
          have hH := hs
          rw [srcC_H] at hH
          obtain ⟨k1, k2, _, _⟩ := srcH_facts hH
          rw [List.length_drop] at k2
          simp only
          rw [ih m (i + k) (by omega) (by omega)]
def xr (s : Bs) (i : Nat) : Option (Bs × Nat) := xrF s (s.length - i + 1) i
theorem xr_esc {s : Bs} {i : Nat} (h : List.isPrefixOf [92, 34, 34, 34] (s.drop i) = true) : xr s i = (xr s (i + 4)).map fun q => ([34, 34, 34] ++ q.1, q.2) := by
  have := (pre_pos h).resolve_right (by simp)
  simp only [List.length_cons, List.length_nil] at this
  conv => lhs; unfold xr xrF
  rw [if_pos h]
  unfold xr
  rw [xrF_fuel s _ (s.length - (i + 4) + 1) (i + 4) (by omega) (by omega)]
theorem xr_stop {s : Bs} {i : Nat} (h : List.isPrefixOf [92, 34, 34, 34] (s.drop i) = false) (h3 : List.isPrefixOf [34, 34, 34] (s.drop i) = true) : xr s i = some ([], i + 3) := by
  unfold xr xrF
  rw [if_neg (by rw [h]; decide), if_pos h3]
theorem xr_none {s : Bs} {i : Nat} (h : List.isPrefixOf [92, 34, 34, 34] (s.drop i) = false) (h3 : List.isPrefixOf [34, 34, 34] (s.drop i) = false) (hs : srcC s i = none) : xr s i = none := by
  unfold xr xrF
  rw [if_neg (by rw [h]; decide), if_neg (by rw [h3]; decide), hs]
theorem xr_chr {s : Bs} {i k : Nat} (h : List.isPrefixOf [92, 34, 34, 34] (s.drop i) = false) (h3 : List.isPrefixOf [34, 34, 34] (s.drop i) = false) (hs : srcC s i = some k) : xr s i = (xr s (i + k)).map fun q => ((s.drop i).take k ++ q.1, q.2) := by
  have hH := hs
  rw [srcC_H] at hH
  obtain ⟨k1, k2, _, _⟩ := srcH_facts hH
  rw [List.length_drop] at k2
  conv => lhs; unfold xr xrF
  rw [if_neg (by rw [h]; decide), if_neg (by rw [h3]; decide), hs]
  simp only
  unfold xr
  rw [xrF_fuel s _ (s.length - (i + k) + 1) (i + k) (by omega) (by omega)]
def rawC (l : Bs) : Option (Bs × Bs) := (rawS l).bind fun p => if (srcB (ahead l p.2)).isSome then none else some p
theorem rawC_of {l t r : Bs} (h : rawS l = some (t, r)) (hs : srcB (ahead l r) = none) : rawC l = some (t, r) := by
  unfold rawC
  rw [h, Option.bind_some, if_neg (by rw [isSome_iff]; simp [hs])]
theorem rawC_bad {l t r : Bs} (h : rawS l = some (t, r)) (hs : ¬ srcB (ahead l r) = none) : rawC l = none := by
  unfold rawC
  rw [h, Option.bind_some, if_pos (by rw [isSome_iff]; exact hs)]
theorem rawC_none {l : Bs} (h : rawS l = none) : rawC l = none := by unfold rawC; rw [h]; rfl
theorem raw_ahead {l t r : Bs} (h : rawS l = some (t, r)) : l = ahead l r ++ r ∧ ahead l r ≠ [] := by
  obtain ⟨x, rfl⟩ := (rawF_facts _ _ _ _ h).1
  have hlt := rawF_lt _ _ _ _ h
  rw [ahead_app]
  refine ⟨rfl, ?_⟩
  rintro rfl
  simp only [List.nil_append] at hlt
  omega
theorem rawC_no {l : Bs} (h : srcH l = none) : rawC l = none := by
  cases hl : rawS l with
  | none => exact rawC_none hl
  | some p =>
    obtain ⟨t, r⟩ := p
    obtain ⟨e, hne⟩ := raw_ahead hl
    refine rawC_bad hl fun hs => ?_
    obtain ⟨k, hk⟩ := src_first hne hs
    have := srcH_ext r hk
    rw [← e, h] at this
    cases this
theorem rawC_step {x l y : Bs} (hraw : rawS (x ++ l) = (rawS l).map fun q => (y ++ q.1, q.2)) (hsrc : ∀ m, srcB (x ++ m) = none ↔ srcB m = none) : rawC (x ++ l) = (rawC l).map fun q => (y ++ q.1, q.2) := by
  cases hl : rawS l with
  | none =>
    rw [rawC_none hl, rawC_none (by rw [hraw, hl]; rfl)]
    rfl
  | some p =>
    obtain ⟨t, r⟩ := p
    have h2 : rawS (x ++ l) = some (y ++ t, r) := by rw [hraw, hl]; rfl
    obtain ⟨e, _⟩ := raw_ahead hl
    have ea : ahead (x ++ l) r = x ++ ahead l r := by
      conv => lhs; rw [e, ← List.append_assoc]
      exact ahead_app _ _
    by_cases hs : srcB (ahead l r) = none
    · rw [rawC_of hl hs, rawC_of h2 (by rw [ea, hsrc]; exact hs)]
      rfl
    · rw [rawC_bad hl hs, rawC_bad h2 (by rw [ea, hsrc]; exact hs)]
      rfl
theorem raw_his : ∀ (x m : Bs), (∀ c ∈ x, 128 ≤ c.toNat) → rawS (x ++ m) = (rawS m).map fun q => (x ++ q.1, q.2)
  | [], m, _ => by
    show rawS m = _
    cases rawS m <;> rfl
  | c :: x, m, h => by
    obtain ⟨h1, h2, _, _⟩ := hi_ne (h c List.mem_cons_self)
    show rawS (c :: (x ++ m)) = _
    rw [rawS_chr (by simp [List.isPrefixOf]; exact fun e => absurd e.symm h1) (by simp [List.isPrefixOf]; exact fun e => absurd e.symm h2), raw_his x m fun d hd => h d (List.mem_cons_of_mem _ hd)]
    cases rawS m <;> rfl
theorem xr_raw (s : Bs) : ∀ (n i : Nat), s.length - i < n → (xrF s n i).map (fun q => (q.1, s.drop q.2)) = rawC (s.drop i) := by
  intro n
  induction n with
  | zero => intro i h; omega
  | succ n ih =>
    intro i hi
    unfold xrF
    by_cases h4 : List.isPrefixOf [92, 34, 34, 34] (s.drop i) = true
    · have h4l := (pre_pos h4).resolve_right (by simp)
      simp only [List.length_cons, List.length_nil] at h4l
      rw [if_pos h4]
      obtain ⟨m, hm⟩ := List.isPrefixOf_iff_prefix.1 h4
      have hd : s.drop (i + 4) = m := by
        rw [← List.drop_drop, ← hm]
        rfl
      have ihr := ih (i + 4) (by omega)
      rw [hd] at ihr
      rw [← hm]
      have hstep := rawC_step (x := [92, 34, 34, 34]) (l := m) (y := [34, 34, 34]) (rawS_esc (l := [92, 34, 34, 34] ++ m) rfl rfl) (fun m => plains_iff _ m (by decide))
      rw [hstep, ← ihr]
      cases xrF s n (i + 4) <;> rfl
    · rw [if_neg h4]
      have h4' := Bool.eq_false_iff.2 h4
      by_cases h3 : List.isPrefixOf [34, 34, 34] (s.drop i) = true
      · rw [if_pos h3]
        obtain ⟨m, hm⟩ := List.isPrefixOf_iff_prefix.1 h3
        have hd : s.drop (i + 3) = m := by
          rw [← List.drop_drop, ← hm]
          rfl
        rw [← hm]
        have ha : ahead ([34, 34, 34] ++ m) m = [34, 34, 34] := ahead_app _ _
        rw [rawC_of (rawS_stop (l := [34, 34, 34] ++ m) rfl) (by show srcB (ahead ([34, 34, 34] ++ m) m) = none; rw [ha]; exact src_plain _ (by decide))]
        simp [hd]
      · rw [if_neg h3]
        have h3' := Bool.eq_false_iff.2 h3
        cases hs : srcC s i with
        | none =>
          rw [srcC_H] at hs
          rw [rawC_no hs]
          rfl
        | some k =>
          have hH := hs
          rw [srcC_H] at hH
          obtain ⟨k1, k2, _, _⟩ := srcH_facts hH
          rw [List.length_drop] at k2
          simp only
          have e := List.take_append_drop k (s.drop i)
          have hH1 : srcH ((s.drop i).take k) = some k := srcH_pre (x := (s.drop i).take k) (r := (s.drop i).drop k) (by rw [e]; exact hH) (by rw [List.length_take, List.length_drop]; omega)
          have hraw : rawS ((s.drop i).take k ++ (s.drop i).drop k) = (rawS ((s.drop i).drop k)).map fun q => ((s.drop i).take k ++ q.1, q.2) := by
            rcases srcH_bytes hH with ⟨c, r, hl, hc, rfl, _⟩ | ⟨_, hbig⟩
            · rw [hl] at h4' h3' ⊢
              exact rawS_chr h3' h4'
            · exact raw_his _ _ hbig
          have hstep := rawC_step hraw (hsrc_of hH1 (by rw [List.length_take, List.length_drop]; omega))
          rw [e, List.drop_drop] at hstep
          have ihr := ih (i + k) (by omega)
          rw [hstep, ← ihr]
          cases xrF s n (i + k) <;> rfl

set_option maxRecDepth 100000 in
set_option maxHeartbeats 2000000 in
theorem xraw_any (Q : Ending → Prop) (s : Bs) (p : Nat) (hp : p + 3 ≤ s.length) (hs : s.length ≤ 16384) (hyes : ∀ t e, xr s (p + 3) = some (t, e) → Q (.returned (.tuple #[.string ⟨t.toArray⟩, .int .i64 (e : Int), .bool true]))) (hno : xr s (p + 3) = none → ∀ b, Q (.returned (.tuple #[.string ⟨#[]⟩, .int .i64 b, .bool false]))) (w : World) :
    Calls Tryz.prog 69 #[.string ⟨s.toArray⟩, .int .i64 (p : Int)] w fun e w' => Q e ∧ Below w.heap.size w w' := by
  obtain ⟨i1, hi1, hy0, hy1, hy2⟩ := info_parts Tryz.infoByte
  have HY : Hid (∀ t e, xr s (p + 3) = some (t, e) → Q (.returned (.tuple #[.string ⟨t.toArray⟩, .int .i64 (e : Int), .bool true]))) := hyes
  have HN : Hid (xr s (p + 3) = none → ∀ b, Q (.returned (.tuple #[.string ⟨#[]⟩, .int .i64 b, .bool false]))) := hno
  have hD : (ByteArray.mk s.toArray).size = s.length := rfl
  have s3 : (ByteArray.mk #[34, 34, 34]).size = 3 := rfl
  clear hyes hno
  generalize hDD : (ByteArray.mk s.toArray) = D at *
  have HD : Hid ((ByteArray.mk s.toArray) = D) := hDD
  clear hDD
  go_enter Tryz.func69, Tryz.ntmps69
  go_wp2
  go_loopw [1, 7] (fun i b wr => ∃ (j : Nat) (vb : Value) (acc : Bs), i = .int .i64 (j : Int) ∧ b = vb ∧ TL (xr s) s (p + 3) w wr j vb acc) (fun i _ _ => s.length - (RowKit.intOf i).toNat)
  case atStart => exact ⟨p + 3, _, [], rfl, rfl, own_nobX w, by simp, by omega, by simp, (Below.refl _ _).alloc (Nat.le_refl _) _, map_nil _⟩
  case round =>
    obtain ⟨j, vb, acc, rfl, rfl, hT⟩ := hrel
    obtain ⟨hob, hle, hj, hnn, hbr, hres⟩ := hT
    have HR : Hid (xr s (p + 3) = (xr s j).map fun q => (acc ++ q.1, q.2)) := hres
    clear hres
    obtain ⟨g9, cap9, rfl⟩ := not_noneX hob hnn
    have B4 : ∀ w : World, Calls Tryz.prog 63 #[.string D, .int .i64 (j : Int), .string ⟨#[92, 34, 34, 34]⟩] w fun e w' => e = .returned (.bool (List.isPrefixOf [92, 34, 34, 34] (s.drop j))) ∧ w = w' := fun w => by
      have := begins_any s j hj hs [92, 34, 34, 34] (by decide) w
      rw [HD.out] at this
      exact this.mono fun _ _ h => ⟨h.1, h.2.symm⟩
    have B3 : ∀ w : World, Calls Tryz.prog 63 #[.string D, .int .i64 (j : Int), .string ⟨#[34, 34, 34]⟩] w fun e w' => e = .returned (.bool (List.isPrefixOf [34, 34, 34] (s.drop j))) ∧ w = w' := fun w => by
      have := begins_any s j hj hs [34, 34, 34] (by decide) w
      rw [HD.out] at this
      exact this.mono fun _ _ h => ⟨h.1, h.2.symm⟩
    cases h4 : List.isPrefixOf [92, 34, 34, 34] (s.drop j) with
    | true =>
      rw [h4] at B4
      have h5 := (pre_pos h4).resolve_right (by simp)
      simp only [List.length_cons, List.length_nil] at h5
      have HX : Hid (xr s j = (xr s (j + 4)).map fun q => ([34, 34, 34] ++ q.1, q.2)) := xr_esc h4
      have hbrA := hbr
      have hobA := hob
      clear h4 B3
      go_wp2_with (first
        | (at_builtin; refine Lib.wpList_append_own_string _ rfl _ _ 37 9 rfl w.heap.size 5 i1 Tryz.underlying37 Tryz.underlying9 hi1 hy0 hy1 hy2 _ _ _ rfl hobA ⟨#[34, 34, 34]⟩ rfl ?d1 ?d2 ?d3 ?_)
        | (go_at_call 63; (with_reducible refine (B4 _).mono ?_); rintro e w0 ⟨rfl, rfl⟩)
        | fail)
      case d1 => unfold maxLen; omega
      case d2 => omega
      case d3 => exact hbrA.size
      intro vb2 w4 hob4 hg4 hnil4
      have hbr4 : Below w.heap.size w w4 := hbrA.grown hg4 hbrA.size (own_ge hobA)
      have hnn4 : vb2 ≠ .slice none 0 0 := by first | exact fun e => hnn (hnil4.1 e).1 | exact hnil4
      have HG : Hid (Bytes w4 w.heap.size vb2 (acc ++ [34, 34, 34])) := grow_bytes (t := [34, 34, 34]) rfl (by first | exact hob4 | (rw [s3]; exact hob4))
      clear hob4 hg4 hnil4 hobA
      go_wp2
      refine ⟨⟨j + 4, vb2, acc ++ [34, 34, 34], congrArg (Value.int .i64) (by omega), rfl, HG.out, by rw [List.length_append]; simp; omega, by omega, hnn4, hbr4, ?_⟩, ?_⟩
      · rw [HR.out, HX.out, map_map]
      · simp [RowKit.intOf]
        omega
    | false =>
      rw [h4] at B4
      cases h3 : List.isPrefixOf [34, 34, 34] (s.drop j) with
      | true =>
        rw [h3] at B3
        have HX : Hid (xr s j = some ([], j + 3)) := xr_stop h4 h3
        have hcv := conv_row hob
        have h5 := (pre_pos h3).resolve_right (by simp)
        simp only [List.length_cons, List.length_nil] at h5
        clear h4 h3
        generalize hAB : (ByteArray.mk acc.toArray) = AB at *
        have HAB : Hid ((ByteArray.mk acc.toArray) = AB) := hAB
        clear hAB
        go_wp2_with (first
          | (go_at_call 63; (with_reducible refine (B3 _).mono ?_); rintro e w0 ⟨rfl, rfl⟩)
          | (go_at_call 63; (with_reducible refine (B4 _).mono ?_); rintro e w0 ⟨rfl, rfl⟩)
          | fail)
        go_ret3
        have hy := HY.out acc (j + 3) (by rw [HR.out, HX.out]; simp)
        rw [HAB.out] at hy
        exact ⟨hy, hbr⟩
      | false =>
        rw [h3] at B3
        cases hsc : srcC s j with
        | none =>
          have S : ∀ w, Calls Tryz.prog 64 #[.string D, .int .i64 (j : Int)] w fun e w' => e = .returned (.tuple #[.int .i64 0, .int .i64 0]) ∧ Below w.heap.size w w' := fun w => by
            have := source_no s j hs hsc w
            rw [HD.out] at this
            exact this
          have HX : Hid (xr s j = none) := xr_none h4 h3 hsc
          clear hsc h4 h3
          go_wp2_with (first
            | (go_at_call 64; (with_reducible refine (S _).mono ?_); rintro e w1 ⟨rfl, hb1⟩; have hbr1 := hbr.trans (hb1.mono hbr.size); have hob1 := owns_belowX hob hb1)
            | (go_at_call 63; (with_reducible refine (B3 _).mono ?_); rintro e w0 ⟨rfl, rfl⟩)
            | (go_at_call 63; (with_reducible refine (B4 _).mono ?_); rintro e w0 ⟨rfl, rfl⟩)
            | fail)
          go_ret3
          exact ⟨HN.out (by rw [HR.out, HX.out]; rfl) _, hbr1⟩
        | some k =>
          have S : ∀ w, Calls Tryz.prog 64 #[.string D, .int .i64 (j : Int)] w fun e w' => e = .returned (.tuple #[.int .i64 (stC ⟨s.toArray⟩ j), .int .i64 (k : Int)]) ∧ Below w.heap.size w w' := fun w => by
            have := source_yes s j k hs hsc w
            rw [HD.out] at this ⊢
            exact this
          have hH := hsc
          rw [srcC_H] at hH
          obtain ⟨k1, k2, _, _⟩ := srcH_facts hH
          rw [List.length_drop] at k2
          have x0 : ((k : Int) == 0) = false := by simp; omega
          have x00 : (k == 0) = false := by simp; omega
          have HX : Hid (xr s j = (xr s (j + k)).map fun q => ((s.drop j).take k ++ q.1, q.2)) := xr_chr h4 h3 hsc
          have hx := ext_mk s j k
          rw [HD.out] at hx
          have hxl : (ByteArray.mk ((s.drop j).take k).toArray).size = k := by rw [mk_size, List.length_take, List.length_drop]; omega
          have hxl2 : ((s.drop j).take k).length = k := by rw [List.length_take, List.length_drop]; omega
          have f1 : (j : Int) + (k : Int) ≤ (s.length : Int) := by omega
          have f2 : (j : Int) ≤ (j : Int) + (k : Int) := by omega
          have f3 : j + k ≤ s.length := by omega
          have f4 : (0 : Int) ≤ (j : Int) + (k : Int) := by omega
          clear hsc hH h4 h3
          generalize stC ⟨s.toArray⟩ j = c at *
          generalize (s.drop j).take k = x at *
          have HTB : Hid ((ByteArray.mk x.toArray) = D.extract j (j + k)) := hx.symm
          have hxs : (D.extract j (j + k)).size = k := by rw [hx]; exact hxl
          clear hx hxl
          go_wp2_with (first
            | (at_builtin; refine Lib.wpList_append_own_string _ rfl _ _ 37 9 rfl w.heap.size 5 i1 Tryz.underlying37 Tryz.underlying9 hi1 hy0 hy1 hy2 _ _ _ rfl hobA (D.extract j (j + k)) rfl ?d1 ?d2 ?d3 ?_)
            | (go_at_call 64; (with_reducible refine (S _).mono ?_); rintro e w1 ⟨rfl, hb1⟩; have hbrA := hbr.trans (hb1.mono hbr.size); have hobA := owns_belowX hob hb1)
            | (go_at_call 63; (with_reducible refine (B3 _).mono ?_); rintro e w0 ⟨rfl, rfl⟩)
            | (go_at_call 63; (with_reducible refine (B4 _).mono ?_); rintro e w0 ⟨rfl, rfl⟩)
            | fail)
          case d1 => unfold maxLen; omega
          case d2 => omega
          case d3 => exact hbrA.size
          intro vb2 w4 hob4 hg4 hnil4
          have hbr4 : Below w.heap.size w w4 := hbrA.grown hg4 hbrA.size (own_ge hobA)
          have hnn4 : vb2 ≠ .slice none 0 0 := by first | exact fun e => hnn (hnil4.1 e).1 | exact hnil4
          have HG : Hid (Bytes w4 w.heap.size vb2 (acc ++ x)) := grow_bytes HTB.out (by rw [hxs]; exact hob4)
          clear hob4 hg4 hnil4 hobA
          go_wp2
          refine ⟨⟨j + k, vb2, acc ++ x, congrArg (Value.int .i64) (by omega), rfl, HG.out, by rw [List.length_append]; omega, by omega, hnn4, hbr4, ?_⟩, ?_⟩
          · rw [HR.out, HX.out, map_map]
          · simp [RowKit.intOf]
            omega
end Go.Proofs.YthficamlgngaaaaGreatDoor
