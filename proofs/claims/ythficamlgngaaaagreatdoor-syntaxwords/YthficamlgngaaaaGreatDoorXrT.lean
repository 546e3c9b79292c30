/- The document's own text: a string, read by source characters. -/
import Derived.Test.YthficamlgngaaaaGreatDoorXrM
import Derived.Test.YthficamlgngaaaaGreatDoorLxV3
namespace Go.Proofs.YthficamlgngaaaaGreatDoor
open Go Go.RowKit
attribute [local irreducible] srcB unitS

theorem xlF_fuel (s : Bs) : ∀ (n m i : Nat), s.length - i < n → s.length - i < m → xlF s n i = xlF s m i := by
  intro n
  induction n with
  | zero => intro m i h; omega
  | succ n ih =>
    intro m i hn hm
    cases m with
    | zero => omega
    | succ m =>
      unfold xlF
      cases hs : srcC s i with
      | none => rfl
      | some k =>
        have hH := hs
        rw [srcC_H] at hH
        obtain ⟨k1, k2, _, _⟩ := srcH_facts hH
        rw [List.length_drop] at k2
        simp only
        rw [ih m (i + k) (by omega) (by omega)]
        cases he : escS (s.drop (i + 1)) with
        | none => rfl
        | some p =>
          have h4 := (escS_facts (t := p.1) (r := p.2) he).2.1
          rw [List.length_drop] at h4
          simp only
          rw [ih m (s.length - p.2.length) (by omega) (by omega)]
/-- What a string says from a place on. -/
def xl (s : Bs) (i : Nat) : Option (Bs × Nat) := xlF s (s.length - i + 1) i
theorem xl_none {s : Bs} {i : Nat} (h : srcC s i = none) : xl s i = none := by
  unfold xl xlF
  rw [h]
theorem xl_end {s : Bs} {i k : Nat} (h : srcC s i = some k) (hc : bt s i = 10 ∨ bt s i = 13) : xl s i = none := by
  unfold xl xlF
  rw [h]
  simp only
  rw [if_pos hc]
theorem xl_stop {s : Bs} {i k : Nat} (h : srcC s i = some k) (hc : bt s i = 34) : xl s i = some ([], i + 1) := by
  unfold xl xlF
  rw [h]
  simp only
  rw [if_neg (by omega), if_pos hc]
theorem xl_bad {s : Bs} {i k : Nat} (h : srcC s i = some k) (hc : bt s i = 92) (he : escS (s.drop (i + 1)) = none) : xl s i = none := by
  unfold xl xlF
  rw [h]
  simp only
  rw [if_neg (by omega), if_neg (by omega), if_pos hc, he]
theorem xl_esc {s : Bs} {i k : Nat} {t r : Bs} (h : srcC s i = some k) (hc : bt s i = 92) (he : escS (s.drop (i + 1)) = some (t, r)) : xl s i = (xl s (s.length - r.length)).map fun q => (t ++ q.1, q.2) := by
  have h4 := (escS_facts he).2.1
  rw [List.length_drop] at h4
  conv => lhs; unfold xl xlF
  rw [h]
  simp only
  rw [if_neg (by omega), if_neg (by omega), if_pos hc, he]
  simp only
  unfold xl
  rw [xlF_fuel s _ (s.length - (s.length - r.length) + 1) (s.length - r.length) (by omega) (by omega)]
theorem xl_raw {s : Bs} {i k : Nat} (h : srcC s i = some k) (h1 : bt s i ≠ 10) (h2 : bt s i ≠ 13) (h3 : bt s i ≠ 34) (h4 : bt s i ≠ 92) : xl s i = (xl s (i + k)).map fun q => ((s.drop i).take k ++ q.1, q.2) := by
  have hH := h
  rw [srcC_H] at hH
  obtain ⟨k1, k2, _, _⟩ := srcH_facts hH
  rw [List.length_drop] at k2
  conv => lhs; unfold xl xlF
  rw [h]
  simp only
  rw [if_neg (by omega), if_neg h3, if_neg h4]
  unfold xl
  rw [xlF_fuel s _ (s.length - (i + k) + 1) (i + k) (by omega) (by omega)]
/-- A character below 128 is its byte. -/
theorem stc_bt {s : Bs} {i k : Nat} (h : srcC s i = some k) (v : Int) (hv : v < 128) : stC ⟨s.toArray⟩ i = v ↔ bt s i = v := by
  have hH := h
  rw [srcC_H] at hH
  have hp : i < s.length := by
    unfold srcC at h
    split at h
    · rename_i hc; exact hc.1
    · cases h
  have hd := dec_drop ⟨s.toArray⟩ i 0 (by rw [mk_size]; omega)
  have e : (ByteArray.mk s.toArray).extract i (ByteArray.mk s.toArray).size = ⟨(s.drop i).toArray⟩ := by
    rw [mk_size]
    apply ByteArray.ext; apply Array.toList_inj.1
    simp
    exact List.take_of_length_le (by simp)
  rw [e, Nat.add_zero] at hd
  obtain ⟨e1, _⟩ := stC_eq hd
  rw [← e1]
  obtain ⟨k1, k2, _, _⟩ := srcH_facts hH
  rcases srcH_bytes hH with ⟨c, r, hl, hc, _, hst⟩ | ⟨hbig, hall⟩
  · rw [hst, bt_drop s i c r hl]
  · have : 128 ≤ bt s i := by
      cases hl : s.drop i with
      | nil => rw [hl] at k2; simp at k2; omega
      | cons c r =>
        rw [bt_drop s i c r hl]
        have := hall c (by
          rw [hl]
          obtain ⟨j, rfl⟩ : ∃ j, k = j + 1 := ⟨k - 1, by omega⟩
          exact List.mem_cons_self)
        omega
    omega
theorem owns_belowX {W W' : World} {B e sz n : Nat} {v : Value} {xs : List Value} (h : W.ownsRow B e sz v n xs) (hb : Below W.heap.size W W') : W'.ownsRow B e sz v n xs := by
  refine ⟨h.1, ?_⟩
  rcases h.2 with h2 | ⟨g, cap, cur, hv, hg, hh, r⟩
  · exact Or.inl h2
  · exact Or.inr ⟨g, cap, cur, hv, hg, (hb.block g (lt_of_block hh)).trans hh, r⟩
theorem own_nobX (w : World) : Bytes (w.alloc (.cells #[] 5)) w.heap.size (.slice (some ⟨w.heap.size, 0, none⟩) 0 0) [] :=
  ⟨rfl, Or.inr ⟨w.heap.size, 0, #[], rfl, Nat.le_refl _, heap_alloc_new _ _, Nat.le_refl _, Nat.zero_le _, rfl, rfl⟩⟩
theorem not_noneX {w : World} {B e n : Nat} {v : Value} {xs : List Value} (h : w.ownsRow B e 1 v n xs) (hn : v ≠ .slice none 0 0) : ∃ g cap, v = .slice (some ⟨g, 0, none⟩) n cap := by
  rcases h.2 with ⟨h1, _⟩ | ⟨g, cap, cur, h1, _⟩
  · exact absurd h1 hn
  · exact ⟨g, cap, h1⟩
/-- The loop's state: what was read so far. -/
structure TL (f : Nat → Option (Bs × Nat)) (s : Bs) (p0 : Nat) (w wr : World) (j : Nat) (b : Value) (acc : Bs) : Prop where
  row : Bytes wr w.heap.size b acc
  le : acc.length ≤ 4 * j
  jle : j ≤ s.length
  nn : b ≠ .slice none 0 0
  bel : Below w.heap.size w wr
  res : f p0 = (f j).map fun q => (acc ++ q.1, q.2)
theorem map_nil (o : Option (Bs × Nat)) : o = o.map fun q => ([] ++ q.1, q.2) := by cases o <;> simp
theorem map_map (o : Option (Bs × Nat)) (a b : Bs) : ((o.map fun q => (b ++ q.1, q.2)).map fun q => (a ++ q.1, q.2)) = o.map fun q => ((a ++ b) ++ q.1, q.2) := by cases o <;> simp
/-- Bytes more. -/
theorem grow_bytes {w2 : World} {B : Nat} {acc t : Bs} {vb : Value} {TB : ByteArray} (ht : ByteArray.mk t.toArray = TB) (h : w2.ownsRow B 5 1 vb (acc.length + TB.size) (Lib.byteCells acc ++ Lib.strCells TB)) : Bytes w2 B vb (acc ++ t) := by
  subst ht
  unfold Bytes
  rw [cells_app, List.length_append, ← strCells_eq t]
  rw [mk_size] at h
  exact h

set_option maxRecDepth 100000 in
set_option maxHeartbeats 2000000 in
theorem xtext_any (Q : Ending → Prop) (s : Bs) (p : Nat) (hp : p < s.length) (hs : s.length ≤ 16384) (hyes : ∀ t e, xl s (p + 1) = some (t, e) → Q (.returned (.tuple #[.string ⟨t.toArray⟩, .int .i64 (e : Int), .bool true]))) (hno : xl s (p + 1) = none → ∀ a b, Q (.returned (.tuple #[.string a, .int .i64 b, .bool false]))) (w : World) :
    Calls Tryz.prog 71 #[.string ⟨s.toArray⟩, .int .i64 (p : Int)] w fun e w' => Q e ∧ Below w.heap.size w w' := by
  obtain ⟨i1, hi1, hy0, hy1, hy2⟩ := info_parts Tryz.infoByte
  have HY : Hid (∀ t e, xl s (p + 1) = some (t, e) → Q (.returned (.tuple #[.string ⟨t.toArray⟩, .int .i64 (e : Int), .bool true]))) := hyes
  have HN : Hid (xl s (p + 1) = none → ∀ a b, Q (.returned (.tuple #[.string a, .int .i64 b, .bool false]))) := hno
  have hD : (ByteArray.mk s.toArray).size = s.length := rfl
  clear hyes hno
  generalize hDD : (ByteArray.mk s.toArray) = D at *
  have HD : Hid ((ByteArray.mk s.toArray) = D) := hDD
  clear hDD
  go_enter Tryz.func71, Tryz.ntmps71
  go_wp2
  go_loopw [1, 7] (fun i b wr => ∃ (j : Nat) (vb : Value) (acc : Bs), i = .int .i64 (j : Int) ∧ b = vb ∧ TL (xl s) s (p + 1) w wr j vb acc) (fun i _ _ => s.length - (RowKit.intOf i).toNat)
  case atStart => exact ⟨p + 1, _, [], rfl, rfl, own_nobX w, by simp, by omega, by simp, (Below.refl _ _).alloc (Nat.le_refl _) _, map_nil _⟩
  case round =>
    obtain ⟨j, vb, acc, rfl, rfl, hT⟩ := hrel
    obtain ⟨hob, hle, hj, hnn, hbr, hres⟩ := hT
    have HR : Hid (xl s (p + 1) = (xl s j).map fun q => (acc ++ q.1, q.2)) := hres
    clear hres
    cases hsc : srcC s j with
    | none =>
      have S : ∀ w, Calls Tryz.prog 64 #[.string D, .int .i64 (j : Int)] w fun e w' => e = .returned (.tuple #[.int .i64 0, .int .i64 0]) ∧ Below w.heap.size w w' := fun w => by
        have := source_no s j hs hsc w
        rw [HD.out] at this
        exact this
      have HX : Hid (xl s j = none) := xl_none hsc
      clear hsc
      go_wp2_with (first
        | (go_at_call 64; (with_reducible refine (S _).mono ?_); rintro e w1 ⟨rfl, hb1⟩; have hbr1 := hbr.trans (hb1.mono hbr.size); have hob1 := owns_belowX hob hb1)
        | fail)
      go_ret3
      exact ⟨HN.out (by rw [HR.out, HX.out]; rfl) _ _, hbr1⟩
    | some k =>
      have S : ∀ w, Calls Tryz.prog 64 #[.string D, .int .i64 (j : Int)] w fun e w' => e = .returned (.tuple #[.int .i64 (stC ⟨s.toArray⟩ j), .int .i64 (k : Int)]) ∧ Below w.heap.size w w' := fun w => by
        have := source_yes s j k hs hsc w
        rw [HD.out] at this ⊢
        exact this
      have hH := hsc
      rw [srcC_H] at hH
      obtain ⟨k1, k2, _, _⟩ := srcH_facts hH
      rw [List.length_drop] at k2
      have x0 : ((k : Int) == 0) = false := by simp; omega
      have x00 : (k == 0) = false := by simp; omega
      obtain ⟨g9, cap9, rfl⟩ := not_noneX hob hnn
      by_cases c1 : bt s j = 10
      · rw [(stc_bt hsc 10 (by decide)).2 c1] at S
        have HX : Hid (xl s j = none) := xl_end hsc (Or.inl c1)
        clear hsc hH c1
        go_wp2_with (first
          | (go_at_call 64; (with_reducible refine (S _).mono ?_); rintro e w1 ⟨rfl, hb1⟩; have hbr1 := hbr.trans (hb1.mono hbr.size); have hob1 := owns_belowX hob hb1)
          | fail)
        go_ret3
        exact ⟨HN.out (by rw [HR.out, HX.out]; rfl) _ _, hbr1⟩
      by_cases c2 : bt s j = 13
      · rw [(stc_bt hsc 13 (by decide)).2 c2] at S
        have HX : Hid (xl s j = none) := xl_end hsc (Or.inr c2)
        clear hsc hH c2
        go_wp2_with (first
          | (go_at_call 64; (with_reducible refine (S _).mono ?_); rintro e w1 ⟨rfl, hb1⟩; have hbr1 := hbr.trans (hb1.mono hbr.size); have hob1 := owns_belowX hob hb1)
          | fail)
        go_ret3
        exact ⟨HN.out (by rw [HR.out, HX.out]; rfl) _ _, hbr1⟩
      by_cases c3 : bt s j = 34
      · rw [(stc_bt hsc 34 (by decide)).2 c3] at S
        have HX : Hid (xl s j = some ([], j + 1)) := xl_stop hsc c3
        have hcv : ∀ W', Below wr.heap.size wr W' → (convert 37 9 (.slice (some ⟨g9, 0, none⟩) acc.length cap9)).run Tryz.prog W' = .ok (.string ⟨acc.toArray⟩) W' := fun W' hb => conv_row (owns_belowX hob hb)
        clear hsc hH c3
        generalize hAB : (ByteArray.mk acc.toArray) = AB at *
        have HAB : Hid ((ByteArray.mk acc.toArray) = AB) := hAB
        clear hAB
        go_wp2_with (first
          | (go_at_call 64; (with_reducible refine (S _).mono ?_); rintro e w1 ⟨rfl, hb1⟩; have hbr1 := hbr.trans (hb1.mono hbr.size); have hcv1 := hcv _ hb1)
          | fail)
        go_ret3
        have hy := HY.out acc (j + 1) (by rw [HR.out, HX.out]; simp)
        rw [HAB.out] at hy
        exact ⟨hy, hbr1⟩
      by_cases c4 : bt s j = 92
      · rw [(stc_bt hsc 92 (by decide)).2 c4] at S
        cases he : escS (s.drop (j + 1)) with
        | none =>
          have E : ∀ w, Calls Tryz.prog 103 #[.string D, .int .i64 ((j : Int) + 1)] w fun e w' => (∃ a b, e = .returned (.tuple #[.string a, .int .i64 b, .bool false])) ∧ Below w.heap.size w w' := fun w => by
            have := escape_any s (j + 1) hs w
            rw [HD.out, he] at this
            exact this
          have HX : Hid (xl s j = none) := xl_bad hsc c4 he
          clear hsc hH c4 he
          go_wp2_with (first
            | (go_at_call 103; (with_reducible refine (E _).mono ?_); rintro e w2 ⟨⟨a2, b2, rfl⟩, hb2⟩; have hbr2 := hbr1.trans (hb2.mono hbr1.size))
            | (go_at_call 64; (with_reducible refine (S _).mono ?_); rintro e w1 ⟨rfl, hb1⟩; have hbr1 := hbr.trans (hb1.mono hbr.size))
            | fail)
          go_ret3
          exact ⟨HN.out (by rw [HR.out, HX.out]; rfl) _ _, hbr2⟩
        | some pr =>
          obtain ⟨t, r⟩ := pr
          have E : ∀ w, Calls Tryz.prog 103 #[.string D, .int .i64 ((j : Int) + 1)] w fun e w' => e = .returned (.tuple #[.string ⟨t.toArray⟩, .int .i64 ((s.length - r.length : Nat) : Int), .bool true]) ∧ Below w.heap.size w w' := fun w => by
            have := escape_any s (j + 1) hs w
            rw [HD.out, he] at this
            exact this
          have h5 := escS_facts he
          rw [List.length_drop] at h5
          have HX : Hid (xl s j = (xl s (s.length - r.length)).map fun q => (t ++ q.1, q.2)) := xl_esc hsc c4 he
          have htl : (ByteArray.mk t.toArray).size ≤ 4 := by rw [mk_size]; exact h5.1
          have hJ1 : j + 2 ≤ s.length - r.length := by omega
          have hJ2 : s.length - r.length ≤ s.length := by omega
          have HTl : Hid (t.length ≤ 4) := h5.1
          clear hsc hH c4 he h5
          generalize hTB : (ByteArray.mk t.toArray) = TB at *
          have HTB : Hid ((ByteArray.mk t.toArray) = TB) := hTB
          clear hTB
          generalize s.length - r.length = J at *
          have ht4 := HTl.out
          go_wp2_with (first
            | (at_builtin; refine Lib.wpList_append_own_string _ rfl _ _ 37 9 rfl w.heap.size 5 i1 Tryz.underlying37 Tryz.underlying9 hi1 hy0 hy1 hy2 _ _ _ rfl hobA TB rfl ?d1 ?d2 ?d3 ?_)
            | (go_at_call 103; (with_reducible refine (E _).mono ?_); rintro e w2 ⟨rfl, hb2⟩; have hbrA := hbr1.trans (hb2.mono hbr1.size); have hobA := owns_belowX hob1 hb2)
            | (go_at_call 64; (with_reducible refine (S _).mono ?_); rintro e w1 ⟨rfl, hb1⟩; have hbr1 := hbr.trans (hb1.mono hbr.size); have hob1 := owns_belowX hob hb1)
            | fail)
          case d1 => unfold maxLen; omega
          case d2 => omega
          case d3 => exact hbrA.size
          intro vb2 w4 hob4 hg4 hnil4
          have hbr4 : Below w.heap.size w w4 := hbrA.grown hg4 hbrA.size (own_ge hobA)
          have hnn4 : vb2 ≠ .slice none 0 0 := by first | exact fun e => hnn (hnil4.1 e).1 | exact hnil4
          have HG : Hid (Bytes w4 w.heap.size vb2 (acc ++ t)) := grow_bytes HTB.out hob4
          clear hob4 hg4 hnil4 hobA
          go_wp2
          refine ⟨⟨J, vb2, acc ++ t, rfl, rfl, HG.out, by rw [List.length_append]; omega, by omega, hnn4, hbr4, ?_⟩, ?_⟩
          · rw [HR.out, HX.out, map_map]
          · simp [RowKit.intOf]
            omega
      · have S2 := S
        have y1 : (stC ⟨s.toArray⟩ j == 10) = false := by simpa using fun e => c1 ((stc_bt hsc 10 (by decide)).1 e)
        have y2 : (stC ⟨s.toArray⟩ j == 13) = false := by simpa using fun e => c2 ((stc_bt hsc 13 (by decide)).1 e)
        have y3 : (stC ⟨s.toArray⟩ j == 34) = false := by simpa using fun e => c3 ((stc_bt hsc 34 (by decide)).1 e)
        have y4 : (stC ⟨s.toArray⟩ j == 92) = false := by simpa using fun e => c4 ((stc_bt hsc 92 (by decide)).1 e)
        have HX : Hid (xl s j = (xl s (j + k)).map fun q => ((s.drop j).take k ++ q.1, q.2)) := xl_raw hsc c1 c2 c3 c4
        have hx := ext_mk s j k
        rw [HD.out] at hx
        have hxl : (ByteArray.mk ((s.drop j).take k).toArray).size = k := by rw [mk_size, List.length_take, List.length_drop]; omega
        have hxl2 : ((s.drop j).take k).length = k := by rw [List.length_take, List.length_drop]; omega
        have f1 : (j : Int) + (k : Int) ≤ (s.length : Int) := by omega
        have f2 : (j : Int) ≤ (j : Int) + (k : Int) := by omega
        have f3 : j + k ≤ s.length := by omega
        have f4 : (0 : Int) ≤ (j : Int) + (k : Int) := by omega
        clear hsc hH c1 c2 c3 c4 S
        generalize stC ⟨s.toArray⟩ j = c at *
        have S := S2
        clear S2
        generalize (s.drop j).take k = x at *
        have HTB : Hid ((ByteArray.mk x.toArray) = D.extract j (j + k)) := hx.symm
        have hxs : (D.extract j (j + k)).size = k := by rw [hx]; exact hxl
        clear hx hxl
        go_wp2_with (first
          | (at_builtin; refine Lib.wpList_append_own_string _ rfl _ _ 37 9 rfl w.heap.size 5 i1 Tryz.underlying37 Tryz.underlying9 hi1 hy0 hy1 hy2 _ _ _ rfl hobA (D.extract j (j + k)) rfl ?d1 ?d2 ?d3 ?_)
          | (go_at_call 64; (with_reducible refine (S _).mono ?_); rintro e w1 ⟨rfl, hb1⟩; have hbrA := hbr.trans (hb1.mono hbr.size); have hobA := owns_belowX hob hb1)
          | fail)
        case d1 => unfold maxLen; omega
        case d2 => omega
        case d3 => exact hbrA.size
        intro vb2 w4 hob4 hg4 hnil4
        have hbr4 : Below w.heap.size w w4 := hbrA.grown hg4 hbrA.size (own_ge hobA)
        have hnn4 : vb2 ≠ .slice none 0 0 := by first | exact fun e => hnn (hnil4.1 e).1 | exact hnil4
        have HG : Hid (Bytes w4 w.heap.size vb2 (acc ++ x)) := grow_bytes HTB.out (by rw [hxs]; exact hob4)
        clear hob4 hg4 hnil4 hobA
        go_wp2
        refine ⟨⟨j + k, vb2, acc ++ x, congrArg (Value.int .i64) (by omega), rfl, HG.out, by rw [List.length_append]; omega, by omega, hnn4, hbr4, ?_⟩, ?_⟩
        · rw [HR.out, HX.out, map_map]
        · simp [RowKit.intOf]
          omega
end Go.Proofs.YthficamlgngaaaaGreatDoor
