/- The document's own skip. -/
import Derived.Test.YthficamlgngaaaaGreatDoorXrB
namespace Go.Proofs.YthficamlgngaaaaGreatDoor
open Go Go.RowKit
attribute [local irreducible] srcB

/-- A comment's bytes at a place, and what is behind them. -/
structure LineAt (s : Bs) (j : Nat) (L rest : Bs) : Prop where
  cut : s.drop j = L ++ rest
  head : ∃ body, L = 35 :: body
  none : ∀ c ∈ L, endL.contains c = false
  stop : ∀ c m, rest = c :: m → endL.contains c = true
theorem line_of {s : Bs} {j : Nat} {m : Bs} (h : s.drop j = 35 :: m) : ∃ L rest, LineAt s j L rest := by
  obtain ⟨p, h1, h2, h3⟩ := spanN_all endL m
  refine ⟨35 :: p, spanN endL m, ?_, ⟨p, rfl⟩, ?_, h3⟩
  · rw [h, List.cons_append, ← h1]
  · intro c hc
    rcases List.mem_cons.1 hc with rfl | hc
    · rfl
    · exact h2 c hc
theorem line_same {s : Bs} {j : Nat} {L rest : Bs} (h : LineAt s j L rest) (o : Nat) (ho : o < L.length) : srcC s (j + o) = srcC L o := by
  have e : s.drop (j + o) = L.drop o ++ rest := by
    rw [← List.drop_drop, h.cut, drop_app1 o (by omega)]
  rw [srcC_H, srcC_H, e]
  cases hs : srcH (L.drop o) with
  | some k => exact srcH_ext rest hs
  | none =>
    cases hs2 : srcH (L.drop o ++ rest) with
    | none => rfl
    | some k =>
      exfalso
      have hk : k ≤ (L.drop o).length := by
        obtain ⟨k1, k2, _, _⟩ := srcH_facts hs2
        rcases srcH_bytes hs2 with ⟨c, r, _, _, rfl, _⟩ | ⟨_, hbig⟩
        · rw [List.length_drop]; omega
        · rcases Nat.lt_or_ge (L.drop o).length k with hlt | hge
          · exfalso
            cases hr : rest with
            | nil =>
              rw [hr, List.append_nil] at k2
              omega
            | cons c m =>
              have hc := h.stop c m hr
              have hm : c ∈ (L.drop o ++ rest).take k := by
                rw [hr, List.take_append]
                refine List.mem_append_right _ ?_
                obtain ⟨q, hq⟩ : ∃ q, k - (L.drop o).length = q + 1 := ⟨k - (L.drop o).length - 1, by omega⟩
                rw [hq]
                exact List.mem_cons_self
              have := hbig c hm
              have hc2 : c = 10 ∨ c = 13 := by simpa [endL] using hc
              rcases hc2 with rfl | rfl
              · exact absurd this (by decide)
              · exact absurd this (by decide)
          · exact hge
      rw [srcH_pre hs2 hk] at hs
      cases hs
theorem sF_some {L : Bs} {o k : Nat} (h : srcC L o = some k) : sF ⟨L.toArray⟩ o = sF ⟨L.toArray⟩ (o + k) := by
  unfold srcC at h
  split at h
  · rename_i hc
    have hk : stW ⟨L.toArray⟩ o = k := by simpa using h
    rw [sF_step _ _ (by rw [mk_size]; exact hc.1), if_pos hc.2, hk]
  · cases h
theorem sF_bad {L : Bs} {o : Nat} (ho : o < L.length) (h : srcC L o = none) : sF ⟨L.toArray⟩ o = ((o : Int), 10) := by
  unfold srcC at h
  split at h
  · cases h
  · rename_i hc
    rw [sF_step _ _ (by rw [mk_size]; exact ho), if_neg (fun e => hc ⟨ho, e⟩)]
theorem com_end {s : Bs} {j : Nat} {L rest : Bs} (h : LineAt s j L rest) (hs : sF ⟨L.toArray⟩ 0 = sF ⟨L.toArray⟩ L.length) : skipS (s.drop j) = skipS rest := by
  obtain ⟨body, hb⟩ := h.head
  have hn : srcB L = none := by
    rw [src_iff, hs]
    exact sF_end _ _ (by rw [mk_size]; omega)
  rw [h.cut]
  have hb1 : ∀ c ∈ body, endL.contains c = false := fun c hc => h.none c (by rw [hb]; exact List.mem_cons_of_mem _ hc)
  have := com_make hb1 h.stop (by rw [← hb]; exact hn)
  rw [hb]
  exact skip_com this
theorem com_bad {s : Bs} {j o : Nat} {L rest : Bs} (h : LineAt s j L rest) (hs : sF ⟨L.toArray⟩ 0 = ((o : Int), 10)) : skipS (s.drop j) = .inr ((s.drop j).length - o) := by
  obtain ⟨body, hb⟩ := h.head
  have hn : srcB L = some o := by
    have h' : sourceS ⟨L.toArray⟩ = ((o : Int), 10) := hs
    unfold srcB
    rw [h']
    rfl
  have hc : comS (s.drop j) = some (.inr o) := by
    rw [h.cut, hb]
    have hb1 : ∀ c ∈ body, endL.contains c = false := fun c hc => h.none c (by rw [hb]; exact List.mem_cons_of_mem _ hc)
    have e : spanN endL (body ++ rest) = rest := by
      rw [spanN_app endL body rest hb1]
      cases hr : rest with
      | nil => rfl
      | cons c m => exact spanN_stop endL c m (h.stop c m hr)
    unfold comS
    rw [if_pos (by rfl)]
    simp only [List.cons_append, List.drop_succ_cons, List.drop_zero]
    rw [e, show ahead (35 :: (body ++ rest)) rest = 35 :: body from ahead_app (35 :: body) rest, ← hb, hn]
  exact skip_bad hc

set_option maxRecDepth 100000 in
set_option maxHeartbeats 2000000 in
theorem xskip_any (Q : Ending → Prop) (s : Bs) (p : Nat) (hp : p ≤ s.length) (hs : s.length ≤ 16384) (hyes : ∀ m, skipS (s.drop p) = .inl m → Q (.returned (.tuple #[.int .i64 ((s.length - m.length : Nat) : Int), .bool true]))) (hno : ∀ k, skipS (s.drop p) = .inr k → Q (.returned (.tuple #[.int .i64 ((s.length - k : Nat) : Int), .bool false]))) (w : World) :
    Calls Tryz.prog 38 #[.string ⟨s.toArray⟩, .int .i64 (p : Int)] w fun e w' => Q e ∧ Below w.heap.size w w' := by
  have HY : Hid (∀ m, skipS (s.drop p) = .inl m → Q (.returned (.tuple #[.int .i64 ((s.length - m.length : Nat) : Int), .bool true]))) := hyes
  have HN : Hid (∀ k, skipS (s.drop p) = .inr k → Q (.returned (.tuple #[.int .i64 ((s.length - k : Nat) : Int), .bool false]))) := hno
  have hD : (ByteArray.mk s.toArray).size = s.length := rfl
  have ix : ∀ (q : Nat) (hh : q < (ByteArray.mk s.toArray).size), (((ByteArray.mk s.toArray)[q]'hh).toNat : Int) = bt s q := fun q hh => by
    unfold bt
    have e : (ByteArray.mk s.toArray)[q]'hh = s.getD q 0 := by
      show s.toArray[q]'hh = _
      have : q < s.length := hh
      simp [List.getD, this]
    rw [e]
  clear hyes hno
  generalize hDD : (ByteArray.mk s.toArray) = D at *
  have HD : Hid ((ByteArray.mk s.toArray) = D) := hDD
  clear hDD
  go_enter Tryz.func38, Tryz.ntmps38
  go_wp2
  go_loopw [1] (fun i wr => ∃ (j : Nat), i = .int .i64 (j : Int) ∧ j ≤ s.length ∧ skipS (s.drop j) = skipS (s.drop p) ∧ Below w.heap.size w wr) (fun i _ => s.length - (RowKit.intOf i).toNat)
  case atStart => exact ⟨p, rfl, hp, rfl, Below.refl _ _⟩
  case round =>
    obtain ⟨j, rfl, hj, hsk, hbr⟩ := hrel
    by_cases hlt : j < s.length
    · have hltI : (j : Int) < (s.length : Int) := by omega
      have i0 := ix j
      cases hl : s.drop j with
      | nil =>
        exfalso
        have := congrArg List.length hl
        rw [List.length_drop] at this
        simp at this
        omega
      | cons x r =>
        have hb := bt_drop s j x r hl
        have hr : s.drop (j + 1) = r := by
          have := congrArg (List.drop 1) hl
          rw [List.drop_drop] at this
          exact this
        rw [hl] at hsk
        by_cases hig : ignL.contains x = true
        · have HSk : Hid (skipS (s.drop (j + 1)) = skipS (s.drop p)) := by
            show _ = _
            rw [hr, ← hsk, skip_one hig]
          have hx : x = 9 ∨ x = 32 ∨ x = 10 ∨ x = 13 ∨ x = 44 := by simpa [ignL] using hig
          clear hsk hig hr
          have hdec := hb
          rcases hx with rfl | rfl | rfl | rfl | rfl
          · rw [show (((9 : UInt8).toNat : Nat) : Int) = 9 from rfl] at hb
            clear hl hdec i0
            go_wp2_with fail
            refine ⟨⟨j + 1, congrArg (Value.int .i64) (by omega), by omega, HSk.out, hbr⟩, ?_⟩
            simp [RowKit.intOf]
            omega
          · rw [show (((32 : UInt8).toNat : Nat) : Int) = 32 from rfl] at hb
            clear hl hdec i0
            go_wp2_with fail
            refine ⟨⟨j + 1, congrArg (Value.int .i64) (by omega), by omega, HSk.out, hbr⟩, ?_⟩
            simp [RowKit.intOf]
            omega
          · rw [show (((10 : UInt8).toNat : Nat) : Int) = 10 from rfl] at hb
            clear hl hdec i0
            go_wp2_with fail
            refine ⟨⟨j + 1, congrArg (Value.int .i64) (by omega), by omega, HSk.out, hbr⟩, ?_⟩
            simp [RowKit.intOf]
            omega
          · rw [show (((13 : UInt8).toNat : Nat) : Int) = 13 from rfl] at hb
            clear hl hdec i0
            go_wp2_with fail
            refine ⟨⟨j + 1, congrArg (Value.int .i64) (by omega), by omega, HSk.out, hbr⟩, ?_⟩
            simp [RowKit.intOf]
            omega
          · rw [show (((44 : UInt8).toNat : Nat) : Int) = 44 from rfl] at hb
            clear hl hdec i0
            go_wp2_with fail
            refine ⟨⟨j + 1, congrArg (Value.int .i64) (by omega), by omega, HSk.out, hbr⟩, ?_⟩
            simp [RowKit.intOf]
            omega
        · have hne : ∀ v : UInt8, ignL.contains v = true → bt s j ≠ (v.toNat : Int) := fun v hv e => by
            rw [hb] at e
            have : x = v := by apply UInt8.toNat_inj.1; omega
            rw [this] at hig
            exact hig hv
          have n9 : (bt s j == 9) = false := by simpa using hne 9 rfl
          have n32 : (bt s j == 32) = false := by simpa using hne 32 rfl
          have n10 : (bt s j == 10) = false := by simpa using hne 10 rfl
          have n13 : (bt s j == 13) = false := by simpa using hne 13 rfl
          have n44 : (bt s j == 44) = false := by simpa using hne 44 rfl
          have BB : ∀ w : World, Calls Tryz.prog 63 #[.string D, .int .i64 (j : Int), .string ⟨#[239, 187, 191]⟩] w fun e w' => e = .returned (.bool (List.isPrefixOf [239, 187, 191] (x :: r))) ∧ w = w' := fun w => by
            have := begins_any s j hj hs [239, 187, 191] (by decide) w
            rw [HD.out, hl] at this
            exact this.mono fun _ _ h => ⟨h.1, h.2.symm⟩
          cases hbom : List.isPrefixOf [239, 187, 191] (x :: r) with
          | true =>
            rw [hbom] at BB
            obtain ⟨m, hm⟩ := List.isPrefixOf_iff_prefix.1 hbom
            have hm2 : x :: r = 239 :: 187 :: 191 :: m := hm.symm
            have h3 : s.drop (j + 3) = m := by
              rw [← List.drop_drop, hl, hm2]
              rfl
            have h3l : j + 3 ≤ s.length := by
              have := congrArg List.length (hl.trans hm2)
              rw [List.length_drop] at this
              simp at this
              omega
            have HSk : Hid (skipS (s.drop (j + 3)) = skipS (s.drop p)) := by
              show _ = _
              rw [h3, ← hsk, hm2, skip_bom]
            clear hsk hig hr hb hl hne hbom hm hm2 h3
            go_wp2_with (first
              | (go_at_call 63; (with_reducible refine (BB _).mono ?_); rintro e w0 ⟨rfl, rfl⟩)
              | fail)
            refine ⟨⟨j + 3, congrArg (Value.int .i64) (by omega), by omega, HSk.out, hbr⟩, ?_⟩
            simp [RowKit.intOf]
            omega
          | false =>
            rw [hbom] at BB
            by_cases h35 : x = 35
            · subst h35
              have hb35 : bt s j = 35 := hb
              obtain ⟨L, rest, hLA⟩ := line_of hl
              have hLl : j + L.length + rest.length = s.length := by
                have := congrArg List.length hLA.cut
                rw [List.length_drop, List.length_append] at this
                omega
              have hL1 : 1 ≤ L.length := by
                obtain ⟨body, hbd⟩ := hLA.head
                rw [hbd]
                simp
              have HL : Hid (LineAt s j L rest) := hLA
              have HSk : Hid (skipS (s.drop j) = skipS (s.drop p)) := by
                show _ = _
                rw [hl]
                exact hsk
              have hjb : ∀ o, o < L.length → bt s (j + o) ≠ 10 ∧ bt s (j + o) ≠ 13 := by
                intro o ho
                have e : s.getD (j + o) 0 = L.getD o 0 := by
                  rw [← drop_get s j o, hLA.cut]
                  simp [List.getD, List.getElem?_append_left ho]
                have hm : L.getD o 0 ∈ L := by
                  simp [List.getD, ho]
                have hn := hLA.none _ hm
                have e2 : bt s (j + o) = ((L.getD o 0).toNat : Int) := by unfold bt; rw [e]
                rw [e2]
                constructor
                · intro h
                  have : L.getD o 0 = 10 := by apply UInt8.toNat_inj.1; show _ = 10; omega
                  rw [this] at hn
                  cases hn
                · intro h
                  have : L.getD o 0 = 13 := by apply UInt8.toNat_inj.1; show _ = 13; omega
                  rw [this] at hn
                  cases hn
              have hje : j + L.length < s.length → bt s (j + L.length) = 10 ∨ bt s (j + L.length) = 13 := by
                intro h
                cases hr2 : rest with
                | nil => rw [hr2] at hLl; simp at hLl; omega
                | cons c m =>
                  have hst := hLA.stop c m hr2
                  have e : s.drop (j + L.length) = c :: m := by
                    rw [← List.drop_drop, hLA.cut, List.drop_left' rfl, hr2]
                  rw [bt_drop s _ c m e]
                  have : c = 10 ∨ c = 13 := by simpa [endL] using hst
                  rcases this with rfl | rfl
                  · left; rfl
                  · right; rfl
              clear hsk hig hr hb hl hne hbom n9 n32 n10 n13 n44 hLA i0
              go_wp2_with (first
                | (go_at_call 63; (with_reducible refine (BB _).mono ?_); rintro e w0 ⟨rfl, rfl⟩)
                | fail)
              generalize wr = wB at *
              go_loopw [1] (fun i wr => ∃ (o : Nat), i = .int .i64 ((j + o : Nat) : Int) ∧ o ≤ L.length ∧ sF ⟨L.toArray⟩ 0 = sF ⟨L.toArray⟩ o ∧ Below w.heap.size w wr) (fun i _ => s.length - (RowKit.intOf i).toNat)
              case atStart => exact ⟨0, rfl, by omega, rfl, hbr⟩
              case round =>
                obtain ⟨o, rfl, ho, hsf, hbr2⟩ := hrel
                have hcast : ((j + o : Nat) : Int) = (j : Int) + (o : Int) := by omega
                by_cases hol : o < L.length
                · have hlt2 : j + o < s.length := by omega
                  have hlt3 : ((j + o : Nat) : Int) < (s.length : Int) := by omega
                  obtain ⟨g1, g2⟩ := hjb o hol
                  have n1 : (bt s (j + o) != 10) = true := by simpa using g1
                  have n2 : (bt s (j + o) != 13) = true := by simpa using g2
                  have i1 := ix (j + o)
                  have hsame := line_same HL.out o hol
                  cases hsc : srcC s (j + o) with
                  | none =>
                    have S : ∀ w, Calls Tryz.prog 64 #[.string D, .int .i64 ((j + o : Nat) : Int)] w fun e w' => e = .returned (.tuple #[.int .i64 0, .int .i64 0]) ∧ Below w.heap.size w w' := fun w => by
                      have := source_no s (j + o) hs hsc w
                      rw [HD.out] at this
                      exact this
                    have HX : Hid (skipS (s.drop p) = .inr ((s.drop j).length - o)) := by
                      show _ = _
                      rw [← HSk.out]
                      exact com_bad HL.out (hsf.trans (sF_bad hol (hsame.symm.trans hsc)))
                    clear hsc hsame hjb hje hsf g1 g2 hcast
                    generalize hJ : j + o = J at *
                    have HJ : Hid (j + o = J) := hJ
                    clear hJ
                    go_wp2_with (first
                      | (go_at_call 64; (with_reducible refine (S _).mono ?_); rintro e w3 ⟨rfl, hb3⟩; have hbr3 := hbr2.trans (hb3.mono hbr2.size))
                      | fail)
                    go_ret2
                    have hn := HN.out _ HX.out
                    rw [List.length_drop, show s.length - (s.length - j - o) = J by have := HJ.out; omega] at hn
                    exact ⟨hn, hbr3⟩
                  | some k =>
                    have S : ∀ w, Calls Tryz.prog 64 #[.string D, .int .i64 ((j + o : Nat) : Int)] w fun e w' => e = .returned (.tuple #[.int .i64 (stC ⟨s.toArray⟩ (j + o)), .int .i64 (k : Int)]) ∧ Below w.heap.size w w' := fun w => by
                      have := source_yes s (j + o) k hs hsc w
                      rw [HD.out] at this ⊢
                      exact this
                    have hk := hsame.symm.trans hsc
                    have hH := hk
                    rw [srcC_H] at hH
                    obtain ⟨k1, k2, _, _⟩ := srcH_facts hH
                    rw [List.length_drop] at k2
                    have x0 : ((k : Int) == 0) = false := by simp; omega
                    have x00 : (k == 0) = false := by simp; omega
                    have HX : Hid (sF ⟨L.toArray⟩ 0 = sF ⟨L.toArray⟩ (o + k)) := hsf.trans (sF_some hk)
                    clear hsc hsame hjb hje hsf g1 g2 hcast hk hH
                    generalize stC ⟨s.toArray⟩ (j + o) = c2 at *
                    generalize hJ : j + o = J at *
                    have HJ : Hid (j + o = J) := hJ
                    clear hJ
                    go_wp2_with (first
                      | (go_at_call 64; (with_reducible refine (S _).mono ?_); rintro e w3 ⟨rfl, hb3⟩; have hbr3 := hbr2.trans (hb3.mono hbr2.size))
                      | fail)
                    have hJ2 := HJ.out
                    refine ⟨⟨o + k, congrArg (Value.int .i64) (by omega), by omega, HX.out, hbr3⟩, ?_⟩
                    simp [RowKit.intOf]
                    omega
                · obtain rfl : o = L.length := by omega
                  have HX : Hid (skipS (s.drop (j + L.length)) = skipS (s.drop p)) := by
                    show _ = _
                    have e : s.drop (j + L.length) = rest := by rw [← List.drop_drop, HL.out.cut, List.drop_left' rfl]
                    rw [e, ← com_end HL.out hsf]
                    exact HSk.out
                  have hJs : j + L.length ≤ s.length := by omega
                  have hJ1 : j + 1 ≤ j + L.length := by omega
                  by_cases hlt2 : j + L.length < s.length
                  · have hlt3 : ((j + L.length : Nat) : Int) < (s.length : Int) := by omega
                    have i1 := ix (j + L.length)
                    have he := hje hlt2
                    clear hjb hje hsf hcast
                    generalize j + L.length = J at *
                    rcases he with he | he
                    · go_wp2_with fail
                      refine ⟨⟨J, rfl, hJs, HX.out, hbr2⟩, ?_⟩
                      simp [RowKit.intOf]
                      omega
                    · go_wp2_with fail
                      refine ⟨⟨J, rfl, hJs, HX.out, hbr2⟩, ?_⟩
                      simp [RowKit.intOf]
                      omega
                  · have hlt3 : ¬ ((j + L.length : Nat) : Int) < (s.length : Int) := by omega
                    clear hjb hje hsf hcast
                    generalize j + L.length = J at *
                    go_wp2_with fail
                    refine ⟨⟨J, rfl, hJs, HX.out, hbr2⟩, ?_⟩
                    simp [RowKit.intOf]
                    omega
            · have n35 : (bt s j == 35) = false := by
                have : bt s j ≠ 35 := fun e => h35 (by rw [hb] at e; apply UInt8.toNat_inj.1; show _ = 35; omega)
                simpa using this
              have HX : Hid (skipS (s.drop p) = .inl (x :: r)) := by
                show _ = _
                rw [← hsk]
                have hc : comS (x :: r) = none := by
                  unfold comS
                  rw [if_neg (by simp [List.isPrefixOf]; exact fun e => h35 e.symm)]
                rw [skipS_com (l := x :: r) (Bool.eq_false_iff.2 hig) hbom, hc]
              have hlen : s.length - (x :: r).length = j := by
                have := congrArg List.length hl
                rw [List.length_drop] at this
                omega
              have HLn : Hid (s.length - (x :: r).length = j) := hlen
              clear hsk hig hr hb hl hne hbom hlen
              go_wp2_with (first
                | (go_at_call 63; (with_reducible refine (BB _).mono ?_); rintro e w0 ⟨rfl, rfl⟩)
                | fail)
              go_ret2
              have hy := HY.out _ HX.out
              rw [HLn.out] at hy
              exact ⟨hy, hbr⟩
    · have hltI : ¬ (j : Int) < (s.length : Int) := by omega
      have HX : Hid (skipS (s.drop p) = .inl []) := by
        show _ = _
        rw [← hsk, List.drop_eq_nil_of_le (by omega), skip_nil]
      have hlen : s.length - ([] : Bs).length = j := by simp; omega
      have HLn : Hid (s.length - ([] : Bs).length = j) := hlen
      clear hsk hlen
      go_wp2_with fail
      go_ret2
      have hy := HY.out _ HX.out
      rw [HLn.out] at hy
      exact ⟨hy, hbr⟩
end Go.Proofs.YthficamlgngaaaaGreatDoor
