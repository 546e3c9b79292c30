/- The document's own one: names. -/
import Derived.Test.YtebojfipdcicaaaGreatDoorXrB
namespace Go.Proofs.YtebojfipdcicaaaGreatDoor
open Go Go.RowKit
attribute [local irreducible] srcB

/-- A comment's bytes at a place, and what is behind them. -/
structure LineAt (s : Bs) (j : Nat) (L rest : Bs) : Prop where
  cut : s.drop j = L ++ rest
  head : ∃ body, L = 35 :: body
  none : ∀ c ∈ L, endL.contains c = false
  stop : ∀ c m, rest = c :: m → endL.contains c = true
theorem line_of {s : Bs} {j : Nat} {m : Bs} (h : s.drop j = 35 :: m) : ∃ L rest, LineAt s j L rest := by
  obtain ⟨p, h1, h2, h3⟩ := spanN_all endL m
  refine ⟨35 :: p, spanN endL m, ?_, ⟨p, rfl⟩, ?_, h3⟩
  · rw [h, List.cons_append, ← h1]
  · intro c hc
    rcases List.mem_cons.1 hc with rfl | hc
    · rfl
    · exact h2 c hc
theorem line_same {s : Bs} {j : Nat} {L rest : Bs} (h : LineAt s j L rest) (o : Nat) (ho : o < L.length) : srcC s (j + o) = srcC L o := by
  have e : s.drop (j + o) = L.drop o ++ rest := by
    rw [← List.drop_drop, h.cut, drop_app1 o (by omega)]
  rw [srcC_H, srcC_H, e]
  cases hs : srcH (L.drop o) with
  | some k => exact srcH_ext rest hs
  | none =>
    cases hs2 : srcH (L.drop o ++ rest) with
    | none => rfl
    | some k =>
      exfalso
      have hk : k ≤ (L.drop o).length := by
        obtain ⟨k1, k2, _, _⟩ := srcH_facts hs2
        rcases srcH_bytes hs2 with ⟨c, r, _, _, rfl, _⟩ | ⟨_, hbig⟩
        · rw [List.length_drop]; omega
        · rcases Nat.lt_or_ge (L.drop o).length k with hlt | hge
          · exfalso
            cases hr : rest with
            | nil =>
              rw [hr, List.append_nil] at k2
              omega
            | cons c m =>
              have hc := h.stop c m hr
              have hm : c ∈ (L.drop o ++ rest).take k := by
                rw [hr, List.take_append]
                refine List.mem_append_right _ ?_
                obtain ⟨q, hq⟩ : ∃ q, k - (L.drop o).length = q + 1 := ⟨k - (L.drop o).length - 1, by omega⟩
                rw [hq]
                exact List.mem_cons_self
              have := hbig c hm
              have hc2 : c = 10 ∨ c = 13 := by simpa [endL] using hc
              rcases hc2 with rfl | rfl
              · exact absurd this (by decide)
              · exact absurd this (by decide)
          · exact hge
      rw [srcH_pre hs2 hk] at hs
      cases hs
theorem sF_some {L : Bs} {o k : Nat} (h : srcC L o = some k) : sF ⟨L.toArray⟩ o = sF ⟨L.toArray⟩ (o + k) := by
  unfold srcC at h
  split at h
  · rename_i hc
    have hk : stW ⟨L.toArray⟩ o = k := by simpa using h
    rw [sF_step _ _ (by rw [mk_size]; exact hc.1), if_pos hc.2, hk]
  · cases h
theorem sF_bad {L : Bs} {o : Nat} (ho : o < L.length) (h : srcC L o = none) : sF ⟨L.toArray⟩ o = ((o : Int), 10) := by
  unfold srcC at h
  split at h
  · cases h
  · rename_i hc
    rw [sF_step _ _ (by rw [mk_size]; exact ho), if_neg (fun e => hc ⟨ho, e⟩)]
theorem com_end {s : Bs} {j : Nat} {L rest : Bs} (h : LineAt s j L rest) (hs : sF ⟨L.toArray⟩ 0 = sF ⟨L.toArray⟩ L.length) : skipS (s.drop j) = skipS rest := by
  obtain ⟨body, hb⟩ := h.head
  have hn : srcB L = none := by
    rw [src_iff, hs]
    exact sF_end _ _ (by rw [mk_size]; omega)
  rw [h.cut]
  have hb1 : ∀ c ∈ body, endL.contains c = false := fun c hc => h.none c (by rw [hb]; exact List.mem_cons_of_mem _ hc)
  have := com_make hb1 h.stop (by rw [← hb]; exact hn)
  rw [hb]
  exact skip_com this
theorem com_bad {s : Bs} {j o : Nat} {L rest : Bs} (h : LineAt s j L rest) (hs : sF ⟨L.toArray⟩ 0 = ((o : Int), 10)) : skipS (s.drop j) = .inr ((s.drop j).length - o) := by
  obtain ⟨body, hb⟩ := h.head
  have hn : srcB L = some o := by
    have h' : sourceS ⟨L.toArray⟩ = ((o : Int), 10) := hs
    unfold srcB
    rw [h']
    rfl
  have hc : comS (s.drop j) = some (.inr o) := by
    rw [h.cut, hb]
    have hb1 : ∀ c ∈ body, endL.contains c = false := fun c hc => h.none c (by rw [hb]; exact List.mem_cons_of_mem _ hc)
    have e : spanN endL (body ++ rest) = rest := by
      rw [spanN_app endL body rest hb1]
      cases hr : rest with
      | nil => rfl
      | cons c m => exact spanN_stop endL c m (h.stop c m hr)
    unfold comS
    rw [if_pos (by rfl)]
    simp only [List.cons_append, List.drop_succ_cons, List.drop_zero]
    rw [e, show ahead (35 :: (body ++ rest)) rest = 35 :: body from ahead_app (35 :: body) rest, ← hb, hn]
  exact skip_bad hc

set_option maxRecDepth 100000 in
set_option maxHeartbeats 2000000 in
theorem xskip_any (Q : Ending → Prop) (s : Bs) (p : Nat) (hp : p ≤ s.length) (hs : s.length ≤ 16384) (hyes : ∀ m, skipS (s.drop p) = .inl m → Q (.returned (.tuple #[.int .i64 ((s.length - m.length : Nat) : Int), .bool true]))) (hno : ∀ k, skipS (s.drop p) = .inr k → Q (.returned (.tuple #[.int .i64 ((s.length - k : Nat) : Int), .bool false]))) (w : World) :
    Calls Tryz.prog 19 #[.string ⟨s.toArray⟩, .int .i64 (p : Int)] w fun e w' => Q e ∧ Below w.heap.size w w' := by
  have HY : Hid (∀ m, skipS (s.drop p) = .inl m → Q (.returned (.tuple #[.int .i64 ((s.length - m.length : Nat) : Int), .bool true]))) := hyes
  have HN : Hid (∀ k, skipS (s.drop p) = .inr k → Q (.returned (.tuple #[.int .i64 ((s.length - k : Nat) : Int), .bool false]))) := hno
  have hD : (ByteArray.mk s.toArray).size = s.length := rfl
  have ix : ∀ (q : Nat) (hh : q < (ByteArray.mk s.toArray).size), (((ByteArray.mk s.toArray)[q]'hh).toNat : Int) = bt s q := fun q hh => by
    unfold bt
    have e : (ByteArray.mk s.toArray)[q]'hh = s.getD q 0 := by
      show s.toArray[q]'hh = _
      have : q < s.length := hh
      simp [List.getD, this]
    rw [e]
  clear hyes hno
  generalize hDD : (ByteArray.mk s.toArray) = D at *
  have HD : Hid ((ByteArray.mk s.toArray) = D) := hDD
  clear hDD
  go_enter Tryz.func19, Tryz.ntmps19
  go_wp2
  go_loopw [1] (fun i wr => ∃ (j : Nat), i = .int .i64 (j : Int) ∧ j ≤ s.length ∧ skipS (s.drop j) = skipS (s.drop p) ∧ Below w.heap.size w wr) (fun i _ => s.length - (RowKit.intOf i).toNat)
  case atStart => exact ⟨p, rfl, hp, rfl, Below.refl _ _⟩
  case round =>
    obtain ⟨j, rfl, hj, hsk, hbr⟩ := hrel
    by_cases hlt : j < s.length
    · have hltI : (j : Int) < (s.length : Int) := by omega
      have i0 := ix j
      cases hl : s.drop j with
      | nil =>
        exfalso
        have := congrArg List.length hl
        rw [List.length_drop] at this
        simp at this
        omega
      | cons x r =>
        have hb := bt_drop s j x r hl
        have hr : s.drop (j + 1) = r := by
          have := congrArg (List.drop 1) hl
          rw [List.drop_drop] at this
          exact this
        rw [hl] at hsk
        by_cases hig : ignL.contains x = true
        · have HSk : Hid (skipS (s.drop (j + 1)) = skipS (s.drop p)) := by
            show _ = _
            rw [hr, ← hsk, skip_one hig]
          have hx : x = 9 ∨ x = 32 ∨ x = 10 ∨ x = 13 ∨ x = 44 := by simpa [ignL] using hig
          clear hsk hig hr
          have hdec := hb
          rcases hx with rfl | rfl | rfl | rfl | rfl
          · rw [show (((9 : UInt8).toNat : Nat) : Int) = 9 from rfl] at hb
            clear hl hdec i0
            go_wp2_with fail
            refine ⟨⟨j + 1, congrArg (Value.int .i64) (by omega), by omega, HSk.out, hbr⟩, ?_⟩
            simp [RowKit.intOf]
            omega
          · rw [show (((32 : UInt8).toNat : Nat) : Int) = 32 from rfl] at hb
            clear hl hdec i0
            go_wp2_with fail
            refine ⟨⟨j + 1, congrArg (Value.int .i64) (by omega), by omega, HSk.out, hbr⟩, ?_⟩
            simp [RowKit.intOf]
            omega
          · rw [show (((10 : UInt8).toNat : Nat) : Int) = 10 from rfl] at hb
            clear hl hdec i0
            go_wp2_with fail
            refine ⟨⟨j + 1, congrArg (Value.int .i64) (by omega), by omega, HSk.out, hbr⟩, ?_⟩
            simp [RowKit.intOf]
            omega
          · rw [show (((13 : UInt8).toNat : Nat) : Int) = 13 from rfl] at hb
            clear hl hdec i0
            go_wp2_with fail
            refine ⟨⟨j + 1, congrArg (Value.int .i64) (by omega), by omega, HSk.out, hbr⟩, ?_⟩
            simp [RowKit.intOf]
            omega
          · rw [show (((44 : UInt8).toNat : Nat) : Int) = 44 from rfl] at hb
            clear hl hdec i0
            go_wp2_with fail
            refine ⟨⟨j + 1, congrArg (Value.int .i64) (by omega), by omega, HSk.out, hbr⟩, ?_⟩
            simp [RowKit.intOf]
            omega
        · have hne : ∀ v : UInt8, ignL.contains v = true → bt s j ≠ (v.toNat : Int) := fun v hv e => by
            rw [hb] at e
            have : x = v := by apply UInt8.toNat_inj.1; omega
            rw [this] at hig
            exact hig hv
          have n9 : (bt s j == 9) = false := by simpa using hne 9 rfl
          have n32 : (bt s j == 32) = false := by simpa using hne 32 rfl
          have n10 : (bt s j == 10) = false := by simpa using hne 10 rfl
          have n13 : (bt s j == 13) = false := by simpa using hne 13 rfl
          have n44 : (bt s j == 44) = false := by simpa using hne 44 rfl
          have BB : ∀ w : World, Calls Tryz.prog 37 #[.string D, .int .i64 (j : Int), .string ⟨#[239, 187, 191]⟩] w fun e w' => e = .returned (.bool (List.isPrefixOf [239, 187, 191] (x :: r))) ∧ w = w' := fun w => by
            have := begins_any s j hj hs [239, 187, 191] (by decide) w
            rw [HD.out, hl] at this
            exact this.mono fun _ _ h => ⟨h.1, h.2.symm⟩
          cases hbom : List.isPrefixOf [239, 187, 191] (x :: r) with
          | true =>
            rw [hbom] at BB
            obtain ⟨m, hm⟩ := List.isPrefixOf_iff_prefix.1 hbom
            have hm2 : x :: r = 239 :: 187 :: 191 :: m := hm.symm
            have h3 : s.drop (j + 3) = m := by
              rw [← List.drop_drop, hl, hm2]
              rfl
            have h3l : j + 3 ≤ s.length := by
              have := congrArg List.length (hl.trans hm2)
              rw [List.length_drop] at this
              simp at this
              omega
            have HSk : Hid (skipS (s.drop (j + 3)) = skipS (s.drop p)) := by
              show _ = _
              rw [h3, ← hsk, hm2, skip_bom]
            clear hsk hig hr hb hl hne hbom hm hm2 h3
            go_wp2_with (first
              | (go_at_call 37; (with_reducible refine (BB _).mono ?_); rintro e w0 ⟨rfl, rfl⟩)
              | fail)
            refine ⟨⟨j + 3, congrArg (Value.int .i64) (by omega), by omega, HSk.out, hbr⟩, ?_⟩
            simp [RowKit.intOf]
            omega
          | false =>
            rw [hbom] at BB
            by_cases h35 : x = 35
            · subst h35
              have hb35 : bt s j = 35 := hb
              obtain ⟨L, rest, hLA⟩ := line_of hl
              have hLl : j + L.length + rest.length = s.length := by
                have := congrArg List.length hLA.cut
                rw [List.length_drop, List.length_append] at this
                omega
              have hL1 : 1 ≤ L.length := by
                obtain ⟨body, hbd⟩ := hLA.head
                rw [hbd]
                simp
              have HL : Hid (LineAt s j L rest) := hLA
              have HSk : Hid (skipS (s.drop j) = skipS (s.drop p)) := by
                show _ = _
                rw [hl]
                exact hsk
              have hjb : ∀ o, o < L.length → bt s (j + o) ≠ 10 ∧ bt s (j + o) ≠ 13 := by
                intro o ho
                have e : s.getD (j + o) 0 = L.getD o 0 := by
                  rw [← drop_get s j o, hLA.cut]
                  simp [List.getD, List.getElem?_append_left ho]
                have hm : L.getD o 0 ∈ L := by
                  simp [List.getD, ho]
                have hn := hLA.none _ hm
                have e2 : bt s (j + o) = ((L.getD o 0).toNat : Int) := by unfold bt; rw [e]
                rw [e2]
                constructor
                · intro h
                  have : L.getD o 0 = 10 := by apply UInt8.toNat_inj.1; show _ = 10; omega
                  rw [this] at hn
                  cases hn
                · intro h
                  have : L.getD o 0 = 13 := by apply UInt8.toNat_inj.1; show _ = 13; omega
                  rw [this] at hn
                  cases hn
              have hje : j + L.length < s.length → bt s (j + L.length) = 10 ∨ bt s (j + L.length) = 13 := by
                intro h
                cases hr2 : rest with
                | nil => rw [hr2] at hLl; simp at hLl; omega
                | cons c m =>
                  have hst := hLA.stop c m hr2
                  have e : s.drop (j + L.length) = c :: m := by
                    rw [← List.drop_drop, hLA.cut, List.drop_left' rfl, hr2]
                  rw [bt_drop s _ c m e]
                  have : c = 10 ∨ c = 13 := by simpa [endL] using hst
                  rcases this with rfl | rfl
                  · left; rfl
                  · right; rfl
              clear hsk hig hr hb hl hne hbom n9 n32 n10 n13 n44 hLA i0
              go_wp2_with (first
                | (go_at_call 37; (with_reducible refine (BB _).mono ?_); rintro e w0 ⟨rfl, rfl⟩)
                | fail)
              generalize wr = wB at *
              go_loopw [1] (fun i wr => ∃ (o : Nat), i = .int .i64 ((j + o : Nat) : Int) ∧ o ≤ L.length ∧ sF ⟨L.toArray⟩ 0 = sF ⟨L.toArray⟩ o ∧ Below w.heap.size w wr) (fun i _ => s.length - (RowKit.intOf i).toNat)
              case atStart => exact ⟨0, rfl, by omega, rfl, hbr⟩
              case round =>
                obtain ⟨o, rfl, ho, hsf, hbr2⟩ := hrel
                have hcast : ((j + o : Nat) : Int) = (j : Int) + (o : Int) := by omega
                by_cases hol : o < L.length
                · have hlt2 : j + o < s.length := by omega
                  have hlt3 : ((j + o : Nat) : Int) < (s.length : Int) := by omega
                  obtain ⟨g1, g2⟩ := hjb o hol
                  have n1 : (bt s (j + o) != 10) = true := by simpa using g1
                  have n2 : (bt s (j + o) != 13) = true := by simpa using g2
                  have i1 := ix (j + o)
                  have hsame := line_same HL.out o hol
                  cases hsc : srcC s (j + o) with
                  | none =>
                    have S : ∀ w, Calls Tryz.prog 38 #[.string D, .int .i64 ((j + o : Nat) : Int)] w fun e w' => e = .returned (.tuple #[.int .i64 0, .int .i64 0]) ∧ Below w.heap.size w w' := fun w => by
                      have := source_no s (j + o) hs hsc w
                      rw [HD.out] at this
                      exact this
                    have HX : Hid (skipS (s.drop p) = .inr ((s.drop j).length - o)) := by
                      show _ = _
                      rw [← HSk.out]
                      exact com_bad HL.out (hsf.trans (sF_bad hol (hsame.symm.trans hsc)))
                    clear hsc hsame hjb hje hsf g1 g2 hcast
                    generalize hJ : j + o = J at *
                    have HJ : Hid (j + o = J) := hJ
                    clear hJ
                    go_wp2_with (first
                      | (go_at_call 38; (with_reducible refine (S _).mono ?_); rintro e w3 ⟨rfl, hb3⟩; have hbr3 := hbr2.trans (hb3.mono hbr2.size))
                      | fail)
                    go_ret2
                    have hn := HN.out _ HX.out
                    rw [List.length_drop, show s.length - (s.length - j - o) = J by have := HJ.out; omega] at hn
                    exact ⟨hn, hbr3⟩
                  | some k =>
                    have S : ∀ w, Calls Tryz.prog 38 #[.string D, .int .i64 ((j + o : Nat) : Int)] w fun e w' => e = .returned (.tuple #[.int .i64 (stC ⟨s.toArray⟩ (j + o)), .int .i64 (k : Int)]) ∧ Below w.heap.size w w' := fun w => by
                      have := source_yes s (j + o) k hs hsc w
                      rw [HD.out] at this ⊢
                      exact this
                    have hk := hsame.symm.trans hsc
                    have hH := hk
                    rw [srcC_H] at hH
                    obtain ⟨k1, k2, _, _⟩ := srcH_facts hH
                    rw [List.length_drop] at k2
                    have x0 : ((k : Int) == 0) = false := by simp; omega
                    have x00 : (k == 0) = false := by simp; omega
                    have HX : Hid (sF ⟨L.toArray⟩ 0 = sF ⟨L.toArray⟩ (o + k)) := hsf.trans (sF_some hk)
                    clear hsc hsame hjb hje hsf g1 g2 hcast hk hH
                    generalize stC ⟨s.toArray⟩ (j + o) = c2 at *
                    generalize hJ : j + o = J at *
                    have HJ : Hid (j + o = J) := hJ
                    clear hJ
                    go_wp2_with (first
                      | (go_at_call 38; (with_reducible refine (S _).mono ?_); rintro e w3 ⟨rfl, hb3⟩; have hbr3 := hbr2.trans (hb3.mono hbr2.size))
                      | fail)
                    have hJ2 := HJ.out
                    refine ⟨⟨o + k, congrArg (Value.int .i64) (by omega), by omega, HX.out, hbr3⟩, ?_⟩
                    simp [RowKit.intOf]
                    omega
                · obtain rfl : o = L.length := by omega
                  have HX : Hid (skipS (s.drop (j + L.length)) = skipS (s.drop p)) := by
                    show _ = _
                    have e : s.drop (j + L.length) = rest := by rw [← List.drop_drop, HL.out.cut, List.drop_left' rfl]
                    rw [e, ← com_end HL.out hsf]
                    exact HSk.out
                  have hJs : j + L.length ≤ s.length := by omega
                  have hJ1 : j + 1 ≤ j + L.length := by omega
                  by_cases hlt2 : j + L.length < s.length
                  · have hlt3 : ((j + L.length : Nat) : Int) < (s.length : Int) := by omega
                    have i1 := ix (j + L.length)
                    have he := hje hlt2
                    clear hjb hje hsf hcast
                    generalize j + L.length = J at *
                    rcases he with he | he
                    · go_wp2_with fail
                      refine ⟨⟨J, rfl, hJs, HX.out, hbr2⟩, ?_⟩
                      simp [RowKit.intOf]
                      omega
                    · go_wp2_with fail
                      refine ⟨⟨J, rfl, hJs, HX.out, hbr2⟩, ?_⟩
                      simp [RowKit.intOf]
                      omega
                  · have hlt3 : ¬ ((j + L.length : Nat) : Int) < (s.length : Int) := by omega
                    clear hjb hje hsf hcast
                    generalize j + L.length = J at *
                    go_wp2_with fail
                    refine ⟨⟨J, rfl, hJs, HX.out, hbr2⟩, ?_⟩
                    simp [RowKit.intOf]
                    omega
            · have n35 : (bt s j == 35) = false := by
                have : bt s j ≠ 35 := fun e => h35 (by rw [hb] at e; apply UInt8.toNat_inj.1; show _ = 35; omega)
                simpa using this
              have HX : Hid (skipS (s.drop p) = .inl (x :: r)) := by
                show _ = _
                rw [← hsk]
                have hc : comS (x :: r) = none := by
                  unfold comS
                  rw [if_neg (by simp [List.isPrefixOf]; exact fun e => h35 e.symm)]
                rw [skipS_com (l := x :: r) (Bool.eq_false_iff.2 hig) hbom, hc]
              have hlen : s.length - (x :: r).length = j := by
                have := congrArg List.length hl
                rw [List.length_drop] at this
                omega
              have HLn : Hid (s.length - (x :: r).length = j) := hlen
              clear hsk hig hr hb hl hne hbom hlen
              go_wp2_with (first
                | (go_at_call 37; (with_reducible refine (BB _).mono ?_); rintro e w0 ⟨rfl, rfl⟩)
                | fail)
              go_ret2
              have hy := HY.out _ HX.out
              rw [HLn.out] at hy
              exact ⟨hy, hbr⟩
    · have hltI : ¬ (j : Int) < (s.length : Int) := by omega
      have HX : Hid (skipS (s.drop p) = .inl []) := by
        show _ = _
        rw [← hsk, List.drop_eq_nil_of_le (by omega), skip_nil]
      have hlen : s.length - ([] : Bs).length = j := by simp; omega
      have HLn : Hid (s.length - ([] : Bs).length = j) := hlen
      clear hsk hlen
      go_wp2_with fail
      go_ret2
      have hy := HY.out _ HX.out
      rw [HLn.out] at hy
      exact ⟨hy, hbr⟩
end Go.Proofs.YtebojfipdcicaaaGreatDoor
namespace Go.Proofs.YtebojfipdcicaaaGreatDoor
open Go Go.RowKit
attribute [local irreducible] srcB

/-- The token at a place, or what is wrong. -/
def oneV (s : Bs) (p : Nat) : Value × Int := match tokS (s.drop p) with
  | .ok k t r => (tokV k t p (s.length - r.length), 0)
  | .bad e => (tokV 0 [] 0 0, e)
theorem pun_not {x : UInt8} (h : punL.contains x = true) : letL.contains x = false ∧ digL.contains x = false ∧ x ≠ 45 ∧ x ≠ 34 ∧ x ≠ 46 := by
  have : x ∈ punL := List.contains_iff_mem.1 h
  simp [punL] at this
  rcases this with rfl | rfl | rfl | rfl | rfl | rfl | rfl | rfl | rfl | rfl | rfl | rfl | rfl <;> decide
theorem ix_of (s : Bs) : ∀ (q : Nat) (hh : q < (ByteArray.mk s.toArray).size), (((ByteArray.mk s.toArray)[q]'hh).toNat : Int) = bt s q := fun q hh => by
  unfold bt
  have e : (ByteArray.mk s.toArray)[q]'hh = s.getD q 0 := by
    show s.toArray[q]'hh = _
    have : q < s.length := hh
    simp [List.getD, this]
  rw [e]

set_option maxRecDepth 100000 in
set_option maxHeartbeats 1000000 in
theorem one_pun (s : Bs) (p : Nat) (x : UInt8) (r : Bs) (hl : s.drop p = x :: r) (hs : s.length ≤ 16384) (hx : punL.contains x = true) (w : World) :
    Calls Tryz.prog 20 #[.string ⟨s.toArray⟩, .int .i64 (p : Int)] w fun e w' => e = .returned (.tuple #[tokV 0 [x] p (p + 1), .int .i64 0]) ∧ Below w.heap.size w w' := by
  have hb := bt_drop s p x r hl
  have hlen := congrArg List.length hl
  rw [List.length_drop, List.length_cons] at hlen
  have hp : p < s.length := by omega
  have hpI : (p : Int) < (s.length : Int) := by omega
  have f1 : (p : Int) + 1 ≤ (s.length : Int) := by omega
  obtain ⟨g1, g2, g3, g4, g5⟩ := pun_not hx
  have hD : (ByteArray.mk s.toArray).size = s.length := rfl
  have ix := ix_of s p
  have hext : (ByteArray.mk s.toArray).extract p (p + 1) = ⟨#[x]⟩ := by
    rw [ext_mk, hl]
    rfl
  have Lt := fun w : World => xletter_any x w
  have Dg := fun w : World => xdigit_any x w
  rw [g1] at Lt
  rw [g2] at Dg
  have BB : ∀ w : World, Calls Tryz.prog 37 #[.string ⟨s.toArray⟩, .int .i64 (p : Int), .string ⟨#[46, 46, 46]⟩] w fun e w' => e = .returned (.bool false) ∧ w = w' := fun w => by
    have := begins_any s p (by omega) hs [46, 46, 46] (by decide) w
    have hz : List.isPrefixOf [46, 46, 46] (s.drop p) = false := by
      rw [hl, Bool.eq_false_iff]
      intro e
      obtain ⟨m, hm⟩ := List.isPrefixOf_iff_prefix.1 e
      simp at hm
      exact g5 hm.1.symm
    rw [hz] at this
    exact this.mono fun _ _ h => ⟨h.1, h.2.symm⟩
  rw [hb] at ix
  have c45 : ((x.toNat : Int) == 45) = false := by
    have : x.toNat ≠ 45 := fun e => g3 (UInt8.toNat_inj.1 e)
    simp; omega
  have c34 : ((x.toNat : Int) == 34) = false := by
    have : x.toNat ≠ 34 := fun e => g4 (UInt8.toNat_inj.1 e)
    simp; omega
  have hpun : x = 33 ∨ x = 36 ∨ x = 38 ∨ x = 40 ∨ x = 41 ∨ x = 58 ∨ x = 61 ∨ x = 64 ∨ x = 91 ∨ x = 93 ∨ x = 123 ∨ x = 124 ∨ x = 125 := by
    have : x ∈ punL := List.contains_iff_mem.1 hx
    simpa [punL] using this
  clear hb hlen hl g1 g2 g3 g4 g5 hx
  generalize (ByteArray.mk s.toArray) = D at *
  rcases hpun with rfl | rfl | rfl | rfl | rfl | rfl | rfl | rfl | rfl | rfl | rfl | rfl | rfl
  all_goals
    go_enter Tryz.func20, Tryz.ntmps20
    go_wp2_with (first
      | (go_at_call 37; (with_reducible refine (BB _).mono ?_); rintro e w0 ⟨rfl, rfl⟩)
      | (go_at_call 41; refine (Dg _).mono ?_; rintro e w0 ⟨rfl, hw⟩; subst hw)
      | (go_at_call 39; refine (Lt _).mono ?_; rintro e w0 ⟨rfl, hw⟩; subst hw)
      | fail)
    exact bodyPost_ret (by simp [results, Tryz.results20, go_sem]) rfl ⟨rfl, ((Below.refl _ _).alloc (Nat.le_refl _) _).alloc (by simp) _⟩

set_option maxRecDepth 100000 in
set_option maxHeartbeats 1000000 in
theorem one_dots (s : Bs) (p : Nat) (hs : s.length ≤ 16384) (hd : List.isPrefixOf [46, 46, 46] (s.drop p) = true) (w : World) :
    Calls Tryz.prog 20 #[.string ⟨s.toArray⟩, .int .i64 (p : Int)] w fun e w' => e = .returned (.tuple #[tokV 0 [46, 46, 46] p (p + 3), .int .i64 0]) ∧ Below w.heap.size w w' := by
  obtain ⟨m, hm⟩ := List.isPrefixOf_iff_prefix.1 hd
  have hl : s.drop p = 46 :: 46 :: 46 :: m := hm.symm
  have hb := bt_drop s p 46 _ hl
  have h3 := (pre_pos hd).resolve_right (by simp)
  simp only [List.length_cons, List.length_nil] at h3
  have hpI : (p : Int) < (s.length : Int) := by omega
  have f1 : (p : Int) + 3 ≤ (s.length : Int) := by omega
  have hD : (ByteArray.mk s.toArray).size = s.length := rfl
  have ix := ix_of s p
  have hext : (ByteArray.mk s.toArray).extract p (p + 3) = ⟨#[46, 46, 46]⟩ := by
    rw [ext_mk, hl]
    rfl
  have Lt := fun w : World => xletter_any 46 w
  have Dg := fun w : World => xdigit_any 46 w
  have BB : ∀ w : World, Calls Tryz.prog 37 #[.string ⟨s.toArray⟩, .int .i64 (p : Int), .string ⟨#[46, 46, 46]⟩] w fun e w' => e = .returned (.bool true) ∧ w = w' := fun w => by
    have := begins_any s p (by omega) hs [46, 46, 46] (by decide) w
    rw [hd] at this
    exact this.mono fun _ _ h => ⟨h.1, h.2.symm⟩
  rw [hb] at ix
  rw [show letL.contains 46 = false from rfl] at Lt
  rw [show digL.contains 46 = false from rfl] at Dg
  clear hb hl hm hd h3
  generalize (ByteArray.mk s.toArray) = D at *
  go_enter Tryz.func20, Tryz.ntmps20
  go_wp2_with (first
    | (go_at_call 37; (with_reducible refine (BB _).mono ?_); rintro e w0 ⟨rfl, rfl⟩)
    | (go_at_call 41; refine (Dg _).mono ?_; rintro e w0 ⟨rfl, hw⟩; subst hw)
    | (go_at_call 39; refine (Lt _).mono ?_; rintro e w0 ⟨rfl, hw⟩; subst hw)
    | fail)
  exact bodyPost_ret (by simp [results, Tryz.results20, go_sem]) rfl ⟨rfl, ((Below.refl _ _).alloc (Nat.le_refl _) _).alloc (by simp) _⟩

set_option maxRecDepth 100000 in
set_option maxHeartbeats 1000000 in
theorem one_bad (s : Bs) (p : Nat) (x : UInt8) (r : Bs) (hl : s.drop p = x :: r) (hs : s.length ≤ 16384) (g0 : punL.contains x = false) (g1 : letL.contains x = false) (g2 : digL.contains x = false) (g3 : x ≠ 45) (g4 : x ≠ 34) (hd : List.isPrefixOf [46, 46, 46] (s.drop p) = false) (w : World) :
    Calls Tryz.prog 20 #[.string ⟨s.toArray⟩, .int .i64 (p : Int)] w fun e w' => e = .returned (.tuple #[tokV 0 [] 0 0, .int .i64 50]) ∧ Below w.heap.size w w' := by
  have hb := bt_drop s p x r hl
  have hlen := congrArg List.length hl
  rw [List.length_drop, List.length_cons] at hlen
  have hp : p < s.length := by omega
  have hpI : (p : Int) < (s.length : Int) := by omega
  have hD : (ByteArray.mk s.toArray).size = s.length := rfl
  have ix := ix_of s p
  have Lt := fun w : World => xletter_any x w
  have Dg := fun w : World => xdigit_any x w
  rw [g1] at Lt
  rw [g2] at Dg
  have BB : ∀ w : World, Calls Tryz.prog 37 #[.string ⟨s.toArray⟩, .int .i64 (p : Int), .string ⟨#[46, 46, 46]⟩] w fun e w' => e = .returned (.bool false) ∧ w = w' := fun w => by
    have := begins_any s p (by omega) hs [46, 46, 46] (by decide) w
    rw [hd] at this
    exact this.mono fun _ _ h => ⟨h.1, h.2.symm⟩
  rw [hb] at ix
  have hne : ∀ v : UInt8, x ≠ v → ((x.toNat : Int) == (v.toNat : Int)) = false := fun v hv => by
    have : x.toNat ≠ v.toNat := fun e => hv (UInt8.toNat_inj.1 e)
    simp; omega
  have hpn : ∀ v : UInt8, punL.contains v = true → x ≠ v := fun v hv e => by rw [e, hv] at g0; cases g0
  have c45 := hne 45 g3
  have c34 := hne 34 g4
  have q1 := hne 33 (hpn 33 rfl)
  have q2 := hne 36 (hpn 36 rfl)
  have q3 := hne 38 (hpn 38 rfl)
  have q4 := hne 40 (hpn 40 rfl)
  have q5 := hne 41 (hpn 41 rfl)
  have q6 := hne 58 (hpn 58 rfl)
  have q7 := hne 61 (hpn 61 rfl)
  have q8 := hne 64 (hpn 64 rfl)
  have q9 := hne 91 (hpn 91 rfl)
  have q10 := hne 93 (hpn 93 rfl)
  have q11 := hne 123 (hpn 123 rfl)
  have q12 := hne 124 (hpn 124 rfl)
  have q13 := hne 125 (hpn 125 rfl)
  clear hb hlen hl g1 g2 g3 g4 hne hpn hd g0
  generalize (ByteArray.mk s.toArray) = D at *
  generalize (x.toNat : Int) = c at *
  simp only [show (((45 : UInt8).toNat : Nat) : Int) = 45 from rfl, show (((34 : UInt8).toNat : Nat) : Int) = 34 from rfl, show (((33 : UInt8).toNat : Nat) : Int) = 33 from rfl, show (((36 : UInt8).toNat : Nat) : Int) = 36 from rfl, show (((38 : UInt8).toNat : Nat) : Int) = 38 from rfl, show (((40 : UInt8).toNat : Nat) : Int) = 40 from rfl, show (((41 : UInt8).toNat : Nat) : Int) = 41 from rfl, show (((58 : UInt8).toNat : Nat) : Int) = 58 from rfl, show (((61 : UInt8).toNat : Nat) : Int) = 61 from rfl, show (((64 : UInt8).toNat : Nat) : Int) = 64 from rfl, show (((91 : UInt8).toNat : Nat) : Int) = 91 from rfl, show (((93 : UInt8).toNat : Nat) : Int) = 93 from rfl, show (((123 : UInt8).toNat : Nat) : Int) = 123 from rfl, show (((124 : UInt8).toNat : Nat) : Int) = 124 from rfl, show (((125 : UInt8).toNat : Nat) : Int) = 125 from rfl] at c45 c34 q1 q2 q3 q4 q5 q6 q7 q8 q9 q10 q11 q12 q13
  go_enter Tryz.func20, Tryz.ntmps20
  go_wp2_with (first
    | (go_at_call 37; (with_reducible refine (BB _).mono ?_); rintro e w0 ⟨rfl, rfl⟩)
    | (go_at_call 41; (with_reducible refine (Dg _).mono ?_); rintro e w0 ⟨rfl, hw⟩; subst hw)
    | (go_at_call 39; (with_reducible refine (Lt _).mono ?_); rintro e w0 ⟨rfl, hw⟩; subst hw)
    | fail)
  exact bodyPost_ret (by simp [results, Tryz.results20, go_sem]) rfl ⟨rfl, ((Below.refl _ _).alloc (Nat.le_refl _) _).alloc (by simp) _⟩

set_option maxRecDepth 100000 in
set_option maxHeartbeats 1000000 in
theorem one_num (s : Bs) (p : Nat) (x : UInt8) (r : Bs) (hl : s.drop p = x :: r) (hs : s.length ≤ 16384) (hx : x = 45 ∨ digL.contains x = true) (w : World) :
    Calls Tryz.prog 20 #[.string ⟨s.toArray⟩, .int .i64 (p : Int)] w fun e w' => e = .returned (.tuple #[(match numS (s.drop p) with | some q => (tokV q.1 (ahead (s.drop p) q.2) p (s.length - q.2.length), Value.int .i64 0) | none => (tokV 0 [] 0 0, Value.int .i64 51)).1, (match numS (s.drop p) with | some q => (tokV q.1 (ahead (s.drop p) q.2) p (s.length - q.2.length), Value.int .i64 0) | none => (tokV 0 [] 0 0, Value.int .i64 51)).2]) ∧ Below w.heap.size w w' := by
  have hb := bt_drop s p x r hl
  have hlen := congrArg List.length hl
  rw [List.length_drop, List.length_cons] at hlen
  have hp : p < s.length := by omega
  have hpI : (p : Int) < (s.length : Int) := by omega
  have hD : (ByteArray.mk s.toArray).size = s.length := rfl
  have ix := ix_of s p
  have g1 : letL.contains x = false := by
    rcases hx with rfl | hx
    · rfl
    · rw [let_is]
      rw [dig_is] at hx
      simp at hx ⊢
      omega
  have Lt := fun w : World => xletter_any x w
  have Dg := fun w : World => xdigit_any x w
  rw [g1] at Lt
  have N := fun w => xnumber_any s p hp hs w
  rw [hb] at ix
  have hx2 : ((x.toNat : Int) == 45) = true ∨ (((x.toNat : Int) == 45) = false ∧ digL.contains x = true) := by
    rcases hx with rfl | hx
    · left; rfl
    · right
      refine ⟨?_, hx⟩
      rw [dig_is] at hx
      simp at hx ⊢
      omega
  cases hn : numS (s.drop p) with
  | none =>
    rw [hn] at N
    clear hb hl hx hn g1
    generalize (ByteArray.mk s.toArray) = D at *
    generalize digL.contains x = dB at *
    generalize (x.toNat : Int) = c at *
    rcases hx2 with h45 | ⟨h45, hd⟩
    all_goals
      try subst hd
      go_enter Tryz.func20, Tryz.ntmps20
      go_wp2_with (first
        | (go_at_call 42; (with_reducible refine (N _).mono ?_); rintro e w0 ⟨⟨a, b, rfl⟩, hw⟩; subst hw)
        | (go_at_call 41; (with_reducible refine (Dg _).mono ?_); rintro e w0 ⟨rfl, hw⟩; subst hw)
        | (go_at_call 39; (with_reducible refine (Lt _).mono ?_); rintro e w0 ⟨rfl, hw⟩; subst hw)
        | fail)
      exact bodyPost_ret (by simp [results, Tryz.results20, go_sem]) rfl ⟨rfl, ((Below.refl _ _).alloc (Nat.le_refl _) _).alloc (by simp) _⟩
  | some q =>
    rw [hn] at N
    obtain ⟨k, m⟩ := q
    obtain ⟨hsuf, hlt⟩ := numS_facts hn
    have hsuf2 : m <:+ s := hsuf.trans (List.drop_suffix _ _)
    have hml : m.length < s.length - p := by have := hlt; rw [List.length_drop] at this; exact this
    have hE1 : (p : Int) ≤ ((s.length - m.length : Nat) : Int) := by omega
    have hE2 : ((s.length - m.length : Nat) : Int) ≤ (s.length : Int) := by omega
    have hext : (ByteArray.mk s.toArray).extract p (s.length - m.length) = ⟨(ahead (s.drop p) m).toArray⟩ := by
      have := cut_ahead (List.drop_suffix p s) hsuf
      rw [List.length_drop, show s.length - (s.length - p) = p by omega] at this
      exact this
    clear hb hl hx hn g1 hsuf hsuf2 hlt
    simp only
    generalize ahead (s.drop p) m = TX at *
    simp only at N
    generalize s.length - m.length = E at *
    generalize (ByteArray.mk s.toArray) = D at *
    generalize digL.contains x = dB at *
    generalize (x.toNat : Int) = c at *
    rcases hx2 with h45 | ⟨h45, hd⟩
    all_goals
      try subst hd
      go_enter Tryz.func20, Tryz.ntmps20
      go_wp2_with (first
        | (go_at_call 42; (with_reducible refine (N _).mono ?_); rintro e w0 ⟨rfl, hw⟩; subst hw)
        | (go_at_call 41; (with_reducible refine (Dg _).mono ?_); rintro e w0 ⟨rfl, hw⟩; subst hw)
        | (go_at_call 39; (with_reducible refine (Lt _).mono ?_); rintro e w0 ⟨rfl, hw⟩; subst hw)
        | fail)
      exact bodyPost_ret (by simp [results, Tryz.results20, go_sem]) rfl ⟨rfl, ((Below.refl _ _).alloc (Nat.le_refl _) _).alloc (by simp) _⟩
end Go.Proofs.YtebojfipdcicaaaGreatDoor
namespace Go.Proofs.YtebojfipdcicaaaGreatDoor
open Go Go.RowKit
attribute [local irreducible] srcB

def nmL : Bs := letL ++ digL
def nmN (l : Bs) : Nat := (l.takeWhile fun c => nmL.contains c).length
theorem span_nm (l : Bs) : spanR nmL l = l.drop (nmN l) := by
  induction l with
  | nil => rfl
  | cons c l ih =>
    unfold spanR nmN
    by_cases h : nmL.contains c = true
    · rw [if_pos h, ih, List.takeWhile_cons_of_pos (by exact h)]
      rfl
    · rw [if_neg h, List.takeWhile_cons_of_neg (by exact h)]
      rfl
theorem nm_at (l : Bs) : ∀ k, k ≤ nmN l → nmL.contains (l.getD k 0) = decide (k < nmN l) := by
  induction l with
  | nil =>
    intro k hk
    have : k = 0 := by simpa [nmN] using hk
    subst this
    rfl
  | cons c l ih =>
    intro k hk
    by_cases h : nmL.contains c = true
    · have e : nmN (c :: l) = nmN l + 1 := by
        unfold nmN
        rw [List.takeWhile_cons_of_pos (by exact h)]
        rfl
      rw [e] at hk ⊢
      cases k with
      | zero =>
        show nmL.contains c = _
        rw [h]
        simp
      | succ k =>
        show nmL.contains (l.getD k 0) = _
        rw [ih k (by omega)]
        simp
    · have e : nmN (c :: l) = 0 := by
        unfold nmN
        rw [List.takeWhile_cons_of_neg (by exact h)]
        rfl
      rw [e] at hk ⊢
      obtain rfl : k = 0 := by omega
      show nmL.contains c = _
      simpa using h
theorem nm_le (l : Bs) : nmN l ≤ l.length := (List.takeWhile_sublist _).length_le
theorem nm_or (x : UInt8) : nmL.contains x = (letL.contains x || digL.contains x) := by
  rw [Bool.eq_iff_iff, Bool.or_eq_true, List.contains_iff_mem, List.contains_iff_mem, List.contains_iff_mem]
  exact List.mem_append
/-- The End of the token that is being read. -/
def eOf (B : Nat) (w : World) : Int := match w.cell? ⟨B, 3, none⟩ with
  | some (.int _ z) => z
  | _ => 0
theorem eOf_new (w : World) (A : Obj) (k p e : Int) (t : ByteArray) : eOf (w.heap.size + 1) ((w.alloc A).alloc (.cells #[.int .i64 k, .string t, .int .i64 p, .int .i64 e] 28)) = e := by
  have h := cell_new (w.alloc A) #[.int .i64 k, .string t, .int .i64 p, .int .i64 e] 28 3
  rw [Addr.add_lit, Nat.zero_add, World.size_alloc] at h
  unfold eOf
  rw [h]
  rfl
abbrev tkO (k : Int) (t : ByteArray) (p e : Int) : Obj := .cells #[.int .i64 k, .string t, .int .i64 p, .int .i64 e] 28

set_option maxRecDepth 100000 in
set_option maxHeartbeats 2000000 in
theorem one_name (s : Bs) (p : Nat) (x : UInt8) (r : Bs) (hl : s.drop p = x :: r) (hs : s.length ≤ 16384) (hx : letL.contains x = true) (w : World) :
    Calls Tryz.prog 20 #[.string ⟨s.toArray⟩, .int .i64 (p : Int)] w fun e w' => e = .returned (.tuple #[tokV 1 ((s.drop p).take (1 + nmN r)) p (p + 1 + nmN r), .int .i64 0]) ∧ Below w.heap.size w w' := by
  have hb := bt_drop s p x r hl
  have hlen := congrArg List.length hl
  rw [List.length_drop, List.length_cons] at hlen
  have hr : s.drop (p + 1) = r := by
    have := congrArg (List.drop 1) hl
    rw [List.drop_drop] at this
    exact this
  have hp : p < s.length := by omega
  have hpI : (p : Int) < (s.length : Int) := by omega
  have hD : (ByteArray.mk s.toArray).size = s.length := rfl
  have ix := ix_of s p
  rw [hb] at ix
  have Lt := fun w : World => xletter_any x w
  rw [hx] at Lt
  have hnat := nm_at r
  have hnle := nm_le r
  have hext := ext_mk s p (1 + nmN r)
  rw [show p + (1 + nmN r) = p + 1 + nmN r by omega] at hext
  have hk : ∀ k, k ≤ nmN r → (letL.contains (s.getD (p + 1 + k) 0) || digL.contains (s.getD (p + 1 + k) 0)) = decide (k < nmN r) := fun k hk => by
    rw [← nm_or, ← hnat k hk, ← hr, drop_get]
  have A := fun k w => xat_any s (by omega) k w
  have hE1 : (p : Int) ≤ ((p + 1 + nmN r : Nat) : Int) := by omega
  have hE2 : ((p + 1 + nmN r : Nat) : Int) ≤ (s.length : Int) := by omega
  clear hb hl hr hnat hx
  generalize nmN r = M at *
  generalize (s.drop p).take (1 + M) = TX at *
  generalize (ByteArray.mk s.toArray) = D at *
  generalize (x.toNat : Int) = c at *
  go_enter Tryz.func20, Tryz.ntmps20
  go_wp2_with (first
    | (go_at_call 39; (with_reducible refine (Lt _).mono ?_); rintro e w0 ⟨rfl, hw⟩; subst hw)
    | fail)
  go_loopw [] (fun wr => ∃ k : Nat, k ≤ M ∧ wr = (w.alloc (tkO 0 ⟨#[]⟩ 0 0)).alloc (tkO 1 ⟨#[]⟩ (p : Int) ((p + 1 + k : Nat) : Int))) (fun wr => (p + 2 + M) - (eOf (w.heap.size + 1) wr).toNat)
  case atStart => exact ⟨0, Nat.zero_le _, rfl⟩
  case round =>
    obtain ⟨k, hkM, rfl⟩ := hrel
    have A1 := A (p + 1 + k)
    have hor := hk k hkM
    have L1 := fun w : World => xletter_any (s.getD (p + 1 + k) 0) w
    have D1 := fun w : World => xdigit_any (s.getD (p + 1 + k) 0) w
    have hkS : p + 1 + k ≤ s.length := by omega
    clear A hk
    generalize ((s.getD (p + 1 + k) 0).toNat : Int) = d at *
    generalize letL.contains (s.getD (p + 1 + k) 0) = lB at *
    generalize digL.contains (s.getD (p + 1 + k) 0) = dB at *
    by_cases hlt : k < M
    · rw [decide_eq_true hlt] at hor
      have hnx : Hid (((p + 1 + k : Nat) : Int) + 1 = ((p + 1 + (k + 1) : Nat) : Int)) := by show _ = _; omega
      have hpk : ((p + 1 + k : Nat) : Int) ≤ 20000 := by omega
      generalize hJ : p + 1 + k = J at *
      have HJ : Hid (p + 1 + k = J) := hJ
      clear hJ
      cases lB
      · cases dB
        · cases hor
        · go_wp2_with (first
            | (go_at_call 41; (with_reducible refine (D1 _).mono ?_); rintro e w0 ⟨rfl, hw⟩; subst hw)
            | (go_at_call 39; (with_reducible refine (L1 _).mono ?_); rintro e w0 ⟨rfl, hw⟩; subst hw)
            | (go_at_call 40; (with_reducible refine (A1 _).mono ?_); rintro e w1 ⟨rfl, rfl⟩)
            | fail)
          refine ⟨⟨k + 1, by omega, by rw [hnx.out]⟩, ?_⟩
          have hj := HJ.out
          rw [eOf_new, eOf_new]
          omega
      · go_wp2_with (first
          | (go_at_call 39; (with_reducible refine (L1 _).mono ?_); rintro e w0 ⟨rfl, hw⟩; subst hw)
          | (go_at_call 40; (with_reducible refine (A1 _).mono ?_); rintro e w1 ⟨rfl, rfl⟩)
          | fail)
        refine ⟨⟨k + 1, by omega, by rw [hnx.out]⟩, ?_⟩
        have hj := HJ.out
        rw [eOf_new, eOf_new]
        omega
    · rw [decide_eq_false hlt] at hor
      obtain rfl : k = M := by omega
      cases lB
      · cases dB
        · generalize hJ : p + 1 + k = J at *
          have HJ : Hid (p + 1 + k = J) := hJ
          clear hJ
          go_wp2_with (first
            | (go_at_call 41; (with_reducible refine (D1 _).mono ?_); rintro e w0 ⟨rfl, hw⟩; subst hw)
            | (go_at_call 39; (with_reducible refine (L1 _).mono ?_); rintro e w0 ⟨rfl, hw⟩; subst hw)
            | (go_at_call 40; (with_reducible refine (A1 _).mono ?_); rintro e w1 ⟨rfl, rfl⟩)
            | fail)
          exact bodyPost_ret (by simp [results, Tryz.results20, go_sem]; have := HJ.out; omega) rfl ⟨rfl, ((Below.refl _ _).alloc (Nat.le_refl _) _).alloc (by simp) _⟩
        · cases hor
      · cases hor
end Go.Proofs.YtebojfipdcicaaaGreatDoor
