/- Strings by source characters: plain mathematics. -/
import Derived.Test.YthficamlgngaaaaGreatDoorXrF
import Derived.Test.YthficamlgngaaaaGreatDoorXrE
namespace Go.Proofs.YthficamlgngaaaaGreatDoor
open Go Go.RowKit
attribute [local irreducible] srcB unitS

/-! ### Source characters, one by one -/
theorem sF_tail_iff (s t : ByteArray) : ∀ (n q : Nat), t.size - q ≤ n → (sF (s ++ t) (s.size + q) = (0, 0) ↔ sF t q = (0, 0)) := by
  intro n
  induction n with
  | zero =>
    intro q hq
    rw [sF_end _ _ (by rw [ByteArray.size_append]; omega), sF_end t q (by omega)]
  | succ n ih =>
    intro q hq
    by_cases hlt : q < t.size
    · have hw := dec_w t q hlt
      obtain ⟨e1, e2⟩ := stC_eq (dec_app2 s t q)
      rw [sF_step t q hlt, sF_step _ _ (by rw [ByteArray.size_append]; omega), e1, e2]
      by_cases hc : sourceB (stC t q) = true
      · rw [if_pos hc, if_pos hc, Nat.add_assoc]
        exact ih _ (by omega)
      · rw [if_neg hc, if_neg hc]
        constructor
        · intro h; exact absurd (congrArg Prod.snd h) (by simp)
        · intro h; exact absurd (congrArg Prod.snd h) (by simp)
    · rw [sF_end _ _ (by rw [ByteArray.size_append]; omega), sF_end t q hlt]
theorem src_iff (x : Bs) : srcB x = none ↔ sF ⟨x.toArray⟩ 0 = (0, 0) := ⟨sF_none, src_of⟩
theorem mk_app (x y : Bs) : (ByteArray.mk (x ++ y).toArray) = ByteArray.mk x.toArray ++ ByteArray.mk y.toArray := by
  apply ByteArray.ext; simp
theorem mk_size (x : Bs) : (ByteArray.mk x.toArray).size = x.length := by
  show x.toArray.size = _
  simp
/-- The source character at the head: how many bytes it has. -/
def srcH (l : Bs) : Option Nat := if l ≠ [] ∧ sourceB (stC ⟨l.toArray⟩ 0) = true then some (stW ⟨l.toArray⟩ 0) else none
theorem srcH_facts {l : Bs} {k : Nat} (h : srcH l = some k) : 1 ≤ k ∧ k ≤ l.length ∧ sourceB (stC ⟨l.toArray⟩ 0) = true ∧ stW ⟨l.toArray⟩ 0 = k := by
  unfold srcH at h
  split at h
  · rename_i hc
    have hk : stW ⟨l.toArray⟩ 0 = k := by simpa using h
    have := dec_w ⟨l.toArray⟩ 0 (by rw [mk_size]; exact List.length_pos_iff.2 hc.1)
    rw [mk_size, hk] at this
    exact ⟨this.1, by omega, hc.2, hk⟩
  · cases h
theorem srcC_H (s : Bs) (p : Nat) : srcC s p = srcH (s.drop p) := by
  unfold srcC srcH
  by_cases hp : p < s.length
  · have hd := dec_drop ⟨s.toArray⟩ p 0 (by rw [mk_size]; omega)
    have e : (ByteArray.mk s.toArray).extract p (ByteArray.mk s.toArray).size = ⟨(s.drop p).toArray⟩ := by
      rw [mk_size]
      apply ByteArray.ext; apply Array.toList_inj.1
      simp
      exact List.take_of_length_le (by simp)
    rw [e, Nat.add_zero] at hd
    obtain ⟨e1, e2⟩ := stC_eq hd
    rw [e1, e2]
    have hne : s.drop p ≠ [] := by
      intro h
      have := congrArg List.length h
      rw [List.length_drop] at this
      simp at this
      omega
    simp [hp, hne]
  · have : s.drop p = [] := List.drop_eq_nil_of_le (by omega)
    simp [hp, this]
/-- A source character ahead: what is behind it decides. -/
theorem src_head {l : Bs} {k : Nat} (h : srcH l = some k) : srcB l = none ↔ srcB (l.drop k) = none := by
  obtain ⟨h1, h2, h3, h4⟩ := srcH_facts h
  rw [src_iff, src_iff, sF_step _ _ (by rw [mk_size]; omega), if_pos h3, h4, Nat.zero_add]
  have e := mk_app (l.take k) (l.drop k)
  rw [List.take_append_drop] at e
  rw [e]
  have hs : (ByteArray.mk (l.take k).toArray).size = k := by rw [mk_size, List.length_take]; omega
  have ht := sF_tail_iff ⟨(l.take k).toArray⟩ ⟨(l.drop k).toArray⟩ _ 0 (Nat.le_refl _)
  rw [hs, Nat.add_zero] at ht
  exact ht
/-- What is cut behind a character has it still. -/
theorem srcH_pre {x r : Bs} {k : Nat} (h : srcH (x ++ r) = some k) (hk : k ≤ x.length) : srcH x = some k := by
  obtain ⟨h1, h2, h3, h4⟩ := srcH_facts h
  have hne : Utf8.decode ⟨(x ++ r).toArray⟩ 0 ≠ (65533, 1) := source_dec h3
  have ht := dec_take ⟨(x ++ r).toArray⟩ x.length 0 (by rw [mk_size, List.length_append]; omega) (by omega) (by have h5 : (Utf8.decode ⟨(x ++ r).toArray⟩ 0).2 = k := h4; rw [h5]; omega) hne
  rw [take_mk, List.take_left' rfl] at ht
  obtain ⟨e1, e2⟩ := stC_eq ht
  unfold srcH
  rw [if_pos ⟨fun e => by have := congrArg List.length e; simp only [List.length_nil] at this; omega, by rw [e1]; exact h3⟩, e2, h4]
theorem srcH_ext {x : Bs} {k : Nat} (r : Bs) (h : srcH x = some k) : srcH (x ++ r) = some k := by
  obtain ⟨h1, h2, h3, h4⟩ := srcH_facts h
  have hne : Utf8.decode ⟨x.toArray⟩ 0 ≠ (65533, 1) := source_dec h3
  have ht := dec_app ⟨x.toArray⟩ ⟨r.toArray⟩ 0 (by rw [mk_size]; omega) hne
  rw [← mk_app] at ht
  obtain ⟨e1, e2⟩ := stC_eq ht
  unfold srcH
  rw [if_pos ⟨fun e => by have := congrArg List.length e; simp only [List.length_append, List.length_nil] at this; omega, by rw [e1]; exact h3⟩, e2, h4]
/-- Source characters alone: the first one is there. -/
theorem src_first {x : Bs} (hx : x ≠ []) (h : srcB x = none) : ∃ k, srcH x = some k := by
  rw [src_iff, sF_step _ _ (by rw [mk_size]; exact List.length_pos_iff.2 hx)] at h
  by_cases hc : sourceB (stC ⟨x.toArray⟩ 0) = true
  · exact ⟨_, if_pos ⟨hx, hc⟩⟩
  · rw [if_neg hc] at h; cases h
/-- The bytes of a character: one below 128, or all from 128 on. -/
theorem srcH_bytes {l : Bs} {k : Nat} (h : srcH l = some k) : (∃ c r, l = c :: r ∧ c.toNat < 128 ∧ k = 1 ∧ stC ⟨l.toArray⟩ 0 = (c.toNat : Int)) ∨ (128 ≤ stC ⟨l.toArray⟩ 0 ∧ ∀ c ∈ l.take k, 128 ≤ c.toNat) := by
  obtain ⟨h1, h2, h3, h4⟩ := srcH_facts h
  cases l with
  | nil => simp at h2; omega
  | cons c r =>
    have hg : (ByteArray.mk (c :: r).toArray).get! 0 = c := get_mk (c :: r) 0 (by simp)
    by_cases hc : c.toNat < 128
    · left
      have hd := dec_ascii ⟨(c :: r).toArray⟩ 0 (by rw [hg]; exact hc)
      have hs := stC_ascii ⟨(c :: r).toArray⟩ 0 (by rw [hg]; exact hc)
      refine ⟨c, r, rfl, hc, ?_, by rw [hs, hg]⟩
      unfold stW at h4
      rw [hd] at h4
      exact h4.symm
    · right
      have hne : Utf8.decode ⟨(c :: r).toArray⟩ 0 ≠ (65533, 1) := source_dec h3
      obtain ⟨g1, g2, g3⟩ := enc_of_dec ⟨(c :: r).toArray⟩ 0 (by rw [mk_size]; simp) hne
      have hst : stC ⟨(c :: r).toArray⟩ 0 = ((Utf8.decode ⟨(c :: r).toArray⟩ 0).1 : Int) := by unfold stC; rw [if_neg hne]
      have hk : (Utf8.decode ⟨(c :: r).toArray⟩ 0).2 = k := h4
      rw [hk, Nat.zero_add, take_mk] at g3
      generalize (Utf8.decode ⟨(c :: r).toArray⟩ 0).1 = n at *
      have hl := encode_list n g1
      rw [hl] at g3
      have g4 : (c :: r).take k = (encL n).map UInt8.ofNat := by
        have := congrArg (fun b : ByteArray => b.data.toList) g3
        simpa using this
      have hbig := encL_lt n (valid_char n g1).2.1
      have hn : 128 ≤ n := by
        rcases Nat.lt_or_ge n 128 with hlt | hge
        · exfalso
          unfold encL at g4
          rw [if_pos hlt] at g4
          have : (c :: r).take k = c :: r.take (k - 1) := by
            obtain ⟨j, rfl⟩ : ∃ j, k = j + 1 := ⟨k - 1, by omega⟩
            rfl
          rw [this] at g4
          have hc2 : c = UInt8.ofNat n := by
            have := congrArg List.head? g4
            simpa using this
          rw [hc2] at hc
          simp at hc
          omega
        · exact hge
      refine ⟨by rw [hst]; omega, ?_⟩
      intro d hd
      rw [g4] at hd
      obtain ⟨y, hy, rfl⟩ := List.mem_map.1 hd
      have hy2 := hbig y hy
      have hy3 : 128 ≤ y := by
        unfold encL at hy
        rw [if_neg (by omega)] at hy
        split at hy
        · simp at hy; omega
        · split at hy
          · simp at hy; omega
          · simp at hy; omega
      simp
      omega

/-! ### A string by source characters -/
/-- What a string says by the document's way: place by place; where it ends. -/
def xlF (s : Bs) : Nat → Nat → Option (Bs × Nat)
  | 0, _ => none
  | n + 1, i => match srcC s i with
    | none => none
    | some k => if bt s i = 10 ∨ bt s i = 13 then none else if bt s i = 34 then some ([], i + 1) else if bt s i = 92 then (match escS (s.drop (i + 1)) with
      | none => none
      | some p => (xlF s n (s.length - p.2.length)).map fun q => (p.1 ++ q.1, q.2)) else (xlF s n (i + k)).map fun q => ((s.drop i).take k ++ q.1, q.2)
/-- The program's way: read first, then look whether all were source characters. -/
def lineC (l : Bs) : Option (Bs × Bs) := (lineS l).bind fun p => if (srcB (ahead l p.2)).isSome then none else some p
theorem isSome_iff (o : Option Nat) : o.isSome = true ↔ ¬ o = none := by cases o <;> simp
theorem lineC_of {l t r : Bs} (h : lineS l = some (t, r)) (hs : srcB (ahead l r) = none) : lineC l = some (t, r) := by
  unfold lineC
  rw [h, Option.bind_some, if_neg (by rw [isSome_iff]; simp [hs])]
theorem lineC_bad {l t r : Bs} (h : lineS l = some (t, r)) (hs : ¬ srcB (ahead l r) = none) : lineC l = none := by
  unfold lineC
  rw [h, Option.bind_some, if_pos (by rw [isSome_iff]; exact hs)]
theorem lineC_none {l : Bs} (h : lineS l = none) : lineC l = none := by unfold lineC; rw [h]; rfl
theorem line_ahead {l t r : Bs} (h : lineS l = some (t, r)) : l = ahead l r ++ r ∧ ahead l r ≠ [] := by
  obtain ⟨x, rfl⟩ := lineF_suf _ _ _ _ h
  have hlt := lineF_lt _ _ _ _ h
  rw [ahead_app]
  refine ⟨rfl, ?_⟩
  rintro rfl
  simp at hlt
/-- No source character at the head: no string. -/
theorem lineC_no {l : Bs} (h : srcH l = none) : lineC l = none := by
  cases hl : lineS l with
  | none => exact lineC_none hl
  | some p =>
    obtain ⟨t, r⟩ := p
    obtain ⟨e, hne⟩ := line_ahead hl
    refine lineC_bad hl fun hs => ?_
    obtain ⟨k, hk⟩ := src_first hne hs
    have := srcH_ext r hk
    rw [← e, h] at this
    cases this
/-- Some bytes that are gone over one by one, source characters all of them. -/
theorem lineC_step {x l : Bs} {y : Bs} (hline : ∀ m, lineS (x ++ m) = (lineS m).map fun q => (y ++ q.1, q.2)) (hsrc : ∀ m, srcB (x ++ m) = none ↔ srcB m = none) : lineC (x ++ l) = (lineC l).map fun q => (y ++ q.1, q.2) := by
  cases hl : lineS l with
  | none =>
    rw [lineC_none hl, lineC_none (by rw [hline, hl]; rfl)]
    rfl
  | some p =>
    obtain ⟨t, r⟩ := p
    have h2 : lineS (x ++ l) = some (y ++ t, r) := by rw [hline, hl]; rfl
    obtain ⟨e, _⟩ := line_ahead hl
    have ea : ahead (x ++ l) r = x ++ ahead l r := by
      conv => lhs; rw [e, ← List.append_assoc]
      exact ahead_app _ _
    by_cases hs : srcB (ahead l r) = none
    · rw [lineC_of hl hs, lineC_of h2 (by rw [ea, hsrc]; exact hs)]
      rfl
    · rw [lineC_bad hl hs, lineC_bad h2 (by rw [ea, hsrc]; exact hs)]
      rfl
theorem hsrc_of {x : Bs} {k : Nat} (h : srcH x = some k) (hk : k = x.length) : ∀ m, srcB (x ++ m) = none ↔ srcB m = none := fun m => by
  have := src_head (srcH_ext m h)
  rw [hk, List.drop_left' rfl] at this
  exact this
theorem plain_iff (c : UInt8) (hc : 32 ≤ c.toNat ∧ c.toNat < 128) (m : Bs) : srcB (c :: m) = none ↔ srcB m = none := by
  have h : srcH [c] = some 1 := by
    have hg : (ByteArray.mk [c].toArray).get! 0 = c := get_mk [c] 0 (by simp)
    have hd := dec_ascii ⟨[c].toArray⟩ 0 (by rw [hg]; exact hc.2)
    have hs := stC_ascii ⟨[c].toArray⟩ 0 (by rw [hg]; exact hc.2)
    unfold srcH
    rw [if_pos ⟨by simp, by rw [hs, hg]; unfold sourceB; simp; omega⟩]
    unfold stW
    rw [hd]
  exact hsrc_of h rfl m
theorem esc_plain {l t r : Bs} (h : escS l = some (t, r)) : ∃ x, l = x ++ r ∧ ∀ c ∈ x, 32 ≤ c.toNat ∧ c.toNat < 128 := by
  cases l with
  | nil => cases h
  | cons c m =>
    unfold escS at h
    split at h
    · rename_i hp
      have hc : c = 117 := by
        have : (117 == c) = true := by simpa [List.isPrefixOf] using hp
        exact (beq_iff_eq.1 this).symm
      subst hc
      have hm : nmbS m = some (t, r) := h
      match m, hm with
      | a :: b :: d :: e :: m', hm =>
        rw [nmbS_four] at hm
        unfold hexQ at hm
        cases ha : hexV a with
        | none => rw [ha] at hm; cases hm
        | some x1 =>
          cases hb : hexV b with
          | none => rw [ha, hb] at hm; cases hm
          | some x2 =>
            cases hd : hexV d with
            | none => rw [ha, hb, hd] at hm; cases hm
            | some x3 =>
              cases he : hexV e with
              | none => rw [ha, hb, hd, he] at hm; cases hm
              | some x4 =>
                rw [ha, hb, hd, he] at hm
                simp only [Option.bind_some, Option.map_some, Option.some.injEq, Prod.mk.injEq] at hm
                refine ⟨[117, a, b, d, e], by rw [← hm.2]; rfl, ?_⟩
                intro z hz
                simp at hz
                rcases hz with rfl | rfl | rfl | rfl | rfl
                · decide
                · exact hexV_bd ha
                · exact hexV_bd hb
                · exact hexV_bd hd
                · exact hexV_bd he
    · simp only at h
      split at h
      · rename_i hc
        simp only [Option.some.injEq, Prod.mk.injEq] at h
        refine ⟨[c], by rw [h.2]; rfl, ?_⟩
        intro z hz
        obtain rfl : z = c := by simpa using hz
        have : z ∈ escL := List.contains_iff_mem.1 hc
        simp [escL] at this
        rcases this with rfl | rfl | rfl | rfl | rfl | rfl | rfl | rfl <;> decide
      · cases h
theorem plains_iff : ∀ (x m : Bs), (∀ c ∈ x, 32 ≤ c.toNat ∧ c.toNat < 128) → (srcB (x ++ m) = none ↔ srcB m = none)
  | [], _, _ => Iff.rfl
  | c :: x, m, h => (plain_iff c (h c List.mem_cons_self) (x ++ m)).trans (plains_iff x m fun d hd => h d (List.mem_cons_of_mem _ hd))
theorem line_his : ∀ (x m : Bs), (∀ c ∈ x, 128 ≤ c.toNat) → lineS (x ++ m) = (lineS m).map fun q => (x ++ q.1, q.2)
  | [], m, _ => by
    show lineS m = _
    cases lineS m <;> rfl
  | c :: x, m, h => by
    show lineS (c :: (x ++ m)) = _
    rw [line_hi _ (h c List.mem_cons_self), line_his x m fun d hd => h d (List.mem_cons_of_mem _ hd)]
    cases lineS m <;> rfl
/-- Both ways are one. -/
theorem xl_line (s : Bs) : ∀ (n i : Nat), s.length - i < n → (xlF s n i).map (fun q => (q.1, s.drop q.2)) = lineC (s.drop i) := by
  intro n
  induction n with
  | zero => intro i h; omega
  | succ n ih =>
    intro i hi
    unfold xlF
    cases hs : srcC s i with
    | none =>
      rw [srcC_H] at hs
      rw [lineC_no hs]
      rfl
    | some k =>
      have hH := hs
      rw [srcC_H] at hH
      obtain ⟨k1, k2, _, _⟩ := srcH_facts hH
      rw [List.length_drop] at k2
      simp only
      rcases srcH_bytes hH with ⟨c, r, hl, hc, rfl, _⟩ | ⟨_, hbig⟩
      · have hb := bt_drop s i c r hl
        have hr : s.drop (i + 1) = r := by
          have := congrArg (List.drop 1) hl
          rw [List.drop_drop] at this
          exact this
        have hcI : ∀ v : UInt8, bt s i = (v.toNat : Int) ↔ c = v := fun v => by
          rw [hb]
          constructor
          · intro e; apply UInt8.toNat_inj.1; omega
          · rintro rfl; rfl
        have e10 := hcI 10
        have e13 := hcI 13
        have e34 := hcI 34
        have e92 := hcI 92
        simp only [show ((10 : UInt8).toNat : Int) = 10 from rfl, show ((13 : UInt8).toNat : Int) = 13 from rfl, show ((34 : UInt8).toNat : Int) = 34 from rfl, show ((92 : UInt8).toNat : Int) = 92 from rfl] at e10 e13 e34 e92
        rw [hl]
        by_cases h1 : c = 10 ∨ c = 13
        · rw [if_pos (by rw [e10, e13]; exact h1)]
          rw [lineC_none]
          · rfl
          · exact lineS_end (by rcases h1 with rfl | rfl <;> rfl) (by rcases h1 with rfl | rfl <;> rfl) (by rcases h1 with rfl | rfl <;> rfl)
        · rw [if_neg (by rw [e10, e13]; exact h1)]
          by_cases h2 : c = 34
          · rw [if_pos (e34.2 h2)]
            subst h2
            have ha : ahead (34 :: r) r = [34] := ahead_app [34] r
            rw [lineC_of (lineS_stop (l := 34 :: r) rfl) (by show srcB (ahead (34 :: r) r) = none; rw [ha]; exact src_plain _ (by decide))]
            simp [hr]
          · rw [if_neg (fun e => h2 (e34.1 e))]
            by_cases h3 : c = 92
            · rw [if_pos (e92.2 h3)]
              subst h3
              rw [hr]
              have hle := lineS_esc (l := 92 :: r) rfl rfl
              simp only [List.drop_succ_cons, List.drop_zero] at hle
              cases he : escS r with
              | none =>
                rw [he] at hle
                rw [lineC_none hle]
                rfl
              | some p =>
                obtain ⟨t, r'⟩ := p
                obtain ⟨x, hx, hpl⟩ := esc_plain he
                have hsuf : r' = s.drop (s.length - r'.length) := by
                  have h8 : s.drop (i + (1 + x.length)) = r' := by
                    rw [← List.drop_drop, hl, hx, show 92 :: (x ++ r') = (92 :: x) ++ r' from rfl]
                    exact List.drop_left' (by simp; omega)
                  have h9 := congrArg List.length h8
                  rw [List.length_drop] at h9
                  have h10 := congrArg List.length hl
                  rw [List.length_drop, List.length_cons, hx, List.length_append] at h10
                  rw [show s.length - r'.length = i + (1 + x.length) by omega]
                  exact h8.symm
                have hlt : r'.length < s.length - i := by
                  have h4 := (escS_facts he).2.1
                  have h5 := congrArg List.length hl
                  rw [List.length_drop, List.length_cons] at h5
                  omega
                have ihr := ih (s.length - r'.length) (by omega)
                rw [← hsuf] at ihr
                have hstep : lineC (92 :: r) = (lineC r').map fun q => (t ++ q.1, q.2) := by
                  have := lineC_step (x := 92 :: x) (l := r') (y := t) ?_ ?_
                  · rw [hx]; exact this
                  · intro m
                    have hh := lineS_esc (l := 92 :: (x ++ m)) rfl rfl
                    simp only [List.drop_succ_cons, List.drop_zero] at hh
                    have he2 : escS (x ++ m) = some (t, m) := by
                      have h7 : escS (x ++ r') = some (t, [] ++ r') := by rw [← hx]; exact he
                      exact escS_ext m (escS_cut h7)
                    show lineS (92 :: (x ++ m)) = _
                    rw [hh, he2]
                    rfl
                  · intro m
                    exact plains_iff (92 :: x) m (by
                      intro d hd
                      rcases List.mem_cons.1 hd with rfl | hd
                      · decide
                      · exact hpl d hd)
                rw [hstep, ← ihr]
                simp only
                cases xlF s n (s.length - r'.length) <;> rfl
            · rw [if_neg (fun e => h3 (e92.1 e))]
              have hH1 : srcH [c] = some 1 := srcH_pre (x := [c]) (r := r) (by rw [hl] at hH; exact hH) (by simp)
              have hstep := lineC_step (x := [c]) (l := r) (y := [c]) (fun m => line_raw h2 h3 (by
                rw [Bool.eq_false_iff]
                intro e
                exact h1 (by simpa [endL] using e)) m) (hsrc_of hH1 rfl)
              have ihr := ih (i + 1) (by omega)
              rw [hr] at ihr
              show Option.map _ (Option.map _ (xlF s n (i + 1))) = lineC ([c] ++ r)
              rw [hstep, ← ihr]
              cases xlF s n (i + 1) <;> rfl
      · have hb128 : 128 ≤ bt s i := by
          cases hl : s.drop i with
          | nil => rw [hl] at hH; cases hH
          | cons c r =>
            rw [bt_drop s i c r hl]
            have := hbig c (by
              rw [hl]
              obtain ⟨j, rfl⟩ : ∃ j, k = j + 1 := ⟨k - 1, by omega⟩
              exact List.mem_cons_self)
            omega
        rw [if_neg (by omega), if_neg (by omega), if_neg (by omega)]
        have e := List.take_append_drop k (s.drop i)
        have hH1 : srcH ((s.drop i).take k) = some k := srcH_pre (x := (s.drop i).take k) (r := (s.drop i).drop k) (by rw [e]; exact hH) (by rw [List.length_take, List.length_drop]; omega)
        have hstep := lineC_step (x := (s.drop i).take k) (l := (s.drop i).drop k) (y := (s.drop i).take k) (fun m => line_his _ m hbig) (hsrc_of hH1 (by rw [List.length_take, List.length_drop]; omega))
        rw [e, List.drop_drop] at hstep
        have ihr := ih (i + k) (by omega)
        rw [hstep, ← ihr]
        cases xlF s n (i + k) <;> rfl
end Go.Proofs.YthficamlgngaaaaGreatDoor
