/- A document in pieces: plain mathematics. -/
import Derived.Test.YthficamlgngaaaaGreatDoorMtB
namespace Go.Proofs.YthficamlgngaaaaGreatDoor
open Go Go.RowKit

/-! ### Tokens -/
/-- What may not stand behind a token. -/
def fitX (p : Bs) : Bs := if headIn letL p then letL ++ digL else if headIn (45 :: digL) p then numX else if p = [34, 34] then [34] else []
def Fits (p r : Bs) : Prop := headIn (fitX p) r = false
def brkL : Bs := 34 :: numX
theorem fit_brk (p : Bs) (c : UInt8) (h : (fitX p).contains c = true) : brkL.contains c = true := by
  unfold fitX at h
  unfold brkL
  rw [List.contains_iff_mem] at h ⊢
  split at h
  · refine List.mem_cons_of_mem _ ?_
    rcases List.mem_append.1 h with h | h
    · exact List.mem_append_right _ (List.mem_cons_of_mem _ h)
    · exact List.mem_append_left _ h
  · split at h
    · exact List.mem_cons_of_mem _ h
    · split at h
      · have : c = 34 := by simpa using h
        rw [this]; exact List.mem_cons_self
      · cases h
/-- What begins this with a byte that may not stand behind a token began that, too. -/
def HeadC (r r' : Bs) : Prop := ∀ c m, r' = c :: m → brkL.contains c = true → ∃ m', r = c :: m'
theorem Fits.change {p r r' : Bs} (h : Fits p r) (hc : HeadC r r') : Fits p r' := by
  unfold Fits at h ⊢
  cases r' with
  | nil => rfl
  | cons c m =>
    show (fitX p).contains c = false
    rw [Bool.eq_false_iff]
    intro e
    obtain ⟨m', rfl⟩ := hc c m rfl (fit_brk p c e)
    have h' : (fitX p).contains c = false := h
    rw [e] at h'
    cases h'
theorem HeadC.refl (r : Bs) : HeadC r r := fun _ m e _ => ⟨m, e⟩
theorem HeadC.nil (r : Bs) : HeadC r [] := fun _ _ e => by cases e
theorem HeadC.not {c : UInt8} (r m : Bs) (h : brkL.contains c = false) : HeadC r (c :: m) := fun d k e hd => by
  cases e
  rw [h] at hd
  cases hd
theorem HeadC.app {a : Bs} (ha : a ≠ []) (r r' : Bs) : HeadC (a ++ r) (a ++ r') := fun c m e _ => by
  cases a with
  | nil => exact absurd rfl ha
  | cons d a =>
    cases e
    exact ⟨a ++ r, rfl⟩
theorem HeadC.app0 {a r r' : Bs} (h : HeadC r r') : HeadC (a ++ r) (a ++ r') := by
  cases a with
  | nil => exact h
  | cons d a => exact HeadC.app (by simp) r r'
theorem wrt_okX {k k' : Int} {l r t r' : Bs} (h : wrt k l r = .ok k' t r') : k = k' ∧ ahead l r = t ∧ r = r' := by
  unfold wrt at h
  cases h
  exact ⟨rfl, rfl, rfl⟩
theorem app_eq_right {a r : Bs} (h : a ++ r = r) : a = [] := List.append_left_eq_self.1 h
theorem ahead_nil (p : Bs) : ahead p [] = p := by
  unfold ahead
  simp
theorem tok_cut {p r t : Bs} {k : Int} (h : tokS (p ++ r) = .ok k t r) : tokS p = .ok k t [] ∧ Fits p r := by
  have hlt := (tokS_facts h).2
  rw [List.length_append] at hlt
  have hp : p ≠ [] := by rintro rfl; simp at hlt
  have hl : 1 ≤ p.length := by omega
  unfold tokS at h ⊢
  unfold Fits fitX
  simp only [head_app hp] at h
  by_cases h1 : headIn punL p = true
  · rw [if_pos h1] at h ⊢
    obtain ⟨rfl, ht, hr⟩ := wrt_okX h
    rw [drop_app1 1 hl] at hr
    have hd := app_eq_right hr
    have hx : ahead (p ++ r) ((p ++ r).drop 1) = p := by
      rw [drop_app1 1 hl, hr, ahead_app]
    rw [hx] at ht
    refine ⟨?_, ?_⟩
    · unfold wrt; rw [hd, ahead_nil, ht]
    · have hnl : headIn letL p = false := by
        cases p with
        | nil => rfl
        | cons c p =>
          have : c ∈ punL := List.contains_iff_mem.1 h1
          simp [punL] at this
          rcases this with rfl | rfl | rfl | rfl | rfl | rfl | rfl | rfl | rfl | rfl | rfl | rfl | rfl <;> rfl
      have hnd : headIn (45 :: digL) p = false := by
        cases p with
        | nil => rfl
        | cons c p =>
          have : c ∈ punL := List.contains_iff_mem.1 h1
          simp [punL] at this
          rcases this with rfl | rfl | rfl | rfl | rfl | rfl | rfl | rfl | rfl | rfl | rfl | rfl | rfl <;> rfl
      have hnq : p ≠ [34, 34] := by
        rintro rfl
        cases h1
      rw [hnl, hnd, if_neg (by decide), if_neg (by decide), if_neg hnq]
      cases r <;> rfl
  · rw [if_neg h1] at h ⊢
    by_cases h2 : List.isPrefixOf [46, 46, 46] (p ++ r) = true
    · rw [if_pos h2] at h
      obtain ⟨rfl, ht, hr⟩ := wrt_okX h
      have hp3 : 3 ≤ p.length := by
        have := congrArg List.length hr
        have h3 := prefix_le h2
        rw [List.length_drop, List.length_append] at this
        rw [List.length_append] at h3
        simp at h3
        omega
      rw [pre_app (by simpa using hp3)] at h2
      rw [if_pos h2]
      rw [drop_app1 3 hp3] at hr
      have hd := app_eq_right hr
      have hx : ahead (p ++ r) ((p ++ r).drop 3) = p := by
        rw [drop_app1 3 hp3, hr, ahead_app]
      rw [hx] at ht
      refine ⟨?_, ?_⟩
      · unfold wrt; rw [hd, ahead_nil, ht]
      · obtain ⟨m, rfl⟩ := List.isPrefixOf_iff_prefix.1 h2
        have e1 : headIn letL ([46, 46, 46] ++ m) = false := rfl
        have e2 : headIn (45 :: digL) ([46, 46, 46] ++ m) = false := rfl
        rw [e1, e2, if_neg (by decide), if_neg (by decide), if_neg (by intro e; cases e)]
        cases r <;> rfl
    · rw [if_neg h2] at h
      have h2' := pre_not (Bool.eq_false_iff.2 h2)
      rw [if_neg (by rw [h2']; decide)]
      by_cases h3 : headIn letL p = true
      · rw [if_pos h3] at h
        simp only [h3, if_true]
        obtain ⟨rfl, ht, hr⟩ := wrt_okX h
        rw [drop_app1 1 hl] at hr
        have hx : ahead (p ++ r) (spanR (letL ++ digL) ((p ++ r).drop 1)) = p := by
          rw [drop_app1 1 hl, hr, ahead_app]
        rw [hx] at ht
        have hf : headIn (letL ++ digL) r = false := by
          cases hh : headIn (letL ++ digL) r with
          | false => rfl
          | true =>
            exfalso
            have g1 := spanR_lt _ r hh
            -- the row goes into r
            have g2 : ∀ a : Bs, (spanR (letL ++ digL) (a ++ r)) = r → False := by
              intro a
              induction a with
              | nil => intro e; rw [List.nil_append] at e; rw [e] at g1; omega
              | cons c a ih =>
                intro e
                rw [List.cons_append] at e
                unfold spanR at e
                split at e
                · exact ih e
                · have := congrArg List.length e
                  simp at this
                  omega
            exact g2 _ hr
        rw [spanR_app _ _ hf] at hr
        have hd := app_eq_right hr
        refine ⟨?_, hf⟩
        unfold wrt
        rw [hd, ahead_nil, ht]
      · rw [if_neg h3] at h
        rw [if_neg h3, if_neg h3]
        by_cases h4 : headIn (45 :: digL) p = true
        · rw [if_pos h4] at h
          simp only [h4, if_true]
          cases hn : numS (p ++ r) with
          | none => rw [hn] at h; cases h
          | some q =>
            rw [hn] at h
            obtain ⟨e1, ht, hr⟩ := wrt_okX h
            have hq : q = (k, r) := by rw [← e1, ← hr]
            rw [hq] at hn
            obtain ⟨g1, g2⟩ := numS_cut hp hn
            rw [hr, ahead_app] at ht
            refine ⟨?_, g2⟩
            rw [g1]
            show wrt k p [] = _
            unfold wrt
            rw [ahead_nil, ht]
        · rw [if_neg h4] at h
          rw [if_neg h4, if_neg h4]
          by_cases h5 : headIn [34] p = true
          · rw [if_pos h5] at h
            rw [if_pos h5]
            cases hn : textS (p ++ r) with
            | none => rw [hn] at h; cases h
            | some q =>
              rw [hn] at h
              obtain ⟨q1, q2⟩ := q
              simp only [TR.ok.injEq] at h
              obtain ⟨rfl, rfl, rfl⟩ := h
              unfold textS textR at hn ⊢
              by_cases hb : List.isPrefixOf [34, 34, 34] (p ++ q2) = true
              · rw [if_pos hb] at hn
                cases hr : rawF ((p ++ q2).length + 1) ((p ++ q2).drop 3) with
                | none => rw [hr] at hn; cases hn
                | some u =>
                  rw [hr, Option.map_some, Option.bind_some] at hn
                  split at hn
                  · cases hn
                  · rename_i hs
                    simp only [Option.some.injEq, Prod.mk.injEq] at hn
                    obtain ⟨u1, u2⟩ := u
                    simp only at hn hs
                    obtain ⟨e1, rfl⟩ := hn
                    have h3l := rawF_lt _ _ _ _ hr
                    rw [List.length_drop, List.length_append] at h3l
                    have h3p : 3 ≤ p.length := by omega
                    rw [drop_app1 3 h3p] at hr
                    have hr2 := rawF_cut _ _ _ _ hr
                    rw [rawF_fuel _ (p.length + 1) (p.drop 3) (by rw [List.length_drop, List.length_append]; omega) (by rw [List.length_drop]; omega)] at hr2
                    rw [pre_app (by simpa using h3p)] at hb
                    rw [if_pos hb, hr2, Option.map_some, Option.bind_some]
                    rw [ahead_app] at hs
                    rw [ahead_nil, if_neg hs, e1]
                    refine ⟨rfl, ?_⟩
                    have hne : p ≠ [34, 34] := by rintro rfl; simp at h3p
                    rw [if_neg hne]
                    cases u2 <;> rfl
              · rw [if_neg hb] at hn
                cases hr : lineF ((p ++ q2).length + 1) ((p ++ q2).drop 1) with
                | none => rw [hr] at hn; cases hn
                | some u =>
                  rw [hr, Option.bind_some] at hn
                  split at hn
                  · cases hn
                  · rename_i hs
                    simp only [Option.some.injEq] at hn
                    subst hn
                    simp only at hs
                    rw [drop_app1 1 hl] at hr
                    have hr2 := lineF_cut _ _ _ _ hr
                    rw [lineF_fuel _ (p.length + 1) (p.drop 1) (by rw [List.length_drop, List.length_append]; omega) (by rw [List.length_drop]; omega)] at hr2
                    have hb2 := pre_not (Bool.eq_false_iff.2 hb)
                    rw [if_neg (by rw [hb2]; decide), hr2, Option.bind_some]
                    rw [ahead_app] at hs
                    rw [ahead_nil, if_neg hs]
                    refine ⟨rfl, ?_⟩
                    by_cases he : p = [34, 34]
                    · rw [if_pos he]
                      subst he
                      cases q2 with
                      | nil => rfl
                      | cons c m =>
                        show [34].contains c = false
                        rw [Bool.eq_false_iff]
                        intro hc
                        have hc' : c = 34 := by simpa using hc
                        subst hc'
                        exact hb rfl
                    · rw [if_neg he]
                      cases q2 <;> rfl
          · rw [if_neg h5] at h; cases h
theorem tok_ext {p r t : Bs} {k : Int} (h : tokS p = .ok k t []) (hf : Fits p r) : tokS (p ++ r) = .ok k t r := by
  have hlt := (tokS_facts h).2
  simp only [List.length_nil] at hlt
  have hp : p ≠ [] := by rintro rfl; simp at hlt
  have hl : 1 ≤ p.length := by omega
  unfold Fits fitX at hf
  unfold tokS at h ⊢
  simp only [head_app hp]
  by_cases h1 : headIn punL p = true
  · rw [if_pos h1] at h ⊢
    obtain ⟨rfl, ht, hr⟩ := wrt_okX h
    rw [hr, ahead_nil] at ht
    unfold wrt
    rw [drop_app1 1 hl, hr, List.nil_append, ahead_app, ht]
  · rw [if_neg h1] at h ⊢
    by_cases h2 : List.isPrefixOf [46, 46, 46] p = true
    · rw [if_pos h2] at h
      have h3 := prefix_le h2
      rw [pre_app h3, if_pos h2]
      obtain ⟨rfl, ht, hr⟩ := wrt_okX h
      rw [hr, ahead_nil] at ht
      unfold wrt
      rw [drop_app1 3 (by simpa using h3), hr, List.nil_append, ahead_app, ht]
    · rw [if_neg h2] at h
      have h2' : List.isPrefixOf [46, 46, 46] (p ++ r) = false := by
        rw [Bool.eq_false_iff]
        intro hx
        -- a token does not begin with a single dot
        cases p with
        | nil => exact hp rfl
        | cons c p =>
          have hc : c = 46 := by
            obtain ⟨m, hm⟩ := List.isPrefixOf_iff_prefix.1 hx
            simp at hm
            exact hm.1.symm
          subst hc
          have e : ∀ q : Bs, headIn letL (46 :: q) = false ∧ headIn (45 :: digL) (46 :: q) = false ∧ headIn [34] (46 :: q) = false := fun q => ⟨rfl, rfl, rfl⟩
          obtain ⟨e1, e2, e3⟩ := e p
          rw [e1, e2, e3, if_neg (by decide), if_neg (by decide), if_neg (by decide)] at h
          cases h
      rw [if_neg (by rw [h2']; decide)]
      by_cases h3 : headIn letL p = true
      · rw [if_pos h3] at h
        rw [if_pos h3] at hf ⊢
        obtain ⟨rfl, ht, hr⟩ := wrt_okX h
        rw [hr, ahead_nil] at ht
        unfold wrt
        rw [drop_app1 1 hl, spanR_app _ _ hf, hr, List.nil_append, ahead_app, ht]
      · rw [if_neg h3] at h
        rw [if_neg h3] at hf ⊢
        by_cases h4 : headIn (45 :: digL) p = true
        · rw [if_pos h4] at h
          rw [if_pos h4] at hf ⊢
          cases hn : numS p with
          | none => rw [hn] at h; cases h
          | some q =>
            rw [hn] at h
            obtain ⟨e1, ht, hr⟩ := wrt_okX h
            have hq : q = (k, []) := by rw [← e1, ← hr]
            rw [hq] at hn
            rw [numS_ext hn hf]
            rw [hr, ahead_nil] at ht
            show wrt k (p ++ r) r = _
            unfold wrt
            rw [ahead_app, ht]
        · rw [if_neg h4] at h
          rw [if_neg h4] at hf ⊢
          by_cases h5 : headIn [34] p = true
          · rw [if_pos h5] at h ⊢
            cases hn : textS p with
            | none => rw [hn] at h; cases h
            | some q =>
              rw [hn] at h
              obtain ⟨q1, q2⟩ := q
              simp only [TR.ok.injEq] at h
              obtain ⟨rfl, rfl, rfl⟩ := h
              have hgoal : textS (p ++ r) = some (q1, r) := by
                unfold textS textR at hn ⊢
                by_cases hb : List.isPrefixOf [34, 34, 34] p = true
                · rw [if_pos hb] at hn
                  have h3p := prefix_le hb
                  rw [pre_app h3p, if_pos hb]
                  simp only [List.length_cons, List.length_nil] at h3p
                  cases hr : rawF (p.length + 1) (p.drop 3) with
                  | none => rw [hr] at hn; cases hn
                  | some u =>
                    rw [hr, Option.map_some, Option.bind_some] at hn
                    split at hn
                    · cases hn
                    · rename_i hs
                      simp only [Option.some.injEq, Prod.mk.injEq] at hn
                      obtain ⟨u1, u2⟩ := u
                      simp only at hn hs
                      obtain ⟨e1, rfl⟩ := hn
                      rw [rawF_fuel _ ((p ++ r).length + 1) (p.drop 3) (by rw [List.length_drop]; omega) (by rw [List.length_drop, List.length_append]; omega)] at hr
                      rw [drop_app1 3 (by omega), rawF_ext _ _ r _ hr, Option.map_some, Option.bind_some]
                      rw [ahead_nil] at hs
                      rw [ahead_app, if_neg hs, e1]
                · rw [if_neg hb] at hn
                  cases hr : lineF (p.length + 1) (p.drop 1) with
                  | none => rw [hr] at hn; cases hn
                  | some u =>
                    rw [hr, Option.bind_some] at hn
                    split at hn
                    · cases hn
                    · rename_i hs
                      simp only [Option.some.injEq] at hn
                      subst hn
                      simp only at hs
                      have hl2 := lineF_lt _ _ _ _ hr
                      simp only [List.length_nil, List.length_drop] at hl2
                      have hb2 : List.isPrefixOf [34, 34, 34] (p ++ r) = false := by
                        by_cases h3p : 3 ≤ p.length
                        · rw [pre_app (by simpa using h3p)]; exact Bool.eq_false_iff.2 hb
                        · obtain ⟨c, d, rfl⟩ : ∃ c d, p = [c, d] := by
                            match p, hl2, h3p with
                            | [c, d], _, _ => exact ⟨c, d, rfl⟩
                            | [c], h, _ => simp at h
                            | [], h, _ => simp at h
                            | _ :: _ :: _ :: _, _, h => exact absurd (by simp) h
                          rw [Bool.eq_false_iff]
                          intro hx
                          obtain ⟨m, hm⟩ := List.isPrefixOf_iff_prefix.1 hx
                          simp at hm
                          obtain ⟨rfl, rfl, hm⟩ := hm
                          rw [if_pos rfl, ← hm] at hf
                          cases hf
                      rw [if_neg (by rw [hb2]; decide)]
                      rw [lineF_fuel _ ((p ++ r).length + 1) (p.drop 1) (by rw [List.length_drop]; omega) (by rw [List.length_drop, List.length_append]; omega)] at hr
                      rw [drop_app1 1 (by omega), lineF_ext _ _ r _ hr, Option.bind_some]
                      rw [ahead_nil] at hs
                      rw [ahead_app, if_neg hs]
              rw [hgoal]
          · rw [if_neg h5] at h; cases h
/-- A token's first byte is none that is ignored. -/
theorem tok_head {c : UInt8} {l t r : Bs} {k : Int} (h : tokS (c :: l) = .ok k t r) : skipS (c :: l) = .inl (c :: l) := by
  have hx : ∀ d : UInt8, (ignL.contains d = true ∨ d = 239 ∨ d = 35) → ∀ m, tokS (d :: m) = .bad 50 := by
    intro d hd m
    have : d = 9 ∨ d = 32 ∨ d = 10 ∨ d = 13 ∨ d = 44 ∨ d = 239 ∨ d = 35 := by
      rcases hd with hd | hd | hd
      · simp [ignL] at hd
        rcases hd with hd | hd | hd | hd | hd <;> simp [hd]
      · simp [hd]
      · simp [hd]
    rcases this with rfl | rfl | rfl | rfl | rfl | rfl | rfl <;> rfl
  have h1 : headIn ignL (c :: l) = false := by
    rw [Bool.eq_false_iff]
    intro e
    rw [hx c (Or.inl e) l] at h
    cases h
  have h2 : List.isPrefixOf [239, 187, 191] (c :: l) = false := by
    rw [Bool.eq_false_iff]
    intro e
    obtain ⟨m, hm⟩ := List.isPrefixOf_iff_prefix.1 e
    simp at hm
    rw [hx c (Or.inr (Or.inl hm.1.symm)) l] at h
    cases h
  have h3 : comS (c :: l) = none := by
    unfold comS
    rw [if_neg]
    intro e
    obtain ⟨m, hm⟩ := List.isPrefixOf_iff_prefix.1 e
    simp at hm
    rw [hx c (Or.inr (Or.inr hm.1.symm)) l] at h
    cases h
  rw [skipS_com h1 h2, h3]
end Go.Proofs.YthficamlgngaaaaGreatDoor
namespace Go.Proofs.YthficamlgngaaaaGreatDoor
open Go Go.RowKit

/-! ### A document in pieces -/
/-- What is ignored ahead of a token, the token's bytes, its kind, its text. -/
structure Pc where
  g : Bs
  p : Bs
  k : Int
  t : Bs
def catP : List Pc → Bs → Bs
  | [], tl => tl
  | a :: az, tl => a.g ++ (a.p ++ catP az tl)
def AllOk : List Pc → Bs → Prop
  | [], _ => True
  | a :: az, tl => Gap a.g ∧ tokS a.p = .ok a.k a.t [] ∧ Fits a.p (catP az tl) ∧ AllOk az tl
def toksP (N : Nat) : List Pc → Bs → List Tok
  | [], _ => []
  | a :: az, tl => ⟨a.k, a.t, N - (a.p ++ catP az tl).length, N - (catP az tl).length⟩ :: toksP N az tl
/-- Kinds and texts. -/
def saysP (ps : List Pc) : List (Int × Bs) := ps.map fun a => (a.k, a.t)
def saysT (ts : List Tok) : List (Int × Bs) := ts.map fun x => (x.k, x.t)
theorem toksP_len (N : Nat) : ∀ (ps : List Pc) (tl : Bs), (toksP N ps tl).length = ps.length
  | [], _ => rfl
  | a :: az, tl => by simp [toksP, toksP_len N az tl]
theorem toksP_says (N : Nat) : ∀ (ps : List Pc) (tl : Bs), saysT (toksP N ps tl) = saysP ps
  | [], _ => rfl
  | a :: az, tl => by
    have := toksP_says N az tl
    unfold saysT saysP at this
    simp [toksP, saysT, saysP, this]
theorem catP_app : ∀ (ps qs : List Pc) (tl : Bs), catP (ps ++ qs) tl = catP ps (catP qs tl)
  | [], _, _ => rfl
  | a :: az, qs, tl => by
    show a.g ++ (a.p ++ catP (az ++ qs) tl) = a.g ++ (a.p ++ catP az (catP qs tl))
    rw [catP_app az qs tl]
theorem catP_end : ∀ (ps : List Pc) (x y : Bs), catP ps x ++ y = catP ps (x ++ y)
  | [], _, _ => rfl
  | a :: az, x, y => by
    show a.g ++ (a.p ++ catP az x) ++ y = a.g ++ (a.p ++ catP az (x ++ y))
    rw [List.append_assoc, List.append_assoc, catP_end az x y]
theorem catP_head : ∀ (ps : List Pc) (tl : Bs), catP ps tl = catP ps [] ++ tl
  | ps, tl => by rw [catP_end, List.nil_append]
theorem tok_ne {p t r : Bs} {k : Int} (h : tokS p = .ok k t r) : p ≠ [] := by
  rintro rfl
  have := (tokS_facts h).2
  simp at this
theorem headC_cat {tl tl' : Bs} (hc : HeadC tl tl') : ∀ (ps : List Pc), HeadC (catP ps tl) (catP ps tl')
  | [] => hc
  | _ :: az => (HeadC.app0 (HeadC.app0 (headC_cat hc az)))
theorem AllOk.change {tl tl' : Bs} (hc : HeadC tl tl') : ∀ (ps : List Pc), AllOk ps tl → AllOk ps tl'
  | [], _ => trivial
  | _ :: az, ⟨h1, h2, h3, h4⟩ => ⟨h1, h2, h3.change (headC_cat hc az), AllOk.change hc az h4⟩
theorem AllOk.split : ∀ (ps qs : List Pc) (tl : Bs), AllOk (ps ++ qs) tl → AllOk ps (catP qs tl) ∧ AllOk qs tl
  | [], _, _, h => ⟨trivial, h⟩
  | a :: az, qs, tl, ⟨h1, h2, h3, h4⟩ => by
    obtain ⟨g1, g2⟩ := AllOk.split az qs tl h4
    exact ⟨⟨h1, h2, by rw [← catP_app]; exact h3, g1⟩, g2⟩
theorem AllOk.join : ∀ (ps qs : List Pc) (tl : Bs), AllOk ps (catP qs tl) → AllOk qs tl → AllOk (ps ++ qs) tl
  | [], _, _, _, h => h
  | a :: az, qs, tl, ⟨h1, h2, h3, h4⟩, h => ⟨h1, h2, by show Fits a.p (catP (az ++ qs) tl); rw [catP_app]; exact h3, AllOk.join az qs tl h4 h⟩
theorem skip_tok {g p t r : Bs} {k : Int} (hg : Gap g) (h : tokS p = .ok k t r) (m : Bs) : skipS (g ++ (p ++ m)) = .inl (p ++ m) := by
  rw [hg]
  cases p with
  | nil => exact absurd rfl (tok_ne h)
  | cons c p =>
    have hx := tok_head h
    -- the first byte alone decides
    have e1 : headIn ignL (c :: p) = false := by
      rw [Bool.eq_false_iff]
      intro e
      have := skip_one e p
      rw [hx] at this
      have h2 := (skipS_suf this.symm).length_le
      simp at h2
      omega
    have e2 : c ≠ 239 := by
      rintro rfl
      have : tokS (239 :: p) = .bad 50 := rfl
      rw [this] at h
      cases h
    have e3 : c ≠ 35 := by
      rintro rfl
      have : tokS (35 :: p) = .bad 50 := rfl
      rw [this] at h
      cases h
    have f2 : List.isPrefixOf [239, 187, 191] (c :: (p ++ m)) = false := by
      rw [Bool.eq_false_iff]
      intro e
      obtain ⟨q, hq⟩ := List.isPrefixOf_iff_prefix.1 e
      simp at hq
      exact e2 hq.1.symm
    have f3 : comS (c :: (p ++ m)) = none := by
      unfold comS
      rw [if_neg]
      intro e
      obtain ⟨q, hq⟩ := List.isPrefixOf_iff_prefix.1 e
      simp at hq
      exact e3 hq.1.symm
    show skipS (c :: (p ++ m)) = .inl (c :: (p ++ m))
    rw [skipS_com (l := c :: (p ++ m)) e1 f2, f3]
theorem lexG_piece {N c : Nat} {a : Pc} {m : Bs} (hg : Gap a.g) (ht : tokS a.p = .ok a.k a.t []) (hf : Fits a.p m) (hc : c < 2048) : lexG N c (a.g ++ (a.p ++ m)) = withL [⟨a.k, a.t, N - (a.p ++ m).length, N - m.length⟩] (lexG N (c + 1) m) := by
  have h1 := skip_tok hg ht m
  have h2 := tok_ext ht hf
  cases hp : a.p ++ m with
  | nil =>
    have := tok_ne h2
    exact absurd hp this
  | cons x l1 =>
    rw [hp] at h1 h2
    exact lexG_ok h1 (by omega) h2
theorem lexG_cat {N : Nat} : ∀ (ps : List Pc) (tl : Bs) (c : Nat), AllOk ps tl → c + ps.length ≤ 2048 → lexG N c (catP ps tl) = withL (toksP N ps tl) (lexG N (c + ps.length) tl)
  | [], tl, c, _, _ => (withL_nil _).symm
  | a :: az, tl, c, ⟨h1, h2, h3, h4⟩, hc => by
    simp only [List.length_cons] at hc
    show lexG N c (a.g ++ (a.p ++ catP az tl)) = _
    rw [lexG_piece h1 h2 h3 (by omega), lexG_cat az tl (c + 1) h4 (by omega), withL_withL]
    rw [List.length_cons, Nat.add_assoc, Nat.add_comm 1]
    rfl
/-- Where it ends. -/
def FinP (c : Nat) (tl : Bs) : Prop := skipS tl = .inl [] ∨ (∃ k, skipS tl = .inr k) ∨ ∃ x l1, skipS tl = .inl (x :: l1) ∧ (c = 2048 ∨ ∃ e, tokS (x :: l1) = .bad e)
theorem lex_dec : ∀ (n c : Nat) (l : Bs), l.length ≤ n → c ≤ 2048 → ∃ ps tl, l = catP ps tl ∧ AllOk ps tl ∧ c + ps.length ≤ 2048 ∧ FinP (c + ps.length) tl := by
  intro n
  induction n with
  | zero =>
    intro c l hl hc
    obtain rfl : l = [] := List.length_eq_zero_iff.1 (by omega)
    exact ⟨[], [], rfl, trivial, by simpa using hc, Or.inl skip_nil⟩
  | succ n ih =>
    intro c l hl hc
    have hp := skip_parts l
    cases hs : skipS l with
    | inr k => exact ⟨[], l, rfl, trivial, by simpa using hc, Or.inr (Or.inl ⟨k, hs⟩)⟩
    | inl q =>
      cases q with
      | nil => exact ⟨[], l, rfl, trivial, by simpa using hc, Or.inl hs⟩
      | cons x l1 =>
        by_cases h8 : c = 2048
        · exact ⟨[], l, rfl, trivial, by simpa using hc, Or.inr (Or.inr ⟨x, l1, hs, Or.inl (by simpa using h8)⟩)⟩
        · cases ht : tokS (x :: l1) with
          | bad e => exact ⟨[], l, rfl, trivial, by simpa using hc, Or.inr (Or.inr ⟨x, l1, hs, Or.inr ⟨e, ht⟩⟩)⟩
          | ok k t r =>
            rw [hs] at hp
            obtain ⟨g, hg1, hg2⟩ := hp
            obtain ⟨⟨p, hp1⟩, hp2⟩ := tokS_facts ht
            have ht2 := ht
            rw [← hp1] at ht2
            obtain ⟨h1, h2⟩ := tok_cut ht2
            have hlen : r.length ≤ n := by
              have := congrArg List.length hg1
              rw [List.length_append] at this
              omega
            obtain ⟨ps, tl, e1, e2, e3, e4⟩ := ih (c + 1) r hlen (by omega)
            refine ⟨⟨g, p, k, t⟩ :: ps, tl, ?_, ⟨hg2, h1, by rw [← e1]; exact h2, e2⟩, by simp only [List.length_cons]; omega, ?_⟩
            · show l = g ++ (p ++ catP ps tl)
              rw [← e1, hp1, hg1]
            · rw [List.length_cons, ← Nat.add_assoc, Nat.add_right_comm]
              exact e4
/-- A document that is right. -/
structure Right (s : Bs) (ps : List Pc) (tl : Bs) : Prop where
  cat : s = catP ps tl
  ok : AllOk ps tl
  few : ps.length ≤ 2048
  fin : skipS tl = .inl []
  short : s.length ≤ 16384
theorem lexS_right {s : Bs} {ps : List Pc} {tl : Bs} (h : Right s ps tl) : lexS s = .inr (toksP s.length ps tl) := by
  unfold lexS
  rw [if_neg (by have := h.short; omega)]
  show lexG s.length 0 s = _
  have e := lexG_cat (N := s.length) ps tl 0 h.ok (by have := h.few; omega)
  rw [lexG_end h.fin, ← h.cat] at e
  rw [e]
  simp [withL]
theorem right_of {s : Bs} {ts : List Tok} (h : lexS s = .inr ts) : ∃ ps tl, Right s ps tl ∧ ts = toksP s.length ps tl := by
  unfold lexS at h
  by_cases hl : 16384 < s.length
  · rw [if_pos hl] at h; cases h
  · rw [if_neg hl] at h
    have h' : lexG s.length 0 s = .inr ts := h
    obtain ⟨ps, tl, e1, e2, e3, e4⟩ := lex_dec s.length 0 s (Nat.le_refl _) (by omega)
    have e := lexG_cat (N := s.length) ps tl 0 e2 e3
    rw [← e1, h'] at e
    rcases e4 with hf | ⟨k, hf⟩ | ⟨x, l1, hf, h8 | ⟨b, hb⟩⟩
    · rw [lexG_end hf] at e
      simp only [withL, List.append_nil, Sum.inr.injEq] at e
      exact ⟨ps, tl, ⟨e1, e2, by omega, hf, by omega⟩, e⟩
    · rw [lexG_wrong hf] at e; cases e
    · rw [lexG_many hf h8] at e; cases e
    · by_cases h8 : 0 + ps.length = 2048
      · rw [lexG_many hf h8] at e; cases e
      · rw [lexG_bad hf h8 hb] at e; cases e
theorem bad_codes {l : Bs} {e : Int} (h : tokS l = .bad e) : e = 50 ∨ e = 51 ∨ e = 52 := by
  unfold tokS wrt at h
  repeat' split at h
  all_goals first | (cases h; omega) | (cases h)
/-- A document that is wrong: all ahead of that place is right. -/
theorem wrong_of (cut : ∀ (x : Bs) (k : Nat), srcB (35 :: x) = some k → ∃ j, k = j + 1 ∧ j < x.length ∧ srcB (35 :: x.take j) = none) {s : Bs} {b : Nat} {e : Int} (h : lexS s = .inl (b, e)) : (e = 54 ∧ b = 0) ∨ (e ≠ 54 ∧ e ≠ 0 ∧ b ≤ s.length ∧ ∃ ts, lexS (s.take b) = .inr ts) := by
  unfold lexS at h
  by_cases hl : 16384 < s.length
  · rw [if_pos hl] at h; cases h; exact Or.inl ⟨rfl, rfl⟩
  · rw [if_neg hl] at h
    right
    have h' : lexG s.length 0 s = .inl (b, e) := h
    obtain ⟨ps, tl, e1, e2, e3, e4⟩ := lex_dec s.length 0 s (Nat.le_refl _) (by omega)
    have ee := lexG_cat (N := s.length) ps tl 0 e2 e3
    rw [← e1, h'] at ee
    have hN : s.length = (catP ps []).length + tl.length := by
      conv => lhs; rw [e1, catP_head ps tl, List.length_append]
    have hcut : ∀ tl' : Bs, tl' <+: tl → skipS tl' = .inl [] → b = (catP ps []).length + tl'.length → ∃ ts, lexS (s.take b) = .inr ts := by
      intro tl' hpre hsk hb
      obtain ⟨m, rfl⟩ := hpre
      have hs : s.take b = catP ps tl' := by
        rw [e1, ← catP_end, List.take_left' (by rw [hb, ← List.length_append, ← catP_head])]
      have hc : HeadC (tl' ++ m) tl' := by
        cases tl' with
        | nil => exact HeadC.nil _
        | cons c q => exact fun d k e _ => by cases e; exact ⟨_, rfl⟩
      exact ⟨_, lexS_right ⟨hs, AllOk.change hc ps e2, by omega, hsk, by rw [List.length_take]; omega⟩⟩
    have hp := skip_parts tl
    rcases e4 with hf | ⟨k, hf⟩ | ⟨x, l1, hf, hx⟩
    · rw [lexG_end hf] at ee; cases ee
    · rw [lexG_wrong hf] at ee
      simp only [withL, Sum.inl.injEq, Prod.mk.injEq] at ee
      obtain ⟨rfl, rfl⟩ := ee
      refine ⟨by decide, by decide, by omega, ?_⟩
      rw [hf] at hp
      obtain ⟨q, c, j, g1, g2, g3, g4⟩ := hp
      obtain ⟨body, r, rfl, b1, b2, b3⟩ := com_parts g3
      cases hs : srcB (35 :: body) with
      | none => rw [hs] at b3; cases b3
      | some k' =>
        rw [hs] at b3
        simp only [Sum.inr.injEq] at b3
        subst b3
        obtain ⟨j', rfl, hj, hj2⟩ := cut _ _ hs
        have hm : comS (35 :: (body.take j' ++ [])) = some (.inl []) := com_make (fun c hc => b1 c (List.mem_of_mem_take hc)) (fun c m e => by cases e) hj2
        rw [List.append_nil] at hm
        refine hcut (q ++ 35 :: body.take j') ?_ ?_ ?_
        · refine ⟨body.drop j' ++ r, ?_⟩
          rw [g1, List.append_assoc, List.cons_append, ← List.append_assoc (body.take j'), List.take_append_drop]
        · rw [g2, skip_com hm, skip_nil]
        · have := congrArg List.length g1
          simp only [List.length_append, List.length_cons] at this
          simp only [List.length_append, List.length_cons, List.length_take] at g4 ⊢
          omega
    · rw [hf] at hp
      obtain ⟨q, g1, g2⟩ := hp
      have hb : b = s.length - (x :: l1).length ∧ e ≠ 54 ∧ e ≠ 0 := by
        by_cases h8 : 0 + ps.length = 2048
        · rw [lexG_many hf h8] at ee
          simp only [withL, Sum.inl.injEq, Prod.mk.injEq] at ee
          exact ⟨ee.1, by omega, by omega⟩
        · rcases hx with h8' | ⟨y, hy⟩
          · exact absurd h8' h8
          · rw [lexG_bad hf h8 hy] at ee
            simp only [withL, Sum.inl.injEq, Prod.mk.injEq] at ee
            have := bad_codes hy
            exact ⟨ee.1, by omega, by omega⟩
      refine ⟨hb.2.1, hb.2.2, by omega, hcut q ⟨x :: l1, g1.symm⟩ ?_ ?_⟩
      · have := g2 []
        rw [List.append_nil] at this
        rw [this, skip_nil]
      · have := congrArg List.length g1
        rw [List.length_append] at this
        omega
end Go.Proofs.YthficamlgngaaaaGreatDoor
