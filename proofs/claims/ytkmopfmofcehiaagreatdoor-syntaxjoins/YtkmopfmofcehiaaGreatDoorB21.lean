/- Where a document is wrong: plain mathematics. -/
import Derived.Test.YtkmopfmofcehiaaGreatDoorB15
import Derived.Test.YtkmopfmofcehiaaGreatDoorB14
import Derived.Test.YtkmopfmofcehiaaGreatDoorB12
namespace Go.Proofs.YtkmopfmofcehiaaGreatDoor
open Go Go.RowKit

theorem lexS_codes {s : Bs} {b : Nat} {e : Int} (h : lexS s = .inl (b, e)) : b ≤ s.length ∧ 50 ≤ e ∧ e ≤ 54 := by
  unfold lexS at h
  by_cases hl : 16384 < s.length
  · rw [if_pos hl] at h
    cases h
    exact ⟨Nat.zero_le _, by decide, by decide⟩
  · rw [if_neg hl] at h
    have h' : lexG s.length 0 s = .inl (b, e) := h
    obtain ⟨ps, tl, e1, e2, e3, e4⟩ := lex_dec s.length 0 s (Nat.le_refl _) (by omega)
    have ee := lexG_cat (N := s.length) ps tl 0 e2 e3
    rw [← e1, h'] at ee
    rcases e4 with hf | ⟨k, hf⟩ | ⟨x, l1, hf, hx⟩
    · rw [lexG_end hf] at ee; cases ee
    · rw [lexG_wrong hf] at ee
      simp only [withL, Sum.inl.injEq, Prod.mk.injEq] at ee
      obtain ⟨rfl, rfl⟩ := ee
      exact ⟨by omega, by decide, by decide⟩
    · by_cases h8 : 0 + ps.length = 2048
      · rw [lexG_many hf h8] at ee
        simp only [withL, Sum.inl.injEq, Prod.mk.injEq] at ee
        obtain ⟨rfl, rfl⟩ := ee
        exact ⟨by omega, by decide, by decide⟩
      · rcases hx with h8' | ⟨y, hy⟩
        · exact absurd h8' h8
        · rw [lexG_bad hf h8 hy] at ee
          simp only [withL, Sum.inl.injEq, Prod.mk.injEq] at ee
          have := bad_codes hy
          obtain ⟨rfl, rfl⟩ := ee
          exact ⟨by omega, by omega, by omega⟩
theorem catP_len (ps : List Pc) (x : Bs) : (catP ps x).length = (catP ps []).length + x.length := by
  rw [catP_head ps x, List.length_append]
theorem toksP_shift : ∀ (ps : List Pc) (x y : Bs) (N M : Nat), N + y.length = M + x.length → (catP ps x).length ≤ N → toksP N ps x = toksP M ps y
  | [], _, _, _, _, _, _ => rfl
  | a :: az, x, y, N, M, h, hN => by
    have l0 : (catP (a :: az) x).length = a.g.length + (a.p.length + (catP az x).length) := by
      show (a.g ++ (a.p ++ catP az x)).length = _
      rw [List.length_append, List.length_append]
    have l1 := catP_len az x
    have l2 := catP_len az y
    show (⟨a.k, a.t, N - (a.p ++ catP az x).length, N - (catP az x).length⟩ : Tok) :: toksP N az x = ⟨a.k, a.t, M - (a.p ++ catP az y).length, M - (catP az y).length⟩ :: toksP M az y
    rw [toksP_shift az x y N M h (by omega)]
    simp only [List.length_append]
    congr 2 <;> omega
theorem toksP_rise : ∀ (ps : List Pc) (tl : Bs) (N : Nat), AllOk ps tl → (catP ps tl).length ≤ N → List.Pairwise (fun x y : Tok => x.b < y.b) (toksP N ps tl ++ [eofT N]) ∧ ∀ x ∈ toksP N ps tl ++ [eofT N], N - (catP ps tl).length ≤ x.b
  | [], tl, N, _, _ => ⟨by simp [toksP], fun x hx => by
      have : x = eofT N := by simpa [toksP] using hx
      rw [this]; exact Nat.sub_le _ _⟩
  | a :: az, tl, N, ⟨_, h2, _, h4⟩, hN => by
    have l0 : (catP (a :: az) tl).length = a.g.length + (a.p.length + (catP az tl).length) := by
      show (a.g ++ (a.p ++ catP az tl)).length = _
      rw [List.length_append, List.length_append]
    have hp : 0 < a.p.length := List.length_pos_iff.2 (tok_ne h2)
    obtain ⟨g1, g2⟩ := toksP_rise az tl N h4 (by omega)
    have l1 : (a.p ++ catP az tl).length = a.p.length + (catP az tl).length := List.length_append
    refine ⟨List.pairwise_cons.2 ⟨fun y hy => ?_, g1⟩, fun x hx => ?_⟩
    · have := g2 y hy
      show N - (a.p ++ catP az tl).length < y.b
      omega
    · rcases List.mem_cons.1 hx with rfl | hx
      · show _ ≤ N - (a.p ++ catP az tl).length
        omega
      · have := g2 x hx
        omega
/-- What stands ahead of a token, by itself. -/
theorem right_take {s : Bs} {az bs : List Pc} {a : Pc} {tl : Bs} (h : Right s (az ++ a :: bs) tl) : Right (s.take (preLx az + a.g.length)) az a.g ∧ (s.take (preLx az + a.g.length)).length = preLx az + a.g.length := by
  obtain ⟨_, h1, _, h3, _⟩ := piece_at h
  obtain ⟨o1, o2, _⟩ := AllOk.split az (a :: bs) tl h.ok
  have hl : (s.take (preLx az + a.g.length)).length = preLx az + a.g.length := by rw [List.length_take]; omega
  have hs := h.short
  have hf := h.few
  rw [List.length_append] at hf
  refine ⟨⟨h1, AllOk.change ?_ az o1, by omega, ?_, by omega⟩, hl⟩
  · show HeadC (a.g ++ (a.p ++ catP bs tl)) a.g
    cases hg : a.g with
    | nil => exact HeadC.nil _
    | cons c q => exact fun d k e _ => by cases e; exact ⟨_, rfl⟩
  · have := o2 []
    rw [List.append_nil] at this
    rw [this, skip_nil]
/-- A document's error that is no token's. -/
theorem parse_places {s : Bs} {ts : List Tok} {p : Nat} {e : Int} (hs : lexS s = .inr ts) (hd : docS (ts ++ [eofT s.length]) = .error (p, e)) :
    (e = 60 ∨ e = 61) ∧ p ≤ s.length ∧ (∃ us, lexS (s.take p) = .inr us) ∧ ((∃ xs, xs ≠ [] ∧ parseS (s.take p) = .ok (docC xs)) ∨ parseS (s.take p) = .error (p, 60)) := by
  obtain ⟨ps, tl, hr, rfl⟩ := right_of hs
  have hne : NoE (toksP s.length ps tl) := (lexS_full hs).2.2
  have hcl : (catP ps tl).length ≤ s.length := by rw [← hr.cat]; exact Nat.le_refl _
  obtain ⟨hi, _⟩ := toksP_rise ps tl s.length hr.ok hcl
  obtain ⟨he, i, hil, hp, hM⟩ := doc_places hne hi hd
  refine ⟨he, ?_⟩
  rw [toksP_len] at hil
  rcases Nat.lt_or_ge i ps.length with hlt | hge
  · obtain ⟨az, a, bs, hps, haz⟩ : ∃ az a bs, ps = az ++ a :: bs ∧ az.length = i := ⟨ps.take i, ps[i], ps.drop (i + 1), by simp, by simp; omega⟩
    subst hps
    obtain ⟨hR, hl⟩ := right_take hr
    obtain ⟨_, _, _, hle, _⟩ := piece_at hr
    have hcat : (catP (a :: bs) tl).length = a.g.length + (a.p ++ catP bs tl).length := List.length_append
    have hlen : s.length = preLx az + a.g.length + (a.p ++ catP bs tl).length := by
      have := congrArg List.length hr.cat
      rw [catP_app, catP_len az, hcat] at this
      unfold preLx
      omega
    have e1 : toksP s.length (az ++ a :: bs) tl = toksP s.length az (catP (a :: bs) tl) ++ toksP s.length (a :: bs) tl := toksP_app _ _ _ _
    have hz : (toksP s.length az (catP (a :: bs) tl)).length = i := by rw [toksP_len]; exact haz
    have hp' : p = preLx az + a.g.length := by
      rw [hp, e1, List.drop_left' hz]
      show s.length - (a.p ++ catP bs tl).length = _
      omega
    rw [← hp'] at hR hl
    have e2 : toksP p az a.g = toksP s.length az (catP (a :: bs) tl) := by
      refine (toksP_shift az _ _ _ _ ?_ ?_).symm
      · rw [hcat]; omega
      · rw [catP_len, hcat]; unfold preLx at hlen; omega
    have hL := lexS_right hR
    rw [hl, e2] at hL
    refine ⟨by omega, ⟨_, hL⟩, ?_⟩
    have hm := hM p
    rw [e1, List.take_left' hz] at hm
    unfold parseS
    rw [hL]
    simp only [hl]
    rcases hm with ⟨xs, h1, h2⟩ | h2
    · exact .inl ⟨xs, h1, by rw [h2]⟩
    · exact .inr (by rw [h2])
  · have hps : (toksP s.length ps tl).length ≤ i := by rw [toksP_len]; exact hge
    rw [List.drop_eq_nil_of_le hps] at hp
    obtain rfl : p = s.length := hp
    rw [List.take_length]
    refine ⟨Nat.le_refl _, ⟨_, hs⟩, ?_⟩
    have hm := hM s.length
    rw [List.take_of_length_le hps] at hm
    unfold parseS
    rw [hs]
    simp only
    rcases hm with ⟨xs, h1, h2⟩ | h2
    · exact .inl ⟨xs, h1, by rw [h2]⟩
    · exact .inr (by rw [h2])
theorem any_few {α : Type} {f : List Tok → Rs α} (he : Eats f) (last : Bs) : ∀ (n : Nat) (l m : List Tok) (xs : List α), l.length ≤ n → anyS f last l = .ok (xs, m) → xs.length + m.length ≤ l.length := by
  intro n
  induction n with
  | zero =>
    intro l m xs hl h
    have := anyS_eats he last _ _ _ h
    omega
  | succ n ih =>
    intro l m xs hl h
    rw [anyS_eq he] at h
    split at h
    · cases h
      simp
    · obtain ⟨a, l1, h1, h2⟩ := go_ok_inv h
      obtain ⟨ys, l2, h3, h4⟩ := go_ok_inv h2
      cases h4
      have := he _ _ _ h1
      have := ih l1 m ys (by omega) h3
      simp only [List.length_cons]
      omega
theorem opsFrags_len : ∀ xs : List (Bool × List CT), (opsOf xs).length + (fragsOf xs).length = xs.length
  | [] => rfl
  | (true, x) :: xs => by
    have := opsFrags_len xs
    simp only [opsOf, fragsOf, List.length_map] at this ⊢
    simp
    omega
  | (false, x) :: xs => by
    have := opsFrags_len xs
    simp only [opsOf, fragsOf, List.length_map] at this ⊢
    simp
    omega
theorem parse_items {s : Bs} {d : List CT} (h : parseS s = .ok d) : ∃ ts xs, lexS s = .inr ts ∧ NoE ts ∧ ts ≠ [] ∧ xs ≠ [] ∧ xs.length ≤ 2049 ∧ d = docC xs ∧ itsS (ts ++ [eofT s.length]) = .ok (xs, []) ∧ docS (ts ++ [eofT s.length]) = .ok (docC xs, []) := by
  unfold parseS at h
  cases hs : lexS s with
  | inl p => rw [hs] at h; cases h
  | inr ts =>
    rw [hs] at h
    simp only at h
    have hne : NoE ts := (lexS_full hs).2.2
    cases hd : docS (ts ++ [eofT s.length]) with
    | error p => rw [hd] at h; cases h
    | ok p =>
      rw [hd] at h
      obtain ⟨d', l⟩ := p
      simp only [Except.ok.injEq] at h
      subst h
      obtain ⟨xs, h0, h1, rfl⟩ := doc_ok_its hne hd
      have hl : l = [] := by
        rcases its_late s.length _ ts (Nat.le_refl _) hne with ⟨ys, hy⟩ | ⟨e, k, hy, _⟩
        · rw [hy] at h1; cases h1; rfl
        · rw [hy] at h1; cases h1
      subst hl
      have hcount := any_few itemS_eats [] _ _ _ _ (Nat.le_refl _) h1
      have hts := (lexS_full hs).1
      simp only [List.length_append, List.length_cons, List.length_nil] at hcount
      refine ⟨ts, xs, rfl, hne, h0, ?_, by omega, rfl, h1, hd⟩
      rintro rfl
      rw [its_eq, isP_nil_no h0 hne] at h1
      cases hit : itemS (ts ++ [eofT s.length]) with
      | error p => rw [hit] at h1; cases h1
      | ok p =>
        rw [hit] at h1
        cases hb : itsS p.2 with
        | error p' => simp only [Rs.go, hb] at h1; cases h1
        | ok p' => simp only [Rs.go, hb] at h1; cases h1
end Go.Proofs.YtkmopfmofcehiaaGreatDoor
