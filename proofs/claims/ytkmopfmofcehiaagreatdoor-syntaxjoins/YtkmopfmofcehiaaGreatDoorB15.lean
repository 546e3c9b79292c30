/- What the plain parser looks at: plain mathematics. -/
import Derived.Test.YtkmopfmofcehiaaGreatDoorB01
namespace Go.Proofs.YtkmopfmofcehiaaGreatDoor
open Go
/-! ### What a plain function looks at -/
def Eofish (x : Tok) : Prop := x.k = 0 ∧ x.t = []
/-- What is left of l: nothing that ends a document has been read. -/
def Sf (k l : List Tok) : Prop := ∃ c, l = c ++ k ∧ ∀ x ∈ c, ¬ Eofish x
theorem Sf.refl (l : List Tok) : Sf l l := ⟨[], rfl, fun x h => by cases h⟩
theorem Sf.trans {a b c : List Tok} (h : Sf a b) (g : Sf b c) : Sf a c := by
  obtain ⟨x, rfl, hx⟩ := h
  obtain ⟨y, rfl, hy⟩ := g
  exact ⟨y ++ x, by simp, fun z hz => (List.mem_append.1 hz).elim (hy z) (hx z)⟩
theorem Sf.len {k l : List Tok} (h : Sf k l) : k.length ≤ l.length := by
  obtain ⟨c, rfl, _⟩ := h; simp
theorem Sf.cons {k l : List Tok} {x : Tok} (hx : ¬ Eofish x) (h : Sf k l) : Sf k (x :: l) := by
  obtain ⟨c, rfl, hc⟩ := h
  refine ⟨x :: c, rfl, fun y hy => ?_⟩
  rcases List.mem_cons.1 hy with rfl | hy
  · exact hx
  · exact hc y hy
theorem Sf.app {k l : List Tok} (h : Sf k l) (m : List Tok) : Sf (k ++ m) (l ++ m) := by
  obtain ⟨c, rfl, hc⟩ := h
  exact ⟨c, by simp, hc⟩
theorem Sf.nil_join {q m k : List Tok} (h : Sf [] q) (g : Sf k m) : Sf k (q ++ m) := by
  have := h.app m
  rw [List.nil_append] at this
  exact g.trans this
def Err (k : List Tok) (e : Int) : Prop := e = 60 ∨ (e = 61 ∧ (isP [91] k = true ∨ isP [123] k = true))
/-- What comes of it where all is left to m; b: a token of m has been read. -/
def Late {α : Type} (b : Bool) (m : List Tok) (r : Rs α) : Prop := (∃ a k, r = .ok (a, k) ∧ Sf k m ∧ (b = true → k.length < m.length)) ∨ ∃ e k, r = .error (atT k, e) ∧ Sf k m ∧ Err k e
def saysK (ts : List Tok) : List (Int × Bs) := ts.map fun x => (x.k, x.t)
inductive Rel {α : Type} (b : Bool) (q m q' m' : List Tok) (r r' : Rs α) : Prop
  | ok (a : α) (k k' : List Tok) (h : r = .ok (a, k ++ m)) (h' : r' = .ok (a, k' ++ m')) (e : saysK k = saysK k') (s : Sf k q) (s' : Sf k' q')
  | err (e : Int) (k k' : List Tok) (h : r = .error (atT k, e)) (h' : r' = .error (atT k', e)) (e : saysK k = saysK k') (n : k ≠ []) (s : Sf k q) (s' : Sf k' q')
  | late (h : Late b m r) (h' : Late b m' r') (s : Sf [] q) (s' : Sf [] q')
structure Loc {α : Type} (b : Bool) (P : List Tok → Prop) (f : List Tok → Rs α) : Prop where
  late : ∀ m, P m → Late b m (f m)
  rel : ∀ q m q' m', q ≠ [] → saysK q = saysK q' → P (q ++ m) → P (q' ++ m') → Rel b q m q' m' (f (q ++ m)) (f (q' ++ m'))
abbrev TT : List Tok → Prop := fun _ => True
/-- A test of the first token alone. -/
def HO {β : Type} (c : List Tok → β) : Prop := ∀ x x' r r', (x.k, x.t) = (x'.k, x'.t) → c (x :: r) = c (x' :: r')
theorem ho_isP (s : Bs) : HO (isP s) := fun x x' r r' h => by
  injection h with h1 h2; simp [isP, h1, h2]
theorem ho_isW (s : Bs) : HO (isW s) := fun x x' r r' h => by
  injection h with h1 h2; simp [isW, h1, h2]
theorem ho_isK (k : Int) : HO (isK k) := fun x x' r r' h => by
  injection h with h1 h2; simp [isK, h1]
theorem ho_tx : HO txT := fun x x' r r' h => by
  injection h with h1 h2
theorem ho_const {β : Type} (a : β) : HO (fun _ => a) := fun _ _ _ _ _ => rfl
theorem HO.app {β γ : Type} {c : List Tok → β} (g : β → γ) (h : HO c) : HO (fun l => g (c l)) := fun x x' r r' e => congrArg g (h x x' r r' e)
theorem HO.eq {β : Type} {c : List Tok → β} (h : HO c) {q q' : List Tok} (hq : q ≠ []) (e : saysK q = saysK q') (m m' : List Tok) : c (q ++ m) = c (q' ++ m') := by
  cases q with
  | nil => exact absurd rfl hq
  | cons x q =>
    cases q' with
    | nil => cases e
    | cons x' q' =>
      simp only [saysK, List.map_cons, List.cons.injEq] at e
      exact h _ _ _ _ e.1
def NE (l : List Tok) : Prop := ∃ x r, l = x :: r ∧ ¬ Eofish x
theorem ne_P {s : Bs} (hs : s ≠ []) {l : List Tok} (h : isP s l = true) : NE l := by
  cases l with
  | nil => cases h
  | cons x r =>
    refine ⟨x, r, rfl, fun e => ?_⟩
    simp only [isP, Bool.and_eq_true, beq_iff_eq] at h
    exact hs (h.2.symm.trans e.2)
theorem ne_K {k : Int} (hk : k ≠ 0) {l : List Tok} (h : isK k l = true) : NE l := by
  cases l with
  | nil => cases h
  | cons x r =>
    refine ⟨x, r, rfl, fun e => ?_⟩
    simp only [isK, beq_iff_eq] at h
    exact hk (h.symm.trans e.1)
theorem ne_W {s : Bs} {l : List Tok} (h : isW s l = true) : NE l := by
  cases l with
  | nil => cases h
  | cons x r =>
    refine ⟨x, r, rfl, fun e => ?_⟩
    simp only [isW, Bool.and_eq_true, beq_iff_eq] at h
    have := h.1.symm.trans e.1
    cases this
theorem Late.weak {α : Type} {b : Bool} {m : List Tok} {r : Rs α} (h : Late b m r) : Late false m r := by
  rcases h with ⟨a, k, h1, h2, _⟩ | h
  · exact .inl ⟨a, k, h1, h2, fun h => by cases h⟩
  · exact .inr h
theorem Late.sub {α : Type} {b : Bool} {k m : List Tok} {r : Rs α} (h : Late b k r) (s : Sf k m) : Late b m r := by
  rcases h with ⟨a, j, h1, h2, h3⟩ | ⟨e, j, h1, h2, h3⟩
  · exact .inl ⟨a, j, h1, h2.trans s, fun hb => Nat.lt_of_lt_of_le (h3 hb) s.len⟩
  · exact .inr ⟨e, j, h1, h2.trans s, h3⟩
theorem Rel.weak {α : Type} {b : Bool} {q m q' m' : List Tok} {r r' : Rs α} (h : Rel b q m q' m' r r') : Rel false q m q' m' r r' := by
  rcases h with ⟨a, k, k', h, h', e, s, s'⟩ | ⟨e, k, k', h, h', e, n, s, s'⟩ | ⟨h, h', s, s'⟩
  · exact .ok a k k' h h' e s s'
  · exact .err _ k k' h h' e n s s'
  · exact .late h.weak h'.weak s s'
theorem Loc.weak {α : Type} {b : Bool} {P : List Tok → Prop} {f : List Tok → Rs α} (h : Loc b P f) : Loc false P f :=
  ⟨fun m hm => (h.late m hm).weak, fun q m q' m' hq e hp hp' => (h.rel q m q' m' hq e hp hp').weak⟩
theorem Loc.on {α : Type} {b : Bool} {P Q : List Tok → Prop} {f : List Tok → Rs α} (h : Loc b P f) (hpq : ∀ l, Q l → P l) : Loc b Q f :=
  ⟨fun m hm => h.late m (hpq _ hm), fun q m q' m' hq e hp hp' => h.rel q m q' m' hq e (hpq _ hp) (hpq _ hp')⟩
theorem loc_ok {α : Type} (P : List Tok → Prop) (a : α) : Loc false P (fun l => (.ok (a, l) : Rs α)) :=
  ⟨fun m _ => .inl ⟨a, m, rfl, .refl m, fun h => by cases h⟩, fun q m q' m' _ e _ _ => .ok a q q' rfl rfl e (.refl _) (.refl _)⟩
theorem saysK_ne {q q' : List Tok} (e : saysK q = saysK q') (h : q ≠ []) : q' ≠ [] := by
  rintro rfl
  cases q with
  | nil => exact h rfl
  | cons x q => cases e
theorem atT_app {k : List Tok} (h : k ≠ []) (m : List Tok) : atT (k ++ m) = atT k := by
  cases k with
  | nil => exact absurd rfl h
  | cons x k => rfl
theorem loc_err {α : Type} (P : List Tok → Prop) (b : Bool) : Loc b P (fun l => (.error (atT l, 60) : Rs α)) :=
  ⟨fun m _ => .inr ⟨60, m, rfl, .refl m, .inl rfl⟩, fun q m q' m' hq e _ _ => .err 60 q q' (by rw [atT_app hq]) (by rw [atT_app (saysK_ne e hq)]) e hq (.refl _) (.refl _)⟩
theorem loc_deep {α : Type} {P : List Tok → Prop} (b : Bool) (hP : ∀ l, P l → isP [91] l = true ∨ isP [123] l = true) : Loc b P (fun l => (.error (atT l, 61) : Rs α)) :=
  ⟨fun m hm => .inr ⟨61, m, rfl, .refl m, .inr ⟨rfl, hP m hm⟩⟩, fun q m q' m' hq e _ _ => .err 61 q q' (by rw [atT_app hq]) (by rw [atT_app (saysK_ne e hq)]) e hq (.refl _) (.refl _)⟩
theorem loc_if {α : Type} {b : Bool} {P : List Tok → Prop} {c : List Tok → Bool} (hc : HO c) {f g : List Tok → Rs α} (hf : Loc b (fun l => P l ∧ c l = true) f) (hg : Loc b (fun l => P l ∧ c l = false) g) : Loc b P (fun l => if c l then f l else g l) := by
  refine ⟨fun m hm => ?_, fun q m q' m' hq e hp hp' => ?_⟩
  · show Late b m (if c m then f m else g m)
    cases h : c m with
    | true => exact hf.late m ⟨hm, h⟩
    | false => exact hg.late m ⟨hm, h⟩
  · show Rel b q m q' m' (if c (q ++ m) then f (q ++ m) else g (q ++ m)) (if c (q' ++ m') then f (q' ++ m') else g (q' ++ m'))
    have he := hc.eq hq e m m'
    rw [← he]
    cases h : c (q ++ m) with
    | true => exact hf.rel q m q' m' hq e ⟨hp, h⟩ ⟨hp', he ▸ h⟩
    | false => exact hg.rel q m q' m' hq e ⟨hp, h⟩ ⟨hp', he ▸ h⟩
theorem saysK_cons {x x' : Tok} {q q' : List Tok} (e : saysK (x :: q) = saysK (x' :: q')) : saysK q = saysK q' := by
  simp only [saysK, List.map_cons, List.cons.injEq] at e
  exact e.2
theorem Rel.cons {α : Type} {b : Bool} {q m q' m' : List Tok} {r r' : Rs α} {x x' : Tok} (hx : ¬ Eofish x) (hx' : ¬ Eofish x') (h : Rel b q m q' m' r r') : Rel b (x :: q) m (x' :: q') m' r r' := by
  rcases h with ⟨a, k, k', h, h', e, s, s'⟩ | ⟨e, k, k', h, h', e, n, s, s'⟩ | ⟨h, h', s, s'⟩
  · exact .ok a k k' h h' e (s.cons hx) (s'.cons hx')
  · exact .err _ k k' h h' e n (s.cons hx) (s'.cons hx')
  · exact .late h h' (s.cons hx) (s'.cons hx')
theorem Rel.sub {α : Type} {b : Bool} {j q m j' q' m' : List Tok} {r r' : Rs α} (hs : Sf j q) (hs' : Sf j' q') (h : Rel b j m j' m' r r') : Rel b q m q' m' r r' := by
  rcases h with ⟨a, k, k', h, h', e, s, s'⟩ | ⟨e, k, k', h, h', e, n, s, s'⟩ | ⟨h, h', s, s'⟩
  · exact .ok a k k' h h' e (s.trans hs) (s'.trans hs')
  · exact .err _ k k' h h' e n (s.trans hs) (s'.trans hs')
  · exact .late h h' (s.trans hs) (s'.trans hs')
/-- Also where nothing is left of q. -/
theorem Loc.any {α : Type} {b : Bool} {f : List Tok → Rs α} (h : Loc b TT f) (q m q' m' : List Tok) (e : saysK q = saysK q') : Rel b q m q' m' (f (q ++ m)) (f (q' ++ m')) := by
  by_cases hq : q = []
  · subst hq
    cases q' with
    | nil => exact .late (h.late m trivial) (h.late m' trivial) (.refl _) (.refl _)
    | cons x q' => cases e
  · exact h.rel q m q' m' hq e trivial trivial
theorem ne_app {x : Tok} {r : List Tok} (h : NE (x :: r)) : ¬ Eofish x := by
  obtain ⟨y, s, e, hy⟩ := h
  cases e; exact hy
theorem loc_tail {α : Type} {b : Bool} {P : List Tok → Prop} {f : List Tok → Rs α} (hP : ∀ l, P l → NE l) (hf : Loc b TT f) : Loc b P (fun l => f l.tail) := by
  refine ⟨fun m hm => ?_, fun q m q' m' hq e hp hp' => ?_⟩
  · obtain ⟨x, r, rfl, hx⟩ := hP m hm
    exact (hf.late r trivial).sub ((Sf.refl r).cons hx)
  · cases q with
    | nil => exact absurd rfl hq
    | cons x q =>
      cases q' with
      | nil => cases e
      | cons x' q' =>
        exact (hf.any q m q' m' (saysK_cons e)).cons (ne_app (hP _ hp)) (ne_app (hP _ hp'))
theorem loc_eat {α : Type} {b : Bool} {P : List Tok → Prop} {v : List Tok → α} (hv : HO v) (hP : ∀ l, P l → NE l) : Loc b P (fun l => (.ok (v l, l.tail) : Rs α)) := by
  refine ⟨fun m hm => ?_, fun q m q' m' hq e hp hp' => ?_⟩
  · obtain ⟨x, r, rfl, hx⟩ := hP m hm
    exact .inl ⟨_, r, rfl, (Sf.refl r).cons hx, fun _ => by simp⟩
  · have hv := hv.eq hq e m m'
    cases q with
    | nil => exact absurd rfl hq
    | cons x q =>
      cases q' with
      | nil => cases e
      | cons x' q' =>
        exact .ok _ q q' rfl (by rw [hv]; rfl) (saysK_cons e) ((Sf.refl _).cons (ne_app (hP _ hp))) ((Sf.refl _).cons (ne_app (hP _ hp')))
theorem Late.go {α β : Type} {b b' : Bool} {m : List Tok} {r : Rs α} {g : α → List Tok → Rs β} (h : Late b' m r) (hg : ∀ a, Loc b TT (g a)) : Late b m (r.go g) := by
  rcases h with ⟨a, k, rfl, s, _⟩ | ⟨e, k, rfl, s, he⟩
  · exact ((hg a).late k trivial).sub s
  · exact .inr ⟨e, k, rfl, s, he⟩
theorem loc_go {α β : Type} {b b' : Bool} {P : List Tok → Prop} {f : List Tok → Rs α} {g : α → List Tok → Rs β} (hf : Loc b' P f) (hg : ∀ a, Loc b TT (g a)) : Loc b P (fun l => (f l).go g) := by
  refine ⟨fun m hm => (hf.late m hm).go hg, fun q m q' m' hq e hp hp' => ?_⟩
  show Rel b q m q' m' ((f (q ++ m)).go g) ((f (q' ++ m')).go g)
  rcases hf.rel q m q' m' hq e hp hp' with ⟨a, k, k', h, h', e, s, s'⟩ | ⟨e, k, k', h, h', e, n, s, s'⟩ | ⟨h, h', s, s'⟩
  · rw [h, h']
    exact ((hg a).any k m k' m' e).sub s s'
  · rw [h, h']
    exact .err _ k k' rfl rfl e n s s'
  · exact .late (h.go hg) (h'.go hg) s s'
theorem loc_map {α β : Type} {b : Bool} {P : List Tok → Prop} {f : List Tok → Rs α} (g : α → β) (hf : Loc b P f) : Loc b P (fun l => (f l).go fun a l1 => .ok (g a, l1)) := by
  have late : ∀ {m : List Tok} {r : Rs α}, Late b m r → Late b m (r.go fun a l1 => (.ok (g a, l1) : Rs β)) := by
    intro m r h
    rcases h with ⟨a, k, rfl, s, hb⟩ | ⟨e, k, rfl, s, he⟩
    · exact .inl ⟨_, k, rfl, s, hb⟩
    · exact .inr ⟨e, k, rfl, s, he⟩
  refine ⟨fun m hm => late (hf.late m hm), fun q m q' m' hq e hp hp' => ?_⟩
  show Rel b q m q' m' ((f (q ++ m)).go _) ((f (q' ++ m')).go _)
  rcases hf.rel q m q' m' hq e hp hp' with ⟨a, k, k', h, h', e, s, s'⟩ | ⟨e, k, k', h, h', e, n, s, s'⟩ | ⟨h, h', s, s'⟩
  · rw [h, h']
    exact .ok _ k k' rfl rfl e s s'
  · rw [h, h']
    exact .err _ k k' rfl rfl e n s s'
  · exact .late (late h) (late h') s s'
theorem loc_any {α : Type} {b : Bool} {f : List Tok → Rs α} (he : Eats f) (hf : Loc b TT f) {last : Bs} (hl : last ≠ []) : Loc true TT (anyS f last) := by
  have hlate : ∀ (n : Nat) (m : List Tok), m.length ≤ n → Late true m (anyS f last m) := by
    intro n
    induction n with
    | zero =>
      intro m hm
      obtain rfl : m = [] := List.length_eq_zero_iff.1 (by omega)
      rw [anyS_eq he]
      rcases hf.late [] trivial with ⟨a, k, h, s, _⟩ | ⟨e, k, h, s, g⟩
      · have := he _ _ _ h
        simp at this
      · rw [h]
        exact .inr ⟨e, k, rfl, s, g⟩
    | succ n ih =>
      intro m hm
      rw [anyS_eq he]
      by_cases hp : isP last m = true
      · rw [if_pos hp]
        obtain ⟨x, r, rfl, hx⟩ := ne_P hl hp
        exact .inl ⟨_, r, rfl, (Sf.refl r).cons hx, fun _ => by simp⟩
      · rw [if_neg hp]
        rcases hf.late m trivial with ⟨a, k, h, s, _⟩ | ⟨e, k, h, s, g⟩
        · have h1 := he _ _ _ h
          rw [h]
          simp only [go_ok]
          rcases ih k (by omega) with ⟨a2, k2, h2, s2, b2⟩ | ⟨e2, k2, h2, s2, g2⟩
          · rw [h2]
            exact .inl ⟨_, k2, rfl, s2.trans s, fun _ => Nat.lt_of_lt_of_le (b2 rfl) s.len⟩
          · rw [h2]
            exact .inr ⟨e2, k2, rfl, s2.trans s, g2⟩
        · rw [h]
          exact .inr ⟨e, k, rfl, s, g⟩
  have hgo : ∀ {a : α} {k m : List Tok}, Sf k m → Late true m ((anyS f last k).go fun b l2 => (.ok (a :: b, l2) : Rs (List α))) := by
    intro a k m s
    rcases hlate k.length k (Nat.le_refl _) with ⟨a2, k2, h2, s2, b2⟩ | ⟨e2, k2, h2, s2, g2⟩
    · rw [h2]
      exact .inl ⟨_, k2, rfl, s2.trans s, fun _ => Nat.lt_of_lt_of_le (b2 rfl) s.len⟩
    · rw [h2]
      exact .inr ⟨e2, k2, rfl, s2.trans s, g2⟩
  refine ⟨fun m _ => hlate m.length m (Nat.le_refl _), ?_⟩
  have hrel : ∀ (n : Nat) (q m q' m' : List Tok), q.length ≤ n → saysK q = saysK q' → Rel true q m q' m' (anyS f last (q ++ m)) (anyS f last (q' ++ m')) := by
    intro n
    induction n with
    | zero =>
      intro q m q' m' hn e
      obtain rfl : q = [] := List.length_eq_zero_iff.1 (by omega)
      cases q' with
      | cons x q' => cases e
      | nil => exact .late (hlate _ m (Nat.le_refl _)) (hlate _ m' (Nat.le_refl _)) (.refl _) (.refl _)
    | succ n ih =>
      intro q m q' m' hn e
      by_cases hq : q = []
      · subst hq
        cases q' with
        | cons x q' => cases e
        | nil => exact .late (hlate _ m (Nat.le_refl _)) (hlate _ m' (Nat.le_refl _)) (.refl _) (.refl _)
      · rw [anyS_eq he, anyS_eq he, ← (ho_isP last).eq hq e m m']
        by_cases hp : isP last (q ++ m) = true
        · rw [if_pos hp, if_pos hp]
          have hp' := hp
          rw [(ho_isP last).eq hq e m m'] at hp'
          cases q with
          | nil => exact absurd rfl hq
          | cons x q =>
            cases q' with
            | nil => cases e
            | cons x' q' =>
              exact .ok _ q q' rfl rfl (saysK_cons e) ((Sf.refl _).cons (ne_app (ne_P hl hp))) ((Sf.refl _).cons (ne_app (ne_P hl hp')))
        · rw [if_neg hp, if_neg hp]
          rcases hf.rel q m q' m' hq e trivial trivial with ⟨a, k, k', h, h', e, s, s'⟩ | ⟨e, k, k', h, h', e, nn, s, s'⟩ | ⟨h, h', s, s'⟩
          · have h1 := he _ _ _ h
            rw [h, h']
            simp only [go_ok]
            simp only [List.length_append] at h1
            rcases ih k m k' m' (by omega) e with ⟨a, j, j', h, h', e, t, t'⟩ | ⟨e, j, j', h, h', e, nn, t, t'⟩ | ⟨_, _, t, t'⟩
            · rw [h, h']
              exact .ok _ j j' rfl rfl e (t.trans s) (t'.trans s')
            · rw [h, h']
              exact .err _ j j' rfl rfl e nn (t.trans s) (t'.trans s')
            · rename_i g g'
              refine .late ?_ ?_ (t.trans s) (t'.trans s')
              · rcases g with ⟨a2, k2, h2, s2, b2⟩ | ⟨e2, k2, h2, s2, g2⟩
                · rw [h2]; exact .inl ⟨_, k2, rfl, s2, b2⟩
                · rw [h2]; exact .inr ⟨e2, k2, rfl, s2, g2⟩
              · rcases g' with ⟨a2, k2, h2, s2, b2⟩ | ⟨e2, k2, h2, s2, g2⟩
                · rw [h2]; exact .inl ⟨_, k2, rfl, s2, b2⟩
                · rw [h2]; exact .inr ⟨e2, k2, rfl, s2, g2⟩
          · rw [h, h']
            exact .err _ k k' rfl rfl e nn s s'
          · refine .late ?_ ?_ s s'
            · rcases h with ⟨a, k, h, s, _⟩ | ⟨e, k, h, s, g⟩
              · rw [h]; exact hgo s
              · rw [h]; exact .inr ⟨e, k, rfl, s, g⟩
            · rcases h' with ⟨a, k, h, s, _⟩ | ⟨e, k, h, s, g⟩
              · rw [h]; exact hgo s
              · rw [h]; exact .inr ⟨e, k, rfl, s, g⟩
  exact fun q m q' m' _ e _ _ => hrel q.length q m q' m' (Nat.le_refl _) e
theorem loc_led {α : Type} {b : Bool} {f : List Tok → Rs α} (he : Keeps f) (hf : Loc b TT f) {first : Bs} (hl : first ≠ []) : Loc false TT (ledS f first) := by
  have hmap : ∀ {a : α} {m : List Tok} {r : Rs (List α)}, Late false m r → Late false m (r.go fun b l2 => (.ok (a :: b, l2) : Rs (List α))) := by
    intro a m r h
    rcases h with ⟨a2, k2, h2, s2, b2⟩ | ⟨e2, k2, h2, s2, g2⟩
    · rw [h2]; exact .inl ⟨_, k2, rfl, s2, b2⟩
    · rw [h2]; exact .inr ⟨e2, k2, rfl, s2, g2⟩
  have hlate : ∀ (n : Nat) (m : List Tok), m.length ≤ n → Late false m (ledS f first m) := by
    intro n
    induction n with
    | zero =>
      intro m hm
      obtain rfl : m = [] := List.length_eq_zero_iff.1 (by omega)
      rw [ledS_eq he]
      exact .inl ⟨[], [], rfl, .refl _, fun h => by cases h⟩
    | succ n ih =>
      intro m hm
      rw [ledS_eq he]
      by_cases hp : isP first m = true
      · rw [if_pos hp]
        obtain ⟨x, r, rfl, hx⟩ := ne_P hl hp
        rcases hf.late r trivial with ⟨a, k, h, s, _⟩ | ⟨e, k, h, s, g⟩
        · have h1 := he _ _ _ h
          simp only [List.tail_cons, h, go_ok]
          simp only [List.length_cons] at hm
          exact (hmap (ih k (by omega))).sub (s.cons hx)
        · simp only [List.tail_cons, h]
          exact .inr ⟨e, k, rfl, s.cons hx, g⟩
      · rw [if_neg hp]
        exact .inl ⟨[], m, rfl, .refl _, fun h => by cases h⟩
  refine ⟨fun m _ => hlate m.length m (Nat.le_refl _), ?_⟩
  have hrel : ∀ (n : Nat) (q m q' m' : List Tok), q.length ≤ n → saysK q = saysK q' → Rel false q m q' m' (ledS f first (q ++ m)) (ledS f first (q' ++ m')) := by
    intro n
    induction n with
    | zero =>
      intro q m q' m' hn e
      obtain rfl : q = [] := List.length_eq_zero_iff.1 (by omega)
      cases q' with
      | cons x q' => cases e
      | nil => exact .late (hlate _ m (Nat.le_refl _)) (hlate _ m' (Nat.le_refl _)) (.refl _) (.refl _)
    | succ n ih =>
      intro q m q' m' hn e
      by_cases hq : q = []
      · subst hq
        cases q' with
        | cons x q' => cases e
        | nil => exact .late (hlate _ m (Nat.le_refl _)) (hlate _ m' (Nat.le_refl _)) (.refl _) (.refl _)
      · rw [ledS_eq he, ledS_eq he, ← (ho_isP first).eq hq e m m']
        by_cases hp : isP first (q ++ m) = true
        · rw [if_pos hp, if_pos hp]
          have hp' := hp
          rw [(ho_isP first).eq hq e m m'] at hp'
          cases q with
          | nil => exact absurd rfl hq
          | cons x q =>
            cases q' with
            | nil => cases e
            | cons x' q' =>
              have hx := ne_app (ne_P hl hp)
              have hx' := ne_app (ne_P hl hp')
              refine Rel.cons hx hx' ?_
              show Rel false q m q' m' ((f (q ++ m)).go _) ((f (q' ++ m')).go _)
              rcases hf.any q m q' m' (saysK_cons e) with ⟨a, k, k', h, h', e, s, s'⟩ | ⟨e, k, k', h, h', e, nn, s, s'⟩ | ⟨h, h', s, s'⟩
              · have h1 := he _ _ _ h
                rw [h, h']
                simp only [go_ok]
                simp only [List.length_append, List.length_cons] at h1 hn
                rcases ih k m k' m' (by omega) e with ⟨a, j, j', h, h', e, t, t'⟩ | ⟨e, j, j', h, h', e, nn, t, t'⟩ | ⟨g, g', t, t'⟩
                · rw [h, h']
                  exact .ok _ j j' rfl rfl e (t.trans s) (t'.trans s')
                · rw [h, h']
                  exact .err _ j j' rfl rfl e nn (t.trans s) (t'.trans s')
                · exact .late (hmap g) (hmap g') (t.trans s) (t'.trans s')
              · rw [h, h']
                exact .err _ k k' rfl rfl e nn s s'
              · refine .late ?_ ?_ s s'
                · rcases h with ⟨a, k, h, s, _⟩ | ⟨e, k, h, s, g⟩
                  · rw [h]; exact (hmap (hlate _ k (Nat.le_refl _))).sub s
                  · rw [h]; exact .inr ⟨e, k, rfl, s, g⟩
                · rcases h' with ⟨a, k, h, s, _⟩ | ⟨e, k, h, s, g⟩
                  · rw [h]; exact (hmap (hlate _ k (Nat.le_refl _))).sub s
                  · rw [h]; exact .inr ⟨e, k, rfl, s, g⟩
        · rw [if_neg hp, if_neg hp]
          exact .ok _ q q' rfl rfl e (.refl _) (.refl _)
  exact fun q m q' m' _ e _ _ => hrel q.length q m q' m' (Nat.le_refl _) e
/-! ### Each plain function -/
theorem loc_name : Loc true TT nameS := loc_if (ho_isK 1) (loc_eat ho_tx fun _ h => ne_K (by decide) h.2) (loc_err _ _)
theorem loc_must {s : Bs} (hs : s ≠ []) : Loc true TT (mustS s) := loc_if (ho_isP s) (loc_eat (ho_const ()) fun _ h => ne_P hs h.2) (loc_err _ _)
theorem loc_mustW (s : Bs) : Loc true TT (mustW s) := loc_if (ho_isW s) (loc_eat (ho_const ()) fun _ h => ne_W h.2) (loc_err _ _)
theorem loc_var : Loc true TT varS := loc_go (loc_must (by decide)) fun _ => loc_name
theorem loc_some {α : Type} {b : Bool} {f : List Tok → Rs α} (he : Eats f) (hf : Loc b TT f) {last : Bs} (hl : last ≠ []) : Loc true TT (someS f last) := loc_go hf fun a => loc_map (fun b => a :: b) (loc_any he hf hl)
theorem loc_mem {b : Bool} {f : List Tok → Rs (List CT)} (hf : Loc b TT f) : Loc b TT (memS f) := loc_go loc_name fun t => loc_go (loc_must (by decide)) fun _ => loc_map (fun v => (t, v)) hf
theorem loc_list {inner : Option (List Tok → Rs (List CT))} (hi : ∀ f, inner = some f → Eats f ∧ Loc true TT f) : Loc true (fun l => isP [91] l = true) (listS inner) := by
  cases inner with
  | none => exact loc_deep _ fun _ h => .inl h
  | some f => exact loc_tail (fun _ h => ne_P (by decide) h) (loc_map (fun vs => valC 8 [] vs []) (loc_any (hi f rfl).1 (hi f rfl).2 (by decide)))
theorem loc_obj {inner : Option (List Tok → Rs (List CT))} (hi : ∀ f, inner = some f → Eats f ∧ Loc true TT f) : Loc true (fun l => isP [123] l = true) (objS inner) := by
  cases inner with
  | none => exact loc_deep _ fun _ h => .inr h
  | some f => exact loc_tail (f := fun l => (anyS (memS f) [125] l).go fun ms l1 => .ok (valC 9 [] (ms.map (·.2)) (ms.map fun m => [sC m.1]), l1)) (fun _ h => ne_P (s := [123]) (by decide) h) (loc_map (fun ms : List (Bs × List CT) => valC 9 [] (ms.map (·.2)) (ms.map fun m => [sC m.1])) (loc_any (memS_eats (hi f rfl).1.keeps) (loc_mem (hi f rfl).2) (by decide)))
theorem loc_sign (fx : Bool) {inner : Option (List Tok → Rs (List CT))} (hi : ∀ f, inner = some f → Eats f ∧ Loc true TT f) : Loc true TT (signS fx inner) :=
  loc_if (ho_isP _) ((loc_list hi).on fun _ h => h.2) (loc_if (ho_isP _) ((loc_obj hi).on fun _ h => h.2) (loc_if (c := fun _ => fx) (ho_const fx) (loc_err _ _) ((loc_map (fun t => valC 3 t [] []) loc_var).on fun _ _ => trivial)))
theorem loc_valG (fx : Bool) {inner : Option (List Tok → Rs (List CT))} (hi : ∀ f, inner = some f → Eats f ∧ Loc true TT f) : Loc true TT (valG fx inner) :=
  loc_if (ho_isK 1) (loc_eat (ho_tx.app namedC) fun _ h => ne_K (by decide) h.2) (loc_if (ho_isK 2) (loc_eat (ho_tx.app fun t => valC 4 t [] []) fun _ h => ne_K (by decide) h.2) (loc_if (ho_isK 3) (loc_eat (ho_tx.app fun t => valC 5 t [] []) fun _ h => ne_K (by decide) h.2) (loc_if (ho_isK 4) (loc_eat (ho_tx.app fun t => valC 6 t [] []) fun _ h => ne_K (by decide) h.2) ((loc_sign fx hi).on fun _ _ => trivial))))
theorem loc_val (fx : Bool) : ∀ n, Loc true TT (valF fx n)
  | 0 => loc_valG fx fun f h => by cases h
  | n + 1 => loc_valG fx fun f h => by cases h; exact ⟨valF_eats fx n, loc_val fx n⟩
theorem loc_arg (fx : Bool) : Loc true TT (argS fx) := loc_map (fun m : Bs × List CT => sC m.1 :: m.2) (loc_mem (loc_val fx 32))
theorem loc_args (fx : Bool) : Loc false TT (argsS fx) := loc_if (ho_isP _) (loc_tail (fun _ h => ne_P (by decide) h.2) (loc_some (argS_eats fx) (loc_arg fx) (by decide)).weak) (loc_ok _ _)
theorem loc_dir (fx : Bool) : Loc false TT (dirS fx) := loc_go loc_name fun t => loc_map (fun a => [sC t, rowC _ 5 a]) (loc_args fx)
theorem loc_dirs (fx : Bool) : Loc false TT (dirsS fx) := loc_led (dirS_eats fx).keeps (loc_dir fx) (by decide)
theorem loc_refB (x : Bs × Bs) : Loc false TT (refB x) := loc_if (ho_isP _) (loc_eat (ho_const _) fun _ h => ne_P (by decide) h.2) (loc_ok _ _)
theorem loc_refG {inner : Option (List Tok → Rs (Bs × Bs))} (hi : ∀ f, inner = some f → Loc false TT f) : Loc false TT (refG inner) := by
  refine loc_go (f := fun l => if isP [91] l then (match inner with
    | none => .error (atT l, 61)
    | some f => (f l.tail).go fun x l1 => (mustS [93] l1).go fun _ l2 => .ok ((x.1, x.2 ++ [91]), l2)) else (nameS l).go fun t l1 => .ok ((t, []), l1)) (b' := false) (loc_if (ho_isP _) ?_ ((loc_map (fun t => (t, [])) loc_name).weak.on fun _ _ => trivial)) loc_refB
  cases inner with
  | none => exact loc_deep _ fun _ h => .inl h.2
  | some f => exact loc_tail (f := fun l => (f l).go fun x l1 => (mustS [93] l1).go fun _ l2 => .ok ((x.1, x.2 ++ [91]), l2)) (fun _ h => ne_P (by decide) h.2) (loc_go (hi f rfl) fun x => loc_map (fun _ => (x.1, x.2 ++ [91])) (loc_must (by decide)).weak)
theorem loc_ref : ∀ n, Loc false TT (refF n)
  | 0 => loc_refG fun f h => by cases h
  | n + 1 => loc_refG fun f h => by cases h; exact loc_ref n
theorem loc_def : Loc false TT defS := loc_if (ho_isP _) (loc_tail (f := fun l => (valF true 32 l).go fun v l1 => .ok ((true, v), l1)) (fun _ h => ne_P (by decide) h.2) (loc_map (fun v => (true, v)) (loc_val true 32)).weak) (loc_ok _ _)
theorem loc_varDef : Loc false TT varDefS := loc_go loc_var fun t => loc_go (loc_must (by decide)) fun _ => loc_go (loc_ref 32) fun x => loc_go loc_def fun d => loc_map (fun ds => [sC t, sC x.1, sC x.2, bC d.1] ++ d.2 ++ [rowC _ 2 ds]) (loc_dirs true)
theorem loc_vars : Loc false TT varsS := loc_if (ho_isP _) (loc_tail (fun _ h => ne_P (by decide) h.2) (loc_some varDefS_eats loc_varDef (by decide)).weak) (loc_ok _ _)
theorem loc_nick : Loc false TT nickS := loc_go loc_name fun t => loc_if (ho_isP _) (loc_tail (f := fun l => (nameS l).go fun u l2 => .ok ((t, u), l2)) (fun _ h => ne_P (by decide) h.2) (loc_map (fun u => (t, u)) loc_name).weak) (loc_ok _ _)
theorem loc_with {b : Bool} {st : List Tok → Rs (List (List CT))} (h : Loc b TT st) : Loc false TT (withS st) := loc_if (ho_isP _) (h.weak.on fun _ _ => trivial) (loc_ok _ _)
theorem loc_field {b : Bool} {st : List Tok → Rs (List (List CT))} (h : Loc b TT st) : Loc false TT (fieldS st) := loc_go loc_nick fun p => loc_go (loc_args false) fun a => loc_go (loc_dirs false) fun ds => loc_map (fun ss => selC 0 p.1 p.2 [] a ds ss) (loc_with h)
theorem loc_spread : Loc false TT spreadS := loc_go loc_name fun t => loc_map (fun ds => selC 1 [] t [] [] ds []) (loc_dirs false)
theorem loc_on : Loc false TT onS := loc_if (ho_isW _) (loc_tail (fun _ h => ne_W h.2) loc_name.weak) (loc_ok _ _)
theorem loc_inline {b : Bool} {st : List Tok → Rs (List (List CT))} (h : Loc b TT st) : Loc b TT (inlineS st) := loc_go loc_on fun t => loc_go (loc_dirs false) fun ds => loc_map (fun ss => selC 2 [] [] t [] ds ss) h
theorem loc_sel {b : Bool} {st : List Tok → Rs (List (List CT))} (h : Loc b TT st) : Loc false TT (selS st) :=
  loc_if (ho_isP _) (loc_tail (f := fun l => if isK 1 l && !isW onB l then spreadS l else inlineS st l) (fun _ h => ne_P (by decide) h.2) (loc_if (c := fun l => isK 1 l && !isW onB l) (fun x x' r r' e => by show (isK 1 (x :: r) && !isW onB (x :: r)) = (isK 1 (x' :: r') && !isW onB (x' :: r')); rw [ho_isK 1 x x' r r' e, ho_isW onB x x' r r' e]) (loc_spread.on fun _ _ => trivial) ((loc_inline h).weak.on fun _ _ => trivial))) ((loc_field h).on fun _ _ => trivial)
theorem loc_setG {inner : Option (List Tok → Rs (List (List CT)))} (hi : ∀ f, inner = some f → Eats f ∧ Loc true TT f) : Loc true TT (setG inner) := by
  refine loc_if (ho_isP _) ?_ (loc_err _ _)
  cases inner with
  | none => exact loc_deep _ fun _ h => .inr h.2
  | some f => exact loc_tail (fun _ h => ne_P (by decide) h.2) (loc_some (selS_eats (hi f rfl).1.keeps) (loc_sel (hi f rfl).2) (by decide))
theorem loc_set : ∀ n, Loc true TT (setF n)
  | 0 => loc_setG fun f h => by cases h
  | n + 1 => loc_setG fun f h => by cases h; exact ⟨setF_eats n, loc_set n⟩
theorem loc_kind : Loc true TT kindS := loc_if (ho_isW _) (loc_eat (ho_const _) fun _ h => ne_W h.2) (loc_if (ho_isW _) (loc_eat (ho_const _) fun _ h => ne_W h.2) (loc_if (ho_isW _) (loc_eat (ho_const _) fun _ h => ne_W h.2) (loc_err _ _)))
theorem loc_title : Loc false TT titleS := loc_if (ho_isK 1) (loc_name.weak.on fun _ _ => trivial) (loc_ok _ _)
theorem loc_op : Loc true TT opS := loc_if (ho_isP _) ((loc_map (fun ss => opC 0 [] [] [] ss) (loc_set 32)).on fun _ _ => trivial) ((loc_go loc_kind fun k => loc_go loc_title fun t => loc_go loc_vars fun vs => loc_go (loc_dirs false) fun ds => loc_map (fun ss => opC k t vs ds ss) (loc_set 32)).on fun _ _ => trivial)
theorem loc_notOn : Loc false TT notOn := loc_if (ho_isW _) (loc_err _ _) (loc_ok _ _)
theorem loc_frag : Loc true TT fragS := loc_go loc_notOn fun _ => loc_go loc_name fun t => loc_go (loc_mustW _) fun _ => loc_go loc_name fun u => loc_go (loc_dirs false) fun ds => loc_map (fun ss => fragC t u ds ss) (loc_set 32)
theorem loc_item : Loc true TT itemS := loc_if (ho_isW _) (loc_tail (f := fun l => (fragS l).go fun x l1 => .ok ((true, x), l1)) (fun _ h => ne_W h.2) (loc_map (fun x => (true, x)) loc_frag)) ((loc_map (fun x => (false, x)) loc_op).on fun _ _ => trivial)
end Go.Proofs.YtkmopfmofcehiaaGreatDoor
namespace Go.Proofs.YtkmopfmofcehiaaGreatDoor
open Go
/-! ### The document -/
abbrev itsS (l : List Tok) : Rs (List (Bool × List CT)) := anyS itemS [] l
theorem its_eq (l : List Tok) : itsS l = if isP [] l then .ok ([], l.tail) else (itemS l).go fun a l1 => (itsS l1).go fun b l2 => .ok (a :: b, l2) := anyS_eq itemS_eats [] l
def NoE (ts : List Tok) : Prop := ∀ x ∈ ts, ¬ Eofish x
theorem NoE.sf {ts : List Tok} (h : NoE ts) : Sf [] ts := ⟨ts, by simp, h⟩
theorem NoE.sub {k ts : List Tok} (h : NoE ts) (s : Sf k ts) : NoE k := by
  obtain ⟨c, rfl, _⟩ := s
  exact fun x hx => h x (List.mem_append_right _ hx)
theorem NoE.take {ts : List Tok} (h : NoE ts) (i : Nat) : NoE (ts.take i) := fun x hx => h x (List.mem_of_mem_take hx)
theorem noE_says {q q' : List Tok} (e : saysK q = saysK q') (h : NoE q) : NoE q' := by
  intro x hx he
  have : (x.k, x.t) ∈ saysK q := by rw [e]; exact List.mem_map_of_mem hx
  obtain ⟨y, hy, e2⟩ := List.mem_map.1 this
  injection e2 with e3 e4
  exact h y hy ⟨e3.trans he.1, e4.trans he.2⟩
theorem isP_nil_no {q m : List Tok} (hq : q ≠ []) (h : NoE q) : isP [] (q ++ m) = false := by
  cases q with
  | nil => exact absurd rfl hq
  | cons x q =>
    have := h x List.mem_cons_self
    rw [Bool.eq_false_iff]
    intro e
    simp only [List.cons_append, isP, Bool.and_eq_true, beq_iff_eq] at e
    exact this e
theorem eof_ish (N : Nat) : Eofish (eofT N) := ⟨rfl, rfl⟩
theorem its_eof (N : Nat) : itsS [eofT N] = .ok ([], []) := by
  rw [its_eq]; rfl
theorem item_eof (N : Nat) : itemS [eofT N] = .error (N, 60) := rfl
theorem sf_eof {k : List Tok} {N : Nat} (h : Sf k [eofT N]) : k = [eofT N] := by
  obtain ⟨c, hc, hn⟩ := h
  cases c with
  | nil => exact hc.symm
  | cons x c =>
    injection hc with h1 h2
    exact absurd (h1 ▸ eof_ish N) (hn x List.mem_cons_self)
theorem late_eof {α : Type} {N : Nat} {r : Rs α} (h : Late true [eofT N] r) : r = .error (N, 60) := by
  rcases h with ⟨a, k, h, s, b⟩ | ⟨e, k, h, s, g⟩
  · rw [sf_eof s] at b
    exact absurd (b rfl) (Nat.lt_irrefl _)
  · rw [sf_eof s] at h g
    rcases g with rfl | ⟨_, g | g⟩
    · exact h
    · cases g
    · cases g
abbrev putL (xs : List (Bool × List CT)) (r : Rs (List (Bool × List CT))) : Rs (List (Bool × List CT)) := r.go fun ys l => .ok (xs ++ ys, l)
theorem putL_nil (r : Rs (List (Bool × List CT))) : putL [] r = r := by
  cases r <;> rfl
theorem putL_cons (a : Bool × List CT) (xs : List (Bool × List CT)) (r : Rs (List (Bool × List CT))) : ((putL xs r).go fun b l2 => .ok (a :: b, l2)) = putL (a :: xs) r := by
  cases r <;> rfl
/-- Two documents that begin alike. -/
theorem its_rel (m m' : List Tok) : ∀ (n : Nat) (q q' : List Tok), q.length ≤ n → saysK q = saysK q' → NoE q →
    (∃ e k k', itsS (q ++ m) = .error (atT k, e) ∧ itsS (q' ++ m') = .error (atT k', e) ∧ saysK k = saysK k' ∧ k ≠ [] ∧ Sf k q ∧ Sf k' q') ∨
    (∃ xs k k', saysK k = saysK k' ∧ Sf k q ∧ Sf k' q' ∧ itsS (q ++ m) = putL xs (itsS (k ++ m)) ∧ itsS (q' ++ m') = putL xs (itsS (k' ++ m')) ∧ (k = [] ∨ (k ≠ [] ∧ Late true m (itemS (k ++ m)) ∧ Late true m' (itemS (k' ++ m'))))) := by
  intro n
  induction n with
  | zero =>
    intro q q' hn e hq
    obtain rfl : q = [] := List.length_eq_zero_iff.1 (by omega)
    exact .inr ⟨[], [], q', e, .refl _, .refl _, (putL_nil _).symm, (putL_nil _).symm, .inl rfl⟩
  | succ n ih =>
    intro q q' hn e hq
    by_cases h0 : q = []
    · subst h0
      exact .inr ⟨[], [], q', e, .refl _, .refl _, (putL_nil _).symm, (putL_nil _).symm, .inl rfl⟩
    · have hq' := noE_says e hq
      have h0' := saysK_ne e h0
      rcases loc_item.rel q m q' m' h0 e trivial trivial with ⟨a, k, k', h, h', ek, s, s'⟩ | ⟨e', k, k', h, h', ek, nn, s, s'⟩ | ⟨h, h', s, s'⟩
      · have h1 := itemS_eats _ _ _ h
        simp only [List.length_append] at h1
        have e1 : itsS (q ++ m) = (itsS (k ++ m)).go fun b l2 => .ok (a :: b, l2) := by
          rw [its_eq, isP_nil_no h0 hq, h]; rfl
        have e2 : itsS (q' ++ m') = (itsS (k' ++ m')).go fun b l2 => .ok (a :: b, l2) := by
          rw [its_eq, isP_nil_no h0' hq', h']; rfl
        rcases ih k k' (by omega) ek (hq.sub s) with ⟨f, j, j', g, g', ej, nn, t, t'⟩ | ⟨xs, j, j', ej, t, t', g, g', hj⟩
        · left
          exact ⟨f, j, j', by rw [e1, g]; rfl, by rw [e2, g']; rfl, ej, nn, t.trans s, t'.trans s'⟩
        · right
          exact ⟨a :: xs, j, j', ej, t.trans s, t'.trans s', by rw [e1, g, putL_cons], by rw [e2, g', putL_cons], hj⟩
      · left
        exact ⟨e', k, k', by rw [its_eq, isP_nil_no h0 hq, h]; rfl, by rw [its_eq, isP_nil_no h0' hq', h']; rfl, ek, nn, s, s'⟩
      · right
        exact ⟨[], q, q', e, .refl _, .refl _, (putL_nil _).symm, (putL_nil _).symm, .inr ⟨h0, h, h'⟩⟩
/-- What comes of it: all is read, or it is wrong where a token stands, or the end. -/
theorem its_late (N : Nat) : ∀ (n : Nat) (ts : List Tok), ts.length ≤ n → NoE ts → (∃ xs, itsS (ts ++ [eofT N]) = .ok (xs, [])) ∨ ∃ e k, itsS (ts ++ [eofT N]) = .error (atT k, e) ∧ Sf k (ts ++ [eofT N]) ∧ Err k e := by
  intro n
  induction n with
  | zero =>
    intro ts hn _
    obtain rfl : ts = [] := List.length_eq_zero_iff.1 (by omega)
    exact .inl ⟨[], its_eof N⟩
  | succ n ih =>
    intro ts hn hq
    by_cases h0 : ts = []
    · subst h0
      exact .inl ⟨[], its_eof N⟩
    · rw [its_eq, isP_nil_no h0 hq]
      rcases loc_item.late (ts ++ [eofT N]) trivial with ⟨a, k, h, s, b⟩ | ⟨e, k, h, s, g⟩
      · have hb := b rfl
        rw [h]
        simp only [go_ok, Bool.false_eq_true, if_false]
        obtain ⟨c, hc, hcn⟩ := s
        rcases List.eq_nil_or_concat k with rfl | ⟨k1, x, rfl⟩
        · rw [List.append_nil] at hc
          exact absurd (eof_ish N) (hcn _ (hc ▸ List.mem_append_right _ List.mem_cons_self))
        · rw [List.concat_eq_append, ← List.append_assoc] at hc
          obtain ⟨h1, h2⟩ := List.append_inj' hc rfl
          cases h2
          rw [List.concat_eq_append]
          rw [List.concat_eq_append] at hb
          simp only [List.length_append, List.length_cons, List.length_nil] at hb
          have hs : Sf (k1 ++ [eofT N]) (ts ++ [eofT N]) := ⟨c, by rw [h1, List.append_assoc], hcn⟩
          rcases ih k1 (by omega) (fun y hy => hq y (by rw [h1]; exact List.mem_append_right _ hy)) with ⟨xs, hx⟩ | ⟨e, j, hx, t, g⟩
          · exact .inl ⟨a :: xs, by rw [hx]; rfl⟩
          · exact .inr ⟨e, j, by rw [hx]; rfl, t.trans hs, g⟩
      · rw [h]
        exact .inr ⟨e, k, rfl, s, g⟩
theorem some_its {l : List Tok} (h : isP [] l = false) : someS itemS [] l = itsS l := by
  rw [its_eq, h]; rfl
theorem doc_its {ts : List Tok} (h0 : ts ≠ []) (h : NoE ts) (m : List Tok) : docS (ts ++ m) = (itsS (ts ++ m)).go fun xs l1 => .ok (docC xs, l1) := by
  unfold docS
  rw [some_its (isP_nil_no h0 h)]
theorem doc_eof (N : Nat) : docS [eofT N] = .error (N, 60) := rfl
/-- Where kinds and texts are the same, so are the documents, and what is wrong. -/
theorem doc_says {ts ts' : List Tok} (N N' : Nat) (e : saysK ts = saysK ts') (h : NoE ts) :
    (∃ d, docS (ts ++ [eofT N]) = .ok (d, []) ∧ docS (ts' ++ [eofT N']) = .ok (d, [])) ∨ ∃ c p p', docS (ts ++ [eofT N]) = .error (p, c) ∧ docS (ts' ++ [eofT N']) = .error (p', c) := by
  by_cases h0 : ts = []
  · subst h0
    cases ts' with
    | cons x q => cases e
    | nil => exact .inr ⟨60, N, N', rfl, rfl⟩
  · rw [doc_its h0 h, doc_its (saysK_ne e h0) (noE_says e h)]
    rcases its_rel [eofT N] [eofT N'] _ ts ts' (Nat.le_refl _) e h with ⟨c, k, k', g, g', _⟩ | ⟨xs, k, k', ek, s, s', g, g', hk⟩
    · exact .inr ⟨c, _, _, by rw [g]; rfl, by rw [g']; rfl⟩
    · rcases hk with rfl | ⟨hk, l, l'⟩
      · cases k' with
        | cons x q => cases ek
        | nil =>
          rw [List.nil_append, its_eof] at g g'
          exact .inl ⟨docC (xs ++ []), by rw [g]; rfl, by rw [g']; rfl⟩
      · have hn := h.sub s
        rw [its_eq (k ++ _), isP_nil_no hk hn, late_eof l] at g
        rw [its_eq (k' ++ _), isP_nil_no (saysK_ne ek hk) (noE_says ek hn), late_eof l'] at g'
        exact .inr ⟨60, N, N', by rw [g]; rfl, by rw [g']; rfl⟩
theorem sf_drop {k ts : List Tok} {N : Nat} (s : Sf k (ts ++ [eofT N])) : ∃ i, i ≤ ts.length ∧ k = ts.drop i ++ [eofT N] := by
  obtain ⟨c, hc, hcn⟩ := s
  rcases List.eq_nil_or_concat k with rfl | ⟨k1, x, rfl⟩
  · rw [List.append_nil] at hc
    exact absurd (eof_ish N) (hcn _ (hc ▸ List.mem_append_right _ List.mem_cons_self))
  · rw [List.concat_eq_append, ← List.append_assoc] at hc
    obtain ⟨h1, h2⟩ := List.append_inj' hc rfl
    cases h2
    refine ⟨c.length, by rw [h1]; simp, ?_⟩
    rw [List.concat_eq_append, h1, List.drop_left' rfl]
/-- Where a document is wrong: what stands ahead by itself. -/
theorem doc_places {ts : List Tok} {N : Nat} (h : NoE ts) (hi : List.Pairwise (fun x y : Tok => x.b < y.b) (ts ++ [eofT N])) {p : Nat} {e : Int} (hd : docS (ts ++ [eofT N]) = .error (p, e)) :
    (e = 60 ∨ e = 61) ∧ ∃ i, i ≤ ts.length ∧ p = atT (ts.drop i ++ [eofT N]) ∧ ∀ M, (∃ xs, xs ≠ [] ∧ docS (ts.take i ++ [eofT M]) = .ok (docC xs, [])) ∨ docS (ts.take i ++ [eofT M]) = .error (M, 60) := by
  by_cases h0 : ts = []
  · subst h0
    cases hd
    exact ⟨.inl rfl, 0, Nat.le_refl _, rfl, fun M => .inr rfl⟩
  · rw [doc_its h0 h] at hd
    rcases its_late N _ ts (Nat.le_refl _) h with ⟨xs, hx⟩ | ⟨c, k, hx, s, g⟩
    · rw [hx] at hd; cases hd
    · rw [hx] at hd
      obtain ⟨rfl, rfl⟩ : atT k = p ∧ c = e := by cases hd; exact ⟨rfl, rfl⟩
      obtain ⟨i, hl, rfl⟩ := sf_drop s
      refine ⟨g.elim .inl fun g => .inr g.1, i, hl, rfl, fun M => ?_⟩
      by_cases hz : ts.take i = []
      · rw [hz]; exact .inr rfl
      · have hn := h.take i
        have ecat : ts ++ [eofT N] = ts.take i ++ (ts.drop i ++ [eofT N]) := by rw [← List.append_assoc, List.take_append_drop]
        rw [doc_its hz hn]
        rw [ecat] at hx hi
        rcases its_rel (ts.drop i ++ [eofT N]) [eofT M] _ (ts.take i) (ts.take i) (Nat.le_refl _) rfl hn with ⟨c', k, k', g, g', _, nn, s, _⟩ | ⟨xs, k, k', ek, s, s', g, g', hk⟩
        · rw [hx] at g
          exfalso
          have h1 : atT (ts.drop i ++ [eofT N]) = atT k := by injection g with g; injection g
          obtain ⟨y, r, hk⟩ := List.exists_cons_of_ne_nil nn
          have hy : y ∈ ts.take i := by
            obtain ⟨cc, hc, _⟩ := s
            rw [hc, hk]; exact List.mem_append_right _ List.mem_cons_self
          obtain ⟨z, r', hz'⟩ := List.exists_cons_of_ne_nil (l := ts.drop i ++ [eofT N]) (by simp)
          have := (List.pairwise_append.1 hi).2.2 y hy z (by rw [hz']; exact List.mem_cons_self)
          rw [hz', hk] at h1
          simp only [atT] at h1
          omega
        · rcases hk with rfl | ⟨hk, l, l'⟩
          · cases k' with
            | cons x q => cases ek
            | nil =>
              rw [List.nil_append, its_eof] at g'
              left
              refine ⟨xs, ?_, by rw [g']; simp [go_ok, putL]⟩
              rintro rfl
              rw [its_eq, isP_nil_no hz hn] at g'
              cases hit : itemS (ts.take i ++ [eofT M]) with
              | error p => rw [hit] at g'; cases g'
              | ok p =>
                rw [hit] at g'
                cases hb : itsS p.2 with
                | error p' => simp only [Rs.go, hb] at g'; cases g'
                | ok p' => simp only [Rs.go, hb] at g'; cases g'
          · right
            rw [its_eq (k' ++ _), isP_nil_no (saysK_ne ek hk) (noE_says ek (hn.sub s)), late_eof l'] at g'
            rw [g']; rfl
/-- A document that is right, with something behind it. -/
theorem its_join {ts ts' R : List Tok} {N : Nat} {xs : List (Bool × List CT)} {l : List Tok} (e : saysK ts = saysK ts') (h : NoE ts) (hd : itsS (ts ++ [eofT N]) = .ok (xs, l)) : itsS (ts' ++ R) = putL xs (itsS R) := by
  rcases its_rel [eofT N] R _ ts ts' (Nat.le_refl _) e h with ⟨c, k, k', g, g', _⟩ | ⟨ys, k, k', ek, s, s', g, g', hk⟩
  · rw [g] at hd; cases hd
  · rcases hk with rfl | ⟨hk, lt, _⟩
    · cases k' with
      | cons x q => cases ek
      | nil =>
        rw [List.nil_append, its_eof] at g
        rw [List.nil_append] at g'
        rw [g] at hd
        have : ys = xs := by
          simp only [putL, go_ok, List.append_nil] at hd
          injection hd with hd; injection hd
        rw [g', this]
    · rw [its_eq (k ++ _), isP_nil_no hk (h.sub s), late_eof lt] at g
      rw [g] at hd; cases hd
theorem doc_ok_its {ts : List Tok} {N : Nat} {d l : _} (h : NoE ts) (hd : docS (ts ++ [eofT N]) = .ok (d, l)) : ∃ xs, ts ≠ [] ∧ itsS (ts ++ [eofT N]) = .ok (xs, l) ∧ d = docC xs := by
  by_cases h0 : ts = []
  · subst h0; cases hd
  · rw [doc_its h0 h] at hd
    obtain ⟨xs, l1, h1, h2⟩ := go_ok_inv hd
    cases h2
    exact ⟨xs, h0, h1, rfl⟩
/-- Two documents, one behind the other. -/
theorem doc_join {ts ts' us us' : List Tok} {N M K : Nat} {xs ys : List (Bool × List CT)} {l l' : List Tok} (e : saysK ts = saysK ts') (f : saysK us = saysK us') (h : NoE ts) (h' : NoE us) (hd : docS (ts ++ [eofT N]) = .ok (docC xs, l)) (hx : itsS (ts ++ [eofT N]) = .ok (xs, l)) (hy : itsS (us ++ [eofT M]) = .ok (ys, l')) : docS (ts' ++ us' ++ [eofT K]) = .ok (docC (xs ++ ys), []) := by
  obtain ⟨_, h0, _⟩ := doc_ok_its h hd
  rw [List.append_assoc, doc_its (saysK_ne e h0) (noE_says e h), its_join e h hx, its_join f h' hy, its_eof]
  simp [putL, go_ok]
/-- A document that is right, with one behind it that is wrong. -/
theorem doc_join_bad {ts ts' us us' : List Tok} {N M K : Nat} {xs : List (Bool × List CT)} {l : List Tok} {p : Nat} {c : Int} (e : saysK ts = saysK ts') (f : saysK us = saysK us') (h : NoE ts) (h' : NoE us) (h0 : ts ≠ []) (hx : itsS (ts ++ [eofT N]) = .ok (xs, l)) (hu : us ≠ []) (hy : docS (us ++ [eofT M]) = .error (p, c)) :
    ∃ i, i ≤ us'.length ∧ docS (ts' ++ us' ++ [eofT K]) = .error (atT (us'.drop i ++ [eofT K]), c) := by
  rw [doc_its hu h'] at hy
  rw [List.append_assoc, doc_its (saysK_ne e h0) (noE_says e h), its_join e h hx]
  have hyy : itsS (us ++ [eofT M]) = .error (p, c) := by
    cases hb : itsS (us ++ [eofT M]) with
    | error q => rw [hb] at hy; cases hy; rfl
    | ok q => rw [hb] at hy; cases hy
  have key : ∃ k, itsS (us' ++ [eofT K]) = .error (atT k, c) ∧ Sf k (us' ++ [eofT K]) := by
    rcases its_late K _ us' (Nat.le_refl _) (noE_says f h') with ⟨zs, hz⟩ | ⟨c', k, hz, s, _⟩
    · have := its_join (R := [eofT M]) f.symm (noE_says f h') hz
      rw [this, its_eof] at hyy
      cases hyy
    · refine ⟨k, ?_, s⟩
      rcases its_rel [eofT M] [eofT K] _ us us' (Nat.le_refl _) f h' with ⟨d, j, j', g, g', _⟩ | ⟨zs, j, j', ej, t, t', g, g', hj⟩
      · rw [hyy] at g; rw [hz] at g'
        have e1 : c = d := by injection g with g; injection g
        have e2 : c' = d := by injection g' with g'; injection g'
        rw [hz, e1, e2]
      · rcases hj with rfl | ⟨hj, lt, lt'⟩
        · rw [List.nil_append, its_eof] at g
          rw [g] at hyy; cases hyy
        · rw [its_eq (j ++ _), isP_nil_no hj (h'.sub t), late_eof lt] at g
          rw [its_eq (j' ++ _), isP_nil_no (saysK_ne ej hj) (noE_says ej (h'.sub t)), late_eof lt'] at g'
          rw [hyy] at g; rw [hz] at g'
          have e1 : c = 60 := by injection g with g; injection g
          have e2 : c' = 60 := by injection g' with g'; injection g'
          rw [hz, e1, e2]
  obtain ⟨k, h1, h2⟩ := key
  obtain ⟨i, hi, rfl⟩ := sf_drop h2
  exact ⟨i, hi, by rw [h1]; rfl⟩
end Go.Proofs.YtkmopfmofcehiaaGreatDoor
