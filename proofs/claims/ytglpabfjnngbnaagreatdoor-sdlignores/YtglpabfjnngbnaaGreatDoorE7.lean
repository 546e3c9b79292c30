/- Schemas read may be written: plain mathematics. -/
import Derived.Test.YtglpabfjnngbnaaGreatDoorE5
import Derived.Test.YtglpabfjnngbnaaGreatDoorE4
namespace Go.Proofs.YtglpabfjnngbnaaGreatDoor
open Go Go.RowKit
theorem tok_kind1 {u t r : Bs} (h : tokS u = .ok 1 t r) : t = ahead u r := by
  unfold tokS wrt at h
  split at h
  · injection h with h1; cases h1
  · split at h
    · injection h with h1; cases h1
    · split at h
      · injection h with _ h2 h3; subst h3; exact h2.symm
      · split at h
        · split at h
          · cases h
          · injection h with _ h2 h3; subst h3; exact h2.symm
        · split at h
          · split at h
            · cases h
            · injection h with h1; cases h1
          · cases h
theorem name_tok {u : Bs} (h : nameK u = true) : tokS u = .ok 1 u [] ∧ u ≠ [] := by
  have h1 : oneK u = 1 := by simpa [nameK] using h
  unfold oneK at h1
  split at h1
  · rename_i t ht
    split at h1
    · rename_i he
      obtain ⟨ps, tl, hr, e⟩ := right_of ht
      match ps, e, hr with
      | [], e, _ => cases e
      | _ :: _ :: _, e, _ => simp [toksP] at e
      | [a], e, hr =>
        have hc := hr.cat
        have ho := hr.ok
        simp only [toksP, catP, List.cons.injEq, and_true] at e
        simp only [catP] at hc
        obtain ⟨_, hk, _, _⟩ := ho
        have hl : u.length = a.g.length + (a.p.length + tl.length) := by rw [hc]; simp
        subst e
        simp only [List.length_append] at he
        have hg : a.g = [] := List.length_eq_zero_iff.1 (by omega)
        have htl : tl = [] := List.length_eq_zero_iff.1 (by omega)
        rw [hg, htl] at hc
        simp at hc
        simp only at h1
        rw [h1] at hk
        have e2 := tok_kind1 hk
        rw [ahead_nil] at e2
        rw [e2] at hk
        rw [hc]
        exact ⟨hk, tok_ne hk⟩
    · cases h1
  · cases h1
theorem tok_name {u t : Bs} (h : tokS u = .ok 1 t []) (hl : u.length ≤ 16384) : nameK u = true ∧ t = u := by
  have e := tok_kind1 h
  rw [ahead_nil] at e
  refine ⟨?_, e⟩
  unfold nameK oneK
  rw [lexS_one h hl]
  simp
theorem sign_tok {c : UInt8} (h : punL.contains c = true) : tokS [c] = .ok 0 [c] [] := by
  unfold tokS
  rw [if_pos (by simpa [headIn] using h)]
  rfl
/-- A token's kind and text, by what is written. -/
def kt (u : Bs) : Int × Bs := (if headIn punL u then 0 else 1, u)
def OkU (u : Bs) : Prop := tokS u = .ok (kt u).1 u []
theorem okU_name {u : Bs} (h : nameK u = true) : OkU u ∧ kt u = (1, u) := by
  obtain ⟨h1, h2⟩ := name_tok h
  have hp : headIn punL u = false := by
    rw [Bool.eq_false_iff]
    intro hp
    unfold tokS wrt at h1
    rw [if_pos hp] at h1
    injection h1 with h1; cases h1
  have e : kt u = (1, u) := by unfold kt; rw [hp]; rfl
  refine ⟨?_, e⟩
  unfold OkU
  rw [e]; exact h1
theorem okU_sign {c : UInt8} (h : punL.contains c = true) : OkU [c] ∧ kt [c] = (0, [c]) := by
  have e : kt [c] = (0, [c]) := by unfold kt; rw [if_pos (by simpa [headIn] using h)]
  refine ⟨?_, e⟩
  unfold OkU
  rw [e]; exact sign_tok h
/-! ### The tokens of what is written -/
def pcs : List Bs → List Pc
  | [] => []
  | u :: us => ⟨[32], u, (kt u).1, u⟩ :: pcs us
theorem pcs_len : ∀ us, (pcs us).length = us.length
  | [] => rfl
  | u :: us => by simp [pcs, pcs_len us]
theorem pcs_says : ∀ us, saysP (pcs us) = us.map kt
  | [] => rfl
  | u :: us => by
    have := pcs_says us
    unfold saysP at this
    simp only [pcs, saysP, List.map_cons, this]
    rfl
theorem pcs_ok : ∀ us : List Bs, (∀ u ∈ us, OkU u) → AllOk (pcs us) []
  | [], _ => trivial
  | u :: us, h => by
    refine ⟨Gap.one rfl, h u (by simp), ?_, pcs_ok us (fun v hv => h v (by simp [hv]))⟩
    cases us with
    | nil => exact rfl
    | cons v vs => exact fits_blank _ _ _ rfl
theorem pcs_cat : ∀ us : List Bs, us ≠ [] → catP (pcs us) [] = 32 :: joinW us
  | [], h => absurd rfl h
  | [u], _ => by simp [pcs, catP, joinW]
  | u :: v :: l, _ => by
    have := pcs_cat (v :: l) (by simp)
    show [32] ++ (u ++ catP (pcs (v :: l)) []) = _
    rw [this]
    rfl
def pcs0 : List Bs → List Pc
  | [] => []
  | u :: us => ⟨[], u, (kt u).1, u⟩ :: pcs us
theorem pcs0_len : ∀ us, (pcs0 us).length = us.length
  | [] => rfl
  | u :: us => by simp [pcs0, pcs_len us]
theorem pcs0_says : ∀ us, saysP (pcs0 us) = us.map kt
  | [] => rfl
  | u :: us => by
    have := pcs_says us
    unfold saysP at this
    simp only [pcs0, saysP, List.map_cons, this]
    rfl
theorem pcs0_ok : ∀ us : List Bs, (∀ u ∈ us, OkU u) → AllOk (pcs0 us) []
  | [], _ => trivial
  | u :: us, h => by
    refine ⟨Gap.nil, h u (by simp), ?_, pcs_ok us (fun v hv => h v (by simp [hv]))⟩
    cases us with
    | nil => exact rfl
    | cons v vs => exact fits_blank _ _ _ rfl
theorem pcs0_cat : ∀ us : List Bs, catP (pcs0 us) [] = joinW us
  | [] => rfl
  | [u] => by simp [pcs0, pcs, catP, joinW]
  | u :: v :: l => by
    have := pcs_cat (v :: l) (by simp)
    show [] ++ (u ++ catP (pcs (v :: l)) []) = _
    rw [this]
    rfl
theorem lex_join {us : List Bs} (h : ∀ u ∈ us, OkU u) (h1 : us.length ≤ 2048) (h2 : (joinW us).length ≤ 16384) : ∃ ts, lexS (joinW us) = .inr ts ∧ saysT ts = us.map kt := by
  have hr : Right (joinW us) (pcs0 us) [] := ⟨(pcs0_cat us).symm, pcs0_ok us h, by rw [pcs0_len]; exact h1, skip_nil, h2⟩
  exact ⟨_, lexS_right hr, by rw [toksP_says, pcs0_says]⟩
theorem lex_many {us : List Bs} (h : ∀ u ∈ us, OkU u) (h1 : 2048 < us.length) : ∃ p, lexS (joinW us) = .inl p := by
  unfold lexS
  split
  · exact ⟨_, rfl⟩
  · show ∃ p, lexG (joinW us).length 0 (joinW us) = .inl p
    have ha := pcs0_ok us h
    have hs : pcs0 us = (pcs0 us).take 2048 ++ (pcs0 us).drop 2048 := (List.take_append_drop _ _).symm
    rw [hs] at ha
    obtain ⟨a1, a2⟩ := AllOk.split _ _ _ ha
    have hl : ((pcs0 us).take 2048).length = 2048 := by rw [List.length_take, pcs0_len]; omega
    have e := lexG_cat (N := (joinW us).length) _ _ 0 a1 (by omega)
    rw [← catP_app, ← hs, pcs0_cat, hl] at e
    rw [e]
    have hd : 0 < ((pcs0 us).drop 2048).length := by rw [List.length_drop, pcs0_len]; omega
    cases hq : (pcs0 us).drop 2048 with
    | nil => rw [hq] at hd; cases hd
    | cons a az =>
      rw [hq] at a2
      obtain ⟨g1, g2, _, _⟩ := a2
      have sk := skip_tok g1 g2 (catP az [])
      have ne := tok_ne g2
      cases hp : a.p with
      | nil => exact absurd hp ne
      | cons x xs =>
        rw [hp] at sk
        have m := lexG_many (N := (joinW us).length) (c := 0 + 2048) (l := catP (a :: az) []) (x := x) (l1 := xs ++ catP az []) (by
          show skipS (a.g ++ (a.p ++ catP az [])) = _
          rw [hp]; exact sk) rfl
        rw [m]
        exact ⟨_, rfl⟩
/-! ### What is written is read -/
/-- The tokens l begin with what says these words, m is behind. -/
def Sy (us : List Bs) (l m : List Tok) : Prop := ∃ p, l = p ++ m ∧ saysT p = us.map kt
theorem Sy.nil {l m : List Tok} (h : Sy [] l m) : l = m := by
  obtain ⟨p, e, h⟩ := h
  cases p with
  | nil => exact e
  | cons a b => simp [saysT] at h
theorem Sy.one {u : Bs} {us : List Bs} {l m : List Tok} (h : Sy (u :: us) l m) : ∃ t r, l = t :: r ∧ t.k = (kt u).1 ∧ t.t = u ∧ Sy us r m := by
  obtain ⟨p, e, h⟩ := h
  cases p with
  | nil => simp [saysT] at h
  | cons a b =>
    simp only [saysT, List.map_cons, List.cons.injEq] at h
    have e1 : a.k = (kt u).1 := congrArg Prod.fst h.1
    have e2 : a.t = u := congrArg Prod.snd h.1
    exact ⟨a, b ++ m, e, e1, e2, b, rfl, h.2⟩
theorem Sy.app {us vs : List Bs} {l m : List Tok} (h : Sy (us ++ vs) l m) : ∃ r, Sy us l r ∧ Sy vs r m := by
  obtain ⟨p, e, h⟩ := h
  rw [List.map_append] at h
  unfold saysT at h
  obtain ⟨a, b, rfl, h1, h2⟩ := List.map_eq_append_iff.1 h
  exact ⟨b ++ m, ⟨a, by rw [e]; simp, h1⟩, ⟨b, rfl, h2⟩⟩
/-- Neither a bang nor a sign of a directive comes next. -/
def Nx (m : List Tok) : Prop := isP [33] m = false ∧ isP [64] m = false
theorem isP_kt {u s : Bs} {t : Tok} {r : List Tok} (h1 : t.k = (kt u).1) (h2 : t.t = u) : isP s (t :: r) = ((kt u).1 == 0 && u == s) := by
  show (t.k == 0 && t.t == s) = _
  rw [h1, h2]
theorem isW_kt {u s : Bs} {t : Tok} {r : List Tok} (h1 : t.k = (kt u).1) (h2 : t.t = u) : isW s (t :: r) = ((kt u).1 == 1 && u == s) := by
  show (t.k == 1 && t.t == s) = _
  rw [h1, h2]
theorem back_name {n : Bs} {us : List Bs} {l m : List Tok} (h : nameW n = some us) (hs : Sy us l m) : nameD l = .ok (n, m) ∧ (∀ s, isP s l = false) ∧ txT l = n := by
  unfold nameW at h
  split at h
  · rename_i hn
    cases h
    obtain ⟨t, r, rfl, h1, h2, h3⟩ := hs.one
    have e := (okU_name hn).2
    have hm := h3.nil
    subst hm
    rw [e] at h1
    have h1' : t.k = 1 := h1
    refine ⟨?_, fun s => ?_, h2⟩
    · unfold nameD
      rw [if_pos (by simp [isK, h1'])]
      simp [txT, h2]
    · show (t.k == 0 && t.t == s) = false
      rw [h1']; rfl
  · cases h
theorem back_sign {c : UInt8} (hc : punL.contains c = true) {us : List Bs} {l m : List Tok} (hs : Sy ([c] :: us) l m) : ∃ r, signD [c] l = .ok ((), r) ∧ l.tail = r ∧ Sy us r m ∧ (∀ s, isP s l = ([c] == s)) ∧ nameD l = .error (atT l, 80) ∧ ∀ s, isW s l = false := by
  obtain ⟨t, r, rfl, h1, h2, h3⟩ := hs.one
  rw [(okU_sign hc).2] at h1
  have h1' : t.k = 0 := h1
  have e : ∀ s, isP s (t :: r) = ([c] == s) := fun s => by
    show (t.k == 0 && t.t == s) = _
    rw [h1', h2]; simp
  refine ⟨r, ?_, rfl, h3, e, ?_, fun s => ?_⟩
  · unfold signD
    rw [if_pos (by rw [e]; simp)]; rfl
  · unfold nameD
    rw [if_neg (by simp [isK, h1'])]
  · show (t.k == 1 && t.t == s) = false
    rw [h1']; rfl
theorem back_word {u : Bs} (hu : (kt u) = (1, u)) {us : List Bs} {l m : List Tok} (hs : Sy (u :: us) l m) : ∃ r, mustD u l = .ok ((), r) ∧ l.tail = r ∧ Sy us r m ∧ (∀ s, isW s l = (u == s)) ∧ (∀ s, isP s l = false) := by
  obtain ⟨t, r, rfl, h1, h2, h3⟩ := hs.one
  rw [hu] at h1
  have h1' : t.k = 1 := h1
  have e : ∀ s, isW s (t :: r) = (u == s) := fun s => by
    show (t.k == 1 && t.t == s) = _
    rw [h1', h2]; simp
  refine ⟨r, ?_, rfl, h3, e, fun s => ?_⟩
  · unfold mustD
    rw [if_pos (by rw [e]; simp)]; rfl
  · show (t.k == 0 && t.t == s) = false
    rw [h1']; rfl
theorem back_bang {s : Bs} {us : List Bs} {l m : List Tok} (h : bangW s = some us) (hs : Sy us l m) (hm : isP [33] m = false) : bangD l = .ok (s, m) := by
  unfold bangW at h
  split at h
  · rename_i h0
    cases h
    have := hs.nil
    subst this h0
    unfold bangD
    rw [if_neg (by rw [hm]; simp)]
  · split at h
    · rename_i h0
      subst h0
      cases h
      obtain ⟨r, _, h2, h3, h4, _⟩ := back_sign (c := 33) rfl hs
      have := h3.nil
      subst this
      unfold bangD
      rw [if_pos (by rw [h4]; rfl), h2]
    · cases h
theorem cutW_some : ∀ {w : Bs} {p : Bs × Bs}, cutW w = some p → w = p.1 ++ 91 :: p.2
  | [], _, h => by cases h
  | c :: l, p, h => by
    unfold cutW at h
    split at h
    · rename_i hc; cases h; subst hc; rfl
    · split at h
      · cases h
      · rename_i q hq
        cases h
        have := cutW_some hq
        simp only [List.cons_append]
        rw [← this]
theorem bang_next {s : Bs} {us : List Bs} {c : UInt8} (hc : punL.contains c = true) (hc2 : c ≠ 33) {l m : List Tok} (_h : bangW s = some us) (hs : Sy ([c] :: us) l m) : isP [33] l = false := by
  obtain ⟨r, _, _, _, h4, _⟩ := back_sign hc hs
  rw [h4]
  simpa using hc2
theorem back_ref {t w : Bs} {us : List Bs} {l m : List Tok} (h : refW t w = some us) (hs : Sy us l m) (hm : isP [33] m = false) : refD l = .ok ((t, w), m) := by
  unfold refW at h
  split at h
  · obtain ⟨a, b, h1, h2, rfl⟩ := andW_some h
    obtain ⟨r, s1, s2⟩ := hs.app
    obtain ⟨e1, e2, _⟩ := back_name h1 s1
    have e3 := back_bang h2 s2 hm
    unfold refD refD1
    rw [if_neg (by rw [e2]; simp), e1, go_ok, e3, go_ok]
  · rename_i p hp
    obtain ⟨a, b, h1, h2, rfl⟩ := andW_some h
    cases h1
    obtain ⟨a1, b1, g1, g2, rfl⟩ := andW_some h2
    obtain ⟨a2, b2, h3, h4, rfl⟩ := andW_some g2
    obtain ⟨a3, b3, h5, h6, rfl⟩ := andW_some h4
    cases h5
    obtain ⟨r, _, s2, s3, s4, _⟩ := back_sign (c := 91) (us := a1 ++ (a2 ++ [93] :: b3)) rfl hs
    obtain ⟨r1, t1, t2⟩ := s3.app
    obtain ⟨e1, _, _⟩ := back_name g1 t1
    obtain ⟨r2, t3, t4⟩ := t2.app
    obtain ⟨r3, q1, q2, q3, q4, _⟩ := back_sign (c := 93) rfl t4
    have e3 := back_bang h3 t3 (by rw [q4]; rfl)
    have e4 := back_bang h6 q3 hm
    unfold refD
    rw [if_pos (by rw [s4]; rfl), s2]
    unfold refD1
    rw [e1, go_ok, e3, go_ok, go_ok, q1, go_ok, e4, go_ok, cutW_some hp]
theorem kw_field : kt fieldB = (1, fieldB) := by rfl
theorem kw_search : kt searchB = (1, searchB) := by rfl
theorem kw_inverse : kt inverseB = (1, inverseB) := by rfl
theorem kw_type : kt typeB = (1, typeB) := by rfl
theorem kw_enum : kt enumB = (1, enumB) := by rfl
theorem back_inv {i : Bs} {s : Bool} {us : List Bs} {l m : List Tok} (h : invW i = some us) (hs : Sy us l m) (hm : Nx m) : dirsD (s, []) l = .ok ((s, i), m) := by
  unfold invW at h
  split at h
  · rename_i hi
    cases h
    have := hs.nil
    subst this hi
    rw [dirsD_eq, if_neg (by rw [hm.2]; simp)]
  · rename_i hi
    obtain ⟨a, b, g1, g2, rfl⟩ := andW_some h
    cases g1
    obtain ⟨a1, b1, h1, h2, rfl⟩ := andW_some g2
    cases h2
    obtain ⟨r1, _, e1, s1, p1, _⟩ := back_sign (c := 64) (us := inverseB :: [40] :: fieldB :: [58] :: (a1 ++ [[41]])) rfl hs
    obtain ⟨r2, _, e2, s2, p2, _⟩ := back_word kw_inverse s1
    obtain ⟨r3, f3, _, s3, _⟩ := back_sign (c := 40) rfl s2
    obtain ⟨r4, f4, _, s4, _⟩ := back_word kw_field s3
    obtain ⟨r5, f5, _, s5, _⟩ := back_sign (c := 58) rfl s4
    obtain ⟨r6, s6, s7⟩ := s5.app
    obtain ⟨f6, _, _⟩ := back_name h1 s6
    obtain ⟨r7, f7, _, s8, _⟩ := back_sign (c := 41) rfl s7
    have := s8.nil
    subst this
    rw [dirsD_eq, if_pos (by rw [p1]; simp), e1]
    have hd : directiveD (s, []) r1 = .ok ((s, i), r7) := by
      unfold directiveD
      rw [if_neg (by rw [p2]; simp), if_pos (by rw [p2]; simp), e2]
      unfold inverseD
      rw [f3, go_ok, f4, go_ok, f5, go_ok, f6, go_ok, f7, go_ok]
      rfl
    rw [hd, go_ok, dirsD_eq, if_neg (by rw [hm.2]; simp)]
theorem back_dirs {i : Bs} {s : Bool} {us : List Bs} {l m : List Tok} (h : andW (seaW s) (invW i) = some us) (hs : Sy us l m) (hm : Nx m) : dirsD (false, []) l = .ok ((s, i), m) := by
  obtain ⟨a, b, h1, h2, rfl⟩ := andW_some h
  unfold seaW at h1
  cases s with
  | false =>
    cases h1
    exact back_inv h2 hs hm
  | true =>
    cases h1
    obtain ⟨r1, _, e1, s1, p1, _⟩ := back_sign (c := 64) rfl hs
    obtain ⟨r2, _, e2, s2, p2, _⟩ := back_word kw_search s1
    rw [dirsD_eq, if_pos (by rw [p1]; simp), e1]
    have hd : directiveD (false, []) r1 = .ok ((true, []), r2) := by
      unfold directiveD
      rw [if_pos (by rw [p2]; simp), e2]
    rw [hd, go_ok]
    exact back_inv h2 s2 hm
/-- A bang can't come ahead of what is written of directives. -/
theorem dirs_next {i : Bs} {s : Bool} {us : List Bs} {l m : List Tok} (h : andW (seaW s) (invW i) = some us) (hs : Sy us l m) (hm : Nx m) : isP [33] l = false := by
  obtain ⟨a, b, h1, h2, rfl⟩ := andW_some h
  unfold seaW at h1
  cases s with
  | true =>
    cases h1
    obtain ⟨r1, _, e1, s1, p1, _⟩ := back_sign (c := 64) rfl hs
    rw [p1]; rfl
  | false =>
    cases h1
    unfold invW at h2
    split at h2
    · cases h2
      have := hs.nil
      subst this
      exact hm.1
    · obtain ⟨a, b, h3, h4, rfl⟩ := andW_some h2
      cases h3
      obtain ⟨r1, _, e1, s1, p1, _⟩ := back_sign (c := 64) rfl hs
      rw [p1]; rfl
theorem back_field {f : Fld} {us : List Bs} {l m : List Tok} (h : fieldW f = some us) (hs : Sy us l m) (hm : Nx m) : fieldD l = .ok (f, m) ∧ (∀ s, isP s l = false) := by
  unfold fieldW at h
  obtain ⟨a1, b1, h1, h2, rfl⟩ := andW_some h
  obtain ⟨a2, b2, h3, h4, rfl⟩ := andW_some h2
  cases h3
  obtain ⟨a3, b3, h5, h6, rfl⟩ := andW_some h4
  obtain ⟨r1, s1, s2⟩ := hs.app
  obtain ⟨e1, e2, _⟩ := back_name h1 s1
  obtain ⟨r2, f2, _, s3, _⟩ := back_sign (c := 58) (us := a3 ++ b3) rfl s2
  obtain ⟨r3, s4, s5⟩ := s3.app
  have e3 := back_ref h5 s4 (dirs_next h6 s5 hm)
  have e4 := back_dirs h6 s5 hm
  refine ⟨?_, e2⟩
  unfold fieldD
  rw [e1, go_ok, f2, go_ok, e3, go_ok, e4, go_ok]
end Go.Proofs.YtglpabfjnngbnaaGreatDoor
namespace Go.Proofs.YtglpabfjnngbnaaGreatDoor
open Go Go.RowKit
/-- One of these is written, and read back if it is good. -/
structure BackE {α : Type} (wr : α → Option (List Bs)) (rd : List Tok → Rs α) (good : α → Bool) : Prop where
  eats : Eats rd
  yes : ∀ x us l m, wr x = some us → Sy us l m → Nx m → good x = true → rd l = .ok (x, m)
  no : ∀ x us l m, wr x = some us → Sy us l m → Nx m → good x = false → ∃ p, rd l = .error p
  one : ∀ x us l m, wr x = some us → Sy us l m → ∀ s, isP s l = false
theorem anyS_neg {α : Type} {f : List Tok → Rs α} (hf : Eats f) {last : Bs} {l : List Tok} (h : isP last l = false) : anyS f last l = (f l).go fun a l1 => (anyS f last l1).go fun b l2 => .ok (a :: b, l2) := by
  rw [anyS_eq hf, h]; rfl
theorem back_any {α : Type} {wr : α → Option (List Bs)} {rd : List Tok → Rs α} {good : α → Bool} (B : BackE wr rd good) {last : Bs} {z : Tok} {m : List Tok} (hz : z.k = 0) (hz2 : z.t = last) (hl1 : last ≠ [33]) (hl2 : last ≠ [64]) : ∀ (xs : List α) (us : List Bs) (l : List Tok), rowW wr xs = some us → Sy us l (z :: m) → if xs.all good then anyS rd last l = .ok (xs, m) else ∃ p, anyS rd last l = .error p
  | [], us, l, h, hs => by
    cases h
    have := hs.nil
    subst this
    simp only [List.all_nil, if_true]
    rw [anyS_eq B.eats, if_pos (by simp [isP, hz, hz2])]
    rfl
  | x :: xs, us, l, h, hs => by
    obtain ⟨a, b, h1, h2, rfl⟩ := andW_some h
    obtain ⟨r, s1, s2⟩ := hs.app
    have hn := B.one _ _ _ _ h1 s1
    have nx : Nx r := by
      cases xs with
      | nil =>
        cases h2
        have := s2.nil
        subst this
        exact ⟨by simp [isP, hz, hz2, hl1], by simp [isP, hz, hz2, hl2]⟩
      | cons y ys =>
        obtain ⟨a', b', h3, h4, rfl⟩ := andW_some h2
        obtain ⟨r', s3, s4⟩ := s2.app
        have := B.one _ _ _ _ h3 s3
        exact ⟨this _, this _⟩
    have ih := back_any B hz hz2 hl1 hl2 xs b r h2 s2
    rw [anyS_neg B.eats (hn _), List.all_cons]
    cases hg : good x with
    | false =>
      obtain ⟨p, e⟩ := B.no _ _ _ _ h1 s1 nx hg
      rw [e, go_error]
      simp
    | true =>
      rw [B.yes _ _ _ _ h1 s1 nx hg, go_ok, Bool.true_and]
      split at ih
      · rename_i hA
        rw [if_pos hA, ih, go_ok]
      · rename_i hA
        rw [if_neg hA]
        obtain ⟨p, e⟩ := ih
        exact ⟨p, by rw [e, go_error]⟩
theorem back_some {α : Type} {wr : α → Option (List Bs)} {rd : List Tok → Rs α} {good : α → Bool} (B : BackE wr rd good) (hrd : ∀ t m, t.k = 0 → ∃ p, rd (t :: m) = .error p) {last : Bs} {z : Tok} {m : List Tok} (hz : z.k = 0) (hz2 : z.t = last) (hl1 : last ≠ [33]) (hl2 : last ≠ [64]) (xs : List α) (us : List Bs) (l : List Tok) (h : rowW wr xs = some us) (hs : Sy us l (z :: m)) : if (!xs.isEmpty && xs.all good) then someS rd last l = .ok (xs, m) else ∃ p, someS rd last l = .error p := by
  cases xs with
  | nil =>
    cases h
    have := hs.nil
    subst this
    obtain ⟨p, e⟩ := hrd z m hz
    exact ⟨p, by unfold someS; rw [e, go_error]⟩
  | cons x xs =>
    have hn : isP last l = false := by
      obtain ⟨a, b, h1, h2, rfl⟩ := andW_some h
      obtain ⟨r, s1, s2⟩ := hs.app
      exact B.one _ _ _ _ h1 s1 _
    have A := back_any B hz hz2 hl1 hl2 (x :: xs) us l h hs
    rw [anyS_neg B.eats hn] at A
    simpa [someS] using A
theorem nameD_kind {t : Tok} {m : List Tok} (h : t.k = 0) : ∃ p, nameD (t :: m) = .error p := ⟨_, by unfold nameD; rw [if_neg (by simp [isK, h])]⟩
theorem back_fields : BackE fieldW fieldD (fun _ => true) := by
  refine ⟨fieldD_eats, fun _ _ _ _ h hs hm _ => (back_field h hs hm).1, fun _ _ _ _ _ _ _ h => (by cases h), fun x us l m h hs s => ?_⟩
  unfold fieldW at h
  obtain ⟨a, b, h1, h2, rfl⟩ := andW_some h
  obtain ⟨r, s1, s2⟩ := hs.app
  exact (back_name h1 s1).2.1 s
theorem back_words : BackE nameW wordD (fun x => !notW.contains x) := by
  refine ⟨wordD_eats, fun x us l m h hs hm hg => ?_, fun x us l m h hs hm hg => ?_, fun x us l m h hs => (back_name h hs).2.1⟩
  · obtain ⟨e1, e2, e3⟩ := back_name h hs
    have hg' : notW.contains x = false := by cases hx : notW.contains x <;> simp_all
    unfold wordD
    rw [e3, if_neg (by rw [hg']; simp), e1]
  · obtain ⟨e1, e2, e3⟩ := back_name h hs
    have hg' : notW.contains x = true := by cases hx : notW.contains x <;> simp_all
    unfold wordD
    rw [e3, if_pos hg']
    exact ⟨_, rfl⟩
theorem fieldD_kind (t : Tok) (m : List Tok) (h : t.k = 0) : ∃ p, fieldD (t :: m) = .error p := by
  obtain ⟨p, e⟩ := nameD_kind (m := m) h
  exact ⟨p, by unfold fieldD; rw [e, go_error]⟩
theorem wordD_kind (t : Tok) (m : List Tok) (h : t.k = 0) : ∃ p, wordD (t :: m) = .error p := by
  obtain ⟨p, e⟩ := nameD_kind (m := m) h
  unfold wordD
  split
  · exact ⟨_, rfl⟩
  · exact ⟨p, e⟩
theorem back_within {α : Type} {wr : α → Option (List Bs)} {rd : List Tok → Rs α} {good : α → Bool} (B : BackE wr rd good) (hrd : ∀ t m, t.k = 0 → ∃ p, rd (t :: m) = .error p) (xs : List α) (us : List Bs) (l m : List Tok) (h : andW (some [[123]]) (andW (rowW wr xs) (some [[125]])) = some us) (hs : Sy us l m) : if (!xs.isEmpty && xs.all good) then withinD rd l = .ok (xs, m) else ∃ p, withinD rd l = .error p := by
  obtain ⟨a, b, h1, h2, rfl⟩ := andW_some h
  cases h1
  obtain ⟨a, b', h1, h3, rfl⟩ := andW_some h2
  cases h3
  obtain ⟨r, e1, _, s1, _⟩ := back_sign (c := 123) (us := a ++ [[125]]) rfl hs
  obtain ⟨r2, s2, s3⟩ := s1.app
  obtain ⟨t, r3, rfl, k1, k2, s4⟩ := s3.one
  have := s4.nil
  subst this
  have A := back_some B hrd (z := t) (m := r3) (last := [125]) k1 k2 (by decide) (by decide) xs a r h1 s2
  unfold withinD
  rw [e1, go_ok]
  exact A
/-- May a definition be written? -/
def goodD : Ob ⊕ En → Bool
  | .inl o => !o.fs.isEmpty
  | .inr e => !e.ws.isEmpty && e.ws.all fun x => !notW.contains x
def defW : Ob ⊕ En → Option (List Bs)
  | .inl o => objectW o
  | .inr e => enumW e
theorem defineD_kind (t : Tok) (m : List Tok) (h : t.k = 0) : ∃ p, defineD (t :: m) = .error p := by
  have e : ∀ s, isW s (t :: m) = false := fun s => by show (t.k == 1 && _) = false; rw [h]; rfl
  unfold defineD
  rw [if_neg (by rw [e]; simp), if_neg (by rw [e]; simp)]
  exact ⟨_, rfl⟩
theorem back_defs : BackE defW defineD goodD := by
  have M : ∀ x us l m, defW x = some us → Sy us l m → (if goodD x = true then defineD l = .ok (x, m) else ∃ p, defineD l = .error p) ∧ ∀ s, isP s l = false := by
    intro x us l m h hs
    cases x with
    | inl o =>
      have h' : objectW o = some us := h
      unfold objectW at h'
      obtain ⟨a, b, h1, h2, rfl⟩ := andW_some h'
      cases h1
      obtain ⟨a2, b2, h3, h4, rfl⟩ := andW_some h2
      obtain ⟨r, _, e1, s1, w1, p1⟩ := back_word (u := typeB) (us := a2 ++ b2) kw_type hs
      obtain ⟨r2, s2, s3⟩ := s1.app
      obtain ⟨e2, _, _⟩ := back_name h3 s2
      have A := back_within back_fields fieldD_kind o.fs b2 r2 m h4 s3
      have ea : o.fs.all (fun _ => true) = true := by simp
      rw [ea, Bool.and_true] at A
      refine ⟨?_, p1⟩
      have hd : defineD l = (withinD fieldD r2).go fun fs l2 => .ok (.inl ⟨o.n, fs⟩, l2) := by
        unfold defineD
        rw [w1, if_pos (by simp), e1, e2, go_ok]
      rw [hd]
      show if (!o.fs.isEmpty) = true then _ else _
      split at A
      · rename_i hA
        rw [if_pos hA, A, go_ok]
      · rename_i hA
        rw [if_neg hA]
        obtain ⟨p, e⟩ := A
        exact ⟨p, by rw [e, go_error]⟩
    | inr o =>
      have h' : enumW o = some us := h
      unfold enumW at h'
      obtain ⟨a, b, h1, h2, rfl⟩ := andW_some h'
      cases h1
      obtain ⟨a2, b2, h3, h4, rfl⟩ := andW_some h2
      obtain ⟨r, _, e1, s1, w1, p1⟩ := back_word (u := enumB) (us := a2 ++ b2) kw_enum hs
      obtain ⟨r2, s2, s3⟩ := s1.app
      obtain ⟨e2, _, _⟩ := back_name h3 s2
      have A := back_within back_words wordD_kind o.ws b2 r2 m h4 s3
      refine ⟨?_, p1⟩
      have hd : defineD l = (withinD wordD r2).go fun fs l2 => .ok (.inr ⟨o.n, fs⟩, l2) := by
        unfold defineD
        rw [w1, w1, if_neg (by decide), if_pos (by simp), e1, e2, go_ok]
      rw [hd]
      show if (!o.ws.isEmpty && o.ws.all fun x => !notW.contains x) = true then _ else _
      split at A
      · rename_i hA
        rw [if_pos hA, A, go_ok]
      · rename_i hA
        rw [if_neg hA]
        obtain ⟨p, e⟩ := A
        exact ⟨p, by rw [e, go_error]⟩
  refine ⟨defineD_eats, fun x us l m h hs _ hg => ?_, fun x us l m h hs _ hg => ?_, fun x us l m h hs => (M x us l m h hs).2⟩
  · have := (M x us l m h hs).1
    rwa [if_pos hg] at this
  · have := (M x us l m h hs).1
    rwa [if_neg (by rw [hg]; simp)] at this
theorem rowW_app {α : Type} (g : α → Option (List Bs)) : ∀ a b : List α, rowW g (a ++ b) = andW (rowW g a) (rowW g b)
  | [], b => by
    show _ = andW (some []) _
    cases h : rowW g b <;> simp [andW, h]
  | x :: a, b => by
    show andW (g x) (rowW g (a ++ b)) = andW (andW (g x) (rowW g a)) (rowW g b)
    rw [rowW_app g a b, andW_assoc]
theorem rowW_map {α β : Type} (g : β → Option (List Bs)) (f : α → β) : ∀ l : List α, rowW g (l.map f) = rowW (fun x => g (f x)) l
  | [] => rfl
  | x :: l => by show andW _ _ = andW _ _; rw [rowW_map g f l]
def defsOf (s : Sch) : List (Ob ⊕ En) := s.os.map .inl ++ s.es.map .inr
theorem schemaW_row (s : Sch) : schemaW s = rowW defW (defsOf s) := by
  unfold defsOf schemaW
  rw [rowW_app, rowW_map, rowW_map]
  rfl
theorem sch_defs (s : Sch) : schOf (defsOf s) = s := by
  have h1 : obsOf (defsOf s) = s.os := by
    unfold defsOf
    rw [obsOf_app]
    have a : ∀ l : List Ob, obsOf (l.map .inl) = l := fun l => by simp [obsOf, List.filterMap_map, Function.comp_def]
    have b : ∀ l : List En, obsOf (l.map .inr) = [] := fun l => by simp [obsOf]
    rw [a, b, List.append_nil]
  have h2 : ensOf (defsOf s) = s.es := by
    unfold defsOf
    rw [ensOf_app]
    have a : ∀ l : List Ob, ensOf (l.map .inl) = [] := fun l => by simp [ensOf]
    have b : ∀ l : List En, ensOf (l.map .inr) = l := fun l => by simp [ensOf, List.filterMap_map, Function.comp_def]
    rw [a, b, List.nil_append]
  show Sch.mk _ _ = _
  rw [h1, h2]
def goodS (s : Sch) : Bool := !(defsOf s).isEmpty && (defsOf s).all goodD
theorem back_schema {s : Sch} {us : List Bs} {ts : List Tok} (N : Nat) (h : schemaW s = some us) (hs : saysT ts = us.map kt) : if goodS s then schemaD (ts ++ [eofT N]) = .ok (s, []) else ∃ p, schemaD (ts ++ [eofT N]) = .error p := by
  rw [schemaW_row] at h
  have A := back_some back_defs defineD_kind (z := eofT N) (m := []) (last := []) rfl rfl (by decide) (by decide) (defsOf s) us (ts ++ [eofT N]) h ⟨ts, rfl, hs⟩
  unfold schemaD
  show if (!(defsOf s).isEmpty && (defsOf s).all goodD) = true then _ else _
  split at A
  · rename_i hA
    rw [if_pos hA, A, go_ok, sch_defs]
  · rename_i hA
    rw [if_neg hA]
    obtain ⟨p, e⟩ := A
    exact ⟨p, by rw [e, go_error]⟩
/-! ### All that is written are tokens -/
def AllU (us : List Bs) : Prop := ∀ u ∈ us, OkU u
theorem AllU.app {a b : List Bs} (ha : AllU a) (hb : AllU b) : AllU (a ++ b) := fun u hu => by
  rcases List.mem_append.1 hu with h | h
  · exact ha u h
  · exact hb u h
def OkW (x : Option (List Bs)) : Prop := ∀ us, x = some us → AllU us
theorem OkW.and {x y : Option (List Bs)} (hx : OkW x) (hy : OkW y) : OkW (andW x y) := fun us h => by
  obtain ⟨a, b, h1, h2, rfl⟩ := andW_some h
  exact (hx a h1).app (hy b h2)
theorem okW_name (n : Bs) : OkW (nameW n) := fun us h => by
  unfold nameW at h
  split at h
  · rename_i hn
    cases h
    intro u hu
    simp at hu
    subst hu
    exact (okU_name hn).1
  · cases h
theorem okW_lit {l : List Bs} (h : ∀ u ∈ l, OkU u) : OkW (some l) := fun us e => by cases e; exact h
theorem okW_bang (s : Bs) : OkW (bangW s) := fun us h => by
  unfold bangW at h
  split at h
  · cases h; intro u hu; cases hu
  · split at h
    · rename_i e
      subst e
      cases h
      intro u hu
      simp at hu
      subst hu
      exact (okU_sign rfl).1
    · cases h
theorem okU_kw {u : Bs} (h : ∃ c l, u = c :: l ∧ letL.contains c = true ∧ spanR (letL ++ digL) l = []) : OkU u := by
  obtain ⟨c, l, rfl, h1, h2⟩ := h
  have hp : punL.contains c = false := by
    have : ∀ c ∈ letL, punL.contains c = false := by decide
    exact this c (by simpa using h1)
  have hd : (c == 46) = false := by
    have : ∀ c ∈ letL, (c == 46) = false := by decide
    exact this c (by simpa using h1)
  unfold OkU kt tokS wrt
  rw [if_neg (by simpa [headIn] using hp)]
  have hd' : ¬ c = 46 := by simpa using hd
  rw [if_neg (by simp [List.isPrefixOf]; intro e; exact absurd e.symm hd'), if_pos (by simpa [headIn] using h1)]
  simp only [List.drop_succ_cons, List.drop_zero, h2, ahead_nil]
  rw [if_neg (by simpa [headIn] using hp)]
theorem okW_row {α : Type} {g : α → Option (List Bs)} (hg : ∀ x, OkW (g x)) : ∀ l : List α, OkW (rowW g l)
  | [] => okW_lit (by simp)
  | x :: l => (hg x).and (okW_row hg l)
theorem okW_ref (t w : Bs) : OkW (refW t w) := by
  unfold refW
  split
  · exact (okW_name t).and (okW_bang w)
  · exact (okW_lit (by intro u hu; simp at hu; subst hu; exact (okU_sign rfl).1)).and ((okW_name t).and ((okW_bang _).and ((okW_lit (by intro u hu; simp at hu; subst hu; exact (okU_sign rfl).1)).and (okW_bang _))))
theorem okW_field (f : Fld) : OkW (fieldW f) := by
  refine (okW_name _).and ((okW_lit (by intro u hu; simp at hu; subst hu; exact (okU_sign rfl).1)).and ((okW_ref _ _).and (OkW.and ?_ ?_)))
  · unfold seaW
    split
    · refine okW_lit (fun u hu => ?_)
      simp at hu
      rcases hu with rfl | rfl
      · exact (okU_sign rfl).1
      · exact okU_kw ⟨_, _, rfl, rfl, rfl⟩
    · exact okW_lit (by simp)
  · unfold invW
    split
    · exact okW_lit (by simp)
    · refine OkW.and (okW_lit (fun u hu => ?_)) ((okW_name _).and (okW_lit (by intro u hu; simp at hu; subst hu; exact (okU_sign rfl).1)))
      simp at hu
      rcases hu with rfl | rfl | rfl | rfl | rfl
      · exact (okU_sign rfl).1
      · exact okU_kw ⟨_, _, rfl, rfl, rfl⟩
      · exact (okU_sign rfl).1
      · exact okU_kw ⟨_, _, rfl, rfl, rfl⟩
      · exact (okU_sign rfl).1
theorem okW_def (x : Ob ⊕ En) : OkW (defW x) := by
  have s1 : OkW (some [[123]]) := okW_lit (by intro u hu; simp at hu; subst hu; exact (okU_sign rfl).1)
  have s2 : OkW (some [[125]]) := okW_lit (by intro u hu; simp at hu; subst hu; exact (okU_sign rfl).1)
  cases x with
  | inl o => exact (okW_lit (by intro u hu; simp at hu; subst hu; exact okU_kw ⟨_, _, rfl, rfl, rfl⟩)).and ((okW_name _).and (s1.and ((okW_row okW_field _).and s2)))
  | inr e => exact (okW_lit (by intro u hu; simp at hu; subst hu; exact okU_kw ⟨_, _, rfl, rfl, rfl⟩)).and ((okW_name _).and (s1.and ((okW_row okW_name _).and s2)))
theorem okW_schema (s : Sch) : OkW (schemaW s) := by
  rw [schemaW_row]
  exact okW_row okW_def _
/-- What is written is read as what it was, or it is too long. -/
theorem parse_written {s : Sch} {us : List Bs} (h : schemaW s = some us) : if goodS s = true ∧ us.length ≤ 2048 ∧ (joinW us).length ≤ 16384 then parseD (joinW us) = .ok s else ∃ p, parseD (joinW us) = .error p := by
  have hu := okW_schema s us h
  by_cases h1 : us.length ≤ 2048
  · by_cases h2 : (joinW us).length ≤ 16384
    · obtain ⟨ts, e1, e2⟩ := lex_join hu h1 h2
      have B := back_schema (joinW us).length h e2
      unfold parseD
      rw [e1]
      simp only
      cases hg : goodS s with
      | true =>
        rw [if_pos hg] at B
        rw [if_pos ⟨rfl, h1, h2⟩, B]
      | false =>
        rw [if_neg (by rw [hg]; simp)] at B
        rw [if_neg (by simp)]
        obtain ⟨p, e⟩ := B
        exact ⟨p, by rw [e]⟩
    · rw [if_neg (fun e => h2 e.2.2)]
      unfold parseD lexS
      rw [if_pos (by omega)]
      exact ⟨_, rfl⟩
  · rw [if_neg (fun e => h1 e.2.1)]
    obtain ⟨p, e⟩ := lex_many hu (by omega)
    unfold parseD
    rw [e]
    exact ⟨_, rfl⟩
theorem printD_ok {s : Sch} {t : Bs} (h : printD s = some t) : parseD t = .ok s := by
  unfold printD at h
  split at h
  · cases h
  · rename_i us hu
    split at h
    · cases h
    · rename_i x hx
      cases h
      have W := parse_written hu
      split at W
      · exact W
      · obtain ⟨p, e⟩ := W
        rw [e] at hx; cases hx
end Go.Proofs.YtglpabfjnngbnaaGreatDoor
namespace Go.Proofs.YtglpabfjnngbnaaGreatDoor
open Go Go.RowKit
/-- How long tokens are, a blank behind each. -/
def tw : List Tok → Nat
  | [] => 0
  | t :: l => t.e - t.b + 1 + tw l
structure TkOk (t : Tok) : Prop where
  nm : t.k = 1 → nameK t.t = true
  ln : (t.k = 0 ∨ t.k = 1) → t.t.length = t.e - t.b ∧ t.t.length ≤ 16384
def NK (l : List Tok) : Prop := ∀ t ∈ l, TkOk t
theorem NK.tail {t : Tok} {l : List Tok} (h : NK (t :: l)) : NK l := fun x hx => h x (by simp [hx])
/-- What is read can be written, and is as long. -/
def RdW {α : Type} (f : List Tok → Rs α) (wr : α → Option (List Bs)) (ok : α → Prop) : Prop := ∀ l x m, NK l → f l = .ok (x, m) → ∃ us, wr x = some us ∧ ok x ∧ szW us + tw m = tw l ∧ us.length + m.length = l.length ∧ NK m
theorem tk_one {t : Tok} {r : List Tok} (h : NK (t :: r)) (hk : t.k = 0 ∨ t.k = 1) : szW [t.t] + tw r = tw (t :: r) ∧ [t.t].length + r.length = (t :: r).length := by
  have := ((h t (by simp)).ln hk).1
  simp only [szW, tw, List.length_cons, List.length_nil]
  omega
theorem rd_name : RdW nameD nameW (fun n => n.length ≤ 16384 ∧ nameK n = true) := by
  intro l x m hl h
  unfold nameD at h
  split at h
  · rename_i hk
    cases h
    cases l with
    | nil => cases hk
    | cons t r =>
      have hk' : t.k = 1 := by simpa [isK] using hk
      have hn := (hl t (by simp)).nm hk'
      have h1 := tk_one hl (Or.inr hk')
      refine ⟨[t.t], by unfold nameW; rw [show txT (t :: r) = t.t from rfl, if_pos hn], ⟨((hl t (by simp)).ln (Or.inr hk')).2, hn⟩, h1.1, h1.2, hl.tail⟩
  · cases h
theorem rd_sign (s : Bs) : RdW (signD s) (fun _ => some [s]) (fun _ => True) := by
  intro l x m hl h
  unfold signD at h
  split at h
  · rename_i hk
    cases h
    cases l with
    | nil => cases hk
    | cons t r =>
      have hk' : t.k = 0 ∧ t.t = s := by simpa [isP] using hk
      have h1 := tk_one hl (Or.inl hk'.1)
      rw [hk'.2] at h1
      exact ⟨[s], rfl, trivial, h1.1, h1.2, hl.tail⟩
  · cases h
theorem rd_must (s : Bs) : RdW (mustD s) (fun _ => some [s]) (fun _ => True) := by
  intro l x m hl h
  unfold mustD at h
  split at h
  · rename_i hk
    cases h
    cases l with
    | nil => cases hk
    | cons t r =>
      have hk' : t.k = 1 ∧ t.t = s := by simpa [isW] using hk
      have h1 := tk_one hl (Or.inr hk'.1)
      rw [hk'.2] at h1
      exact ⟨[s], rfl, trivial, h1.1, h1.2, hl.tail⟩
  · cases h
theorem rd_tailP {s : Bs} {l : List Tok} (hl : NK l) (hk : isP s l = true) : szW [s] + tw l.tail = tw l ∧ 1 + l.tail.length = l.length ∧ NK l.tail := by
  cases l with
  | nil => cases hk
  | cons t r =>
    have hk' : t.k = 0 ∧ t.t = s := by simpa [isP] using hk
    have h1 := tk_one hl (Or.inl hk'.1)
    rw [hk'.2] at h1
    exact ⟨h1.1, by simp; omega, hl.tail⟩
theorem rd_tailW {s : Bs} {l : List Tok} (hl : NK l) (hk : isW s l = true) : szW [s] + tw l.tail = tw l ∧ 1 + l.tail.length = l.length ∧ NK l.tail := by
  cases l with
  | nil => cases hk
  | cons t r =>
    have hk' : t.k = 1 ∧ t.t = s := by simpa [isW] using hk
    have h1 := tk_one hl (Or.inr hk'.1)
    rw [hk'.2] at h1
    exact ⟨h1.1, by simp; omega, hl.tail⟩
theorem rd_bang : RdW bangD bangW (fun b => b = [] ∨ b = [33]) := by
  intro l x m hl h
  unfold bangD at h
  split at h
  · rename_i hk
    cases h
    obtain ⟨h1, h2, h3⟩ := rd_tailP hl hk
    exact ⟨[[33]], rfl, Or.inr rfl, h1, h2, h3⟩
  · cases h
    exact ⟨[], rfl, Or.inl rfl, by simp [szW], by simp, hl⟩
theorem rd_go {α β : Type} {f : List Tok → Rs α} {g : α → List Tok → Rs β} {l m : List Tok} {b : β} (h : Rs.go (f l) g = .ok (b, m)) : ∃ a l1, f l = .ok (a, l1) ∧ g a l1 = .ok (b, m) := go_ok_inv h
theorem andW_ok {x y : Option (List Bs)} {a b : List Bs} (hx : x = some a) (hy : y = some b) : andW x y = some (a ++ b) := by subst hx; subst hy; rfl
theorem cutW_none {b : Bs} (h : b = [] ∨ b = [33]) : cutW b = none := by rcases h with rfl | rfl <;> rfl
theorem cutW_bra {b c : Bs} (h : b = [] ∨ b = [33]) : cutW (b ++ 91 :: c) = some (b, c) := by rcases h with rfl | rfl <;> rfl
theorem rd_ref : RdW refD (fun x => refW x.1 x.2) (fun x => x.1.length ≤ 16384 ∧ x.2.length ≤ 3) := by
  intro l x m hl h
  unfold refD at h
  split at h
  · rename_i hk
    obtain ⟨p1, p2, p3⟩ := rd_tailP hl hk
    obtain ⟨y, l2, h1, h⟩ := rd_go h
    unfold refD1 at h1
    obtain ⟨t, l3, h3, h1⟩ := rd_go h1
    obtain ⟨b, l4, h4, h1⟩ := rd_go h1
    cases h1
    obtain ⟨_, l5, h5, h⟩ := rd_go h
    obtain ⟨c, l6, h6, h⟩ := rd_go h
    cases h
    obtain ⟨u1, a1, a2, a3, a4, a5⟩ := rd_name _ _ _ p3 h3
    obtain ⟨u2, b1, b2, b3, b4, b5⟩ := rd_bang _ _ _ a5 h4
    obtain ⟨u3, c1, c2, c3, c4, c5⟩ := rd_sign _ _ _ _ b5 h5
    obtain ⟨u4, d1, d2, d3, d4, d5⟩ := rd_bang _ _ _ c5 h6
    refine ⟨[[91]] ++ (u1 ++ (u2 ++ (u3 ++ u4))), ?_, ⟨a2.1, ?_⟩, ?_, ?_, d5⟩
    · show refW t (b ++ 91 :: c) = _
      unfold refW
      rw [cutW_bra b2]
      exact andW_ok rfl (andW_ok a1 (andW_ok b1 (andW_ok c1 d1)))
    · show (b ++ 91 :: c).length ≤ 3
      rcases b2 with rfl | rfl <;> rcases d2 with rfl | rfl <;> decide
    · simp only [szW_app] at *
      omega
    · simp only [List.length_append] at *
      simp at *
      omega
  · unfold refD1 at h
    obtain ⟨t, l3, h3, h⟩ := rd_go h
    obtain ⟨b, l4, h4, h⟩ := rd_go h
    cases h
    obtain ⟨u1, a1, a2, a3, a4, a5⟩ := rd_name _ _ _ hl h3
    obtain ⟨u2, b1, b2, b3, b4, b5⟩ := rd_bang _ _ _ a5 h4
    refine ⟨u1 ++ u2, ?_, ⟨a2.1, ?_⟩, ?_, ?_, b5⟩
    · show refW t b = _
      unfold refW
      rw [cutW_none b2]
      exact andW_ok a1 b1
    · show b.length ≤ 3
      rcases b2 with rfl | rfl <;> decide
    · rw [szW_app]; omega
    · rw [List.length_append]; omega
def OkDr (x : Bool × Bs) : Prop := x.2 = [] ∨ (nameK x.2 = true ∧ x.2.length ≤ 16384)
theorem name_ne {n : Bs} (h : nameK n = true) : n ≠ [] := (name_tok h).2
theorem inv_some {i : Bs} (h : i = [] ∨ nameK i = true) : ∃ us, invW i = some us := by
  unfold invW
  split
  · exact ⟨_, rfl⟩
  · rename_i hi
    have hn := h.resolve_left hi
    exact ⟨_, andW_ok rfl (andW_ok (by unfold nameW; rw [if_pos hn]) rfl)⟩
theorem inv_name {n : Bs} (h : nameK n = true) : invW n = some [[64], inverseB, [40], fieldB, [58], n, [41]] := by
  unfold invW nameW
  rw [if_neg (name_ne h), if_pos h]
  rfl
theorem rd_inverse {l m : List Tok} {n : Bs} (hl : NK l) (h : inverseD l = .ok (n, m)) : nameK n = true ∧ n.length ≤ 16384 ∧ szW [[40], fieldB, [58], n, [41]] + tw m = tw l ∧ 5 + m.length = l.length ∧ NK m := by
  unfold inverseD at h
  obtain ⟨_, l1, h1, h⟩ := rd_go h
  obtain ⟨_, l2, h2, h⟩ := rd_go h
  obtain ⟨_, l3, h3, h⟩ := rd_go h
  obtain ⟨x, l4, h4, h⟩ := rd_go h
  obtain ⟨_, l5, h5, h⟩ := rd_go h
  cases h
  obtain ⟨u1, a1, _, a3, a4, a5⟩ := rd_sign _ _ _ _ hl h1
  obtain ⟨u2, b1, _, b3, b4, b5⟩ := rd_must _ _ _ _ a5 h2
  obtain ⟨u3, c1, _, c3, c4, c5⟩ := rd_sign _ _ _ _ b5 h3
  obtain ⟨u4, d1, d2, d3, d4, d5⟩ := rd_name _ _ _ c5 h4
  obtain ⟨u5, e1, _, e3, e4, e5⟩ := rd_sign _ _ _ _ d5 h5
  have d1' : nameW n = some [n] := by unfold nameW; rw [if_pos d2.2]
  rw [d1'] at d1
  cases a1; cases b1; cases c1; cases d1; cases e1
  refine ⟨d2.2, d2.1, ?_, ?_, e5⟩
  · simp only [szW] at *
    omega
  · simp only [List.length_cons, List.length_nil] at *
    omega
theorem rd_dirs : ∀ (k : Nat) (x y : Bool × Bs) (l m : List Tok), NK l → OkDr x → dirsF k x l = .ok (y, m) → OkDr y ∧ NK m ∧ ∀ u1 u2 v1 v2, seaW x.1 = some u1 → invW x.2 = some u2 → seaW y.1 = some v1 → invW y.2 = some v2 → szW v1 + szW v2 + tw m = szW u1 + szW u2 + tw l ∧ v1.length + v2.length + m.length = u1.length + u2.length + l.length
  | 0, _, _, _, _, _, _, h => by cases h
  | k + 1, x, y, l, m, hl, hx, h => by
    unfold dirsF at h
    split at h
    · rename_i hk
      simp only [Bool.and_eq_true] at hk
      obtain ⟨p1, p2, p3⟩ := rd_tailP hl hk.2
      obtain ⟨z, l1, h1, h⟩ := rd_go h
      unfold directiveD at h1
      split at h1
      · rename_i hs
        simp only [Bool.and_eq_true, Bool.not_eq_true'] at hs
        obtain ⟨q1, q2, q3⟩ := rd_tailW p3 hs.2
        cases h1
        obtain ⟨r1, r2, r3⟩ := rd_dirs k (true, x.2) y _ m q3 hx h
        refine ⟨r1, r2, fun u1 u2 v1 v2 e1 e2 e3 e4 => ?_⟩
        have := r3 [[64], searchB] u2 v1 v2 rfl e2 e3 e4
        rw [hs.1] at e1
        cases e1
        simp only [szW, List.length_cons, List.length_nil] at *
        omega
      · split at h1
        · rename_i _ hs
          simp only [Bool.and_eq_true] at hs
          obtain ⟨q1, q2, q3⟩ := rd_tailW p3 hs.2
          obtain ⟨n, l2, h2, h1⟩ := rd_go h1
          cases h1
          obtain ⟨i1, i2, i3, i4, i5⟩ := rd_inverse q3 h2
          obtain ⟨r1, r2, r3⟩ := rd_dirs k (x.1, n) y _ m i5 (Or.inr ⟨i1, i2⟩) h
          refine ⟨r1, r2, fun u1 u2 v1 v2 e1 e2 e3 e4 => ?_⟩
          have := r3 u1 _ v1 v2 e1 (inv_name i1) e3 e4
          have hx2 : x.2 = [] := by simpa using hs.1
          rw [hx2] at e2
          cases e2
          simp only [szW, List.length_cons, List.length_nil] at *
          omega
        · cases h1
    · cases h
      refine ⟨hx, hl, fun u1 u2 v1 v2 e1 e2 e3 e4 => ?_⟩
      rw [e1] at e3; rw [e2] at e4
      cases e3; cases e4
      exact ⟨rfl, rfl⟩
theorem rd_field : RdW fieldD fieldW FldL := by
  intro l x m hl h
  unfold fieldD at h
  obtain ⟨n, l1, h1, h⟩ := rd_go h
  obtain ⟨_, l2, h2, h⟩ := rd_go h
  obtain ⟨t, l3, h3, h⟩ := rd_go h
  obtain ⟨d, l4, h4, h⟩ := rd_go h
  cases h
  obtain ⟨u1, a1, a2, a3, a4, a5⟩ := rd_name _ _ _ hl h1
  obtain ⟨u2, b1, _, b3, b4, b5⟩ := rd_sign _ _ _ _ a5 h2
  obtain ⟨u3, c1, c2, c3, c4, c5⟩ := rd_ref _ _ _ b5 h3
  obtain ⟨d1, d2, d3⟩ := rd_dirs _ _ _ _ _ c5 (Or.inl rfl) h4
  obtain ⟨v1, e1⟩ : ∃ v1, seaW d.1 = some v1 := by unfold seaW; split <;> exact ⟨_, rfl⟩
  obtain ⟨v2, e2⟩ := inv_some (i := d.2) (d1.imp id (fun q => q.1))
  have d4 := d3 [] [] v1 v2 rfl rfl e1 e2
  refine ⟨u1 ++ (u2 ++ (u3 ++ (v1 ++ v2))), ?_, ⟨?_, ?_, ?_, ?_⟩, ?_, ?_, d2⟩
  · exact andW_ok a1 (andW_ok b1 (andW_ok c1 (andW_ok e1 e2)))
  · have := a2.1; show n.length ≤ _; omega
  · have := c2.1; show t.1.length ≤ _; omega
  · have := c2.2; show t.2.length < _; omega
  · show d.2.length ≤ _
    rcases d1 with q | q
    · rw [q]; simp
    · omega
  · simp only [szW_app, szW] at *
    omega
  · simp only [List.length_append, List.length_nil] at *
    omega
theorem rd_word : RdW wordD nameW (fun x => x.length ≤ 16384 ∧ notW.contains x = false) := by
  intro l x m hl h
  unfold wordD at h
  split at h
  · cases h
  · rename_i hw
    obtain ⟨u, a1, a2, a3⟩ := rd_name _ _ _ hl h
    refine ⟨u, a1, ⟨a2.1, ?_⟩, a3⟩
    unfold nameD at h
    split at h
    · cases h
      simpa using hw
    · cases h
theorem rd_any {α : Type} {f : List Tok → Rs α} {wr : α → Option (List Bs)} {ok : α → Prop} (R : RdW f wr ok) (last : Bs) : ∀ (k : Nat), RdW (anyF f last k) (fun xs => andW (rowW wr xs) (some [last])) (fun xs => ∀ x ∈ xs, ok x)
  | 0 => fun l x m _ h => by cases h
  | k + 1 => by
    intro l x m hl h
    unfold anyF at h
    split at h
    · rename_i hk
      cases h
      obtain ⟨p1, p2, p3⟩ := rd_tailP hl hk
      exact ⟨[last], rfl, by simp, p1, p2, p3⟩
    · obtain ⟨a, l1, h1, h⟩ := rd_go h
      obtain ⟨b, l2, h2, h⟩ := rd_go h
      cases h
      obtain ⟨u1, a1, a2, a3, a4, a5⟩ := R _ _ _ hl h1
      obtain ⟨u2, b1, b2, b3, b4, b5⟩ := rd_any R last k _ _ _ a5 h2
      refine ⟨u1 ++ u2, ?_, ?_, ?_, ?_, b5⟩
      · show andW (andW (wr a) (rowW wr b)) (some [last]) = _
        rw [andW_assoc]
        exact andW_ok a1 b1
      · intro y hy
        rcases List.mem_cons.1 hy with rfl | hy
        · exact a2
        · exact b2 y hy
      · rw [szW_app]; omega
      · rw [List.length_append]; omega
theorem rd_some {α : Type} {f : List Tok → Rs α} {wr : α → Option (List Bs)} {ok : α → Prop} (R : RdW f wr ok) (last : Bs) : RdW (someS f last) (fun xs => andW (rowW wr xs) (some [last])) (fun xs => xs ≠ [] ∧ ∀ x ∈ xs, ok x) := by
  intro l x m hl h
  unfold someS at h
  obtain ⟨a, l1, h1, h⟩ := rd_go h
  obtain ⟨b, l2, h2, h⟩ := rd_go h
  cases h
  obtain ⟨u1, a1, a2, a3, a4, a5⟩ := R _ _ _ hl h1
  obtain ⟨u2, b1, b2, b3, b4, b5⟩ := rd_any R last _ _ _ _ a5 h2
  refine ⟨u1 ++ u2, ?_, ⟨by simp, ?_⟩, ?_, ?_, b5⟩
  · show andW (andW (wr a) (rowW wr b)) (some [last]) = _
    rw [andW_assoc]
    exact andW_ok a1 b1
  · intro y hy
    rcases List.mem_cons.1 hy with rfl | hy
    · exact a2
    · exact b2 y hy
  · rw [szW_app]; omega
  · rw [List.length_append]; omega
theorem rd_within {α : Type} {f : List Tok → Rs α} {wr : α → Option (List Bs)} {ok : α → Prop} (R : RdW f wr ok) : RdW (withinD f) (fun xs => andW (some [[123]]) (andW (rowW wr xs) (some [[125]]))) (fun xs => xs ≠ [] ∧ ∀ x ∈ xs, ok x) := by
  intro l x m hl h
  unfold withinD at h
  obtain ⟨_, l1, h1, h⟩ := rd_go h
  obtain ⟨u1, a1, a2, a3, a4, a5⟩ := rd_sign _ _ _ _ hl h1
  obtain ⟨u2, b1, b2, b3, b4, b5⟩ := rd_some R [125] _ _ _ a5 h
  refine ⟨u1 ++ u2, andW_ok a1 b1, b2, ?_, ?_, b5⟩
  · rw [szW_app]; omega
  · rw [List.length_append]; omega
def OkDf : Ob ⊕ En → Prop
  | .inl o => o.n.length ≤ 16384 ∧ o.fs ≠ [] ∧ ∀ f ∈ o.fs, FldL f
  | .inr e => e.n.length ≤ 16384 ∧ e.ws ≠ [] ∧ ∀ x ∈ e.ws, x.length ≤ 16384 ∧ notW.contains x = false
theorem rd_define : RdW defineD defW OkDf := by
  intro l x m hl h
  unfold defineD at h
  split at h
  · rename_i hk
    obtain ⟨p1, p2, p3⟩ := rd_tailW hl hk
    obtain ⟨n, l1, h1, h⟩ := rd_go h
    obtain ⟨fs, l2, h2, h⟩ := rd_go h
    cases h
    obtain ⟨u1, a1, a2, a3, a4, a5⟩ := rd_name _ _ _ p3 h1
    obtain ⟨u2, b1, b2, b3, b4, b5⟩ := rd_within rd_field _ _ _ a5 h2
    refine ⟨[typeB] ++ (u1 ++ u2), andW_ok rfl (andW_ok a1 b1), ⟨a2.1, b2.1, b2.2⟩, ?_, ?_, b5⟩
    · rw [szW_app, szW_app]; omega
    · rw [List.length_append, List.length_append]; simp only [List.length_cons, List.length_nil]; omega
  · split at h
    · rename_i hk
      obtain ⟨p1, p2, p3⟩ := rd_tailW hl hk
      obtain ⟨n, l1, h1, h⟩ := rd_go h
      obtain ⟨fs, l2, h2, h⟩ := rd_go h
      cases h
      obtain ⟨u1, a1, a2, a3, a4, a5⟩ := rd_name _ _ _ p3 h1
      obtain ⟨u2, b1, b2, b3, b4, b5⟩ := rd_within rd_word _ _ _ a5 h2
      refine ⟨[enumB] ++ (u1 ++ u2), andW_ok rfl (andW_ok a1 b1), ⟨a2.1, b2.1, b2.2⟩, ?_, ?_, b5⟩
      · rw [szW_app, szW_app]; omega
      · rw [List.length_append, List.length_append]; simp only [List.length_cons, List.length_nil]; omega
    · cases h
/-- Objects ahead of enums. -/
theorem part_row : ∀ (xs : List (Ob ⊕ En)) (us : List Bs), rowW defW xs = some us → ∃ a b, rowW objectW (obsOf xs) = some a ∧ rowW enumW (ensOf xs) = some b ∧ szW a + szW b = szW us ∧ a.length + b.length = us.length
  | [], us, h => by
    cases h
    exact ⟨[], [], rfl, rfl, rfl, rfl⟩
  | x :: xs, us, h => by
    obtain ⟨p, q, h1, h2, rfl⟩ := andW_some h
    obtain ⟨a, b, e1, e2, e3, e4⟩ := part_row xs q h2
    cases x with
    | inl o =>
      refine ⟨p ++ a, b, andW_ok h1 e1, e2, ?_, ?_⟩
      · rw [szW_app, szW_app]; omega
      · rw [List.length_append, List.length_append]; omega
    | inr e =>
      refine ⟨a, p ++ b, e1, andW_ok h1 e2, ?_, ?_⟩
      · rw [szW_app, szW_app]; omega
      · rw [List.length_append, List.length_append]; omega
theorem mem_obs {xs : List (Ob ⊕ En)} {o : Ob} (h : o ∈ obsOf xs) : .inl o ∈ xs := by
  simp only [obsOf, List.mem_filterMap] at h
  obtain ⟨y, hy, e⟩ := h
  cases y with
  | inl z => simp at e; subst e; exact hy
  | inr z => simp at e
theorem mem_ens {xs : List (Ob ⊕ En)} {o : En} (h : o ∈ ensOf xs) : .inr o ∈ xs := by
  simp only [ensOf, List.mem_filterMap] at h
  obtain ⟨y, hy, e⟩ := h
  cases y with
  | inl z => simp at e
  | inr z => simp at e; subst e; exact hy
theorem rd_schema {l m : List Tok} {c : Sch} (hl : NK l) (h : schemaD l = .ok (c, m)) : ∃ us, schemaW c = some us ∧ goodS c = true ∧ SchL c ∧ szW us + 1 + tw m = tw l ∧ us.length + 1 + m.length = l.length := by
  unfold schemaD at h
  obtain ⟨xs, l1, h1, h⟩ := rd_go h
  cases h
  obtain ⟨us, a1, ⟨a2, a2'⟩, a3, a4, _⟩ := rd_some rd_define [] _ _ _ hl h1
  obtain ⟨p, q, e1, e2, rfl⟩ := andW_some a1
  cases e2
  obtain ⟨a, b, f1, f2, f3, f4⟩ := part_row xs p e1
  refine ⟨a ++ b, andW_ok f1 f2, ?_, ⟨fun o ho => ?_, fun o ho f hf => ?_, fun o ho => ?_, fun o ho x hx => ?_⟩, ?_, ?_⟩
  · have hg : ∀ y ∈ xs, goodD y = true := by
      intro y hy
      have := a2' y hy
      cases y with
      | inl o =>
        have hne := this.2.1
        show (!o.fs.isEmpty) = true
        cases hfs : o.fs with
        | nil => exact absurd hfs hne
        | cons _ _ => rfl
      | inr e =>
        have hne := this.2.1
        show (!e.ws.isEmpty && e.ws.all fun x => !notW.contains x) = true
        rw [Bool.and_eq_true]
        constructor
        · cases hfs : e.ws with
          | nil => exact absurd hfs hne
          | cons _ _ => rfl
        · rw [List.all_eq_true]
          intro z hz
          rw [(this.2.2 z hz).2]; rfl
    unfold goodS
    rw [Bool.and_eq_true]
    constructor
    · cases xs with
      | nil => exact absurd rfl a2
      | cons y ys =>
        cases y with
        | inl o => rfl
        | inr e =>
          show (!(List.isEmpty ((obsOf (.inr e :: ys)).map Sum.inl ++ (e :: ensOf ys).map Sum.inr))) = true
          simp
    · rw [List.all_eq_true]
      intro y hy
      unfold defsOf at hy
      rcases List.mem_append.1 hy with hy | hy
      · obtain ⟨o, ho, rfl⟩ := List.mem_map.1 hy
        exact hg _ (mem_obs ho)
      · obtain ⟨o, ho, rfl⟩ := List.mem_map.1 hy
        exact hg _ (mem_ens ho)
  · have := (a2' _ (mem_obs ho)).1
    omega
  · exact (a2' _ (mem_obs ho)).2.2 f hf
  · have := (a2' _ (mem_ens ho)).1
    omega
  · have := ((a2' _ (mem_ens ho)).2.2 x hx).1
    omega
  · rw [szW_app] at *
    simp only [szW, List.length_nil] at a3
    omega
  · rw [List.length_append] at *
    simp only [List.length_cons, List.length_nil] at a4
    omega
/-! ### The tokens of a text -/
theorem tok_said {u t r : Bs} {k : Int} (h : tokS u = .ok k t r) (hk : k ≠ 4) : t = ahead u r := by
  unfold tokS wrt at h
  split at h
  · injection h with _ h2 h3; subst h3; exact h2.symm
  · split at h
    · injection h with _ h2 h3; subst h3; exact h2.symm
    · split at h
      · injection h with _ h2 h3; subst h3; exact h2.symm
      · split at h
        · split at h
          · cases h
          · injection h with _ h2 h3; subst h3; exact h2.symm
        · split at h
          · split at h
            · cases h
            · injection h with h1; exact absurd h1.symm hk
          · cases h
theorem tw_app : ∀ a b : List Tok, tw (a ++ b) = tw a + tw b
  | [], b => by simp [tw]
  | x :: a, b => by simp [tw, tw_app a b]; omega
theorem toks_nk {N : Nat} (hN : N ≤ 16384) (tl : Bs) : ∀ ps : List Pc, AllOk ps tl → (catP ps tl).length ≤ N → NK (toksP N ps tl) ∧ tw (toksP N ps tl) ≤ 2 * (catP ps tl).length
  | [], _, _ => ⟨fun t ht => (by cases ht), by simp [toksP, tw]⟩
  | a :: az, ⟨_, h2, _, h4⟩, hl => by
    have hl' : a.g.length + (a.p.length + (catP az tl).length) ≤ N := by
      have : (catP (a :: az) tl).length = a.g.length + (a.p.length + (catP az tl).length) := by simp [catP]
      omega
    obtain ⟨i1, i2⟩ := toks_nk hN tl az h4 (by omega)
    have hp : 0 < a.p.length := List.length_pos_iff.2 (tok_ne h2)
    refine ⟨fun t ht => ?_, ?_⟩
    · rcases List.mem_cons.1 ht with rfl | ht
      · refine ⟨fun hk => ?_, fun hk => ?_⟩
        · have hk' : a.k = 1 := hk
          rw [hk'] at h2
          obtain ⟨n1, n2⟩ := tok_name h2 (by omega)
          show nameK a.t = true
          rw [n2]; exact n1
        · have hk' : a.k = 0 ∨ a.k = 1 := hk
          have e := tok_said h2 (by omega)
          rw [ahead_nil] at e
          show a.t.length = N - (catP az tl).length - (N - (a.p ++ catP az tl).length) ∧ a.t.length ≤ 16384
          rw [e, List.length_append]
          omega
      · exact i1 t ht
    · show (N - (catP az tl).length - (N - (a.p ++ catP az tl).length) + 1 + tw (toksP N az tl)) ≤ 2 * (a.g ++ (a.p ++ catP az tl)).length
      simp only [List.length_append]
      omega
theorem read_back {t : Bs} {c : Sch} (h : parseD t = .ok c) : SchL c ∧ (t.length ≤ 5000 → ∃ u, printD c = some u) := by
  unfold parseD at h
  split at h
  · cases h
  · rename_i ts hts
    split at h
    · cases h
    · rename_i p hp
      cases h
      obtain ⟨ps, tl, hr, e⟩ := right_of hts
      have hsh := hr.short
      obtain ⟨k1, k2⟩ := toks_nk hsh tl ps hr.ok (by rw [← hr.cat]; exact Nat.le_refl _)
      rw [← hr.cat] at k2
      rw [← e] at k1 k2
      have hnk : NK (ts ++ [eofT t.length]) := fun x hx => by
        rcases List.mem_append.1 hx with hx | hx
        · exact k1 x hx
        · rw [List.mem_singleton] at hx
          subst hx
          exact ⟨fun e => (by cases e), fun _ => ⟨by simp, by simp⟩⟩
      obtain ⟨us, s1, s2, s3, s4, s5⟩ := rd_schema hnk hp
      refine ⟨s3, fun hl => ?_⟩
      rw [tw_app] at s4
      have ht1 : tw [eofT t.length] = 1 := by simp [tw]
      rw [ht1] at s4
      have hf := (lexS_full hts).1
      rw [List.length_append] at s5
      simp only [List.length_cons, List.length_nil] at s5
      have W := parse_written s1
      have hj : (joinW us).length ≤ 16384 := by
        by_cases hu : us = []
        · subst hu; simp [joinW]
        · have := joinW_len us hu
          omega
      rw [if_pos ⟨s2, by omega, hj⟩] at W
      refine ⟨joinW us, ?_⟩
      unfold printD
      rw [s1]
      simp only [W]
end Go.Proofs.YtglpabfjnngbnaaGreatDoor
