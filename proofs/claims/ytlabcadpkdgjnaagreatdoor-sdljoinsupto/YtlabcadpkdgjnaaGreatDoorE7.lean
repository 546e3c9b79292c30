/- Schemas among the arguments, of bulk at most 1048576: what they hold, and how long that is in all. -/
import Derived.Test.YtlabcadpkdgjnaaGreatDoorE5
import Derived.Test.YtlabcadpkdgjnaaGreatDoorE4
import Derived.Test.YtlabcadpkdgjnaaGreatDoorRows
import Derived.Deep.Slices
import Derived.OpenShut
import Derived.ProofKit
import Derived.SizedLaws
namespace Go.Proofs.YtlabcadpkdgjnaaGreatDoor
open Go Go.RowKit
theorem tok_kind1 {u t r : Bs} (h : tokS u = .ok 1 t r) : t = ahead u r := by
  unfold tokS wrt at h
  split at h
  · injection h with h1; cases h1
  · split at h
    · injection h with h1; cases h1
    · split at h
      · injection h with _ h2 h3; subst h3; exact h2.symm
      · split at h
        · split at h
          · cases h
          · injection h with _ h2 h3; subst h3; exact h2.symm
        · split at h
          · split at h
            · cases h
            · injection h with h1; cases h1
          · cases h
theorem name_tok {u : Bs} (h : nameK u = true) : tokS u = .ok 1 u [] ∧ u ≠ [] := by
  have h1 : oneK u = 1 := by simpa [nameK] using h
  unfold oneK at h1
  split at h1
  · rename_i t ht
    split at h1
    · rename_i he
      obtain ⟨ps, tl, hr, e⟩ := right_of ht
      match ps, e, hr with
      | [], e, _ => cases e
      | _ :: _ :: _, e, _ => simp [toksP] at e
      | [a], e, hr =>
        have hc := hr.cat
        have ho := hr.ok
        simp only [toksP, catP, List.cons.injEq, and_true] at e
        simp only [catP] at hc
        obtain ⟨_, hk, _, _⟩ := ho
        have hl : u.length = a.g.length + (a.p.length + tl.length) := by rw [hc]; simp
        subst e
        simp only [List.length_append] at he
        have hg : a.g = [] := List.length_eq_zero_iff.1 (by omega)
        have htl : tl = [] := List.length_eq_zero_iff.1 (by omega)
        rw [hg, htl] at hc
        simp at hc
        simp only at h1
        rw [h1] at hk
        have e2 := tok_kind1 hk
        rw [ahead_nil] at e2
        rw [e2] at hk
        rw [hc]
        exact ⟨hk, tok_ne hk⟩
    · cases h1
  · cases h1
theorem tok_name {u t : Bs} (h : tokS u = .ok 1 t []) (hl : u.length ≤ 16384) : nameK u = true ∧ t = u := by
  have e := tok_kind1 h
  rw [ahead_nil] at e
  refine ⟨?_, e⟩
  unfold nameK oneK
  rw [lexS_one h hl]
  simp
theorem sign_tok {c : UInt8} (h : punL.contains c = true) : tokS [c] = .ok 0 [c] [] := by
  unfold tokS
  rw [if_pos (by simpa [headIn] using h)]
  rfl
/-- A token's kind and text, by what is written. -/
def kt (u : Bs) : Int × Bs := (if headIn punL u then 0 else 1, u)
def OkU (u : Bs) : Prop := tokS u = .ok (kt u).1 u []
theorem okU_name {u : Bs} (h : nameK u = true) : OkU u ∧ kt u = (1, u) := by
  obtain ⟨h1, h2⟩ := name_tok h
  have hp : headIn punL u = false := by
    rw [Bool.eq_false_iff]
    intro hp
    unfold tokS wrt at h1
    rw [if_pos hp] at h1
    injection h1 with h1; cases h1
  have e : kt u = (1, u) := by unfold kt; rw [hp]; rfl
  refine ⟨?_, e⟩
  unfold OkU
  rw [e]; exact h1
theorem okU_sign {c : UInt8} (h : punL.contains c = true) : OkU [c] ∧ kt [c] = (0, [c]) := by
  have e : kt [c] = (0, [c]) := by unfold kt; rw [if_pos (by simpa [headIn] using h)]
  refine ⟨?_, e⟩
  unfold OkU
  rw [e]; exact sign_tok h
/-! ### The tokens of what is written -/
def pcs : List Bs → List Pc
  | [] => []
  | u :: us => ⟨[32], u, (kt u).1, u⟩ :: pcs us
theorem pcs_len : ∀ us, (pcs us).length = us.length
  | [] => rfl
  | u :: us => by simp [pcs, pcs_len us]
theorem pcs_says : ∀ us, saysP (pcs us) = us.map kt
  | [] => rfl
  | u :: us => by
    have := pcs_says us
    unfold saysP at this
    simp only [pcs, saysP, List.map_cons, this]
    rfl
theorem pcs_ok : ∀ us : List Bs, (∀ u ∈ us, OkU u) → AllOk (pcs us) []
  | [], _ => trivial
  | u :: us, h => by
    refine ⟨Gap.one rfl, h u (by simp), ?_, pcs_ok us (fun v hv => h v (by simp [hv]))⟩
    cases us with
    | nil => exact rfl
    | cons v vs => exact fits_blank _ _ _ rfl
theorem pcs_cat : ∀ us : List Bs, us ≠ [] → catP (pcs us) [] = 32 :: joinW us
  | [], h => absurd rfl h
  | [u], _ => by simp [pcs, catP, joinW]
  | u :: v :: l, _ => by
    have := pcs_cat (v :: l) (by simp)
    show [32] ++ (u ++ catP (pcs (v :: l)) []) = _
    rw [this]
    rfl
def pcs0 : List Bs → List Pc
  | [] => []
  | u :: us => ⟨[], u, (kt u).1, u⟩ :: pcs us
theorem pcs0_len : ∀ us, (pcs0 us).length = us.length
  | [] => rfl
  | u :: us => by simp [pcs0, pcs_len us]
theorem pcs0_says : ∀ us, saysP (pcs0 us) = us.map kt
  | [] => rfl
  | u :: us => by
    have := pcs_says us
    unfold saysP at this
    simp only [pcs0, saysP, List.map_cons, this]
    rfl
theorem pcs0_ok : ∀ us : List Bs, (∀ u ∈ us, OkU u) → AllOk (pcs0 us) []
  | [], _ => trivial
  | u :: us, h => by
    refine ⟨Gap.nil, h u (by simp), ?_, pcs_ok us (fun v hv => h v (by simp [hv]))⟩
    cases us with
    | nil => exact rfl
    | cons v vs => exact fits_blank _ _ _ rfl
theorem pcs0_cat : ∀ us : List Bs, catP (pcs0 us) [] = joinW us
  | [] => rfl
  | [u] => by simp [pcs0, pcs, catP, joinW]
  | u :: v :: l => by
    have := pcs_cat (v :: l) (by simp)
    show [] ++ (u ++ catP (pcs (v :: l)) []) = _
    rw [this]
    rfl
theorem lex_join {us : List Bs} (h : ∀ u ∈ us, OkU u) (h1 : us.length ≤ 2048) (h2 : (joinW us).length ≤ 16384) : ∃ ts, lexS (joinW us) = .inr ts ∧ saysT ts = us.map kt := by
  have hr : Right (joinW us) (pcs0 us) [] := ⟨(pcs0_cat us).symm, pcs0_ok us h, by rw [pcs0_len]; exact h1, skip_nil, h2⟩
  exact ⟨_, lexS_right hr, by rw [toksP_says, pcs0_says]⟩
theorem lex_many {us : List Bs} (h : ∀ u ∈ us, OkU u) (h1 : 2048 < us.length) : ∃ p, lexS (joinW us) = .inl p := by
  unfold lexS
  split
  · exact ⟨_, rfl⟩
  · show ∃ p, lexG (joinW us).length 0 (joinW us) = .inl p
    have ha := pcs0_ok us h
    have hs : pcs0 us = (pcs0 us).take 2048 ++ (pcs0 us).drop 2048 := (List.take_append_drop _ _).symm
    rw [hs] at ha
    obtain ⟨a1, a2⟩ := AllOk.split _ _ _ ha
    have hl : ((pcs0 us).take 2048).length = 2048 := by rw [List.length_take, pcs0_len]; omega
    have e := lexG_cat (N := (joinW us).length) _ _ 0 a1 (by omega)
    rw [← catP_app, ← hs, pcs0_cat, hl] at e
    rw [e]
    have hd : 0 < ((pcs0 us).drop 2048).length := by rw [List.length_drop, pcs0_len]; omega
    cases hq : (pcs0 us).drop 2048 with
    | nil => rw [hq] at hd; cases hd
    | cons a az =>
      rw [hq] at a2
      obtain ⟨g1, g2, _, _⟩ := a2
      have sk := skip_tok g1 g2 (catP az [])
      have ne := tok_ne g2
      cases hp : a.p with
      | nil => exact absurd hp ne
      | cons x xs =>
        rw [hp] at sk
        have m := lexG_many (N := (joinW us).length) (c := 0 + 2048) (l := catP (a :: az) []) (x := x) (l1 := xs ++ catP az []) (by
          show skipS (a.g ++ (a.p ++ catP az [])) = _
          rw [hp]; exact sk) rfl
        rw [m]
        exact ⟨_, rfl⟩
/-! ### What is written is read -/
/-- The tokens l begin with what says these words, m is behind. -/
def Sy (us : List Bs) (l m : List Tok) : Prop := ∃ p, l = p ++ m ∧ saysT p = us.map kt
theorem Sy.nil {l m : List Tok} (h : Sy [] l m) : l = m := by
  obtain ⟨p, e, h⟩ := h
  cases p with
  | nil => exact e
  | cons a b => simp [saysT] at h
theorem Sy.one {u : Bs} {us : List Bs} {l m : List Tok} (h : Sy (u :: us) l m) : ∃ t r, l = t :: r ∧ t.k = (kt u).1 ∧ t.t = u ∧ Sy us r m := by
  obtain ⟨p, e, h⟩ := h
  cases p with
  | nil => simp [saysT] at h
  | cons a b =>
    simp only [saysT, List.map_cons, List.cons.injEq] at h
    have e1 : a.k = (kt u).1 := congrArg Prod.fst h.1
    have e2 : a.t = u := congrArg Prod.snd h.1
    exact ⟨a, b ++ m, e, e1, e2, b, rfl, h.2⟩
theorem Sy.app {us vs : List Bs} {l m : List Tok} (h : Sy (us ++ vs) l m) : ∃ r, Sy us l r ∧ Sy vs r m := by
  obtain ⟨p, e, h⟩ := h
  rw [List.map_append] at h
  unfold saysT at h
  obtain ⟨a, b, rfl, h1, h2⟩ := List.map_eq_append_iff.1 h
  exact ⟨b ++ m, ⟨a, by rw [e]; simp, h1⟩, ⟨b, rfl, h2⟩⟩
/-- Neither a bang nor a sign of a directive comes next. -/
def Nx (m : List Tok) : Prop := isP [33] m = false ∧ isP [64] m = false
theorem isP_kt {u s : Bs} {t : Tok} {r : List Tok} (h1 : t.k = (kt u).1) (h2 : t.t = u) : isP s (t :: r) = ((kt u).1 == 0 && u == s) := by
  show (t.k == 0 && t.t == s) = _
  rw [h1, h2]
theorem isW_kt {u s : Bs} {t : Tok} {r : List Tok} (h1 : t.k = (kt u).1) (h2 : t.t = u) : isW s (t :: r) = ((kt u).1 == 1 && u == s) := by
  show (t.k == 1 && t.t == s) = _
  rw [h1, h2]
theorem back_name {n : Bs} {us : List Bs} {l m : List Tok} (h : nameW n = some us) (hs : Sy us l m) : nameD l = .ok (n, m) ∧ (∀ s, isP s l = false) ∧ txT l = n := by
  unfold nameW at h
  split at h
  · rename_i hn
    cases h
    obtain ⟨t, r, rfl, h1, h2, h3⟩ := hs.one
    have e := (okU_name hn).2
    have hm := h3.nil
    subst hm
    rw [e] at h1
    have h1' : t.k = 1 := h1
    refine ⟨?_, fun s => ?_, h2⟩
    · unfold nameD
      rw [if_pos (by simp [isK, h1'])]
      simp [txT, h2]
    · show (t.k == 0 && t.t == s) = false
      rw [h1']; rfl
  · cases h
theorem back_sign {c : UInt8} (hc : punL.contains c = true) {us : List Bs} {l m : List Tok} (hs : Sy ([c] :: us) l m) : ∃ r, signD [c] l = .ok ((), r) ∧ l.tail = r ∧ Sy us r m ∧ (∀ s, isP s l = ([c] == s)) ∧ nameD l = .error (atT l, 80) ∧ ∀ s, isW s l = false := by
  obtain ⟨t, r, rfl, h1, h2, h3⟩ := hs.one
  rw [(okU_sign hc).2] at h1
  have h1' : t.k = 0 := h1
  have e : ∀ s, isP s (t :: r) = ([c] == s) := fun s => by
    show (t.k == 0 && t.t == s) = _
    rw [h1', h2]; simp
  refine ⟨r, ?_, rfl, h3, e, ?_, fun s => ?_⟩
  · unfold signD
    rw [if_pos (by rw [e]; simp)]; rfl
  · unfold nameD
    rw [if_neg (by simp [isK, h1'])]
  · show (t.k == 1 && t.t == s) = false
    rw [h1']; rfl
theorem back_word {u : Bs} (hu : (kt u) = (1, u)) {us : List Bs} {l m : List Tok} (hs : Sy (u :: us) l m) : ∃ r, mustD u l = .ok ((), r) ∧ l.tail = r ∧ Sy us r m ∧ (∀ s, isW s l = (u == s)) ∧ (∀ s, isP s l = false) := by
  obtain ⟨t, r, rfl, h1, h2, h3⟩ := hs.one
  rw [hu] at h1
  have h1' : t.k = 1 := h1
  have e : ∀ s, isW s (t :: r) = (u == s) := fun s => by
    show (t.k == 1 && t.t == s) = _
    rw [h1', h2]; simp
  refine ⟨r, ?_, rfl, h3, e, fun s => ?_⟩
  · unfold mustD
    rw [if_pos (by rw [e]; simp)]; rfl
  · show (t.k == 0 && t.t == s) = false
    rw [h1']; rfl
theorem back_bang {s : Bs} {us : List Bs} {l m : List Tok} (h : bangW s = some us) (hs : Sy us l m) (hm : isP [33] m = false) : bangD l = .ok (s, m) := by
  unfold bangW at h
  split at h
  · rename_i h0
    cases h
    have := hs.nil
    subst this h0
    unfold bangD
    rw [if_neg (by rw [hm]; simp)]
  · split at h
    · rename_i h0
      subst h0
      cases h
      obtain ⟨r, _, h2, h3, h4, _⟩ := back_sign (c := 33) rfl hs
      have := h3.nil
      subst this
      unfold bangD
      rw [if_pos (by rw [h4]; rfl), h2]
    · cases h
theorem cutW_some : ∀ {w : Bs} {p : Bs × Bs}, cutW w = some p → w = p.1 ++ 91 :: p.2
  | [], _, h => by cases h
  | c :: l, p, h => by
    unfold cutW at h
    split at h
    · rename_i hc; cases h; subst hc; rfl
    · split at h
      · cases h
      · rename_i q hq
        cases h
        have := cutW_some hq
        simp only [List.cons_append]
        rw [← this]
theorem bang_next {s : Bs} {us : List Bs} {c : UInt8} (hc : punL.contains c = true) (hc2 : c ≠ 33) {l m : List Tok} (_h : bangW s = some us) (hs : Sy ([c] :: us) l m) : isP [33] l = false := by
  obtain ⟨r, _, _, _, h4, _⟩ := back_sign hc hs
  rw [h4]
  simpa using hc2
theorem back_ref {t w : Bs} {us : List Bs} {l m : List Tok} (h : refW t w = some us) (hs : Sy us l m) (hm : isP [33] m = false) : refD l = .ok ((t, w), m) := by
  unfold refW at h
  split at h
  · obtain ⟨a, b, h1, h2, rfl⟩ := andW_some h
    obtain ⟨r, s1, s2⟩ := hs.app
    obtain ⟨e1, e2, _⟩ := back_name h1 s1
    have e3 := back_bang h2 s2 hm
    unfold refD refD1
    rw [if_neg (by rw [e2]; simp), e1, go_ok, e3, go_ok]
  · rename_i p hp
    obtain ⟨a, b, h1, h2, rfl⟩ := andW_some h
    cases h1
    obtain ⟨a1, b1, g1, g2, rfl⟩ := andW_some h2
    obtain ⟨a2, b2, h3, h4, rfl⟩ := andW_some g2
    obtain ⟨a3, b3, h5, h6, rfl⟩ := andW_some h4
    cases h5
    obtain ⟨r, _, s2, s3, s4, _⟩ := back_sign (c := 91) (us := a1 ++ (a2 ++ [93] :: b3)) rfl hs
    obtain ⟨r1, t1, t2⟩ := s3.app
    obtain ⟨e1, _, _⟩ := back_name g1 t1
    obtain ⟨r2, t3, t4⟩ := t2.app
    obtain ⟨r3, q1, q2, q3, q4, _⟩ := back_sign (c := 93) rfl t4
    have e3 := back_bang h3 t3 (by rw [q4]; rfl)
    have e4 := back_bang h6 q3 hm
    unfold refD
    rw [if_pos (by rw [s4]; rfl), s2]
    unfold refD1
    rw [e1, go_ok, e3, go_ok, go_ok, q1, go_ok, e4, go_ok, cutW_some hp]
theorem kw_field : kt fieldB = (1, fieldB) := by rfl
theorem kw_search : kt searchB = (1, searchB) := by rfl
theorem kw_inverse : kt inverseB = (1, inverseB) := by rfl
theorem kw_type : kt typeB = (1, typeB) := by rfl
theorem kw_enum : kt enumB = (1, enumB) := by rfl
theorem back_inv {i : Bs} {s : Bool} {us : List Bs} {l m : List Tok} (h : invW i = some us) (hs : Sy us l m) (hm : Nx m) : dirsD (s, []) l = .ok ((s, i), m) := by
  unfold invW at h
  split at h
  · rename_i hi
    cases h
    have := hs.nil
    subst this hi
    rw [dirsD_eq, if_neg (by rw [hm.2]; simp)]
  · rename_i hi
    obtain ⟨a, b, g1, g2, rfl⟩ := andW_some h
    cases g1
    obtain ⟨a1, b1, h1, h2, rfl⟩ := andW_some g2
    cases h2
    obtain ⟨r1, _, e1, s1, p1, _⟩ := back_sign (c := 64) (us := inverseB :: [40] :: fieldB :: [58] :: (a1 ++ [[41]])) rfl hs
    obtain ⟨r2, _, e2, s2, p2, _⟩ := back_word kw_inverse s1
    obtain ⟨r3, f3, _, s3, _⟩ := back_sign (c := 40) rfl s2
    obtain ⟨r4, f4, _, s4, _⟩ := back_word kw_field s3
    obtain ⟨r5, f5, _, s5, _⟩ := back_sign (c := 58) rfl s4
    obtain ⟨r6, s6, s7⟩ := s5.app
    obtain ⟨f6, _, _⟩ := back_name h1 s6
    obtain ⟨r7, f7, _, s8, _⟩ := back_sign (c := 41) rfl s7
    have := s8.nil
    subst this
    rw [dirsD_eq, if_pos (by rw [p1]; simp), e1]
    have hd : directiveD (s, []) r1 = .ok ((s, i), r7) := by
      unfold directiveD
      rw [if_neg (by rw [p2]; simp), if_pos (by rw [p2]; simp), e2]
      unfold inverseD
      rw [f3, go_ok, f4, go_ok, f5, go_ok, f6, go_ok, f7, go_ok]
      rfl
    rw [hd, go_ok, dirsD_eq, if_neg (by rw [hm.2]; simp)]
theorem back_dirs {i : Bs} {s : Bool} {us : List Bs} {l m : List Tok} (h : andW (seaW s) (invW i) = some us) (hs : Sy us l m) (hm : Nx m) : dirsD (false, []) l = .ok ((s, i), m) := by
  obtain ⟨a, b, h1, h2, rfl⟩ := andW_some h
  unfold seaW at h1
  cases s with
  | false =>
    cases h1
    exact back_inv h2 hs hm
  | true =>
    cases h1
    obtain ⟨r1, _, e1, s1, p1, _⟩ := back_sign (c := 64) rfl hs
    obtain ⟨r2, _, e2, s2, p2, _⟩ := back_word kw_search s1
    rw [dirsD_eq, if_pos (by rw [p1]; simp), e1]
    have hd : directiveD (false, []) r1 = .ok ((true, []), r2) := by
      unfold directiveD
      rw [if_pos (by rw [p2]; simp), e2]
    rw [hd, go_ok]
    exact back_inv h2 s2 hm
/-- A bang can't come ahead of what is written of directives. -/
theorem bkdirs_next {i : Bs} {s : Bool} {us : List Bs} {l m : List Tok} (h : andW (seaW s) (invW i) = some us) (hs : Sy us l m) (hm : Nx m) : isP [33] l = false := by
  obtain ⟨a, b, h1, h2, rfl⟩ := andW_some h
  unfold seaW at h1
  cases s with
  | true =>
    cases h1
    obtain ⟨r1, _, e1, s1, p1, _⟩ := back_sign (c := 64) rfl hs
    rw [p1]; rfl
  | false =>
    cases h1
    unfold invW at h2
    split at h2
    · cases h2
      have := hs.nil
      subst this
      exact hm.1
    · obtain ⟨a, b, h3, h4, rfl⟩ := andW_some h2
      cases h3
      obtain ⟨r1, _, e1, s1, p1, _⟩ := back_sign (c := 64) rfl hs
      rw [p1]; rfl
theorem back_field {f : Fld} {us : List Bs} {l m : List Tok} (h : fieldW f = some us) (hs : Sy us l m) (hm : Nx m) : fieldD l = .ok (f, m) ∧ (∀ s, isP s l = false) := by
  unfold fieldW at h
  obtain ⟨a1, b1, h1, h2, rfl⟩ := andW_some h
  obtain ⟨a2, b2, h3, h4, rfl⟩ := andW_some h2
  cases h3
  obtain ⟨a3, b3, h5, h6, rfl⟩ := andW_some h4
  obtain ⟨r1, s1, s2⟩ := hs.app
  obtain ⟨e1, e2, _⟩ := back_name h1 s1
  obtain ⟨r2, f2, _, s3, _⟩ := back_sign (c := 58) (us := a3 ++ b3) rfl s2
  obtain ⟨r3, s4, s5⟩ := s3.app
  have e3 := back_ref h5 s4 (bkdirs_next h6 s5 hm)
  have e4 := back_dirs h6 s5 hm
  refine ⟨?_, e2⟩
  unfold fieldD
  rw [e1, go_ok, f2, go_ok, e3, go_ok, e4, go_ok]
end Go.Proofs.YtlabcadpkdgjnaaGreatDoor
namespace Go.Proofs.YtlabcadpkdgjnaaGreatDoor
open Go Go.RowKit
/-- One of these is written, and read back if it is good. -/
structure BackE {α : Type} (wr : α → Option (List Bs)) (rd : List Tok → Rs α) (good : α → Bool) : Prop where
  eats : Eats rd
  yes : ∀ x us l m, wr x = some us → Sy us l m → Nx m → good x = true → rd l = .ok (x, m)
  no : ∀ x us l m, wr x = some us → Sy us l m → Nx m → good x = false → ∃ p, rd l = .error p
  one : ∀ x us l m, wr x = some us → Sy us l m → ∀ s, isP s l = false
theorem anyS_neg {α : Type} {f : List Tok → Rs α} (hf : Eats f) {last : Bs} {l : List Tok} (h : isP last l = false) : anyS f last l = (f l).go fun a l1 => (anyS f last l1).go fun b l2 => .ok (a :: b, l2) := by
  rw [anyS_eq hf, h]; rfl
theorem back_any {α : Type} {wr : α → Option (List Bs)} {rd : List Tok → Rs α} {good : α → Bool} (B : BackE wr rd good) {last : Bs} {z : Tok} {m : List Tok} (hz : z.k = 0) (hz2 : z.t = last) (hl1 : last ≠ [33]) (hl2 : last ≠ [64]) : ∀ (xs : List α) (us : List Bs) (l : List Tok), rowW wr xs = some us → Sy us l (z :: m) → if xs.all good then anyS rd last l = .ok (xs, m) else ∃ p, anyS rd last l = .error p
  | [], us, l, h, hs => by
    cases h
    have := hs.nil
    subst this
    simp only [List.all_nil, if_true]
    rw [anyS_eq B.eats, if_pos (by simp [isP, hz, hz2])]
    rfl
  | x :: xs, us, l, h, hs => by
    obtain ⟨a, b, h1, h2, rfl⟩ := andW_some h
    obtain ⟨r, s1, s2⟩ := hs.app
    have hn := B.one _ _ _ _ h1 s1
    have nx : Nx r := by
      cases xs with
      | nil =>
        cases h2
        have := s2.nil
        subst this
        exact ⟨by simp [isP, hz, hz2, hl1], by simp [isP, hz, hz2, hl2]⟩
      | cons y ys =>
        obtain ⟨a', b', h3, h4, rfl⟩ := andW_some h2
        obtain ⟨r', s3, s4⟩ := s2.app
        have := B.one _ _ _ _ h3 s3
        exact ⟨this _, this _⟩
    have ih := back_any B hz hz2 hl1 hl2 xs b r h2 s2
    rw [anyS_neg B.eats (hn _), List.all_cons]
    cases hg : good x with
    | false =>
      obtain ⟨p, e⟩ := B.no _ _ _ _ h1 s1 nx hg
      rw [e, go_error]
      simp
    | true =>
      rw [B.yes _ _ _ _ h1 s1 nx hg, go_ok, Bool.true_and]
      split at ih
      · rename_i hA
        rw [if_pos hA, ih, go_ok]
      · rename_i hA
        rw [if_neg hA]
        obtain ⟨p, e⟩ := ih
        exact ⟨p, by rw [e, go_error]⟩
theorem back_some {α : Type} {wr : α → Option (List Bs)} {rd : List Tok → Rs α} {good : α → Bool} (B : BackE wr rd good) (hrd : ∀ t m, t.k = 0 → ∃ p, rd (t :: m) = .error p) {last : Bs} {z : Tok} {m : List Tok} (hz : z.k = 0) (hz2 : z.t = last) (hl1 : last ≠ [33]) (hl2 : last ≠ [64]) (xs : List α) (us : List Bs) (l : List Tok) (h : rowW wr xs = some us) (hs : Sy us l (z :: m)) : if (!xs.isEmpty && xs.all good) then someS rd last l = .ok (xs, m) else ∃ p, someS rd last l = .error p := by
  cases xs with
  | nil =>
    cases h
    have := hs.nil
    subst this
    obtain ⟨p, e⟩ := hrd z m hz
    exact ⟨p, by unfold someS; rw [e, go_error]⟩
  | cons x xs =>
    have hn : isP last l = false := by
      obtain ⟨a, b, h1, h2, rfl⟩ := andW_some h
      obtain ⟨r, s1, s2⟩ := hs.app
      exact B.one _ _ _ _ h1 s1 _
    have A := back_any B hz hz2 hl1 hl2 (x :: xs) us l h hs
    rw [anyS_neg B.eats hn] at A
    simpa [someS] using A
theorem nameD_kind {t : Tok} {m : List Tok} (h : t.k = 0) : ∃ p, nameD (t :: m) = .error p := ⟨_, by unfold nameD; rw [if_neg (by simp [isK, h])]⟩
theorem back_fields : BackE fieldW fieldD (fun _ => true) := by
  refine ⟨fieldD_eats, fun _ _ _ _ h hs hm _ => (back_field h hs hm).1, fun _ _ _ _ _ _ _ h => (by cases h), fun x us l m h hs s => ?_⟩
  unfold fieldW at h
  obtain ⟨a, b, h1, h2, rfl⟩ := andW_some h
  obtain ⟨r, s1, s2⟩ := hs.app
  exact (back_name h1 s1).2.1 s
theorem back_words : BackE nameW wordD (fun x => !notW.contains x) := by
  refine ⟨wordD_eats, fun x us l m h hs hm hg => ?_, fun x us l m h hs hm hg => ?_, fun x us l m h hs => (back_name h hs).2.1⟩
  · obtain ⟨e1, e2, e3⟩ := back_name h hs
    have hg' : notW.contains x = false := by cases hx : notW.contains x <;> simp_all
    unfold wordD
    rw [e3, if_neg (by rw [hg']; simp), e1]
  · obtain ⟨e1, e2, e3⟩ := back_name h hs
    have hg' : notW.contains x = true := by cases hx : notW.contains x <;> simp_all
    unfold wordD
    rw [e3, if_pos hg']
    exact ⟨_, rfl⟩
theorem fieldD_kind (t : Tok) (m : List Tok) (h : t.k = 0) : ∃ p, fieldD (t :: m) = .error p := by
  obtain ⟨p, e⟩ := nameD_kind (m := m) h
  exact ⟨p, by unfold fieldD; rw [e, go_error]⟩
theorem wordD_kind (t : Tok) (m : List Tok) (h : t.k = 0) : ∃ p, wordD (t :: m) = .error p := by
  obtain ⟨p, e⟩ := nameD_kind (m := m) h
  unfold wordD
  split
  · exact ⟨_, rfl⟩
  · exact ⟨p, e⟩
theorem back_within {α : Type} {wr : α → Option (List Bs)} {rd : List Tok → Rs α} {good : α → Bool} (B : BackE wr rd good) (hrd : ∀ t m, t.k = 0 → ∃ p, rd (t :: m) = .error p) (xs : List α) (us : List Bs) (l m : List Tok) (h : andW (some [[123]]) (andW (rowW wr xs) (some [[125]])) = some us) (hs : Sy us l m) : if (!xs.isEmpty && xs.all good) then withinD rd l = .ok (xs, m) else ∃ p, withinD rd l = .error p := by
  obtain ⟨a, b, h1, h2, rfl⟩ := andW_some h
  cases h1
  obtain ⟨a, b', h1, h3, rfl⟩ := andW_some h2
  cases h3
  obtain ⟨r, e1, _, s1, _⟩ := back_sign (c := 123) (us := a ++ [[125]]) rfl hs
  obtain ⟨r2, s2, s3⟩ := s1.app
  obtain ⟨t, r3, rfl, k1, k2, s4⟩ := s3.one
  have := s4.nil
  subst this
  have A := back_some B hrd (z := t) (m := r3) (last := [125]) k1 k2 (by decide) (by decide) xs a r h1 s2
  unfold withinD
  rw [e1, go_ok]
  exact A
/-- May a definition be written? -/
def goodD : Ob ⊕ En → Bool
  | .inl o => !o.fs.isEmpty
  | .inr e => !e.ws.isEmpty && e.ws.all fun x => !notW.contains x
def defW : Ob ⊕ En → Option (List Bs)
  | .inl o => objectW o
  | .inr e => enumW e
theorem defineD_kind (t : Tok) (m : List Tok) (h : t.k = 0) : ∃ p, defineD (t :: m) = .error p := by
  have e : ∀ s, isW s (t :: m) = false := fun s => by show (t.k == 1 && _) = false; rw [h]; rfl
  unfold defineD
  rw [if_neg (by rw [e]; simp), if_neg (by rw [e]; simp)]
  exact ⟨_, rfl⟩
theorem back_defs : BackE defW defineD goodD := by
  have M : ∀ x us l m, defW x = some us → Sy us l m → (if goodD x = true then defineD l = .ok (x, m) else ∃ p, defineD l = .error p) ∧ ∀ s, isP s l = false := by
    intro x us l m h hs
    cases x with
    | inl o =>
      have h' : objectW o = some us := h
      unfold objectW at h'
      obtain ⟨a, b, h1, h2, rfl⟩ := andW_some h'
      cases h1
      obtain ⟨a2, b2, h3, h4, rfl⟩ := andW_some h2
      obtain ⟨r, _, e1, s1, w1, p1⟩ := back_word (u := typeB) (us := a2 ++ b2) kw_type hs
      obtain ⟨r2, s2, s3⟩ := s1.app
      obtain ⟨e2, _, _⟩ := back_name h3 s2
      have A := back_within back_fields fieldD_kind o.fs b2 r2 m h4 s3
      have ea : o.fs.all (fun _ => true) = true := by simp
      rw [ea, Bool.and_true] at A
      refine ⟨?_, p1⟩
      have hd : defineD l = (withinD fieldD r2).go fun fs l2 => .ok (.inl ⟨o.n, fs⟩, l2) := by
        unfold defineD
        rw [w1, if_pos (by simp), e1, e2, go_ok]
      rw [hd]
      show if (!o.fs.isEmpty) = true then _ else _
      split at A
      · rename_i hA
        rw [if_pos hA, A, go_ok]
      · rename_i hA
        rw [if_neg hA]
        obtain ⟨p, e⟩ := A
        exact ⟨p, by rw [e, go_error]⟩
    | inr o =>
      have h' : enumW o = some us := h
      unfold enumW at h'
      obtain ⟨a, b, h1, h2, rfl⟩ := andW_some h'
      cases h1
      obtain ⟨a2, b2, h3, h4, rfl⟩ := andW_some h2
      obtain ⟨r, _, e1, s1, w1, p1⟩ := back_word (u := enumB) (us := a2 ++ b2) kw_enum hs
      obtain ⟨r2, s2, s3⟩ := s1.app
      obtain ⟨e2, _, _⟩ := back_name h3 s2
      have A := back_within back_words wordD_kind o.ws b2 r2 m h4 s3
      refine ⟨?_, p1⟩
      have hd : defineD l = (withinD wordD r2).go fun fs l2 => .ok (.inr ⟨o.n, fs⟩, l2) := by
        unfold defineD
        rw [w1, w1, if_neg (by decide), if_pos (by simp), e1, e2, go_ok]
      rw [hd]
      show if (!o.ws.isEmpty && o.ws.all fun x => !notW.contains x) = true then _ else _
      split at A
      · rename_i hA
        rw [if_pos hA, A, go_ok]
      · rename_i hA
        rw [if_neg hA]
        obtain ⟨p, e⟩ := A
        exact ⟨p, by rw [e, go_error]⟩
  refine ⟨defineD_eats, fun x us l m h hs _ hg => ?_, fun x us l m h hs _ hg => ?_, fun x us l m h hs => (M x us l m h hs).2⟩
  · have := (M x us l m h hs).1
    rwa [if_pos hg] at this
  · have := (M x us l m h hs).1
    rwa [if_neg (by rw [hg]; simp)] at this
theorem rowW_app {α : Type} (g : α → Option (List Bs)) : ∀ a b : List α, rowW g (a ++ b) = andW (rowW g a) (rowW g b)
  | [], b => by
    show _ = andW (some []) _
    cases h : rowW g b <;> simp [andW, h]
  | x :: a, b => by
    show andW (g x) (rowW g (a ++ b)) = andW (andW (g x) (rowW g a)) (rowW g b)
    rw [rowW_app g a b, andW_assoc]
theorem rowW_map {α β : Type} (g : β → Option (List Bs)) (f : α → β) : ∀ l : List α, rowW g (l.map f) = rowW (fun x => g (f x)) l
  | [] => rfl
  | x :: l => by show andW _ _ = andW _ _; rw [rowW_map g f l]
def defsOf (s : Sch) : List (Ob ⊕ En) := s.os.map .inl ++ s.es.map .inr
theorem schemaW_row (s : Sch) : schemaW s = rowW defW (defsOf s) := by
  unfold defsOf schemaW
  rw [rowW_app, rowW_map, rowW_map]
  rfl
theorem sch_defs (s : Sch) : schOf (defsOf s) = s := by
  have h1 : obsOf (defsOf s) = s.os := by
    unfold defsOf
    rw [obsOf_app]
    have a : ∀ l : List Ob, obsOf (l.map .inl) = l := fun l => by simp [obsOf, List.filterMap_map, Function.comp_def]
    have b : ∀ l : List En, obsOf (l.map .inr) = [] := fun l => by simp [obsOf]
    rw [a, b, List.append_nil]
  have h2 : ensOf (defsOf s) = s.es := by
    unfold defsOf
    rw [ensOf_app]
    have a : ∀ l : List Ob, ensOf (l.map .inl) = [] := fun l => by simp [ensOf]
    have b : ∀ l : List En, ensOf (l.map .inr) = l := fun l => by simp [ensOf, List.filterMap_map, Function.comp_def]
    rw [a, b, List.nil_append]
  show Sch.mk _ _ = _
  rw [h1, h2]
def goodS (s : Sch) : Bool := !(defsOf s).isEmpty && (defsOf s).all goodD
theorem back_schema {s : Sch} {us : List Bs} {ts : List Tok} (N : Nat) (h : schemaW s = some us) (hs : saysT ts = us.map kt) : if goodS s then schemaD (ts ++ [eofT N]) = .ok (s, []) else ∃ p, schemaD (ts ++ [eofT N]) = .error p := by
  rw [schemaW_row] at h
  have A := back_some back_defs defineD_kind (z := eofT N) (m := []) (last := []) rfl rfl (by decide) (by decide) (defsOf s) us (ts ++ [eofT N]) h ⟨ts, rfl, hs⟩
  unfold schemaD
  show if (!(defsOf s).isEmpty && (defsOf s).all goodD) = true then _ else _
  split at A
  · rename_i hA
    rw [if_pos hA, A, go_ok, sch_defs]
  · rename_i hA
    rw [if_neg hA]
    obtain ⟨p, e⟩ := A
    exact ⟨p, by rw [e, go_error]⟩
/-! ### All that is written are tokens -/
def AllU (us : List Bs) : Prop := ∀ u ∈ us, OkU u
theorem AllU.app {a b : List Bs} (ha : AllU a) (hb : AllU b) : AllU (a ++ b) := fun u hu => by
  rcases List.mem_append.1 hu with h | h
  · exact ha u h
  · exact hb u h
def OkW (x : Option (List Bs)) : Prop := ∀ us, x = some us → AllU us
theorem OkW.and {x y : Option (List Bs)} (hx : OkW x) (hy : OkW y) : OkW (andW x y) := fun us h => by
  obtain ⟨a, b, h1, h2, rfl⟩ := andW_some h
  exact (hx a h1).app (hy b h2)
theorem okW_name (n : Bs) : OkW (nameW n) := fun us h => by
  unfold nameW at h
  split at h
  · rename_i hn
    cases h
    intro u hu
    simp at hu
    subst hu
    exact (okU_name hn).1
  · cases h
theorem okW_lit {l : List Bs} (h : ∀ u ∈ l, OkU u) : OkW (some l) := fun us e => by cases e; exact h
theorem okW_bang (s : Bs) : OkW (bangW s) := fun us h => by
  unfold bangW at h
  split at h
  · cases h; intro u hu; cases hu
  · split at h
    · rename_i e
      subst e
      cases h
      intro u hu
      simp at hu
      subst hu
      exact (okU_sign rfl).1
    · cases h
theorem okU_kw {u : Bs} (h : ∃ c l, u = c :: l ∧ letL.contains c = true ∧ spanR (letL ++ digL) l = []) : OkU u := by
  obtain ⟨c, l, rfl, h1, h2⟩ := h
  have hp : punL.contains c = false := by
    have : ∀ c ∈ letL, punL.contains c = false := by decide
    exact this c (by simpa using h1)
  have hd : (c == 46) = false := by
    have : ∀ c ∈ letL, (c == 46) = false := by decide
    exact this c (by simpa using h1)
  unfold OkU kt tokS wrt
  rw [if_neg (by simpa [headIn] using hp)]
  have hd' : ¬ c = 46 := by simpa using hd
  rw [if_neg (by simp [List.isPrefixOf]; intro e; exact absurd e.symm hd'), if_pos (by simpa [headIn] using h1)]
  simp only [List.drop_succ_cons, List.drop_zero, h2, ahead_nil]
  rw [if_neg (by simpa [headIn] using hp)]
theorem okW_row {α : Type} {g : α → Option (List Bs)} (hg : ∀ x, OkW (g x)) : ∀ l : List α, OkW (rowW g l)
  | [] => okW_lit (by simp)
  | x :: l => (hg x).and (okW_row hg l)
theorem okW_ref (t w : Bs) : OkW (refW t w) := by
  unfold refW
  split
  · exact (okW_name t).and (okW_bang w)
  · exact (okW_lit (by intro u hu; simp at hu; subst hu; exact (okU_sign rfl).1)).and ((okW_name t).and ((okW_bang _).and ((okW_lit (by intro u hu; simp at hu; subst hu; exact (okU_sign rfl).1)).and (okW_bang _))))
theorem okW_field (f : Fld) : OkW (fieldW f) := by
  refine (okW_name _).and ((okW_lit (by intro u hu; simp at hu; subst hu; exact (okU_sign rfl).1)).and ((okW_ref _ _).and (OkW.and ?_ ?_)))
  · unfold seaW
    split
    · refine okW_lit (fun u hu => ?_)
      simp at hu
      rcases hu with rfl | rfl
      · exact (okU_sign rfl).1
      · exact okU_kw ⟨_, _, rfl, rfl, rfl⟩
    · exact okW_lit (by simp)
  · unfold invW
    split
    · exact okW_lit (by simp)
    · refine OkW.and (okW_lit (fun u hu => ?_)) ((okW_name _).and (okW_lit (by intro u hu; simp at hu; subst hu; exact (okU_sign rfl).1)))
      simp at hu
      rcases hu with rfl | rfl | rfl | rfl | rfl
      · exact (okU_sign rfl).1
      · exact okU_kw ⟨_, _, rfl, rfl, rfl⟩
      · exact (okU_sign rfl).1
      · exact okU_kw ⟨_, _, rfl, rfl, rfl⟩
      · exact (okU_sign rfl).1
theorem okW_def (x : Ob ⊕ En) : OkW (defW x) := by
  have s1 : OkW (some [[123]]) := okW_lit (by intro u hu; simp at hu; subst hu; exact (okU_sign rfl).1)
  have s2 : OkW (some [[125]]) := okW_lit (by intro u hu; simp at hu; subst hu; exact (okU_sign rfl).1)
  cases x with
  | inl o => exact (okW_lit (by intro u hu; simp at hu; subst hu; exact okU_kw ⟨_, _, rfl, rfl, rfl⟩)).and ((okW_name _).and (s1.and ((okW_row okW_field _).and s2)))
  | inr e => exact (okW_lit (by intro u hu; simp at hu; subst hu; exact okU_kw ⟨_, _, rfl, rfl, rfl⟩)).and ((okW_name _).and (s1.and ((okW_row okW_name _).and s2)))
theorem okW_schema (s : Sch) : OkW (schemaW s) := by
  rw [schemaW_row]
  exact okW_row okW_def _
/-- What is written is read as what it was, or it is too long. -/
theorem parse_written {s : Sch} {us : List Bs} (h : schemaW s = some us) : if goodS s = true ∧ us.length ≤ 2048 ∧ (joinW us).length ≤ 16384 then parseD (joinW us) = .ok s else ∃ p, parseD (joinW us) = .error p := by
  have hu := okW_schema s us h
  by_cases h1 : us.length ≤ 2048
  · by_cases h2 : (joinW us).length ≤ 16384
    · obtain ⟨ts, e1, e2⟩ := lex_join hu h1 h2
      have B := back_schema (joinW us).length h e2
      unfold parseD
      rw [e1]
      simp only
      cases hg : goodS s with
      | true =>
        rw [if_pos hg] at B
        rw [if_pos ⟨rfl, h1, h2⟩, B]
      | false =>
        rw [if_neg (by rw [hg]; simp)] at B
        rw [if_neg (by simp)]
        obtain ⟨p, e⟩ := B
        exact ⟨p, by rw [e]⟩
    · rw [if_neg (fun e => h2 e.2.2)]
      unfold parseD lexS
      rw [if_pos (by omega)]
      exact ⟨_, rfl⟩
  · rw [if_neg (fun e => h1 e.2.1)]
    obtain ⟨p, e⟩ := lex_many hu (by omega)
    unfold parseD
    rw [e]
    exact ⟨_, rfl⟩
theorem printD_ok {s : Sch} {t : Bs} (h : printD s = some t) : parseD t = .ok s := by
  unfold printD at h
  split at h
  · cases h
  · rename_i us hu
    split at h
    · cases h
    · rename_i x hx
      cases h
      have W := parse_written hu
      split at W
      · exact W
      · obtain ⟨p, e⟩ := W
        rw [e] at hx; cases hx
end Go.Proofs.YtlabcadpkdgjnaaGreatDoor
namespace Go.Proofs.YtlabcadpkdgjnaaGreatDoor
open Go Go.RowKit
/-! ### What the document's fine asks, and what its Print writes -/
def wrapsB (w : Bs) : Bool := w == [] || w == [33] || w == [91] || w == [91, 33] || w == [33, 91] || w == [33, 91, 33]
def fineF (f : Fld) : Bool := nameK f.n && nameK f.t && wrapsB f.w && (f.i == [] || nameK f.i)
def fineO (o : Ob) : Bool := nameK o.n && !o.fs.isEmpty && o.fs.all fineF
def fineW (w : Bs) : Bool := nameK w && !notW.contains w
def fineE (e : En) : Bool := nameK e.n && !e.ws.isEmpty && e.ws.all fineW
def fineS (s : Sch) : Bool := s.os.all fineO && (s.es.all fineE && decide (0 < s.os.length + s.es.length))
/-- Tokens, a blank ahead of each. -/
def blkW : List Bs → Bs
  | [] => []
  | u :: us => 32 :: (u ++ blkW us)
theorem blkW_app : ∀ a b : List Bs, blkW (a ++ b) = blkW a ++ blkW b
  | [], _ => rfl
  | u :: us, b => by simp [blkW, blkW_app us b]
theorem blkW_join : ∀ us : List Bs, us ≠ [] → blkW us = 32 :: joinW us
  | [], h => absurd rfl h
  | [x], _ => by simp [blkW, joinW]
  | x :: y :: l, _ => by
    have := blkW_join (y :: l) (by simp)
    simp only [blkW, joinW] at *
    rw [this]
abbrev opensW (w : Bs) : Bool := w.contains 91
/-- What is written of a type's signs behind its name. -/
def signsW : Bs → List Bs
  | [] => []
  | c :: l => (if c == 91 then [93] else [33]) :: signsW l
def refT (t w : Bs) : List Bs := (if opensW w then [[91]] else []) ++ t :: signsW w
def seaT (s : Bool) : List Bs := if s then [[64], searchB] else []
def invT (i : Bs) : List Bs := if i == [] then [] else [[64], inverseB, [40], fieldB, [58], i, [41]]
def fieldT (f : Fld) : List Bs := f.n :: [58] :: (refT f.t f.w ++ (seaT f.s ++ invT f.i))
def objT (o : Ob) : List Bs := typeB :: o.n :: [123] :: ((o.fs.map fieldT).flatten ++ [[125]])
def enuT (e : En) : List Bs := enumB :: e.n :: [123] :: (e.ws ++ [[125]])
def schT (s : Sch) : List Bs := (s.os.map objT).flatten ++ (s.es.map enuT).flatten
theorem bangW_ok (s : Bs) : bangW s = if s == [] || s == [33] then some (signsW s) else none := by
  unfold bangW
  by_cases h : s = []
  · subst h; rfl
  · by_cases h2 : s = [33]
    · subst h2; rfl
    · rw [if_neg h, if_neg h2, if_neg (by simp [h, h2])]
theorem refW_ok (t w : Bs) : refW t w = if nameK t && wrapsB w then some (refT t w) else none := by
  have hn : nameW t = if nameK t then some [t] else none := rfl
  have key : wrapsB w = true ↔ (match cutW w with
      | none => w = [] ∨ w = [33]
      | some p => (p.1 = [] ∨ p.1 = [33]) ∧ (p.2 = [] ∨ p.2 = [33])) := by
    have hc : ∀ w, match cutW w with
        | none => w.contains 91 = false
        | some p => w = p.1 ++ 91 :: p.2 ∧ p.1.contains 91 = false := by
      intro w
      induction w with
      | nil => rfl
      | cons c l ih =>
        unfold cutW
        by_cases e : c = 91
        · rw [if_pos e, e]; exact ⟨rfl, rfl⟩
        · rw [if_neg e]
          cases hl : cutW l with
          | none =>
            rw [hl] at ih
            simp only at ih ⊢
            simp only [List.contains_cons, ih, Bool.or_false]
            simpa using fun h => e h.symm
          | some p =>
            rw [hl] at ih
            simp only at ih ⊢
            refine ⟨by rw [List.cons_append, ← ih.1], ?_⟩
            simp only [List.contains_cons, ih.2, Bool.or_false]
            simpa using fun h => e h.symm
    have := hc w
    unfold wrapsB
    cases hw : cutW w with
    | none =>
      rw [hw] at this
      simp only at this ⊢
      constructor
      · intro h
        simp only [Bool.or_eq_true, beq_iff_eq] at h
        rcases h with ((((h | h) | h) | h) | h) | h
        · exact Or.inl h
        · exact Or.inr h
        all_goals (subst h; exact absurd this (by decide))
      · rintro (h | h) <;> subst h <;> rfl
    | some p =>
      rw [hw] at this
      simp only at this ⊢
      obtain ⟨a, b⟩ := p
      obtain ⟨h1, h2⟩ := this
      simp only at h1 h2 ⊢
      subst h1
      constructor
      · intro h
        have hcut : cutW (a ++ 91 :: b) = some (a, b) := hw
        simp only [Bool.or_eq_true, beq_iff_eq] at h
        rcases h with ((((h | h) | h) | h) | h) | h <;> rw [h] at hcut <;> simp [cutW] at hcut <;> (obtain ⟨q1, q2⟩ := hcut; subst q1; subst q2; simp)
      · rintro ⟨h | h, g | g⟩ <;> subst h <;> subst g <;> rfl
  have hb : ∀ s : Bs, (s = [] ∨ s = [33]) ↔ (s == [] || s == [33]) = true := fun s => by simp
  unfold refW
  rw [hn]
  cases hk : nameK t with
  | false =>
    rw [if_neg (by simp : ¬ (false = true)), if_neg (by simp)]
    cases cutW w <;> rfl
  | true =>
    rw [if_pos rfl]
    cases hw : cutW w with
    | none =>
      rw [hw] at key
      simp only at key ⊢
      rw [bangW_ok]
      by_cases h : w = [] ∨ w = [33]
      · rw [if_pos ((hb w).1 h), if_pos (by rw [key.2 h]; rfl)]
        rcases h with h | h <;> subst h <;> rfl
      · rw [if_neg (fun e => h ((hb w).2 e)), if_neg (fun e => h (key.1 (by simpa using e)))]
        rfl
    | some p =>
      rw [hw] at key
      simp only at key ⊢
      rw [bangW_ok, bangW_ok]
      by_cases h : (p.1 = [] ∨ p.1 = [33]) ∧ (p.2 = [] ∨ p.2 = [33])
      · rw [if_pos ((hb _).1 h.1), if_pos ((hb _).1 h.2), if_pos (by rw [key.2 h]; rfl)]
        have hww : wrapsB w = true := key.2 h
        unfold wrapsB at hww
        simp only [Bool.or_eq_true, beq_iff_eq] at hww
        rcases hww with ((((q | q) | q) | q) | q) | q <;> subst q <;> simp [cutW] at hw <;> subst hw <;> rfl
      · have hwf : wrapsB w = false := by
          cases hq : wrapsB w with
          | false => rfl
          | true => exact absurd (key.1 hq) h
        rw [hwf]
        show _ = none
        by_cases h1 : p.1 = [] ∨ p.1 = [33]
        · have h2 : ¬ (p.2 = [] ∨ p.2 = [33]) := fun e => h ⟨h1, e⟩
          rw [if_pos ((hb _).1 h1), if_neg (fun e => h2 ((hb _).2 e))]
          rfl
        · rw [if_neg (fun e => h1 ((hb _).2 e))]
          rfl
theorem fieldW_ok (f : Fld) : fieldW f = if fineF f then some (fieldT f) else none := by
  unfold fieldW fineF
  rw [refW_ok]
  cases hn : nameK f.n with
  | false => unfold nameW; rw [hn]; rfl
  | true =>
    have h1 : nameW f.n = some [f.n] := by unfold nameW; rw [hn]; rfl
    rw [h1]
    cases ht : (nameK f.t && wrapsB f.w) with
    | false =>
      rw [if_neg (by simp : ¬ (false = true)), if_neg (by simp only [Bool.true_and, ht, Bool.false_and]; simp)]
      rfl
    | true =>
      rw [if_pos rfl]
      have hs : seaW f.s = some (seaT f.s) := by unfold seaW seaT; split <;> rfl
      have hi : invW f.i = if (f.i == [] || nameK f.i) then some (invT f.i) else none := by
        unfold invW invT
        by_cases e : f.i = []
        · rw [if_pos e, e]; rfl
        · have e2 : (f.i == []) = false := by simpa using e
          rw [if_neg e, e2]
          unfold nameW
          cases nameK f.i <;> rfl
      rw [hs, hi]
      simp only [Bool.true_and, ht]
      split
      · simp [andW, fieldT]
      · rfl
theorem rowW_ok {α : Type} {g : α → Option (List Bs)} {c : α → Bool} {t : α → List Bs} (h : ∀ x, g x = if c x then some (t x) else none) : ∀ l : List α, rowW g l = if l.all c then some ((l.map t).flatten) else none
  | [] => rfl
  | x :: l => by
    unfold rowW
    rw [h x, rowW_ok h l]
    simp only [List.all_cons, List.map_cons, List.flatten_cons]
    cases c x <;> cases l.all c <;> rfl
theorem objectW_ok (o : Ob) : objectW o = if (nameK o.n && o.fs.all fineF) then some (objT o) else none := by
  unfold objectW
  rw [rowW_ok fieldW_ok]
  unfold nameW objT
  cases nameK o.n <;> cases o.fs.all fineF <;> rfl
theorem enumW_ok (e : En) : enumW e = if (nameK e.n && e.ws.all nameK) then some (enuT e) else none := by
  unfold enumW
  have h : ∀ x, nameW x = if nameK x then some ((fun x => [x]) x) else none := fun _ => rfl
  rw [rowW_ok h]
  have hf : ∀ l : List Bs, (l.map fun x => [x]).flatten = l := fun l => by induction l with
    | nil => rfl
    | cons x l ih => simp [ih]
  rw [hf]
  unfold nameW enuT
  cases nameK e.n <;> cases e.ws.all nameK <;> rfl
theorem schemaW_ok (s : Sch) : schemaW s = if (s.os.all (fun o => nameK o.n && o.fs.all fineF) && s.es.all (fun e => nameK e.n && e.ws.all nameK)) then some (schT s) else none := by
  unfold schemaW
  rw [rowW_ok objectW_ok, rowW_ok enumW_ok]
  unfold schT
  cases s.os.all (fun o => nameK o.n && o.fs.all fineF) <;> cases s.es.all (fun e => nameK e.n && e.ws.all nameK) <;> rfl
theorem all_and {α : Type} (p q : α → Bool) : ∀ l : List α, l.all (fun x => p x && q x) = (l.all p && l.all q)
  | [] => rfl
  | x :: l => by
    simp only [List.all_cons, all_and p q l]
    cases p x <;> cases q x <;> cases l.all p <;> cases l.all q <;> rfl
theorem fine_good (s : Sch) : fineS s = ((s.os.all (fun o => nameK o.n && o.fs.all fineF) && s.es.all (fun e => nameK e.n && e.ws.all nameK)) && goodS s) := by
  have ho : s.os.all fineO = (s.os.all (fun o => nameK o.n && o.fs.all fineF) && s.os.all fun o => !o.fs.isEmpty) := by
    rw [← all_and]
    congr 1
    funext o
    unfold fineO
    cases nameK o.n <;> cases o.fs.isEmpty <;> cases o.fs.all fineF <;> rfl
  have he : s.es.all fineE = (s.es.all (fun e => nameK e.n && e.ws.all nameK) && s.es.all fun e => (!e.ws.isEmpty && e.ws.all fun x => !notW.contains x)) := by
    rw [← all_and]
    congr 1
    funext e
    unfold fineE fineW
    rw [all_and]
    cases nameK e.n <;> cases e.ws.isEmpty <;> cases e.ws.all nameK <;> cases (e.ws.all fun x => !notW.contains x) <;> rfl
  have hg : goodS s = (decide (0 < s.os.length + s.es.length) && ((s.os.all fun o => !o.fs.isEmpty) && s.es.all fun e => (!e.ws.isEmpty && e.ws.all fun x => !notW.contains x))) := by
    unfold goodS defsOf
    rw [List.all_append, List.all_map, List.all_map]
    congr 1
    cases s.os with
    | nil => cases s.es <;> simp
    | cons o l => simp; omega
  unfold fineS
  rw [ho, he, hg]
  cases s.os.all (fun o => nameK o.n && o.fs.all fineF) <;> cases s.es.all (fun e => nameK e.n && e.ws.all nameK) <;> cases decide (0 < s.os.length + s.es.length) <;> cases (s.os.all fun o => !o.fs.isEmpty) <;> simp
/-- What the document's Print tells, by its own steps. -/
theorem printD_fine (s : Sch) : printD s = if fineS s then (match parseD (joinW (schT s)) with | .error _ => none | .ok _ => some (joinW (schT s))) else none := by
  unfold printD
  have hW := schemaW_ok s
  rw [fine_good]
  cases hc : (s.os.all (fun o => nameK o.n && o.fs.all fineF) && s.es.all (fun e => nameK e.n && e.ws.all nameK)) with
  | false =>
    rw [hc, if_neg (by simp : ¬ (false = true))] at hW
    rw [hW]
    rfl
  | true =>
    rw [hc, if_pos rfl] at hW
    rw [Bool.true_and]
    cases hg : goodS s with
    | true =>
      rw [hW, if_pos rfl]
      try rfl
    | false =>
      have P := parse_written hW
      rw [hg, if_neg (by simp)] at P
      obtain ⟨p, e⟩ := P
      rw [hW, if_neg (by simp)]
      simp only [e]
theorem schT_ne {s : Sch} (h : fineS s = true) : schT s ≠ [] := by
  unfold fineS at h
  simp only [Bool.and_eq_true, decide_eq_true_eq] at h
  have := h.2.2
  unfold schT
  cases ho : s.os with
  | cons o l => simp [objT]
  | nil =>
    cases he : s.es with
    | cons e l => simp [enuT]
    | nil => rw [ho, he] at this; simp at this
/-! ### How long what is written may be -/
def szF (f : Fld) : Nat := f.n.length + f.t.length + f.w.length + f.i.length + 4
def szL {α : Type} (g : α → Nat) : List α → Nat
  | [] => 0
  | x :: l => g x + szL g l
def szO (o : Ob) : Nat := o.n.length + szL szF o.fs + 2
def szE (e : En) : Nat := e.n.length + szL (fun w => w.length + 1) e.ws + 2
def szS (s : Sch) : Nat := szL szO s.os + szL szE s.es
theorem szL_mem {α : Type} {g : α → Nat} : ∀ {l : List α} {x : α}, x ∈ l → g x ≤ szL g l
  | y :: l, x, h => by
    unfold szL
    rcases List.mem_cons.1 h with rfl | h
    · omega
    · have := szL_mem (g := g) h; omega
theorem szL_take {α : Type} {g : α → Nat} : ∀ (l : List α) (j : Nat), szL g (l.take j) ≤ szL g l
  | [], _ => by simp [szL]
  | y :: l, 0 => by simp [szL]
  | y :: l, j + 1 => by
    simp only [List.take_succ_cons, szL]
    have := szL_take (g := g) l j
    omega
theorem blk_flat {α : Type} {t : α → List Bs} {g : α → Nat} (h : ∀ x, (blkW (t x)).length ≤ 14 * g x) : ∀ l : List α, (blkW ((l.map t).flatten)).length ≤ 14 * szL g l
  | [] => by simp [blkW, szL]
  | x :: l => by
    have h1 := h x
    have h2 := blk_flat h l
    simp only [List.map_cons, List.flatten_cons, blkW_app, List.length_append, szL]
    omega
theorem signs_len : ∀ w : Bs, (blkW (signsW w)).length = 2 * w.length
  | [] => rfl
  | c :: l => by
    have := signs_len l
    unfold signsW
    simp only [blkW, List.length_cons, List.length_append]
    split <;> simp only [List.length_cons, List.length_nil] <;> omega
theorem fieldT_len (f : Fld) : (blkW (fieldT f)).length ≤ 14 * szF f := by
  unfold fieldT refT szF
  have h1 := signs_len f.w
  have h2 : (blkW (seaT f.s)).length ≤ 9 := by unfold seaT; split <;> simp [blkW]
  have h3 : (blkW (invT f.i)).length ≤ f.i.length + 32 := by unfold invT; split <;> simp [blkW]
  have h4 : (blkW (if opensW f.w then [[91]] else [])).length ≤ 2 := by split <;> simp [blkW]
  simp only [blkW, blkW_app, List.length_cons, List.length_append, List.length_nil] at *
  omega
theorem objT_len (o : Ob) : (blkW (objT o)).length ≤ 14 * szO o := by
  unfold objT szO
  have h := blk_flat fieldT_len o.fs
  simp only [blkW, blkW_app, List.length_cons, List.length_append, List.length_nil] at *
  omega
theorem words_len : ∀ l : List Bs, (blkW l).length ≤ 14 * szL (fun w => w.length + 1) l
  | [] => by simp [blkW, szL]
  | x :: l => by
    have := words_len l
    simp only [blkW, szL, List.length_cons, List.length_append] at *
    omega
theorem enuT_len (e : En) : (blkW (enuT e)).length ≤ 14 * szE e := by
  unfold enuT szE
  have h := words_len e.ws
  simp only [blkW, blkW_app, List.length_cons, List.length_append, List.length_nil] at *
  omega
theorem obsT_len (s : Sch) (j : Nat) : (blkW (((s.os.take j).map objT).flatten)).length ≤ 14 * szS s := by
  have h1 := blk_flat objT_len (s.os.take j)
  have h2 := szL_take (g := szO) s.os j
  unfold szS
  omega
theorem ensT_len (s : Sch) (j : Nat) : (blkW (((s.es.take j).map enuT).flatten)).length ≤ 14 * szS s := by
  have h1 := blk_flat enuT_len (s.es.take j)
  have h2 := szL_take (g := szE) s.es j
  unfold szS
  omega
theorem fldsT_len {s : Sch} {x : Ob} (hx : x ∈ s.os) (k : Nat) : (blkW (((x.fs.take k).map fieldT).flatten)).length ≤ 14 * szS s := by
  have h1 := blk_flat fieldT_len (x.fs.take k)
  have h2 := szL_take (g := szF) x.fs k
  have h3 := szL_mem (g := szO) hx
  unfold szO at h3
  unfold szS szO
  unfold szL at *
  omega
theorem ob_len {s : Sch} {x : Ob} (hx : x ∈ s.os) : x.n.length ≤ szS s := by
  have h3 := szL_mem (g := szO) hx
  have e : szO x = x.n.length + szL szF x.fs + 2 := rfl
  unfold szS
  omega
theorem fld_len {s : Sch} {x : Ob} {f : Fld} (hx : x ∈ s.os) (hf : f ∈ x.fs) : f.n.length + f.t.length + f.w.length + f.i.length ≤ szS s := by
  have h3 := szL_mem (g := szO) hx
  have h4 := szL_mem (g := szF) hf
  have e : szO x = x.n.length + szL szF x.fs + 2 := rfl
  have e2 : szF f = f.n.length + f.t.length + f.w.length + f.i.length + 4 := rfl
  unfold szS
  omega
theorem en_len {s : Sch} {x : En} (hx : x ∈ s.es) : x.n.length ≤ szS s := by
  have h3 := szL_mem (g := szE) hx
  have e : szE x = x.n.length + szL (fun w => w.length + 1) x.ws + 2 := rfl
  unfold szS
  omega
theorem wd_len {s : Sch} {x : En} {f : Bs} (hx : x ∈ s.es) (hf : f ∈ x.ws) : f.length ≤ szS s := by
  have h3 := szL_mem (g := szE) hx
  have h4 := szL_mem (g := fun w : Bs => w.length + 1) hf
  have e : szE x = x.n.length + szL (fun w => w.length + 1) x.ws + 2 := rfl
  have e2 : (fun w : Bs => w.length + 1) f = f.length + 1 := rfl
  unfold szS
  omega
theorem wdsT_len {s : Sch} {x : En} (hx : x ∈ s.es) (k : Nat) : (blkW (x.ws.take k)).length ≤ 14 * szS s := by
  have h1 := words_len (x.ws.take k)
  have h2 := szL_take (g := fun w : Bs => w.length + 1) x.ws k
  have h3 := szL_mem (g := szE) hx
  have e : szE x = x.n.length + szL (fun w => w.length + 1) x.ws + 2 := rfl
  unfold szS
  omega
theorem blk_next {α : Type} (t : α → List Bs) {l : List α} {j : Nat} {x : α} (h : l[j]? = some x) : blkW (((l.take (j + 1)).map t).flatten) = blkW (((l.take j).map t).flatten) ++ blkW (t x) := by
  rw [List.take_add_one, h]
  simp [blkW_app]
theorem blk_nextW {l : List Bs} {j : Nat} {x : Bs} (h : l[j]? = some x) : blkW (l.take (j + 1)) = blkW (l.take j) ++ (32 :: x) := by
  rw [List.take_add_one, h]
  simp [blkW_app, blkW]
theorem signs_next {l : Bs} {j : Nat} {x : UInt8} (h : l[j]? = some x) : blkW (signsW (l.take (j + 1))) = blkW (signsW (l.take j)) ++ (if x == 91 then [32, 93] else [32, 33]) := by
  have ap : ∀ a b : Bs, signsW (a ++ b) = signsW a ++ signsW b := fun a b => by
    induction a with
    | nil => rfl
    | cons c a ih => simp [signsW, ih]
  rw [List.take_add_one, h, ap, blkW_app]
  congr 1
  simp only [Option.toList_some, signsW, blkW]
  split <;> rfl
theorem open_next {l : Bs} {j : Nat} {x : UInt8} (h : l[j]? = some x) : (l.take (j + 1)).contains 91 = ((l.take j).contains 91 || (x == 91)) := by
  rw [List.take_add_one, h]
  rw [Bool.eq_iff_iff]
  simp
  exact or_congr Iff.rfl eq_comm
/-- A field's text, step by step. -/
theorem fieldT_blk (f : Fld) : blkW (fieldT f) = ((((32 :: (f.n ++ [32, 58])) ++ (if opensW f.w then [32, 91] else [])) ++ (32 :: f.t)) ++ blkW (signsW f.w)) ++ ((if f.s then [32, 64, 32, 115, 101, 97, 114, 99, 104] else []) ++ (if f.i == [] then [] else [32, 64, 32, 104, 97, 115, 73, 110, 118, 101, 114, 115, 101, 32, 40, 32, 102, 105, 101, 108, 100, 32, 58, 32] ++ f.i ++ [32, 41])) := by
  unfold fieldT refT seaT invT
  cases opensW f.w <;> cases f.s <;> cases (f.i == []) <;> simp [blkW, blkW_app]
theorem objT_blk (o : Ob) : blkW (objT o) = ([32, 116, 121, 112, 101, 32] ++ o.n ++ [32, 123]) ++ blkW ((o.fs.map fieldT).flatten) ++ [32, 125] := by
  unfold objT
  simp [blkW, blkW_app]
theorem enuT_blk (o : En) : blkW (enuT o) = ([32, 101, 110, 117, 109, 32] ++ o.n ++ [32, 123]) ++ blkW o.ws ++ [32, 125] := by
  unfold enuT
  simp [blkW, blkW_app]
end Go.Proofs.YtlabcadpkdgjnaaGreatDoor
namespace Go.Proofs.YtlabcadpkdgjnaaGreatDoor
open Go Go.RowKit Go.ChangeShapes Go.WideShapes Go.Deep
/-- It is of bulk at most 1048576. -/
def Wu {H : Type} (d : DataW H) : Prop := Rows.uptoBulk d ≤ 1048576
theorem bulk_mem {H : Type} {d : DataW H} : ∀ {l : List (DataW H)}, d ∈ l → Rows.uptoBulk d ≤ Rows.uptoBulkAll l
  | x :: r, h => by
    simp only [Rows.uptoBulkAll]
    rcases List.mem_cons.1 h with rfl | h
    · omega
    · have := bulk_mem h
      omega
theorem bulk_pos {H : Type} : ∀ d : DataW H, 1 ≤ Rows.uptoBulk d := by
  intro d
  cases d with
  | lit l => cases l <;> simp [Rows.uptoBulk]
  | _ => simp [Rows.uptoBulk]
theorem bulk_len {H : Type} : ∀ l : List (DataW H), l.length ≤ Rows.uptoBulkAll l
  | [] => Nat.zero_le _
  | x :: r => by
    have h1 := bulk_pos x
    have h2 := bulk_len r
    simp only [Rows.uptoBulkAll, List.length_cons]
    omega
theorem Wu.elem {H : Type} {el sp : List (DataW H)} (h : Wu (.slice el sp)) {d : DataW H} (hd : d ∈ el) : Wu d := by
  have h1 : Rows.uptoBulk (DataW.slice el sp) ≤ 1048576 := h
  have h2 := bulk_mem hd
  simp only [Rows.uptoBulk] at h1
  show Rows.uptoBulk d ≤ 1048576
  omega
theorem Wu.len {H : Type} {el sp : List (DataW H)} (h : Wu (.slice el sp)) : el.length ≤ 140737488355328 := by
  have h1 : Rows.uptoBulk (DataW.slice el sp) ≤ 1048576 := h
  have h2 := bulk_len el
  simp only [Rows.uptoBulk] at h1
  omega
theorem Wu.part {H : Type} {parts : List (DataW H)} (h : Wu (.agg parts)) {j : Nat} {d : DataW H} (hd : parts[j]? = some d) : Wu d := by
  have h1 : Rows.uptoBulk (DataW.agg parts) ≤ 1048576 := h
  have h2 := bulk_mem (List.mem_of_getElem? hd)
  simp only [Rows.uptoBulk] at h1
  show Rows.uptoBulk d ≤ 1048576
  omega
theorem sl_split {α : Type} {w : World} {v : Value} {sz : Nat} {l : List α} {p : α → Nat → Nat → Prop} {Q : α → Prop} (h : Sl w v l.length sz (fun i b o => ∀ a, l[i]? = some a → p a b o ∧ Q a)) : Sl w v l.length sz (fun i b o => ∀ a, l[i]? = some a → p a b o) ∧ ∀ a ∈ l, Q a := by
  refine ⟨h.mono (Nat.le_refl _) fun i b o _ hp a ha => (hp a ha).1, fun a ha => ?_⟩
  obtain ⟨_, _, _, _, _, hr⟩ := h
  obtain ⟨i, hi, e⟩ := List.mem_iff_getElem.1 ha
  obtain ⟨b, o, _, _, hH⟩ := hr (by omega)
  exact (hH i hi a (by rw [List.getElem?_eq_getElem hi, e])).2
section
variable {H : Type} {enc : TypeId × Value → H} {w : World} {base : Nat} {spare : Nat → Bool} {held : Bool}
theorem open_slU {α : Type} {sz : Nat} {t e : TypeId} {p : α → Nat → Nat → Prop} (ht : Tryz.prog.underlying t = some (.slice e)) (hsz : Tryz.prog.cellsOf e = sz) (hs1 : 0 < sz) {fuel : Nat} {cs : List Value} {x : DataW H × List MemPlace} (h : DataW.trod enc Tryz.prog w base spare held fuel t cs = some x) (hw : Wu x.1)
    (each : ∀ (fuel : Nat) (cs : List Value) (y : DataW H × List MemPlace) (b o : Nat), DataW.trod enc Tryz.prog w base spare held fuel e cs = some y → Wu y.1 → cs.length = sz → (∀ j u, cs[j]? = some u → w.cell? ⟨b, o + j, none⟩ = some u) → ∃ a : α, p a b o) :
    ∃ (v : Value) (l : List α), cs = [v] ∧ Sl w v l.length sz (fun i b o => ∀ a, l[i]? = some a → p a b o) := by
  rcases open_slice ht h with ⟨hcs, _⟩ | ⟨ad, len, cap, m, n, D, Pl, hcs, _, hl, hm, hmm, rfl, hx⟩
  · exact ⟨_, [], hcs, _, 0, rfl, Nat.le_refl _, by simp, fun h => absurd h (by simp)⟩
  · have hlm : len ≤ m := by rw [hmm]; split <;> omega
    rw [hsz] at hx
    have hlen47 : len ≤ 140737488355328 := by
      have := hw.len
      simpa using this
    by_cases h0 : len = 0
    · subst h0
      exact ⟨_, [], hcs, some ad, cap, rfl, by simp, by simp, fun h => absurd h (by simp)⟩
    · obtain ⟨b, o, sp⟩ := ad
      have cell : ∀ i, i < len → ∃ cs', DataW.trod enc Tryz.prog w base spare held n e cs' = some (D i, Pl i) ∧ cs'.length = sz ∧ ∀ j, j < sz → w.cell? ((⟨b, o, sp⟩ : Addr).add (i * sz + j)) = cs'[j]? := by
        intro i hi
        obtain ⟨cs', h1, h2⟩ := hx i (by omega)
        obtain ⟨_, hlen, hcell⟩ := World.cells?_some h1
        refine ⟨cs', h2, hlen, fun j hj => ?_⟩
        have := hcell j hj
        rw [add_add] at this
        exact this
      obtain ⟨cs0, _, hl0, hc0⟩ := cell 0 (by omega)
      obtain ⟨u0, hu0⟩ : ∃ u, cs0[0]? = some u := ⟨_, List.getElem?_eq_getElem (by omega)⟩
      have hc00 := (hc0 0 hs1).trans hu0
      have hsp : sp = none := by simpa [Addr.add] using World.cell?_spot hc00
      subst hsp
      have hbl : b < w.heap.size := by
        have := World.block_lt_of_cell? w _ hc00
        simpa [Addr.add] using this
      have each' : ∀ i, i < len → ∃ a : α, p a b (o + i * sz) := by
        intro i hi
        obtain ⟨cs', h1, h2, h3⟩ := cell i hi
        refine each n cs' _ b (o + i * sz) h1 (hw.elem (List.mem_map.2 ⟨i, List.mem_range.2 hi, rfl⟩)) h2 fun j u hj => ?_
        have hjs : j < sz := by
          have := (List.getElem?_eq_some_iff.1 hj).1
          omega
        have h4 := (h3 j hjs).trans hj
        have e4 : (⟨b, o, none⟩ : Addr).add (i * sz + j) = ⟨b, o + i * sz + j, none⟩ := by simp [Addr.add, Nat.add_assoc]
        rw [e4] at h4
        exact h4
      obtain ⟨a0, _⟩ := each' 0 (by omega)
      haveI : Inhabited α := ⟨a0⟩
      obtain ⟨f, hf⟩ := choose_lt each'
      refine ⟨_, (List.range len).map f, hcs, some ⟨b, o, none⟩, cap, by simp, by simpa using hl, by simpa using hlen47, fun _ => ⟨b, o, rfl, hbl, fun i hi a ha => ?_⟩⟩
      have hi : i < len := by simpa using hi
      have hpf : a = f i := by
        simp [hi] at ha
        exact ha.symm
      subst hpf
      exact hf i hi
theorem Tryz.cStrU : Tryz.prog.cellsOf 9 = 1 := by kernel_rfl
theorem Tryz.cFldU : Tryz.prog.cellsOf 63 = 5 := by kernel_rfl
theorem Tryz.cRefU : Tryz.prog.cellsOf 61 = 2 := by kernel_rfl
theorem Tryz.cBoolU : Tryz.prog.cellsOf 4 = 1 := by kernel_rfl
theorem Tryz.cObU : Tryz.prog.cellsOf 58 = 2 := by kernel_rfl
theorem Tryz.cEnU : Tryz.prog.cellsOf 66 = 2 := by kernel_rfl
theorem Tryz.cSchU : Tryz.prog.cellsOf 25 = 2 := by kernel_rfl
theorem Tryz.cFsU : Tryz.prog.cellsOf 56 = 1 := by kernel_rfl
theorem Tryz.cWsU : Tryz.prog.cellsOf 41 = 1 := by kernel_rfl
theorem Tryz.cOsU : Tryz.prog.cellsOf 22 = 1 := by kernel_rfl
theorem Tryz.cEsU : Tryz.prog.cellsOf 23 = 1 := by kernel_rfl
theorem open_strU {fuel : Nat} {cs : List Value} {x : DataW H × List MemPlace} (h : DataW.trod enc Tryz.prog w base spare held fuel 9 cs = some x) (hw : Wu x.1) : ∃ b : Bs, cs = [.string ⟨b.toArray⟩] ∧ b.length ≤ 1048576 := by
  obtain ⟨t, e, ex, _⟩ := DataW.trod_string Tryz.underlying9 h
  refine ⟨t.data.toList, by rw [e], ?_⟩
  have hw' : Rows.uptoBulk x.1 ≤ 1048576 := hw
  rw [ex] at hw'
  simp only [Rows.uptoBulk] at hw'
  omega
set_option maxRecDepth 100000 in
theorem open_fldU {fuel : Nat} {cs : List Value} {x : DataW H × List MemPlace} (h : DataW.trod enc Tryz.prog w base spare held fuel 63 cs = some x) (hw : Wu x.1) :
    ∃ f : Fld, cs = [.string ⟨f.n.toArray⟩, .string ⟨f.t.toArray⟩, .string ⟨f.w.toArray⟩, .bool f.s, .string ⟨f.i.toArray⟩] ∧ FldL f := by
  obtain ⟨xs, n, _, rfl, hl, hxl, hf⟩ := DataW.trod_struct Tryz.underlying63 h
  rw [Tryz.cFldU] at hl
  match xs, hxl, cs, hl with
  | [y0, y1, y2, y3], _, [v0, v1, v2, v3, v4], _ =>
    have g0 := hf 0 _ rfl
    have g1 := hf 1 _ rfl
    have g2 := hf 2 _ rfl
    have g3 := hf 3 _ rfl
    simp [Tryz.cStrU, Tryz.cRefU, Tryz.cBoolU] at g0 g1 g2 g3
    obtain ⟨a0, e0, L0⟩ := open_strU g0 (hw.part (j := 0) rfl)
    have hw1 := hw.part (j := 1) rfl
    obtain ⟨ys, m, _, ey, _, hyl, hg⟩ := DataW.trod_struct Tryz.underlying61 g1
    match ys, hyl, ey with
    | [z0, z1], _, ey =>
      have hw2 : Wu y1.1 := hw1
      rw [ey] at hw2
      have q0 := hg 0 _ rfl
      have q1 := hg 1 _ rfl
      simp [Tryz.cStrU] at q0 q1
      obtain ⟨a1, e1, L1⟩ := open_strU q0 (hw2.part (j := 0) rfl)
      obtain ⟨a2, e2, L2⟩ := open_strU q1 (hw2.part (j := 1) rfl)
      obtain ⟨a3, e3, _, _⟩ := DataW.trod_bool Tryz.underlying4 g2
      obtain ⟨a4, e4, L4⟩ := open_strU g3 (hw.part (j := 3) rfl)
      simp at e0 e1 e2 e3 e4
      exact ⟨⟨a0, a1, a2, a3, a4⟩, by rw [e0, e1, e2, e3, e4], ⟨by show a0.length ≤ _; omega, by show a1.length ≤ _; omega, by show a2.length < _; omega, by show a4.length ≤ _; omega⟩⟩
theorem open_wdsU {fuel : Nat} {cs : List Value} {x : DataW H × List MemPlace} (h : DataW.trod enc Tryz.prog w base spare held fuel 41 cs = some x) (hw : Wu x.1) : ∃ (v : Value) (ws : List Bs), cs = [v] ∧ WdsAt w v ws ∧ ∀ x ∈ ws, x.length ≤ 1048576 := by
  obtain ⟨v, l, e, hl⟩ := open_slU (p := fun (a : Bs) b o => w.cell? ⟨b, o, none⟩ = some (.string ⟨a.toArray⟩) ∧ a.length ≤ 1048576) Tryz.underlying41 Tryz.cStrU (by decide) h hw fun fuel cs y b o hy hwy _ hc => by
    obtain ⟨a, rfl, La⟩ := open_strU hy hwy
    exact ⟨a, hc 0 _ rfl, La⟩
  exact ⟨v, l, e, (sl_split hl).1, (sl_split hl).2⟩
theorem open_fldsU {fuel : Nat} {cs : List Value} {x : DataW H × List MemPlace} (h : DataW.trod enc Tryz.prog w base spare held fuel 56 cs = some x) (hw : Wu x.1) : ∃ (v : Value) (fs : List Fld), cs = [v] ∧ FldsAt w v fs ∧ ∀ f ∈ fs, FldL f := by
  obtain ⟨v, l, e, hl⟩ := open_slU (p := fun (a : Fld) b o => FldAt w a b o ∧ FldL a) Tryz.underlying56 Tryz.cFldU (by decide) h hw fun fuel cs y b o hy hwy _ hc => by
    obtain ⟨f, rfl, Lf⟩ := open_fldU hy hwy
    exact ⟨f, ⟨hc 0 _ rfl, hc 1 _ rfl, hc 2 _ rfl, hc 3 _ rfl, hc 4 _ rfl⟩, Lf⟩
  exact ⟨v, l, e, (sl_split hl).1, (sl_split hl).2⟩
set_option maxRecDepth 100000 in
theorem open_obU {fuel : Nat} {cs : List Value} {x : DataW H × List MemPlace} (h : DataW.trod enc Tryz.prog w base spare held fuel 58 cs = some x) (hw : Wu x.1) :
    ∃ (o : Ob) (fv : Value), cs = [.string ⟨o.n.toArray⟩, fv] ∧ FldsAt w fv o.fs ∧ o.n.length ≤ 1048576 ∧ ∀ f ∈ o.fs, FldL f := by
  obtain ⟨xs, n, _, rfl, hl, hxl, hf⟩ := DataW.trod_struct Tryz.underlying58 h
  rw [Tryz.cObU] at hl
  match xs, hxl, cs, hl with
  | [y0, y1], _, [v0, v1], _ =>
    have g0 := hf 0 _ rfl
    have g1 := hf 1 _ rfl
    simp [Tryz.cStrU, Tryz.cFsU] at g0 g1
    obtain ⟨a0, e0, L0⟩ := open_strU g0 (hw.part (j := 0) rfl)
    obtain ⟨fv, fs, e1, hfs, Lfs⟩ := open_fldsU g1 (hw.part (j := 1) rfl)
    simp at e0 e1
    exact ⟨⟨a0, fs⟩, fv, by rw [e0, e1], hfs, L0, Lfs⟩
set_option maxRecDepth 100000 in
theorem open_enU {fuel : Nat} {cs : List Value} {x : DataW H × List MemPlace} (h : DataW.trod enc Tryz.prog w base spare held fuel 66 cs = some x) (hw : Wu x.1) :
    ∃ (o : En) (fv : Value), cs = [.string ⟨o.n.toArray⟩, fv] ∧ WdsAt w fv o.ws ∧ o.n.length ≤ 1048576 ∧ ∀ x ∈ o.ws, x.length ≤ 1048576 := by
  obtain ⟨xs, n, _, rfl, hl, hxl, hf⟩ := DataW.trod_struct Tryz.underlying66 h
  rw [Tryz.cEnU] at hl
  match xs, hxl, cs, hl with
  | [y0, y1], _, [v0, v1], _ =>
    have g0 := hf 0 _ rfl
    have g1 := hf 1 _ rfl
    simp [Tryz.cStrU, Tryz.cWsU] at g0 g1
    obtain ⟨a0, e0, L0⟩ := open_strU g0 (hw.part (j := 0) rfl)
    obtain ⟨fv, fs, e1, hfs, Lfs⟩ := open_wdsU g1 (hw.part (j := 1) rfl)
    simp at e0 e1
    exact ⟨⟨a0, fs⟩, fv, by rw [e0, e1], hfs, L0, Lfs⟩
theorem open_obsU {fuel : Nat} {cs : List Value} {x : DataW H × List MemPlace} (h : DataW.trod enc Tryz.prog w base spare held fuel 22 cs = some x) (hw : Wu x.1) : ∃ (v : Value) (fs : List Ob), cs = [v] ∧ ObsAt w v fs ∧ ∀ o ∈ fs, o.n.length ≤ 1048576 ∧ ∀ f ∈ o.fs, FldL f := by
  obtain ⟨v, l, e, hl⟩ := open_slU (p := fun (a : Ob) b o => ObAt w a b o ∧ (a.n.length ≤ 1048576 ∧ ∀ f ∈ a.fs, FldL f)) Tryz.underlying22 Tryz.cObU (by decide) h hw fun fuel cs y b o hy hwy _ hc => by
    obtain ⟨f, fv, rfl, hfs, L1, L2⟩ := open_obU hy hwy
    exact ⟨f, ⟨hc 0 _ rfl, fv, hc 1 _ rfl, hfs⟩, L1, L2⟩
  exact ⟨v, l, e, (sl_split hl).1, (sl_split hl).2⟩
theorem open_ensU {fuel : Nat} {cs : List Value} {x : DataW H × List MemPlace} (h : DataW.trod enc Tryz.prog w base spare held fuel 23 cs = some x) (hw : Wu x.1) : ∃ (v : Value) (fs : List En), cs = [v] ∧ EnsAt w v fs ∧ ∀ o ∈ fs, o.n.length ≤ 1048576 ∧ ∀ x ∈ o.ws, x.length ≤ 1048576 := by
  obtain ⟨v, l, e, hl⟩ := open_slU (p := fun (a : En) b o => EnAt w a b o ∧ (a.n.length ≤ 1048576 ∧ ∀ x ∈ a.ws, x.length ≤ 1048576)) Tryz.underlying23 Tryz.cEnU (by decide) h hw fun fuel cs y b o hy hwy _ hc => by
    obtain ⟨f, fv, rfl, hfs, L1, L2⟩ := open_enU hy hwy
    exact ⟨f, ⟨hc 0 _ rfl, fv, hc 1 _ rfl, hfs⟩, L1, L2⟩
  exact ⟨v, l, e, (sl_split hl).1, (sl_split hl).2⟩
set_option maxRecDepth 100000 in
theorem open_schU {fuel : Nat} {cs : List Value} {x : DataW H × List MemPlace} (h : DataW.trod enc Tryz.prog w base spare held fuel 25 cs = some x) (hw : Wu x.1) :
    ∃ (s : Sch) (ov ev : Value), cs = [ov, ev] ∧ SchAt w ov ev s ∧ SchL s := by
  obtain ⟨xs, n, _, rfl, hl, hxl, hf⟩ := DataW.trod_struct Tryz.underlying25 h
  rw [Tryz.cSchU] at hl
  match xs, hxl, cs, hl with
  | [y0, y1], _, [v0, v1], _ =>
    have g0 := hf 0 _ rfl
    have g1 := hf 1 _ rfl
    simp [Tryz.cOsU, Tryz.cEsU] at g0 g1
    obtain ⟨ov, os, e0, h0, L0⟩ := open_obsU g0 (hw.part (j := 0) rfl)
    obtain ⟨ev, es, e1, h1, L1⟩ := open_ensU g1 (hw.part (j := 1) rfl)
    simp at e0 e1
    exact ⟨⟨os, es⟩, ov, ev, by rw [e0, e1], ⟨h0, h1⟩, ⟨fun o ho => by have := (L0 o ho).1; omega, fun o ho => (L0 o ho).2, fun o ho => by have := (L1 o ho).1; omega, fun o ho x hx => by have := (L1 o ho).2 x hx; omega⟩⟩
end
end Go.Proofs.YtlabcadpkdgjnaaGreatDoor
namespace Go.Proofs.YtlabcadpkdgjnaaGreatDoor
open Go Go.RowKit Go.ChangeShapes Go.WideShapes Go.Deep
theorem sz_bulk {α : Type} {H : Type} {g : α → Nat} {f : Nat → α} {D : Nat → DataW H} : ∀ {l : List Nat}, (∀ i ∈ l, g (f i) ≤ Rows.uptoBulk (D i)) → szL g (l.map f) ≤ Rows.uptoBulkAll (l.map D)
  | [], _ => Nat.zero_le _
  | i :: l, h => by
    have h1 := h i (List.mem_cons_self ..)
    have h2 := sz_bulk (l := l) fun j hj => h j (List.mem_cons_of_mem _ hj)
    simp only [List.map_cons, szL, Rows.uptoBulkAll]
    omega
section
variable {H : Type} {enc : TypeId × Value → H} {w : World} {base : Nat} {spare : Nat → Bool} {held : Bool}
theorem open_slB {α : Type} {sz : Nat} {t e : TypeId} {p : α → Nat → Nat → Prop} {g : α → Nat} (ht : Tryz.prog.underlying t = some (.slice e)) (hsz : Tryz.prog.cellsOf e = sz) (hs1 : 0 < sz) {fuel : Nat} {cs : List Value} {x : DataW H × List MemPlace} (h : DataW.trod enc Tryz.prog w base spare held fuel t cs = some x) (hw : Wu x.1)
    (each : ∀ (fuel : Nat) (cs : List Value) (y : DataW H × List MemPlace) (b o : Nat), DataW.trod enc Tryz.prog w base spare held fuel e cs = some y → Wu y.1 → cs.length = sz → (∀ j u, cs[j]? = some u → w.cell? ⟨b, o + j, none⟩ = some u) → ∃ a : α, p a b o ∧ g a ≤ Rows.uptoBulk y.1) :
    ∃ (v : Value) (l : List α), cs = [v] ∧ Sl w v l.length sz (fun i b o => ∀ a, l[i]? = some a → p a b o) ∧ szL g l + 1 ≤ Rows.uptoBulk x.1 := by
  rcases open_slice ht h with ⟨hcs, _⟩ | ⟨ad, len, cap, m, n, D, Pl, hcs, _, hl, hm, hmm, rfl, hx⟩
  · exact ⟨_, [], hcs, ⟨_, 0, rfl, Nat.le_refl _, by simp, fun h => absurd h (by simp)⟩, bulk_pos _⟩
  · have hlm : len ≤ m := by rw [hmm]; split <;> omega
    rw [hsz] at hx
    have hlen47 : len ≤ 140737488355328 := by
      have := hw.len
      simpa using this
    by_cases h0 : len = 0
    · subst h0
      exact ⟨_, [], hcs, ⟨some ad, cap, rfl, by simp, by simp, fun h => absurd h (by simp)⟩, bulk_pos _⟩
    · obtain ⟨b, o, sp⟩ := ad
      have cell : ∀ i, i < len → ∃ cs', DataW.trod enc Tryz.prog w base spare held n e cs' = some (D i, Pl i) ∧ cs'.length = sz ∧ ∀ j, j < sz → w.cell? ((⟨b, o, sp⟩ : Addr).add (i * sz + j)) = cs'[j]? := by
        intro i hi
        obtain ⟨cs', h1, h2⟩ := hx i (by omega)
        obtain ⟨_, hlen, hcell⟩ := World.cells?_some h1
        refine ⟨cs', h2, hlen, fun j hj => ?_⟩
        have := hcell j hj
        rw [add_add] at this
        exact this
      obtain ⟨cs0, _, hl0, hc0⟩ := cell 0 (by omega)
      obtain ⟨u0, hu0⟩ : ∃ u, cs0[0]? = some u := ⟨_, List.getElem?_eq_getElem (by omega)⟩
      have hc00 := (hc0 0 hs1).trans hu0
      have hsp : sp = none := by simpa [Addr.add] using World.cell?_spot hc00
      subst hsp
      have hbl : b < w.heap.size := by
        have := World.block_lt_of_cell? w _ hc00
        simpa [Addr.add] using this
      have each' : ∀ i, i < len → ∃ a : α, p a b (o + i * sz) ∧ g a ≤ Rows.uptoBulk (D i) := by
        intro i hi
        obtain ⟨cs', h1, h2, h3⟩ := cell i hi
        refine each n cs' _ b (o + i * sz) h1 (hw.elem (List.mem_map.2 ⟨i, List.mem_range.2 hi, rfl⟩)) h2 fun j u hj => ?_
        have hjs : j < sz := by
          have := (List.getElem?_eq_some_iff.1 hj).1
          omega
        have h4 := (h3 j hjs).trans hj
        have e4 : (⟨b, o, none⟩ : Addr).add (i * sz + j) = ⟨b, o + i * sz + j, none⟩ := by simp [Addr.add, Nat.add_assoc]
        rw [e4] at h4
        exact h4
      obtain ⟨a0, _⟩ := each' 0 (by omega)
      haveI : Inhabited α := ⟨a0⟩
      obtain ⟨f, hf⟩ := choose_lt each'
      have hsum : szL g ((List.range len).map f) ≤ Rows.uptoBulkAll ((List.range len).map D) := sz_bulk fun i hi => (hf i (List.mem_range.1 hi)).2
      refine ⟨_, (List.range len).map f, hcs, ⟨some ⟨b, o, none⟩, cap, by simp, by simpa using hl, by simpa using hlen47, fun _ => ⟨b, o, rfl, hbl, fun i hi a ha => ?_⟩⟩, by simp only [Rows.uptoBulk]; omega⟩
      have hi : i < len := by simpa using hi
      have hpf : a = f i := by
        simp [hi] at ha
        exact ha.symm
      subst hpf
      exact (hf i hi).1
theorem open_strB {fuel : Nat} {cs : List Value} {x : DataW H × List MemPlace} (h : DataW.trod enc Tryz.prog w base spare held fuel 9 cs = some x) (hw : Wu x.1) : ∃ b : Bs, cs = [.string ⟨b.toArray⟩] ∧ b.length ≤ 1048576 ∧ b.length + 1 ≤ Rows.uptoBulk x.1 := by
  obtain ⟨t, e, ex, _⟩ := DataW.trod_string Tryz.underlying9 h
  have hw' : Rows.uptoBulk x.1 ≤ 1048576 := hw
  have hx : Rows.uptoBulk x.1 = t.data.toList.length + 1 := by rw [ex]; simp only [Rows.uptoBulk]
  exact ⟨t.data.toList, by rw [e], by omega, by omega⟩
set_option maxRecDepth 100000 in
theorem open_fldB {fuel : Nat} {cs : List Value} {x : DataW H × List MemPlace} (h : DataW.trod enc Tryz.prog w base spare held fuel 63 cs = some x) (hw : Wu x.1) :
    ∃ f : Fld, cs = [.string ⟨f.n.toArray⟩, .string ⟨f.t.toArray⟩, .string ⟨f.w.toArray⟩, .bool f.s, .string ⟨f.i.toArray⟩] ∧ FldL f ∧ szF f + 1 ≤ Rows.uptoBulk x.1 := by
  obtain ⟨xs, n, _, rfl, hl, hxl, hf⟩ := DataW.trod_struct Tryz.underlying63 h
  rw [Tryz.cFldU] at hl
  match xs, hxl, cs, hl with
  | [y0, y1, y2, y3], _, [v0, v1, v2, v3, v4], _ =>
    have hx : Rows.uptoBulk y0.1 + Rows.uptoBulk y1.1 + Rows.uptoBulk y3.1 + 1 ≤ Rows.uptoBulk (DataW.agg (H := H) [y0.1, y1.1, y2.1, y3.1]) := by
      have e : Rows.uptoBulk (DataW.agg (H := H) [y0.1, y1.1, y2.1, y3.1]) = Rows.uptoBulk y0.1 + (Rows.uptoBulk y1.1 + (Rows.uptoBulk y2.1 + (Rows.uptoBulk y3.1 + 0))) + 1 := rfl
      omega
    have g0 := hf 0 _ rfl
    have g1 := hf 1 _ rfl
    have g2 := hf 2 _ rfl
    have g3 := hf 3 _ rfl
    simp [Tryz.cStrU, Tryz.cRefU, Tryz.cBoolU] at g0 g1 g2 g3
    obtain ⟨a0, e0, L0, M0⟩ := open_strB g0 (hw.part (j := 0) rfl)
    have hw1 := hw.part (j := 1) rfl
    obtain ⟨ys, m, _, ey, _, hyl, hg⟩ := DataW.trod_struct Tryz.underlying61 g1
    match ys, hyl, ey with
    | [z0, z1], _, ey =>
      have hw2 : Wu y1.1 := hw1
      rw [ey] at hw2
      have q0 := hg 0 _ rfl
      have q1 := hg 1 _ rfl
      simp [Tryz.cStrU] at q0 q1
      obtain ⟨a1, e1, L1, M1⟩ := open_strB q0 (hw2.part (j := 0) rfl)
      obtain ⟨a2, e2, L2, M2⟩ := open_strB q1 (hw2.part (j := 1) rfl)
      obtain ⟨a3, e3, _, _⟩ := DataW.trod_bool Tryz.underlying4 g2
      obtain ⟨a4, e4, L4, M4⟩ := open_strB g3 (hw.part (j := 3) rfl)
      simp at e0 e1 e2 e3 e4
      have hb : Rows.uptoBulk y1.1 = Rows.uptoBulk z0.1 + (Rows.uptoBulk z1.1 + 0) + 1 := by rw [ey]; rfl
      refine ⟨⟨a0, a1, a2, a3, a4⟩, by rw [e0, e1, e2, e3, e4], ⟨by show a0.length ≤ _; omega, by show a1.length ≤ _; omega, by show a2.length < _; omega, by show a4.length ≤ _; omega⟩, ?_⟩
      exact Nat.le_trans (by show a0.length + a1.length + a2.length + a4.length + 4 + 1 ≤ _; omega) hx
theorem open_wdsB {fuel : Nat} {cs : List Value} {x : DataW H × List MemPlace} (h : DataW.trod enc Tryz.prog w base spare held fuel 41 cs = some x) (hw : Wu x.1) : ∃ (v : Value) (ws : List Bs), cs = [v] ∧ WdsAt w v ws ∧ (∀ x ∈ ws, x.length ≤ 1048576) ∧ szL (fun w => w.length + 1) ws + 1 ≤ Rows.uptoBulk x.1 := by
  obtain ⟨v, l, e, hl, hb⟩ := open_slB (g := fun w => w.length + 1) (p := fun (a : Bs) b o => w.cell? ⟨b, o, none⟩ = some (.string ⟨a.toArray⟩) ∧ a.length ≤ 1048576) Tryz.underlying41 Tryz.cStrU (by decide) h hw fun fuel cs y b o hy hwy _ hc => by
    obtain ⟨a, rfl, La, Ma⟩ := open_strB hy hwy
    exact ⟨a, ⟨hc 0 _ rfl, La⟩, Ma⟩
  exact ⟨v, l, e, (sl_split hl).1, (sl_split hl).2, hb⟩
theorem open_fldsB {fuel : Nat} {cs : List Value} {x : DataW H × List MemPlace} (h : DataW.trod enc Tryz.prog w base spare held fuel 56 cs = some x) (hw : Wu x.1) : ∃ (v : Value) (fs : List Fld), cs = [v] ∧ FldsAt w v fs ∧ (∀ f ∈ fs, FldL f) ∧ szL szF fs + 1 ≤ Rows.uptoBulk x.1 := by
  obtain ⟨v, l, e, hl, hb⟩ := open_slB (g := szF) (p := fun (a : Fld) b o => FldAt w a b o ∧ FldL a) Tryz.underlying56 Tryz.cFldU (by decide) h hw fun fuel cs y b o hy hwy _ hc => by
    obtain ⟨f, rfl, Lf, Mf⟩ := open_fldB hy hwy
    exact ⟨f, ⟨⟨hc 0 _ rfl, hc 1 _ rfl, hc 2 _ rfl, hc 3 _ rfl, hc 4 _ rfl⟩, Lf⟩, by omega⟩
  exact ⟨v, l, e, (sl_split hl).1, (sl_split hl).2, hb⟩
set_option maxRecDepth 100000 in
theorem open_obB {fuel : Nat} {cs : List Value} {x : DataW H × List MemPlace} (h : DataW.trod enc Tryz.prog w base spare held fuel 58 cs = some x) (hw : Wu x.1) :
    ∃ (o : Ob) (fv : Value), cs = [.string ⟨o.n.toArray⟩, fv] ∧ FldsAt w fv o.fs ∧ (o.n.length ≤ 1048576 ∧ ∀ f ∈ o.fs, FldL f) ∧ szO o + 1 ≤ Rows.uptoBulk x.1 := by
  obtain ⟨xs, n, _, rfl, hl, hxl, hf⟩ := DataW.trod_struct Tryz.underlying58 h
  rw [Tryz.cObU] at hl
  match xs, hxl, cs, hl with
  | [y0, y1], _, [v0, v1], _ =>
    have g0 := hf 0 _ rfl
    have g1 := hf 1 _ rfl
    simp [Tryz.cStrU, Tryz.cFsU] at g0 g1
    obtain ⟨a0, e0, L0, M0⟩ := open_strB g0 (hw.part (j := 0) rfl)
    obtain ⟨fv, fs, e1, hfs, Lfs, Mfs⟩ := open_fldsB g1 (hw.part (j := 1) rfl)
    simp at e0 e1
    have hx : Rows.uptoBulk (DataW.agg (H := H) [y0.1, y1.1]) = Rows.uptoBulk y0.1 + (Rows.uptoBulk y1.1 + 0) + 1 := rfl
    refine ⟨⟨a0, fs⟩, fv, by rw [e0, e1], hfs, ⟨L0, Lfs⟩, ?_⟩
    show a0.length + szL szF fs + 2 + 1 ≤ Rows.uptoBulk (DataW.agg (H := H) [y0.1, y1.1])
    omega
set_option maxRecDepth 100000 in
theorem open_enB {fuel : Nat} {cs : List Value} {x : DataW H × List MemPlace} (h : DataW.trod enc Tryz.prog w base spare held fuel 66 cs = some x) (hw : Wu x.1) :
    ∃ (o : En) (fv : Value), cs = [.string ⟨o.n.toArray⟩, fv] ∧ WdsAt w fv o.ws ∧ (o.n.length ≤ 1048576 ∧ ∀ x ∈ o.ws, x.length ≤ 1048576) ∧ szE o + 1 ≤ Rows.uptoBulk x.1 := by
  obtain ⟨xs, n, _, rfl, hl, hxl, hf⟩ := DataW.trod_struct Tryz.underlying66 h
  rw [Tryz.cEnU] at hl
  match xs, hxl, cs, hl with
  | [y0, y1], _, [v0, v1], _ =>
    have g0 := hf 0 _ rfl
    have g1 := hf 1 _ rfl
    simp [Tryz.cStrU, Tryz.cWsU] at g0 g1
    obtain ⟨a0, e0, L0, M0⟩ := open_strB g0 (hw.part (j := 0) rfl)
    obtain ⟨fv, fs, e1, hfs, Lfs, Mfs⟩ := open_wdsB g1 (hw.part (j := 1) rfl)
    simp at e0 e1
    have hx : Rows.uptoBulk (DataW.agg (H := H) [y0.1, y1.1]) = Rows.uptoBulk y0.1 + (Rows.uptoBulk y1.1 + 0) + 1 := rfl
    refine ⟨⟨a0, fs⟩, fv, by rw [e0, e1], hfs, ⟨L0, Lfs⟩, ?_⟩
    show a0.length + szL (fun w => w.length + 1) fs + 2 + 1 ≤ Rows.uptoBulk (DataW.agg (H := H) [y0.1, y1.1])
    omega
theorem open_obsB {fuel : Nat} {cs : List Value} {x : DataW H × List MemPlace} (h : DataW.trod enc Tryz.prog w base spare held fuel 22 cs = some x) (hw : Wu x.1) : ∃ (v : Value) (fs : List Ob), cs = [v] ∧ ObsAt w v fs ∧ (∀ o ∈ fs, o.n.length ≤ 1048576 ∧ ∀ f ∈ o.fs, FldL f) ∧ szL szO fs + 1 ≤ Rows.uptoBulk x.1 := by
  obtain ⟨v, l, e, hl, hb⟩ := open_slB (g := szO) (p := fun (a : Ob) b o => ObAt w a b o ∧ (a.n.length ≤ 1048576 ∧ ∀ f ∈ a.fs, FldL f)) Tryz.underlying22 Tryz.cObU (by decide) h hw fun fuel cs y b o hy hwy _ hc => by
    obtain ⟨f, fv, rfl, hfs, L1, M1⟩ := open_obB hy hwy
    exact ⟨f, ⟨⟨hc 0 _ rfl, fv, hc 1 _ rfl, hfs⟩, L1⟩, by omega⟩
  exact ⟨v, l, e, (sl_split hl).1, (sl_split hl).2, hb⟩
theorem open_ensB {fuel : Nat} {cs : List Value} {x : DataW H × List MemPlace} (h : DataW.trod enc Tryz.prog w base spare held fuel 23 cs = some x) (hw : Wu x.1) : ∃ (v : Value) (fs : List En), cs = [v] ∧ EnsAt w v fs ∧ (∀ o ∈ fs, o.n.length ≤ 1048576 ∧ ∀ x ∈ o.ws, x.length ≤ 1048576) ∧ szL szE fs + 1 ≤ Rows.uptoBulk x.1 := by
  obtain ⟨v, l, e, hl, hb⟩ := open_slB (g := szE) (p := fun (a : En) b o => EnAt w a b o ∧ (a.n.length ≤ 1048576 ∧ ∀ x ∈ a.ws, x.length ≤ 1048576)) Tryz.underlying23 Tryz.cEnU (by decide) h hw fun fuel cs y b o hy hwy _ hc => by
    obtain ⟨f, fv, rfl, hfs, L1, M1⟩ := open_enB hy hwy
    exact ⟨f, ⟨⟨hc 0 _ rfl, fv, hc 1 _ rfl, hfs⟩, L1⟩, by omega⟩
  exact ⟨v, l, e, (sl_split hl).1, (sl_split hl).2, hb⟩
set_option maxRecDepth 100000 in
theorem open_schB {fuel : Nat} {cs : List Value} {x : DataW H × List MemPlace} (h : DataW.trod enc Tryz.prog w base spare held fuel 25 cs = some x) (hw : Wu x.1) :
    ∃ (s : Sch) (ov ev : Value), cs = [ov, ev] ∧ SchAt w ov ev s ∧ SchL s ∧ szS s ≤ 1048576 := by
  obtain ⟨xs, n, _, rfl, hl, hxl, hf⟩ := DataW.trod_struct Tryz.underlying25 h
  rw [Tryz.cSchU] at hl
  match xs, hxl, cs, hl with
  | [y0, y1], _, [v0, v1], _ =>
    have g0 := hf 0 _ rfl
    have g1 := hf 1 _ rfl
    simp [Tryz.cOsU, Tryz.cEsU] at g0 g1
    obtain ⟨ov, os, e0, h0, L0, M0⟩ := open_obsB g0 (hw.part (j := 0) rfl)
    obtain ⟨ev, es, e1, h1, L1, M1⟩ := open_ensB g1 (hw.part (j := 1) rfl)
    simp at e0 e1
    have hx : Rows.uptoBulk (DataW.agg (H := H) [y0.1, y1.1]) = Rows.uptoBulk y0.1 + (Rows.uptoBulk y1.1 + 0) + 1 := rfl
    have hw2 : Rows.uptoBulk (DataW.agg (H := H) [y0.1, y1.1]) ≤ 1048576 := hw
    exact ⟨⟨os, es⟩, ov, ev, by rw [e0, e1], ⟨h0, h1⟩, ⟨fun o ho => by have := (L0 o ho).1; omega, fun o ho => (L0 o ho).2, fun o ho => by have := (L1 o ho).1; omega, fun o ho x hx => by have := (L1 o ho).2 x hx; omega⟩, by show szL szO os + szL szE es ≤ 1048576; omega⟩
end
end Go.Proofs.YtlabcadpkdgjnaaGreatDoor
