/- The document's own hex and escape. -/
import Derived.Test.YthficamlgngaaaaGreatDoorMtD
import Derived.Test.YthficamlgngaaaaGreatDoorVrC1
import Derived.Test.YthficamlgngaaaaGreatDoorLxV3
import Derived.Test.YthficamlgngaaaaGreatDoorXrN
namespace Go.Proofs.YthficamlgngaaaaGreatDoor
open Go Go.RowKit

/-! ### What the laws say of a document in pieces -/
theorem toksP_app (N : Nat) : ∀ (ps qs : List Pc) (tl : Bs), toksP N (ps ++ qs) tl = toksP N ps (catP qs tl) ++ toksP N qs tl
  | [], _, _ => rfl
  | a :: az, qs, tl => by
    show ({ k := a.k, t := a.t, b := N - (a.p ++ catP (az ++ qs) tl).length, e := N - (catP (az ++ qs) tl).length } : Tok) :: toksP N (az ++ qs) tl = { k := a.k, t := a.t, b := N - (a.p ++ catP az (catP qs tl)).length, e := N - (catP az (catP qs tl)).length } :: (toksP N az (catP qs tl) ++ toksP N qs tl)
    rw [toksP_app N az qs tl, catP_app]
/-- How many bytes the first pieces have. -/
def preLx (ps : List Pc) : Nat := (catP ps []).length
theorem preL_snoc (ps : List Pc) (a : Pc) : preLx (ps ++ [a]) = preLx ps + a.g.length + a.p.length := by
  unfold preLx
  rw [catP_app, catP_head ps (catP [a] [])]
  simp [catP]
  omega
theorem right_len {s : Bs} {ps : List Pc} {tl : Bs} (h : Right s ps tl) : s.length = preLx ps + tl.length := by
  unfold preLx
  conv => lhs; rw [h.cat, catP_head, List.length_append]
/-- The token of one piece: where it lies. -/
theorem piece_at {s : Bs} {az bs : List Pc} {a : Pc} {tl : Bs} (h : Right s (az ++ a :: bs) tl) :
    (toksP s.length (az ++ a :: bs) tl)[az.length]? = some ⟨a.k, a.t, preLx az + a.g.length, preLx az + a.g.length + a.p.length⟩ ∧ s.take (preLx az + a.g.length) = catP az a.g ∧ s.drop (preLx az + a.g.length) = a.p ++ catP bs tl ∧ preLx az + a.g.length + a.p.length ≤ s.length ∧ a.p ≠ [] ∧ tokS a.p = .ok a.k a.t [] := by
  have hs : s = (catP az [] ++ a.g) ++ (a.p ++ catP bs tl) := by
    conv => lhs; rw [h.cat, catP_app, catP_head]
    show _ ++ (a.g ++ (a.p ++ catP bs tl)) = _
    rw [List.append_assoc]
  have hlen : s.length = preLx az + a.g.length + (a.p.length + (catP bs tl).length) := by
    rw [hs]
    simp only [List.length_append, preLx]
  have hok := (AllOk.split az (a :: bs) tl h.ok).2
  have hgl : preLx az + a.g.length = (catP az [] ++ a.g).length := by
    rw [List.length_append]; rfl
  refine ⟨?_, ?_, ?_, by omega, tok_ne hok.2.1, hok.2.1⟩
  · rw [toksP_app, List.getElem?_append_right (by rw [toksP_len]; exact Nat.le_refl _), toksP_len, Nat.sub_self]
    show some _ = some _
    rw [List.length_append]
    congr 2
    · omega
    · omega
  · rw [hgl, hs, List.take_left' rfl, catP_head az a.g]
  · rw [hgl, hs, List.drop_left' rfl]
theorem lexS_one {p t : Bs} {k : Int} (h : tokS p = .ok k t []) (hp : p.length ≤ 16384) : lexS p = .inr [⟨k, t, 0, p.length⟩] := by
  have hr : Right p [⟨[], p, k, t⟩] [] := ⟨by simp [catP], ⟨Gap.nil, h, rfl, trivial⟩, by simp, skip_nil, hp⟩
  rw [lexS_right hr]
  simp [toksP, catP]
/-- All tokens, with a blank behind each. -/
def blk : List Pc → Bs
  | [] => []
  | a :: az => a.p ++ 32 :: blk az
theorem blk_app : ∀ ps qs : List Pc, blk (ps ++ qs) = blk ps ++ blk qs
  | [], _ => rfl
  | a :: az, qs => by
    show a.p ++ 32 :: blk (az ++ qs) = (a.p ++ 32 :: blk az) ++ blk qs
    rw [blk_app az qs]
    simp
theorem fits_blank (p m : Bs) (c : UInt8) (h : brkL.contains c = false) : Fits p (c :: m) := by
  unfold Fits
  show (fitX p).contains c = false
  rw [Bool.eq_false_iff]
  intro e
  rw [fit_brk p c e] at h
  cases h
theorem lexG_blk {N : Nat} {tl : Bs} : ∀ (ps : List Pc) (c : Nat), AllOk ps tl → c + ps.length ≤ 2048 → ∃ ts, lexG N c (blk ps) = .inr ts ∧ saysT ts = saysP ps
  | [], c, _, _ => ⟨[], lexG_end skip_nil, rfl⟩
  | a :: az, c, ⟨_, h2, _, h4⟩, hc => by
    simp only [List.length_cons] at hc
    obtain ⟨ts, e1, e2⟩ := lexG_blk (N := N) az (c + 1) h4 (by omega)
    have e := lexG_piece (N := N) (c := c) (a := ⟨[], a.p, a.k, a.t⟩) (m := 32 :: blk az) Gap.nil h2 (fits_blank _ _ _ rfl) (by omega)
    rw [lexG_skip (skip_one (c := 32) rfl (blk az)), e1] at e
    refine ⟨_, e, ?_⟩
    simp [saysT, saysP] at e2 ⊢
    exact e2
theorem lexS_blk {s : Bs} {ps : List Pc} {tl : Bs} (h : Right s ps tl) (hb : (blk ps).length ≤ 16384) : ∃ ts, lexS (blk ps) = .inr ts ∧ saysT ts = saysP ps := by
  unfold lexS
  rw [if_neg (by omega)]
  exact lexG_blk ps 0 h.ok (by have := h.few; omega)
/-- Something ignored ahead of a token. -/
theorem ign_mid {s : Bs} {az bs : List Pc} {a : Pc} {tl G : Bs} {c : UInt8} (h : Right s (az ++ a :: bs) tl) (hG : Gap (c :: G)) (hc : brkL.contains c = false) (hl : s.length + (c :: G).length ≤ 16384) :
    ∃ ts, lexS (s.take (preLx az + a.g.length) ++ (c :: G) ++ s.drop (preLx az + a.g.length)) = .inr ts ∧ saysT ts = saysP (az ++ a :: bs) := by
  obtain ⟨_, h1, h2, _⟩ := piece_at h
  obtain ⟨o1, o2, o3, o4, o5⟩ := AllOk.split az (a :: bs) tl h.ok
  have ecat : s.take (preLx az + a.g.length) ++ (c :: G) ++ s.drop (preLx az + a.g.length) = catP (az ++ ⟨a.g ++ (c :: G), a.p, a.k, a.t⟩ :: bs) tl := by
    rw [h1, h2, catP_app, catP_head az a.g]
    rw [catP_head az (catP _ tl)]
    simp [catP]
  have hr : Right (s.take (preLx az + a.g.length) ++ (c :: G) ++ s.drop (preLx az + a.g.length)) (az ++ ⟨a.g ++ (c :: G), a.p, a.k, a.t⟩ :: bs) tl := by
    refine ⟨ecat, AllOk.join az _ tl (AllOk.change ?_ az o1) ⟨o2.app hG, o3, o4, o5⟩, ?_, h.fin, ?_⟩
    · show HeadC (a.g ++ (a.p ++ catP bs tl)) (a.g ++ (c :: G) ++ (a.p ++ catP bs tl))
      rw [List.append_assoc]
      exact HeadC.app0 (HeadC.not _ _ hc)
    · have := h.few
      simpa using this
    · simp only [List.length_append, List.length_take, List.length_drop]
      omega
  refine ⟨_, lexS_right hr, ?_⟩
  rw [toksP_says]
  simp [saysP]
/-- Something ignored behind the last token. -/
theorem ign_end {s : Bs} {ps : List Pc} {tl G : Bs} {c : UInt8} (h : Right s ps tl) (hG : Gap (c :: G)) (hc : brkL.contains c = false) (hl : s.length + (c :: G).length ≤ 16384) :
    ∃ ts, lexS (s.take (preLx ps) ++ (c :: G) ++ s.drop (preLx ps)) = .inr ts ∧ saysT ts = saysP ps := by
  have hs : s = catP ps [] ++ tl := by
    conv => lhs; rw [h.cat, catP_head]
  have e1 : s.take (preLx ps) = catP ps [] := by rw [hs]; exact List.take_left' rfl
  have e2 : s.drop (preLx ps) = tl := by rw [hs]; exact List.drop_left' rfl
  have ecat : s.take (preLx ps) ++ (c :: G) ++ s.drop (preLx ps) = catP ps ((c :: G) ++ tl) := by
    rw [e1, e2, List.append_assoc, ← catP_head]
  have hr : Right (s.take (preLx ps) ++ (c :: G) ++ s.drop (preLx ps)) ps ((c :: G) ++ tl) := by
    refine ⟨ecat, AllOk.change (HeadC.not _ _ hc) ps h.ok, h.few, by rw [hG]; exact h.fin, ?_⟩
    simp only [List.length_append, List.length_take, List.length_drop]
    omega
  exact ⟨_, lexS_right hr, toksP_says _ _ _⟩
/-- One document behind another one. -/
theorem lexS_two {s t : Bs} {ps : List Pc} {tl : Bs} (h : Right s ps tl) (hl : s.length + t.length + 1 ≤ 16384) : lexS (s ++ 10 :: t) = withL (toksP (s ++ 10 :: t).length ps (tl ++ 10 :: t)) (lexG (s ++ 10 :: t).length ps.length t) := by
  unfold lexS
  rw [if_neg (by simp only [List.length_append, List.length_cons]; omega)]
  show lexG (s ++ 10 :: t).length 0 (s ++ 10 :: t) = _
  generalize hN : (s ++ 10 :: t).length = N
  have e : s ++ 10 :: t = catP ps (tl ++ 10 :: t) := by
    conv => lhs; rw [h.cat, catP_end]
  have hc : HeadC tl (tl ++ 10 :: t) := by
    cases tl with
    | nil => exact HeadC.not _ _ rfl
    | cons c q => exact fun d k e _ => by cases e; exact ⟨_, rfl⟩
  rw [e, lexG_cat ps (tl ++ 10 :: t) 0 (AllOk.change hc ps h.ok) (by have := h.few; omega), Nat.zero_add]
  have hsk : skipS (tl ++ 10 :: t) = skipS t := by
    have := skip_parts tl
    rw [h.fin] at this
    exact this t
  rw [lexG_skip hsk]
theorem two_more {s t : Bs} {ps : List Pc} {tl : Bs} {ts : List Tok} (h : Right s ps tl) (ha : lexS (s ++ 10 :: t) = .inr ts) : ps.length ≤ ts.length := by
  by_cases hl : s.length + t.length + 1 ≤ 16384
  · rw [lexS_two h hl] at ha
    cases hx : lexG (s ++ 10 :: t).length ps.length t with
    | inl p => rw [hx] at ha; cases ha
    | inr us =>
      rw [hx] at ha
      simp only [withL, Sum.inr.injEq] at ha
      rw [← ha, List.length_append, toksP_len]
      omega
  · unfold lexS at ha
    rw [if_pos (by simp only [List.length_append, List.length_cons]; omega)] at ha
    cases ha
theorem two_right {s t : Bs} {ps qs : List Pc} {tl tm : Bs} (h : Right s ps tl) (h' : Right t qs tm) (hl : s.length + t.length + 1 ≤ 16384) (hm : ps.length + qs.length ≤ 2048) : ∃ ts, lexS (s ++ 10 :: t) = .inr ts ∧ saysT ts = saysP ps ++ saysP qs := by
  rw [lexS_two h hl]
  generalize (s ++ 10 :: t).length = N
  have e := lexG_cat (N := N) qs tm ps.length h'.ok hm
  rw [lexG_end h'.fin, ← h'.cat] at e
  rw [e]
  refine ⟨_, rfl, ?_⟩
  unfold saysT
  rw [List.append_nil, List.map_append]
  have e1 := toksP_says N ps (tl ++ 10 :: t)
  have e2 := toksP_says N qs tm
  unfold saysT at e1 e2
  rw [e1, e2]
end Go.Proofs.YthficamlgngaaaaGreatDoor
namespace Go.Proofs.YthficamlgngaaaaGreatDoor
open Go Go.RowKit
theorem line_raw {c : UInt8} (h1 : c ≠ 34) (h2 : c ≠ 92) (h3 : endL.contains c = false) (m : Bs) : lineS (c :: m) = (lineS m).map fun p => ([c] ++ p.1, p.2) := by
  refine lineS_chr ?_ ?_ h3
  · simp [List.isPrefixOf]
    exact fun e => h1 e.symm
  · simp [List.isPrefixOf]
    exact fun e => h2 e.symm
theorem hexD_ok (n : Nat) (hn : n < 16) : hexV (hexD n) = some n ∧ 32 ≤ (hexD n).toNat ∧ (hexD n).toNat < 128 := by
  have h := hexV_low ⟨n, hn⟩
  exact ⟨h, hexV_bd h⟩
theorem unit_ascii (n : Nat) (hn : n < 128) : unitS n = [UInt8.ofNat n] := by
  rw [unitS_else n (by omega), encode_list n (charB_small _ (by omega) (by omega) (by omega))]
  unfold encL
  rw [if_pos hn]
  rfl
theorem hi_ne {c : UInt8} (hc : 128 ≤ c.toNat) : c ≠ 34 ∧ c ≠ 92 ∧ c ≠ 127 ∧ endL.contains c = false := by
  have hx : ∀ d : UInt8, d.toNat < 128 → c ≠ d := fun d hd e => by rw [e] at hc; omega
  refine ⟨hx _ (by decide), hx _ (by decide), hx _ (by decide), ?_⟩
  rw [Bool.eq_false_iff]
  intro e
  have : c = 10 ∨ c = 13 := by simpa [endL] using e
  rcases this with e | e
  · exact hx 10 (by decide) e
  · exact hx 13 (by decide) e
theorem line_hi {c : UInt8} (m : Bs) (hc : 128 ≤ c.toNat) : lineS (c :: m) = (lineS m).map fun p => ([c] ++ p.1, p.2) := by
  obtain ⟨h1, h2, _, h4⟩ := hi_ne hc
  exact line_raw h1 h2 h4 m
end Go.Proofs.YthficamlgngaaaaGreatDoor
namespace Go.Proofs.YthficamlgngaaaaGreatDoor
open Go Go.RowKit

def hexI (x : UInt8) : Int := match hexV x with
  | some d => (d : Int)
  | none => -1
set_option maxHeartbeats 1000000 in
theorem xhex_any (x : UInt8) (w : World) : Calls Tryz.prog 123 #[.int .u8 (x.toNat : Int)] w fun e w' => e = .returned (.int .i64 (hexI x)) ∧ w = w' := by
  have Dg := fun w => xdigit_any x w
  rw [dig_is] at Dg
  have hlt := x.toNat_lt
  have hI : hexI x = if 48 ≤ x.toNat ∧ x.toNat ≤ 57 then (x.toNat : Int) - 48 else if 97 ≤ x.toNat ∧ x.toNat ≤ 102 then (x.toNat : Int) - 87 else if 65 ≤ x.toNat ∧ x.toNat ≤ 70 then (x.toNat : Int) - 55 else -1 := by
    unfold hexI hexV
    by_cases h1 : 48 ≤ x.toNat ∧ x.toNat ≤ 57
    · rw [if_pos h1, if_pos h1]; show ((x.toNat - 48 : Nat) : Int) = _; omega
    · rw [if_neg h1, if_neg h1]
      by_cases h2 : 97 ≤ x.toNat ∧ x.toNat ≤ 102
      · rw [if_pos h2, if_pos h2]; show ((x.toNat - 87 : Nat) : Int) = _; omega
      · rw [if_neg h2, if_neg h2]
        by_cases h3 : 65 ≤ x.toNat ∧ x.toNat ≤ 70
        · rw [if_pos h3, if_pos h3]; show ((x.toNat - 55 : Nat) : Int) = _; omega
        · rw [if_neg h3, if_neg h3]
  rw [hI]
  clear hI
  by_cases h1 : 48 ≤ x.toNat ∧ x.toNat ≤ 57
  · rw [if_pos h1]
    rw [decide_eq_true h1] at Dg
    have g1 : (48 : Int) ≤ (x.toNat : Int) := by omega
    have g2 : (x.toNat : Int) ≤ 57 := by omega
    clear h1 hlt
    generalize (x.toNat : Int) = c at *
    go_enter Tryz.func123, Tryz.ntmps123
    go_wp2_with (go_at_call 67; (with_reducible refine (Dg _).mono ?_); rintro e w1 ⟨rfl, hw⟩; subst hw)
    go_ret
    exact ⟨by first | rfl | (congr 1), rfl⟩
  · rw [if_neg h1]
    rw [decide_eq_false h1] at Dg
    by_cases h2 : 97 ≤ x.toNat ∧ x.toNat ≤ 102
    · rw [if_pos h2]
      have g1 : (97 : Int) ≤ (x.toNat : Int) := by omega
      have g2 : (x.toNat : Int) ≤ 102 := by omega
      clear h1 h2 hlt
      generalize (x.toNat : Int) = c at *
      go_enter Tryz.func123, Tryz.ntmps123
      go_wp2_with (go_at_call 67; (with_reducible refine (Dg _).mono ?_); rintro e w1 ⟨rfl, hw⟩; subst hw)
      go_ret
      refine ⟨congrArg Ending.returned (congrArg (Value.int .i64) ?_), rfl⟩
      omega
    · rw [if_neg h2]
      by_cases h3 : 65 ≤ x.toNat ∧ x.toNat ≤ 70
      · rw [if_pos h3]
        have g1 : (65 : Int) ≤ (x.toNat : Int) := by omega
        have g2 : (x.toNat : Int) ≤ 70 := by omega
        have g3 : ¬ (97 : Int) ≤ (x.toNat : Int) := by omega
        clear h1 h2 h3 hlt
        generalize (x.toNat : Int) = c at *
        go_enter Tryz.func123, Tryz.ntmps123
        go_wp2_with (go_at_call 67; (with_reducible refine (Dg _).mono ?_); rintro e w1 ⟨rfl, hw⟩; subst hw)
        go_ret
        refine ⟨congrArg Ending.returned (congrArg (Value.int .i64) ?_), rfl⟩
        omega
      · rw [if_neg h3]
        have g0 : (0 : Int) ≤ (x.toNat : Int) := by omega
        have g : ((x.toNat : Int) < 65 ∨ (70 < (x.toNat : Int) ∧ (x.toNat : Int) < 97)) ∨ 102 < (x.toNat : Int) := by omega
        clear h1 h2 h3 hlt
        generalize (x.toNat : Int) = c at *
        rcases g with (g | ⟨g, g'⟩) | g
        · have k1 : ¬ 97 ≤ c := by omega
          have k2 : ¬ 65 ≤ c := by omega
          go_enter Tryz.func123, Tryz.ntmps123
          go_wp2_with (go_at_call 67; (with_reducible refine (Dg _).mono ?_); rintro e w1 ⟨rfl, hw⟩; subst hw)
          go_ret
          exact ⟨rfl, rfl⟩
        · have k1 : ¬ 97 ≤ c := by omega
          have k2 : 65 ≤ c := by omega
          have k3 : ¬ c ≤ 70 := by omega
          go_enter Tryz.func123, Tryz.ntmps123
          go_wp2_with (go_at_call 67; (with_reducible refine (Dg _).mono ?_); rintro e w1 ⟨rfl, hw⟩; subst hw)
          go_ret
          exact ⟨rfl, rfl⟩
        · have k1 : 97 ≤ c := by omega
          have k2 : ¬ c ≤ 102 := by omega
          have k3 : 65 ≤ c := by omega
          have k4 : ¬ c ≤ 70 := by omega
          go_enter Tryz.func123, Tryz.ntmps123
          go_wp2_with (go_at_call 67; (with_reducible refine (Dg _).mono ?_); rintro e w1 ⟨rfl, hw⟩; subst hw)
          go_ret
          exact ⟨rfl, rfl⟩

/-! ### escape -/
/-- The number of the first digits behind a place. -/
def hxs (s : Bs) (q : Nat) : Nat → Option Nat
  | 0 => some 0
  | k + 1 => (hxs s q k).bind fun n => (hexV (s.getD (q + (k + 1)) 0)).map fun d => 16 * n + d
theorem hxs_lt (s : Bs) (q : Nat) : ∀ (k n : Nat), hxs s q k = some n → n < 16 ^ k
  | 0, n, h => by cases h; decide
  | k + 1, n, h => by
    unfold hxs at h
    cases hk : hxs s q k with
    | none => rw [hk] at h; cases h
    | some m =>
      rw [hk, Option.bind_some] at h
      cases hd : hexV (s.getD (q + (k + 1)) 0) with
      | none => rw [hd] at h; cases h
      | some d =>
        rw [hd] at h
        simp at h
        have h1 := hxs_lt s q k m hk
        have h2 := hexV_lt hd
        rw [Nat.pow_succ]
        omega
theorem hexV_zero : hexV 0 = none := rfl
theorem nmb_hxs (s : Bs) (q : Nat) : nmbS (s.drop (q + 1)) = (hxs s q 4).map fun n => (unitS n, s.drop (q + 5)) := by
  have hg : ∀ k, s.getD (q + (k + 1)) 0 = (s.drop (q + 1)).getD k 0 := fun k => by rw [drop_get]; congr 1; omega
  have hr : s.drop (q + 5) = (s.drop (q + 1)).drop 4 := by rw [List.drop_drop]
  have e4 : hxs s q 4 = (((((some 0 : Option Nat).bind fun n => (hexV ((s.drop (q + 1)).getD 0 0)).map fun d => 16 * n + d).bind fun n => (hexV ((s.drop (q + 1)).getD 1 0)).map fun d => 16 * n + d).bind fun n => (hexV ((s.drop (q + 1)).getD 2 0)).map fun d => 16 * n + d).bind fun n => (hexV ((s.drop (q + 1)).getD 3 0)).map fun d => 16 * n + d) := by
    simp only [hxs]
    rw [hg 0, hg 1, hg 2, hg 3]
  rw [e4, hr]
  generalize s.drop (q + 1) = l
  match l with
  | a :: b :: c :: d :: r =>
    rw [nmbS_four]
    show _ = Option.map _ (((((some 0 : Option Nat).bind fun n => (hexV a).map fun d => 16 * n + d).bind fun n => (hexV b).map fun d => 16 * n + d).bind fun n => (hexV c).map fun d => 16 * n + d).bind fun n => (hexV d).map fun d => 16 * n + d)
    unfold hexQ
    cases hexV a with
    | none => rfl
    | some x =>
      cases hexV b with
      | none => rfl
      | some y =>
        cases hexV c with
        | none => rfl
        | some z =>
          cases hexV d with
          | none => rfl
          | some t =>
            simp only [Option.bind_some, Option.map_some]
            show some (unitS _, r) = some (unitS _, r)
            congr 3
            omega
  | [] => rfl
  | [a] =>
    show none = Option.map _ (((((some 0 : Option Nat).bind fun n => (hexV a).map fun d => 16 * n + d).bind fun n => (hexV 0).map fun d => 16 * n + d).bind fun n => (hexV 0).map fun d => 16 * n + d).bind fun n => (hexV 0).map fun d => 16 * n + d)
    rw [hexV_zero]
    cases hexV a <;> rfl
  | [a, b] =>
    show none = Option.map _ (((((some 0 : Option Nat).bind fun n => (hexV a).map fun d => 16 * n + d).bind fun n => (hexV b).map fun d => 16 * n + d).bind fun n => (hexV 0).map fun d => 16 * n + d).bind fun n => (hexV 0).map fun d => 16 * n + d)
    rw [hexV_zero]
    cases hexV a with
    | none => rfl
    | some x => cases hexV b <;> rfl
  | [a, b, c] =>
    show none = Option.map _ (((((some 0 : Option Nat).bind fun n => (hexV a).map fun d => 16 * n + d).bind fun n => (hexV b).map fun d => 16 * n + d).bind fun n => (hexV c).map fun d => 16 * n + d).bind fun n => (hexV 0).map fun d => 16 * n + d)
    rw [hexV_zero]
    cases hexV a with
    | none => rfl
    | some x =>
      cases hexV b with
      | none => rfl
      | some y => cases hexV c <;> rfl
/-- What an escape comes to, by the document. -/
def EscX (s : Bs) (w : World) (r : Option (Bs × Bs)) (e : Ending) (w' : World) : Prop := (match r with
  | some p => e = .returned (.tuple #[.string ⟨p.1.toArray⟩, .int .i64 ((s.length - p.2.length : Nat) : Int), .bool true])
  | none => ∃ a b, e = .returned (.tuple #[.string a, .int .i64 b, .bool false])) ∧ Below w.heap.size w w'
end Go.Proofs.YthficamlgngaaaaGreatDoor
