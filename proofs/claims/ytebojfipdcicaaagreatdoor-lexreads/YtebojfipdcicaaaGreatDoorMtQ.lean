/- How a text is quoted is read as that text: plain mathematics. -/
import Derived.Test.YtebojfipdcicaaaGreatDoorMtQ0
import Derived.Test.YtebojfipdcicaaaGreatDoorMtE
import Derived.Test.YtebojfipdcicaaaGreatDoorLxA4
namespace Go.Proofs.YtebojfipdcicaaaGreatDoor
open Go Go.RowKit
attribute [local irreducible] srcB unitS halfS

/-- These bytes are quoted so, and read back. -/
structure Qd (x q : Bs) : Prop where
  quo : ∀ r, quoL (x ++ r) = q ++ quoL r
  line : ∀ m, lineS (q ++ m) = (lineS m).map fun p => (x ++ p.1, p.2)
  src : ∀ m, srcB m = none → srcB (q ++ m) = none
  len : q.length ≤ 6 * x.length
theorem Qd.nil : Qd [] [] := ⟨fun _ => rfl, fun m => by cases h : lineS m <;> simp [h], fun _ h => h, by simp⟩
theorem Qd.app {x y q p : Bs} (h : Qd x q) (h' : Qd y p) : Qd (x ++ y) (q ++ p) := by
  refine ⟨fun r => ?_, fun m => ?_, fun m hm => ?_, ?_⟩
  · rw [List.append_assoc, h.quo, h'.quo, List.append_assoc]
  · rw [List.append_assoc, h.line, h'.line]
    cases lineS m with
    | none => rfl
    | some z => simp
  · rw [List.append_assoc]
    exact h.src _ (h'.src _ hm)
  · have := h.len
    have := h'.len
    simp only [List.length_append]
    omega
theorem half_none {c : UInt8} (r : Bs) (hc : c ≠ 237) : halfQ (c :: r) = none := by
  match r with
  | [] => rfl
  | [_] => rfl
  | d :: e :: r => exact if_neg fun h => hc h.1
theorem quo_one {c : UInt8} (r : Bs) (h : halfQ (c :: r) = none) : quoL (c :: r) = (if c = 34 ∨ c = 92 then [92, c] else if c.toNat < 32 ∨ c = 127 then escQ c.toNat else [c]) ++ quoL r := by
  rw [quoL_step]
  have e : pieceQ c r = (if c = 34 ∨ c = 92 then [92, c] else if c.toNat < 32 ∨ c = 127 then escQ c.toNat else [c], 1) := by
    unfold pieceQ
    rw [h]
  rw [e]
  rfl
theorem line_raw {c : UInt8} (h1 : c ≠ 34) (h2 : c ≠ 92) (h3 : endL.contains c = false) (m : Bs) : lineS (c :: m) = (lineS m).map fun p => ([c] ++ p.1, p.2) := by
  refine lineS_chr ?_ ?_ h3
  · simp [List.isPrefixOf]
    exact fun e => h1 e.symm
  · simp [List.isPrefixOf]
    exact fun e => h2 e.symm
theorem hexD_ok (n : Nat) (hn : n < 16) : hexV (hexD n) = some n ∧ 32 ≤ (hexD n).toNat ∧ (hexD n).toNat < 128 := by
  have h := hexV_low ⟨n, hn⟩
  exact ⟨h, hexV_bd h⟩
theorem esc_line (V : Nat) (hV : V < 65536) (m : Bs) : lineS (escQ V ++ m) = (lineS m).map fun p => (unitS V ++ p.1, p.2) := by
  obtain ⟨a1, _⟩ := hexD_ok (V / 4096) (by omega)
  obtain ⟨a2, _⟩ := hexD_ok (V / 256 % 16) (by omega)
  obtain ⟨a3, _⟩ := hexD_ok (V / 16 % 16) (by omega)
  obtain ⟨a4, _⟩ := hexD_ok (V % 16) (by omega)
  have hn : nmbS (hexD (V / 4096) :: hexD (V / 256 % 16) :: hexD (V / 16 % 16) :: hexD (V % 16) :: m) = some (unitS V, m) := by
    rw [nmbS_four]
    unfold hexQ
    rw [a1, a2, a3, a4]
    simp only [Option.bind_some, Option.map_some]
    rw [show V / 4096 * 4096 + V / 256 % 16 * 256 + V / 16 % 16 * 16 + V % 16 = V by omega]
  have he : escQ V ++ m = 92 :: 117 :: hexD (V / 4096) :: hexD (V / 256 % 16) :: hexD (V / 16 % 16) :: hexD (V % 16) :: m := rfl
  rw [he, lineS_esc (l := 92 :: 117 :: hexD (V / 4096) :: hexD (V / 256 % 16) :: hexD (V / 16 % 16) :: hexD (V % 16) :: m) rfl rfl]
  have e2 : escS (117 :: hexD (V / 4096) :: hexD (V / 256 % 16) :: hexD (V / 16 % 16) :: hexD (V % 16) :: m) = some (unitS V, m) := by
    unfold escS
    rw [if_pos (by rfl)]
    exact hn
  show (escS (117 :: hexD (V / 4096) :: hexD (V / 256 % 16) :: hexD (V / 16 % 16) :: hexD (V % 16) :: m)).bind _ = _
  rw [e2, Option.bind_some]
theorem esc_src (V : Nat) (hV : V < 65536) (m : Bs) (hm : srcB m = none) : srcB (escQ V ++ m) = none := by
  obtain ⟨_, a1⟩ := hexD_ok (V / 4096) (by omega)
  obtain ⟨_, a2⟩ := hexD_ok (V / 256 % 16) (by omega)
  obtain ⟨_, a3⟩ := hexD_ok (V / 16 % 16) (by omega)
  obtain ⟨_, a4⟩ := hexD_ok (V % 16) (by omega)
  exact src_one _ _ (by decide) (src_one _ _ (by decide) (src_one _ _ a1 (src_one _ _ a2 (src_one _ _ a3 (src_one _ _ a4 hm)))))
theorem unit_ascii (n : Nat) (hn : n < 128) : unitS n = [UInt8.ofNat n] := by
  rw [unitS_else n (by omega), encode_list n (charB_small _ (by omega) (by omega) (by omega))]
  unfold encL
  rw [if_pos hn]
  rfl
theorem Qd.half (V : Nat) (h : 55296 ≤ V ∧ V ≤ 57343) : Qd (unitS V) (escQ V) := by
  have hu : unitS V = [(224 + V / 4096).toUInt8, (128 + V / 64 % 64).toUInt8, (128 + V % 64).toUInt8] := by
    have e : unitS V = halfS V := by
      unfold unitS
      rw [if_pos h]
    rw [e]
    unfold halfS
    rfl
  refine ⟨fun r => ?_, esc_line V (by omega), esc_src V (by omega), by rw [hu]; simp [escQ]⟩
  rw [hu]
  have d1 : ((128 + V / 64 % 64).toUInt8).toNat = 128 + V / 64 % 64 := by simp [Nat.toUInt8]; omega
  have d2 : ((128 + V % 64).toUInt8).toNat = 128 + V % 64 := by simp [Nat.toUInt8]; omega
  have d0 : (224 + V / 4096).toUInt8 = 237 := by rw [show V / 4096 = 13 by omega]; rfl
  have hh : halfQ ((224 + V / 4096).toUInt8 :: (128 + V / 64 % 64).toUInt8 :: (128 + V % 64).toUInt8 :: r) = some V := by
    have hc : halfC (224 + V / 4096).toUInt8 (128 + V / 64 % 64).toUInt8 (128 + V % 64).toUInt8 := by
      refine ⟨d0, ?_, ?_, ?_, ?_⟩
      all_goals (first | rw [d1] | rw [d2]); omega
    rw [show halfQ ((224 + V / 4096).toUInt8 :: (128 + V / 64 % 64).toUInt8 :: (128 + V % 64).toUInt8 :: r) = some (halfV (128 + V / 64 % 64).toUInt8 (128 + V % 64).toUInt8) from if_pos hc]
    have hv : 53248 + (128 + V / 64 % 64 - 128) * 64 + (128 + V % 64 - 128) = V := by omega
    unfold halfV
    rw [d1, d2, hv]
  show quoL ((224 + V / 4096).toUInt8 :: (128 + V / 64 % 64).toUInt8 :: (128 + V % 64).toUInt8 :: r) = _
  rw [quoL_step]
  have e : pieceQ (224 + V / 4096).toUInt8 ((128 + V / 64 % 64).toUInt8 :: (128 + V % 64).toUInt8 :: r) = (escQ V, 3) := by
    unfold pieceQ
    rw [hh]
  rw [e]
  rfl
theorem Qd.ascii (n : Nat) (hn : n < 128) : ∃ q, Qd (unitS n) q := by
  have hu := unit_ascii n hn
  have hne : UInt8.ofNat n ≠ 237 := by
    intro e
    have := congrArg UInt8.toNat e
    simp at this
    omega
  have ht : (UInt8.ofNat n).toNat = n := by simp; omega
  have hq := fun r => quo_one r (half_none r hne)
  by_cases h1 : n = 34 ∨ n = 92
  · refine ⟨[92, UInt8.ofNat n], ?_, ?_, ?_, by rw [hu]; simp⟩
    · intro r
      rw [hu]
      show quoL (UInt8.ofNat n :: r) = _
      rw [hq, if_pos (by rcases h1 with rfl | rfl <;> simp)]
    · intro m
      rw [hu]
      rcases h1 with rfl | rfl
      · show lineS (92 :: 34 :: m) = _
        rw [lineS_esc (l := 92 :: 34 :: m) rfl rfl]
        rfl
      · show lineS (92 :: 92 :: m) = _
        rw [lineS_esc (l := 92 :: 92 :: m) rfl rfl]
        rfl
    · intro m hm
      exact src_one _ _ (by decide) (src_one _ _ (by rw [ht]; omega) hm)
  · by_cases h2 : n < 32 ∨ n = 127
    · refine ⟨escQ n, ?_, esc_line n (by omega), esc_src n (by omega), by rw [hu]; simp [escQ]⟩
      intro r
      rw [hu]
      show quoL (UInt8.ofNat n :: r) = _
      have a1 : ¬ (UInt8.ofNat n = 34 ∨ UInt8.ofNat n = 92) := by
        intro e
        rcases e with e | e
        all_goals
          have := congrArg UInt8.toNat e
          simp at this
          omega
      have a2 : (UInt8.ofNat n).toNat < 32 ∨ UInt8.ofNat n = 127 := by
        rcases h2 with h | rfl
        · exact Or.inl (by rw [ht]; exact h)
        · exact Or.inr rfl
      rw [hq, if_neg a1, if_pos a2, ht]
    · have a1 : UInt8.ofNat n ≠ 34 := by
        intro e
        have := congrArg UInt8.toNat e
        simp at this
        omega
      have a3 : UInt8.ofNat n ≠ 92 := by
        intro e
        have := congrArg UInt8.toNat e
        simp at this
        omega
      have a4 : UInt8.ofNat n ≠ 127 := by
        intro e
        have := congrArg UInt8.toNat e
        simp at this
        omega
      have a5 : endL.contains (UInt8.ofNat n) = false := by
        rw [Bool.eq_false_iff]
        intro e
        have : UInt8.ofNat n = 10 ∨ UInt8.ofNat n = 13 := by simpa [endL] using e
        rcases this with e | e
        all_goals
          have := congrArg UInt8.toNat e
          simp at this
          omega
      refine ⟨[UInt8.ofNat n], ?_, ?_, ?_, by rw [hu]; simp⟩
      · intro r
        rw [hu]
        show quoL (UInt8.ofNat n :: r) = _
        rw [hq, if_neg (by simp [a1, a3]), if_neg (by rw [ht]; simp [a4]; omega)]
      · intro m
        rw [hu]
        exact line_raw a1 a3 a5 m
      · intro m hm
        exact src_one _ _ (by rw [ht]; omega) hm
/-- A byte beyond 127 as it is. -/
theorem hi_ne {c : UInt8} (hc : 128 ≤ c.toNat) : c ≠ 34 ∧ c ≠ 92 ∧ c ≠ 127 ∧ endL.contains c = false := by
  have hx : ∀ d : UInt8, d.toNat < 128 → c ≠ d := fun d hd e => by rw [e] at hc; omega
  refine ⟨hx _ (by decide), hx _ (by decide), hx _ (by decide), ?_⟩
  rw [Bool.eq_false_iff]
  intro e
  have : c = 10 ∨ c = 13 := by simpa [endL] using e
  rcases this with e | e
  · exact hx 10 (by decide) e
  · exact hx 13 (by decide) e
theorem quo_hi {c : UInt8} (r : Bs) (hc : 128 ≤ c.toNat) (h : halfQ (c :: r) = none) : quoL (c :: r) = c :: quoL r := by
  obtain ⟨h1, h2, h3, _⟩ := hi_ne hc
  rw [quo_one r h, if_neg (by simp [h1, h2]), if_neg (by simp [h3]; omega)]
  rfl
theorem line_hi {c : UInt8} (m : Bs) (hc : 128 ≤ c.toNat) : lineS (c :: m) = (lineS m).map fun p => ([c] ++ p.1, p.2) := by
  obtain ⟨h1, h2, _, h4⟩ := hi_ne hc
  exact line_raw h1 h2 h4 m
theorem Qd.multi (n : Nat) (h0 : 128 ≤ n) (h1 : n < 65536) (h2 : ¬ (55296 ≤ n ∧ n ≤ 57343)) : Qd (unitS n) (unitS n) := by
  have hcb : charB (n : Int) = true := charB_small _ (by omega) (by omega) (by omega)
  have hu : unitS n = (Utf8.encode (n : Int)).data.toList := unitS_else n h2
  have hsrc : ∀ m, srcB m = none → srcB (unitS n ++ m) = none := fun m hm => by
    rw [hu]
    exact src_char n m hcb (by unfold sourceB; simp; omega) hm
  have hl : unitS n = (encL n).map UInt8.ofNat := by rw [hu, encode_list n hcb]
  unfold encL at hl
  rw [if_neg (by omega)] at hl
  by_cases h3 : n < 2048
  · rw [if_pos h3] at hl
    have b0 : (UInt8.ofNat (192 + n / 64)).toNat = 192 + n / 64 := by simp; omega
    have b1 : (UInt8.ofNat (128 + n % 64)).toNat = 128 + n % 64 := by simp; omega
    have hl' : unitS n = [UInt8.ofNat (192 + n / 64), UInt8.ofNat (128 + n % 64)] := hl
    generalize UInt8.ofNat (192 + n / 64) = x0 at *
    generalize UInt8.ofNat (128 + n % 64) = x1 at *
    have n0 : x0 ≠ 237 := by
      rintro rfl
      have : (237 : UInt8).toNat = 237 := rfl
      omega
    have n1 : x1 ≠ 237 := by
      rintro rfl
      have : (237 : UInt8).toNat = 237 := rfl
      omega
    refine ⟨fun r => ?_, fun m => ?_, hsrc, by omega⟩
    · rw [hl']
      show quoL (x0 :: x1 :: r) = x0 :: x1 :: quoL r
      rw [quo_hi _ (by omega) (half_none _ n0), quo_hi _ (by omega) (half_none _ n1)]
    · rw [hl']
      show lineS (x0 :: x1 :: m) = _
      rw [line_hi _ (by omega), line_hi _ (by omega)]
      cases lineS m <;> rfl
  · rw [if_neg h3, if_pos h1] at hl
    have b0 : (UInt8.ofNat (224 + n / 4096)).toNat = 224 + n / 4096 := by simp; omega
    have b1 : (UInt8.ofNat (128 + n / 64 % 64)).toNat = 128 + n / 64 % 64 := by simp; omega
    have b2 : (UInt8.ofNat (128 + n % 64)).toNat = 128 + n % 64 := by simp; omega
    have hl' : unitS n = [UInt8.ofNat (224 + n / 4096), UInt8.ofNat (128 + n / 64 % 64), UInt8.ofNat (128 + n % 64)] := hl
    generalize UInt8.ofNat (224 + n / 4096) = x0 at *
    generalize UInt8.ofNat (128 + n / 64 % 64) = x1 at *
    generalize UInt8.ofNat (128 + n % 64) = x2 at *
    have n1 : x1 ≠ 237 := by
      rintro rfl
      have : (237 : UInt8).toNat = 237 := rfl
      omega
    have n2 : x2 ≠ 237 := by
      rintro rfl
      have : (237 : UInt8).toNat = 237 := rfl
      omega
    have n0 : ∀ r, halfQ (x0 :: x1 :: x2 :: r) = none := fun r => if_neg fun hh => by
      obtain ⟨rfl, g1, g2, _⟩ := hh
      have : (237 : UInt8).toNat = 237 := rfl
      omega
    refine ⟨fun r => ?_, fun m => ?_, hsrc, by omega⟩
    · rw [hl']
      show quoL (x0 :: x1 :: x2 :: r) = x0 :: x1 :: x2 :: quoL r
      rw [quo_hi _ (by omega) (n0 r), quo_hi _ (by omega) (half_none _ n1), quo_hi _ (by omega) (half_none _ n2)]
    · rw [hl']
      show lineS (x0 :: x1 :: x2 :: m) = _
      rw [line_hi _ (by omega), line_hi _ (by omega), line_hi _ (by omega)]
      cases lineS m <;> rfl
theorem Qd.unit (n : Nat) (h : n < 65536) : ∃ q, Qd (unitS n) q := by
  by_cases h1 : n < 128
  · exact Qd.ascii n h1
  · by_cases h2 : 55296 ≤ n ∧ n ≤ 57343
    · exact ⟨_, Qd.half n h2⟩
    · exact ⟨_, Qd.multi n (by omega) h h2⟩
/-- A quoted text is one token that says it. -/
theorem lexS_quo {x q : Bs} (h : Qd x q) (hl : x.length ≤ 2703) : lexS (quoS x) = .inr [⟨4, x, 0, (quoS x).length⟩] := by
  have hq : quoL x = q := by
    have := h.quo []
    rw [List.append_nil] at this
    rw [this]
    show q ++ quoL [] = q
    rw [show quoL [] = [] from rfl, List.append_nil]
  have e : quoS x = 34 :: (q ++ [34]) := by
    rw [← hq]
    rfl
  have hlen := h.len
  have hline : lineS (q ++ [34]) = some (x, []) := by
    rw [h.line, lineS_stop (l := [34]) rfl]
    simp
  have hsrc : srcB (34 :: (q ++ [34])) = none := src_one _ _ (by decide) (h.src _ (src_plain _ (by decide)))
  have hnb : List.isPrefixOf [34, 34, 34] (34 :: (q ++ [34])) = false := by
    rw [Bool.eq_false_iff]
    intro hb
    obtain ⟨m, hm⟩ := List.isPrefixOf_iff_prefix.1 hb
    have hm2 : 34 :: 34 :: m = q ++ [34] := by simpa using hm
    have hx : lineS (34 :: 34 :: m) = some ([], 34 :: m) := lineS_stop (l := 34 :: 34 :: m) rfl
    rw [hm2, hline] at hx
    cases hx
  have htext : textS (34 :: (q ++ [34])) = some (x, []) := by
    unfold textS textR
    rw [hnb, if_neg (by decide)]
    have hf : lineF ((34 :: (q ++ [34])).length + 1) ((34 :: (q ++ [34])).drop 1) = some (x, []) := by
      have h2 : lineF ((q ++ [34]).length + 1) (q ++ [34]) = some (x, []) := hline
      rw [← h2]
      exact lineF_fuel _ _ _ (by simp) (by simp)
    rw [hf, Option.bind_some]
    rw [ahead_nil, hsrc]
    rfl
  have htok : tokS (34 :: (q ++ [34])) = .ok 4 x [] := by
    have e1 : tokS (34 :: (q ++ [34])) = (match textS (34 :: (q ++ [34])) with
      | none => .bad 52
      | some p => .ok 4 p.1 p.2) := rfl
    rw [e1, htext]
  rw [e]
  exact lexS_one htok (by simp only [List.length_cons, List.length_append, List.length_nil]; omega)
end Go.Proofs.YtebojfipdcicaaaGreatDoor
