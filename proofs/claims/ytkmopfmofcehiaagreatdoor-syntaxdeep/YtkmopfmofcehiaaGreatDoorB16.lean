/- Types, values, sets within one another: plain mathematics. -/
import Derived.Test.YtkmopfmofcehiaaGreatDoorB15
import Derived.Test.YtkmopfmofcehiaaGreatDoorB14
namespace Go.Proofs.YtkmopfmofcehiaaGreatDoor
open Go
/-! ### Within one another -/
theorem saysK_split {l : List Tok} : ∀ {xs ys : List (Int × Bs)}, saysK l = xs ++ ys → ∃ l1 l2, l = l1 ++ l2 ∧ saysK l1 = xs ∧ saysK l2 = ys := by
  intro xs ys h
  refine ⟨l.take xs.length, l.drop xs.length, (List.take_append_drop _ _).symm, ?_, ?_⟩
  · unfold saysK at h ⊢
    rw [List.map_take, h, List.take_left' rfl]
  · unfold saysK at h ⊢
    rw [List.map_drop, h, List.drop_left' rfl]
theorem saysK_one {l : List Tok} {k : Int} {t : Bs} {r : List (Int × Bs)} (h : saysK l = (k, t) :: r) : ∃ b e l', l = ⟨k, t, b, e⟩ :: l' ∧ saysK l' = r := by
  cases l with
  | nil => cases h
  | cons x l =>
    obtain ⟨k', t', b, e⟩ := x
    simp only [saysK, List.map_cons, List.cons.injEq, Prod.mk.injEq] at h
    obtain ⟨⟨rfl, rfl⟩, h⟩ := h
    exact ⟨b, e, l, rfl, h⟩
abbrev pK (c : UInt8) : Int × Bs := (0, [c])
theorem isP_hd (s t : Bs) (k : Int) (b e : Nat) (l : List Tok) : isP s (⟨k, t, b, e⟩ :: l) = (k == 0 && t == s) := rfl
theorem isK_hd (j k : Int) (t : Bs) (b e : Nat) (l : List Tok) : isK j (⟨k, t, b, e⟩ :: l) = (k == j) := rfl
theorem isW_hd (s t : Bs) (k : Int) (b e : Nat) (l : List Tok) : isW s (⟨k, t, b, e⟩ :: l) = (k == 1 && t == s) := rfl
/-- The first token's kind and text. -/
def HdK (m : List Tok) (x : Int × Bs) : Prop := ∃ b e r, m = ⟨x.1, x.2, b, e⟩ :: r
theorem says_nil {l : List Tok} (h : saysK l = []) : l = [] := by
  cases l with
  | nil => rfl
  | cons x l => cases h
theorem hd_no {m : List Tok} {c : UInt8} {s : Bs} (hm : HdK m (pK c)) (hs : s ≠ [c]) : isP s m = false := by
  obtain ⟨b, e, r, rfl⟩ := hm
  rw [isP_hd]
  simp only [Bool.and_eq_false_iff, beq_eq_false_iff_ne]
  exact .inr fun h => hs h.symm
theorem noB {x : Bs × Bs} {m : List Tok} {c : UInt8} (hm : HdK m (pK c)) (hc : c ≠ 33) : refB x m = .ok (x, m) := by
  unfold refB
  rw [hd_no hm (fun h => hc (by injection h with h; exact h.symm))]
  rfl
theorem ref_ok : ∀ (c n : Nat) (os cs m : List Tok) (b e : Nat) (d : UInt8), c ≤ n → saysK os = List.replicate c (pK 91) → saysK cs = List.replicate c (pK 93) → HdK m (pK d) → d ≠ 33 →
    ∃ x, refF n (os ++ ⟨1, [73, 110, 116], b, e⟩ :: (cs ++ m)) = .ok (x, m) := by
  intro c
  induction c with
  | zero =>
    intro n os cs m b e d _ ho hc hm hd
    obtain rfl := says_nil ho
    obtain rfl := says_nil hc
    have h1 : ∀ inner, refG inner (⟨1, [73, 110, 116], b, e⟩ :: m) = refB ([73, 110, 116], []) m := fun inner => rfl
    refine ⟨([73, 110, 116], []), ?_⟩
    show refF n (⟨1, [73, 110, 116], b, e⟩ :: m) = _
    cases n with
    | zero => exact (h1 none).trans (noB hm hd)
    | succ n => exact (h1 _).trans (noB hm hd)
  | succ c ih =>
    intro n os cs m b e d hn ho hc hm hd
    obtain ⟨n, rfl⟩ : ∃ k, n = k + 1 := ⟨n - 1, by omega⟩
    rw [List.replicate_succ] at ho
    obtain ⟨b1, e1, os, rfl, ho2⟩ := saysK_one ho
    replace ho := ho2
    clear ho2
    rw [List.replicate_succ'] at hc
    obtain ⟨cs, c1, rfl, hc2, hc1⟩ := saysK_split hc
    replace hc := hc2
    obtain ⟨b2, e2, c2, rfl, h2⟩ := saysK_one hc1
    obtain rfl := says_nil h2
    obtain ⟨x, hx⟩ := ih n os cs (⟨0, [93], b2, e2⟩ :: m) b e 93 (by omega) ho hc ⟨b2, e2, m, rfl⟩ (by decide)
    refine ⟨(x.1, x.2 ++ [91]), ?_⟩
    have e1 : os ++ ⟨1, [73, 110, 116], b, e⟩ :: (cs ++ [⟨0, [93], b2, e2⟩] ++ m) = os ++ ⟨1, [73, 110, 116], b, e⟩ :: (cs ++ ⟨0, [93], b2, e2⟩ :: m) := by simp
    show refF (n + 1) (⟨0, [91], b1, _⟩ :: (os ++ ⟨1, [73, 110, 116], b, e⟩ :: (cs ++ [⟨0, [93], b2, e2⟩] ++ m))) = _
    rw [e1]
    show ((refF n (os ++ ⟨1, [73, 110, 116], b, e⟩ :: (cs ++ ⟨0, [93], b2, e2⟩ :: m))).go fun x l1 => (mustS [93] l1).go fun _ l2 => (.ok ((x.1, x.2 ++ [91]), l2) : Rs (Bs × Bs))).go refB = _
    rw [hx]
    exact noB hm hd
theorem ref_deepK : ∀ (n : Nat) (os m : List Tok), saysK os = List.replicate (n + 1) (pK 91) → refF n (os ++ m) = .error (atT (os.drop n), 61) := by
  intro n
  induction n with
  | zero =>
    intro os m ho
    obtain ⟨b1, e1, os, rfl, ho2⟩ := saysK_one ho
    replace ho := ho2
    clear ho2
    rfl
  | succ n ih =>
    intro os m ho
    rw [List.replicate_succ] at ho
    obtain ⟨b1, e1, os, rfl, ho2⟩ := saysK_one ho
    replace ho := ho2
    clear ho2
    show ((refF n (os ++ m)).go fun x l1 => (mustS [93] l1).go fun _ l2 => (.ok ((x.1, x.2 ++ [91]), l2) : Rs (Bs × Bs))).go refB = _
    rw [ih os m ho]
    rfl
/-! ### Values: lists (true) and objects -/
def opK : Bool → List (Int × Bs)
  | true => [pK 91]
  | false => [pK 123, (1, [120]), pK 58]
def clK : Bool → Int × Bs
  | true => pK 93
  | false => pK 125
def opsK (sh : List Bool) : List (Int × Bs) := sh.flatMap opK
def clsK (sh : List Bool) : List (Int × Bs) := (sh.map clK).reverse
theorem any_one {α : Type} {f : List Tok → Rs α} (he : Eats f) {last : Bs} {l m : List Tok} {a : α} {b e : Nat} (hp : isP last l = false) (h : f l = .ok (a, ⟨0, last, b, e⟩ :: m)) : anyS f last l = .ok ([a], m) := by
  rw [anyS_eq he, hp, h]
  simp only [Bool.false_eq_true, if_false, go_ok]
  rw [anyS_eq he]
  simp [isP, go_ok]
theorem any_err {α : Type} {f : List Tok → Rs α} (he : Eats f) {last : Bs} {l : List Tok} {p : Nat × Int} (hp : isP last l = false) (h : f l = .error p) : anyS f last l = .error p := by
  rw [anyS_eq he, hp, h]; rfl
theorem opsK_hd {sh : List Bool} {os : List Tok} (h : saysK os = opsK sh) (m : List Tok) (b e : Nat) : isP [93] (os ++ ⟨2, [49], b, e⟩ :: m) = false := by
  cases sh with
  | nil =>
    obtain rfl := says_nil h
    rfl
  | cons x sh =>
    cases x with
    | true => obtain ⟨b1, e1, os, rfl, _⟩ := saysK_one (h.trans rfl : saysK os = pK 91 :: opsK sh); rfl
    | false => obtain ⟨b1, e1, os, rfl, _⟩ := saysK_one (h.trans rfl : saysK os = pK 123 :: (1, [120]) :: pK 58 :: opsK sh); rfl
theorem val_ok (fx : Bool) : ∀ (sh : List Bool) (n : Nat) (os cs m : List Tok) (b e : Nat), sh.length ≤ n → saysK os = opsK sh → saysK cs = clsK sh →
    ∃ x, valF fx n (os ++ ⟨2, [49], b, e⟩ :: (cs ++ m)) = .ok (x, m) := by
  intro sh
  induction sh with
  | nil =>
    intro n os cs m b e _ ho hc
    obtain rfl := says_nil ho
    obtain rfl := says_nil hc
    refine ⟨valC 4 [49] [] [], ?_⟩
    rw [valF_eq]; rfl
  | cons x sh ih =>
    intro n os cs m b e hn ho hc
    simp only [List.length_cons] at hn
    obtain ⟨n, rfl⟩ : ∃ k, n = k + 1 := ⟨n - 1, by omega⟩
    have hc' : saysK cs = clsK sh ++ [clK x] := by rw [hc]; simp [clsK]
    obtain ⟨cs, c1, rfl, hc2, hc1⟩ := saysK_split hc'
    replace hc := hc2
    cases x with
    | true =>
      obtain ⟨b2, e2, c2, rfl, h2⟩ := saysK_one (hc1.trans rfl : saysK c1 = [pK 93])
      obtain rfl := says_nil h2
      obtain ⟨b1, e1, os, rfl, ho2⟩ := saysK_one (ho.trans rfl : saysK os = pK 91 :: opsK sh)
      replace ho := ho2
      clear ho2
      obtain ⟨v, hv⟩ := ih n os cs (⟨0, [93], b2, e2⟩ :: m) b e (by omega) ho hc
      refine ⟨valC 8 [] [v] [], ?_⟩
      have ee : os ++ ⟨2, [49], b, e⟩ :: (cs ++ [⟨0, [93], b2, e2⟩] ++ m) = os ++ ⟨2, [49], b, e⟩ :: (cs ++ ⟨0, [93], b2, e2⟩ :: m) := by simp
      show valF fx (n + 1) (⟨0, [91], b1, _⟩ :: (os ++ ⟨2, [49], b, e⟩ :: (cs ++ [⟨0, [93], b2, e2⟩] ++ m))) = _
      rw [ee]
      show ((anyS (valF fx n) [93] (os ++ ⟨2, [49], b, e⟩ :: (cs ++ ⟨0, [93], b2, e2⟩ :: m))).go fun vs l1 => (.ok (valC 8 [] vs [], l1) : Rs (List CT))) = _
      rw [any_one (valF_eats fx n) (opsK_hd ho _ _ _) hv]
      rfl
    | false =>
      obtain ⟨b2, e2, c2, rfl, h2⟩ := saysK_one (hc1.trans rfl : saysK c1 = [pK 125])
      obtain rfl := says_nil h2
      obtain ⟨b1, e1, os, rfl, ho2⟩ := saysK_one (ho.trans rfl : saysK os = pK 123 :: (1, [120]) :: pK 58 :: opsK sh)
      replace ho := ho2
      clear ho2
      obtain ⟨b3, e3, os, rfl, ho2⟩ := saysK_one ho
      replace ho := ho2
      clear ho2
      obtain ⟨b4, e4, os, rfl, ho2⟩ := saysK_one ho
      replace ho := ho2
      clear ho2
      obtain ⟨v, hv⟩ := ih n os cs (⟨0, [125], b2, e2⟩ :: m) b e (by omega) ho hc
      refine ⟨valC 9 [] [v] [[sC [120]]], ?_⟩
      have ee : os ++ ⟨2, [49], b, e⟩ :: (cs ++ [⟨0, [125], b2, e2⟩] ++ m) = os ++ ⟨2, [49], b, e⟩ :: (cs ++ ⟨0, [125], b2, e2⟩ :: m) := by simp
      show valF fx (n + 1) (⟨0, [123], b1, _⟩ :: ⟨1, [120], b3, e3⟩ :: ⟨0, [58], b4, e4⟩ :: (os ++ ⟨2, [49], b, e⟩ :: (cs ++ [⟨0, [125], b2, e2⟩] ++ m))) = _
      rw [ee]
      show ((anyS (memS (valF fx n)) [125] (⟨1, [120], b3, e3⟩ :: ⟨0, [58], b4, e4⟩ :: (os ++ ⟨2, [49], b, e⟩ :: (cs ++ ⟨0, [125], b2, e2⟩ :: m)))).go fun ms l1 => (.ok (valC 9 [] (ms.map (·.2)) (ms.map fun m => [sC m.1]), l1) : Rs (List CT))) = _
      rw [any_one (a := ([120], v)) (memS_eats (valF_eats fx n).keeps) rfl (b := b2) (e := e2) (m := m)]
      · rfl
      · show ((valF fx n (os ++ ⟨2, [49], b, e⟩ :: (cs ++ ⟨0, [125], b2, e2⟩ :: m))).go fun v l3 => (.ok (([120], v), l3) : Rs (Bs × List CT))) = _
        rw [hv]
        rfl
theorem opsK_at {sh : List Bool} {x : Bool} {os : List Tok} (h : saysK os = opsK (x :: sh)) (m : List Tok) : isP [93] (os ++ m) = false := by
  cases x with
  | true => obtain ⟨b1, e1, os, rfl, _⟩ := saysK_one (h.trans rfl : saysK os = pK 91 :: opsK sh); rfl
  | false => obtain ⟨b1, e1, os, rfl, _⟩ := saysK_one (h.trans rfl : saysK os = pK 123 :: (1, [120]) :: pK 58 :: opsK sh); rfl
theorem val_deep (fx : Bool) : ∀ (sh : List Bool) (x : Bool) (os o m : List Tok), saysK os = opsK sh → saysK o = opK x → valF fx sh.length (os ++ (o ++ m)) = .error (atT o, 61) := by
  intro sh
  induction sh with
  | nil =>
    intro x os o m ho hx
    obtain rfl := says_nil ho
    cases x with
    | true => obtain ⟨b1, e1, o, rfl, _⟩ := saysK_one (hx.trans rfl : saysK o = pK 91 :: []); rfl
    | false => obtain ⟨b1, e1, o, rfl, _⟩ := saysK_one (hx.trans rfl : saysK o = pK 123 :: (1, [120]) :: pK 58 :: []); rfl
  | cons y sh ih =>
    intro x os o m ho hx
    have hno : ∀ (os : List Tok), saysK os = opsK sh → isP [93] (os ++ (o ++ m)) = false := by
      intro os ho
      cases sh with
      | nil =>
        obtain rfl := says_nil ho
        exact opsK_at (sh := []) (x := x) (by rw [hx]; simp [opsK]) m
      | cons z sh => exact opsK_at ho _
    cases y with
    | true =>
      obtain ⟨b1, e1, os, rfl, ho2⟩ := saysK_one (ho.trans rfl : saysK os = pK 91 :: opsK sh)
      replace ho := ho2
      clear ho2
      show ((anyS (valF fx sh.length) [93] (os ++ (o ++ m))).go fun vs l1 => (.ok (valC 8 [] vs [], l1) : Rs (List CT))) = _
      rw [any_err (valF_eats fx sh.length) (hno os ho) (ih x os o m ho hx)]
      rfl
    | false =>
      obtain ⟨b1, e1, os, rfl, ho2⟩ := saysK_one (ho.trans rfl : saysK os = pK 123 :: (1, [120]) :: pK 58 :: opsK sh)
      replace ho := ho2
      clear ho2
      obtain ⟨b3, e3, os, rfl, ho2⟩ := saysK_one ho
      replace ho := ho2
      clear ho2
      obtain ⟨b4, e4, os, rfl, ho2⟩ := saysK_one ho
      replace ho := ho2
      clear ho2
      show ((anyS (memS (valF fx sh.length)) [125] (⟨1, [120], b3, e3⟩ :: ⟨0, [58], b4, e4⟩ :: (os ++ (o ++ m)))).go fun ms l1 => (.ok (valC 9 [] (ms.map (·.2)) (ms.map fun m => [sC m.1]), l1) : Rs (List CT))) = _
      rw [any_err (p := (atT o, 61)) (memS_eats (valF_eats fx sh.length).keeps) rfl]
      · rfl
      · show ((valF fx sh.length (os ++ (o ++ m))).go fun v l3 => (.ok (([120], v), l3) : Rs (Bs × List CT))) = _
        rw [ih x os o m ho hx]
        rfl
/-! ### Sets -/
def seK (j : Nat) : List (Int × Bs) := (List.replicate j [pK 123, (1, [97])]).flatten
theorem led_no {α : Type} {f : List Tok → Rs α} (he : Keeps f) {first : Bs} {l : List Tok} (hp : isP first l = false) : ledS f first l = .ok ([], l) := by
  rw [ledS_eq he, hp]; rfl
theorem dirs_no (fx : Bool) {l : List Tok} (hp : isP [64] l = false) : dirsS fx l = .ok ([], l) := led_no (dirS_eats fx).keeps hp
theorem field_sub {st : List Tok → Rs (List (List CT))} {l : List Tok} {b e : Nat} (h1 : isP [58] l = false) (h2 : isP [40] l = false) (h3 : isP [64] l = false) : selS st (⟨1, [97], b, e⟩ :: l) = (withS st l).go fun ss l5 => .ok (selC 0 [] [97] [] [] [] ss, l5) := by
  show fieldS st (⟨1, [97], b, e⟩ :: l) = _
  unfold fieldS
  have e1 : nickS (⟨1, [97], b, e⟩ :: l) = .ok (([], [97]), l) := by
    show (if isP [58] l then _ else _) = _
    rw [h1]; rfl
  have e2 : argsS false l = .ok ([], l) := by
    unfold argsS; rw [h2]; rfl
  rw [e1, go_ok, e2, go_ok, dirs_no false h3, go_ok]
theorem hd_se {j : Nat} {os : List Tok} (h : saysK os = seK j) {m : List Tok} (hm : HdK m (pK 125)) : HdK (os ++ m) (pK (if j = 0 then 125 else 123)) := by
  cases j with
  | zero =>
    obtain rfl := says_nil h
    exact hm
  | succ j =>
    obtain ⟨b1, e1, os, rfl, _⟩ := saysK_one (h.trans rfl : saysK os = pK 123 :: (1, [97]) :: seK j)
    exact ⟨b1, e1, _, rfl⟩
theorem hd_cl {j : Nat} {cs : List Tok} (h : saysK cs = List.replicate j (pK 125)) {m : List Tok} (hm : HdK m (pK 125)) : HdK (cs ++ m) (pK 125) := by
  cases j with
  | zero =>
    obtain rfl := says_nil h
    exact hm
  | succ j =>
    rw [List.replicate_succ] at h
    obtain ⟨b1, e1, os, rfl, _⟩ := saysK_one h
    exact ⟨b1, e1, _, rfl⟩
theorem set_ok : ∀ (j n : Nat) (os cs m : List Tok), j ≤ n → saysK os = seK j → saysK cs = List.replicate j (pK 125) → HdK m (pK 125) →
    ∃ x, withS (setF n) (os ++ (cs ++ m)) = .ok (x, m) := by
  intro j
  induction j with
  | zero =>
    intro n os cs m _ ho hc hm
    obtain rfl := says_nil ho
    obtain rfl := says_nil hc
    refine ⟨[], ?_⟩
    show withS (setF n) m = _
    unfold withS
    rw [hd_no hm (by decide)]
    rfl
  | succ j ih =>
    intro n os cs m hn ho hc hm
    obtain ⟨n, rfl⟩ : ∃ k, n = k + 1 := ⟨n - 1, by omega⟩
    obtain ⟨b1, e1, os, rfl, ho2⟩ := saysK_one (ho.trans rfl : saysK os = pK 123 :: (1, [97]) :: seK j)
    replace ho := ho2
    clear ho2
    obtain ⟨b3, e3, os, rfl, ho2⟩ := saysK_one ho
    replace ho := ho2
    clear ho2
    rw [List.replicate_succ'] at hc
    obtain ⟨cs, c1, rfl, hc2, hc1⟩ := saysK_split hc
    replace hc := hc2
    obtain ⟨b2, e2, c2, rfl, h2⟩ := saysK_one hc1
    obtain rfl := says_nil h2
    have hq : HdK (⟨0, [125], b2, e2⟩ :: m) (pK 125) := ⟨b2, e2, m, rfl⟩
    obtain ⟨x, hx⟩ := ih n os cs (⟨0, [125], b2, e2⟩ :: m) (by omega) ho hc hq
    refine ⟨[selC 0 [] [97] [] [] [] x], ?_⟩
    have ee : os ++ (cs ++ [⟨0, [125], b2, e2⟩] ++ m) = os ++ (cs ++ ⟨0, [125], b2, e2⟩ :: m) := by simp
    show withS (setF (n + 1)) (⟨0, [123], b1, _⟩ :: ⟨1, [97], b3, e3⟩ :: (os ++ (cs ++ [⟨0, [125], b2, e2⟩] ++ m))) = _
    rw [ee]
    show someS (selS (setF n)) [125] (⟨1, [97], b3, e3⟩ :: (os ++ (cs ++ ⟨0, [125], b2, e2⟩ :: m))) = _
    have hh := hd_se ho (hd_cl hc hq)
    unfold someS
    rw [field_sub (hd_no hh (by split <;> decide)) (hd_no hh (by split <;> decide)) (hd_no hh (by split <;> decide)), hx, go_ok, go_ok]
    rw [anyS_eq (selS_eats (setF_eats n).keeps)]
    rfl
theorem set_deepK : ∀ (n : Nat) (os o m : List Tok), saysK os = seK n → HdK o (pK 123) → withS (setF n) (os ++ (o ++ m)) = .error (atT o, 61) := by
  intro n
  induction n with
  | zero =>
    intro os o m ho hx
    obtain rfl := says_nil ho
    obtain ⟨b, e, r, rfl⟩ := hx
    rfl
  | succ n ih =>
    intro os o m ho hx
    obtain ⟨b1, e1, os, rfl, ho2⟩ := saysK_one (ho.trans rfl : saysK os = pK 123 :: (1, [97]) :: seK n)
    replace ho := ho2
    clear ho2
    obtain ⟨b3, e3, os, rfl, ho2⟩ := saysK_one ho
    replace ho := ho2
    clear ho2
    have hh : HdK (os ++ (o ++ m)) (pK 123) := by
      cases n with
      | zero =>
        obtain rfl := says_nil ho
        obtain ⟨b, e, r, rfl⟩ := hx
        exact ⟨b, e, _, rfl⟩
      | succ n =>
        obtain ⟨b5, e5, os, rfl, _⟩ := saysK_one (ho.trans rfl : saysK os = pK 123 :: (1, [97]) :: seK n)
        exact ⟨b5, e5, _, rfl⟩
    show someS (selS (setF n)) [125] (⟨1, [97], b3, e3⟩ :: (os ++ (o ++ m))) = _
    unfold someS
    rw [field_sub (hd_no hh (by decide)) (hd_no hh (by decide)) (hd_no hh (by decide)), ih os o m ho hx]
    rfl
end Go.Proofs.YtkmopfmofcehiaaGreatDoor
namespace Go.Proofs.YtkmopfmofcehiaaGreatDoor
open Go
/-! ### The document of types, values, sets within one another -/
def headK : List (Int × Bs) := [(1, [113, 117, 101, 114, 121]), pK 40, pK 36, (1, [97]), pK 58]
def midK : List (Int × Bs) := [pK 41, pK 123, (1, [97]), pK 40, (1, [98]), pK 58]
theorem doc_item {l : List Tok} {a : Bool × List CT} {N : Nat} (hp : isP [] l = false) (h : itemS l = .ok (a, [eofT N])) : docS l = .ok (docC [a], []) := by
  unfold docS
  rw [some_its hp, its_eq, hp, h]
  simp only [Bool.false_eq_true, if_false, go_ok, its_eof]
theorem doc_item_err {l : List Tok} {p : Nat × Int} (h : itemS l = .error p) : docS l = .error p := by
  unfold docS someS
  rw [h]; rfl
theorem vars_err {hd l : List Tok} {p : Nat × Int} (hh : saysK hd = headK) (h : refF 32 l = .error p) : itemS (hd ++ l) = .error p := by
  obtain ⟨b1, e1, hd, rfl, h1⟩ := saysK_one hh
  obtain ⟨b2, e2, hd, rfl, h2⟩ := saysK_one h1
  obtain ⟨b3, e3, hd, rfl, h3⟩ := saysK_one h2
  obtain ⟨b4, e4, hd, rfl, h4⟩ := saysK_one h3
  obtain ⟨b5, e5, hd, rfl, h5⟩ := saysK_one h4
  obtain rfl := says_nil h5
  have hv : varDefS (⟨0, [36], b3, e3⟩ :: ⟨1, [97], b4, e4⟩ :: ⟨0, [58], b5, e5⟩ :: l) = .error p := by
    show ((refF 32 l).go fun x l3 => (defS l3).go fun d l4 => (dirsS true l4).go fun ds l5 => (.ok ([sC [97], sC x.1, sC x.2, bC d.1] ++ d.2 ++ [rowC _ 2 ds], l5) : Rs (List CT))) = _
    rw [h]; rfl
  have hs : varsS (⟨0, [40], b2, e2⟩ :: ⟨0, [36], b3, e3⟩ :: ⟨1, [97], b4, e4⟩ :: ⟨0, [58], b5, e5⟩ :: l) = .error p := by
    show someS varDefS [41] (⟨0, [36], b3, e3⟩ :: ⟨1, [97], b4, e4⟩ :: ⟨0, [58], b5, e5⟩ :: l) = _
    unfold someS
    rw [hv]; rfl
  show (((varsS (⟨0, [40], b2, e2⟩ :: ⟨0, [36], b3, e3⟩ :: ⟨1, [97], b4, e4⟩ :: ⟨0, [58], b5, e5⟩ :: l)).go fun vs l3 => (dirsS false l3).go fun ds l4 => (setF 32 l4).go fun ss l5 => (.ok (opC 0 [] vs ds ss, l5) : Rs (List CT))).go fun x l1 => (.ok ((false, x), l1) : Rs (Bool × List CT))) = _
  rw [hs]; rfl
theorem vars_ok {hd md l m : List Tok} {x : Bs × Bs} (hh : saysK hd = headK) (hm : saysK md = midK) (h : refF 32 l = .ok (x, md ++ m)) :
    ∃ vs, itemS (hd ++ l) = (((valF false 32 m).go fun v l3 => (.ok (sC [98] :: v, l3) : Rs (List CT))).go fun a l1 => (anyS (argS false) [41] l1).go fun bs l2 => (dirsS false l2).go fun ds l4 => (withS (setF 31) l4).go fun ss l5 => (anyS (selS (setF 31)) [125] l5).go fun cs l6 => .ok ((false, opC 0 [] vs [] (selC 0 [] [97] [] (a :: bs) ds ss :: cs)), l6)) := by
  obtain ⟨b1, e1, hd, rfl, h1⟩ := saysK_one hh
  obtain ⟨b2, e2, hd, rfl, h2⟩ := saysK_one h1
  obtain ⟨b3, e3, hd, rfl, h3⟩ := saysK_one h2
  obtain ⟨b4, e4, hd, rfl, h4⟩ := saysK_one h3
  obtain ⟨b5, e5, hd, rfl, h5⟩ := saysK_one h4
  obtain rfl := says_nil h5
  obtain ⟨c1, d1, md, rfl, g1⟩ := saysK_one hm
  obtain ⟨c2, d2, md, rfl, g2⟩ := saysK_one g1
  obtain ⟨c3, d3, md, rfl, g3⟩ := saysK_one g2
  obtain ⟨c4, d4, md, rfl, g4⟩ := saysK_one g3
  obtain ⟨c5, d5, md, rfl, g5⟩ := saysK_one g4
  obtain ⟨c6, d6, md, rfl, g6⟩ := saysK_one g5
  obtain rfl := says_nil g6
  generalize hL : (⟨0, [123], c2, d2⟩ :: ⟨1, [97], c3, d3⟩ :: ⟨0, [40], c4, d4⟩ :: ⟨1, [98], c5, d5⟩ :: ⟨0, [58], c6, d6⟩ :: m : List Tok) = L
  have h' : refF 32 l = .ok (x, ⟨0, [41], c1, d1⟩ :: L) := by rw [h, ← hL]; rfl
  have hv : ∃ v, varDefS (⟨0, [36], b3, e3⟩ :: ⟨1, [97], b4, e4⟩ :: ⟨0, [58], b5, e5⟩ :: l) = .ok (v, ⟨0, [41], c1, d1⟩ :: L) := by
    show ∃ v, ((refF 32 l).go fun x l3 => (defS l3).go fun d l4 => (dirsS true l4).go fun ds l5 => (.ok ([sC [97], sC x.1, sC x.2, bC d.1] ++ d.2 ++ [rowC _ 2 ds], l5) : Rs (List CT))) = .ok (v, ⟨0, [41], c1, d1⟩ :: L)
    rw [h', go_ok]
    show ∃ v, ((dirsS true (⟨0, [41], c1, d1⟩ :: L)).go fun ds l5 => (.ok ([sC [97], sC x.1, sC x.2, bC false] ++ valC 0 [] [] [] ++ [rowC _ 2 ds], l5) : Rs (List CT))) = .ok (v, ⟨0, [41], c1, d1⟩ :: L)
    rw [dirs_no true rfl, go_ok]
    exact ⟨_, rfl⟩
  obtain ⟨v, hv⟩ := hv
  have hs : varsS (⟨0, [40], b2, e2⟩ :: ⟨0, [36], b3, e3⟩ :: ⟨1, [97], b4, e4⟩ :: ⟨0, [58], b5, e5⟩ :: l) = .ok ([v], L) := by
    show someS varDefS [41] (⟨0, [36], b3, e3⟩ :: ⟨1, [97], b4, e4⟩ :: ⟨0, [58], b5, e5⟩ :: l) = _
    unfold someS
    rw [hv, go_ok, anyS_eq varDefS_eats]
    rfl
  have hset : setF 32 L = (((valF false 32 m).go fun v l3 => (.ok (sC [98] :: v, l3) : Rs (List CT))).go fun a l1 => (anyS (argS false) [41] l1).go fun bs l2 => (dirsS false l2).go fun ds l4 => (withS (setF 31) l4).go fun ss l5 => (anyS (selS (setF 31)) [125] l5).go fun cs l6 => .ok (selC 0 [] [97] [] (a :: bs) ds ss :: cs, l6)) := by
    subst hL
    show someS (selS (setF 31)) [125] (⟨1, [97], c3, d3⟩ :: ⟨0, [40], c4, d4⟩ :: ⟨1, [98], c5, d5⟩ :: ⟨0, [58], c6, d6⟩ :: m) = _
    have ha : argS false (⟨1, [98], c5, d5⟩ :: ⟨0, [58], c6, d6⟩ :: m) = ((valF false 32 m).go fun v l3 => (.ok (sC [98] :: v, l3) : Rs (List CT))) := by
      show ((valF false 32 m).go fun v l3 => (.ok (([98], v), l3) : Rs (Bs × List CT))).go _ = _
      cases valF false 32 m <;> rfl
    unfold someS
    show ((argsS false (⟨0, [40], c4, d4⟩ :: ⟨1, [98], c5, d5⟩ :: ⟨0, [58], c6, d6⟩ :: m)).go fun a l3 => (dirsS false l3).go fun ds l4 => (withS (setF 31) l4).go fun ss l5 => .ok (selC 0 [] [97] [] a ds ss, l5)).go _ = _
    show (((someS (argS false) [41] (⟨1, [98], c5, d5⟩ :: ⟨0, [58], c6, d6⟩ :: m)).go fun a l3 => (dirsS false l3).go fun ds l4 => (withS (setF 31) l4).go fun ss l5 => .ok (selC 0 [] [97] [] a ds ss, l5)).go fun a l1 => (anyS (selS (setF 31)) [125] l1).go fun b l2 => .ok (a :: b, l2)) = _
    unfold someS
    rw [ha]
    cases valF false 32 m with
    | error p => rfl
    | ok p =>
      simp only [Rs.go]
      cases anyS (argS false) [41] p.2 with
      | error p => rfl
      | ok p =>
        simp only
        cases dirsS false p.2 with
        | error p => rfl
        | ok p =>
          simp only
          cases withS (setF 31) p.2 <;> rfl
  refine ⟨[v], ?_⟩
  show (((varsS (⟨0, [40], b2, e2⟩ :: ⟨0, [36], b3, e3⟩ :: ⟨1, [97], b4, e4⟩ :: ⟨0, [58], b5, e5⟩ :: l)).go fun vs l3 => (dirsS false l3).go fun ds l4 => (setF 32 l4).go fun ss l5 => (.ok (opC 0 [] vs ds ss, l5) : Rs (List CT))).go fun x l1 => (.ok ((false, x), l1) : Rs (Bool × List CT))) = _
  rw [hs, go_ok, dirs_no false (by rw [← hL]; rfl), go_ok, hset]
  cases valF false 32 m with
  | error p => rfl
  | ok p =>
    simp only [Rs.go]
    cases anyS (argS false) [41] p.2 with
    | error p => rfl
    | ok p =>
      simp only
      cases dirsS false p.2 with
      | error p => rfl
      | ok p =>
        simp only
        cases withS (setF 31) p.2 with
        | error p => rfl
        | ok p =>
          simp only
          cases anyS (selS (setF 31)) [125] p.2 <;> rfl
theorem deep_types {hd os m : List Tok} (hh : saysK hd = headK) (ho : saysK os = List.replicate 33 (pK 91)) : docS (hd ++ (os ++ m)) = .error (atT (os.drop 32), 61) :=
  doc_item_err (vars_err hh (ref_deepK 32 os m ho))
theorem deep_values {hd os cs md vs o m : List Tok} {c : Nat} {sh : List Bool} {x : Bool} {b e : Nat} (hh : saysK hd = headK) (hc : c ≤ 32) (ho : saysK os = List.replicate c (pK 91)) (hcs : saysK cs = List.replicate c (pK 93)) (hm : saysK md = midK) (hl : sh.length = 32) (hv : saysK vs = opsK sh) (hx : saysK o = opK x) :
    docS (hd ++ (os ++ ⟨1, [73, 110, 116], b, e⟩ :: (cs ++ (md ++ (vs ++ (o ++ m)))))) = .error (atT o, 61) := by
  have hmd : HdK (md ++ (vs ++ (o ++ m))) (pK 41) := by
    obtain ⟨c1, d1, md, rfl, _⟩ := saysK_one hm
    exact ⟨c1, d1, _, rfl⟩
  obtain ⟨y, hy⟩ := ref_ok c 32 os cs _ b e 41 hc ho hcs hmd (by decide)
  obtain ⟨w, hw⟩ := vars_ok hh hm hy
  refine doc_item_err ?_
  have := val_deep false sh x vs o m hv hx
  rw [hl] at this
  rw [hw, this]
  rfl
theorem deep_sets {hd os cs md vs ws rp ss o m : List Tok} {c : Nat} {sh : List Bool} {b e b1 e1 : Nat} (hh : saysK hd = headK) (hc : c ≤ 32) (ho : saysK os = List.replicate c (pK 91)) (hcs : saysK cs = List.replicate c (pK 93)) (hm : saysK md = midK) (hl : sh.length ≤ 32) (hv : saysK vs = opsK sh) (hw : saysK ws = clsK sh) (hr : saysK rp = [pK 41]) (hs : saysK ss = seK 31) (hx : HdK o (pK 123)) :
    docS (hd ++ (os ++ ⟨1, [73, 110, 116], b, e⟩ :: (cs ++ (md ++ (vs ++ ⟨2, [49], b1, e1⟩ :: (ws ++ (rp ++ (ss ++ (o ++ m))))))))) = .error (atT o, 61) := by
  have hmd : ∀ q, HdK (md ++ q) (pK 41) := by
    intro q
    obtain ⟨c1, d1, md, rfl, _⟩ := saysK_one hm
    exact ⟨c1, d1, _, rfl⟩
  obtain ⟨y, hy⟩ := ref_ok c 32 os cs (md ++ (vs ++ ⟨2, [49], b1, e1⟩ :: (ws ++ (rp ++ (ss ++ (o ++ m)))))) b e 41 hc ho hcs (hmd _) (by decide)
  obtain ⟨w, hw'⟩ := vars_ok hh hm hy
  obtain ⟨v, hv'⟩ := val_ok false sh 32 vs ws (rp ++ (ss ++ (o ++ m))) b1 e1 hl hv hw
  refine doc_item_err ?_
  obtain ⟨c1, d1, rp, rfl, h2⟩ := saysK_one hr
  obtain rfl := says_nil h2
  obtain ⟨c3, d3, ss', rfl, _⟩ := saysK_one (hs.trans rfl : saysK ss = pK 123 :: (1, [97]) :: seK 30)
  have h3 : anyS (argS false) [41] ([⟨0, [41], c1, d1⟩] ++ (⟨0, [123], c3, d3⟩ :: ss' ++ (o ++ m))) = .ok ([], ⟨0, [123], c3, d3⟩ :: ss' ++ (o ++ m)) := by
    rw [anyS_eq (argS_eats false)]; rfl
  have h4 : dirsS false (⟨0, [123], c3, d3⟩ :: ss' ++ (o ++ m)) = .ok ([], ⟨0, [123], c3, d3⟩ :: ss' ++ (o ++ m)) := dirs_no false rfl
  rw [hw', hv', go_ok, go_ok, h3, go_ok, h4, go_ok, set_deepK 31 _ o m hs hx]
  rfl
theorem deep_ok {hd os cs md vs ws rp ss ts : List Tok} {c j : Nat} {sh : List Bool} {b e b1 e1 b2 e2 N : Nat} (hh : saysK hd = headK) (hc : c ≤ 32) (ho : saysK os = List.replicate c (pK 91)) (hcs : saysK cs = List.replicate c (pK 93)) (hm : saysK md = midK) (hl : sh.length ≤ 32) (hv : saysK vs = opsK sh) (hw : saysK ws = clsK sh) (hr : saysK rp = [pK 41]) (hj : j ≤ 31) (hs : saysK ss = seK j) (ht : saysK ts = List.replicate j (pK 125)) :
    ∃ d, docS (hd ++ (os ++ ⟨1, [73, 110, 116], b, e⟩ :: (cs ++ (md ++ (vs ++ ⟨2, [49], b1, e1⟩ :: (ws ++ (rp ++ (ss ++ (ts ++ ⟨0, [125], b2, e2⟩ :: [eofT N])))))))))  = .ok (d, []) := by
  have hmd : ∀ q, HdK (md ++ q) (pK 41) := by
    intro q
    obtain ⟨c1, d1, md, rfl, _⟩ := saysK_one hm
    exact ⟨c1, d1, _, rfl⟩
  obtain ⟨y, hy⟩ := ref_ok c 32 os cs (md ++ (vs ++ ⟨2, [49], b1, e1⟩ :: (ws ++ (rp ++ (ss ++ (ts ++ ⟨0, [125], b2, e2⟩ :: [eofT N])))))) b e 41 hc ho hcs (hmd _) (by decide)
  obtain ⟨w, hw'⟩ := vars_ok hh hm hy
  obtain ⟨v, hv'⟩ := val_ok false sh 32 vs ws (rp ++ (ss ++ (ts ++ ⟨0, [125], b2, e2⟩ :: [eofT N]))) b1 e1 hl hv hw
  have hq : HdK (⟨0, [125], b2, e2⟩ :: [eofT N]) (pK 125) := ⟨b2, e2, _, rfl⟩
  obtain ⟨x, hx⟩ := set_ok j 31 ss ts _ hj hs ht hq
  obtain ⟨c1, d1, rp, rfl, h2⟩ := saysK_one hr
  obtain rfl := says_nil h2
  have hd' := hd_se hs (hd_cl ht hq)
  have hz : isP [] (hd ++ (os ++ ⟨1, [73, 110, 116], b, e⟩ :: (cs ++ (md ++ (vs ++ ⟨2, [49], b1, e1⟩ :: (ws ++ ([⟨0, [41], c1, d1⟩] ++ (ss ++ (ts ++ ⟨0, [125], b2, e2⟩ :: [eofT N]))))))))) = false := by
    obtain ⟨c1, d1, hd, rfl, _⟩ := saysK_one hh
    rfl
  have key : ∃ a, itemS (hd ++ (os ++ ⟨1, [73, 110, 116], b, e⟩ :: (cs ++ (md ++ (vs ++ ⟨2, [49], b1, e1⟩ :: (ws ++ ([⟨0, [41], c1, d1⟩] ++ (ss ++ (ts ++ ⟨0, [125], b2, e2⟩ :: [eofT N]))))))))) = .ok (a, [eofT N]) := by
    have h3 : anyS (argS false) [41] ([⟨0, [41], c1, d1⟩] ++ (ss ++ (ts ++ ⟨0, [125], b2, e2⟩ :: [eofT N]))) = .ok ([], ss ++ (ts ++ ⟨0, [125], b2, e2⟩ :: [eofT N])) := by
      rw [anyS_eq (argS_eats false)]; rfl
    have h4 : dirsS false (ss ++ (ts ++ ⟨0, [125], b2, e2⟩ :: [eofT N])) = .ok ([], ss ++ (ts ++ ⟨0, [125], b2, e2⟩ :: [eofT N])) := dirs_no false (hd_no hd' (by split <;> decide))
    have h5 : anyS (selS (setF 31)) [125] (⟨0, [125], b2, e2⟩ :: [eofT N]) = .ok ([], [eofT N]) := by
      rw [anyS_eq (selS_eats (setF_eats 31).keeps)]; rfl
    rw [hw', hv', go_ok, go_ok, h3, go_ok, h4, go_ok, hx, go_ok, h5, go_ok]
    exact ⟨_, rfl⟩
  obtain ⟨a, ha⟩ := key
  exact ⟨_, doc_item hz ha⟩
end Go.Proofs.YtkmopfmofcehiaaGreatDoor
namespace Go.Proofs.YtkmopfmofcehiaaGreatDoor
open Go
/-! ### Its tokens -/
def isPu : Int × Bs → Bool
  | (k, [c]) => k == 0 && punL.contains c
  | _ => false
def Wd (x : Int × Bs) : Prop := tokS x.2 = .ok x.1 x.2 []
def hdPu (e : Bool) : List (Int × Bs) → Bool
  | [] => e
  | y :: _ => isPu y
/-- Each a punctuator, or a word with a punctuator behind it. -/
def Alt (e : Bool) : List (Int × Bs) → Prop
  | [] => True
  | x :: r => (isPu x = true ∨ (Wd x ∧ hdPu e r = true)) ∧ Alt e r
theorem hdPu_app (e : Bool) (xs ys : List (Int × Bs)) : hdPu e (xs ++ ys) = hdPu (hdPu e ys) xs := by
  cases xs <;> rfl
theorem Alt.app {e : Bool} : ∀ {xs ys : List (Int × Bs)}, Alt (hdPu e ys) xs → Alt e ys → Alt e (xs ++ ys)
  | [], _, _, h => h
  | _ :: xs, ys, ⟨h1, h2⟩, h => ⟨(hdPu_app e xs ys).symm ▸ h1, Alt.app h2 h⟩
theorem Alt.rep {e : Bool} {x : Int × Bs} (hx : isPu x = true) : ∀ n, Alt e (List.replicate n x)
  | 0 => trivial
  | n + 1 => by rw [List.replicate_succ]; exact ⟨.inl hx, Alt.rep hx n⟩
def Pz (x : Int × Bs) : Pc := ⟨[], x.2, x.1, x.2⟩
def bytesK (xs : List (Int × Bs)) : Bs := xs.flatMap (·.2)
theorem bytesK_app (xs ys : List (Int × Bs)) : bytesK (xs ++ ys) = bytesK xs ++ bytesK ys := by simp [bytesK]
theorem bytesK_cons (x : Int × Bs) (ys : List (Int × Bs)) : bytesK (x :: ys) = x.2 ++ bytesK ys := by simp [bytesK]
theorem catP_pz : ∀ (xs : List (Int × Bs)), catP (xs.map Pz) [] = bytesK xs
  | [] => rfl
  | x :: xs => by
    show [] ++ (x.2 ++ catP (xs.map Pz) []) = _
    rw [catP_pz xs, bytesK_cons, List.nil_append]
theorem saysP_pz : ∀ (xs : List (Int × Bs)), saysP (xs.map Pz) = xs
  | [] => rfl
  | x :: xs => by
    have := saysP_pz xs
    unfold saysP at this ⊢
    rw [List.map_cons, List.map_cons, this]
    rfl
theorem pun_facts : ∀ c : UInt8, punL.contains c = true → tokS [c] = .ok 0 [c] [] ∧ fitX [c] = [] ∧ brkL.contains c = false := by
  intro c hc
  have : c ∈ punL := by simpa using hc
  simp only [punL, List.mem_cons, List.not_mem_nil, or_false] at this
  rcases this with rfl | rfl | rfl | rfl | rfl | rfl | rfl | rfl | rfl | rfl | rfl | rfl | rfl <;> exact ⟨rfl, rfl, rfl⟩
theorem pu_cases {x : Int × Bs} (h : isPu x = true) : ∃ c, x = (0, [c]) ∧ punL.contains c = true := by
  obtain ⟨k, t⟩ := x
  match t with
  | [] => cases h
  | [c] =>
    simp only [isPu, Bool.and_eq_true, beq_iff_eq] at h
    exact ⟨c, by rw [h.1], h.2⟩
  | _ :: _ :: _ => cases h
theorem alt_ok : ∀ {xs : List (Int × Bs)}, Alt false xs → AllOk (xs.map Pz) []
  | [], _ => trivial
  | x :: xs, ⟨h1, h2⟩ => by
    refine ⟨Gap.nil, ?_, ?_, alt_ok h2⟩
    · rcases h1 with h1 | h1
      · obtain ⟨c, rfl, hc⟩ := pu_cases h1
        exact (pun_facts c hc).1
      · exact h1.1
    · rcases h1 with h1 | ⟨_, h1⟩
      · obtain ⟨c, rfl, hc⟩ := pu_cases h1
        show headIn (fitX [c]) _ = false
        rw [(pun_facts c hc).2.1]
        cases catP (xs.map Pz) [] <;> rfl
      · cases xs with
        | nil => cases h1
        | cons y ys =>
          obtain ⟨c, rfl, hc⟩ := pu_cases (h1 : isPu y = true)
          exact fits_blank _ _ _ (pun_facts c hc).2.2
theorem toksP_at {N : Nat} (y : Int × Bs) (post : List (Int × Bs)) (m : List Tok) : atT (toksP N ((y :: post).map Pz) [] ++ m) = N - (bytesK (y :: post)).length := by
  rw [← catP_pz]; rfl
theorem toks_of {xs : List (Int × Bs)} (h : Alt false xs) (h1 : xs.length ≤ 2048) (h2 : (bytesK xs).length ≤ 16384) :
    ∃ ts, saysK ts = xs ∧ lexS (bytesK xs) = .inr ts ∧ ∀ pre y post, xs = pre ++ y :: post → ∃ t1 t2, ts = t1 ++ t2 ∧ saysK t1 = pre ∧ saysK t2 = y :: post ∧ atT t2 = (bytesK pre).length := by
  have hr : Right (bytesK xs) (xs.map Pz) [] := ⟨(catP_pz xs).symm, alt_ok h, by rw [List.length_map]; exact h1, skip_nil, h2⟩
  have hs : ∀ (N : Nat) (ys : List (Int × Bs)) (tl : Bs), saysK (toksP N (ys.map Pz) tl) = ys := fun N ys tl => (toksP_says N (ys.map Pz) tl).trans (saysP_pz ys)
  refine ⟨_, hs _ xs [], lexS_right hr, ?_⟩
  rintro pre y post rfl
  refine ⟨toksP (bytesK (pre ++ y :: post)).length (pre.map Pz) (catP ((y :: post).map Pz) []), toksP (bytesK (pre ++ y :: post)).length ((y :: post).map Pz) [], ?_, hs _ _ _, hs _ _ _, ?_⟩
  · rw [List.map_append, toksP_app]
  · have := toksP_at (N := (bytesK (pre ++ y :: post)).length) y post []
    rw [List.append_nil] at this
    rw [this, bytesK_app, List.length_append]
    omega
/-! ### The law's own texts -/
def shV (b : Nat) : List Bool := (List.range b).map fun i => i % 2 == 0
theorem shV_len (b : Nat) : (shV b).length = b := by simp [shV]
theorem shV_split (b : Nat) (h : 32 < b) : ∃ r, shV b = shV 32 ++ true :: r := by
  obtain ⟨k, rfl⟩ : ∃ k, b = 33 + k := ⟨b - 33, by omega⟩
  refine ⟨((List.range k).map (fun i => 33 + i)).map fun i => i % 2 == 0, ?_⟩
  unfold shV
  rw [List.range_add, List.map_append, List.range_succ, List.map_append, List.append_assoc]
  rfl
def deepK (j b c : Nat) : List (Int × Bs) := headK ++ (List.replicate c (pK 91) ++ (1, [73, 110, 116]) :: (List.replicate c (pK 93) ++ (midK ++ (opsK (shV b) ++ (2, [49]) :: (clsK (shV b) ++ ([pK 41] ++ (seK j ++ (List.replicate j (pK 125) ++ [pK 125]))))))))
theorem alt_ops : ∀ (sh : List Bool) (r : List (Int × Bs)), Alt false r → Alt false (opsK sh ++ r)
  | [], _, h => h
  | true :: sh, r, h => ⟨.inl rfl, alt_ops sh r h⟩
  | false :: sh, r, h => ⟨.inl rfl, .inr ⟨rfl, rfl⟩, .inl rfl, alt_ops sh r h⟩
theorem alt_pus {r : List (Int × Bs)} (h : Alt false r) : ∀ xs : List (Int × Bs), (∀ x ∈ xs, isPu x = true) → Alt false (xs ++ r)
  | [], _ => h
  | x :: xs, hx => ⟨.inl (hx x List.mem_cons_self), alt_pus h xs fun y hy => hx y (List.mem_cons_of_mem _ hy)⟩
theorem alt_cls (sh : List Bool) {r : List (Int × Bs)} (h : Alt false r) : Alt false (clsK sh ++ r) := by
  refine alt_pus h _ fun x hx => ?_
  unfold clsK at hx
  rw [List.mem_reverse] at hx
  obtain ⟨b, _, rfl⟩ := List.mem_map.1 hx
  cases b <;> rfl
theorem alt_rep {x : Int × Bs} (hx : isPu x = true) (n : Nat) {r : List (Int × Bs)} (h : Alt false r) : Alt false (List.replicate n x ++ r) :=
  alt_pus h _ fun y hy => by rw [(List.mem_replicate.1 hy).2]; exact hx
theorem hd_rep {e : Bool} {x : Int × Bs} (hx : isPu x = true) (n : Nat) {r : List (Int × Bs)} (h : hdPu e r = true) : hdPu e (List.replicate n x ++ r) = true := by
  cases n with
  | zero => exact h
  | succ n => exact hx
theorem hd_cls {e : Bool} (sh : List Bool) {r : List (Int × Bs)} (h : hdPu e r = true) : hdPu e (clsK sh ++ r) = true := by
  rw [hdPu_app]
  unfold clsK
  have hx : ∀ x ∈ (sh.map clK).reverse, isPu x = true := by
    intro x hx
    rw [List.mem_reverse] at hx
    obtain ⟨b, _, rfl⟩ := List.mem_map.1 hx
    cases b <;> rfl
  cases hz : (sh.map clK).reverse with
  | nil => exact h
  | cons y ys => exact hx y (by rw [hz]; exact List.mem_cons_self)
theorem alt_se : ∀ (j : Nat) {r : List (Int × Bs)}, Alt false r → hdPu false r = true → Alt false (seK j ++ r) ∧ hdPu false (seK j ++ r) = true
  | 0, _, h, h' => ⟨h, h'⟩
  | j + 1, r, h, h' => by
    obtain ⟨g, g'⟩ := alt_se j h h'
    exact ⟨⟨.inl rfl, .inr ⟨rfl, g'⟩, g⟩, rfl⟩
theorem alt_deep (j b c : Nat) : Alt false (deepK j b c) := by
  have a0 : Alt false [pK 125] := ⟨.inl rfl, trivial⟩
  have a1 : Alt false (List.replicate j (pK 125) ++ [pK 125]) := alt_rep rfl j a0
  have h1 : hdPu false (List.replicate j (pK 125) ++ [pK 125]) = true := hd_rep rfl j rfl
  have a2 := (alt_se j a1 h1).1
  have a3 : Alt false ([pK 41] ++ (seK j ++ (List.replicate j (pK 125) ++ [pK 125]))) := ⟨.inl rfl, a2⟩
  have a4 := alt_cls (shV b) a3
  have h4 := hd_cls (e := false) (shV b) (r := [pK 41] ++ (seK j ++ (List.replicate j (pK 125) ++ [pK 125]))) rfl
  have a5 := alt_ops (shV b) ((2, [49]) :: (clsK (shV b) ++ ([pK 41] ++ (seK j ++ (List.replicate j (pK 125) ++ [pK 125]))))) ⟨.inr ⟨rfl, h4⟩, a4⟩
  have a6 : Alt false (midK ++ (opsK (shV b) ++ (2, [49]) :: (clsK (shV b) ++ ([pK 41] ++ (seK j ++ (List.replicate j (pK 125) ++ [pK 125])))))) := ⟨.inl rfl, .inl rfl, .inr ⟨rfl, rfl⟩, .inl rfl, .inr ⟨rfl, rfl⟩, .inl rfl, a5⟩
  have a7 := alt_rep (x := pK 93) rfl c a6
  have h7 := hd_rep (e := false) (x := pK 93) rfl c (r := midK ++ (opsK (shV b) ++ (2, [49]) :: (clsK (shV b) ++ ([pK 41] ++ (seK j ++ (List.replicate j (pK 125) ++ [pK 125])))))) rfl
  have a8 := alt_rep (x := pK 91) rfl c (r := (1, [73, 110, 116]) :: (List.replicate c (pK 93) ++ (midK ++ (opsK (shV b) ++ (2, [49]) :: (clsK (shV b) ++ ([pK 41] ++ (seK j ++ (List.replicate j (pK 125) ++ [pK 125])))))))) ⟨.inr ⟨rfl, h7⟩, a7⟩
  exact ⟨.inr ⟨rfl, rfl⟩, .inl rfl, .inl rfl, .inr ⟨rfl, rfl⟩, .inl rfl, a8⟩
/-! ### Its bytes -/
theorem bytes_rep (n : Nat) (c : UInt8) : bytesK (List.replicate n (pK c)) = List.replicate n c := by
  induction n with
  | zero => rfl
  | succ n ih => rw [List.replicate_succ, bytesK_cons, ih]; rfl
def opB (b : Nat) : Bs := bytesK (opsK (shV b))
def clB (b : Nat) : Bs := bytesK (clsK (shV b))
theorem shV_succ (b : Nat) : shV (b + 1) = shV b ++ [b % 2 == 0] := by
  unfold shV
  rw [List.range_succ, List.map_append]; rfl
theorem opB_succ (b : Nat) : opB (b + 1) = opB b ++ (if b % 2 = 0 then [91] else [123, 120, 58]) := by
  unfold opB opsK
  rw [shV_succ, List.flatMap_append, bytesK_app]
  by_cases h : b % 2 = 0
  · simp [h, opK, bytesK]
  · have h' : (b % 2 == 0) = false := by simpa using h
    simp [h, h', opK, bytesK]
theorem clB_succ (b : Nat) : clB (b + 1) = (if b % 2 = 0 then 93 else 125) :: clB b := by
  unfold clB clsK
  rw [shV_succ, List.map_append, List.reverse_append]
  by_cases h : b % 2 = 0
  · simp [h, clK, bytesK]
  · have h' : (b % 2 == 0) = false := by simpa using h
    simp [h, h', clK, bytesK]
theorem opB_len (b : Nat) : (opB b).length ≤ 3 * b := by
  induction b with
  | zero => exact Nat.le_refl _
  | succ b ih =>
    rw [opB_succ, List.length_append]
    split <;> simp <;> omega
theorem opB_32 : (opB 32).length = 64 := by decide +kernel
theorem clB_len (b : Nat) : (clB b).length = b := by
  induction b with
  | zero => rfl
  | succ b ih => rw [clB_succ, List.length_cons, ih]
def seB (j : Nat) : Bs := bytesK (seK j)
theorem seB_succ (j : Nat) : seB (j + 1) = seB j ++ [123, 97] := by
  unfold seB seK
  rw [List.replicate_succ', List.flatten_append, bytesK_app]; rfl
theorem seB_len (j : Nat) : (seB j).length = 2 * j := by
  induction j with
  | zero => rfl
  | succ j ih => rw [seB_succ, List.length_append, ih]; simp; omega
def hB : Bs := [113, 117, 101, 114, 121, 40, 36, 97, 58]
def rB (n : Nat) (c : UInt8) : Bs := List.replicate n c
def mB (c : Nat) : Bs := hB ++ rB c 91 ++ ([73, 110, 116] ++ rB c 93 ++ [41, 123, 97, 40, 98, 58])
def vB (b c : Nat) : Bs := mB c ++ opB b ++ ([49] ++ clB b ++ [41])
theorem mB_len (c : Nat) : (mB c).length = 18 + 2 * c := by simp [mB, hB, rB]; omega
theorem vB_len (b c : Nat) : (vB b c).length = 20 + 2 * c + (opB b).length + b := by
  unfold vB
  simp only [List.length_append, mB_len, clB_len, List.length_cons, List.length_nil]; omega
theorem deepB (j b c : Nat) : bytesK (deepK j b c) = vB b c ++ seB j ++ rB j 125 ++ [125] := by
  unfold deepK vB mB opB clB seB rB
  simp only [bytesK_app, bytesK_cons, bytes_rep, List.append_assoc, List.cons_append, List.nil_append]
  rfl
theorem deepK_len (j b c : Nat) : (deepK j b c).length ≤ 40 + 2 * c + 4 * b + 3 * j := by
  have h1 : (opsK (shV b)).length ≤ 3 * b := by
    have : ∀ sh : List Bool, (opsK sh).length ≤ 3 * sh.length := by
      intro sh
      induction sh with
      | nil => exact Nat.le_refl _
      | cons x sh ih =>
        have : opsK (x :: sh) = opK x ++ opsK sh := rfl
        rw [this, List.length_append, List.length_cons]
        cases x <;> simp [opK] <;> omega
    have := this (shV b)
    rw [shV_len] at this; exact this
  have h2 : (clsK (shV b)).length = b := by simp [clsK, shV_len]
  have h3 : (seK j).length = 2 * j := by simp [seK]; omega
  unfold deepK headK midK
  simp only [List.length_append, List.length_cons, List.length_nil, List.length_replicate, h2, h3]
  omega
/-- What the law expects, and what comes of it. -/
def DeepE (j b c : Nat) (T E : Int) : Prop := (c ≤ 32 ∧ b ≤ 32 ∧ j ≤ 31 ∧ T = 0 ∧ E = 0) ∨ (32 < c ∧ T = 41 ∧ E = 61) ∨ (c ≤ 32 ∧ 32 < b ∧ T = (((mB c).length + 64 : Nat) : Int) ∧ E = 61) ∨ (c ≤ 32 ∧ b ≤ 32 ∧ 31 < j ∧ T = (((vB b c).length + 62 : Nat) : Int) ∧ E = 61)
theorem deep_parse {j b c : Nat} {T E : Int} (hj : j < 64) (hb : b < 64) (hc : c < 64) (h : DeepE j b c T E) :
    (E = 0 ∧ T = 0 ∧ ∃ d, parseS (vB b c ++ seB j ++ rB j 125 ++ [125]) = .ok d) ∨ (E = 61 ∧ ∃ p : Nat, T = (p : Int) ∧ parseS (vB b c ++ seB j ++ rB j 125 ++ [125]) = .error (p, 61)) := by
  have hl : (bytesK (deepK j b c)).length ≤ 16384 := by
    rw [deepB]
    simp only [List.length_append, vB_len, seB_len, rB, List.length_replicate, List.length_cons, List.length_nil]
    have := opB_len b
    omega
  obtain ⟨ts, h1, h2, h3⟩ := toks_of (alt_deep j b c) (Nat.le_trans (deepK_len j b c) (by omega)) hl
  rw [← deepB]
  generalize hN : (bytesK (deepK j b c)).length = N at hl
  have hp : parseS (bytesK (deepK j b c)) = match docS (ts ++ [eofT N]) with | .error p => .error p | .ok p => .ok p.1 := by
    unfold parseS
    rw [h2]
    simp only [hN]
    cases docS (ts ++ [eofT N]) <;> rfl
  rw [hp]
  clear hp h2
  rcases h with ⟨c1, b1, j1, rfl, rfl⟩ | ⟨c1, rfl, rfl⟩ | ⟨c1, b1, rfl, rfl⟩ | ⟨c1, b1, j1, rfl, rfl⟩
  · left
    refine ⟨rfl, rfl, ?_⟩
    obtain ⟨hd, t, rfl, k1, hx⟩ := saysK_split (h1.trans rfl : saysK ts = headK ++ _)
    replace h1 := hx
    clear hx
    obtain ⟨os, t, rfl, k2, hx⟩ := saysK_split h1
    replace h1 := hx
    clear hx
    obtain ⟨bb, ee, t, rfl, hx⟩ := saysK_one h1
    replace h1 := hx
    clear hx
    obtain ⟨cs, t, rfl, k3, hx⟩ := saysK_split h1
    replace h1 := hx
    clear hx
    obtain ⟨md, t, rfl, k4, hx⟩ := saysK_split h1
    replace h1 := hx
    clear hx
    obtain ⟨vs, t, rfl, k5, hx⟩ := saysK_split h1
    replace h1 := hx
    clear hx
    obtain ⟨b3, e3, t, rfl, hx⟩ := saysK_one h1
    replace h1 := hx
    clear hx
    obtain ⟨ws, t, rfl, k6, hx⟩ := saysK_split h1
    replace h1 := hx
    clear hx
    obtain ⟨rp, t, rfl, k7, hx⟩ := saysK_split h1
    replace h1 := hx
    clear hx
    obtain ⟨ss, t, rfl, k8, hx⟩ := saysK_split h1
    replace h1 := hx
    clear hx
    obtain ⟨us, t, rfl, k9, hx⟩ := saysK_split h1
    replace h1 := hx
    clear hx
    obtain ⟨b4, e4, t, rfl, hx⟩ := saysK_one h1
    replace h1 := hx
    clear hx
    obtain rfl := says_nil h1
    obtain ⟨d, hd'⟩ := deep_ok (b := bb) (e := ee) (b1 := b3) (e1 := e3) (b2 := b4) (e2 := e4) (N := N) k1 c1 k2 k3 k4 (by rw [shV_len]; exact b1) k5 k6 k7 j1 k8 k9
    refine ⟨d, ?_⟩
    simp only [List.append_assoc, List.cons_append, List.nil_append] at hd' ⊢
    rw [hd']
  · right
    refine ⟨rfl, 41, rfl, ?_⟩
    obtain ⟨k, rfl⟩ : ∃ k, c = 32 + (k + 1) := ⟨c - 33, by omega⟩
    obtain ⟨t1, t2, rfl, g1, g2, g3⟩ := h3 (headK ++ List.replicate 32 (pK 91)) (pK 91) _ (by unfold deepK; rw [show List.replicate (32 + (k + 1)) (pK 91) = List.replicate 32 (pK 91) ++ pK 91 :: List.replicate k (pK 91) from by rw [← List.replicate_append_replicate]; rfl]; simp only [List.append_assoc, List.cons_append]; rfl)
    obtain ⟨hd, os, rfl, k1, k2⟩ := saysK_split g1
    obtain ⟨bb, ee, t, rfl, g4⟩ := saysK_one g2
    have := deep_types (m := t ++ [eofT N]) k1 (os := os ++ [⟨0, [91], bb, ee⟩]) (by
      unfold saysK at k2 ⊢
      rw [List.map_append, k2]; rfl)
    have hlen : os.length = 32 := by
      have := congrArg List.length k2
      simpa [saysK] using this
    rw [List.drop_left' hlen] at this
    have e1 : hd ++ os ++ ⟨0, [91], bb, ee⟩ :: t ++ [eofT N] = hd ++ (os ++ [⟨0, [91], bb, ee⟩] ++ (t ++ [eofT N])) := by simp
    rw [e1, this]
    have g5 : bb = 41 := g3.trans (by rw [bytesK_app, bytes_rep]; rfl)
    show Except.error (bb, 61) = _
    rw [g5]
  · right
    refine ⟨rfl, _, rfl, ?_⟩
    obtain ⟨r, hr⟩ := shV_split b b1
    obtain ⟨t1, t2, rfl, g1, g2, g3⟩ := h3 (headK ++ (List.replicate c (pK 91) ++ (1, [73, 110, 116]) :: (List.replicate c (pK 93) ++ (midK ++ opsK (shV 32))))) (pK 91) _ (by
      unfold deepK
      rw [hr]
      unfold opsK
      rw [List.flatMap_append, List.flatMap_cons]
      simp only [List.append_assoc, List.cons_append, opK, List.nil_append]; rfl)
    obtain ⟨hd, t, rfl, k1, hx⟩ := saysK_split g1
    replace g1 := hx
    clear hx
    obtain ⟨os, t, rfl, k2, hx⟩ := saysK_split g1
    replace g1 := hx
    clear hx
    obtain ⟨bb, ee, t, rfl, hx⟩ := saysK_one g1
    replace g1 := hx
    clear hx
    obtain ⟨cs, t, rfl, k3, hx⟩ := saysK_split g1
    replace g1 := hx
    clear hx
    obtain ⟨md, vs, rfl, k4, k5⟩ := saysK_split g1
    obtain ⟨b3, e3, t, rfl, g4⟩ := saysK_one g2
    have := deep_values (m := t ++ [eofT N]) (b := bb) (e := ee) k1 c1 k2 k3 k4 (shV_len 32) k5 (x := true) (o := [⟨0, [91], b3, e3⟩]) rfl
    have e1 : hd ++ (os ++ ⟨1, [73, 110, 116], bb, ee⟩ :: (cs ++ (md ++ vs))) ++ ⟨0, [91], b3, e3⟩ :: t ++ [eofT N] = hd ++ (os ++ ⟨1, [73, 110, 116], bb, ee⟩ :: (cs ++ (md ++ (vs ++ ([⟨0, [91], b3, e3⟩] ++ (t ++ [eofT N])))))) := by simp
    rw [e1, this]
    have g5 : b3 = (mB c).length + 64 := g3.trans (by
      simp only [bytesK_app, bytesK_cons, bytes_rep, List.length_append, mB_len, List.length_replicate]
      have := opB_32
      unfold opB at this
      rw [this]
      simp [headK, midK, bytesK]; omega)
    show Except.error (b3, 61) = _
    rw [g5]
  · right
    refine ⟨rfl, _, rfl, ?_⟩
    obtain ⟨k, rfl⟩ : ∃ k, j = 31 + (k + 1) := ⟨j - 32, by omega⟩
    obtain ⟨t1, t2, rfl, g1, g2, g3⟩ := h3 (headK ++ (List.replicate c (pK 91) ++ (1, [73, 110, 116]) :: (List.replicate c (pK 93) ++ (midK ++ (opsK (shV b) ++ (2, [49]) :: (clsK (shV b) ++ ([pK 41] ++ seK 31)))))))  (pK 123) _ (by
      unfold deepK
      have : seK (31 + (k + 1)) = seK 31 ++ pK 123 :: (1, [97]) :: seK k := by
        unfold seK
        rw [← List.replicate_append_replicate, List.flatten_append, List.replicate_succ]; rfl
      rw [this]
      simp only [List.append_assoc, List.cons_append]; rfl)
    obtain ⟨hd, t, rfl, k1, hx⟩ := saysK_split g1
    replace g1 := hx
    clear hx
    obtain ⟨os, t, rfl, k2, hx⟩ := saysK_split g1
    replace g1 := hx
    clear hx
    obtain ⟨bb, ee, t, rfl, hx⟩ := saysK_one g1
    replace g1 := hx
    clear hx
    obtain ⟨cs, t, rfl, k3, hx⟩ := saysK_split g1
    replace g1 := hx
    clear hx
    obtain ⟨md, t, rfl, k4, hx⟩ := saysK_split g1
    replace g1 := hx
    clear hx
    obtain ⟨vs, t, rfl, k5, hx⟩ := saysK_split g1
    replace g1 := hx
    clear hx
    obtain ⟨b3, e3, t, rfl, hx⟩ := saysK_one g1
    replace g1 := hx
    clear hx
    obtain ⟨ws, t, rfl, k6, hx⟩ := saysK_split g1
    replace g1 := hx
    clear hx
    obtain ⟨rp, ss, rfl, k7, k8⟩ := saysK_split g1
    obtain ⟨b4, e4, t, rfl, g4⟩ := saysK_one g2
    have := deep_sets (m := t ++ [eofT N]) (b := bb) (e := ee) (b1 := b3) (e1 := e3) k1 c1 k2 k3 k4 (by rw [shV_len]; exact b1) k5 k6 k7 k8 (o := [⟨0, [123], b4, e4⟩]) ⟨b4, e4, [], rfl⟩
    have e1 : hd ++ (os ++ ⟨1, [73, 110, 116], bb, ee⟩ :: (cs ++ (md ++ (vs ++ ⟨2, [49], b3, e3⟩ :: (ws ++ (rp ++ ss)))))) ++ ⟨0, [123], b4, e4⟩ :: t ++ [eofT N] = hd ++ (os ++ ⟨1, [73, 110, 116], bb, ee⟩ :: (cs ++ (md ++ (vs ++ ⟨2, [49], b3, e3⟩ :: (ws ++ (rp ++ (ss ++ ([⟨0, [123], b4, e4⟩] ++ (t ++ [eofT N]))))))))) := by simp
    rw [e1, this]
    have g5 : b4 = (vB b c).length + 62 := g3.trans (by
      rw [vB_len]
      simp only [bytesK_app, bytesK_cons, bytes_rep, List.length_append, List.length_replicate]
      have h1 : (bytesK (opsK (shV b))).length = (opB b).length := rfl
      have h2 : (bytesK (clsK (shV b))).length = b := clB_len b
      have h3 : (bytesK (seK 31)).length = 62 := seB_len 31
      rw [h1, h2, h3]
      simp [headK, midK, bytesK]; omega)
    show Except.error (b4, 61) = _
    rw [g5]
end Go.Proofs.YtkmopfmofcehiaaGreatDoor
