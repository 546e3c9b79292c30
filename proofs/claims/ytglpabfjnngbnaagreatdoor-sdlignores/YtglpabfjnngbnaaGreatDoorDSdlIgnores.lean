/- A schema's tokens with any gaps between them are the same schema, and an error's place lies within the text or at its end: for any string (of at most 2^47 - 4096 bytes) and any slice of ints: the form's own reach; the listed package variables are as the program's text lays them (tied). -/
import Derived.Test.YtglpabfjnngbnaaGreatDoorLxF1
import Derived.Test.YtglpabfjnngbnaaGreatDoorLxC
import Derived.Test.YtglpabfjnngbnaaGreatDoorE7
import Derived.Test.YtglpabfjnngbnaaGreatDoorE6
import Derived.Test.YtglpabfjnngbnaaGreatDoorLxG5
import Derived.OwnWalk
import Derived.OneCell
import Derived.Laws.OwnMore
import Derived.Laws.IdiomStrings
import Derived.Lib.AppendStr
import Derived.Lib.UnsafeStr
import Derived.Deep.AppendLies
import Derived.OpenShut
import Derived.Test.YtglpabfjnngbnaaGreatDoorRows
import Derived.Test.YtglpabfjnngbnaaGreatDoorTie
import Derived.Test.YtglpabfjnngbnaaGreatDoorCards
import Derived.Test.YtglpabfjnngbnaaGreatDoorSyLd
import Derived.ProofKit
import Derived.ShutString
import Derived.ChangeOld
import Derived.SizedLaws
import Derived.LaidMore
import Derived.Lay
import Derived.SevenTiedAt
import Derived.Stop.Joined
import Derived.Shelf.Vars
namespace Go.Proofs.YtglpabfjnngbnaaGreatDoor
open Go Go.RowKit

theorem dec_ascii (S : ByteArray) (p : Nat) (h : (S.get! p).toNat < 128) : Utf8.decode S p = ((S.get! p).toNat, 1) := by
  unfold Utf8.decode
  simp only [Nat.add_zero]
  rw [if_pos h]
theorem stC_ascii (S : ByteArray) (p : Nat) (h : (S.get! p).toNat < 128) : stC S p = ((S.get! p).toNat : Int) := by
  unfold stC
  rw [dec_ascii S p h, if_neg]
  intro e
  have := (Prod.mk.inj e).1
  omega
theorem get_mk (x : Bs) (p : Nat) (hp : p < x.length) : (ByteArray.mk x.toArray).get! p = x[p] := by
  show x.toArray[p]! = _
  simp [hp]
theorem src_plain (x : Bs) (h : ∀ c ∈ x, 32 ≤ c.toNat ∧ c.toNat < 128) : srcB x = none := by
  have hw : ∀ n p, walkF ⟨x.toArray⟩ (sourceStep ⟨x.toArray⟩) n p (0, 0) = (0, 0) := by
    intro n
    induction n with
    | zero => intro p; rfl
    | succ n ih =>
      intro p
      unfold walkF
      by_cases hp : p < (ByteArray.mk x.toArray).size
      · rw [if_pos hp]
        have hp' : p < x.length := hp
        have hx := h x[p] (List.getElem_mem hp')
        have hg := get_mk x p hp'
        have hc : sourceB (stC ⟨x.toArray⟩ p) = true := by
          rw [stC_ascii _ _ (by rw [hg]; exact hx.2), hg]
          unfold sourceB
          simp
          omega
        have e : sourceStep ⟨x.toArray⟩ (0, 0) p = ((0, 0), true) := if_pos hc
        rw [e]
        exact ih _
      · rw [if_neg hp]
  unfold srcB sourceS walk
  rw [hw]
  rfl
attribute [local irreducible] srcB unitS
theorem hexV_bd {x : UInt8} {d : Nat} (h : hexV x = some d) : 32 ≤ x.toNat ∧ x.toNat < 128 := by
  unfold hexV at h
  split at h
  · omega
  · split at h
    · omega
    · split at h
      · omega
      · cases h
theorem lineF_esc (n : Nat) (x0 x1 x2 x3 : UInt8) (U : Bs) (h : nmbS [x0, x1, x2, x3, 121, 34] = some (U, [121, 34])) : lineF (n + 4) [120, 92, 117, x0, x1, x2, x3, 121, 34] = some (120 :: (U ++ [121]), []) := by
  have e1 : lineF (n + 4) [120, 92, 117, x0, x1, x2, x3, 121, 34] = (lineF (n + 3) [92, 117, x0, x1, x2, x3, 121, 34]).map fun q => (120 :: q.1, q.2) := rfl
  have e2 : lineF (n + 3) [92, 117, x0, x1, x2, x3, 121, 34] = (escS [117, x0, x1, x2, x3, 121, 34]).bind fun p => (lineF (n + 2) p.2).map fun q => (p.1 ++ q.1, q.2) := rfl
  have e3 : escS [117, x0, x1, x2, x3, 121, 34] = nmbS [x0, x1, x2, x3, 121, 34] := rfl
  have e4 : lineF (n + 2) [121, 34] = some ([121], []) := rfl
  rw [e1, e2, e3, h]
  simp only [Option.bind_some, e4, Option.map_some]
theorem lexS_esc (x0 x1 x2 x3 : UInt8) (d0 d1 d2 d3 : Nat) (h0 : hexV x0 = some d0) (h1 : hexV x1 = some d1) (h2 : hexV x2 = some d2) (h3 : hexV x3 = some d3) (V : Nat) (hV : d0 * 4096 + d1 * 256 + d2 * 16 + d3 = V) :
    lexS [34, 120, 92, 117, x0, x1, x2, x3, 121, 34] = .inr [⟨4, 120 :: (unitS V ++ [121]), 0, 10⟩] := by
  have hn : nmbS [x0, x1, x2, x3, 121, 34] = some (unitS V, [121, 34]) := by
    rw [← hV]
    show ((hexV x0).bind fun x => (hexV x1).bind fun y => (hexV x2).bind fun z => (hexV x3).bind fun t => some (unitS (x * 4096 + y * 256 + z * 16 + t), [121, 34])) = _
    rw [h0, h1, h2, h3]
    simp only [Option.bind_some]
  have hl := lineF_esc 7 x0 x1 x2 x3 (unitS V) hn
  have hs : srcB [34, 120, 92, 117, x0, x1, x2, x3, 121, 34] = none := src_plain _ (by
    intro c hc
    simp at hc
    rcases hc with rfl | rfl | rfl | rfl | rfl | rfl | rfl | rfl | rfl | rfl
    · decide
    · decide
    · decide
    · decide
    · exact hexV_bd h0
    · exact hexV_bd h1
    · exact hexV_bd h2
    · exact hexV_bd h3
    · decide
    · decide)
  have hx : textS [34, 120, 92, 117, x0, x1, x2, x3, 121, 34] = some (120 :: (unitS V ++ [121]), []) := by
    unfold textS
    have e1 : textR [34, 120, 92, 117, x0, x1, x2, x3, 121, 34] = lineF 11 [120, 92, 117, x0, x1, x2, x3, 121, 34] := rfl
    rw [e1, hl]
    simp only [Option.bind_some]
    have e2 : ahead [34, 120, 92, 117, x0, x1, x2, x3, 121, 34] [] = [34, 120, 92, 117, x0, x1, x2, x3, 121, 34] := rfl
    rw [e2, hs]
    simp only [Option.isSome_none, Bool.false_eq_true, if_false]
  have ht : tokS [34, 120, 92, 117, x0, x1, x2, x3, 121, 34] = .ok 4 (120 :: (unitS V ++ [121])) [] := by
    have e1 : tokS [34, 120, 92, 117, x0, x1, x2, x3, 121, 34] = (match textS [34, 120, 92, 117, x0, x1, x2, x3, 121, 34] with
      | none => .bad 52
      | some p => .ok 4 p.1 p.2) := rfl
    rw [e1, hx]
  have hk : skipS [34, 120, 92, 117, x0, x1, x2, x3, 121, 34] = .inl [34, 120, 92, 117, x0, x1, x2, x3, 121, 34] := rfl
  have he : lexS [34, 120, 92, 117, x0, x1, x2, x3, 121, 34] = lexG 10 0 [34, 120, 92, 117, x0, x1, x2, x3, 121, 34] := rfl
  rw [he, lexG_ok hk (by decide) ht, lexG_end rfl]
  rfl
def hexU (n : Nat) : UInt8 := if n < 10 then (48 + n).toUInt8 else (55 + n).toUInt8
theorem hexV_low : ∀ n : Fin 16, hexV (hexD n) = some n.1 := by decide
theorem hexV_cap : ∀ n : Fin 16, hexV (hexU n) = some n.1 := by decide
/-- Both ways of writing a number of 16 bits say the same. -/
theorem lexS_small (n : Nat) (hn : n < 65536) : lexS [34, 120, 92, 117, hexD (n / 4096 % 16), hexD (n / 256 % 16), hexD (n / 16 % 16), hexD (n / 1 % 16), 121, 34] = .inr [⟨4, 120 :: (unitS n ++ [121]), 0, 10⟩] :=
  lexS_esc _ _ _ _ _ _ _ _ (hexV_low ⟨n / 4096 % 16, Nat.mod_lt _ (by decide)⟩) (hexV_low ⟨n / 256 % 16, Nat.mod_lt _ (by decide)⟩) (hexV_low ⟨n / 16 % 16, Nat.mod_lt _ (by decide)⟩) (hexV_low ⟨n / 1 % 16, Nat.mod_lt _ (by decide)⟩) n (by show n / 4096 % 16 * 4096 + n / 256 % 16 * 256 + n / 16 % 16 * 16 + n / 1 % 16 = n; omega)
theorem lexS_great (n : Nat) (hn : n < 65536) : lexS [34, 120, 92, 117, hexU (n / 4096 % 16), hexU (n / 256 % 16), hexU (n / 16 % 16), hexU (n / 1 % 16), 121, 34] = .inr [⟨4, 120 :: (unitS n ++ [121]), 0, 10⟩] :=
  lexS_esc _ _ _ _ _ _ _ _ (hexV_cap ⟨n / 4096 % 16, Nat.mod_lt _ (by decide)⟩) (hexV_cap ⟨n / 256 % 16, Nat.mod_lt _ (by decide)⟩) (hexV_cap ⟨n / 16 % 16, Nat.mod_lt _ (by decide)⟩) (hexV_cap ⟨n / 1 % 16, Nat.mod_lt _ (by decide)⟩) n (by show n / 4096 % 16 * 4096 + n / 256 % 16 * 256 + n / 16 % 16 * 16 + n / 1 % 16 = n; omega)
end Go.Proofs.YtglpabfjnngbnaaGreatDoor
namespace Go.Proofs.YtglpabfjnngbnaaGreatDoor
open Go Go.RowKit

/-- Source characters from a place on. -/
def sF (s : ByteArray) (p : Nat) : Int × Int := walk s (sourceStep s) p (0, 0)
theorem sF_end (s : ByteArray) (p : Nat) (h : ¬ p < s.size) : sF s p = (0, 0) := walk_end h
theorem sF_step (s : ByteArray) (p : Nat) (h : p < s.size) : sF s p = if sourceB (stC s p) then sF s (p + stW s p) else ((p : Int), 10) := by
  unfold sF
  rw [walk_step h]
  cases hc : sourceB (stC s p) <;> simp [sourceStep, hc]
theorem stC_eq {s t : ByteArray} {p q : Nat} (h : Utf8.decode s p = Utf8.decode t q) : stC s p = stC t q ∧ stW s p = stW t q := by
  unfold stC stW
  rw [h]
  exact ⟨rfl, rfl⟩
theorem source_dec {s : ByteArray} {p : Nat} (h : sourceB (stC s p) = true) : Utf8.decode s p ≠ (65533, 1) := by
  intro e
  unfold stC at h
  rw [if_pos e] at h
  exact absurd h (by decide)
theorem src_ahead (s : ByteArray) : ∀ (n p : Nat), s.size - p ≤ n → p ≤ s.size →
    sF s p = (0, 0) ∨ ∃ q : Nat, p ≤ q ∧ q < s.size ∧ sF s p = ((q : Int), 10) ∧ sF (s.extract 0 q) p = (0, 0) := by
  intro n
  induction n with
  | zero =>
    intro p hp _
    exact Or.inl (sF_end _ _ (by omega))
  | succ n ih =>
    intro p hp hle
    by_cases h : p < s.size
    · have hw := dec_w s p h
      rw [sF_step s p h]
      by_cases hc : sourceB (stC s p) = true
      · rw [if_pos hc]
        rcases ih (p + stW s p) (by omega) (by omega) with h1 | ⟨q, h1, h2, h3, h4⟩
        · exact Or.inl h1
        · right
          have hd := source_dec hc
          have hz := size_cut s 0 q (by omega)
          obtain ⟨e1, e2⟩ := stC_eq (dec_take s q p (by omega) (by omega) (by unfold stW at h1; omega) hd)
          refine ⟨q, by omega, h2, h3, ?_⟩
          rw [sF_step _ _ (by omega), e1, e2, if_pos hc]; exact h4
      · rw [if_neg hc]
        have hz := size_cut s 0 p (by omega)
        exact Or.inr ⟨p, Nat.le_refl _, h, rfl, sF_end _ _ (by omega)⟩
    · exact Or.inl (sF_end _ _ h)
theorem take_mk (l : Bs) (q : Nat) : (ByteArray.mk l.toArray).extract 0 q = ⟨(l.take q).toArray⟩ := by
  apply ByteArray.ext; apply Array.toList_inj.1
  simp
theorem src_of {x : Bs} (h : sF ⟨x.toArray⟩ 0 = (0, 0)) : srcB x = none := by
  have h' : sourceS ⟨x.toArray⟩ = (0, 0) := h
  unfold srcB
  rw [h']
  rfl
/-- A plain sign is a source character. -/
theorem sF_plain (c : UInt8) (l : Bs) (hc : 32 ≤ c.toNat ∧ c.toNat < 128) : sF ⟨(c :: l).toArray⟩ 0 = sF ⟨(c :: l).toArray⟩ 1 := by
  have hg : (ByteArray.mk (c :: l).toArray).get! 0 = c := get_mk (c :: l) 0 (by simp)
  have h0 : 0 < (ByteArray.mk (c :: l).toArray).size := by
    show 0 < (c :: l).toArray.size
    simp
  have hd := dec_ascii ⟨(c :: l).toArray⟩ 0 (by rw [hg]; exact hc.2)
  have hs := stC_ascii ⟨(c :: l).toArray⟩ 0 (by rw [hg]; exact hc.2)
  rw [sF_step _ _ h0, hs, hg, if_pos]
  · unfold stW
    rw [hd]
    rfl
  · unfold sourceB
    simp
    omega
theorem src_cut (x : Bs) (k : Nat) (h : srcB (35 :: x) = some k) : ∃ j, k = j + 1 ∧ j < x.length ∧ srcB (35 :: x.take j) = none := by
  have hp := sF_plain 35 x (by decide)
  have hz : (ByteArray.mk (35 :: x).toArray).size = x.length + 1 := by
    show (35 :: x).toArray.size = _
    simp
  have h0 : sourceS ⟨(35 :: x).toArray⟩ = sF ⟨(35 :: x).toArray⟩ 1 := hp
  rcases src_ahead ⟨(35 :: x).toArray⟩ _ 1 (Nat.le_refl _) (by omega) with h1 | ⟨q, h1, h2, h3, h4⟩
  · exfalso
    unfold srcB at h
    rw [h0, h1] at h
    cases h
  · obtain ⟨j, rfl⟩ : ∃ j, q = j + 1 := ⟨q - 1, by omega⟩
    refine ⟨j, ?_, by omega, ?_⟩
    · unfold srcB at h
      rw [h0, h3] at h
      simp at h
      omega
    · apply src_of
      rw [sF_plain 35 (x.take j) (by decide)]
      rw [take_mk] at h4
      exact h4
end Go.Proofs.YtglpabfjnngbnaaGreatDoor
namespace Go.Proofs.YtglpabfjnngbnaaGreatDoor
open Go Go.RowKit
/-- Both tell the same, or both are wrong. -/
def RelR {α : Type} (r r' : Rs α) : Prop := (∃ x m m', r = .ok (x, m) ∧ r' = .ok (x, m') ∧ saysT m = saysT m') ∨ (∃ p p', r = .error p ∧ r' = .error p')
def LocD {α : Type} (f : List Tok → Rs α) : Prop := ∀ l l', saysT l = saysT l' → RelR (f l) (f l')
theorem says_len {l l' : List Tok} (h : saysT l = saysT l') : l.length = l'.length := by
  have := congrArg List.length h
  simpa [saysT] using this
theorem says_tail {l l' : List Tok} (h : saysT l = saysT l') : saysT l.tail = saysT l'.tail := by
  unfold saysT at *
  have := congrArg List.tail h
  simpa using this
theorem says_cons {l l' : List Tok} (h : saysT l = saysT l') : (l = [] ∧ l' = []) ∨ ∃ t r t' r', l = t :: r ∧ l' = t' :: r' ∧ t.k = t'.k ∧ t.t = t'.t := by
  cases l with
  | nil =>
    cases l' with
    | nil => exact Or.inl ⟨rfl, rfl⟩
    | cons t' r' => simp [saysT] at h
  | cons t r =>
    cases l' with
    | nil => simp [saysT] at h
    | cons t' r' =>
      simp [saysT] at h
      exact Or.inr ⟨t, r, t', r', rfl, rfl, h.1.1, h.1.2⟩
theorem says_isP {l l' : List Tok} (h : saysT l = saysT l') (s : Bs) : isP s l = isP s l' := by
  rcases says_cons h with ⟨rfl, rfl⟩ | ⟨t, r, t', r', rfl, rfl, h1, h2⟩
  · rfl
  · show (t.k == 0 && t.t == s) = (t'.k == 0 && t'.t == s)
    rw [h1, h2]
theorem says_isW {l l' : List Tok} (h : saysT l = saysT l') (s : Bs) : isW s l = isW s l' := by
  rcases says_cons h with ⟨rfl, rfl⟩ | ⟨t, r, t', r', rfl, rfl, h1, h2⟩
  · rfl
  · show (t.k == 1 && t.t == s) = (t'.k == 1 && t'.t == s)
    rw [h1, h2]
theorem says_isK {l l' : List Tok} (h : saysT l = saysT l') (k : Int) : isK k l = isK k l' := by
  rcases says_cons h with ⟨rfl, rfl⟩ | ⟨t, r, t', r', rfl, rfl, h1, h2⟩
  · rfl
  · show (t.k == k) = (t'.k == k)
    rw [h1]
theorem says_tx {l l' : List Tok} (h : saysT l = saysT l') : txT l = txT l' := by
  rcases says_cons h with ⟨rfl, rfl⟩ | ⟨t, r, t', r', rfl, rfl, h1, h2⟩
  · rfl
  · exact h2
theorem LocD.go {α β : Type} {f : List Tok → Rs α} {g : α → List Tok → Rs β} (hf : LocD f) (hg : ∀ a, LocD (g a)) : LocD (fun l => (f l).go g) := by
  intro l l' h
  rcases hf l l' h with ⟨x, m, m', e1, e2, e3⟩ | ⟨p, p', e1, e2⟩
  · show RelR ((f l).go g) ((f l').go g)
    rw [e1, e2, go_ok, go_ok]
    exact hg x m m' e3
  · show RelR ((f l).go g) ((f l').go g)
    rw [e1, e2, go_error, go_error]
    exact Or.inr ⟨p, p', rfl, rfl⟩
theorem locD_ok {α : Type} (a : α) : LocD (fun l => (.ok (a, l) : Rs α)) := fun l l' h => Or.inl ⟨a, l, l', rfl, rfl, h⟩
theorem locD_okf {α : Type} {x : List Tok → α} (hx : ∀ a b, saysT a = saysT b → x a = x b) : LocD (fun l => (.ok (x l, l.tail) : Rs α)) := fun l l' h => Or.inl ⟨x l, l.tail, l'.tail, rfl, by rw [hx l l' h], says_tail h⟩
theorem locD_err {α : Type} (g : List Tok → Nat × Int) : LocD (fun l => (.error (g l) : Rs α)) := fun l l' _ => Or.inr ⟨g l, g l', rfl, rfl⟩
theorem locD_if {α : Type} {c : List Tok → Bool} {f g : List Tok → Rs α} (hc : ∀ a b, saysT a = saysT b → c a = c b) (hf : LocD f) (hg : LocD g) : LocD (fun l => if c l then f l else g l) := by
  intro l l' h
  have e := hc l l' h
  show RelR (if c l = true then f l else g l) (if c l' = true then f l' else g l')
  rw [← e]
  split
  · exact hf l l' h
  · exact hg l l' h
theorem locD_tail {α : Type} {f : List Tok → Rs α} (hf : LocD f) : LocD (fun l => f l.tail) := fun _ _ h => hf _ _ (says_tail h)
theorem loc_name : LocD nameD := locD_if (c := isK 1) (fun _ _ h => says_isK h 1) (locD_okf fun _ _ h => says_tx h) (locD_err _)
theorem loc_sign (s : Bs) : LocD (signD s) := locD_if (c := isP s) (fun _ _ h => says_isP h s) (locD_okf fun _ _ _ => rfl) (locD_err _)
theorem loc_must (s : Bs) : LocD (mustD s) := locD_if (c := isW s) (fun _ _ h => says_isW h s) (locD_okf fun _ _ _ => rfl) (locD_err _)
theorem loc_word : LocD wordD := locD_if (c := fun l => notW.contains (txT l)) (fun _ _ h => by simp only [says_tx h]) (locD_err _) loc_name
theorem loc_bang : LocD bangD := locD_if (c := isP [33]) (fun _ _ h => says_isP h _) (locD_okf fun _ _ _ => rfl) (locD_ok _)
theorem loc_ref1 : LocD refD1 := loc_name.go fun _ => loc_bang.go fun _ => locD_ok _
theorem loc_ref : LocD refD := locD_if (c := isP [91]) (f := fun l => (refD1 l.tail).go fun x l2 => (signD [93] l2).go fun _ l3 => (bangD l3).go fun c l4 => .ok ((x.1, x.2 ++ 91 :: c), l4)) (fun _ _ h => says_isP h _) ((locD_tail loc_ref1).go fun _ => (loc_sign _).go fun _ => loc_bang.go fun _ => locD_ok _) loc_ref1
theorem loc_inverse : LocD inverseD := (loc_sign _).go fun _ => (loc_must _).go fun _ => (loc_sign _).go fun _ => loc_name.go fun _ => (loc_sign _).go fun _ => locD_ok _
theorem loc_directive (x : Bool × Bs) : LocD (directiveD x) := locD_if (c := fun l => !x.1 && isW searchB l) (fun _ _ h => by simp only [says_isW h]) (locD_okf fun _ _ _ => rfl) (locD_if (c := fun l => x.2 == [] && isW inverseB l) (fun _ _ h => by simp only [says_isW h]) ((locD_tail loc_inverse).go fun _ => locD_ok _) (locD_err _))
theorem loc_dirsF : ∀ k x, LocD (dirsF k x)
  | 0, _ => locD_err _
  | k + 1, x => locD_if (c := fun l => (!x.1 || x.2 == []) && isP [64] l) (fun _ _ h => by simp only [says_isP h]) ((locD_tail (loc_directive x)).go fun y => loc_dirsF k y) (locD_ok x)
theorem loc_dirs (x : Bool × Bs) : LocD (dirsD x) := fun l l' h => by
  unfold dirsD
  rw [says_len h]
  exact loc_dirsF _ x l l' h
theorem loc_field : LocD fieldD := loc_name.go fun _ => (loc_sign _).go fun _ => loc_ref.go fun _ => (loc_dirs _).go fun _ => locD_ok _
theorem loc_anyF {α : Type} {f : List Tok → Rs α} (hf : LocD f) (last : Bs) : ∀ k, LocD (anyF f last k)
  | 0 => locD_err _
  | k + 1 => locD_if (c := isP last) (fun _ _ h => says_isP h _) (locD_okf fun _ _ _ => rfl) (hf.go fun _ => (loc_anyF hf last k).go fun _ => locD_ok _)
theorem loc_any {α : Type} {f : List Tok → Rs α} (hf : LocD f) (last : Bs) : LocD (anyS f last) := fun l l' h => by
  unfold anyS
  rw [says_len h]
  exact loc_anyF hf last _ l l' h
theorem loc_some {α : Type} {f : List Tok → Rs α} (hf : LocD f) (last : Bs) : LocD (someS f last) := hf.go fun _ => (loc_any hf last).go fun _ => locD_ok _
theorem loc_within {α : Type} {f : List Tok → Rs α} (hf : LocD f) : LocD (withinD f) := (loc_sign _).go fun _ => loc_some hf _
theorem loc_define : LocD defineD := locD_if (c := isW typeB) (fun _ _ h => says_isW h _) ((locD_tail loc_name).go fun _ => (loc_within loc_field).go fun _ => locD_ok _) (locD_if (c := isW enumB) (fun _ _ h => says_isW h _) ((locD_tail loc_name).go fun _ => (loc_within loc_word).go fun _ => locD_ok _) (locD_err _))
theorem loc_schema : LocD schemaD := (loc_some loc_define []).go fun _ => locD_ok _
/-! ### Where what is wrong is -/
def PlB {α : Type} (N : Nat) (f : List Tok → Rs α) : Prop := ∀ l, (∀ t ∈ l, t.b ≤ N) → (∀ p, f l = .error p → p.1 ≤ N) ∧ (∀ x m, f l = .ok (x, m) → ∀ t ∈ m, t.b ≤ N)
theorem at_le {N : Nat} {l : List Tok} (h : ∀ t ∈ l, t.b ≤ N) : atT l ≤ N := by
  cases l with
  | nil => exact Nat.zero_le _
  | cons t r => exact h t (by simp)
theorem PlB.go {α β : Type} {N : Nat} {f : List Tok → Rs α} {g : α → List Tok → Rs β} (hf : PlB N f) (hg : ∀ a, PlB N (g a)) : PlB N (fun l => (f l).go g) := by
  intro l hl
  cases hx : f l with
  | error q =>
    refine ⟨fun p h => ?_, fun x m h => ?_⟩
    · simp only [hx, go_error] at h
      cases h
      exact (hf l hl).1 _ hx
    · simp only [hx, go_error] at h
      cases h
  | ok q =>
    have := hg q.1 q.2 ((hf l hl).2 q.1 q.2 hx)
    simp only [hx]
    exact this
theorem plB_ok {α : Type} {N : Nat} (a : α) : PlB N (fun l => (.ok (a, l) : Rs α)) := fun l hl => ⟨fun p h => (by cases h), fun x m h => (by cases h; exact hl)⟩
theorem mem_tail {l : List Tok} {t : Tok} (h : t ∈ l.tail) : t ∈ l := List.mem_of_mem_tail h
theorem plB_okf {α : Type} {N : Nat} (x : List Tok → α) : PlB N (fun l => (.ok (x l, l.tail) : Rs α)) := fun l hl => ⟨fun p h => (by cases h), fun x m h => (by cases h; exact fun t ht => hl t (mem_tail ht))⟩
theorem plB_err {α : Type} {N : Nat} : PlB N (fun l => (.error (atT l, 80) : Rs α)) := fun l hl => ⟨fun p h => (by cases h; exact at_le hl), fun x m h => (by cases h)⟩
theorem plB_if {α : Type} {N : Nat} {c : List Tok → Bool} {f g : List Tok → Rs α} (hf : PlB N f) (hg : PlB N g) : PlB N (fun l => if c l then f l else g l) := by
  intro l hl
  simp only
  split
  · exact hf l hl
  · exact hg l hl
theorem plB_tail {α : Type} {N : Nat} {f : List Tok → Rs α} (hf : PlB N f) : PlB N (fun l => f l.tail) := fun l hl => hf l.tail fun t ht => hl t (mem_tail ht)
section
variable {N : Nat}
theorem pl_name : PlB N nameD := plB_if (c := isK 1) (plB_okf _) plB_err
theorem pl_sign (s : Bs) : PlB N (signD s) := plB_if (c := isP s) (plB_okf _) plB_err
theorem pl_must (s : Bs) : PlB N (mustD s) := plB_if (c := isW s) (plB_okf _) plB_err
theorem pl_word : PlB N wordD := plB_if (c := fun l => notW.contains (txT l)) plB_err pl_name
theorem pl_bang : PlB N bangD := plB_if (c := isP [33]) (plB_okf _) (plB_ok _)
theorem pl_ref1 : PlB N refD1 := pl_name.go fun _ => pl_bang.go fun _ => plB_ok _
theorem pl_ref : PlB N refD := plB_if (c := isP [91]) (f := fun l => (refD1 l.tail).go fun x l2 => (signD [93] l2).go fun _ l3 => (bangD l3).go fun c l4 => .ok ((x.1, x.2 ++ 91 :: c), l4)) ((plB_tail pl_ref1).go fun _ => (pl_sign _).go fun _ => pl_bang.go fun _ => plB_ok _) pl_ref1
theorem pl_inverse : PlB N inverseD := (pl_sign _).go fun _ => (pl_must _).go fun _ => (pl_sign _).go fun _ => pl_name.go fun _ => (pl_sign _).go fun _ => plB_ok _
theorem pl_directive (x : Bool × Bs) : PlB N (directiveD x) := plB_if (c := fun l => !x.1 && isW searchB l) (plB_okf _) (plB_if (c := fun l => x.2 == [] && isW inverseB l) ((plB_tail pl_inverse).go fun _ => plB_ok _) plB_err)
theorem pl_zero {α : Type} : PlB N (fun _ => (.error (0, 0) : Rs α)) := fun l _ => ⟨fun p h => (by cases h; exact Nat.zero_le _), fun x m h => (by cases h)⟩
theorem pl_dirsF : ∀ k x, PlB N (dirsF k x)
  | 0, _ => pl_zero
  | k + 1, x => plB_if (c := fun l => (!x.1 || x.2 == []) && isP [64] l) ((plB_tail (pl_directive x)).go fun y => pl_dirsF k y) (plB_ok x)
theorem pl_field : PlB N fieldD := pl_name.go fun _ => (pl_sign _).go fun _ => pl_ref.go fun _ => PlB.go (f := dirsD (false, [])) (fun l hl => pl_dirsF (l.length + 1) _ l hl) fun _ => plB_ok _
theorem pl_anyF {α : Type} {f : List Tok → Rs α} (hf : PlB N f) (last : Bs) : ∀ k, PlB N (anyF f last k)
  | 0 => pl_zero
  | k + 1 => plB_if (c := isP last) (plB_okf _) (hf.go fun _ => (pl_anyF hf last k).go fun _ => plB_ok _)
theorem pl_some {α : Type} {f : List Tok → Rs α} (hf : PlB N f) (last : Bs) : PlB N (someS f last) := hf.go fun _ => PlB.go (f := anyS f last) (fun l hl => pl_anyF hf last (l.length + 1) l hl) fun _ => plB_ok _
theorem pl_within {α : Type} {f : List Tok → Rs α} (hf : PlB N f) : PlB N (withinD f) := (pl_sign _).go fun _ => pl_some hf _
theorem pl_define : PlB N defineD := plB_if (c := isW typeB) ((plB_tail pl_name).go fun _ => (pl_within pl_field).go fun _ => plB_ok _) (plB_if (c := isW enumB) ((plB_tail pl_name).go fun _ => (pl_within pl_word).go fun _ => plB_ok _) plB_err)
theorem pl_schema : PlB N schemaD := (pl_some pl_define []).go fun _ => plB_ok _
end
end Go.Proofs.YtglpabfjnngbnaaGreatDoor
namespace Go.Proofs.YtglpabfjnngbnaaGreatDoor
open Go Go.RowKit

def gapB : Nat → Bs
  | 0 => [32]
  | 1 => [44]
  | 2 => [35, 120, 10]
  | _ => [9, 13, 10]
theorem gap_of (k : Nat) : Gap (gapB k) ∧ (∃ c m, gapB k = c :: m ∧ brkL.contains c = false) ∧ (gapB k).length ≤ 4 := by
  match k with
  | 0 => exact ⟨Gap.one rfl, ⟨_, _, rfl, rfl⟩, by decide⟩
  | 1 => exact ⟨Gap.one rfl, ⟨_, _, rfl, rfl⟩, by decide⟩
  | 2 => exact ⟨Gap.com (body := [120]) (c := 10) (by decide) (src_plain _ (by decide)) rfl, ⟨_, _, rfl, rfl⟩, by decide⟩
  | _ + 3 => exact ⟨(Gap.one (c := 9) rfl).app ((Gap.one (c := 13) rfl).app (Gap.one (c := 10) rfl)), ⟨_, _, rfl, rfl⟩, by show 3 ≤ 4; omega⟩
/-- The same pieces, with other gaps. -/
def Gs : List Pc → List Pc → Prop
  | [], [] => True
  | q :: qs, a :: az => q.p = a.p ∧ q.k = a.k ∧ q.t = a.t ∧ (∃ k, q.g = gapB k) ∧ Gs qs az
  | _, _ => False
theorem Gs.len : ∀ {qs az : List Pc}, Gs qs az → qs.length = az.length
  | [], [], _ => rfl
  | _ :: _, _ :: _, h => by
    have := Gs.len h.2.2.2.2
    simp [this]
  | [], _ :: _, h => h.elim
  | _ :: _, [], h => h.elim
theorem Gs.snoc : ∀ {qs az : List Pc} (a : Pc) (k : Nat), Gs qs az → Gs (qs ++ [⟨gapB k, a.p, a.k, a.t⟩]) (az ++ [a])
  | [], [], _, k, _ => ⟨rfl, rfl, rfl, ⟨k, rfl⟩, trivial⟩
  | _ :: _, _ :: _, a, k, h => ⟨h.1, h.2.1, h.2.2.1, h.2.2.2.1, Gs.snoc a k h.2.2.2.2⟩
  | [], _ :: _, _, _, h => h.elim
  | _ :: _, [], _, _, h => h.elim
theorem Gs.says : ∀ {qs az : List Pc}, Gs qs az → saysP qs = saysP az
  | [], [], _ => rfl
  | q :: qs, a :: az, h => by
    have := Gs.says h.2.2.2.2
    unfold saysP at this ⊢
    rw [List.map_cons, List.map_cons, this, h.2.1, h.2.2.1]
  | [], _ :: _, h => h.elim
  | _ :: _, [], h => h.elim
theorem Gs.ok {tl : Bs} : ∀ {qs az : List Pc}, Gs qs az → AllOk az tl → AllOk qs []
  | [], [], _, _ => trivial
  | q :: qs, a :: az, h, ⟨_, h2, _, h4⟩ => by
    obtain ⟨e1, e2, e3, ⟨k, e4⟩, hg⟩ := h
    refine ⟨by rw [e4]; exact (gap_of k).1, by rw [e1, e2, e3]; exact h2, ?_, hg.ok h4⟩
    cases qs with
    | nil => rfl
    | cons q' qs' =>
      cases az with
      | nil => exact hg.elim
      | cons a' az' =>
        obtain ⟨_, _, _, ⟨k', e5⟩, _⟩ := hg
        obtain ⟨_, ⟨c, m, e6, e7⟩, _⟩ := gap_of k'
        show Fits q.p (q'.g ++ (q'.p ++ catP qs' []))
        rw [e5, e6]
        exact fits_blank _ _ _ e7
  | [], _ :: _, h, _ => h.elim
  | _ :: _, [], h, _ => h.elim
theorem Gs.size : ∀ {qs az : List Pc}, Gs qs az → (catP qs []).length ≤ (catP az []).length + 4 * az.length
  | [], [], _ => Nat.zero_le _
  | q :: qs, a :: az, h => by
    obtain ⟨e1, _, _, ⟨k, e4⟩, hg⟩ := h
    have h1 := hg.size
    have h2 := (gap_of k).2.2
    show (q.g ++ (q.p ++ catP qs [])).length ≤ (a.g ++ (a.p ++ catP az [])).length + 4 * (a :: az).length
    simp only [List.length_append, List.length_cons, e1, e4]
    omega
  | [], _ :: _, h => h.elim
  | _ :: _, [], h => h.elim
theorem ign_sameD {s : Bs} {ps qs : List Pc} {tl : Bs} (hr : Right s ps tl) (hg : Gs qs ps) (hl : (catP qs []).length ≤ 16384) :
    (∃ x, parseD s = .ok x ∧ parseD (catP qs []) = .ok x) ∨ ∃ p p', p ≤ s.length ∧ parseD s = .error (p, 80) ∧ parseD (catP qs []) = .error (p', 80) := by
  have hr' : Right (catP qs []) qs [] := ⟨rfl, hg.ok hr.ok, by rw [hg.len]; exact hr.few, skip_nil, hl⟩
  have e1 := lexS_right hr
  have e2 := lexS_right hr'
  have hs : saysT (toksP s.length ps tl ++ [eofT s.length]) = saysT (toksP (catP qs []).length qs [] ++ [eofT (catP qs []).length]) := by
    have h1 := toksP_says s.length ps tl
    have h2 := toksP_says (catP qs []).length qs []
    unfold saysT at *
    rw [List.map_append, List.map_append, h1, h2, hg.says]
    rfl
  have hb : ∀ t ∈ toksP s.length ps tl ++ [eofT s.length], t.b ≤ s.length := by
    intro t ht
    rcases List.mem_append.1 ht with ht | ht
    · have e1' := e1
      unfold lexS at e1'
      rw [if_neg (by have := hr.short; omega)] at e1'
      exact (lexF_ends _ _ _ _ _ e1' t ht).1
    · rw [List.mem_singleton] at ht
      subst ht
      exact Nat.le_refl _
  have PL := pl_schema (N := s.length) _ hb
  unfold parseD
  rw [e1, e2]
  simp only
  rcases loc_schema _ _ hs with ⟨x, m, m', h1, h2, _⟩ | ⟨p, p', h1, h2⟩
  · exact Or.inl ⟨x, by rw [h1], by rw [h2]⟩
  · have c1 := e80_schema _ _ h1
    have c2 := e80_schema _ _ h2
    obtain ⟨a, b⟩ := p
    obtain ⟨a', b'⟩ := p'
    simp only at c1 c2
    subst c1
    subst c2
    exact Or.inr ⟨a, a', PL.1 _ h1, by rw [h1], by rw [h2]⟩
/-! ### A round -/
structure RndI (s : Bs) (ps : List Pc) (ts : List Tok) (j : Nat) (a : Pc) (t : Tok) : Prop where
  at_ : ts[j]? = some t
  lt : t.b < t.e
  hi : t.e ≤ s.length
  cut : (ByteArray.mk s.toArray).extract t.b t.e = ⟨a.p.toArray⟩
  len : a.p.length = t.e - t.b
  nxt : ps.take (j + 1) = ps.take j ++ [a]
theorem rndI_of {s : Bs} {ps : List Pc} {tl : Bs} (h : Right s ps tl) (j : Nat) (hj : j < ps.length) : ∃ a t, RndI s ps (toksP s.length ps tl) j a t := by
  have hsp : ps = ps.take j ++ ps[j] :: ps.drop (j + 1) := by
    rw [← List.drop_eq_getElem_cons hj, List.take_append_drop]
  have hkl : (ps.take j).length = j := by rw [List.length_take]; omega
  have hta : ps.take (j + 1) = ps.take j ++ [ps[j]] := by
    rw [List.take_add_one, List.getElem?_eq_getElem hj]
    rfl
  rw [hsp] at h
  obtain ⟨p1, p2, p3, p4, p5, p6⟩ := piece_at h
  rw [← hsp, hkl] at p1
  have hpl : 0 < ps[j].p.length := List.length_pos_iff.2 p5
  refine ⟨ps[j], _, p1, ?_, p4, ?_, ?_, hta⟩
  · show preLx (ps.take j) + ps[j].g.length < preLx (ps.take j) + ps[j].g.length + ps[j].p.length
    omega
  · show (ByteArray.mk s.toArray).extract (preLx (ps.take j) + ps[j].g.length) (preLx (ps.take j) + ps[j].g.length + ps[j].p.length) = _
    apply ByteArray.ext; apply Array.toList_inj.1
    have e : (s.take (preLx (ps.take j) + ps[j].g.length + ps[j].p.length)).drop (preLx (ps.take j) + ps[j].g.length) = ps[j].p := by
      rw [List.drop_take, p3, Nat.add_sub_cancel_left, List.take_left' rfl]
    simpa [List.drop_take] using e
  · show ps[j].p.length = preLx (ps.take j) + ps[j].g.length + ps[j].p.length - (preLx (ps.take j) + ps[j].g.length)
    omega
theorem gs_bytes {s : Bs} {ps qs : List Pc} {tl : Bs} {j : Nat} (h : Right s ps tl) (hg : Gs qs (ps.take j)) : (catP qs []).length ≤ s.length + 8192 := by
  have h1 := hg.size
  have h2 := right_len h
  have h3 : preLx ps = preLx (ps.take j) + preLx (ps.drop j) := by
    unfold preLx
    conv => lhs; rw [← List.take_append_drop j ps, catP_app, catP_head, List.length_append]
  have h4 := h.few
  have h5 : (ps.take j).length ≤ ps.length := by rw [List.length_take]; omega
  unfold preLx at h2 h3
  omega
/-! ### Rows that a call owns -/
theorem Tryz.infoByteI : (Tryz.prog.info? 5).map (fun i => (i.zero, i.size, i.bytes)) = some (some (.int .u8 0), 1, 1) := by kernel_rfl
theorem own_geI {w : World} {B e sz n : Nat} {v : Value} {xs : List Value} (h : w.ownsRow B e sz v n xs) : ∀ k, v.ownBlock = some k → B ≤ k := by
  intro k hk
  rcases h.2 with ⟨rfl, _⟩ | ⟨g, cap, cur, rfl, hg, _⟩
  · simp [Value.ownBlock] at hk
  · simp [Value.ownBlock] at hk
    omega
theorem conv_rowI {W : World} {B g cap : Nat} {l : List UInt8} (h : W.ownsRow B 5 1 (.slice (some ⟨g, 0, none⟩) l.length cap) l.length (Lib.byteCells l)) :
    (convert 40 9 (.slice (some ⟨g, 0, none⟩) l.length cap)).run Tryz.prog W = .ok (.string ⟨l.toArray⟩) W := by
  refine run_convert_bytes_back (P := Tryz.prog) W 40 9 5 ⟨g, 0, none⟩ cap l Tryz.underlying40 Tryz.underlying5 Tryz.underlying9 ?_
  intro j hj
  rw [Addr.add_lit, Nat.zero_add, h.cellAt j (by omega)]
  simp [Lib.byteCells, hj]
abbrev BytesI (w : World) (B : Nat) (v : Value) (l : List UInt8) : Prop := w.ownsRow B 5 1 v l.length (Lib.byteCells l)
theorem owns_belowI {W W' : World} {B e sz n : Nat} {v : Value} {xs : List Value} (h : W.ownsRow B e sz v n xs) (hb : Below W.heap.size W W') : W'.ownsRow B e sz v n xs := by
  refine ⟨h.1, ?_⟩
  rcases h.2 with h2 | ⟨g, cap, cur, hv, hg, hh, r⟩
  · exact Or.inl h2
  · exact Or.inr ⟨g, cap, cur, hv, hg, (hb.block g (lt_of_block hh)).trans hh, r⟩
theorem not_noneI {w : World} {B e n : Nat} {v : Value} {xs : List Value} (h : w.ownsRow B e 1 v n xs) (hn : v ≠ .slice none 0 0) : ∃ g cap, v = .slice (some ⟨g, 0, none⟩) n cap := by
  rcases h.2 with ⟨h1, _⟩ | ⟨g, cap, cur, h1, _⟩
  · exact absurd h1 hn
  · exact ⟨g, cap, h1⟩
theorem own_nobI (w : World) : BytesI (w.alloc (.cells #[] 5)) w.heap.size (.slice (some ⟨w.heap.size, 0, none⟩) 0 0) [] :=
  ⟨rfl, Or.inr ⟨w.heap.size, 0, #[], rfl, Nat.le_refl _, heap_alloc_new _ _, Nat.le_refl _, Nat.zero_le _, rfl, rfl⟩⟩
theorem cellsT_atI : ∀ (ts : List Tok) (i : Nat) (t : Tok), ts[i]? = some t → (cellsT ts)[4 * i]? = some (.int .i64 t.k) ∧ (cellsT ts)[4 * i + 1]? = some (.string ⟨t.t.toArray⟩) ∧ (cellsT ts)[4 * i + 2]? = some (.int .i64 (t.b : Int)) ∧ (cellsT ts)[4 * i + 3]? = some (.int .i64 (t.e : Int))
  | [], _, _, h => by simp at h
  | t :: ts, 0, t', h => by
    simp at h
    subst h
    exact ⟨rfl, rfl, rfl, rfl⟩
  | t :: ts, i + 1, t', h => by
    have ih := cellsT_atI ts i t' (by simpa using h)
    have e : ∀ k, (cellsT (t :: ts))[4 * (i + 1) + k]? = (cellsT ts)[4 * i + k]? := fun k => by
      rw [show 4 * (i + 1) + k = (4 * i + k) + 4 by omega]
      rfl
    exact ⟨(e 0).trans ih.1, (e 1).trans ih.2.1, (e 2).trans ih.2.2.1, (e 3).trans ih.2.2.2⟩
/-- A slice that holds these tokens. -/
theorem toks_rowI {W : World} {B : Nat} {v : Value} {ts : List Tok} (h : Toks W B v ts) : ∃ a cap, v = .slice a ts.length cap ∧ ts.length ≤ cap ∧ (ts ≠ [] → ∃ g, a = some ⟨g, 0, none⟩ ∧ g < W.heap.size ∧ ∀ i t, ts[i]? = some t → W.cell? ⟨g, 4 * i + 2, none⟩ = some (.int .i64 (t.b : Int)) ∧ W.cell? ⟨g, 4 * i + 3, none⟩ = some (.int .i64 (t.e : Int))) := by
  rcases h.2 with ⟨rfl, h0⟩ | ⟨g, cap, cur, hv, hb, hg, hn, _, _, ht⟩
  · exact ⟨none, 0, by rw [h0], by omega, fun hne => absurd (List.length_eq_zero_iff.1 h0) hne⟩
  · refine ⟨_, cap, hv, hn, fun _ => ⟨g, rfl, lt_of_block hg, fun i t hi => ?_⟩⟩
    have hc := cellsT_atI ts i t hi
    have f : ∀ j x, (cellsT ts)[j]? = some x → W.cell? ⟨g, j, none⟩ = some x := fun j x hj => by
      rw [← ht, List.getElem?_take] at hj
      split at hj
      · unfold World.cell?
        rw [hg]
        simpa using hj
      · cases hj
    exact ⟨f _ _ hc.2.2.1, f _ _ hc.2.2.2⟩
/-- A string's bytes appended, at a step of a region that draws its order. -/
theorem step_append_str {P : Program} {w : World} {ops : Array Oper} {o : Oper} {a : Act} {K : Act → World → Prop} {Q : Exit → Act → World → Prop} {E : Prop} (hgd : o.guard = none) (sl x : Operand) (t u : TypeId)
    (ho : o.op = .call { callee := .builtin .append, args := #[sl, x], argTypes := #[t, u] })
    (base : Nat) (e : TypeId) (i : TypeInfo) (ht : P.underlying t = some (.slice e)) (hu : P.underlying u = some .string) (hi : P.info? e = some i) (hz : i.zero = some (.int .u8 0))
    (hsize : i.size = 1) (hby : i.bytes = 1)
    (v : Value) (n : Nat) (xs : List Value) (hs : a.eval sl = v) (hown : w.ownsRow base e 1 v n xs) (s : ByteArray) (hx : a.eval x = .string s)
    (h63 : n + s.size ≤ maxLen) (hbytes : n + s.size ≤ 140737488355328) (hbase : base ≤ w.heap.size)
    (h : ∀ v' w', w'.ownsRow base e 1 v' (n + s.size) (xs ++ Lib.strCells s) → w.grownBy w' v.ownBlock → (v' = .slice none 0 0 ↔ v = .slice none 0 0 ∧ s.size = 0) → K (a.put o.dst v') w') :
    if Region.wanted o (yielded ops a.tmps) = true then Oper.wp P o a w K Q else E := by
  have hw : Region.wanted o (yielded ops a.tmps) = true := by simp [Region.wanted, hgd]
  rw [if_pos hw]
  obtain ⟨v', w', hr, h2, h3, h4⟩ := Lib.run_append_own_string (P := P) w base t u o.type e i ht hu hi hz hsize hby v n xs hown s h63 hbytes hbase
  unfold Oper.wp execOp
  simp only [ho, resolve, invoke, builtin, Sem.run_bind, Sem.run_pure, Result.andThen_ok, List.map_toArray, List.map_cons, List.map_nil, hs, hx, hr]
  exact h v' w' h2 h3 h4
end Go.Proofs.YtglpabfjnngbnaaGreatDoor
namespace Go.Proofs.YtglpabfjnngbnaaGreatDoor
open Go Go.RowKit Go.Shelf
theorem prn_none {s : Sch} {ov ev : Value} {w : World} (h : printD s = none) (hS : SchAt w ov ev s) (L : SchL s) (gl : Gl w) : Calls Tryz.prog 12 #[.agg #[ov, ev]] w fun e w' => e = .returned (.tuple #[.string ⟨#[]⟩, .int .i64 81]) ∧ Below w.heap.size w w' := by
  have P := dprint_any s ov ev w hS L gl
  rw [h] at P
  exact P.mono fun e w' h => h
theorem prn_some {s : Sch} {t : Bs} {ov ev : Value} {w : World} (h : printD s = some t) (hS : SchAt w ov ev s) (L : SchL s) (gl : Gl w) : Calls Tryz.prog 12 #[.agg #[ov, ev]] w fun e w' => e = .returned (.tuple #[.string ⟨t.toArray⟩, .int .i64 0]) ∧ Below w.heap.size w w' := by
  have P := dprint_any s ov ev w hS L gl
  rw [h] at P
  exact P.mono fun e w' h => h
theorem par_ok {t : Bs} {x : Sch} {w : World} (h : parseD t = .ok x) (gl : Gl w) : Calls Tryz.prog 8 #[.string ⟨t.toArray⟩] w fun e w' => ∃ p1 n1 m1 p2 n2 m2, e = .returned (.tuple #[.agg #[.slice p1 n1 m1, .slice p2 n2 m2], .int .i64 0, .int .i64 0]) ∧ SchAt w' (.slice p1 n1 m1) (.slice p2 n2 m2) x ∧ Below w.heap.size w w' := by
  refine (dparse_at t w gl).mono ?_
  rintro e w' (⟨p, hp, _⟩ | ⟨y, p1, n1, m1, p2, n2, m2, hp, he, hs, hb⟩)
  · rw [h] at hp
    cases hp.out
  · rw [h] at hp
    have := hp.out
    cases this
    exact ⟨p1, n1, m1, p2, n2, m2, he, hs, hb⟩
theorem par_err {t : Bs} {p : Nat × Int} {w : World} (h : parseD t = .error p) (gl : Gl w) : Calls Tryz.prog 8 #[.string ⟨t.toArray⟩] w fun e w' => e = .returned (.tuple #[.agg #[.slice none 0 0, .slice none 0 0], .int .i64 (p.1 : Int), .int .i64 p.2]) ∧ Below w.heap.size w w' := by
  refine (dparse_any t w gl).mono ?_
  rintro e w' ⟨hm, hb⟩
  rw [h] at hm
  exact ⟨hm, hb⟩
theorem blo {w0 w1 w2 : World} (h : Below w0.heap.size w0 w1) (hb : Below w1.heap.size w1 w2) : Below w0.heap.size w0 w2 := h.trans (hb.mono h.size)
set_option maxRecDepth 100000 in
set_option maxHeartbeats 8000000 in
theorem back_noneerr (s : Sch) (x : Bs) (ov ev : Value) (w : World) (hS : SchAt w ov ev s) (L : SchL s) (h1 : printD s = none) (p : Nat × Int) (h2 : parseD x = .error p) (hp : (p.2 == 0) = false) (gl : Gl w) : Calls Tryz.prog 5 #[.agg #[ov, ev], .string ⟨x.toArray⟩] w fun e w' => e = .returned (.bool true) ∧ Below w.heap.size w w' := by
  obtain ⟨ao, co, rfl, _, _⟩ := slD hS.os
  obtain ⟨ae, ce, rfl, _, _⟩ := slD hS.es
  obtain ⟨w0, hw0⟩ : ∃ w0, w0 = w.alloc (.cells #[.slice ao s.os.length co, .slice ae s.es.length ce] 25) := ⟨_, rfl⟩
  have b0 : Below w.heap.size w w0 := by rw [hw0]; exact al1 w _
  have S0 := hS.on b0
  have gl0 := gl.on b0
  have P0 : w0.heap[w.heap.size]? = some (.cells #[.slice ao s.os.length co, .slice ae s.es.length ce] 25 (0, 0)) := by rw [hw0]; exact heap_alloc_new w _
  have A : Hid (∀ W, Below w0.heap.size w0 W → W.cell? ⟨w.heap.size, 0, none⟩ = some (.slice ao s.os.length co) ∧ W.cell? ⟨w.heap.size, 1, none⟩ = some (.slice ae s.es.length ce)) := fun W F => row2' ((F.block _ (lt_of_block P0)).trans P0)
  clear P0 hS gl
  go_enter Tryz.func5, Tryz.ntmps5
  go_wp2_with (first
    | (go_at_call 11; (with_reducible refine (dsame_eq (nil_At _) (nil_At _)).mono ?_); rintro e w6 ⟨rfl, b6⟩; have B6 := blo B5 b6)
    | (go_at_call 8; (with_reducible refine (par_err h2 gl2).mono ?_); rintro e w5 ⟨rfl, b5⟩; have B5 := blo (blo B2 b5) (al1 w5 (.cells #[.slice none 0 0, .slice none 0 0] 25)))
    | (go_at_call 10; (with_reducible refine (dfixed_any _ gl1).mono ?_); rintro e w2 ⟨rfl, b2⟩; have B2 := blo B1 b2; have gl2 := gl1.on b2; obtain ⟨c0_2, c1_2⟩ := A.out _ B2)
    | (go_at_call 12; rw [← hw0]; (with_reducible refine (prn_none h1 S0 L gl0).mono ?_); rintro e w1 ⟨rfl, b1⟩; have B1 := b1; have gl1 := gl0.on b1; obtain ⟨c0_1, c1_1⟩ := A.out _ B1)
    | fail)
  go_ret
  exact ⟨rfl, blo b0 B6⟩
set_option maxRecDepth 100000 in
set_option maxHeartbeats 8000000 in
theorem back_nonenop (s : Sch) (x : Bs) (ov ev : Value) (w : World) (hS : SchAt w ov ev s) (L : SchL s) (h1 : printD s = none) (c : Sch) (h2 : parseD x = .ok c) (Lc : SchL c) (h3 : printD c = none) (hx : 5000 < x.length) (gl : Gl w) : Calls Tryz.prog 5 #[.agg #[ov, ev], .string ⟨x.toArray⟩] w fun e w' => e = .returned (.bool true) ∧ Below w.heap.size w w' := by
  obtain ⟨ao, co, rfl, _, _⟩ := slD hS.os
  obtain ⟨ae, ce, rfl, _, _⟩ := slD hS.es
  obtain ⟨w0, hw0⟩ : ∃ w0, w0 = w.alloc (.cells #[.slice ao s.os.length co, .slice ae s.es.length ce] 25) := ⟨_, rfl⟩
  have b0 : Below w.heap.size w w0 := by rw [hw0]; exact al1 w _
  have S0 := hS.on b0
  have gl0 := gl.on b0
  have P0 : w0.heap[w.heap.size]? = some (.cells #[.slice ao s.os.length co, .slice ae s.es.length ce] 25 (0, 0)) := by rw [hw0]; exact heap_alloc_new w _
  have A : Hid (∀ W, Below w0.heap.size w0 W → W.cell? ⟨w.heap.size, 0, none⟩ = some (.slice ao s.os.length co) ∧ W.cell? ⟨w.heap.size, 1, none⟩ = some (.slice ae s.es.length ce)) := fun W F => row2' ((F.block _ (lt_of_block P0)).trans P0)
  have hx2 : (5000 : Int) < (x.length : Int) := by omega
  clear P0 hS gl
  go_enter Tryz.func5, Tryz.ntmps5
  go_wp2_with (first
    | (go_at_call 12; (with_reducible refine (prn_none h3 T5 Lc gl5).mono ?_); rintro e w6 ⟨rfl, b6⟩; have B6 := blo B5 b6; have gl6 := gl5.on b6; have T6 := T5.on b6; have R6 := (b6.block _ (lt_of_block R5)).trans R5)
    | (go_at_call 8; (with_reducible refine (par_ok h2 gl2).mono ?_); rintro e w5 ⟨p5, n5, m5, q5, k5, l5, rfl, S5, b5⟩; have B5 := blo (blo B2 b5) (al1 w5 (.cells #[.slice p5 n5 m5, .slice q5 k5 l5] 25)); have gl5 := (gl2.on b5).alloc (.cells #[.slice p5 n5 m5, .slice q5 k5 l5] 25); have T5 := S5.on (al1 w5 (.cells #[.slice p5 n5 m5, .slice q5 k5 l5] 25)); have R5 := heap_alloc_new w5 (.cells #[.slice p5 n5 m5, .slice q5 k5 l5] 25); obtain ⟨c0_5, c1_5⟩ := A.out _ B5)
    | (go_at_call 10; (with_reducible refine (dfixed_any _ gl1).mono ?_); rintro e w2 ⟨rfl, b2⟩; have B2 := blo B1 b2; have gl2 := gl1.on b2; obtain ⟨c0_2, c1_2⟩ := A.out _ B2)
    | (go_at_call 12; rw [← hw0]; (with_reducible refine (prn_none h1 S0 L gl0).mono ?_); rintro e w1 ⟨rfl, b1⟩; have B1 := b1; have gl1 := gl0.on b1; obtain ⟨c0_1, c1_1⟩ := A.out _ B1)
    | fail)
  go_ret
  exact ⟨rfl, blo b0 B6⟩
set_option maxRecDepth 100000 in
set_option maxHeartbeats 8000000 in
theorem back_noneyes (s : Sch) (x : Bs) (ov ev : Value) (w : World) (hS : SchAt w ov ev s) (L : SchL s) (h1 : printD s = none) (c : Sch) (h2 : parseD x = .ok c) (Lc : SchL c) (u : Bs) (h3 : printD c = some u) (h3b : parseD u = .ok c) (gl : Gl w) : Calls Tryz.prog 5 #[.agg #[ov, ev], .string ⟨x.toArray⟩] w fun e w' => e = .returned (.bool true) ∧ Below w.heap.size w w' := by
  obtain ⟨ao, co, rfl, _, _⟩ := slD hS.os
  obtain ⟨ae, ce, rfl, _, _⟩ := slD hS.es
  obtain ⟨w0, hw0⟩ : ∃ w0, w0 = w.alloc (.cells #[.slice ao s.os.length co, .slice ae s.es.length ce] 25) := ⟨_, rfl⟩
  have b0 : Below w.heap.size w w0 := by rw [hw0]; exact al1 w _
  have S0 := hS.on b0
  have gl0 := gl.on b0
  have P0 : w0.heap[w.heap.size]? = some (.cells #[.slice ao s.os.length co, .slice ae s.es.length ce] 25 (0, 0)) := by rw [hw0]; exact heap_alloc_new w _
  have A : Hid (∀ W, Below w0.heap.size w0 W → W.cell? ⟨w.heap.size, 0, none⟩ = some (.slice ao s.os.length co) ∧ W.cell? ⟨w.heap.size, 1, none⟩ = some (.slice ae s.es.length ce)) := fun W F => row2' ((F.block _ (lt_of_block P0)).trans P0)
  clear P0 hS gl
  go_enter Tryz.func5, Tryz.ntmps5
  go_wp2_with (first
    | (go_at_call 11; (with_reducible refine (dsame_eq T7 ((T6.on b7).on (al1 w7 (.cells #[.slice p7 n7 m7, .slice q7 k7 l7] 25)))).mono ?_); rintro e w8 ⟨rfl, b8⟩; have B8 := blo B7 b8)
    | (go_at_call 8; (with_reducible refine (par_ok h3b gl6).mono ?_); rintro e w7 ⟨p7, n7, m7, q7, k7, l7, rfl, S7, b7⟩; have B7 := blo (blo B6 b7) (al1 w7 (.cells #[.slice p7 n7 m7, .slice q7 k7 l7] 25)); have gl7 := (gl6.on b7).alloc (.cells #[.slice p7 n7 m7, .slice q7 k7 l7] 25); have T7 := S7.on (al1 w7 (.cells #[.slice p7 n7 m7, .slice q7 k7 l7] 25)); have R7 := heap_alloc_new w7 (.cells #[.slice p7 n7 m7, .slice q7 k7 l7] 25); obtain ⟨c0_7, c1_7⟩ := A.out _ B7; have U7 := ((al1 w7 (.cells #[.slice p7 n7 m7, .slice q7 k7 l7] 25)).block _ (Nat.lt_of_lt_of_le (lt_of_block R6) b7.size)).trans ((b7.block _ (lt_of_block R6)).trans R6); obtain ⟨d0, d1⟩ := row2' U7)
    | (go_at_call 12; (with_reducible refine (prn_some h3 T5 Lc gl5).mono ?_); rintro e w6 ⟨rfl, b6⟩; have B6 := blo B5 b6; have gl6 := gl5.on b6; have T6 := T5.on b6; have R6 := (b6.block _ (lt_of_block R5)).trans R5)
    | (go_at_call 8; (with_reducible refine (par_ok h2 gl2).mono ?_); rintro e w5 ⟨p5, n5, m5, q5, k5, l5, rfl, S5, b5⟩; have B5 := blo (blo B2 b5) (al1 w5 (.cells #[.slice p5 n5 m5, .slice q5 k5 l5] 25)); have gl5 := (gl2.on b5).alloc (.cells #[.slice p5 n5 m5, .slice q5 k5 l5] 25); have T5 := S5.on (al1 w5 (.cells #[.slice p5 n5 m5, .slice q5 k5 l5] 25)); have R5 := heap_alloc_new w5 (.cells #[.slice p5 n5 m5, .slice q5 k5 l5] 25); obtain ⟨c0_5, c1_5⟩ := A.out _ B5)
    | (go_at_call 10; (with_reducible refine (dfixed_any _ gl1).mono ?_); rintro e w2 ⟨rfl, b2⟩; have B2 := blo B1 b2; have gl2 := gl1.on b2; obtain ⟨c0_2, c1_2⟩ := A.out _ B2)
    | (go_at_call 12; rw [← hw0]; (with_reducible refine (prn_none h1 S0 L gl0).mono ?_); rintro e w1 ⟨rfl, b1⟩; have B1 := b1; have gl1 := gl0.on b1; obtain ⟨c0_1, c1_1⟩ := A.out _ B1)
    | fail)
  go_ret
  exact ⟨rfl, blo b0 B8⟩
set_option maxRecDepth 100000 in
set_option maxHeartbeats 8000000 in
theorem back_someerr (s : Sch) (x : Bs) (ov ev : Value) (w : World) (hS : SchAt w ov ev s) (L : SchL s) (t : Bs) (h1 : printD s = some t) (h1b : parseD t = .ok s) (p : Nat × Int) (h2 : parseD x = .error p) (hp : (p.2 == 0) = false) (gl : Gl w) : Calls Tryz.prog 5 #[.agg #[ov, ev], .string ⟨x.toArray⟩] w fun e w' => e = .returned (.bool true) ∧ Below w.heap.size w w' := by
  obtain ⟨ao, co, rfl, _, _⟩ := slD hS.os
  obtain ⟨ae, ce, rfl, _, _⟩ := slD hS.es
  obtain ⟨w0, hw0⟩ : ∃ w0, w0 = w.alloc (.cells #[.slice ao s.os.length co, .slice ae s.es.length ce] 25) := ⟨_, rfl⟩
  have b0 : Below w.heap.size w w0 := by rw [hw0]; exact al1 w _
  have S0 := hS.on b0
  have gl0 := gl.on b0
  have P0 : w0.heap[w.heap.size]? = some (.cells #[.slice ao s.os.length co, .slice ae s.es.length ce] 25 (0, 0)) := by rw [hw0]; exact heap_alloc_new w _
  have A : Hid (∀ W, Below w0.heap.size w0 W → W.cell? ⟨w.heap.size, 0, none⟩ = some (.slice ao s.os.length co) ∧ W.cell? ⟨w.heap.size, 1, none⟩ = some (.slice ae s.es.length ce)) := fun W F => row2' ((F.block _ (lt_of_block P0)).trans P0)
  clear P0 hS gl
  go_enter Tryz.func5, Tryz.ntmps5
  go_wp2_with (first
    | (go_at_call 11; (with_reducible refine (dsame_eq (nil_At _) (nil_At _)).mono ?_); rintro e w6 ⟨rfl, b6⟩; have B6 := blo B5 b6)
    | (go_at_call 8; (with_reducible refine (par_err h2 gl4).mono ?_); rintro e w5 ⟨rfl, b5⟩; have B5 := blo (blo B4 b5) (al1 w5 (.cells #[.slice none 0 0, .slice none 0 0] 25)))
    | (go_at_call 11; (with_reducible refine (dsame_eq T3 (S0.on B3)).mono ?_); rintro e w4 ⟨rfl, b4⟩; have B4 := blo B3 b4; have gl4 := gl3.on b4; obtain ⟨c0_4, c1_4⟩ := A.out _ B4)
    | (go_at_call 8; (with_reducible refine (par_ok h1b gl2).mono ?_); rintro e w3 ⟨p3, n3, m3, q3, k3, l3, rfl, S3, b3⟩; have B3 := blo (blo B2 b3) (al1 w3 (.cells #[.slice p3 n3 m3, .slice q3 k3 l3] 25)); have gl3 := (gl2.on b3).alloc (.cells #[.slice p3 n3 m3, .slice q3 k3 l3] 25); have T3 := S3.on (al1 w3 (.cells #[.slice p3 n3 m3, .slice q3 k3 l3] 25)); have R3 := heap_alloc_new w3 (.cells #[.slice p3 n3 m3, .slice q3 k3 l3] 25); obtain ⟨c0_3, c1_3⟩ := A.out _ B3)
    | (go_at_call 10; (with_reducible refine (dfixed_any _ gl1).mono ?_); rintro e w2 ⟨rfl, b2⟩; have B2 := blo B1 b2; have gl2 := gl1.on b2; obtain ⟨c0_2, c1_2⟩ := A.out _ B2)
    | (go_at_call 12; rw [← hw0]; (with_reducible refine (prn_some h1 S0 L gl0).mono ?_); rintro e w1 ⟨rfl, b1⟩; have B1 := b1; have gl1 := gl0.on b1; obtain ⟨c0_1, c1_1⟩ := A.out _ B1)
    | fail)
  go_ret
  exact ⟨rfl, blo b0 B6⟩
set_option maxRecDepth 100000 in
set_option maxHeartbeats 8000000 in
theorem back_somenop (s : Sch) (x : Bs) (ov ev : Value) (w : World) (hS : SchAt w ov ev s) (L : SchL s) (t : Bs) (h1 : printD s = some t) (h1b : parseD t = .ok s) (c : Sch) (h2 : parseD x = .ok c) (Lc : SchL c) (h3 : printD c = none) (hx : 5000 < x.length) (gl : Gl w) : Calls Tryz.prog 5 #[.agg #[ov, ev], .string ⟨x.toArray⟩] w fun e w' => e = .returned (.bool true) ∧ Below w.heap.size w w' := by
  obtain ⟨ao, co, rfl, _, _⟩ := slD hS.os
  obtain ⟨ae, ce, rfl, _, _⟩ := slD hS.es
  obtain ⟨w0, hw0⟩ : ∃ w0, w0 = w.alloc (.cells #[.slice ao s.os.length co, .slice ae s.es.length ce] 25) := ⟨_, rfl⟩
  have b0 : Below w.heap.size w w0 := by rw [hw0]; exact al1 w _
  have S0 := hS.on b0
  have gl0 := gl.on b0
  have P0 : w0.heap[w.heap.size]? = some (.cells #[.slice ao s.os.length co, .slice ae s.es.length ce] 25 (0, 0)) := by rw [hw0]; exact heap_alloc_new w _
  have A : Hid (∀ W, Below w0.heap.size w0 W → W.cell? ⟨w.heap.size, 0, none⟩ = some (.slice ao s.os.length co) ∧ W.cell? ⟨w.heap.size, 1, none⟩ = some (.slice ae s.es.length ce)) := fun W F => row2' ((F.block _ (lt_of_block P0)).trans P0)
  have hx2 : (5000 : Int) < (x.length : Int) := by omega
  clear P0 hS gl
  go_enter Tryz.func5, Tryz.ntmps5
  go_wp2_with (first
    | (go_at_call 12; (with_reducible refine (prn_none h3 T5 Lc gl5).mono ?_); rintro e w6 ⟨rfl, b6⟩; have B6 := blo B5 b6; have gl6 := gl5.on b6; have T6 := T5.on b6; have R6 := (b6.block _ (lt_of_block R5)).trans R5)
    | (go_at_call 8; (with_reducible refine (par_ok h2 gl4).mono ?_); rintro e w5 ⟨p5, n5, m5, q5, k5, l5, rfl, S5, b5⟩; have B5 := blo (blo B4 b5) (al1 w5 (.cells #[.slice p5 n5 m5, .slice q5 k5 l5] 25)); have gl5 := (gl4.on b5).alloc (.cells #[.slice p5 n5 m5, .slice q5 k5 l5] 25); have T5 := S5.on (al1 w5 (.cells #[.slice p5 n5 m5, .slice q5 k5 l5] 25)); have R5 := heap_alloc_new w5 (.cells #[.slice p5 n5 m5, .slice q5 k5 l5] 25); obtain ⟨c0_5, c1_5⟩ := A.out _ B5)
    | (go_at_call 11; (with_reducible refine (dsame_eq T3 (S0.on B3)).mono ?_); rintro e w4 ⟨rfl, b4⟩; have B4 := blo B3 b4; have gl4 := gl3.on b4; obtain ⟨c0_4, c1_4⟩ := A.out _ B4)
    | (go_at_call 8; (with_reducible refine (par_ok h1b gl2).mono ?_); rintro e w3 ⟨p3, n3, m3, q3, k3, l3, rfl, S3, b3⟩; have B3 := blo (blo B2 b3) (al1 w3 (.cells #[.slice p3 n3 m3, .slice q3 k3 l3] 25)); have gl3 := (gl2.on b3).alloc (.cells #[.slice p3 n3 m3, .slice q3 k3 l3] 25); have T3 := S3.on (al1 w3 (.cells #[.slice p3 n3 m3, .slice q3 k3 l3] 25)); have R3 := heap_alloc_new w3 (.cells #[.slice p3 n3 m3, .slice q3 k3 l3] 25); obtain ⟨c0_3, c1_3⟩ := A.out _ B3)
    | (go_at_call 10; (with_reducible refine (dfixed_any _ gl1).mono ?_); rintro e w2 ⟨rfl, b2⟩; have B2 := blo B1 b2; have gl2 := gl1.on b2; obtain ⟨c0_2, c1_2⟩ := A.out _ B2)
    | (go_at_call 12; rw [← hw0]; (with_reducible refine (prn_some h1 S0 L gl0).mono ?_); rintro e w1 ⟨rfl, b1⟩; have B1 := b1; have gl1 := gl0.on b1; obtain ⟨c0_1, c1_1⟩ := A.out _ B1)
    | fail)
  go_ret
  exact ⟨rfl, blo b0 B6⟩
set_option maxRecDepth 100000 in
set_option maxHeartbeats 8000000 in
theorem back_someyes (s : Sch) (x : Bs) (ov ev : Value) (w : World) (hS : SchAt w ov ev s) (L : SchL s) (t : Bs) (h1 : printD s = some t) (h1b : parseD t = .ok s) (c : Sch) (h2 : parseD x = .ok c) (Lc : SchL c) (u : Bs) (h3 : printD c = some u) (h3b : parseD u = .ok c) (gl : Gl w) : Calls Tryz.prog 5 #[.agg #[ov, ev], .string ⟨x.toArray⟩] w fun e w' => e = .returned (.bool true) ∧ Below w.heap.size w w' := by
  obtain ⟨ao, co, rfl, _, _⟩ := slD hS.os
  obtain ⟨ae, ce, rfl, _, _⟩ := slD hS.es
  obtain ⟨w0, hw0⟩ : ∃ w0, w0 = w.alloc (.cells #[.slice ao s.os.length co, .slice ae s.es.length ce] 25) := ⟨_, rfl⟩
  have b0 : Below w.heap.size w w0 := by rw [hw0]; exact al1 w _
  have S0 := hS.on b0
  have gl0 := gl.on b0
  have P0 : w0.heap[w.heap.size]? = some (.cells #[.slice ao s.os.length co, .slice ae s.es.length ce] 25 (0, 0)) := by rw [hw0]; exact heap_alloc_new w _
  have A : Hid (∀ W, Below w0.heap.size w0 W → W.cell? ⟨w.heap.size, 0, none⟩ = some (.slice ao s.os.length co) ∧ W.cell? ⟨w.heap.size, 1, none⟩ = some (.slice ae s.es.length ce)) := fun W F => row2' ((F.block _ (lt_of_block P0)).trans P0)
  clear P0 hS gl
  go_enter Tryz.func5, Tryz.ntmps5
  go_wp2_with (first
    | (go_at_call 11; (with_reducible refine (dsame_eq T7 ((T6.on b7).on (al1 w7 (.cells #[.slice p7 n7 m7, .slice q7 k7 l7] 25)))).mono ?_); rintro e w8 ⟨rfl, b8⟩; have B8 := blo B7 b8)
    | (go_at_call 8; (with_reducible refine (par_ok h3b gl6).mono ?_); rintro e w7 ⟨p7, n7, m7, q7, k7, l7, rfl, S7, b7⟩; have B7 := blo (blo B6 b7) (al1 w7 (.cells #[.slice p7 n7 m7, .slice q7 k7 l7] 25)); have gl7 := (gl6.on b7).alloc (.cells #[.slice p7 n7 m7, .slice q7 k7 l7] 25); have T7 := S7.on (al1 w7 (.cells #[.slice p7 n7 m7, .slice q7 k7 l7] 25)); have R7 := heap_alloc_new w7 (.cells #[.slice p7 n7 m7, .slice q7 k7 l7] 25); obtain ⟨c0_7, c1_7⟩ := A.out _ B7; have U7 := ((al1 w7 (.cells #[.slice p7 n7 m7, .slice q7 k7 l7] 25)).block _ (Nat.lt_of_lt_of_le (lt_of_block R6) b7.size)).trans ((b7.block _ (lt_of_block R6)).trans R6); obtain ⟨d0, d1⟩ := row2' U7)
    | (go_at_call 12; (with_reducible refine (prn_some h3 T5 Lc gl5).mono ?_); rintro e w6 ⟨rfl, b6⟩; have B6 := blo B5 b6; have gl6 := gl5.on b6; have T6 := T5.on b6; have R6 := (b6.block _ (lt_of_block R5)).trans R5)
    | (go_at_call 8; (with_reducible refine (par_ok h2 gl4).mono ?_); rintro e w5 ⟨p5, n5, m5, q5, k5, l5, rfl, S5, b5⟩; have B5 := blo (blo B4 b5) (al1 w5 (.cells #[.slice p5 n5 m5, .slice q5 k5 l5] 25)); have gl5 := (gl4.on b5).alloc (.cells #[.slice p5 n5 m5, .slice q5 k5 l5] 25); have T5 := S5.on (al1 w5 (.cells #[.slice p5 n5 m5, .slice q5 k5 l5] 25)); have R5 := heap_alloc_new w5 (.cells #[.slice p5 n5 m5, .slice q5 k5 l5] 25); obtain ⟨c0_5, c1_5⟩ := A.out _ B5)
    | (go_at_call 11; (with_reducible refine (dsame_eq T3 (S0.on B3)).mono ?_); rintro e w4 ⟨rfl, b4⟩; have B4 := blo B3 b4; have gl4 := gl3.on b4; obtain ⟨c0_4, c1_4⟩ := A.out _ B4)
    | (go_at_call 8; (with_reducible refine (par_ok h1b gl2).mono ?_); rintro e w3 ⟨p3, n3, m3, q3, k3, l3, rfl, S3, b3⟩; have B3 := blo (blo B2 b3) (al1 w3 (.cells #[.slice p3 n3 m3, .slice q3 k3 l3] 25)); have gl3 := (gl2.on b3).alloc (.cells #[.slice p3 n3 m3, .slice q3 k3 l3] 25); have T3 := S3.on (al1 w3 (.cells #[.slice p3 n3 m3, .slice q3 k3 l3] 25)); have R3 := heap_alloc_new w3 (.cells #[.slice p3 n3 m3, .slice q3 k3 l3] 25); obtain ⟨c0_3, c1_3⟩ := A.out _ B3)
    | (go_at_call 10; (with_reducible refine (dfixed_any _ gl1).mono ?_); rintro e w2 ⟨rfl, b2⟩; have B2 := blo B1 b2; have gl2 := gl1.on b2; obtain ⟨c0_2, c1_2⟩ := A.out _ B2)
    | (go_at_call 12; rw [← hw0]; (with_reducible refine (prn_some h1 S0 L gl0).mono ?_); rintro e w1 ⟨rfl, b1⟩; have B1 := b1; have gl1 := gl0.on b1; obtain ⟨c0_1, c1_1⟩ := A.out _ B1)
    | fail)
  go_ret
  exact ⟨rfl, blo b0 B8⟩
theorem back_walk (s : Sch) (x : Bs) (ov ev : Value) (w : World) (hS : SchAt w ov ev s) (L : SchL s) (gl : Gl w) : Calls Tryz.prog 5 #[.agg #[ov, ev], .string ⟨x.toArray⟩] w fun e w' => e = .returned (.bool true) ∧ Below w.heap.size w w' := by
  cases h1 : printD s with
  | none =>
    cases h2 : parseD x with
    | error p => exact back_noneerr s x ov ev w hS L h1 p h2 (by simpa using parseD_bad h2) gl
    | ok c =>
      obtain ⟨Lc, hc⟩ := read_back h2
      cases h3 : printD c with
      | none => exact back_nonenop s x ov ev w hS L h1 c h2 Lc h3 (Nat.lt_of_not_le fun hl => by obtain ⟨u, e⟩ := hc hl; rw [e] at h3; cases h3) gl
      | some u => exact back_noneyes s x ov ev w hS L h1 c h2 Lc u h3 (printD_ok h3) gl
  | some t =>
    cases h2 : parseD x with
    | error p => exact back_someerr s x ov ev w hS L t h1 (printD_ok h1) p h2 (by simpa using parseD_bad h2) gl
    | ok c =>
      obtain ⟨Lc, hc⟩ := read_back h2
      cases h3 : printD c with
      | none => exact back_somenop s x ov ev w hS L t h1 (printD_ok h1) c h2 Lc h3 (Nat.lt_of_not_le fun hl => by obtain ⟨u, e⟩ := hc hl; rw [e] at h3; cases h3) gl
      | some u => exact back_someyes s x ov ev w hS L t h1 (printD_ok h1) c h2 Lc u h3 (printD_ok h3) gl
end Go.Proofs.YtglpabfjnngbnaaGreatDoor
namespace Go.Proofs.YtglpabfjnngbnaaGreatDoor
open Go Go.RowKit Go.Shelf

/-- What is told of the slice that came in. -/
def IsRow (k : IntKind) (w : World) (a : Option Addr) (len cap : Nat) (zs : List Int) : Prop :=
  (a = none ∧ len = 0 ∧ cap = 0 ∧ zs = []) ∨
  ∃ x, a = some x ∧ len ≤ cap ∧ cap ≤ maxLen ∧ zs.length = cap ∧ (∀ i, i < zs.length → w.cell? (x.add i) = some (.int k (zs.getD i 0))) ∧ ∀ n ∈ zs, (Lit.int k n).wf = true
theorem and3 (x : Int) : ∃ n : Nat, n < 4 ∧ bits .and .i64 x 3 = (n : Int) := by
  have h : (BitVec.ofInt 64 x &&& BitVec.ofInt 64 3).toNat < 4 := by
    rw [BitVec.toNat_and]
    exact Nat.lt_succ_of_le (Nat.le_trans Nat.and_le_right (by decide))
  refine ⟨_, h, ?_⟩
  show IntKind.wrap .i64 (((BitVec.ofInt 64 x &&& BitVec.ofInt 64 3).toNat : Nat) : Int) = _
  generalize (BitVec.ofInt 64 x &&& BitVec.ofInt 64 3).toNat = v at h
  have h1 : (v : Int) % 2 ^ IntKind.i64.bits = v := Int.emod_eq_of_lt (by omega) (by show (v : Int) < 2 ^ 64; omega)
  unfold IntKind.wrap
  simp only [h1]
  rw [if_neg]
  intro e
  simp only [Bool.and_eq_true, decide_eq_true_eq] at e
  have := e.2
  have h2 : (2 ^ (IntKind.i64.bits - 1) : Int) = 9223372036854775808 := by decide
  omega
abbrev gapO : Obj := .cells #[.string ⟨#[32]⟩, .string ⟨#[44]⟩, .string ⟨#[35, 120, 10]⟩, .string ⟨#[9, 13, 10]⟩] 9
theorem gap_cell (w : World) (n : Nat) (hn : n < 4) : (w.alloc gapO).cell? ⟨w.heap.size, n, none⟩ = some (.string ⟨(gapB n).toArray⟩) := by
  have h := fun i => cell_new w #[.string ⟨#[32]⟩, .string ⟨#[44]⟩, .string ⟨#[35, 120, 10]⟩, .string ⟨#[9, 13, 10]⟩] 9 i
  have h' := h n
  rw [Addr.add_lit, Nat.zero_add] at h'
  refine h'.trans ?_
  match n, hn with
  | 0, _ => rfl
  | 1, _ => rfl
  | 2, _ => rfl
  | 3, _ => rfl
theorem parse_place {s : Bs} {p : Nat × Int} (h : parseD s = .error p) : p.1 ≤ s.length := by
  unfold parseD at h
  split at h
  · rename_i q hq
    cases h
    obtain ⟨b, e⟩ := p
    rcases wrong_of src_cut hq with ⟨_, hb⟩ | ⟨_, _, hb, _⟩
    · show b ≤ s.length
      omega
    · exact hb
  · rename_i ts hts
    split at h
    · rename_i q hq
      cases h
      refine (pl_schema (N := s.length) _ ?_).1 _ hq
      intro t ht
      rcases List.mem_append.1 ht with ht | ht
      · have hl := (lexS_full hts).2.1
        unfold lexS at hts
        rw [if_neg (by omega)] at hts
        exact (lexF_ends _ _ _ _ _ hts t ht).1
      · rw [List.mem_singleton] at ht
        subst ht
        exact Nat.le_refl _
    · cases h
set_option maxRecDepth 100000 in
set_option maxHeartbeats 4000000 in
theorem ign_lex (s : Bs) (a0 : Option Addr) (len cap : Nat) (p : Nat × Int) (hs : lexS s = .inl p) (w : World) (gl : Gl w) :
    Calls Tryz.prog 6 #[.string ⟨s.toArray⟩, .slice a0 len cap] w fun e w' => e = .returned (.bool true) ∧ Below w.heap.size w w' := by
  have hpd : parseD s = .error p := by unfold parseD; rw [hs]
  have P1 := par_err hpd gl
  have T := fun W (g : Gl W) => tokens_any s W g
  rw [hs] at T
  have hp0 := lexS_bad hs
  have hpl := parse_place hpd
  obtain ⟨b, x⟩ := p
  have x1 : (x == 0) = false := by simpa using hp0
  have x2 : (x != 0) = true := by simp only [bne, x1]; rfl
  have hb1 : (b : Int) ≤ (s.length : Int) := by have : b ≤ s.length := hpl; omega
  have hb0 : (0 : Int) ≤ (b : Int) := by omega
  have hb2 : decide ((s.length : Int) < (b : Int)) = false := by simp; omega
  have hb3 : decide ((b : Int) < 0) = false := by simp
  have hb4 : decide (s.length < b) = false := by simp; omega
  clear hs hp0 hpd hpl
  go_enter Tryz.func6, Tryz.ntmps6
  go_wp2_with (first
    | (go_at_call 14; refine (T _ gl2).mono ?_; rintro e w3 ⟨rfl, b3⟩; have B3 := blo B2 b3)
    | (go_at_call 10; refine (dfixed_any _ gl1).mono ?_; rintro e w2 ⟨rfl, b2⟩; have B2 := blo B1 b2; have gl2 := gl1.on b2)
    | (go_at_call 8; refine P1.mono ?_; rintro e w1 ⟨rfl, b1⟩; have B1 := blo b1 (al1 w1 (.cells #[.slice none 0 0, .slice none 0 0] 25)); have gl1 := (gl.on b1).alloc (.cells #[.slice none 0 0, .slice none 0 0] 25))
    | fail)
  go_ret
  exact ⟨by first | rfl | simp, B3⟩
set_option maxRecDepth 100000 in
set_option maxHeartbeats 8000000 in
theorem ign_ok (s : Bs) (a0 : Option Addr) (len cap : Nat) (zs : List Int) (ts0 : List Tok) (hs : lexS s = .inr ts0) (x : Sch) (hpd : parseD s = .ok x) (w : World) (h : IsRow .i64 w a0 len cap zs) (gl : Gl w) :
    Calls Tryz.prog 6 #[.string ⟨s.toArray⟩, .slice a0 len cap] w fun e w' => e = .returned (.bool true) ∧ Below w.heap.size w w' := by
    have P1 := par_ok hpd gl
    have T := fun W (g : Gl W) => tokens_any s W g
    rw [hs] at T
    obtain ⟨ps, tl, hR, hts⟩ := right_of hs
    have HP : Hid (parseD s = .ok x) := hpd
    have HR : Hid (Right s ps tl) := hR
    have hlen : ts0.length = ps.length := by rw [hts]; exact toksP_len _ _ _
    have hfew := hR.few
    have hsh := hR.short
    have hD : (ByteArray.mk s.toArray).size = s.length := rfl
    have HTS : Hid (ts0 = toksP s.length ps tl) := hts
    clear hR hts hs hpd
    generalize hDD : (ByteArray.mk s.toArray) = D at *
    have HD : Hid ((ByteArray.mk s.toArray) = D) := hDD
    clear hDD
    obtain ⟨i1, hi1, hy0, hy1, hy2⟩ := info_parts Tryz.infoByteI
    go_enter Tryz.func6, Tryz.ntmps6
    go_wp2_with (first
      | (go_at_call 14; refine (T _ gl2).mono ?_; rintro e w3 ⟨⟨v, rfl, ht⟩, b3⟩; have B3 := blo B2 b3; have gl3 := gl2.on b3; have R3 := (b3.block _ (lt_of_block R2)).trans R2; have S3 := S2.on b3; obtain ⟨a1, c1, rfl, hc1, hrow⟩ := toks_rowI ht; rw [hlen])
      | (go_at_call 10; refine (dfixed_any _ gl1).mono ?_; rintro e w2 ⟨rfl, b2⟩; have B2 := blo B1 b2; have gl2 := gl1.on b2; have R2 := (b2.block _ (lt_of_block R1)).trans R1; have S2 := S1.on b2)
      | (go_at_call 8; refine P1.mono ?_; rintro e w1 ⟨p1, n1, m1, p2, n2, m2, rfl, S0, b1⟩; have B1 := blo b1 (al1 w1 (.cells #[.slice p1 n1 m1, .slice p2 n2 m2] 25)); have gl1 := (gl.on b1).alloc (.cells #[.slice p1 n1 m1, .slice p2 n2 m2] 25); have R1 := heap_alloc_new w1 (.cells #[.slice p1 n1 m1, .slice p2 n2 m2] 25); have S1 := S0.on (al1 w1 (.cells #[.slice p1 n1 m1, .slice p2 n2 m2] 25)))
      | fail)
    go_loopw [11, 12] (fun b i wr => ∃ (j : Nat) (vb : Value) (qs : List Pc), j ≤ ps.length ∧ i = .int .i64 (j : Int) ∧ b = vb ∧ BytesI wr w3.heap.size vb (catP qs []) ∧ vb ≠ .slice none 0 0 ∧ Hid (Gs qs (ps.take j)) ∧ Below w3.heap.size w3 wr) (fun _ i _ => ps.length - (RowKit.intOf i).toNat)
    case atStart => exact ⟨0, _, [], Nat.zero_le _, rfl, rfl, own_nobI w3, by simp, trivial, (Below.refl _ _).alloc (Nat.le_refl _) _⟩
    case round =>
      obtain ⟨j, vb, qs, hj, rfl, rfl, hob, hnn, hG, hbr⟩ := hrel
      by_cases hlt : j < ps.length
      · obtain ⟨a, t, R⟩ := rndI_of HR.out j hlt
        rw [← HTS.out] at R
        obtain ⟨r1, r2, r3, r4, r5, r6⟩ := R
        rw [HD.out] at r4
        have hne : ts0 ≠ [] := by rintro rfl; simp at r1
        obtain ⟨g1, rfl, hg1, hcell⟩ := hrow hne
        obtain ⟨h2, h3⟩ := hcell j t r1
        rw [Nat.mul_comm 4 j] at h2 h3
        clear hcell
        obtain ⟨tk, tt, tb, te⟩ := t
        simp only at h2 h3 r2 r3 r4 r5
        have hbl := gs_bytes HR.out hG.out
        have hsz : (ByteArray.mk a.p.toArray).size = te - tb := by rw [← r5]; rfl
        have f4 : ((tb : Int) ≤ (te : Int)) := by omega
        have f5 : (te : Int) ≤ (s.length : Int) := by omega
        have hcj : j < c1 := by omega
        have HN : ∀ k, Gs (qs ++ [⟨gapB k, a.p, a.k, a.t⟩]) (ps.take (j + 1)) := fun k => by rw [r6]; exact hG.out.snoc a k
        have HB : ∀ k, catP (qs ++ [⟨gapB k, a.p, a.k, a.t⟩]) [] = catP qs [] ++ gapB k ++ a.p := fun k => by
          rw [catP_app, catP_head]
          simp [catP]
        by_cases hgj : j < len
        · rcases h with ⟨_, h0, _⟩ | ⟨xa, rfl, q1, q2, q3, q4, _⟩
          · omega
          obtain ⟨bk, off, rfl, hc⟩ := ints_at q4 (by omega)
          have c0 : w.cell? ⟨bk, off + j, none⟩ = some (.int .i64 (zs.getD j 0)) := hc j (by omega)
          have cg : wr.cell? ⟨bk, off + j, none⟩ = some (.int .i64 (zs.getD j 0)) := cell_on (B3.trans (hbr.mono B3.size)) c0
          generalize zs.getD j 0 = c at cg
          clear c0 q4 hc
          unfold maxLen at q2
          obtain ⟨n, hn, hb3⟩ := and3 c
          have hl1 : (j : Int) < (len : Int) := by omega
          have CF := gap_cell wr n hn
          have hn4 : (n : Int) < 4 := by omega
          obtain ⟨GB, hGB, HGB, hGs⟩ : ∃ GB : ByteArray, (ByteArray.mk (gapB n).toArray) = GB ∧ Hid (GB = ⟨(gapB n).toArray⟩) ∧ GB.size ≤ 4 := ⟨_, rfl, rfl, (gap_of n).2.2⟩
          rw [hGB] at CF
          clear hGB
          have hb5 : Below wr.heap.size wr (wr.alloc gapO) := al1 _ _
          have hor := owns_belowI hob hb5
          go_wp2_with (first
            | (at_builtin; refine Lib.wpList_append_own_string _ rfl _ _ 40 9 rfl w3.heap.size 5 i1 Tryz.underlying40 Tryz.underlying9 hi1 hy0 hy1 hy2 _ _ _ rfl hor GB rfl ?d1 ?d2 ?d3 ?_)
            | fail)
          case d1 => unfold maxLen; omega
          case d2 => omega
          case d3 => first | exact Nat.le_trans hbr.size hb5.size | (have := hbr.size; omega)
          intro vb8 w8 hob8 hg8 hnil8
          have hb8 : Below w3.heap.size w3 w8 := (hbr.trans (hb5.mono hbr.size)).grown hg8 (Nat.le_trans hbr.size hb5.size) (own_geI hor)
          have hob9 : BytesI w8 w3.heap.size vb8 (catP qs [] ++ gapB n) := by
            have hx := HGB.out
            subst hx
            unfold BytesI
            rw [cells_app, List.length_append, ← strCells_eq (gapB n)]
            exact hob8
          have hn9 : vb8 ≠ .slice none 0 0 := by first | exact fun e => hnn (hnil8.1 e).1 | exact hnil8
          have h2' := cell_on hb8 h2
          have h3' := cell_on hb8 h3
          have hbl2 : (catP qs [] ++ gapB n).length ≤ s.length + 8196 := by
            have := (gap_of n).2.2
            rw [List.length_append]; omega
          have HN' : Hid (Gs (qs ++ [⟨gapB n, a.p, a.k, a.t⟩]) (ps.take (j + 1))) := HN n
          have HB' : Hid (catP (qs ++ [⟨gapB n, a.p, a.k, a.t⟩]) [] = catP qs [] ++ gapB n ++ a.p) := HB n
          generalize catP qs [] ++ gapB n = L2 at *
          clear hob8 hg8 hnil8 hor hob hG CF cg h2 h3 HN HB hbl
          obtain ⟨PB, hPB, HPB, hPs⟩ : ∃ PB : ByteArray, (ByteArray.mk a.p.toArray) = PB ∧ Hid (PB = ⟨a.p.toArray⟩) ∧ PB.size = te - tb := ⟨_, rfl, rfl, hsz⟩
          rw [hPB] at r4
          clear hPB hsz
          have hob9d : BytesI w8.drew w3.heap.size vb8 L2 := hob9
          have hb8d : Below w3.heap.size w3 w8.drew := hb8.drew
          have d1 : L2.length + PB.size ≤ maxLen := by unfold maxLen; omega
          have d3 := hb8d.size
          go_wp2
          go_region_law (first
            | (refine step_append_str rfl (.tmp 81) (.tmp 93) 40 9 rfl w3.heap.size 5 i1 Tryz.underlying40 Tryz.underlying9 hi1 hy0 hy1 hy2 vb8 L2.length (Lib.byteCells L2) rfl hob9d PB rfl d1 (by omega) d3 ?_; intro vb9 w9 hobA hgA hnilA; have OA : Hid _ := hobA; have GA : Hid _ := hgA; have NA : Hid _ := hnilA; clear hobA hgA hnilA)
            | fail)
          all_goals
            have hbF : Below w3.heap.size w3 w9 := hb8d.grown GA.out hb8d.size (own_geI hob9d)
            have hobF : BytesI w9 w3.heap.size vb9 (catP (qs ++ [⟨gapB n, a.p, a.k, a.t⟩]) []) := by
              have hx := HPB.out
              subst hx
              have ho := OA.out
              unfold BytesI
              rw [HB'.out, cells_app, List.length_append, ← strCells_eq a.p]
              exact ho
            have hnF : vb9 ≠ .slice none 0 0 := fun e => hn9 ((NA.out.1 e).1)
            go_wp2
            refine ⟨⟨j + 1, vb9, _, by omega, congrArg (Value.int .i64) (by omega), rfl, hobF, hnF, HN', hbF⟩, ?_⟩
            simp [RowKit.intOf]
            omega
        · have hl1 : ¬ (j : Int) < (len : Int) := by omega
          have CF := gap_cell wr 0 (by decide)
          obtain ⟨GB, hGB, HGB, hGs⟩ : ∃ GB : ByteArray, (ByteArray.mk (gapB 0).toArray) = GB ∧ Hid (GB = ⟨(gapB 0).toArray⟩) ∧ GB.size ≤ 4 := ⟨_, rfl, rfl, (gap_of 0).2.2⟩
          rw [hGB] at CF
          clear hGB
          have hb5 : Below wr.heap.size wr (wr.alloc gapO) := al1 _ _
          have hor := owns_belowI hob hb5
          go_wp2_with (first
            | (at_builtin; refine Lib.wpList_append_own_string _ rfl _ _ 40 9 rfl w3.heap.size 5 i1 Tryz.underlying40 Tryz.underlying9 hi1 hy0 hy1 hy2 _ _ _ rfl hor GB rfl ?d1 ?d2 ?d3 ?_)
            | fail)
          case d1 => unfold maxLen; omega
          case d2 => omega
          case d3 => first | exact Nat.le_trans hbr.size hb5.size | (have := hbr.size; omega)
          intro vb8 w8 hob8 hg8 hnil8
          have hb8 : Below w3.heap.size w3 w8 := (hbr.trans (hb5.mono hbr.size)).grown hg8 (Nat.le_trans hbr.size hb5.size) (own_geI hor)
          have hob9 : BytesI w8 w3.heap.size vb8 (catP qs [] ++ gapB 0) := by
            have hx := HGB.out
            subst hx
            unfold BytesI
            rw [cells_app, List.length_append, ← strCells_eq (gapB 0)]
            exact hob8
          have hn9 : vb8 ≠ .slice none 0 0 := by first | exact fun e => hnn (hnil8.1 e).1 | exact hnil8
          have h2' := cell_on hb8 h2
          have h3' := cell_on hb8 h3
          have hbl2 : (catP qs [] ++ gapB 0).length ≤ s.length + 8196 := by
            have := (gap_of 0).2.2
            rw [List.length_append]; omega
          have HN' : Hid (Gs (qs ++ [⟨gapB 0, a.p, a.k, a.t⟩]) (ps.take (j + 1))) := HN 0
          have HB' : Hid (catP (qs ++ [⟨gapB 0, a.p, a.k, a.t⟩]) [] = catP qs [] ++ gapB 0 ++ a.p) := HB 0
          generalize catP qs [] ++ gapB 0 = L2 at *
          clear hob8 hg8 hnil8 hor hob hG CF h2 h3 HN HB hbl
          obtain ⟨PB, hPB, HPB, hPs⟩ : ∃ PB : ByteArray, (ByteArray.mk a.p.toArray) = PB ∧ Hid (PB = ⟨a.p.toArray⟩) ∧ PB.size = te - tb := ⟨_, rfl, rfl, hsz⟩
          rw [hPB] at r4
          clear hPB hsz
          have hob9d : BytesI w8.drew w3.heap.size vb8 L2 := hob9
          have hb8d : Below w3.heap.size w3 w8.drew := hb8.drew
          have d1 : L2.length + PB.size ≤ maxLen := by unfold maxLen; omega
          have d3 := hb8d.size
          go_wp2
          go_region_law (first
            | (refine step_append_str rfl (.tmp 81) (.tmp 93) 40 9 rfl w3.heap.size 5 i1 Tryz.underlying40 Tryz.underlying9 hi1 hy0 hy1 hy2 vb8 L2.length (Lib.byteCells L2) rfl hob9d PB rfl d1 (by omega) d3 ?_; intro vb9 w9 hobA hgA hnilA; have OA : Hid _ := hobA; have GA : Hid _ := hgA; have NA : Hid _ := hnilA; clear hobA hgA hnilA)
            | fail)
          all_goals
            have hbF : Below w3.heap.size w3 w9 := hb8d.grown GA.out hb8d.size (own_geI hob9d)
            have hobF : BytesI w9 w3.heap.size vb9 (catP (qs ++ [⟨gapB 0, a.p, a.k, a.t⟩]) []) := by
              have hx := HPB.out
              subst hx
              have ho := OA.out
              unfold BytesI
              rw [HB'.out, cells_app, List.length_append, ← strCells_eq a.p]
              exact ho
            have hnF : vb9 ≠ .slice none 0 0 := fun e => hn9 ((NA.out.1 e).1)
            go_wp2
            refine ⟨⟨j + 1, vb9, _, by omega, congrArg (Value.int .i64) (by omega), rfl, hobF, hnF, HN', hbF⟩, ?_⟩
            simp [RowKit.intOf]
            omega
      · obtain rfl : j = ps.length := by omega
        rw [List.take_length] at hG
        obtain ⟨g9, cap9, rfl⟩ := not_noneI hob hnn
        have glr := gl3.on hbr
        have Br := blo B3 hbr
        have Rr := (hbr.block _ (lt_of_block R3)).trans R3
        have Sr := S3.on hbr
        have hbl := gs_bytes (j := ps.length) HR.out (by rw [List.take_length]; exact hG.out)
        by_cases hbig : (catP qs []).length ≤ 16384
        · have hlb : ¬ ((catP qs []).length : Int) > 16384 := by omega
          have hlb' : ¬ (16384 : Int) < ((catP qs []).length : Int) := by omega
          have hr' : parseD (catP qs []) = .ok x := by
            rcases ign_sameD HR.out hG.out hbig with ⟨y, e1, e2⟩ | ⟨p, p', _, e1, _⟩
            · rw [HP.out] at e1
              cases e1
              exact e2
            · rw [HP.out] at e1
              cases e1
          have CONV := conv_rowI hob
          have P2 := par_ok hr' glr
          clear hr'
          go_wp2_with (first
            | (go_at_call 11; (with_reducible refine (dsame_eq T1 T5).mono ?_); rintro e w6 ⟨rfl, b6⟩)
            | (go_at_call 8; (with_reducible refine P2.mono ?_); rintro e w5 ⟨p5, n5, m5, q5, k5, l5, rfl, S5, b5⟩; have d := row2' (((al1 w5 (.cells #[.slice p5 n5 m5, .slice q5 k5 l5] 25)).block _ (Nat.lt_of_lt_of_le (lt_of_block Rr) b5.size)).trans ((b5.block _ (lt_of_block Rr)).trans Rr)); obtain ⟨d0, d1⟩ := d; have B5 := blo (blo Br b5) (al1 w5 (.cells #[.slice p5 n5 m5, .slice q5 k5 l5] 25)); have T5 := S5.on (al1 w5 (.cells #[.slice p5 n5 m5, .slice q5 k5 l5] 25)); have T1 := (Sr.on b5).on (al1 w5 (.cells #[.slice p5 n5 m5, .slice q5 k5 l5] 25)))
            | fail)
          go_ret
          exact ⟨by first | rfl | simp, blo B5 b6⟩
        · have hlb : ((catP qs []).length : Int) > 16384 := by omega
          have hlb' : (16384 : Int) < ((catP qs []).length : Int) := by omega
          go_wp2
          go_ret
          exact ⟨rfl, Br⟩
set_option maxRecDepth 100000 in
set_option maxHeartbeats 8000000 in
theorem ign_err (s : Bs) (a0 : Option Addr) (len cap : Nat) (zs : List Int) (ts0 : List Tok) (hs : lexS s = .inr ts0) (b : Nat) (hpd : parseD s = .error (b, 80)) (w : World) (h : IsRow .i64 w a0 len cap zs) (gl : Gl w) :
    Calls Tryz.prog 6 #[.string ⟨s.toArray⟩, .slice a0 len cap] w fun e w' => e = .returned (.bool true) ∧ Below w.heap.size w w' := by
    have P1 := par_err hpd gl
    have T := fun W (g : Gl W) => tokens_any s W g
    rw [hs] at T
    obtain ⟨ps, tl, hR, hts⟩ := right_of hs
    have HP : Hid (parseD s = .error (b, 80)) := hpd
    have hpl : b ≤ s.length := parse_place hpd
    have hb1 : (b : Int) ≤ (s.length : Int) := by omega
    have hb0 : (0 : Int) ≤ (b : Int) := by omega
    have hb2 : decide ((s.length : Int) < (b : Int)) = false := by simp; omega
    have hb3 : decide ((b : Int) < 0) = false := by simp
    have hb4 : decide (s.length < b) = false := by simp; omega
    have HR : Hid (Right s ps tl) := hR
    have hlen : ts0.length = ps.length := by rw [hts]; exact toksP_len _ _ _
    have hfew := hR.few
    have hsh := hR.short
    have hD : (ByteArray.mk s.toArray).size = s.length := rfl
    have HTS : Hid (ts0 = toksP s.length ps tl) := hts
    clear hR hts hs hpd
    generalize hDD : (ByteArray.mk s.toArray) = D at *
    have HD : Hid ((ByteArray.mk s.toArray) = D) := hDD
    clear hDD
    obtain ⟨i1, hi1, hy0, hy1, hy2⟩ := info_parts Tryz.infoByteI
    go_enter Tryz.func6, Tryz.ntmps6
    go_wp2_with (first
      | (go_at_call 14; refine (T _ gl2).mono ?_; rintro e w3 ⟨⟨v, rfl, ht⟩, b3⟩; have B3 := blo B2 b3; have gl3 := gl2.on b3; have R3 := (b3.block _ (lt_of_block R2)).trans R2; obtain ⟨a1, c1, rfl, hc1, hrow⟩ := toks_rowI ht; rw [hlen])
      | (go_at_call 10; refine (dfixed_any _ gl1).mono ?_; rintro e w2 ⟨rfl, b2⟩; have B2 := blo B1 b2; have gl2 := gl1.on b2; have R2 := (b2.block _ (lt_of_block R1)).trans R1)
      | (go_at_call 8; refine P1.mono ?_; rintro e w1 ⟨rfl, b1⟩; have B1 := blo b1 (al1 w1 (.cells #[.slice none 0 0, .slice none 0 0] 25)); have gl1 := (gl.on b1).alloc (.cells #[.slice none 0 0, .slice none 0 0] 25); have R1 := heap_alloc_new w1 (.cells #[.slice none 0 0, .slice none 0 0] 25))
      | fail)
    go_loopw [11, 12] (fun b i wr => ∃ (j : Nat) (vb : Value) (qs : List Pc), j ≤ ps.length ∧ i = .int .i64 (j : Int) ∧ b = vb ∧ BytesI wr w3.heap.size vb (catP qs []) ∧ vb ≠ .slice none 0 0 ∧ Hid (Gs qs (ps.take j)) ∧ Below w3.heap.size w3 wr) (fun _ i _ => ps.length - (RowKit.intOf i).toNat)
    case atStart => exact ⟨0, _, [], Nat.zero_le _, rfl, rfl, own_nobI w3, by simp, trivial, (Below.refl _ _).alloc (Nat.le_refl _) _⟩
    case round =>
      obtain ⟨j, vb, qs, hj, rfl, rfl, hob, hnn, hG, hbr⟩ := hrel
      by_cases hlt : j < ps.length
      · obtain ⟨a, t, R⟩ := rndI_of HR.out j hlt
        rw [← HTS.out] at R
        obtain ⟨r1, r2, r3, r4, r5, r6⟩ := R
        rw [HD.out] at r4
        have hne : ts0 ≠ [] := by rintro rfl; simp at r1
        obtain ⟨g1, rfl, hg1, hcell⟩ := hrow hne
        obtain ⟨h2, h3⟩ := hcell j t r1
        rw [Nat.mul_comm 4 j] at h2 h3
        clear hcell
        obtain ⟨tk, tt, tb, te⟩ := t
        simp only at h2 h3 r2 r3 r4 r5
        have hbl := gs_bytes HR.out hG.out
        have hsz : (ByteArray.mk a.p.toArray).size = te - tb := by rw [← r5]; rfl
        have f4 : ((tb : Int) ≤ (te : Int)) := by omega
        have f5 : (te : Int) ≤ (s.length : Int) := by omega
        have hcj : j < c1 := by omega
        have HN : ∀ k, Gs (qs ++ [⟨gapB k, a.p, a.k, a.t⟩]) (ps.take (j + 1)) := fun k => by rw [r6]; exact hG.out.snoc a k
        have HB : ∀ k, catP (qs ++ [⟨gapB k, a.p, a.k, a.t⟩]) [] = catP qs [] ++ gapB k ++ a.p := fun k => by
          rw [catP_app, catP_head]
          simp [catP]
        by_cases hgj : j < len
        · rcases h with ⟨_, h0, _⟩ | ⟨xa, rfl, q1, q2, q3, q4, _⟩
          · omega
          obtain ⟨bk, off, rfl, hc⟩ := ints_at q4 (by omega)
          have c0 : w.cell? ⟨bk, off + j, none⟩ = some (.int .i64 (zs.getD j 0)) := hc j (by omega)
          have cg : wr.cell? ⟨bk, off + j, none⟩ = some (.int .i64 (zs.getD j 0)) := cell_on (B3.trans (hbr.mono B3.size)) c0
          generalize zs.getD j 0 = c at cg
          clear c0 q4 hc
          unfold maxLen at q2
          obtain ⟨n, hn, hb3⟩ := and3 c
          have hl1 : (j : Int) < (len : Int) := by omega
          have CF := gap_cell wr n hn
          have hn4 : (n : Int) < 4 := by omega
          obtain ⟨GB, hGB, HGB, hGs⟩ : ∃ GB : ByteArray, (ByteArray.mk (gapB n).toArray) = GB ∧ Hid (GB = ⟨(gapB n).toArray⟩) ∧ GB.size ≤ 4 := ⟨_, rfl, rfl, (gap_of n).2.2⟩
          rw [hGB] at CF
          clear hGB
          have hb5 : Below wr.heap.size wr (wr.alloc gapO) := al1 _ _
          have hor := owns_belowI hob hb5
          go_wp2_with (first
            | (at_builtin; refine Lib.wpList_append_own_string _ rfl _ _ 40 9 rfl w3.heap.size 5 i1 Tryz.underlying40 Tryz.underlying9 hi1 hy0 hy1 hy2 _ _ _ rfl hor GB rfl ?d1 ?d2 ?d3 ?_)
            | fail)
          case d1 => unfold maxLen; omega
          case d2 => omega
          case d3 => first | exact Nat.le_trans hbr.size hb5.size | (have := hbr.size; omega)
          intro vb8 w8 hob8 hg8 hnil8
          have hb8 : Below w3.heap.size w3 w8 := (hbr.trans (hb5.mono hbr.size)).grown hg8 (Nat.le_trans hbr.size hb5.size) (own_geI hor)
          have hob9 : BytesI w8 w3.heap.size vb8 (catP qs [] ++ gapB n) := by
            have hx := HGB.out
            subst hx
            unfold BytesI
            rw [cells_app, List.length_append, ← strCells_eq (gapB n)]
            exact hob8
          have hn9 : vb8 ≠ .slice none 0 0 := by first | exact fun e => hnn (hnil8.1 e).1 | exact hnil8
          have h2' := cell_on hb8 h2
          have h3' := cell_on hb8 h3
          have hbl2 : (catP qs [] ++ gapB n).length ≤ s.length + 8196 := by
            have := (gap_of n).2.2
            rw [List.length_append]; omega
          have HN' : Hid (Gs (qs ++ [⟨gapB n, a.p, a.k, a.t⟩]) (ps.take (j + 1))) := HN n
          have HB' : Hid (catP (qs ++ [⟨gapB n, a.p, a.k, a.t⟩]) [] = catP qs [] ++ gapB n ++ a.p) := HB n
          generalize catP qs [] ++ gapB n = L2 at *
          clear hob8 hg8 hnil8 hor hob hG CF cg h2 h3 HN HB hbl
          obtain ⟨PB, hPB, HPB, hPs⟩ : ∃ PB : ByteArray, (ByteArray.mk a.p.toArray) = PB ∧ Hid (PB = ⟨a.p.toArray⟩) ∧ PB.size = te - tb := ⟨_, rfl, rfl, hsz⟩
          rw [hPB] at r4
          clear hPB hsz
          have hob9d : BytesI w8.drew w3.heap.size vb8 L2 := hob9
          have hb8d : Below w3.heap.size w3 w8.drew := hb8.drew
          have d1 : L2.length + PB.size ≤ maxLen := by unfold maxLen; omega
          have d3 := hb8d.size
          go_wp2
          go_region_law (first
            | (refine step_append_str rfl (.tmp 81) (.tmp 93) 40 9 rfl w3.heap.size 5 i1 Tryz.underlying40 Tryz.underlying9 hi1 hy0 hy1 hy2 vb8 L2.length (Lib.byteCells L2) rfl hob9d PB rfl d1 (by omega) d3 ?_; intro vb9 w9 hobA hgA hnilA; have OA : Hid _ := hobA; have GA : Hid _ := hgA; have NA : Hid _ := hnilA; clear hobA hgA hnilA)
            | fail)
          all_goals
            have hbF : Below w3.heap.size w3 w9 := hb8d.grown GA.out hb8d.size (own_geI hob9d)
            have hobF : BytesI w9 w3.heap.size vb9 (catP (qs ++ [⟨gapB n, a.p, a.k, a.t⟩]) []) := by
              have hx := HPB.out
              subst hx
              have ho := OA.out
              unfold BytesI
              rw [HB'.out, cells_app, List.length_append, ← strCells_eq a.p]
              exact ho
            have hnF : vb9 ≠ .slice none 0 0 := fun e => hn9 ((NA.out.1 e).1)
            go_wp2
            refine ⟨⟨j + 1, vb9, _, by omega, congrArg (Value.int .i64) (by omega), rfl, hobF, hnF, HN', hbF⟩, ?_⟩
            simp [RowKit.intOf]
            omega
        · have hl1 : ¬ (j : Int) < (len : Int) := by omega
          have CF := gap_cell wr 0 (by decide)
          obtain ⟨GB, hGB, HGB, hGs⟩ : ∃ GB : ByteArray, (ByteArray.mk (gapB 0).toArray) = GB ∧ Hid (GB = ⟨(gapB 0).toArray⟩) ∧ GB.size ≤ 4 := ⟨_, rfl, rfl, (gap_of 0).2.2⟩
          rw [hGB] at CF
          clear hGB
          have hb5 : Below wr.heap.size wr (wr.alloc gapO) := al1 _ _
          have hor := owns_belowI hob hb5
          go_wp2_with (first
            | (at_builtin; refine Lib.wpList_append_own_string _ rfl _ _ 40 9 rfl w3.heap.size 5 i1 Tryz.underlying40 Tryz.underlying9 hi1 hy0 hy1 hy2 _ _ _ rfl hor GB rfl ?d1 ?d2 ?d3 ?_)
            | fail)
          case d1 => unfold maxLen; omega
          case d2 => omega
          case d3 => first | exact Nat.le_trans hbr.size hb5.size | (have := hbr.size; omega)
          intro vb8 w8 hob8 hg8 hnil8
          have hb8 : Below w3.heap.size w3 w8 := (hbr.trans (hb5.mono hbr.size)).grown hg8 (Nat.le_trans hbr.size hb5.size) (own_geI hor)
          have hob9 : BytesI w8 w3.heap.size vb8 (catP qs [] ++ gapB 0) := by
            have hx := HGB.out
            subst hx
            unfold BytesI
            rw [cells_app, List.length_append, ← strCells_eq (gapB 0)]
            exact hob8
          have hn9 : vb8 ≠ .slice none 0 0 := by first | exact fun e => hnn (hnil8.1 e).1 | exact hnil8
          have h2' := cell_on hb8 h2
          have h3' := cell_on hb8 h3
          have hbl2 : (catP qs [] ++ gapB 0).length ≤ s.length + 8196 := by
            have := (gap_of 0).2.2
            rw [List.length_append]; omega
          have HN' : Hid (Gs (qs ++ [⟨gapB 0, a.p, a.k, a.t⟩]) (ps.take (j + 1))) := HN 0
          have HB' : Hid (catP (qs ++ [⟨gapB 0, a.p, a.k, a.t⟩]) [] = catP qs [] ++ gapB 0 ++ a.p) := HB 0
          generalize catP qs [] ++ gapB 0 = L2 at *
          clear hob8 hg8 hnil8 hor hob hG CF h2 h3 HN HB hbl
          obtain ⟨PB, hPB, HPB, hPs⟩ : ∃ PB : ByteArray, (ByteArray.mk a.p.toArray) = PB ∧ Hid (PB = ⟨a.p.toArray⟩) ∧ PB.size = te - tb := ⟨_, rfl, rfl, hsz⟩
          rw [hPB] at r4
          clear hPB hsz
          have hob9d : BytesI w8.drew w3.heap.size vb8 L2 := hob9
          have hb8d : Below w3.heap.size w3 w8.drew := hb8.drew
          have d1 : L2.length + PB.size ≤ maxLen := by unfold maxLen; omega
          have d3 := hb8d.size
          go_wp2
          go_region_law (first
            | (refine step_append_str rfl (.tmp 81) (.tmp 93) 40 9 rfl w3.heap.size 5 i1 Tryz.underlying40 Tryz.underlying9 hi1 hy0 hy1 hy2 vb8 L2.length (Lib.byteCells L2) rfl hob9d PB rfl d1 (by omega) d3 ?_; intro vb9 w9 hobA hgA hnilA; have OA : Hid _ := hobA; have GA : Hid _ := hgA; have NA : Hid _ := hnilA; clear hobA hgA hnilA)
            | fail)
          all_goals
            have hbF : Below w3.heap.size w3 w9 := hb8d.grown GA.out hb8d.size (own_geI hob9d)
            have hobF : BytesI w9 w3.heap.size vb9 (catP (qs ++ [⟨gapB 0, a.p, a.k, a.t⟩]) []) := by
              have hx := HPB.out
              subst hx
              have ho := OA.out
              unfold BytesI
              rw [HB'.out, cells_app, List.length_append, ← strCells_eq a.p]
              exact ho
            have hnF : vb9 ≠ .slice none 0 0 := fun e => hn9 ((NA.out.1 e).1)
            go_wp2
            refine ⟨⟨j + 1, vb9, _, by omega, congrArg (Value.int .i64) (by omega), rfl, hobF, hnF, HN', hbF⟩, ?_⟩
            simp [RowKit.intOf]
            omega
      · obtain rfl : j = ps.length := by omega
        rw [List.take_length] at hG
        obtain ⟨g9, cap9, rfl⟩ := not_noneI hob hnn
        have glr := gl3.on hbr
        have Br := blo B3 hbr
        have Rr := (hbr.block _ (lt_of_block R3)).trans R3
        have hbl := gs_bytes (j := ps.length) HR.out (by rw [List.take_length]; exact hG.out)
        by_cases hbig : (catP qs []).length ≤ 16384
        · have hlb : ¬ ((catP qs []).length : Int) > 16384 := by omega
          have hlb' : ¬ (16384 : Int) < ((catP qs []).length : Int) := by omega
          obtain ⟨p', hr'⟩ : ∃ p', parseD (catP qs []) = .error (p', 80) := by
            rcases ign_sameD HR.out hG.out hbig with ⟨y, e1, e2⟩ | ⟨p, p', _, e1, e2⟩
            · rw [HP.out] at e1
              cases e1
            · exact ⟨p', e2⟩
          have CONV := conv_rowI hob
          have P2 := par_err hr' glr
          clear hr'
          go_wp2_with (first
            | (go_at_call 11; (with_reducible refine (dsame_eq (nil_At _) (nil_At _)).mono ?_); rintro e w6 ⟨rfl, b6⟩)
            | (go_at_call 8; (with_reducible refine P2.mono ?_); rintro e w5 ⟨rfl, b5⟩; have d := row2' (((al1 w5 (.cells #[.slice none 0 0, .slice none 0 0] 25)).block _ (Nat.lt_of_lt_of_le (lt_of_block Rr) b5.size)).trans ((b5.block _ (lt_of_block Rr)).trans Rr)); obtain ⟨d0, d1⟩ := d; have B5 := blo (blo Br b5) (al1 w5 (.cells #[.slice none 0 0, .slice none 0 0] 25)))
            | fail)
          go_ret
          exact ⟨by first | rfl | simp, blo B5 b6⟩
        · have hlb : ((catP qs []).length : Int) > 16384 := by omega
          have hlb' : (16384 : Int) < ((catP qs []).length : Int) := by omega
          go_wp2
          go_ret
          exact ⟨rfl, Br⟩
theorem ignores_walk (s : Bs) (a0 : Option Addr) (len cap : Nat) (zs : List Int) (w : World) (h : IsRow .i64 w a0 len cap zs) (gl : Gl w) :
    Calls Tryz.prog 6 #[.string ⟨s.toArray⟩, .slice a0 len cap] w fun e w' => e = .returned (.bool true) ∧ Below w.heap.size w w' := by
  cases hs : lexS s with
  | inl p => exact ign_lex s a0 len cap p hs w gl
  | inr ts =>
    cases hp : parseD s with
    | ok x => exact ign_ok s a0 len cap zs ts hs x hp w h gl
    | error p =>
      have h80 : p.2 = 80 := by
        unfold parseD at hp
        rw [hs] at hp
        simp only at hp
        split at hp
        · rename_i q hq
          cases hp
          exact e80_schema _ _ hq
        · cases hp
      obtain ⟨b, e⟩ := p
      simp only at h80
      subst h80
      exact ign_err s a0 len cap zs ts hs b hp w h gl
end Go.Proofs.YtglpabfjnngbnaaGreatDoor
namespace Go.Proofs.YtglpabfjnngbnaaGreatDoor
open Go.ChangeShapes Go.WideShapes Go.ChangeAt Go.RowKit
open Go.ChangeMaps (open_string shut_string)

theorem Tryz.laidOut : laidOutB Tryz.prog = true := by kernel_rfl
theorem Tryz.own : ownKnob Tryz.prog.godebug = none := by kernel_rfl

/-- The road from the contract to the row where the contract is handed both what is listed and the world's shape. -/
theorem lifted_by {H : Type} {enc : TypeId × Value → H} {C : Checked} {os : Os} {f : FuncId} {fn : Func} {s : ChangeSpec} {conds : List PathCond} {apart fresh handsOn again : Bool} {X : World → Array Value → Prop}
    (hX : ∀ (w w' : World) (args : Array Value), w.heap = w'.heap → X w args → X w' args)
    (own : ownKnob C.prog.godebug = none) (started : os.Started) (noInit : C.prog.inits.idxOf? f = none) (hfn : C.prog.funcs[f]? = some fn)
    (witness : ∃ (w : World) (tape : Tape) (i : Input), w.os = os ∧ (w.forCall tape i).Shaped C.prog ∧ i.vars = [] ∧ Input.okWide C.prog (w.forCall tape i) .any w.heap.size f i ∧
      ((s.pre enc C.prog fn conds apart (w.forCall tape i).memory i.args ∧ X (w.forCall tape i).memory i.args) ∧ sizedMet enc C.prog fn (OpenSpec.ofChange s) apart (w.forCall tape i).memory i.args) ∧ ({} : Assume).holds C.prog (lone (Frame.enter C.prog f i.args .normal) [] (w.forCall tape i)))
    (contract : ∀ (W : World) (base : Nat) (args : Array Value) (ds gs : List (DataW H)) (before : List MemPlace),
      (∀ (j : Nat) t v, fn.params[j]? = some t → args[j]? = some v → Value.okWide C.prog W .any base t v) →
      DataW.Whole enc C.prog fn.params.toList s.vars apart W args.toList ds gs before →
      (DataW.weightsEach C.prog (fn.params.toList ++ s.plain.varTypes C.prog) (ds ++ gs)).all (· ≤ reachBytes) = true → W.ShapedOpen C.prog → X W args →
      Calls C.prog f args W fun e W' => ∃ v, e = .returned v ∧ s.post enc C.prog fn apart fresh handsOn again W args v W') :
    ReturnsInHanded {} C os f .any (fun w args => (s.pre enc C.prog fn conds apart w args ∧ X w args) ∧ sizedMet enc C.prog fn (OpenSpec.ofChange s) apart w args) (s.post enc C.prog fn apart fresh handsOn again) := by
  refine returnsInHanded_of_calls own started noInit witness ?_
  intro w tape i _ hsh _ hok hpre _
  obtain ⟨_, _, _, fn', hfn', _, _, _, _, hval⟩ := hok
  obtain rfl : fn' = fn := Option.some.inj (hfn'.symm.trans hfn)
  obtain ⟨⟨⟨ds, gs, before, hw, _⟩, hx⟩, hz⟩ := hpre
  refine (contract (w.forCall tape i) w.heap.size i.args ds gs before hval (DataW.Whole.of_heap (w' := w.forCall tape i) (by rfl) hw) (hz.weights hw) hsh (hX _ _ _ (by rfl) hx)).mono fun e W' ⟨v, he, hp⟩ => ?_
  subst he
  exact ChangeSpec.post_blind hp

set_option maxRecDepth 100000 in
theorem sdlIgnores_lifted (os : Os) (started : os.Started) (H : Type) (enc : TypeId × Value → H) :
    ReturnsInHanded {} Tryz.checked os 6 .any (fun w args => (Rows.sdlIgnoresSpec.pre enc Tryz.prog Tryz.f6 Rows.sdlIgnoresRow.domain false w args ∧ laidMetH Tryz.prog listed w) ∧ sizedMet enc Tryz.prog Tryz.f6 (OpenSpec.ofChange Rows.sdlIgnoresSpec) false w args)
      (Rows.sdlIgnoresSpec.post enc Tryz.prog Tryz.f6 false true false false) := by
  refine lifted_by (C := Tryz.checked) (X := fun w _ => laidMetH Tryz.prog listed w) (fun _ _ _ hh h => h.of_heap hh) Tryz.own started (by kernel_rfl) Tryz.func6
    (ChangeSpec.witness_shaped (enc := enc) (C := Tryz.checked) (os := os) (X := fun w _ => laidMetH Tryz.prog listed w) false (World.laidAll Tryz.prog os listed) #[.string ByteArray.empty, .slice none 0 0] 8 (World.laidAll_os _ _ _)
      (World.shaped_of_ZipB (by kernel_rfl) (by kernel_rfl)) (by kernel_rfl) (by kernel_rfl) (by kernel_rfl)
      (by rw [MakeChecks.laidMetH_plain _ _ _ (by kernel_rfl)]; exact laidMet_laidAll _ (by kernel_rfl) (by kernel_rfl))) ?_
  intro W base args ds gs before hval0 hW hsz hsh hL
  have hval : ∀ (j : Nat) t v, Tryz.f6.params[j]? = some t → args[j]? = some v → Value.okWide Tryz.prog W .any base t v := hval0
  have hW' := hW
  obtain ⟨p, q, hA0, hV, rfl, hfz, hnd⟩ := hW
  have hA : DataW.TrodAll enc Tryz.prog W 0 (fun _ => true) true Tryz.f6.params.toList args.toList ds p := hA0
  rw [Tryz.params6] at hA hval
  obtain ⟨v0, vs0, d0, ds0, p0, q0, hargs, rfl, rfl, h0, r0⟩ := trodAll_cons hA
  obtain ⟨v1, vs1, d1, ds1, p1, q1, rfl, rfl, rfl, h1, r1⟩ := trodAll_cons r0
  obtain ⟨rfl, rfl, rfl⟩ := trodAll_nil r1
  obtain rfl : args = #[v0, v1] := by cases args; simp_all
  obtain ⟨rfl, rfl⟩ := trodVars_none hV
  obtain ⟨a0, rfl, rfl, rfl, w0⟩ := open_string Tryz.underlying9 (hval 0 9 v0 rfl rfl) h0
  obtain ⟨a1, len1, cap1, rfl⟩ := okWide_slice Tryz.underlying36 (hval 1 36 v1 rfl rfl)
  have k1 := h1
  have lt1 : ∀ x ∈ p1, x.block < W.heap.size := by obtain ⟨m, hm⟩ := k1; exact DataW.trod_lt m _ _ _ hm
  obtain ⟨z1, w1⟩ : ∃ zs, IsRow .i64 W a1 len1 cap1 zs := by
    obtain ⟨fuel, hf⟩ := h1
    rcases open_ints Tryz.underlying36 Tryz.underlying3 (by kernel_rfl) hf with ⟨hcs, _⟩ | ⟨x, l, c, zs, hcs, _, hl, hm, hz, hx, hcell, hwz⟩
    · simp [Value.cells] at hcs
      obtain ⟨rfl, rfl, rfl⟩ := hcs
      exact ⟨[], .inl ⟨rfl, rfl, rfl, rfl⟩⟩
    · simp [Value.cells] at hcs
      obtain ⟨rfl, rfl, rfl⟩ := hcs
      have hz' : zs.length = cap1 := by simpa using hz
      exact ⟨zs, .inr ⟨_, rfl, hl, hm, hz', hcell, hwz⟩⟩
  have hL2 : laidMetH Tryz.prog listed W := hL
  rw [MakeChecks.laidMetH_plain _ _ _ (by kernel_rfl)] at hL2
  have gl := gl_laid hL2 hsh
  clear hA0 hval0 hL hL2 hsz
  have wk := ignores_walk a0.data.toList a1 len1 cap1 z1 W w1 gl
  simp only [mk_toList] at wk
  refine wk.mono fun e W' ⟨he, bel⟩ => ?_
  subst he
  exact ⟨_, rfl, _, _, _, [], _, [], hW', trodAll_mk1 (shut_bool Tryz.underlying4 _), (trodAll_cons_mk (shut_string Tryz.underlying9 w0) (trodAll_cons_mk (Below.trod Tryz.laidOut (by kernel_rfl) (of_decide_eq_true (by kernel_rfl)) k1 bel lt1) trodAll_mk0)), rfl, bel.frame _, fun h => by cases h⟩

theorem sdlIgnores_row : Rows.SdlIgnoresSaid :=
  OpenClaim.holds_of_wide 6 Tryz.f6 rfl rfl rfl rfl rfl rfl rfl ⟨rfl, rfl, rfl, rfl, rfl⟩ rfl rfl rfl rfl rfl (by kernel_rfl) Tryz.func6 (by kernel_rfl)
    (of_decide_eq_true (by kernel_rfl)) (by unfold Func.isWrapper; first | (rw [if_pos (by decide +kernel)]; kernel_rfl) | (rw [if_neg (by decide +kernel)]; exact ⟨rfl, rfl⟩))
    (fun os started H enc _ => sdlIgnores_lifted os started H enc)

theorem sdlIgnores_holds : Rows.SdlIgnoresCardSaid :=
  Claim7.holds_tied_plain_at .later [] _ _ _ _ sdlIgnores_row (fun _ h => by cases h) (by kernel_rfl) (fun _ h => by cases h) sdlIgnores_row_tie rfl ⟨rfl, rfl⟩ (by kernel_rfl) rfl
    (fun f fn hf hfn => by
      obtain rfl : f = 6 := Option.some.inj ((show Tryz.prog.funcNamed "rhizome/rhizomelaw08.SdlIgnores" = some 6 by kernel_rfl).symm.trans hf) |>.symm
      obtain rfl : fn = Tryz.f6 := (Option.some.inj (Tryz.func6.symm.trans hfn)).symm
      exact ⟨by kernel_rfl, fun j t ht => by
        rw [Tryz.params6] at ht
        have hm : t ∈ [9, 36] := by simpa using Array.mem_of_getElem? ht
        have hall : ([9, 36].all fun u => !Tryz.prog.wantsStandIn u) = true := by kernel_rfl
        exact (show Tryz.prog.wantsStandIn t = false by simpa using List.all_eq_true.1 hall t hm)⟩)
    (by kernel_rfl)
#print axioms sdlIgnores_holds
end Go.Proofs.YtglpabfjnngbnaaGreatDoor
