/- A string with an escape in it: its token. -/
import Derived.Test.YtebojfipdcicaaaGreatDoorLxF1
import Derived.Test.YtebojfipdcicaaaGreatDoorLxE
namespace Go.Proofs.YtebojfipdcicaaaGreatDoor
open Go Go.RowKit

theorem dec_ascii (S : ByteArray) (p : Nat) (h : (S.get! p).toNat < 128) : Utf8.decode S p = ((S.get! p).toNat, 1) := by
  unfold Utf8.decode
  simp only [Nat.add_zero]
  rw [if_pos h]
theorem stC_ascii (S : ByteArray) (p : Nat) (h : (S.get! p).toNat < 128) : stC S p = ((S.get! p).toNat : Int) := by
  unfold stC
  rw [dec_ascii S p h, if_neg]
  intro e
  have := (Prod.mk.inj e).1
  omega
theorem get_mk (x : Bs) (p : Nat) (hp : p < x.length) : (ByteArray.mk x.toArray).get! p = x[p] := by
  show x.toArray[p]! = _
  simp [hp]
theorem src_plain (x : Bs) (h : ∀ c ∈ x, 32 ≤ c.toNat ∧ c.toNat < 128) : srcB x = none := by
  have hw : ∀ n p, walkF ⟨x.toArray⟩ (sourceStep ⟨x.toArray⟩) n p (0, 0) = (0, 0) := by
    intro n
    induction n with
    | zero => intro p; rfl
    | succ n ih =>
      intro p
      unfold walkF
      by_cases hp : p < (ByteArray.mk x.toArray).size
      · rw [if_pos hp]
        have hp' : p < x.length := hp
        have hx := h x[p] (List.getElem_mem hp')
        have hg := get_mk x p hp'
        have hc : sourceB (stC ⟨x.toArray⟩ p) = true := by
          rw [stC_ascii _ _ (by rw [hg]; exact hx.2), hg]
          unfold sourceB
          simp
          omega
        have e : sourceStep ⟨x.toArray⟩ (0, 0) p = ((0, 0), true) := if_pos hc
        rw [e]
        exact ih _
      · rw [if_neg hp]
  unfold srcB sourceS walk
  rw [hw]
  rfl
attribute [local irreducible] srcB unitS
theorem hexV_bd {x : UInt8} {d : Nat} (h : hexV x = some d) : 32 ≤ x.toNat ∧ x.toNat < 128 := by
  unfold hexV at h
  split at h
  · omega
  · split at h
    · omega
    · split at h
      · omega
      · cases h
theorem lineF_esc (n : Nat) (x0 x1 x2 x3 : UInt8) (U : Bs) (h : nmbS [x0, x1, x2, x3, 121, 34] = some (U, [121, 34])) : lineF (n + 4) [120, 92, 117, x0, x1, x2, x3, 121, 34] = some (120 :: (U ++ [121]), []) := by
  have e1 : lineF (n + 4) [120, 92, 117, x0, x1, x2, x3, 121, 34] = (lineF (n + 3) [92, 117, x0, x1, x2, x3, 121, 34]).map fun q => (120 :: q.1, q.2) := rfl
  have e2 : lineF (n + 3) [92, 117, x0, x1, x2, x3, 121, 34] = (escS [117, x0, x1, x2, x3, 121, 34]).bind fun p => (lineF (n + 2) p.2).map fun q => (p.1 ++ q.1, q.2) := rfl
  have e3 : escS [117, x0, x1, x2, x3, 121, 34] = nmbS [x0, x1, x2, x3, 121, 34] := rfl
  have e4 : lineF (n + 2) [121, 34] = some ([121], []) := rfl
  rw [e1, e2, e3, h]
  simp only [Option.bind_some, e4, Option.map_some]
theorem lexS_esc (x0 x1 x2 x3 : UInt8) (d0 d1 d2 d3 : Nat) (h0 : hexV x0 = some d0) (h1 : hexV x1 = some d1) (h2 : hexV x2 = some d2) (h3 : hexV x3 = some d3) (V : Nat) (hV : d0 * 4096 + d1 * 256 + d2 * 16 + d3 = V) :
    lexS [34, 120, 92, 117, x0, x1, x2, x3, 121, 34] = .inr [⟨4, 120 :: (unitS V ++ [121]), 0, 10⟩] := by
  have hn : nmbS [x0, x1, x2, x3, 121, 34] = some (unitS V, [121, 34]) := by
    rw [← hV]
    show ((hexV x0).bind fun x => (hexV x1).bind fun y => (hexV x2).bind fun z => (hexV x3).bind fun t => some (unitS (x * 4096 + y * 256 + z * 16 + t), [121, 34])) = _
    rw [h0, h1, h2, h3]
    simp only [Option.bind_some]
  have hl := lineF_esc 7 x0 x1 x2 x3 (unitS V) hn
  have hs : srcB [34, 120, 92, 117, x0, x1, x2, x3, 121, 34] = none := src_plain _ (by
    intro c hc
    simp at hc
    rcases hc with rfl | rfl | rfl | rfl | rfl | rfl | rfl | rfl | rfl | rfl
    · decide
    · decide
    · decide
    · decide
    · exact hexV_bd h0
    · exact hexV_bd h1
    · exact hexV_bd h2
    · exact hexV_bd h3
    · decide
    · decide)
  have hx : textS [34, 120, 92, 117, x0, x1, x2, x3, 121, 34] = some (120 :: (unitS V ++ [121]), []) := by
    unfold textS
    have e1 : textR [34, 120, 92, 117, x0, x1, x2, x3, 121, 34] = lineF 11 [120, 92, 117, x0, x1, x2, x3, 121, 34] := rfl
    rw [e1, hl]
    simp only [Option.bind_some]
    have e2 : ahead [34, 120, 92, 117, x0, x1, x2, x3, 121, 34] [] = [34, 120, 92, 117, x0, x1, x2, x3, 121, 34] := rfl
    rw [e2, hs]
    simp only [Option.isSome_none, Bool.false_eq_true, if_false]
  have ht : tokS [34, 120, 92, 117, x0, x1, x2, x3, 121, 34] = .ok 4 (120 :: (unitS V ++ [121])) [] := by
    have e1 : tokS [34, 120, 92, 117, x0, x1, x2, x3, 121, 34] = (match textS [34, 120, 92, 117, x0, x1, x2, x3, 121, 34] with
      | none => .bad 52
      | some p => .ok 4 p.1 p.2) := rfl
    rw [e1, hx]
  have hk : skipS [34, 120, 92, 117, x0, x1, x2, x3, 121, 34] = .inl [34, 120, 92, 117, x0, x1, x2, x3, 121, 34] := rfl
  have he : lexS [34, 120, 92, 117, x0, x1, x2, x3, 121, 34] = lexG 10 0 [34, 120, 92, 117, x0, x1, x2, x3, 121, 34] := rfl
  rw [he, lexG_ok hk (by decide) ht, lexG_end rfl]
  rfl
def hexU (n : Nat) : UInt8 := if n < 10 then (48 + n).toUInt8 else (55 + n).toUInt8
theorem hexV_low : ∀ n : Fin 16, hexV (hexD n) = some n.1 := by decide
theorem hexV_cap : ∀ n : Fin 16, hexV (hexU n) = some n.1 := by decide
/-- Both ways of writing a number of 16 bits say the same. -/
theorem lexS_small (n : Nat) (hn : n < 65536) : lexS [34, 120, 92, 117, hexD (n / 4096 % 16), hexD (n / 256 % 16), hexD (n / 16 % 16), hexD (n / 1 % 16), 121, 34] = .inr [⟨4, 120 :: (unitS n ++ [121]), 0, 10⟩] :=
  lexS_esc _ _ _ _ _ _ _ _ (hexV_low ⟨n / 4096 % 16, Nat.mod_lt _ (by decide)⟩) (hexV_low ⟨n / 256 % 16, Nat.mod_lt _ (by decide)⟩) (hexV_low ⟨n / 16 % 16, Nat.mod_lt _ (by decide)⟩) (hexV_low ⟨n / 1 % 16, Nat.mod_lt _ (by decide)⟩) n (by show n / 4096 % 16 * 4096 + n / 256 % 16 * 256 + n / 16 % 16 * 16 + n / 1 % 16 = n; omega)
theorem lexS_great (n : Nat) (hn : n < 65536) : lexS [34, 120, 92, 117, hexU (n / 4096 % 16), hexU (n / 256 % 16), hexU (n / 16 % 16), hexU (n / 1 % 16), 121, 34] = .inr [⟨4, 120 :: (unitS n ++ [121]), 0, 10⟩] :=
  lexS_esc _ _ _ _ _ _ _ _ (hexV_cap ⟨n / 4096 % 16, Nat.mod_lt _ (by decide)⟩) (hexV_cap ⟨n / 256 % 16, Nat.mod_lt _ (by decide)⟩) (hexV_cap ⟨n / 16 % 16, Nat.mod_lt _ (by decide)⟩) (hexV_cap ⟨n / 1 % 16, Nat.mod_lt _ (by decide)⟩) n (by show n / 4096 % 16 * 4096 + n / 256 % 16 * 256 + n / 16 % 16 * 16 + n / 1 % 16 = n; omega)
end Go.Proofs.YtebojfipdcicaaaGreatDoor
