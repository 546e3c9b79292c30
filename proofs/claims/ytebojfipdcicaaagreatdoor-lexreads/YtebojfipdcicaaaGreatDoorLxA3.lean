/- How a text is quoted. -/
import Derived.Test.YtebojfipdcicaaaGreatDoorLxA2
namespace Go.Proofs.YtebojfipdcicaaaGreatDoor
open Go Go.RowKit

def halfC (c d e : UInt8) : Prop := c = 237 ∧ 160 ≤ d.toNat ∧ d.toNat ≤ 191 ∧ 128 ≤ e.toNat ∧ e.toNat ≤ 191
instance (c d e : UInt8) : Decidable (halfC c d e) := by unfold halfC; infer_instance
def halfV (d e : UInt8) : Nat := 53248 + (d.toNat - 128) * 64 + (e.toNat - 128)
def halfN (c d e : UInt8) : Int := ((c.toNat : Int) - 224) * 4096 + ((d.toNat : Int) - 128) * 64 + (e.toNat : Int) - 128
theorem halfN_yes {c d e : UInt8} (h : halfC c d e) : halfN c d e = (halfV d e : Nat) ∧ 55296 ≤ halfV d e ∧ halfV d e ≤ 57343 := by
  obtain ⟨rfl, h1, h2, h3, h4⟩ := h
  unfold halfN halfV
  have : (237 : UInt8).toNat = 237 := rfl
  rw [this]
  omega
theorem u8_eq {a b : UInt8} (h : a.toNat = b.toNat) : a = b := UInt8.toNat_inj.1 h
theorem toU8 (n : Nat) : (n.toUInt8).toNat = n % 256 := by simp
theorem halfS_eq (V : Nat) (c d e : UInt8) (h1 : (224 + V / 4096) % 256 = c.toNat) (h2 : (128 + V / 64 % 64) % 256 = d.toNat) (h3 : (128 + V % 64) % 256 = e.toNat) : halfS V = [c, d, e] := by
  unfold halfS
  rw [show (224 + V / 4096).toUInt8 = c from u8_eq (by rw [toU8]; exact h1), show (128 + V / 64 % 64).toUInt8 = d from u8_eq (by rw [toU8]; exact h2), show (128 + V % 64).toUInt8 = e from u8_eq (by rw [toU8]; exact h3)]
theorem halfS_yes {c d e : UInt8} (h : halfC c d e) : halfS (halfV d e) = [c, d, e] := by
  obtain ⟨h0, h1, h2, h3, h4⟩ := h
  have hV : halfV d e = 53248 + (d.toNat - 128) * 64 + (e.toNat - 128) := rfl
  have hc : c.toNat = 237 := by rw [h0]; rfl
  generalize halfV d e = V at *
  exact halfS_eq V c d e (by omega) (by omega) (by omega)
theorem halfS_no {c d e : UInt8} {V : Nat} (h1 : 55296 ≤ V) (h2 : V ≤ 57343) (h : halfS V = [c, d, e]) : halfC c d e := by
  unfold halfS at h
  injection h with hc h
  injection h with hd h
  injection h with he h
  have e1 := congrArg UInt8.toNat hc
  have e2 := congrArg UInt8.toNat hd
  have e3 := congrArg UInt8.toNat he
  rw [toU8] at e1 e2 e3
  refine ⟨u8_eq ?_, ?_, ?_, ?_, ?_⟩
  · rw [← e1, show (237 : UInt8).toNat = 237 from rfl]; omega
  all_goals omega

theorem halfOf_short (l : Bs) (hl : l.length < 3) (w : World) : Calls Tryz.prog 54 #[.string ⟨l.toArray⟩] w fun e w' => (∃ x, e = .returned (.tuple #[.int .i64 x, .bool false])) ∧ Below w.heap.size w w' := by
  have h1 := size_of l
  have h2 : (l.length : Int) < 3 := by omega
  generalize (ByteArray.mk l.toArray) = L at *
  go_enter Tryz.func54, Tryz.ntmps54
  go_wp2
  go_ret2
  exact ⟨⟨_, rfl⟩, Below.refl _ _⟩

set_option maxHeartbeats 2000000 in
/-- Three bytes at least: the number, by parts. -/
theorem halfOf_walk (X Y Z : UInt8) (r : Bs) (hl : r.length ≤ 1048576) (N : Int) (hN : halfN X Y Z = N) (B B2 : Bool) (w : World) (T : ByteArray)
    (H : ∀ w, Calls Tryz.prog 73 #[.int .i64 N] w fun e w' => e = .returned (.bool B) ∧ w' = w)
    (F : B = true → ∀ w, Calls Tryz.prog 74 #[.int .i64 N] w fun e w' => e = .returned (.string T) ∧ Below w.heap.size w w') (hT : B = true → (T.toList == (ByteArray.mk #[X, Y, Z]).toList) = B2) :
    Calls Tryz.prog 54 #[.string ⟨(X :: Y :: Z :: r).toArray⟩] w fun e w' => e = .returned (.tuple #[.int .i64 N, .bool (B && B2)]) ∧ Below w.heap.size w w' := by
  have h1 : (ByteArray.mk (X :: Y :: Z :: r).toArray).size = r.length + 3 := rfl
  have g0 : ∀ h, (ByteArray.mk (X :: Y :: Z :: r).toArray)[0]'h = X := fun _ => rfl
  have g1 : ∀ h, (ByteArray.mk (X :: Y :: Z :: r).toArray)[1]'h = Y := fun _ => rfl
  have g2 : ∀ h, (ByteArray.mk (X :: Y :: Z :: r).toArray)[2]'h = Z := fun _ => rfl
  have hx : (ByteArray.mk (X :: Y :: Z :: r).toArray).extract 0 3 = ⟨#[X, Y, Z]⟩ := by
    apply ByteArray.ext; apply Array.toList_inj.1; simp
  have hlI : (r.length : Int) ≤ 1048576 := by omega
  have hX := X.toNat_lt
  have hY := Y.toNat_lt
  have hZ := Z.toNat_lt
  have hX' : (X.toNat : Int) ≤ 255 := by omega
  have hY' : (Y.toNat : Int) ≤ 255 := by omega
  have hZ' : (Z.toNat : Int) ≤ 255 := by omega
  unfold halfN at hN
  clear hX hY hZ hl
  generalize (ByteArray.mk (X :: Y :: Z :: r).toArray) = L at *
  generalize (ByteArray.mk #[X, Y, Z]) = M at *
  have hlt : decide ((r.length : Int) + 3 < 3) = false := by simp; omega
  cases B with
  | false =>
    clear F hT
    go_enter Tryz.func54, Tryz.ntmps54
    go_wp2
    go_quiet (fail)
    have hb9 : Below w.heap.size w (w.drewN nq) := ⟨rfl, rfl, rfl, Nat.le_refl _, fun _ _ => rfl⟩
    generalize w.drewN nq = w9 at *
    go_wp2
    go_quiet ((go_at_call 73; exact Calls.quiet_of_same (H _)))
    go_wp2
    go_ret2
    exact ⟨rfl, hb9.trans ⟨rfl, rfl, rfl, Nat.le_refl _, fun _ _ => rfl⟩⟩
  | true =>
    have F' := F rfl
    have hT' := hT rfl
    clear F hT
    go_enter Tryz.func54, Tryz.ntmps54
    go_wp2
    go_quiet (fail)
    have hb9 : Below w.heap.size w (w.drewN nq) := ⟨rfl, rfl, rfl, Nat.le_refl _, fun _ _ => rfl⟩
    generalize w.drewN nq = w9 at *
    go_wp2
    go_region_with (first
      | (go_at_call 73; refine (H _).mono ?_; rintro e w1 ⟨rfl, rfl⟩)
      | (go_at_call 74; refine (F' _).mono ?_; rintro e w2 ⟨rfl, hb2⟩)
      | fail)
    all_goals
      go_wp2
      go_ret2
      refine ⟨?_, hb9.trans ((⟨rfl, rfl, rfl, Nat.le_refl _, fun _ _ => rfl⟩ : Below w.heap.size w9 w9.drew).trans (hb2.mono hb9.size))⟩
      first | rfl | (rw [← hT']; rfl)
/-- The half that these bytes begin with. -/
def halfQ : Bs → Option Nat
  | c :: d :: e :: _ => if halfC c d e then some (halfV d e) else none
  | _ => none
theorem halfOf_any (l : Bs) (hl : l.length ≤ 1048576) (w : World) : Calls Tryz.prog 54 #[.string ⟨l.toArray⟩] w fun e w' => (match halfQ l with
    | some V => e = .returned (.tuple #[.int .i64 (V : Int), .bool true])
    | none => ∃ x, e = .returned (.tuple #[.int .i64 x, .bool false])) ∧ Below w.heap.size w w' := by
  match l, hl with
  | [], _ => exact halfOf_short [] (by simp) w
  | [_], _ => exact halfOf_short [_] (by simp) w
  | [_, _], _ => exact halfOf_short [_, _] (by simp) w
  | c :: d :: e :: r, hl =>
    have hr : r.length ≤ 1048576 := by simp at hl; omega
    have H := fun w => isHalf_any (halfN c d e) w
    by_cases h : halfC c d e
    · obtain ⟨h1, h2, h3⟩ := halfN_yes h
      rw [show halfQ (c :: d :: e :: r) = some (halfV d e) from if_pos h]
      have hs := halfS_yes h
      rw [h1] at H
      generalize halfV d e = V at *
      refine halfOf_walk c d e r hr (V : Int) h1 true true w ⟨#[c, d, e]⟩ (fun w => ?_) (fun _ w => ?_) (fun _ => by simp)
      · have := H w
        rw [decide_eq_true (by omega)] at this
        exact this
      · have := half_any V w (by omega) (by omega)
        rw [hs] at this
        exact this
    · rw [show halfQ (c :: d :: e :: r) = none from if_neg h]
      by_cases hb : 55296 ≤ halfN c d e ∧ halfN c d e ≤ 57343
      · obtain ⟨V, hV⟩ : ∃ V : Nat, halfN c d e = (V : Int) := ⟨(halfN c d e).toNat, by omega⟩
        have hV1 : 55296 ≤ V := by omega
        have hV2 : V ≤ 57343 := by omega
        have hne : halfS V ≠ [c, d, e] := fun e => h (halfS_no hV1 hV2 e)
        rw [hV] at H
        refine (halfOf_walk c d e r hr (V : Int) hV true false w ⟨(halfS V).toArray⟩ (fun w => ?_) (fun _ w => half_any V w (by omega) (by omega)) (fun _ => ?_)).mono fun e w' ⟨h1, h2⟩ => ⟨⟨_, h1⟩, h2⟩
        · have := H w
          rw [decide_eq_true (by omega)] at this
          exact this
        · rw [beq_eq_false_iff_ne]
          intro e
          rw [ByteArray.toList_eq, ByteArray.toList_eq] at e
          exact hne (by simpa using e)
      · refine (halfOf_walk c d e r hr (halfN c d e) rfl false false w ⟨#[]⟩ (fun w => ?_) (fun h => by cases h) (fun h => by cases h)).mono fun e w' ⟨h1, h2⟩ => ⟨⟨_, h1⟩, h2⟩
        have := H w
        rw [decide_eq_false hb] at this
        exact this
/-- What stands in a string for the first of these bytes, and how many they are. -/
def pieceQ (c : UInt8) (r : Bs) : Bs × Nat := match halfQ (c :: r) with
  | some V => (escQ V, 3)
  | none => (if c = 34 ∨ c = 92 then [92, c] else if c.toNat < 32 ∨ c = 127 then escQ c.toNat else [c], 1)
end Go.Proofs.YtebojfipdcicaaaGreatDoor
