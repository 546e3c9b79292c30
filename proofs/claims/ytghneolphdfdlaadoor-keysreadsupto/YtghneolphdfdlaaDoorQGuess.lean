/- The part that bytes seem to begin with, by the document. -/
import Derived.Test.YtghneolphdfdlaaDoorQVal
import Derived.Test.YtghneolphdfdlaaDoorGsMath
namespace Go.Proofs.YtghneolphdfdlaaDoor
open Go Go.RowKit

theorem head_at (c : UInt8) (r : List UInt8) : ∀ h, (ByteArray.mk (c :: r).toArray)[0]'h = c := fun _ => rfl

theorem wrap_back2 (v : Nat) (h : v < 18446744073709551616) : wrap64 (IntKind.u64.wrap ((v : Int) - 9223372036854775808)) = (v : Int) - 9223372036854775808 := by
  simp only [IntKind.wrap_u64, wrap64]
  omega
theorem guess_1 (r : List UInt8) (h : 8 ≤ r.length) : guessP (1 :: r) = ⟨0, (valB (r.take 8) : Int) - 9223372036854775808, 0, ⟨#[]⟩⟩ := by
  rw [guessP, if_neg (by decide), if_pos ⟨rfl, h⟩]
theorem guess_2 (r : List UInt8) (h : 8 ≤ r.length) : guessP (2 :: r) = ⟨1, 0, fromN (valB (r.take 8)), ⟨#[]⟩⟩ := by
  rw [guessP, if_neg (by decide), if_neg (fun e => absurd e.1 (by decide)), if_pos ⟨rfl, h⟩]
theorem guess_3 (r : List UInt8) : guessP (3 :: r) = ⟨2, 0, 0, ⟨(guessT r).toArray⟩⟩ := by
  rw [guessP, if_pos rfl]
theorem guess_o (c : UInt8) (r : List UInt8) (h3 : c ≠ 3) (h1 : ¬ (c = 1 ∧ 8 ≤ r.length)) (h2 : ¬ (c = 2 ∧ 8 ≤ r.length)) : guessP (c :: r) = ⟨(c.toNat : Int) - 1, 0, 0, ⟨#[]⟩⟩ := by
  rw [guessP, if_neg h3, if_neg h1, if_neg h2]
theorem tail_of (c : UInt8) (r : List UInt8) : (ByteArray.mk (c :: r).toArray).extract 1 (r.length + 1) = ⟨r.toArray⟩ := by
  apply ByteArray.ext; apply Array.toList_inj.1; simp

set_option maxHeartbeats 1000000 in
theorem qguess_0 (r : List UInt8) (w : World) (h : 8 ≤ r.length) :
    Calls Tryd.prog 24 #[.string ⟨((1 : UInt8) :: r).toArray⟩] w fun e w' => e = .returned (guessP (1 :: r)).val ∧ Below w.heap.size w w' := by
  have hsz : (ByteArray.mk ((1 : UInt8) :: r).toArray).size = r.length + 1 := rfl
  have h0 : ∀ h, (ByteArray.mk ((1 : UInt8) :: r).toArray)[0]'h = 1 := fun _ => rfl
  have hx := tail_of 1 r
  have V := fun w => qvalue_any ⟨r.toArray⟩ w h
  simp only [] at V
  rw [guess_1 r h]
  have HV : Hid _ := wrap_back2 (valB (r.take 8)) (val8_lt r)
  generalize (ByteArray.mk ((1 : UInt8) :: r).toArray) = s at *
  generalize valB (r.take 8) = v at *
  go_enter Tryd.func24, Tryd.ntmps24
  go_wp2_with (go_at_call 37; refine (V _).mono ?_; rintro e w1 ⟨rfl, rfl⟩)
  refine bodyPost_ret (v := .agg #[.int .i64 0, .int .i64 (wrap64 (IntKind.u64.wrap ((v : Int) - 9223372036854775808))), .int .u64 0, .string ⟨#[]⟩]) (by simp [results, Tryd.results24, go_sem]) rfl ⟨?_, ((Below.refl _ _).alloc (Nat.le_refl _) _).alloc (by simp) _⟩
  rw [HV.out]
  rfl

set_option maxHeartbeats 1000000 in
theorem qguess_1 (r : List UInt8) (w : World) (h : 8 ≤ r.length) :
    Calls Tryd.prog 24 #[.string ⟨((2 : UInt8) :: r).toArray⟩] w fun e w' => e = .returned (guessP (2 :: r)).val ∧ Below w.heap.size w w' := by
  have hsz : (ByteArray.mk ((2 : UInt8) :: r).toArray).size = r.length + 1 := rfl
  have h0 : ∀ h, (ByteArray.mk ((2 : UInt8) :: r).toArray)[0]'h = 2 := fun _ => rfl
  have hx := tail_of 2 r
  have V := fun w => qvalue_any ⟨r.toArray⟩ w h
  simp only [] at V
  rw [guess_2 r h]
  have F := fun w => rfromKey_any (valB (r.take 8)) w (val8_lt r)
  generalize (ByteArray.mk ((2 : UInt8) :: r).toArray) = s at *
  generalize fromN (valB (r.take 8)) = b at *
  generalize errN (inK (valB (r.take 8))) = N at *
  generalize valB (r.take 8) = v at *
  go_enter Tryd.func24, Tryd.ntmps24
  go_wp2_with (first
    | (go_at_call 37; refine (V _).mono ?_; rintro e w1 ⟨rfl, rfl⟩)
    | (go_at_call 38; refine (F _).mono ?_; rintro e w1 ⟨rfl, rfl⟩))
  exact bodyPost_ret (v := .agg #[.int .i64 1, .int .i64 0, .int .u64 (b : Int), .string ⟨#[]⟩]) (by simp [results, Tryd.results24, go_sem]) rfl ⟨rfl, ((Below.refl _ _).alloc (Nat.le_refl _) _).alloc (by simp) _⟩

set_option maxHeartbeats 1000000 in
theorem qguess_o (c : UInt8) (r : List UInt8) (w : World) (h3 : c ≠ 3) (h1 : ¬ (c = 1 ∧ 8 ≤ r.length)) (h2 : ¬ (c = 2 ∧ 8 ≤ r.length)) :
    Calls Tryd.prog 24 #[.string ⟨(c :: r).toArray⟩] w fun e w' => e = .returned (guessP (c :: r)).val ∧ Below w.heap.size w w' := by
  have hsz : (ByteArray.mk (c :: r).toArray).size = r.length + 1 := rfl
  have h0 : ∀ h, (ByteArray.mk (c :: r).toArray)[0]'h = c := fun _ => rfl
  rw [guess_o c r h3 h1 h2]
  have hcl := c.toNat_lt
  have g3 : (((c.toNat : Int) - 1) == 2) = false := by
    rw [beq_eq_false_iff_ne]; intro e; exact h3 (UInt8.toNat_inj.1 (show c.toNat = 3 by omega))
  have hd : r.length < 8 ∨ ((((c.toNat : Int) - 1) == 0) = false ∧ (((c.toNat : Int) - 1) == 1) = false) := by
    by_cases h8 : 8 ≤ r.length
    · right
      refine ⟨?_, ?_⟩
      · rw [beq_eq_false_iff_ne]; intro e; exact h1 ⟨UInt8.toNat_inj.1 (show c.toNat = 1 by omega), h8⟩
      · rw [beq_eq_false_iff_ne]; intro e; exact h2 ⟨UInt8.toNat_inj.1 (show c.toNat = 2 by omega), h8⟩
    · left; omega
  generalize (ByteArray.mk (c :: r).toArray) = s at *
  clear h1 h2 h3
  rcases hd with hd | ⟨g1, g2⟩
  · by_cases z0 : (((c.toNat : Int) - 1) == 0) = true <;> by_cases z1 : (((c.toNat : Int) - 1) == 1) = true
    all_goals
      go_enter Tryd.func24, Tryd.ntmps24
      go_wp2
      exact bodyPost_ret (v := .agg #[.int .i64 ((c.toNat : Int) - 1), .int .i64 0, .int .u64 0, .string ⟨#[]⟩]) (by simp [results, Tryd.results24, go_sem]) rfl ⟨rfl, ((Below.refl _ _).alloc (Nat.le_refl _) _).alloc (by simp) _⟩
  · by_cases h8 : 8 ≤ r.length
    all_goals
      go_enter Tryd.func24, Tryd.ntmps24
      go_wp2
      exact bodyPost_ret (v := .agg #[.int .i64 ((c.toNat : Int) - 1), .int .i64 0, .int .u64 0, .string ⟨#[]⟩]) (by simp [results, Tryd.results24, go_sem]) rfl ⟨rfl, ((Below.refl _ _).alloc (Nat.le_refl _) _).alloc (by simp) _⟩
end Go.Proofs.YtghneolphdfdlaaDoor
