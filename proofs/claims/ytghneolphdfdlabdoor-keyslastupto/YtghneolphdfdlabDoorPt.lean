/- Parts: when one may be a key's, by the program and by the document. -/
import Derived.Test.YtghneolphdfdlabDoorFromKey
namespace Go.Proofs.YtghneolphdfdlabDoor
open Go Go.RowKit

/-- A part. -/
structure Pt where
  k : Int
  i : Int
  b : Nat
  t : ByteArray
def Pt.cells (p : Pt) : Array Value := #[.int .i64 p.k, .int .i64 p.i, .int .u64 (p.b : Int), .string p.t]
def Pt.val (p : Pt) : Value := .agg p.cells

def mtB (t : ByteArray) : Bool := decide (t.toList = [])
def may0 (b : Nat) (t : ByteArray) : Bool := decide (b = 0) && mtB t
def may1 (i : Int) (b : Nat) (t : ByteArray) : Bool := decide (i = 0) && mtB t && isN b && decide (b ≠ 9223372036854775808)
def may2 (i : Int) (b : Nat) (t : ByteArray) : Bool := decide (i = 0) && decide (b = 0) && decide (t.size ≤ 255)
def mayB (p : Pt) : Bool := if p.k = 0 then may0 p.b p.t else if p.k = 1 then may1 p.i p.b p.t else if p.k = 2 then may2 p.i p.b p.t else false

theorem ret_bool {a b : Bool} (h : a = b) : Ending.returned (.bool a) = .returned (.bool b) := by rw [h]

set_option maxHeartbeats 1000000 in
theorem mayBe_0 (i : Int) (b : Nat) (t : ByteArray) (w : World) : Calls Tryd.prog 11 #[.agg #[.int .i64 0, .int .i64 i, .int .u64 (b : Int), .string t]] w fun e w' => e = .returned (.bool (may0 b t)) ∧ w' = w.alloc (.cells #[.int .i64 0, .int .i64 i, .int .u64 (b : Int), .string t] 29) := by
  unfold may0 mtB
  by_cases c1 : b = 0
  · by_cases c2 : t.toList = []
    · rw [decide_eq_true c1, decide_eq_true c2]
      go_enter Tryd.func11, Tryd.ntmps11
      go_wp2
      go_ret
      exact ⟨rfl, by first | rfl | simp [c1]⟩
    · rw [decide_eq_false c2]
      go_enter Tryd.func11, Tryd.ntmps11
      go_wp2
      go_ret
      exact ⟨ret_bool (by simp), by first | rfl | simp [c1]⟩
  · rw [decide_eq_false c1]
    go_enter Tryd.func11, Tryd.ntmps11
    go_wp2
    go_ret
    exact ⟨ret_bool (by simp), rfl⟩

set_option maxHeartbeats 1000000 in
theorem mayBe_2 (i : Int) (b : Nat) (t : ByteArray) (w : World) : Calls Tryd.prog 11 #[.agg #[.int .i64 2, .int .i64 i, .int .u64 (b : Int), .string t]] w fun e w' => e = .returned (.bool (may2 i b t)) ∧ w' = w.alloc (.cells #[.int .i64 2, .int .i64 i, .int .u64 (b : Int), .string t] 29) := by
  unfold may2
  by_cases c0 : i = 0
  · by_cases c1 : b = 0
    · by_cases c2 : t.size ≤ 255
      · rw [decide_eq_true c0, decide_eq_true c1, decide_eq_true c2]
        go_enter Tryd.func11, Tryd.ntmps11
        go_wp2
        go_ret
        exact ⟨ret_bool (by simp; try omega), by first | rfl | simp [c0, c1]⟩
      · rw [decide_eq_true c0, decide_eq_true c1, decide_eq_false c2]
        go_enter Tryd.func11, Tryd.ntmps11
        go_wp2
        go_ret
        exact ⟨ret_bool (by simp; try omega), by first | rfl | simp [c0, c1]⟩
    · rw [decide_eq_false c1]
      go_enter Tryd.func11, Tryd.ntmps11
      go_wp2
      go_ret
      exact ⟨ret_bool (by simp), by first | rfl | simp [c0]⟩
  · rw [decide_eq_false c0]
    go_enter Tryd.func11, Tryd.ntmps11
    go_wp2
    go_ret
    exact ⟨ret_bool (by simp), rfl⟩

set_option maxHeartbeats 1000000 in
theorem mayBe_3 (k i : Int) (b : Nat) (t : ByteArray) (w : World) (h0 : k ≠ 0) (h1 : k ≠ 1) (h2 : k ≠ 2) : Calls Tryd.prog 11 #[.agg #[.int .i64 k, .int .i64 i, .int .u64 (b : Int), .string t]] w fun e w' => e = .returned (.bool false) ∧ w' = w.alloc (.cells #[.int .i64 k, .int .i64 i, .int .u64 (b : Int), .string t] 29) := by
  go_enter Tryd.func11, Tryd.ntmps11
  go_wp2
  go_ret
  exact ⟨rfl, rfl⟩

set_option maxHeartbeats 1000000 in
theorem mayBe_1 (i : Int) (b : Nat) (t : ByteArray) (w : World) (hb : b < 18446744073709551616) : Calls Tryd.prog 11 #[.agg #[.int .i64 1, .int .i64 i, .int .u64 (b : Int), .string t]] w fun e w' => e = .returned (.bool (may1 i b t)) ∧ w' = w.alloc (.cells #[.int .i64 1, .int .i64 i, .int .u64 (b : Int), .string t] 29) := by
  unfold may1 mtB
  have K := fun w => kind_any b w hb
  have eA := kindN_nan b
  generalize kindN b = kb at K eA
  by_cases c0 : i = 0
  · by_cases c1 : t.toList = []
    · rw [decide_eq_true c0, decide_eq_true c1]
      cases c2 : isN b
      · rw [c2] at eA
        obtain rfl : kb = 4 := by simpa using eA
        clear eA
        go_enter Tryd.func11, Tryd.ntmps11
        go_wp2_with (go_at_call 16; refine (K _).mono ?_; rintro e w1 ⟨rfl, rfl⟩)
        go_ret
        exact ⟨ret_bool (by simp), by first | rfl | simp [c0]⟩
      · rw [c2] at eA
        have hk : ¬ kb = 4 := by simpa using eA
        clear eA
        by_cases c3 : b = 9223372036854775808
        · have c5 : (b : Int) = 9223372036854775808 := by omega
          rw [decide_eq_false (by simpa using c3)]
          clear c3 hb
          generalize (b : Int) = B at K c5 ⊢
          subst c5
          go_enter Tryd.func11, Tryd.ntmps11
          go_wp2_with (go_at_call 16; refine (K _).mono ?_; rintro e w1 ⟨rfl, rfl⟩)
          go_ret
          exact ⟨ret_bool (by simp), by first | rfl | simp [c0]⟩
        · have c5 : ¬ (b : Int) = 9223372036854775808 := by omega
          rw [decide_eq_true (by simpa using c3)]
          clear c3 hb
          generalize (b : Int) = B at K c5 ⊢
          go_enter Tryd.func11, Tryd.ntmps11
          go_wp2_with (go_at_call 16; refine (K _).mono ?_; rintro e w1 ⟨rfl, rfl⟩)
          go_ret
          exact ⟨ret_bool (by simp [hk, c5]), by first | rfl | simp [c0]⟩
    · rw [decide_eq_false c1]
      go_enter Tryd.func11, Tryd.ntmps11
      go_wp2
      go_ret
      exact ⟨ret_bool (by simp), by first | rfl | simp [c0]⟩
  · rw [decide_eq_false c0]
    go_enter Tryd.func11, Tryd.ntmps11
    go_wp2
    go_ret
    exact ⟨ret_bool (by simp), rfl⟩

theorem mayBe_any (p : Pt) (w : World) (hb : p.b < 18446744073709551616) : Calls Tryd.prog 11 #[p.val] w fun e w' => e = .returned (.bool (mayB p)) ∧ w' = w.alloc (.cells p.cells 29) := by
  obtain ⟨k, i, b, t⟩ := p
  unfold mayB
  by_cases h0 : k = 0
  · subst h0; rw [if_pos rfl]; exact mayBe_0 i b t w
  · rw [if_neg h0]
    by_cases h1 : k = 1
    · subst h1; rw [if_pos rfl]; exact mayBe_1 i b t w hb
    · rw [if_neg h1]
      by_cases h2 : k = 2
      · subst h2; rw [if_pos rfl]; exact mayBe_2 i b t w
      · rw [if_neg h2]; exact mayBe_3 k i b t w h0 h1 h2
end Go.Proofs.YtghneolphdfdlabDoor
