/- Two parts and two keys compared. -/
import Derived.Test.YtghneolphdfdlabDoorChk
import Derived.BigQuiet
import Derived.Deep.QuietTactic
namespace Go.Proofs.YtghneolphdfdlabDoor
open Go Go.RowKit

def sgnI (a b : Int) : Int := if a < b then -1 else if b < a then 1 else 0

theorem nanI (a : Int) (w : World) : Calls Tryd.prog 19 #[.int .i64 a] w fun e w' => e = .returned (.bool false) ∧ w' = w := by
  go_enter Tryd.func19, Tryd.ntmps19
  go_wp2
  go_ret
  exact ⟨ret_bool (by simp), rfl⟩
theorem cmpInt_any (a b : Int) (w : World) : Calls Tryd.prog 13 #[.int .i64 a, .int .i64 b] w fun e w' => e = .returned (.int .i64 (sgnI a b)) ∧ w' = w := by
  unfold sgnI
  rcases Int.lt_trichotomy a b with h | h | h
  · rw [if_pos h]
    go_enter Tryd.func13, Tryd.ntmps13
    go_wp2_with (go_at_call 19; refine (nanI _ _).mono ?_; rintro e w1 ⟨rfl, rfl⟩)
    go_ret
    exact ⟨rfl, rfl⟩
  · rw [if_neg (by omega), if_neg (by omega)]
    subst h
    go_enter Tryd.func13, Tryd.ntmps13
    go_wp2_with (go_at_call 19; refine (nanI _ _).mono ?_; rintro e w1 ⟨rfl, rfl⟩)
    go_ret
    exact ⟨rfl, rfl⟩
  · rw [if_neg (by omega), if_pos h]
    have h2 : ¬ a < b := by omega
    go_enter Tryd.func13, Tryd.ntmps13
    go_wp2_with (go_at_call 19; refine (nanI _ _).mono ?_; rintro e w1 ⟨rfl, rfl⟩)
    go_ret
    exact ⟨rfl, rfl⟩

theorem nanS (a : ByteArray) (w : World) : Calls Tryd.prog 30 #[.string a] w fun e w' => e = .returned (.bool false) ∧ w' = w := by
  go_enter Tryd.func30, Tryd.ntmps30
  go_wp2
  go_ret
  exact ⟨ret_bool (by simp), rfl⟩
/-- Two texts compared, byte by byte. -/
def strI (a b : ByteArray) : Int := if Op.bytesLess a.toList b.toList = true then -1 else if a.toList = b.toList then 0 else 1
theorem cmpStr_any (a b : ByteArray) (w : World) : Calls Tryd.prog 18 #[.string a, .string b] w fun e w' => e = .returned (.int .i64 (strI a b)) ∧ w' = w := by
  unfold strI
  cases h1 : Op.bytesLess a.toList b.toList
  · rw [if_neg (by decide)]
    by_cases h2 : a.toList = b.toList
    · rw [if_pos h2]
      have h3 : (!a.toList == b.toList) = false := by simp [h2]
      have H2 : Hid (a.toList = b.toList) := h2
      clear h2
      go_enter Tryd.func18, Tryd.ntmps18
      go_wp2_with (go_at_call 30; refine (nanS _ _).mono ?_; rintro e w1 ⟨rfl, rfl⟩)
      go_ret
      exact ⟨rfl, rfl⟩
    · rw [if_neg h2]
      have h3 : (!a.toList == b.toList) = true := by simp [h2]
      clear h2
      go_enter Tryd.func18, Tryd.ntmps18
      go_wp2_with (go_at_call 30; refine (nanS _ _).mono ?_; rintro e w1 ⟨rfl, rfl⟩)
      go_ret
      exact ⟨rfl, rfl⟩
  · rw [if_pos rfl]
    go_enter Tryd.func18, Tryd.ntmps18
    go_wp2_with (go_at_call 30; refine (nanS _ _).mono ?_; rintro e w1 ⟨rfl, rfl⟩)
    go_ret
    exact ⟨rfl, rfl⟩

/-- Two parts compared. -/
def cmpP (p q : Pt) : Int := if p.k = q.k then (if p.k = 0 then sgnI p.i q.i else if p.k = 1 then cmpI p.b q.b else strI p.t q.t) else sgnI p.k q.k

set_option maxHeartbeats 2000000 in
theorem cmpParts_any (p q : Pt) (w : World) : Calls Tryd.prog 12 #[p.val, q.val] w fun e w' => e = .returned (.int .i64 (cmpP p q)) ∧ w' = (w.alloc (.cells p.cells 29)).alloc (.cells q.cells 29) := by
  obtain ⟨k, i, b, t⟩ := p
  obtain ⟨k', i', b', t'⟩ := q
  unfold cmpP
  simp only [Pt.val, Pt.cells]
  have C1 := fun w => cmpInt_any k k' w
  have C2 := fun w => cmpInt_any i i' w
  have C3 := fun w => cmp_any b b' w
  have C4 := fun w => cmpStr_any t t' w
  generalize sgnI k k' = r1 at *
  generalize sgnI i i' = r2 at *
  generalize cmpI b b' = r3 at *
  generalize cmpB b b' = r3' at *
  generalize strI t t' = r4 at *
  by_cases h : k = k'
  · rw [if_pos h]
    subst h
    by_cases h0 : k = 0
    · rw [if_pos h0]
      subst h0
      go_enter Tryd.func12, Tryd.ntmps12
      go_wp2_with (go_at_call 13; with_reducible refine (C2 _).mono ?_; rintro e w1 ⟨rfl, rfl⟩)
      go_ret
      exact ⟨rfl, rfl⟩
    · rw [if_neg h0]
      by_cases h1 : k = 1
      · rw [if_pos h1]
        subst h1
        go_enter Tryd.func12, Tryd.ntmps12
        go_wp2_with (go_at_call 17; with_reducible refine (C3 _).mono ?_; rintro e w1 ⟨rfl, rfl⟩)
        go_ret
        exact ⟨rfl, rfl⟩
      · rw [if_neg h1]
        go_enter Tryd.func12, Tryd.ntmps12
        go_wp2_with (go_at_call 18; with_reducible refine (C4 _).mono ?_; rintro e w1 ⟨rfl, rfl⟩)
        go_ret
        exact ⟨rfl, rfl⟩
  · rw [if_neg h]
    go_enter Tryd.func12, Tryd.ntmps12
    go_wp2_with (go_at_call 13; with_reducible refine (C1 _).mono ?_; rintro e w1 ⟨rfl, rfl⟩)
    go_ret
    exact ⟨rfl, rfl⟩
end Go.Proofs.YtghneolphdfdlabDoor
