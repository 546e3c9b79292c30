/- The document's own Rune: which character begins at a place: the one whose bytes stand there. -/
import Derived.Test.YtikbomagmedemaaRef
import Derived.Deep.QuietTactic
import Derived.BigQuiet
namespace Go.Proofs.Ytikbomagmedemaa
open Go.RowKit Go.Lib

set_option maxHeartbeats 400000 in
theorem rrune_out (s : ByteArray) (k : Int) (w : World) (hk : k < 0 ∨ (s.size : Int) ≤ k) :
    Calls Try.prog 10 #[.string s, .int .i64 k] w fun e w' => e = .returned (.tuple #[.int .i64 0, .int .i64 0]) ∧ w' = w := by
  rcases hk with h | h
  · go_enter Try.func10, Try.ntmps10
    go_wp2
    go_ret2
    exact ⟨rfl, rfl⟩
  · have h' : 0 ≤ k := by omega
    go_enter Try.func10, Try.ntmps10
    go_wp2
    go_ret2
    exact ⟨rfl, rfl⟩

/-- The row of four numbers, filled up to place j. -/
def four (s : ByteArray) (p j : Nat) : Array Value := #[.int .i64 (gB s p), .int .i64 (if 1 < j then gB s (p + 1) else -1), .int .i64 (if 2 < j then gB s (p + 2) else -1), .int .i64 (if 3 < j then gB s (p + 3) else -1)]

theorem below_drewN1 {B : Nat} {W W' : World} (h : Below B W W') (n : Nat) : Below B W (W'.drewN n) := ⟨h.os, h.tape, h.output, h.size, h.block⟩
theorem gB_bd (s : ByteArray) (q : Nat) : -1 ≤ gB s q ∧ gB s q ≤ 255 := by
  unfold gB
  have := byte_lt (s.get! q)
  split <;> omega
theorem gB_in (s : ByteArray) (q : Nat) (h : q < s.size) : gB s q = ((s[q]'h).toNat : Int) := by
  unfold gB
  rw [if_pos h, get_bang s q h]
theorem gB_out (s : ByteArray) (q : Nat) (h : ¬ q < s.size) : gB s q = -1 := if_neg h

theorem four_end (s : ByteArray) (p j : Nat) (h1 : 1 ≤ j) (h2 : j ≤ 4) (h : ¬ (j < 4 ∧ p + j < s.size)) : four s p j = #[.int .i64 (gB s p), .int .i64 (gB s (p + 1)), .int .i64 (gB s (p + 2)), .int .i64 (gB s (p + 3))] := by
  have e : ∀ i, 1 ≤ i → i < 4 → (if i < j then gB s (p + i) else -1) = gB s (p + i) := by
    intro i h3 h4
    split
    · rfl
    · rw [gB_out s (p + i) (by omega)]
  unfold four
  rw [e 1 (by omega) (by omega), e 2 (by omega) (by omega), e 3 (by omega) (by omega)]

theorem refRune_no {s : ByteArray} {p : Nat} {n : Int} (hC : refC s p = n) (h : charB n = false) : refRune s p = (0, 0) := by
  unfold refRune
  rw [hC, if_pos h]
theorem refRune_other {s : ByteArray} {p : Nat} {n : Int} (hC : refC s p = n) (h : charB n = true) (hz : ¬ (p + (Utf8.encode n).size ≤ s.size ∧ s.extract p (p + (Utf8.encode n).size) = Utf8.encode n)) : refRune s p = (0, 0) := by
  unfold refRune
  rw [hC, if_neg (by rw [h]; decide), if_neg hz]
theorem refRune_yes {s : ByteArray} {p : Nat} {n : Int} (hC : refC s p = n) (h : charB n = true) (h1 : p + (Utf8.encode n).size ≤ s.size) (h2 : s.extract p (p + (Utf8.encode n).size) = Utf8.encode n) : refRune s p = (n, ((Utf8.encode n).size : Int)) := by
  unfold refRune
  rw [hC, if_neg (by rw [h]; decide), if_pos ⟨h1, h2⟩]

end Go.Proofs.Ytikbomagmedemaa
