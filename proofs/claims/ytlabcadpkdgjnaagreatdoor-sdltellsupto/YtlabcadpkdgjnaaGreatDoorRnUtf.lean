/- Plain facts on the model's own decoding of a character at a place of bytes. -/
import GoSem.Core.Utf8
import Derived.Lib.DecodeN
namespace Go.Proofs.YtlabcadpkdgjnaaGreatDoor
open Go.Lib

/-- The character of the step that begins at a place, or -1; how many bytes the step has. -/
def stC (s : ByteArray) (p : Nat) : Int := if Utf8.decode s p = (65533, 1) then -1 else ((Utf8.decode s p).1 : Int)
def stW (s : ByteArray) (p : Nat) : Nat := (Utf8.decode s p).2

/-- How many bytes a character has (utf8.RuneLen). -/
def runeLen (r : Int) : Int := if r < 0 then -1 else if r ≤ 127 then 1 else if r ≤ 2047 then 2 else if 55296 ≤ r ∧ r ≤ 57343 then -1 else if r ≤ 65535 then 3 else if r ≤ 1114111 then 4 else -1
def validB (r : Int) : Bool := decide ((0 ≤ r ∧ r < 55296) ∨ (57343 < r ∧ r ≤ 1114111))
def charB (c : Int) : Bool := decide (0 ≤ c) && decide (c ≤ 1114111) && validB c

theorem byte_lt (b : UInt8) : b.toNat < 256 := b.toNat_lt

set_option maxRecDepth 100000 in
set_option maxHeartbeats 2000000 in
theorem decN_w (n b0 b1 b2 b3 : Nat) (hn : 1 ≤ n) : 1 ≤ (decodeN n b0 b1 b2 b3).2 ∧ (decodeN n b0 b1 b2 b3).2 ≤ 4 ∧ (decodeN n b0 b1 b2 b3).2 ≤ n := by
  unfold decodeN
  repeat' split
  all_goals (dsimp only; omega)

theorem len_of (c k : Nat) (h : (c < 128 ∧ k = 1) ∨ (128 ≤ c ∧ c < 2048 ∧ k = 2) ∨ (2048 ≤ c ∧ c < 65536 ∧ (c < 55296 ∨ 57344 ≤ c) ∧ k = 3) ∨ (65536 ≤ c ∧ c ≤ 1114111 ∧ k = 4)) :
    runeLen (c : Int) = (k : Int) ∧ charB (c : Int) = true := by
  unfold runeLen charB validB
  simp only [Bool.and_eq_true, decide_eq_true_eq]
  refine ⟨?_, by omega⟩
  repeat' split
  all_goals omega

set_option maxRecDepth 100000 in
set_option maxHeartbeats 2000000 in
theorem decN_shape (n b0 b1 b2 b3 : Nat) (h0 : b0 < 256) :
    decodeN n b0 b1 b2 b3 = (65533, 1) ∨ (((decodeN n b0 b1 b2 b3).1 < 128 ∧ (decodeN n b0 b1 b2 b3).2 = 1) ∨ (128 ≤ (decodeN n b0 b1 b2 b3).1 ∧ (decodeN n b0 b1 b2 b3).1 < 2048 ∧ (decodeN n b0 b1 b2 b3).2 = 2) ∨ (2048 ≤ (decodeN n b0 b1 b2 b3).1 ∧ (decodeN n b0 b1 b2 b3).1 < 65536 ∧ ((decodeN n b0 b1 b2 b3).1 < 55296 ∨ 57344 ≤ (decodeN n b0 b1 b2 b3).1) ∧ (decodeN n b0 b1 b2 b3).2 = 3) ∨ (65536 ≤ (decodeN n b0 b1 b2 b3).1 ∧ (decodeN n b0 b1 b2 b3).1 ≤ 1114111 ∧ (decodeN n b0 b1 b2 b3).2 = 4)) := by
  unfold decodeN
  repeat' split
  all_goals first | exact Or.inl rfl | (right; dsimp only; omega)

theorem decN_len (n b0 b1 b2 b3 : Nat) (h0 : b0 < 256) :
    decodeN n b0 b1 b2 b3 = (65533, 1) ∨ (runeLen (decodeN n b0 b1 b2 b3).1 = (decodeN n b0 b1 b2 b3).2 ∧ charB (decodeN n b0 b1 b2 b3).1 = true) :=
  (decN_shape n b0 b1 b2 b3 h0).imp id (len_of _ _)

set_option maxRecDepth 100000 in
set_option maxHeartbeats 2000000 in
/-- The character 65533 itself: its three bytes. -/
theorem decN_fffd (n b0 b1 b2 b3 : Nat) (h0 : b0 < 256) (h1 : b1 < 256) (h2 : b2 < 256) :
    ((decodeN n b0 b1 b2 b3).1 = 65533 → (decodeN n b0 b1 b2 b3).2 = 3 → 3 ≤ n ∧ b0 = 239 ∧ b1 = 191 ∧ b2 = 189) ∧ ((3 ≤ n ∧ b0 = 239 ∧ b1 = 191 ∧ b2 = 189) → decodeN n b0 b1 b2 b3 = (65533, 3)) ∧ ((decodeN n b0 b1 b2 b3).1 = 65533 → (decodeN n b0 b1 b2 b3).2 = 1 ∨ (decodeN n b0 b1 b2 b3).2 = 3) := by
  refine ⟨?_, ?_, ?_⟩
  · unfold decodeN
    repeat' split
    all_goals (dsimp only; intros; omega)
  · rintro ⟨hn, rfl, rfl, rfl⟩
    unfold decodeN
    simp
    omega
  · unfold decodeN
    repeat' split
    all_goals (dsimp only; intros; omega)

set_option maxRecDepth 100000 in
set_option maxHeartbeats 4000000 in
/-- More bytes behind a character leave it what it is. -/
theorem decN_ext (n m b0 b1 b2 b3 c1 c2 c3 : Nat) (hnm : n ≤ m) (e1 : 1 < n → b1 = c1) (e2 : 2 < n → b2 = c2) (e3 : 3 < n → b3 = c3) (h : decodeN n b0 b1 b2 b3 ≠ (65533, 1)) :
    decodeN m b0 c1 c2 c3 = decodeN n b0 b1 b2 b3 := by
  revert h
  unfold decodeN
  by_cases g1 : 1 < n
  · obtain rfl := e1 g1
    by_cases g2 : 2 < n
    · obtain rfl := e2 g2
      by_cases g3 : 3 < n
      · obtain rfl := e3 g3
        repeat' split
        all_goals first | (intro _; rfl) | (intro h; exact absurd rfl h) | (exfalso; omega)
      · repeat' split
        all_goals first | (intro _; rfl) | (intro h; exact absurd rfl h) | (exfalso; omega)
    · repeat' split
      all_goals first | (intro _; rfl) | (intro h; exact absurd rfl h) | (exfalso; omega)
  · repeat' split
    all_goals first | (intro _; rfl) | (intro h; exact absurd rfl h) | (exfalso; omega)

set_option maxRecDepth 100000 in
set_option maxHeartbeats 4000000 in
/-- What begins and ends ahead of a cut is the same behind the cut. -/
theorem decN_cut (n m b0 b1 b2 b3 c1 c2 c3 : Nat) (hm : (decodeN n b0 b1 b2 b3).2 ≤ m) (e1 : 1 < m → b1 = c1) (e2 : 2 < m → b2 = c2) (e3 : 3 < m → b3 = c3) (h : decodeN n b0 b1 b2 b3 ≠ (65533, 1)) :
    decodeN m b0 c1 c2 c3 = decodeN n b0 b1 b2 b3 := by
  revert h hm
  by_cases g1 : 1 < m
  · obtain rfl := e1 g1
    by_cases g2 : 2 < m
    · obtain rfl := e2 g2
      by_cases g3 : 3 < m
      · obtain rfl := e3 g3
        unfold decodeN
        repeat' split
        all_goals first | (intro _ _; rfl) | (intro _ h; exact absurd rfl h) | (intro hm; dsimp only at hm; exfalso; omega)
      · unfold decodeN
        repeat' split
        all_goals first | (intro _ _; rfl) | (intro _ h; exact absurd rfl h) | (intro hm; dsimp only at hm; exfalso; omega)
    · unfold decodeN
      repeat' split
      all_goals first | (intro _ _; rfl) | (intro _ h; exact absurd rfl h) | (intro hm; dsimp only at hm; exfalso; omega)
  · unfold decodeN
    repeat' split
    all_goals first | (intro _ _; rfl) | (intro _ h; exact absurd rfl h) | (intro hm; dsimp only at hm; exfalso; omega)

end Go.Proofs.YtlabcadpkdgjnaaGreatDoor
