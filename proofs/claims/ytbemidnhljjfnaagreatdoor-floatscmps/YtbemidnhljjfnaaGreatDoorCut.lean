/- cutDigits: the digits with which a text begins, and what is behind them. -/
import Derived.Test.YtbemidnhljjfnaaGreatDoorRun
import Derived.WalkSpells
import Derived.WalkLawsBesides
import Derived.Handy
namespace Go.Proofs.YtbemidnhljjfnaaGreatDoor
open Go Go.RowKit

/-- How far digits go from a place on. -/
def cntF (s : ByteArray) : Nat → Nat → Nat
  | 0, k => k
  | n + 1, k => if h : k < s.size then (if 48 ≤ (s[k]'h).toNat ∧ (s[k]'h).toNat ≤ 57 then cntF s n (k + 1) else k) else k
def nd (s : ByteArray) : Nat := cntF s s.size 0

theorem byte_lt (b : UInt8) : b.toNat < 256 := UInt8.toNat_lt b
theorem cntF_yes (s : ByteArray) (k : Nat) (h : k < s.size) (h1 : 48 ≤ (s[k]'h).toNat) (h2 : (s[k]'h).toNat ≤ 57) : cntF s (s.size - k) k = cntF s (s.size - (k + 1)) (k + 1) := by
  rw [show s.size - k = (s.size - (k + 1)) + 1 by omega, cntF, dif_pos h, if_pos ⟨h1, h2⟩]
theorem cntF_no (s : ByteArray) (k : Nat) (h : k < s.size) (h1 : ¬ (48 ≤ (s[k]'h).toNat ∧ (s[k]'h).toNat ≤ 57)) : cntF s (s.size - k) k = k := by
  rw [show s.size - k = (s.size - (k + 1)) + 1 by omega, cntF, dif_pos h, if_neg h1]
theorem cntF_end (s : ByteArray) : cntF s (s.size - s.size) s.size = s.size := by
  rw [Nat.sub_self]; rfl

set_option maxHeartbeats 1000000 in
theorem cutDigits_any (s : ByteArray) (w : World) (hs : s.size ≤ 1125899906842624) : Calls Tryz.prog 56 #[.string s] w fun e w' =>
    e = .returned (.tuple #[.string (s.extract 0 (nd s)), .string (s.extract (nd s) s.size)]) ∧ w' = w.drew := by
  go_enter Tryz.func56, Tryz.ntmps56
  go_wp2
  go_loopw [4] (fun i wr => ∃ k : Nat, k ≤ s.size ∧ i = .int .i64 k ∧ Hid (cntF s (s.size - k) k = nd s) ∧ wr = w) (fun i _ => s.size - (intOf i).toNat)
  case atStart => exact ⟨0, by omega, rfl, rfl, rfl⟩
  case round =>
    obtain ⟨k, hk, rfl, hF, rfl⟩ := hrel
    by_cases hlt : k < s.size
    · have hb0 := byte_lt (s[k]'hlt)
      by_cases h1 : 48 ≤ (s[k]'hlt).toNat
      · by_cases h2 : (s[k]'hlt).toNat ≤ 57
        · go_wp2
          go_roundw
          case rel => exact ⟨k + 1, by omega, by go_num, (cntF_yes s k hlt h1 h2).symm.trans hF.out, trivial⟩
          case measure => simp [intOf]; omega
        · have e : Hid (k = nd s) := (cntF_no s k hlt (fun h => h2 h.2)).symm.trans hF.out
          clear hF
          have h2' : (57 : Int) < ((s[k]'hlt).toNat : Int) := by omega
          have h1' : (48 : Int) ≤ ((s[k]'hlt).toNat : Int) := by omega
          clear h2 h1
          go_wp2
          go_region
          go_wp2
          go_returns
          rw [← e.out]
          exact ⟨rfl, rfl⟩
      · have e : Hid (k = nd s) := (cntF_no s k hlt (fun h => h1 h.1)).symm.trans hF.out
        clear hF
        have h1' : ((s[k]'hlt).toNat : Int) < 48 := by omega
        clear h1
        go_wp2
        go_region
        go_wp2
        go_returns
        rw [← e.out]
        exact ⟨rfl, rfl⟩
    · have e : Hid (k = nd s) := by
        have h := hF.out
        rw [show k = s.size by omega] at h ⊢
        exact (cntF_end s).symm.trans h
      clear hF
      obtain rfl : k = s.size := by omega
      clear hlt hk
      go_wp2
      go_region
      go_wp2
      go_returns
      rw [← e.out]
      exact ⟨by simp, rfl⟩

theorem cut_at (s a b : ByteArray) (hs : s.size ≤ 1125899906842624) (ha : s.extract 0 (nd s) = a) (hb : s.extract (nd s) s.size = b) (w : World) :
    Calls Tryz.prog 56 #[.string s] w fun e w' => e = .returned (.tuple #[.string a, .string b]) ∧ w' = w.drew := by
  subst ha hb
  exact cutDigits_any s w hs
end Go.Proofs.YtbemidnhljjfnaaGreatDoor
