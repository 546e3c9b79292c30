/- setDigits, at seventeen digits the last of which is no nought. -/
import Derived.Test.YtbemidnhljjfnaaGreatDoorUscale
namespace Go.Proofs.YtbemidnhljjfnaaGreatDoor
open Go Go.RowKit Go.Lib

abbrev encB : UInt8 → Value := fun b => .int .u8 (b.toNat : Int)
def noughts : Array UInt8 := #[0, 0, 0, 0, 0, 0, 0, 0, 0, 0, 0, 0, 0, 0, 0, 0, 0]

theorem format17 (N u : Nat) (w : World) (hH : «Sort».Holds encB w N 0 noughts) (hu : u < 10 ^ 17) :
    Calls Tryz.prog 103 #[.slice (some ⟨N, 0, none⟩) 17 24, .int .u64 (u : Int)] w fun e w' => e = .returned (.tuple #[]) ∧ ∃ n v' dk, w' = («Sort».putRow encB w N 0 dk).drewN n ∧ FmtInv 17 u 0 v' dk :=
  Tryz.internal_strconv_formatBase10 N 0 24 u noughts w hH hu (Nat.lt_trans hu (by decide)) (by decide)

set_option maxRecDepth 100000 in
set_option maxHeartbeats 4000000 in
theorem setDigits17 (N u : Nat) (p : Int) (w : World) (hH : «Sort».Holds encB w N 0 noughts) (hu : u < 10 ^ 17) (hp : -400 ≤ p) (hp2 : p ≤ 400) (hl : (((dg u 0).toNat : Int) == 48) = false) :
    Calls Tryz.prog 88 #[.slice (some ⟨N, 0, none⟩) 24 24, .int .u64 (u : Int), .int .i64 p, .int .i64 17] w fun e w' =>
      e = .returned (.tuple #[.int .i64 (17 + p), .int .i64 17]) ∧ ∃ n dk, dk.size = 17 ∧ (∀ t, t < 17 → dk[t]! = dg u (16 - t)) ∧ w' = («Sort».putRow encB w N 0 dk).drewN n := by
  have F := format17 N u w hH hu
  obtain ⟨U, hU⟩ : ∃ U : Int, U = (u : Int) := ⟨_, rfl⟩
  rw [← hU] at F ⊢
  clear hU
  have HH : Hid («Sort».Holds encB w N 0 noughts) := hH
  clear hH
  go_enter Tryz.func88, Tryz.ntmps88
  go_wp2_with (first
    | (go_at_call 103; refine F.mono ?_; rintro e w1 ⟨rfl, n, v', dk, rfl, hF⟩; have hc := «Sort».cell?_putRow encB w N 0 noughts dk HH.out hF.size 16 (by rw [hF.size]; decide); rw [hF.done 16 (by decide) (by decide)] at hc; simp only [Nat.zero_add, Nat.sub_self, Nat.reduceSub, encB] at hc; have HF : Hid (FmtInv 17 u 0 v' dk) := hF; clear hF)
    | go_in)
  go_rounds 1
  go_returns
  exact ⟨rfl, n, dk, HF.out.size, fun t ht => HF.out.done t (Nat.zero_le _) ht, rfl⟩
end Go.Proofs.YtbemidnhljjfnaaGreatDoor
