/- uscale, where the low bits decide. -/
import Derived.Test.YtbemidnhljjfnaaGreatDoorTabs
import Derived.Deep.QuietTactic
import Derived.BigQuiet
namespace Go.Proofs.YtbemidnhljjfnaaGreatDoor
open Go Go.RowKit

set_option maxRecDepth 100000 in
set_option maxHeartbeats 4000000 in
theorem uscale_low (x hi H M : Int) (N : Nat) (w : World) (hc0 : w.cell? ⟨N, 0, none⟩ = some (.int .u64 hi)) (hc2 : w.cell? ⟨N, 2, none⟩ = some (.int .i64 5))
    (hM : ∀ w, Calls Tryz.prog 149 #[.int .u64 x, .int .u64 hi] w fun e w' => e = .returned (.tuple #[.int .u64 H, .int .u64 M]) ∧ w' = w) (h0 : 0 ≤ H) (h1 : H ≤ 18446744073709551615) (hne : (H / 32 * 32 != H) = true) :
    Calls Tryz.prog 116 #[.int .u64 x, .pointer (some ⟨N, 0, none⟩)] w fun e w' => e = .returned (.int .u64 (bits .or .u64 (H / 32) 1)) ∧ w' = w := by
  have b1 : bits .and .i64 5 63 = 5 := by decide +kernel
  go_enter Tryz.func116, Tryz.ntmps116
  go_wp2_with (first
    | (go_at_call 149; refine (hM _).mono ?_; rintro e w1 ⟨rfl, rfl⟩)
    | go_in)
  go_ret
  exact ⟨rfl, rfl⟩

theorem bool2u_true (w : World) : Calls Tryz.prog 150 #[.bool true] w fun e w' => e = .returned (.int .u64 1) ∧ w' = w :=
  calls_of_run 100000 Tryz.f150 Tryz.func150 (fun _ _ => by kernel_rfl) (fun _ _ => by kernel_rfl) (fun _ _ => by kernel_rfl) (fun _ _ => by kernel_rfl) (fun _ _ => by kernel_rfl) (fun _ _ => by kernel_rfl) w

set_option maxRecDepth 100000 in
set_option maxHeartbeats 4000000 in
theorem div_ten (u : Int) (w : World) (h0 : 0 ≤ u) (h1 : u ≤ 18446744073709551615) (hne : (u % 10 != 0) = true) :
    Calls Tryz.prog 123 #[.int .u64 u, .int .u64 10] w fun e w' => e = .returned (.int .u64 (bits .or .u64 (bits .or .u64 (u / 10) (bits .and .u64 u 1)) 1)) ∧ ∃ n, w' = w.drewN n := by
  go_enter Tryz.func123, Tryz.ntmps123
  go_wp2
  go_quiet ((go_at_call 150; exact Calls.quiet_of_same (bool2u_true _)))
  go_wp2
  go_ret
  exact ⟨rfl, _, rfl⟩

set_option maxRecDepth 100000 in
set_option maxHeartbeats 4000000 in
theorem fixedA0 (m hi lo t t4 H M U V d : Int) (w : World) (hH : w.cell? ⟨8, 732, none⟩ = some (.int .u64 hi)) (hL : w.cell? ⟨8, 733, none⟩ = some (.int .u64 lo)) (hT : w.cell? ⟨5, 17, none⟩ = some (.int .u64 t))
    (hM : ∀ w, Calls Tryz.prog 149 #[.int .u64 m, .int .u64 hi] w fun e w' => e = .returned (.tuple #[.int .u64 H, .int .u64 M]) ∧ w' = w) (h0 : 0 ≤ H) (h1 : H ≤ 18446744073709551615) (hne : (H / 32 * 32 != H) = true) (hU : bits .or .u64 (H / 32) 1 = U)
    (hu : ∀ w, Calls Tryz.prog 122 #[.int .u64 t] w fun e w' => e = .returned (.int .u64 t4) ∧ w' = w) (hge : t4 ≤ U) (hD : ∀ w, Calls Tryz.prog 123 #[.int .u64 U, .int .u64 10] w fun e w' => e = .returned (.int .u64 V) ∧ ∃ n, w' = w.drewN n) (hR : ∀ w, Calls Tryz.prog 120 #[.int .u64 V] w fun e w' => e = .returned (.int .u64 d) ∧ w' = w) :
    Calls Tryz.prog 91 #[.int .u64 m, .int .i64 (-67), .int .i64 17, .int .i64 16, .int .u8 101] w fun e w' =>
    e = .returned (.tuple #[.int .u64 d, .int .i64 (-17)]) ∧ Below w.heap.size w w' := by
  have hb := fun o => Below.alloc (Below.refl w.heap.size w) (Nat.le_refl _) o
  have c1 := fun o => cell_later (hb o) hH
  have c2 := fun o => cell_later (hb o) hL
  have c3 := fun o => cell_later (hb o) hT
  have HB : Hid (∀ o, Below w.heap.size w (w.alloc o)) := hb
  have hUs := uscale_low m hi H M
  rw [hU] at hUs
  clear hU hH hL hT hb
  go_enter Tryz.func91, Tryz.ntmps91
  go_wp2_with (first
    | (go_at_call 116; refine (hUs _ _ (by simp [go_sem]) (by simp [go_sem]) hM h0 h1 hne).mono ?_; rintro e w1 ⟨rfl, rfl⟩)
    | (go_at_call 122; refine (hu _).mono ?_; rintro e w1 ⟨rfl, rfl⟩)
    | (go_at_call 123; refine (hD _).mono ?_; rintro e w1 ⟨rfl, nq, rfl⟩)
    | (go_at_call 120; refine (hR _).mono ?_; rintro e w1 ⟨rfl, rfl⟩)
    | go_in)
  go_returns
  exact ⟨rfl, below_drewN (HB.out _) _⟩

set_option maxRecDepth 100000 in
set_option maxHeartbeats 4000000 in
theorem fixedB0 (m hi lo t t4 H M U V d : Int) (w : World) (hH : w.cell? ⟨8, 1376, none⟩ = some (.int .u64 hi)) (hL : w.cell? ⟨8, 1377, none⟩ = some (.int .u64 lo)) (hT : w.cell? ⟨5, 17, none⟩ = some (.int .u64 t))
    (hM : ∀ w, Calls Tryz.prog 149 #[.int .u64 m, .int .u64 hi] w fun e w' => e = .returned (.tuple #[.int .u64 H, .int .u64 M]) ∧ w' = w) (h0 : 0 ≤ H) (h1 : H ≤ 18446744073709551615) (hne : (H / 32 * 32 != H) = true) (hU : bits .or .u64 (H / 32) 1 = U)
    (hu : ∀ w, Calls Tryz.prog 122 #[.int .u64 t] w fun e w' => e = .returned (.int .u64 t4) ∧ w' = w) (hge : U < t4) (hV : V = U) (hR : ∀ w, Calls Tryz.prog 120 #[.int .u64 V] w fun e w' => e = .returned (.int .u64 d) ∧ w' = w) :
    Calls Tryz.prog 91 #[.int .u64 m, .int .i64 (-1137), .int .i64 17, .int .i64 16, .int .u8 101] w fun e w' =>
    e = .returned (.tuple #[.int .u64 d, .int .i64 (-340)]) ∧ Below w.heap.size w w' := by
  have hb := fun o => Below.alloc (Below.refl w.heap.size w) (Nat.le_refl _) o
  have c1 := fun o => cell_later (hb o) hH
  have c2 := fun o => cell_later (hb o) hL
  have c3 := fun o => cell_later (hb o) hT
  have HB : Hid (∀ o, Below w.heap.size w (w.alloc o)) := hb
  have hUs := uscale_low m hi H M
  rw [hU] at hUs
  subst hV
  clear hU hH hL hT hb
  go_enter Tryz.func91, Tryz.ntmps91
  go_wp2_with (first
    | (go_at_call 116; refine (hUs _ _ (by simp [go_sem]) (by simp [go_sem]) hM h0 h1 hne).mono ?_; rintro e w1 ⟨rfl, rfl⟩)
    | (go_at_call 122; refine (hu _).mono ?_; rintro e w1 ⟨rfl, rfl⟩)
    | (go_at_call 123; fail; rintro e w1 ⟨rfl, rfl⟩)
    | (go_at_call 120; refine (hR _).mono ?_; rintro e w1 ⟨rfl, rfl⟩)
    | go_in)
  go_returns
  exact ⟨rfl, HB.out _⟩

theorem mulA (w : World) : Calls Tryz.prog 149 #[.int .u64 14757395258967642112, .int .u64 16000000000000000000] w fun e w' => e = .returned (.tuple #[.int .u64 12800000000000000710, .int .u64 10011707666218352640]) ∧ w' = w :=
  calls_of_run 100000 Tryz.f149 Tryz.func149 (fun _ _ => by kernel_rfl) (fun _ _ => by kernel_rfl) (fun _ _ => by kernel_rfl) (fun _ _ => by kernel_rfl) (fun _ _ => by kernel_rfl) (fun _ _ => by kernel_rfl) w
theorem mulB (w : World) : Calls Tryz.prog 149 #[.int .u64 9223372036854775808, .int .u64 12648080533535911531] w fun e w' => e = .returned (.tuple #[.int .u64 6324040266767955765, .int .u64 9223372036854775808]) ∧ w' = w :=
  calls_of_run 100000 Tryz.f149 Tryz.func149 (fun _ _ => by kernel_rfl) (fun _ _ => by kernel_rfl) (fun _ _ => by kernel_rfl) (fun _ _ => by kernel_rfl) (fun _ _ => by kernel_rfl) (fun _ _ => by kernel_rfl) w
theorem unminT (w : World) : Calls Tryz.prog 122 #[.int .u64 100000000000000000] w fun e w' => e = .returned (.int .u64 399999999999999998) ∧ w' = w :=
  calls_of_run 100000 Tryz.f122 Tryz.func122 (fun _ _ => by kernel_rfl) (fun _ _ => by kernel_rfl) (fun _ _ => by kernel_rfl) (fun _ _ => by kernel_rfl) (fun _ _ => by kernel_rfl) (fun _ _ => by kernel_rfl) w
theorem roundA (w : World) : Calls Tryz.prog 120 #[.int .u64 40000000000000003] w fun e w' => e = .returned (.int .u64 10000000000000001) ∧ w' = w :=
  calls_of_run 100000 Tryz.f120 Tryz.func120 (fun _ _ => by kernel_rfl) (fun _ _ => by kernel_rfl) (fun _ _ => by kernel_rfl) (fun _ _ => by kernel_rfl) (fun _ _ => by kernel_rfl) (fun _ _ => by kernel_rfl) w
theorem roundB (w : World) : Calls Tryz.prog 120 #[.int .u64 197626258336498617] w fun e w' => e = .returned (.int .u64 49406564584124654) ∧ w' = w :=
  calls_of_run 100000 Tryz.f120 Tryz.func120 (fun _ _ => by kernel_rfl) (fun _ _ => by kernel_rfl) (fun _ _ => by kernel_rfl) (fun _ _ => by kernel_rfl) (fun _ _ => by kernel_rfl) (fun _ _ => by kernel_rfl) w
theorem divA (w : World) : Calls Tryz.prog 123 #[.int .u64 400000000000000023, .int .u64 10] w fun e w' => e = .returned (.int .u64 40000000000000003) ∧ ∃ n, w' = w.drewN n := by
  have h := div_ten 400000000000000023 w (by decide) (by decide) (by decide)
  rw [show bits .or .u64 (bits .or .u64 (400000000000000023 / 10) (bits .and .u64 400000000000000023 1)) 1 = 40000000000000003 by decide +kernel] at h
  exact h

theorem fixedA (w : World) (T : Tabs w) : Calls Tryz.prog 91 #[.int .u64 14757395258967642112, .int .i64 (-67), .int .i64 17, .int .i64 16, .int .u8 101] w fun e w' =>
    e = .returned (.tuple #[.int .u64 10000000000000001, .int .i64 (-17)]) ∧ Below w.heap.size w w' :=
  fixedA0 _ _ _ _ _ _ _ 400000000000000023 _ _ w T.hiA T.loA T.ten17 mulA (by decide) (by decide) (by decide) (by decide +kernel) unminT (by decide) divA roundA
theorem fixedB (w : World) (T : Tabs w) : Calls Tryz.prog 91 #[.int .u64 9223372036854775808, .int .i64 (-1137), .int .i64 17, .int .i64 16, .int .u8 101] w fun e w' =>
    e = .returned (.tuple #[.int .u64 49406564584124654, .int .i64 (-340)]) ∧ Below w.heap.size w w' :=
  fixedB0 _ _ _ _ _ _ _ 197626258336498617 _ _ w T.hiB T.loB T.ten17 mulB (by decide) (by decide) (by decide) (by decide +kernel) unminT (by decide) rfl roundB
end Go.Proofs.YtbemidnhljjfnaaGreatDoor
