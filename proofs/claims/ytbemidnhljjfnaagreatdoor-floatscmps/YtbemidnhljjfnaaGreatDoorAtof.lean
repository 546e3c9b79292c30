/- What internal/strconv reads the three texts as. -/
import Derived.Test.YtbemidnhljjfnaaGreatDoorScanA
import Derived.Test.YtbemidnhljjfnaaGreatDoorScanB
import Derived.Test.YtbemidnhljjfnaaGreatDoorScanC
import Derived.Test.YtbemidnhljjfnaaGreatDoorNum
import Derived.Test.YtbemidnhljjfnaaGreatDoorExt
import Derived.Laws.FloatBits
import Derived.Laws.FloatArith
namespace Go.Proofs.YtbemidnhljjfnaaGreatDoor
open Go Go.RowKit

set_option maxRecDepth 100000 in
set_option maxHeartbeats 4000000 in
theorem atof_zero (w : World) (hopt : w.cell? ⟨2, 0, none⟩ = some (.bool true)) : Calls Tryz.prog 107 #[.string ⟨#[45, 48]⟩] w fun e w' =>
    e = .returned (.tuple #[.float .f64 9223372036854775808, .int .i64 2, .nilIface]) ∧ w' = w := by
  have hf := run_ifrom
  have ho : bits .or .u64 9223372036854775808 0 = 9223372036854775808 := by decide +kernel
  go_enter Tryz.func107, Tryz.ntmps107
  go_wp2_with (first
    | (go_at_call 136; refine (special_zero _).mono ?_; rintro e w1 ⟨rfl, rfl⟩)
    | (go_at_call 137; refine (read_zero _).mono ?_; rintro e w1 ⟨rfl, rfl⟩)
    | go_in)
  go_returns
  exact ⟨rfl, rfl⟩

set_option maxRecDepth 100000 in
set_option maxHeartbeats 4000000 in
theorem atof_big (w : World) (hopt : w.cell? ⟨2, 0, none⟩ = some (.bool true)) : Calls Tryz.prog 107 #[.string ⟨#[49, 101, 52, 48, 48]⟩] w fun e w' =>
    e = .returned (.tuple #[.float .f64 9218868437227405312, .int .i64 5, .iface 93 (.int .i64 1)]) ∧ w' = w := by
  have hf := run_ifrom
  have ho : bits .or .u64 0 9218868437227405312 = 9218868437227405312 := by decide +kernel
  go_enter Tryz.func107, Tryz.ntmps107
  go_wp2_with (first
    | (go_at_call 136; refine (special_big _).mono ?_; rintro e w1 ⟨rfl, rfl⟩)
    | (go_at_call 137; refine (read_big _).mono ?_; rintro e w1 ⟨rfl, rfl⟩)
    | go_in)
  go_returns
  exact ⟨rfl, rfl⟩

set_option maxRecDepth 100000 in
set_option maxHeartbeats 4000000 in
theorem exact_tenth (w : World) (a : Addr) (cap : Nat) (hm : w.cell? ⟨7, 0, none⟩ = some (.int .u64 52)) (hp : w.cell? ⟨14, 0, none⟩ = some (.slice (some a) 23 cap)) (h1 : w.cell? ⟨a.block, a.off + 1, none⟩ = some (.float .f64 4621819117588971520)) :
    Calls Tryz.prog 147 #[.int .u64 1, .int .i64 (-1), .bool false] w fun e w' =>
    e = .returned (.tuple #[.float .f64 4591870180066957722, .bool true]) ∧ w' = w := by
  have hq : floatBits .quo .f64 (floatOfInt .f64 1) 4621819117588971520 = some 4591870180066957722 := by decide +kernel
  have hr := fun w => run_float_arith (P := Tryz.prog) (w := w) .quo 37 .f64 _ _ _ hq
  clear hq
  go_enter Tryz.func147, Tryz.ntmps147
  go_wp2_with (go_in)
  go_returns
  exact ⟨rfl, rfl⟩

set_option maxRecDepth 100000 in
set_option maxHeartbeats 4000000 in
theorem atof_tenth (w : World) (a : Addr) (cap : Nat) (hopt : w.cell? ⟨2, 0, none⟩ = some (.bool true)) (hm : w.cell? ⟨7, 0, none⟩ = some (.int .u64 52)) (hp : w.cell? ⟨14, 0, none⟩ = some (.slice (some a) 23 cap)) (h1 : w.cell? ⟨a.block, a.off + 1, none⟩ = some (.float .f64 4621819117588971520)) :
    Calls Tryz.prog 107 #[.string ⟨#[48, 46, 49]⟩] w fun e w' =>
    e = .returned (.tuple #[.float .f64 4591870180066957722, .int .i64 3, .nilIface]) ∧ w' = w := by
  have E := exact_tenth w a cap hm hp h1
  clear hm hp h1
  go_enter Tryz.func107, Tryz.ntmps107
  go_wp2_with (first
    | (go_at_call 136; refine (special_tenth _).mono ?_; rintro e w1 ⟨rfl, rfl⟩)
    | (go_at_call 137; refine (read_tenth _).mono ?_; rintro e w1 ⟨rfl, rfl⟩)
    | (go_at_call 147; refine E.mono ?_; rintro e w1 ⟨rfl, rfl⟩)
    | go_in)
  go_returns
  exact ⟨rfl, rfl⟩
end Go.Proofs.YtbemidnhljjfnaaGreatDoor
