/- What the package-level variables hold that the fixed calls read. -/
import Derived.Test.YtbemidnhljjfnaaGreatDoorAtof
import Derived.Lib.LaidTab
import Derived.Lib.AppendIntMem
namespace Go.Proofs.YtbemidnhljjfnaaGreatDoor
open Go Go.RowKit

structure Tabs (w : World) : Prop where
  opt : w.cell? ⟨2, 0, none⟩ = some (.bool true)
  mant : w.cell? ⟨7, 0, none⟩ = some (.int .u64 52)
  pow : ∃ a cap, w.cell? ⟨14, 0, none⟩ = some (.slice (some a) 23 cap) ∧ w.cell? ⟨a.block, a.off + 1, none⟩ = some (.float .f64 4621819117588971520)
  tens : Lib.TabIs Tryz.prog w "internal/strconv.uint64pow10" .u64 Lib.pow10Tab
  ten17 : w.cell? ⟨5, 17, none⟩ = some (.int .u64 100000000000000000)
  hiA : w.cell? ⟨8, 732, none⟩ = some (.int .u64 16000000000000000000)
  loA : w.cell? ⟨8, 733, none⟩ = some (.int .u64 0)
  hiB : w.cell? ⟨8, 1376, none⟩ = some (.int .u64 12648080533535911531)
  loB : w.cell? ⟨8, 1377, none⟩ = some (.int .u64 1472767802899791691)
  err : ∃ te pe, w.cell? ⟨4, 0, none⟩ = some (.iface te pe)

theorem Tabs.later {w w' : World} (h : Tabs w) (hb : Below w.heap.size w w') : Tabs w' := by
  obtain ⟨a, cap, h1, h2⟩ := h.pow
  obtain ⟨te, pe, h3⟩ := h.err
  exact ⟨cell_later hb h.opt, cell_later hb h.mant, ⟨a, cap, cell_later hb h1, cell_later hb h2⟩, Lib.tabBelow_of_tabIs h.tens w' hb, cell_later hb h.ten17, cell_later hb h.hiA, cell_later hb h.loA, cell_later hb h.hiB, cell_later hb h.loB, ⟨te, pe, cell_later hb h3⟩⟩

set_option maxRecDepth 100000 in
set_option maxHeartbeats 4000000 in
theorem parse_tenth (w : World) (T : Tabs w) : Calls Tryz.prog 24 #[.string ⟨#[48, 46, 49]⟩] w fun e w' => e = .returned (.tuple #[.int .u64 4591870180066957722, .int .i64 0]) ∧ Below w.heap.size w w' := by
  have hf := run_to
  go_enter Tryz.func24, Tryz.ntmps24
  go_wp2_with (first
    | (go_at_call 39; refine (isNumber_tenth _).mono ?_; rintro e w1 ⟨rfl, hb⟩; have T1 := T.later hb; obtain ⟨a, cap, h1, h2⟩ := T1.pow)
    | (go_at_call 107; refine (atof_tenth _ a cap T1.opt T1.mant h1 h2).mono ?_; rintro e w2 ⟨rfl, rfl⟩)
    | go_in)
  go_returns
  exact ⟨rfl, hb⟩

set_option maxRecDepth 100000 in
set_option maxHeartbeats 4000000 in
theorem parse_zero (w : World) (T : Tabs w) : Calls Tryz.prog 24 #[.string ⟨#[45, 48]⟩] w fun e w' => e = .returned (.tuple #[.int .u64 9223372036854775808, .int .i64 0]) ∧ Below w.heap.size w w' := by
  have hf := run_to
  go_enter Tryz.func24, Tryz.ntmps24
  go_wp2_with (first
    | (go_at_call 39; refine (isNumber_zero _).mono ?_; rintro e w1 ⟨rfl, hb⟩; have T1 := T.later hb)
    | (go_at_call 107; refine (atof_zero _ T1.opt).mono ?_; rintro e w2 ⟨rfl, rfl⟩)
    | go_in)
  go_returns
  exact ⟨rfl, hb⟩

set_option maxRecDepth 100000 in
set_option maxHeartbeats 4000000 in
theorem parse_big (w : World) (T : Tabs w) : Calls Tryz.prog 24 #[.string ⟨#[49, 101, 52, 48, 48]⟩] w fun e w' => e = .returned (.tuple #[.int .u64 0, .int .i64 21]) ∧ Below w.heap.size w w' := by
  go_enter Tryz.func24, Tryz.ntmps24
  go_wp2_with (first
    | (go_at_call 39; refine (isNumber_big _).mono ?_; rintro e w1 ⟨rfl, hb⟩; have T1 := T.later hb; obtain ⟨te, pe, h3⟩ := T1.err)
    | (go_at_call 107; refine (atof_big _ T1.opt).mono ?_; rintro e w2 ⟨rfl, rfl⟩)
    | (go_at_call 54; refine (Tryz.strconv_toError_range _ _ _ _ (.iface te pe) _ (by decide) h3 (.inr ⟨te, pe, rfl⟩)).mono ?_; rintro e w3 ⟨N, rfl, _, _, hb3⟩)
    | go_in)
  go_returns
  exact ⟨rfl, hb.trans (hb3.mono hb.size)⟩

set_option maxRecDepth 100000 in
set_option maxHeartbeats 4000000 in
theorem parse_led (w : World) : Calls Tryz.prog 24 #[.string ⟨#[48, 49]⟩] w fun e w' => e = .returned (.tuple #[.int .u64 0, .int .i64 20]) ∧ Below w.heap.size w w' := by
  go_enter Tryz.func24, Tryz.ntmps24
  go_wp2_with (first
    | (go_at_call 39; refine (isNumber_led _).mono ?_; rintro e w1 ⟨rfl, hb⟩)
    | go_in)
  go_returns
  exact ⟨rfl, hb⟩
end Go.Proofs.YtbemidnhljjfnaaGreatDoor
