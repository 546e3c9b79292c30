/- FormatFloat at the two numbers. -/
import Derived.Test.YtbemidnhljjfnaaGreatDoorFtA
import Derived.Test.YtbemidnhljjfnaaGreatDoorFtB
import Derived.Laws.MakeOwn
import Derived.Laws.BytesString
import Derived.Laws.IdiomStrings
namespace Go.Proofs.YtbemidnhljjfnaaGreatDoor
open Go Go.RowKit Go.Lib

theorem made24 (w : World) : (Instr.makeSlice 83 (.int .i64 0) (.int .i64 24)).run Tryz.prog w = .ok (.slice (some ⟨w.heap.size, 0, none⟩) 0 24) (w.alloc (.cells zeros 5)) := by kernel_rfl

theorem string_of_row {w : World} {B g cap : Nat} {l : List UInt8} {L : List Int} {n : Nat} (h : w.ownsRow B 5 1 (.slice (some ⟨g, 0, none⟩) n cap) n (L.map (Value.int .u8)))
    (hn : n = l.length := by rfl) (hL : L = l.map (fun b => (b.toNat : Int)) := by decide +kernel) :
    (convert 83 9 (.slice (some ⟨g, 0, none⟩) n cap)).run Tryz.prog w = .ok (.string ⟨l.toArray⟩) w := by
  subst hn hL
  refine run_convert_bytes_back w 83 9 5 _ cap l Tryz.underlying83 Tryz.underlying5 Tryz.underlying9 fun j hj => ?_
  rw [add_plain, Nat.zero_add, h.cellAt j (by omega)]
  simp [hj]

set_option maxRecDepth 100000 in
set_option maxHeartbeats 8000000 in
theorem formB (w : World) (T : Tabs w) : Calls Tryz.prog 47 #[.float .f64 1, .int .u8 101, .int .i64 16, .int .i64 64] w fun e w' =>
      e = .returned (.string ⟨#[52, 46, 57, 52, 48, 54, 53, 54, 52, 53, 56, 52, 49, 50, 52, 54, 53, 52, 101, 45, 51, 50, 52]⟩) ∧ Below w.heap.size w w' := by
  have hb := Below.alloc (Below.refl w.heap.size w) (Nat.le_refl _) (.cells zeros 5)
  have F := ftoaB w.heap.size (w.alloc (.cells zeros 5)) (T.later hb) hb.size (World.ownsRow_made w zeros 24 (Nat.le_refl _) (by decide) rfl)
  have hm := made24
  have hx : max (20 : Int) 24 = 24 := by decide
  have HB : Hid (Below w.heap.size w (w.alloc (.cells zeros 5))) := hb
  clear hb
  go_enter Tryz.func47, Tryz.ntmps47
  go_wp2_with (first
    | (go_at_call 63; refine F.mono ?_; rintro e w1 ⟨rfl, ho, hb1⟩; have hcv := string_of_row (l := [52, 46, 57, 52, 48, 54, 53, 54, 52, 53, 56, 52, 49, 50, 52, 54, 53, 52, 101, 45, 51, 50, 52]) ho)
    | go_in)
  go_ret
  exact ⟨rfl, HB.out.trans hb1⟩

set_option maxRecDepth 100000 in
set_option maxHeartbeats 8000000 in
theorem formA (w : World) (T : Tabs w) : Calls Tryz.prog 47 #[.float .f64 4591870180066957722, .int .u8 101, .int .i64 16, .int .i64 64] w fun e w' =>
      e = .returned (.string ⟨#[49, 46, 48, 48, 48, 48, 48, 48, 48, 48, 48, 48, 48, 48, 48, 48, 48, 49, 101, 45, 48, 49]⟩) ∧ Below w.heap.size w w' := by
  have hb := Below.alloc (Below.refl w.heap.size w) (Nat.le_refl _) (.cells zeros 5)
  have F := ftoaA w.heap.size (w.alloc (.cells zeros 5)) (T.later hb) hb.size (World.ownsRow_made w zeros 24 (Nat.le_refl _) (by decide) rfl)
  have hm := made24
  have hx : max (20 : Int) 24 = 24 := by decide
  have HB : Hid (Below w.heap.size w (w.alloc (.cells zeros 5))) := hb
  clear hb
  go_enter Tryz.func47, Tryz.ntmps47
  go_wp2_with (first
    | (go_at_call 63; refine F.mono ?_; rintro e w1 ⟨rfl, ho, hb1⟩; have hcv := string_of_row (l := [49, 46, 48, 48, 48, 48, 48, 48, 48, 48, 48, 48, 48, 48, 48, 48, 48, 49, 101, 45, 48, 49]) ho)
    | go_in)
  go_ret
  exact ⟨rfl, HB.out.trans hb1⟩

end Go.Proofs.YtbemidnhljjfnaaGreatDoor
