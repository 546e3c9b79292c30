/- An escape with four digits. -/
import Derived.Test.YtlabcadpkdgjnaaGreatDoorLxH
import Derived.WalkSpells
import Derived.WalkLawsBesides
namespace Go.Proofs.YtlabcadpkdgjnaaGreatDoor
open Go Go.RowKit Go.Lib

theorem suint_yes (c0 : UInt8) (L0 : Bs) (hL : L0.length ≤ 3) (v : Nat) (hv : hexF (c0 :: L0) 0 = some v) (w : World) : Calls Tryz.prog 137 #[.string ⟨(c0 :: L0).toArray⟩, .int .i64 16, .int .i64 64] w fun e w' => e = .returned (.tuple #[.int .u64 (v : Int), .nilIface]) ∧ Below w.heap.size w w' := by
  have P := iuint_any c0 L0 hL w
  rw [hv] at P
  clear hv
  generalize (c0 :: L0).toArray = A at *
  go_enter Tryz.func137, Tryz.ntmps137
  go_wp2_with (go_at_call 152; refine P.mono ?_; rintro e w1 ⟨rfl, hb1⟩)
  go_ret2
  exact ⟨rfl, hb1⟩
set_option maxRecDepth 100000 in
theorem iuint_empty (w : World) : Calls Tryz.prog 152 #[.string ⟨#[]⟩, .int .i64 16, .int .i64 64] w fun e w' => e = .returned (.tuple #[.int .u64 0, .iface 178 (.int .i64 2)]) ∧ Below w.heap.size w w' := by
  go_enter Tryz.func152, Tryz.ntmps152
  go_wp2
  go_ret2
  exact ⟨rfl, Below.refl _ _⟩
theorem suint_no (L : Bs) (hL : L.length ≤ 4) (hv : L = [] ∨ hexF L 0 = none) (w : World) (g : Gl w) : Calls Tryz.prog 137 #[.string ⟨L.toArray⟩, .int .i64 16, .int .i64 64] w fun e w' => (∃ N, e = .returned (.tuple #[.int .u64 0, .iface 180 (.pointer (some ⟨N, 0, none⟩))])) ∧ Below w.heap.size w w' := by
  have P : Calls Tryz.prog 152 #[.string ⟨L.toArray⟩, .int .i64 16, .int .i64 64] w fun e w' => e = .returned (.tuple #[.int .u64 0, .iface 178 (.int .i64 2)]) ∧ Below w.heap.size w w' := by
    cases L with
    | nil => exact iuint_empty w
    | cons c L =>
      have P := iuint_any c L (by simp at hL; omega) w
      rcases hv with hv | hv
      · cases hv
      · rw [hv] at P; exact P
  have hsz := size_of L
  have E := fun (w' : World) (hb : Below w.heap.size w w') (ev : Value) (h1 : w'.cell? ⟨gE, 0, none⟩ = some ev) (h2 : ev = .nilIface ∨ ∃ te pe, ev = .iface te pe) => Tryz.strconv_toError_syntax ⟨#[80, 97, 114, 115, 101, 85, 105, 110, 116]⟩ ⟨L.toArray⟩ 16 64 ev w' (by rw [hsz]; omega) h1 h2
  clear hv hsz
  generalize L.toArray = A at *
  go_enter Tryz.func137, Tryz.ntmps137
  go_wp2_with (first
    | (go_at_call 153; refine (E w1 hb1 ev h1 h2).mono ?_; rintro e w2 ⟨N, rfl, _, _, hb2⟩)
    | (go_at_call 152; refine P.mono ?_; rintro e w1 ⟨rfl, hb1⟩; obtain ⟨ev, h1, h2⟩ := (g.below hb1 (Nat.le_refl _)).es)
    | fail)
  go_ret2
  exact ⟨⟨N, rfl⟩, hb1.trans (hb2.mono hb1.size)⟩

theorem isHalf_any (c : Int) (w : World) : Calls Tryz.prog 138 #[.int .i64 c] w fun e w' => e = .returned (.bool (decide (55296 ≤ c ∧ c ≤ 57343))) ∧ w' = w := by
  go_enter Tryz.func138, Tryz.ntmps138
  go_wp2
  all_goals (go_ret; refine ⟨ret_bool ?_, rfl⟩; first | rfl | (symm; simp; omega) | (simp; omega))
theorem cell_new (w : World) (cs : Array Value) (t : TypeId) (j : Nat) : (w.alloc (.cells cs t)).cell? ((⟨w.heap.size, 0, none⟩ : Addr).add j) = cs[j]? := by
  rw [Addr.add_lit, Nat.zero_add]
  unfold World.cell?
  rw [show (w.alloc (.cells cs t)).heap[w.heap.size]? = some (.cells cs t (0, 0)) from heap_alloc_new _ _]
  rfl
theorem u8_cell (x : Nat) (y : Int) (hx : x < 256) (hy : y = x) : Value.int .u8 y = .int .u8 ((x.toUInt8).toNat : Int) := by
  rw [hy]
  simp
  omega
theorem hconv (n : Nat) (w : World) (h0 : 2048 ≤ n) (h1 : n < 65536) :
    (convert 40 9 (.slice (some ⟨w.heap.size, 0, none⟩) 3 3)).run Tryz.prog (w.alloc (.cells #[.int .u8 (224 + (n : Int) / 4096), .int .u8 (128 + (n : Int) / 64 % 64), .int .u8 (128 + (n : Int) % 64)] 5)) = .ok (.string ⟨(halfS n).toArray⟩) (w.alloc (.cells #[.int .u8 (224 + (n : Int) / 4096), .int .u8 (128 + (n : Int) / 64 % 64), .int .u8 (128 + (n : Int) % 64)] 5)) :=
  run_convert_bytes_back (P := Tryz.prog) (w.alloc (.cells #[.int .u8 (224 + (n : Int) / 4096), .int .u8 (128 + (n : Int) / 64 % 64), .int .u8 (128 + (n : Int) % 64)] 5)) 40 9 5 ⟨w.heap.size, 0, none⟩ 3 (halfS n) Tryz.underlying40 Tryz.underlying5 Tryz.underlying9 (by
      intro j hj
      match j, hj with
      | 0, _ => exact (cell_new w _ _ _).trans (congrArg some (u8_cell _ _ (by omega) (by omega)))
      | 1, _ => exact (cell_new w _ _ _).trans (congrArg some (u8_cell _ _ (by omega) (by omega)))
      | 2, _ => exact (cell_new w _ _ _).trans (congrArg some (u8_cell _ _ (by omega) (by omega)))
      | n + 3, hj => exact absurd (show n + 3 < 3 from hj) (by omega))
set_option maxRecDepth 100000 in
set_option maxHeartbeats 1000000 in
theorem half_any (n : Nat) (w : World) (h0 : 2048 ≤ n) (h1 : n < 65536) : Calls Tryz.prog 139 #[.int .i64 (n : Int)] w fun e w' => e = .returned (.string ⟨(halfS n).toArray⟩) ∧ Below w.heap.size w w' := by
  have hcv := hconv n w h0 h1
  have h0' : 2048 ≤ (n : Int) := by omega
  have h1' : (n : Int) < 65536 := by omega
  clear h0 h1
  generalize halfS n = H at *
  generalize (n : Int) = c at *
  go_enter Tryz.func139, Tryz.ntmps139
  go_wp2
  go_ret
  exact ⟨rfl, (Below.refl _ _).alloc (Nat.le_refl _) _⟩
end Go.Proofs.YtlabcadpkdgjnaaGreatDoor
