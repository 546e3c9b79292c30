/- What a block string says: one line; all of them. -/
import Derived.Test.YtlabcadpkdgjnaaGreatDoorLxV
namespace Go.Proofs.YtlabcadpkdgjnaaGreatDoor
open Go Go.RowKit

set_option maxHeartbeats 4000000 in
theorem block_one (l : Bs) (x : Bs) (hx : linesS l = [x]) (hl : l.length ≤ 1048576) (T : Bs) (hT : joinS (trimS [x]) = T) (w : World) (g : Gl w) : Calls Tryz.prog 103 #[.string ⟨l.toArray⟩] w fun e w' => e = .returned (.string ⟨T.toArray⟩) ∧ Below w.heap.size w w' := by
  obtain ⟨hn, hs⟩ := linesS_len l
  have LO := linesOf_any l (by omega) w g
  rw [hx] at LO hn hs
  have hsx : x.length ≤ 1048576 := by have := hs x List.mem_cons_self; omega
  have HT : Hid (T = if blankB x then [] else x) := by
    show T = _
    rw [← hT]
    show joinS (trimE ([x].dropWhile blankB)) = _
    rw [List.dropWhile_cons]
    by_cases hb : blankB x = true
    · rw [if_pos hb, if_pos hb]; rfl
    · rw [if_neg hb, if_neg hb, show [x] = [] ++ [x] from rfl, trimE_snoc, if_neg hb]
      rfl
  have B := fun w => blank_any x (by omega) w
  have CZ := fun (G : Nat) w => common_zero ⟨G, 0, none⟩ w
  have J0 := fun (G m : Nat) w3 => Tryz.strings_Join_none (some ⟨G, 0, none⟩) m ⟨#[10]⟩ w3
  have J1 := fun (G : Nat) w3 (h3 : StrRow w3 G [x]) => join_any G 0 1 1 [x] w3 h3 (by simp) (Nat.le_refl _) (fun y hy => by rw [List.mem_singleton] at hy; subst hy; exact hsx) (by simp)
  have J1' : ∀ (G : Nat) w3 (h3 : StrRow w3 G [x]), Calls Tryz.prog 27 #[.slice (some ⟨G, 0, none⟩) 1 1, .string ⟨#[10]⟩] w3 fun e w' => e = .returned (.string ⟨x.toArray⟩) ∧ Below w3.heap.size w3 w' := J1
  have LO' : Calls Tryz.prog 121 #[.string ⟨l.toArray⟩] w fun e w' => (∃ G, w.heap.size ≤ G ∧ e = .returned (.slice (some ⟨G, 0, none⟩) 1 1) ∧ StrRow w' G [x]) ∧ Below w.heap.size w w' := LO
  clear hx hn hs hl g hT LO J1
  go_enter Tryz.func103, Tryz.ntmps103
  go_wp2_with (first
    | (go_at_call 122; refine (CZ G _).mono ?_; rintro e w2 ⟨rfl, hb2⟩)
    | (go_at_call 121; refine LO'.mono ?_; rintro e w1 ⟨⟨G, hG, rfl, hrow⟩, hb1⟩)
    | fail)
  have hrow2 := hrow.below hb2 hrow.lt
  have hb12 := hb1.trans (hb2.mono hb1.size)
  clear LO' CZ hrow hb1 hb2 w1
  go_loopw [15] (fun i wr => i = .int .i64 0 ∧ StrRow wr G [x] ∧ Below w.heap.size w wr) (fun _ _ => 0)
  case atStart => exact ⟨rfl, hrow2, hb12⟩
  case round =>
    clear hrow2 hb12
    obtain ⟨rfl, hrow, hb⟩ := hrel
    go_wp2
    by_cases hbl : blankB x = true
    · rw [hbl] at B HT
      have HQ : Hid (T = []) := HT.out
      clear HT hbl J1'
      go_loopw [3] (fun v wr => (v = .slice (some ⟨G, 0, none⟩) 1 1 ∨ v = .slice (some ⟨G, 0, none⟩) 0 0) ∧ StrRow wr G [x] ∧ Below w.heap.size w wr) (fun v _ => (match v with | .slice _ m _ => m | _ => 0))
      case atStart => exact ⟨Or.inl rfl, hrow, hb⟩
      case round =>
        clear hrow hb
        obtain ⟨hv, hrow, hb⟩ := hrel
        rcases hv with rfl | rfl
        · have hc : wr.cell? ⟨G, 0, none⟩ = some (.string ⟨x.toArray⟩) := hrow.cell 0 (by simp)
          go_wp2_with (go_at_call 123; refine (B _).mono ?_; rintro e w1 ⟨rfl, hb1⟩)
          refine ⟨⟨Or.inr rfl, hrow.below hb1 hrow.lt, hb.trans (hb1.mono hb.size)⟩, ?_⟩
          show 0 < 1
          decide
        · go_wp2
          go_loopw [3] (fun v wr => v = .slice (some ⟨G, 0, none⟩) 0 0 ∧ Below w.heap.size w wr) (fun _ _ => 0)
          case atStart => exact ⟨rfl, hb⟩
          case round =>
            obtain ⟨rfl, hb3⟩ := hrel
            have J := J0 G 0
            go_wp2_with (go_at_call 27; refine (J _).mono ?_; rintro e w5 ⟨rfl, rfl⟩)
            go_ret
            exact ⟨by rw [HQ.out]; rfl, hb3⟩
    · have hbl' : blankB x = false := Bool.eq_false_iff.2 hbl
      rw [hbl'] at B HT
      have HQ : Hid (T = x) := HT.out
      clear HT hbl hbl' J0
      go_loopw [3] (fun v wr => v = .slice (some ⟨G, 0, none⟩) 1 1 ∧ StrRow wr G [x] ∧ Below w.heap.size w wr) (fun _ _ => 0)
      case atStart => exact ⟨rfl, hrow, hb⟩
      case round =>
        clear hrow hb
        obtain ⟨rfl, hrow, hb⟩ := hrel
        have hc : wr.cell? ⟨G, 0, none⟩ = some (.string ⟨x.toArray⟩) := hrow.cell 0 (by simp)
        go_wp2_with (go_at_call 123; refine (B _).mono ?_; rintro e w1 ⟨rfl, hb1⟩)
        have hrow1 := hrow.below hb1 hrow.lt
        have hb2 := hb.trans (hb1.mono hb.size)
        clear hc hrow hb hb1
        go_loopw [3] (fun v wr => v = .slice (some ⟨G, 0, none⟩) 1 1 ∧ StrRow wr G [x] ∧ Below w.heap.size w wr) (fun _ _ => 0)
        case atStart => exact ⟨rfl, hrow1, hb2⟩
        case round =>
          clear hrow1 hb2
          obtain ⟨rfl, hrow3, hb3⟩ := hrel
          have hc : wr.cell? ⟨G, 0, none⟩ = some (.string ⟨x.toArray⟩) := hrow3.cell 0 (by simp)
          go_wp2_with (first
            | (go_at_call 27; refine (J1' G _ hrow5).mono ?_; rintro e w6 ⟨rfl, hb6⟩)
            | (go_at_call 123; refine (B _).mono ?_; rintro e w5 ⟨rfl, hb5⟩; have hrow5 := hrow3.below hb5 hrow3.lt)
            | fail)
          go_ret
          exact ⟨by rw [HQ.out]; rfl, (hb3.trans (hb5.mono hb3.size)).trans (hb6.mono (Nat.le_trans hb3.size hb5.size))⟩
theorem block_any (l : Bs) (hl : l.length ≤ 1048576) (w : World) (g : Gl w) : Calls Tryz.prog 103 #[.string ⟨l.toArray⟩] w fun e w' => e = .returned (.string ⟨(blockS l).toArray⟩) ∧ Below w.heap.size w w' := by
  cases hx : linesS l with
  | nil => exact absurd hx (split10_ne _)
  | cons x xs =>
    have hb : blockS l = joinS (trimS (x :: xs.map (cutS ((commonS xs none).getD 0)))) := by unfold blockS; rw [hx]
    cases xs with
    | nil => exact block_one l x hx hl _ hb.symm w g
    | cons y ys =>
      refine block_walk l x (y :: ys) hx hl (by simp) _ ?_ w g
      rw [hb]
      unfold doneL
      rw [List.take_length, List.drop_length, List.append_nil]
      rfl
end Go.Proofs.YtlabcadpkdgjnaaGreatDoor
