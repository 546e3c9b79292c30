/- The document's own escape. -/
import Derived.Test.YthficamlgngaaaaGreatDoorXrE
namespace Go.Proofs.YthficamlgngaaaaGreatDoor
open Go Go.RowKit
attribute [local irreducible] unitS

section
variable {s : Bs} {q : Nat} {w : World}

set_option maxHeartbeats 1000000 in
theorem esc_98 (hq : q < s.length) (hs : s.length ≤ 16384) (hc : bt s q = 98) : Calls Tryz.prog 103 #[.string ⟨s.toArray⟩, .int .i64 (q : Int)] w fun e w' => e = .returned (.tuple #[.string ⟨#[8]⟩, .int .i64 ((q + 1 : Nat) : Int), .bool true]) ∧ w = w' := by
  have A : ∀ w : World, Calls Tryz.prog 66 #[.string ⟨s.toArray⟩, .int .i64 (q : Int)] w fun e w' => e = .returned (.int .u8 98) ∧ w = w' := fun w => by
    have := xat_any s (by omega) q w
    rw [show ((s.getD q 0).toNat : Int) = 98 from hc] at this
    exact this
  clear hc
  generalize (ByteArray.mk s.toArray) = D at *
  go_enter Tryz.func103, Tryz.ntmps103
  go_wp2_with (go_at_call 66; (with_reducible refine (A _).mono ?_); rintro e w1 ⟨rfl, rfl⟩)
  go_ret3
  exact ⟨rfl, rfl⟩

set_option maxHeartbeats 1000000 in
theorem esc_102 (hq : q < s.length) (hs : s.length ≤ 16384) (hc : bt s q = 102) : Calls Tryz.prog 103 #[.string ⟨s.toArray⟩, .int .i64 (q : Int)] w fun e w' => e = .returned (.tuple #[.string ⟨#[12]⟩, .int .i64 ((q + 1 : Nat) : Int), .bool true]) ∧ w = w' := by
  have A : ∀ w : World, Calls Tryz.prog 66 #[.string ⟨s.toArray⟩, .int .i64 (q : Int)] w fun e w' => e = .returned (.int .u8 102) ∧ w = w' := fun w => by
    have := xat_any s (by omega) q w
    rw [show ((s.getD q 0).toNat : Int) = 102 from hc] at this
    exact this
  clear hc
  generalize (ByteArray.mk s.toArray) = D at *
  go_enter Tryz.func103, Tryz.ntmps103
  go_wp2_with (go_at_call 66; (with_reducible refine (A _).mono ?_); rintro e w1 ⟨rfl, rfl⟩)
  go_ret3
  exact ⟨rfl, rfl⟩

set_option maxHeartbeats 1000000 in
theorem esc_110 (hq : q < s.length) (hs : s.length ≤ 16384) (hc : bt s q = 110) : Calls Tryz.prog 103 #[.string ⟨s.toArray⟩, .int .i64 (q : Int)] w fun e w' => e = .returned (.tuple #[.string ⟨#[10]⟩, .int .i64 ((q + 1 : Nat) : Int), .bool true]) ∧ w = w' := by
  have A : ∀ w : World, Calls Tryz.prog 66 #[.string ⟨s.toArray⟩, .int .i64 (q : Int)] w fun e w' => e = .returned (.int .u8 110) ∧ w = w' := fun w => by
    have := xat_any s (by omega) q w
    rw [show ((s.getD q 0).toNat : Int) = 110 from hc] at this
    exact this
  clear hc
  generalize (ByteArray.mk s.toArray) = D at *
  go_enter Tryz.func103, Tryz.ntmps103
  go_wp2_with (go_at_call 66; (with_reducible refine (A _).mono ?_); rintro e w1 ⟨rfl, rfl⟩)
  go_ret3
  exact ⟨rfl, rfl⟩

set_option maxHeartbeats 1000000 in
theorem esc_114 (hq : q < s.length) (hs : s.length ≤ 16384) (hc : bt s q = 114) : Calls Tryz.prog 103 #[.string ⟨s.toArray⟩, .int .i64 (q : Int)] w fun e w' => e = .returned (.tuple #[.string ⟨#[13]⟩, .int .i64 ((q + 1 : Nat) : Int), .bool true]) ∧ w = w' := by
  have A : ∀ w : World, Calls Tryz.prog 66 #[.string ⟨s.toArray⟩, .int .i64 (q : Int)] w fun e w' => e = .returned (.int .u8 114) ∧ w = w' := fun w => by
    have := xat_any s (by omega) q w
    rw [show ((s.getD q 0).toNat : Int) = 114 from hc] at this
    exact this
  clear hc
  generalize (ByteArray.mk s.toArray) = D at *
  go_enter Tryz.func103, Tryz.ntmps103
  go_wp2_with (go_at_call 66; (with_reducible refine (A _).mono ?_); rintro e w1 ⟨rfl, rfl⟩)
  go_ret3
  exact ⟨rfl, rfl⟩

set_option maxHeartbeats 1000000 in
theorem esc_116 (hq : q < s.length) (hs : s.length ≤ 16384) (hc : bt s q = 116) : Calls Tryz.prog 103 #[.string ⟨s.toArray⟩, .int .i64 (q : Int)] w fun e w' => e = .returned (.tuple #[.string ⟨#[9]⟩, .int .i64 ((q + 1 : Nat) : Int), .bool true]) ∧ w = w' := by
  have A : ∀ w : World, Calls Tryz.prog 66 #[.string ⟨s.toArray⟩, .int .i64 (q : Int)] w fun e w' => e = .returned (.int .u8 116) ∧ w = w' := fun w => by
    have := xat_any s (by omega) q w
    rw [show ((s.getD q 0).toNat : Int) = 116 from hc] at this
    exact this
  clear hc
  generalize (ByteArray.mk s.toArray) = D at *
  go_enter Tryz.func103, Tryz.ntmps103
  go_wp2_with (go_at_call 66; (with_reducible refine (A _).mono ?_); rintro e w1 ⟨rfl, rfl⟩)
  go_ret3
  exact ⟨rfl, rfl⟩

set_option maxHeartbeats 1000000 in
theorem esc_34 (hq : q < s.length) (hs : s.length ≤ 16384) (hc : bt s q = 34) (hx : (ByteArray.mk s.toArray).extract q (q + 1) = ⟨#[34]⟩) : Calls Tryz.prog 103 #[.string ⟨s.toArray⟩, .int .i64 (q : Int)] w fun e w' => e = .returned (.tuple #[.string ⟨#[34]⟩, .int .i64 ((q + 1 : Nat) : Int), .bool true]) ∧ w = w' := by
  have A : ∀ w : World, Calls Tryz.prog 66 #[.string ⟨s.toArray⟩, .int .i64 (q : Int)] w fun e w' => e = .returned (.int .u8 34) ∧ w = w' := fun w => by
    have := xat_any s (by omega) q w
    rw [show ((s.getD q 0).toNat : Int) = 34 from hc] at this
    exact this
  have hD : (ByteArray.mk s.toArray).size = s.length := rfl
  have f1 : (q : Int) + 1 ≤ (s.length : Int) := by omega
  clear hc
  generalize (ByteArray.mk s.toArray) = D at *
  go_enter Tryz.func103, Tryz.ntmps103
  go_wp2_with (go_at_call 66; (with_reducible refine (A _).mono ?_); rintro e w1 ⟨rfl, rfl⟩)
  go_ret3
  exact ⟨rfl, rfl⟩

set_option maxHeartbeats 1000000 in
theorem esc_92 (hq : q < s.length) (hs : s.length ≤ 16384) (hc : bt s q = 92) (hx : (ByteArray.mk s.toArray).extract q (q + 1) = ⟨#[92]⟩) : Calls Tryz.prog 103 #[.string ⟨s.toArray⟩, .int .i64 (q : Int)] w fun e w' => e = .returned (.tuple #[.string ⟨#[92]⟩, .int .i64 ((q + 1 : Nat) : Int), .bool true]) ∧ w = w' := by
  have A : ∀ w : World, Calls Tryz.prog 66 #[.string ⟨s.toArray⟩, .int .i64 (q : Int)] w fun e w' => e = .returned (.int .u8 92) ∧ w = w' := fun w => by
    have := xat_any s (by omega) q w
    rw [show ((s.getD q 0).toNat : Int) = 92 from hc] at this
    exact this
  have hD : (ByteArray.mk s.toArray).size = s.length := rfl
  have f1 : (q : Int) + 1 ≤ (s.length : Int) := by omega
  clear hc
  generalize (ByteArray.mk s.toArray) = D at *
  go_enter Tryz.func103, Tryz.ntmps103
  go_wp2_with (go_at_call 66; (with_reducible refine (A _).mono ?_); rintro e w1 ⟨rfl, rfl⟩)
  go_ret3
  exact ⟨rfl, rfl⟩

set_option maxHeartbeats 1000000 in
theorem esc_47 (hq : q < s.length) (hs : s.length ≤ 16384) (hc : bt s q = 47) (hx : (ByteArray.mk s.toArray).extract q (q + 1) = ⟨#[47]⟩) : Calls Tryz.prog 103 #[.string ⟨s.toArray⟩, .int .i64 (q : Int)] w fun e w' => e = .returned (.tuple #[.string ⟨#[47]⟩, .int .i64 ((q + 1 : Nat) : Int), .bool true]) ∧ w = w' := by
  have A : ∀ w : World, Calls Tryz.prog 66 #[.string ⟨s.toArray⟩, .int .i64 (q : Int)] w fun e w' => e = .returned (.int .u8 47) ∧ w = w' := fun w => by
    have := xat_any s (by omega) q w
    rw [show ((s.getD q 0).toNat : Int) = 47 from hc] at this
    exact this
  have hD : (ByteArray.mk s.toArray).size = s.length := rfl
  have f1 : (q : Int) + 1 ≤ (s.length : Int) := by omega
  clear hc
  generalize (ByteArray.mk s.toArray) = D at *
  go_enter Tryz.func103, Tryz.ntmps103
  go_wp2_with (go_at_call 66; (with_reducible refine (A _).mono ?_); rintro e w1 ⟨rfl, rfl⟩)
  go_ret3
  exact ⟨rfl, rfl⟩

set_option maxHeartbeats 1000000 in
theorem esc_none (hs : s.length ≤ 16384) (hc : ∀ c ∈ ([34, 92, 47, 98, 102, 110, 114, 116, 117] : List Int), bt s q ≠ c) : Calls Tryz.prog 103 #[.string ⟨s.toArray⟩, .int .i64 (q : Int)] w fun e w' => e = .returned (.tuple #[.string ⟨#[]⟩, .int .i64 (q : Int), .bool false]) ∧ w = w' := by
  have A : ∀ w : World, Calls Tryz.prog 66 #[.string ⟨s.toArray⟩, .int .i64 (q : Int)] w fun e w' => e = .returned (.int .u8 (bt s q)) ∧ w = w' := fun w => xat_any s (by omega) q w
  have x1 : (bt s q == 34) = false := by simpa using hc 34 (by simp)
  have x2 : (bt s q == 92) = false := by simpa using hc 92 (by simp)
  have x3 : (bt s q == 47) = false := by simpa using hc 47 (by simp)
  have x4 : (bt s q == 98) = false := by simpa using hc 98 (by simp)
  have x5 : (bt s q == 102) = false := by simpa using hc 102 (by simp)
  have x6 : (bt s q == 110) = false := by simpa using hc 110 (by simp)
  have x7 : (bt s q == 114) = false := by simpa using hc 114 (by simp)
  have x8 : (bt s q == 116) = false := by simpa using hc 116 (by simp)
  have x9 : (bt s q == 117) = false := by simpa using hc 117 (by simp)
  clear hc
  generalize bt s q = c at *
  generalize (ByteArray.mk s.toArray) = D at *
  go_enter Tryz.func103, Tryz.ntmps103
  go_wp2_with (go_at_call 66; (with_reducible refine (A _).mono ?_); rintro e w1 ⟨rfl, rfl⟩)
  go_ret3
  exact ⟨rfl, rfl⟩

set_option maxRecDepth 100000 in
set_option maxHeartbeats 2000000 in
theorem esc_117 (Q : Ending → Prop) (hyes : ∀ n, hxs s q 4 = some n → Q (.returned (.tuple #[.string ⟨(unitS n).toArray⟩, .int .i64 ((q + 5 : Nat) : Int), .bool true]))) (hno : hxs s q 4 = none → Q (.returned (.tuple #[.string ⟨#[]⟩, .int .i64 (q : Int), .bool false]))) (hq : q < s.length) (hs : s.length ≤ 16384) (hc : bt s q = 117) : Calls Tryz.prog 103 #[.string ⟨s.toArray⟩, .int .i64 (q : Int)] w fun e w' => Q e ∧ Below w.heap.size w w' := by
  have A0 : ∀ w : World, Calls Tryz.prog 66 #[.string ⟨s.toArray⟩, .int .i64 (q : Int)] w fun e w' => e = .returned (.int .u8 117) ∧ w = w' := fun w => by
    have := xat_any s (by omega) q w
    rw [show ((s.getD q 0).toNat : Int) = 117 from hc] at this
    exact this
  have A : ∀ (k : Nat) (w : World), Calls Tryz.prog 66 #[.string ⟨s.toArray⟩, .int .i64 ((q : Int) + ((k : Int) + 1))] w fun e w' => e = .returned (.int .u8 ((s.getD (q + (k + 1)) 0).toNat : Int)) ∧ w = w' := fun k w => xat_any s (by omega) (q + (k + 1)) w
  have HY : Hid (∀ n, hxs s q 4 = some n → Q (.returned (.tuple #[.string ⟨(unitS n).toArray⟩, .int .i64 ((q + 5 : Nat) : Int), .bool true]))) := hyes
  have HNo : Hid (hxs s q 4 = none → Q (.returned (.tuple #[.string ⟨#[]⟩, .int .i64 (q : Int), .bool false]))) := hno
  clear hc hyes hno
  generalize hDD : (ByteArray.mk s.toArray) = D at *
  clear hDD
  go_enter Tryz.func103, Tryz.ntmps103
  go_wp2_with (go_at_call 66; (with_reducible refine (A0 _).mono ?_); rintro e w1 ⟨rfl, rfl⟩)
  go_loopw [7, 8] (fun n k wr => ∃ (j m : Nat), j ≤ 4 ∧ n = .int .i64 (m : Int) ∧ k = .int .i64 ((j : Int) + 1) ∧ hxs s q j = some m ∧ w = wr) (fun _ k _ => 6 - (RowKit.intOf k).toNat)
  case atStart => exact ⟨0, 0, by omega, rfl, rfl, rfl, rfl⟩
  case round =>
    obtain ⟨j, m, hj, rfl, rfl, hx, rfl⟩ := hrel
    have hm := hxs_lt s q j m hx
    by_cases hlt : j < 4
    · have g1 : (j : Int) + 1 ≤ 4 := by omega
      have H := fun w => xhex_any (s.getD (q + (j + 1)) 0) w
      have A1 := A j
      have hbd : m < 65536 := Nat.lt_of_lt_of_le hm (by
        have : 16 ^ j ≤ 16 ^ 4 := Nat.pow_le_pow_right (by decide) (by omega)
        simpa using this)
      have hnext : hxs s q (j + 1) = (hexV (s.getD (q + (j + 1)) 0)).map fun d => 16 * m + d := by
        show (hxs s q j).bind _ = _
        rw [hx, Option.bind_some]
      have hstay : hxs s q (j + 1) = none → hxs s q 4 = none := by
        intro h0
        rcases (by omega : j = 0 ∨ j = 1 ∨ j = 2 ∨ j = 3) with rfl | rfl | rfl | rfl
        · show (((hxs s q 1).bind _).bind _).bind _ = none
          rw [h0]; rfl
        · show ((hxs s q 2).bind _).bind _ = none
          rw [h0]; rfl
        · show (hxs s q 3).bind _ = none
          rw [h0]; rfl
        · exact h0
      have HN : Hid (hxs s q (j + 1) = (hexV (s.getD (q + (j + 1)) 0)).map fun d => 16 * m + d) := hnext
      have HS : Hid (hxs s q (j + 1) = none → hxs s q 4 = none) := hstay
      clear hnext hstay hx hm A A0
      generalize hb : s.getD (q + (j + 1)) 0 = b at *
      clear hb
      cases hv : hexV b with
      | none =>
        have hI : hexI b = -1 := by unfold hexI; rw [hv]
        rw [hI] at H
        have h0 : hxs s q 4 = none := HS.out (by rw [HN.out, hv]; rfl)
        have H0 : Hid (hxs s q 4 = none) := h0
        clear hI hv h0
        generalize ((b.toNat : Nat) : Int) = c at *
        go_wp2_with (first
          | (go_at_call 123; (with_reducible refine (H _).mono ?_); rintro e w2 ⟨rfl, rfl⟩)
          | (go_at_call 66; (with_reducible refine (A1 _).mono ?_); rintro e w1 ⟨rfl, rfl⟩)
          | fail)
        go_ret3
        exact ⟨HNo.out H0.out, Below.refl _ _⟩
      | some d =>
        have hI : hexI b = (d : Int) := by unfold hexI; rw [hv]
        have hd := hexV_lt hv
        rw [hI] at H
        have h0 : hxs s q (j + 1) = some (16 * m + d) := by rw [HN.out, hv]; rfl
        have H0 : Hid (hxs s q (j + 1) = some (16 * m + d)) := h0
        clear hI hv h0
        generalize ((b.toNat : Nat) : Int) = c at *
        have k1 : ¬ (d : Int) < 0 := by omega
        go_wp2_with (first
          | (go_at_call 123; (with_reducible refine (H _).mono ?_); rintro e w2 ⟨rfl, rfl⟩)
          | (go_at_call 66; (with_reducible refine (A1 _).mono ?_); rintro e w1 ⟨rfl, rfl⟩)
          | fail)
        refine ⟨⟨j + 1, 16 * m + d, by omega, congrArg (Value.int .i64) (by omega), congrArg (Value.int .i64) (by omega), H0.out, by first | rfl | trivial⟩, ?_⟩
        simp [RowKit.intOf]
        omega
    · obtain rfl : j = 4 := by omega
      have U := fun w => unit_any m (by simpa using hm) w
      have H0 : Hid (hxs s q 4 = some m) := hx
      clear hx hm A A0
      generalize hU : (ByteArray.mk (unitS m).toArray) = UB at *
      have HU : Hid ((ByteArray.mk (unitS m).toArray) = UB) := hU
      clear hU
      go_wp2_with (go_at_call 124; (with_reducible refine (U _).mono ?_); rintro e w2 ⟨rfl, hb2⟩)
      go_ret3
      have hy := HY.out m H0.out
      rw [HU.out] at hy
      exact ⟨hy, hb2⟩
end
/-- The document's escape at every place. -/
theorem escape_any (s : Bs) (q : Nat) (hs : s.length ≤ 16384) (w : World) : Calls Tryz.prog 103 #[.string ⟨s.toArray⟩, .int .i64 (q : Int)] w (EscX s w (escS (s.drop q))) := by
  cases hl : s.drop q with
  | nil =>
    have h0 := bt_nil s q hl
    refine (esc_none (w := w) hs (by rw [h0]; decide)).mono ?_
    rintro e w' ⟨rfl, rfl⟩
    exact ⟨⟨_, _, rfl⟩, Below.refl _ _⟩
  | cons x r =>
    have hb := bt_drop s q x r hl
    have hlen := congrArg List.length hl
    rw [List.length_drop, List.length_cons] at hlen
    have hq : q < s.length := by omega
    have hp1 : s.length - r.length = q + 1 := by omega
    have hx : (ByteArray.mk s.toArray).extract q (q + 1) = ⟨#[x]⟩ := by
      rw [ext_mk, hl]
      rfl
    have key : ∀ v : UInt8, escS (x :: r) = some ([v], r) → (∀ w, Calls Tryz.prog 103 #[.string ⟨s.toArray⟩, .int .i64 (q : Int)] w fun e w' => e = .returned (.tuple #[.string ⟨#[v]⟩, .int .i64 ((q + 1 : Nat) : Int), .bool true]) ∧ w = w') → Calls Tryz.prog 103 #[.string ⟨s.toArray⟩, .int .i64 (q : Int)] w (EscX s w (escS (x :: r))) := by
      intro v hv hw
      rw [hv]
      refine (hw w).mono ?_
      rintro e w' ⟨rfl, rfl⟩
      refine ⟨?_, Below.refl _ _⟩
      show Ending.returned _ = Ending.returned (.tuple #[.string ⟨[v].toArray⟩, .int .i64 ((s.length - r.length : Nat) : Int), .bool true])
      rw [hp1]
    by_cases h1 : x = 34
    · subst h1; exact key 34 rfl fun w => esc_34 hq hs hb hx
    by_cases h2 : x = 92
    · subst h2; exact key 92 rfl fun w => esc_92 hq hs hb hx
    by_cases h3 : x = 47
    · subst h3; exact key 47 rfl fun w => esc_47 hq hs hb hx
    by_cases h4 : x = 98
    · subst h4; exact key 8 rfl fun w => esc_98 hq hs hb
    by_cases h5 : x = 102
    · subst h5; exact key 12 rfl fun w => esc_102 hq hs hb
    by_cases h6 : x = 110
    · subst h6; exact key 10 rfl fun w => esc_110 hq hs hb
    by_cases h7 : x = 114
    · subst h7; exact key 13 rfl fun w => esc_114 hq hs hb
    by_cases h8 : x = 116
    · subst h8; exact key 9 rfl fun w => esc_116 hq hs hb
    by_cases h9 : x = 117
    · subst h9
      have e1 : escS (117 :: r) = (hxs s q 4).map fun n => (unitS n, s.drop (q + 5)) := by
        rw [← nmb_hxs]
        have : s.drop (q + 1) = r := by
          have := congrArg (List.drop 1) hl
          rw [List.drop_drop] at this
          exact this
        rw [this]
        rfl
      rw [e1]
      have hshort : ∀ l : Bs, l.length < 4 → nmbS l = none := by
        intro l hl4
        match l, hl4 with
        | [], _ => rfl
        | [_], _ => rfl
        | [_, _], _ => rfl
        | [_, _, _], _ => rfl
        | _ :: _ :: _ :: _ :: _, h => exact absurd h (by simp only [List.length_cons]; omega)
      refine (esc_117 (w := w) (fun e => match (hxs s q 4).map fun n => (unitS n, s.drop (q + 5)) with
        | some p => e = .returned (.tuple #[.string ⟨p.1.toArray⟩, .int .i64 ((s.length - p.2.length : Nat) : Int), .bool true])
        | none => ∃ a b, e = .returned (.tuple #[.string a, .int .i64 b, .bool false])) ?_ ?_ hq hs hb).mono fun e w' h => h
      · intro n hn
        rw [hn]
        show Ending.returned _ = Ending.returned (.tuple #[.string ⟨(unitS n).toArray⟩, .int .i64 ((s.length - (s.drop (q + 5)).length : Nat) : Int), .bool true])
        have hq5 : q + 5 ≤ s.length := by
          rcases Nat.lt_or_ge s.length (q + 5) with hlt | hge
          · exfalso
            have hf := nmb_hxs s q
            rw [hn, Option.map_some, hshort _ (by rw [List.length_drop]; omega)] at hf
            cases hf
          · exact hge
        rw [List.length_drop, show s.length - (s.length - (q + 5)) = q + 5 by omega]
      · intro hn
        rw [hn]
        exact ⟨_, _, rfl⟩
    have e1 : escS (x :: r) = none := by
      unfold escS
      rw [if_neg (by simp [List.isPrefixOf]; exact fun e => h9 e.symm)]
      simp only
      rw [if_neg (by simp [escL, h1, h2, h3, h4, h5, h6, h7, h8])]
    rw [e1]
    have hne : ∀ v : UInt8, x ≠ v → bt s q ≠ (v.toNat : Int) := fun v hv e => by
      rw [hb] at e
      apply hv
      apply UInt8.toNat_inj.1
      omega
    refine (esc_none (w := w) hs ?_).mono ?_
    · intro c hc
      simp at hc
      rcases hc with rfl | rfl | rfl | rfl | rfl | rfl | rfl | rfl | rfl
      · exact hne 34 h1
      · exact hne 92 h2
      · exact hne 47 h3
      · exact hne 98 h4
      · exact hne 102 h5
      · exact hne 110 h6
      · exact hne 114 h7
      · exact hne 116 h8
      · exact hne 117 h9
    · rintro e w' ⟨rfl, rfl⟩
      exact ⟨⟨_, _, rfl⟩, Below.refl _ _⟩
end Go.Proofs.YthficamlgngaaaaGreatDoor
