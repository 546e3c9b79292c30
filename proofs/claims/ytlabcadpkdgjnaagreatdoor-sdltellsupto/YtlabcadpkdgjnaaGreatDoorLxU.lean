/- The common indent; what a block string says. -/
import Derived.Test.YtlabcadpkdgjnaaGreatDoorLxT
namespace Go.Proofs.YtlabcadpkdgjnaaGreatDoor
open Go Go.RowKit

/-- The common indent as the loop keeps it: its number, and whether there is one. -/
def cmN (a : Option Nat) : Nat := a.getD 0
theorem commonS_step (x : Bs) (xs : List Bs) (a : Option Nat) : commonS (x :: xs) a = commonS xs (if blankB x then a else match a with
    | none => some (indS x)
    | some n => if indS x < n then some (indS x) else some n) := rfl

set_option maxHeartbeats 2000000 in
theorem common_any (G o : Nat) (L : List Bs) (w : World) (h : StrRow w G L) (ho : o ≤ L.length) (hs : ∀ x ∈ L, x.length ≤ 4294967280) (hn : L.length ≤ 4294967281) :
    Calls Tryz.prog 122 #[.slice (some ⟨G, o, none⟩) (L.length - o) (L.length - o)] w fun e w' => e = .returned (.int .i64 ((cmN (commonS (L.drop o) none) : Nat) : Int)) ∧ Below w.heap.size w w' := by
  have hG := h.lt
  have hlen : (L.drop o).length = L.length - o := List.length_drop
  go_enter Tryz.func122, Tryz.ntmps122
  go_wp2
  go_loopw [3, 4, 10] (fun c f i wr => ∃ (j : Nat) (a : Option Nat), j ≤ L.length - o ∧ i = .int .i64 j ∧ c = .int .i64 ((cmN a : Nat) : Int) ∧ f = .bool a.isSome ∧ commonS ((L.drop o).drop j) a = commonS (L.drop o) none ∧ Below w.heap.size w wr) (fun _ _ i _ => L.length - o - (intOf i).toNat)
  case atStart => exact ⟨0, none, Nat.zero_le _, rfl, rfl, rfl, rfl, Below.refl _ _⟩
  case round =>
    obtain ⟨j, a, hj, rfl, rfl, rfl, hc, hb⟩ := hrel
    by_cases hlt : j < L.length - o
    · have hx : (L.drop o).drop j = (L.drop o)[j] :: (L.drop o).drop (j + 1) := List.drop_eq_getElem_cons (by rw [hlen]; exact hlt)
      have hcell := (h.below hb hG).cell (o + j) (by omega)
      have hge : (L.drop o)[j] = L[o + j] := List.getElem_drop
      have hxl : (L[o + j]).length ≤ 4294967280 := hs _ (List.getElem_mem _)
      rw [hx, hge, commonS_step] at hc
      have I := fun w => indent_any (L[o + j]) hxl w
      have B := fun w => blank_any (L[o + j]) hxl w
      have hI : (j : Int) < ((L.length - o : Nat) : Int) := by omega
      have HC := hc
      clear hx hge hc
      generalize L[o + j] = x at *
      have HLT : Hid (j < L.length - o) := hlt
      clear hlt hj
      have hin : (0 : Int) ≤ ((indS x : Nat) : Int) := by omega
      by_cases hbl : blankB x = true
      · rw [hbl] at B HC
        have HH : Hid (commonS ((L.drop o).drop (j + 1)) a = commonS (L.drop o) none) := HC
        clear HC hbl
        go_wp2_with (first
          | (go_at_call 123; refine (B _).mono ?_; rintro e w2 ⟨rfl, hb2⟩)
          | (go_at_call 131; refine (I _).mono ?_; rintro e w1 ⟨rfl, hb1⟩)
          | fail)
        refine ⟨⟨j + 1, a, HLT.out, by go_num, rfl, rfl, HH.out, (hb.trans (hb1.mono hb.size)).trans (hb2.mono (Nat.le_trans hb.size hb1.size))⟩, ?_⟩
        have := HLT.out
        simp [intOf]; omega
      · have hbl' : blankB x = false := Bool.eq_false_iff.2 hbl
        rw [hbl'] at B HC
        cases a with
        | none =>
          have HH : Hid (commonS ((L.drop o).drop (j + 1)) (some (indS x)) = commonS (L.drop o) none) := HC
          clear HC hbl hbl'
          go_wp2_with (first
            | (go_at_call 123; refine (B _).mono ?_; rintro e w2 ⟨rfl, hb2⟩)
            | (go_at_call 131; refine (I _).mono ?_; rintro e w1 ⟨rfl, hb1⟩)
            | fail)
          refine ⟨⟨j + 1, some (indS x), HLT.out, by go_num, rfl, rfl, HH.out, (hb.trans (hb1.mono hb.size)).trans (hb2.mono (Nat.le_trans hb.size hb1.size))⟩, ?_⟩
          have := HLT.out
          simp [intOf]; omega
        | some n =>
          by_cases hlt2 : indS x < n
          · have HH : Hid (commonS ((L.drop o).drop (j + 1)) (some (indS x)) = commonS (L.drop o) none) := by
              show _ = _
              rw [← HC]
              simp [hlt2]
            have hd : ((indS x : Nat) : Int) < ((cmN (some n) : Nat) : Int) := by show ((indS x : Nat) : Int) < (n : Int); omega
            clear HC hbl hbl' hlt2
            go_wp2_with (first
              | (go_at_call 123; refine (B _).mono ?_; rintro e w2 ⟨rfl, hb2⟩)
              | (go_at_call 131; refine (I _).mono ?_; rintro e w1 ⟨rfl, hb1⟩)
              | fail)
            refine ⟨⟨j + 1, some (indS x), HLT.out, by go_num, rfl, rfl, HH.out, (hb.trans (hb1.mono hb.size)).trans (hb2.mono (Nat.le_trans hb.size hb1.size))⟩, ?_⟩
            have := HLT.out
            simp [intOf]; omega
          · have HH : Hid (commonS ((L.drop o).drop (j + 1)) (some n) = commonS (L.drop o) none) := by
              show _ = _
              rw [← HC]
              simp [hlt2]
            have hd : ¬ ((indS x : Nat) : Int) < ((cmN (some n) : Nat) : Int) := by show ¬ ((indS x : Nat) : Int) < (n : Int); omega
            clear HC hbl hbl' hlt2
            go_wp2_with (first
              | (go_at_call 123; refine (B _).mono ?_; rintro e w2 ⟨rfl, hb2⟩)
              | (go_at_call 131; refine (I _).mono ?_; rintro e w1 ⟨rfl, hb1⟩)
              | fail)
            refine ⟨⟨j + 1, some n, HLT.out, by go_num, rfl, rfl, HH.out, (hb.trans (hb1.mono hb.size)).trans (hb2.mono (Nat.le_trans hb.size hb1.size))⟩, ?_⟩
            have := HLT.out
            simp [intOf]; omega
    · obtain rfl : j = L.length - o := by omega
      have HH : Hid (a = commonS (L.drop o) none) := by
        show _ = _
        rw [← hc, ← hlen, List.drop_length]; rfl
      clear hc
      go_wp2
      go_ret
      exact ⟨by rw [← HH.out]; rfl, hb⟩
end Go.Proofs.YtlabcadpkdgjnaaGreatDoor
