/- The document's own Letter, Digit, begins, Source, run. -/
import Derived.Test.YthficamlgngaaaaGreatDoorLxA1
import Derived.Test.YthficamlgngaaaaGreatDoorLxV3
import Derived.Deep.DeepCutAuto
namespace Go.Proofs.YthficamlgngaaaaGreatDoor
open Go Go.RowKit

theorem dig_is (x : UInt8) : digL.contains x = decide (48 ≤ x.toNat ∧ x.toNat ≤ 57) := by
  have h : ∀ n : _root_.Fin 256, digL.contains (UInt8.ofNat n.1) = decide (48 ≤ n.1 ∧ n.1 ≤ 57) := by decide +kernel
  have := h ⟨x.toNat, x.toNat_lt⟩
  simpa using this
theorem let_is (x : UInt8) : letL.contains x = decide ((97 ≤ x.toNat ∧ x.toNat ≤ 122) ∨ (65 ≤ x.toNat ∧ x.toNat ≤ 90) ∨ x.toNat = 95) := by
  have h : ∀ n : _root_.Fin 256, letL.contains (UInt8.ofNat n.1) = decide ((97 ≤ n.1 ∧ n.1 ≤ 122) ∨ (65 ≤ n.1 ∧ n.1 ≤ 90) ∨ n.1 = 95) := by decide +kernel
  have := h ⟨x.toNat, x.toNat_lt⟩
  simpa using this

set_option maxHeartbeats 1000000 in
theorem xdigit_any (x : UInt8) (w : World) : Calls Tryz.prog 67 #[.int .u8 (x.toNat : Int)] w fun e w' => e = .returned (.bool (digL.contains x)) ∧ w' = w := by
  rw [dig_is]
  have h0 : (0 : Int) ≤ (x.toNat : Int) := by omega
  obtain ⟨c, hc⟩ : ∃ c : Int, c = (x.toNat : Int) := ⟨_, rfl⟩
  have e : decide (48 ≤ x.toNat ∧ x.toNat ≤ 57) = decide (48 ≤ c ∧ c ≤ 57) := by rw [hc]; congr 1; apply propext; omega
  rw [e, ← hc]
  rw [← hc] at h0
  clear hc e
  go_enter Tryz.func67, Tryz.ntmps67
  go_wp2
  all_goals (go_ret; refine ⟨ret_bool ?_, rfl⟩; go_light; first | (symm; simp; done) | (symm; simp; omega) | (rw [Bool.eq_iff_iff]; simp; omega))
set_option maxHeartbeats 1000000 in
theorem xletter_any (x : UInt8) (w : World) : Calls Tryz.prog 65 #[.int .u8 (x.toNat : Int)] w fun e w' => e = .returned (.bool (letL.contains x)) ∧ w' = w := by
  rw [let_is]
  have h0 : (0 : Int) ≤ (x.toNat : Int) := by omega
  obtain ⟨c, hc⟩ : ∃ c : Int, c = (x.toNat : Int) := ⟨_, rfl⟩
  have e : decide ((97 ≤ x.toNat ∧ x.toNat ≤ 122) ∨ (65 ≤ x.toNat ∧ x.toNat ≤ 90) ∨ x.toNat = 95) = decide ((97 ≤ c ∧ c ≤ 122) ∨ (65 ≤ c ∧ c ≤ 90) ∨ c = 95) := by rw [hc]; congr 1; apply propext; omega
  rw [e, ← hc]
  rw [← hc] at h0
  clear hc e
  go_enter Tryz.func65, Tryz.ntmps65
  go_wp2
  all_goals (go_ret; refine ⟨ret_bool ?_, rfl⟩; go_light; first | (symm; simp; done) | (symm; simp; omega) | (rw [Bool.eq_iff_iff]; simp; omega))

/-! ### begins -/
theorem drop_get (s : Bs) (p k : Nat) : (s.drop p).getD k 0 = s.getD (p + k) 0 := by
  simp [List.getD, List.getElem?_drop]
theorem pre_take (t l : Bs) : t.isPrefixOf l = decide (t = l.take t.length) := by
  rw [Bool.eq_iff_iff, List.isPrefixOf_iff_prefix, decide_eq_true_eq]
  exact List.prefix_iff_eq_take
theorem ext_mk (s : Bs) (p n : Nat) : (ByteArray.mk s.toArray).extract p (p + n) = ⟨((s.drop p).take n).toArray⟩ := by
  apply ByteArray.ext; apply Array.toList_inj.1
  simp
theorem list_mk (l : Bs) : (ByteArray.mk l.toArray).toList = l := by
  rw [ByteArray.toList_eq]

set_option maxHeartbeats 1000000 in
theorem begins_any (s : Bs) (p : Nat) (hp : p ≤ s.length) (hs : s.length ≤ 16384) (t : Bs) (ht : t.length ≤ 4) (w : World) :
    Calls Tryz.prog 63 #[.string ⟨s.toArray⟩, .int .i64 (p : Int), .string ⟨t.toArray⟩] w fun e w' => e = .returned (.bool (t.isPrefixOf (s.drop p))) ∧ w' = w := by
  have hD : (ByteArray.mk s.toArray).size = s.length := rfl
  have hT : (ByteArray.mk t.toArray).size = t.length := rfl
  have hx := ext_mk s p t.length
  by_cases hl : t.length ≤ s.length - p
  · have b1 : (t.length : Int) ≤ (s.length : Int) - (p : Int) := by omega
    have b2 : (p : Int) + (t.length : Int) ≤ (s.length : Int) := by omega
    have b3 : p + t.length ≤ s.length := by omega
    have hB : ((ByteArray.mk ((s.drop p).take t.length).toArray).toList == (ByteArray.mk t.toArray).toList) = t.isPrefixOf (s.drop p) := by
      rw [pre_take, list_mk, list_mk, Bool.eq_iff_iff, beq_iff_eq, decide_eq_true_eq]
      exact eq_comm
    generalize t.isPrefixOf (s.drop p) = B at *
    generalize (ByteArray.mk ((s.drop p).take t.length).toArray) = X at *
    generalize (ByteArray.mk s.toArray) = D at *
    generalize (ByteArray.mk t.toArray) = T at *
    go_enter Tryz.func63, Tryz.ntmps63
    go_wp2
    go_ret
    exact ⟨rfl, rfl⟩
  · have b1 : ¬ (t.length : Int) ≤ (s.length : Int) - (p : Int) := by omega
    have hB : t.isPrefixOf (s.drop p) = false := by
      rw [Bool.eq_false_iff]
      intro h
      have := prefix_le h
      rw [List.length_drop] at this
      omega
    rw [hB]
    clear hx hB
    generalize (ByteArray.mk s.toArray) = D at *
    generalize (ByteArray.mk t.toArray) = T at *
    go_enter Tryz.func63, Tryz.ntmps63
    go_wp2
    go_ret
    exact ⟨rfl, rfl⟩

/-! ### Source -/
/-- The source character at a place: how many bytes it has. -/
def srcC (s : Bs) (p : Nat) : Option Nat := if p < s.length ∧ sourceB (stC ⟨s.toArray⟩ p) = true then some (stW ⟨s.toArray⟩ p) else none
theorem src_ge {c : Int} (h : sourceB c = true) : (c = 9 ∨ c = 10 ∨ c = 13) ∨ (32 ≤ c ∧ c ≤ 65535) := by
  unfold sourceB at h
  simp at h
  omega
set_option maxHeartbeats 1000000 in
theorem source_no (s : Bs) (p : Nat) (hs : s.length ≤ 16384) (h : srcC s p = none) (w : World) :
    Calls Tryz.prog 64 #[.string ⟨s.toArray⟩, .int .i64 (p : Int)] w fun e w' => e = .returned (.tuple #[.int .i64 0, .int .i64 0]) ∧ Below w.heap.size w w' := by
  have hD : (ByteArray.mk s.toArray).size = s.length := rfl
  have hz : ∀ c n : Int, (c < 32 ∧ c ≠ 9 ∧ c ≠ 10 ∧ c ≠ 13) ∨ 65535 < c → (∀ w, Calls Tryz.prog 99 #[.string ⟨s.toArray⟩, .int .i64 (p : Int)] w fun e w' => e = .returned (.tuple #[.int .i64 c, .int .i64 n]) ∧ Below w.heap.size w w') → Calls Tryz.prog 64 #[.string ⟨s.toArray⟩, .int .i64 (p : Int)] w fun e w' => e = .returned (.tuple #[.int .i64 0, .int .i64 0]) ∧ Below w.heap.size w w' := by
    intro c n hc R
    generalize (ByteArray.mk s.toArray) = D at *
    rcases hc with ⟨h1, h2, h3, h4⟩ | h1
    · have x1 : ¬ 65535 < c := by omega
      have x2 : (c != 9) = true := by simpa using h2
      have x3 : (c != 10) = true := by simpa using h3
      have x4 : (c != 13) = true := by simpa using h4
      go_enter Tryz.func64, Tryz.ntmps64
      go_wp2_with (go_at_call 99; refine (R _).mono ?_; rintro e w1 ⟨rfl, hb⟩)
      go_ret2
      exact ⟨rfl, hb⟩
    · go_enter Tryz.func64, Tryz.ntmps64
      go_wp2_with (go_at_call 99; refine (R _).mono ?_; rintro e w1 ⟨rfl, hb⟩)
      go_ret2
      exact ⟨rfl, hb⟩
  by_cases hp : p < s.length
  · have hR := fun w => rrune_in ⟨s.toArray⟩ p w (by rw [hD]; omega) (by rw [hD]; exact hp)
    have hns : ¬ sourceB (stC ⟨s.toArray⟩ p) = true := by
      intro e
      unfold srcC at h
      rw [if_pos ⟨hp, e⟩] at h
      cases h
    refine hz (runeS ⟨s.toArray⟩ p).1 (runeS ⟨s.toArray⟩ p).2 ?_ hR
    unfold runeS
    split
    · left; simp
    · rename_i hne
      have hge : 0 ≤ stC ⟨s.toArray⟩ p := by
        unfold stC at hne ⊢
        split
        · rename_i e; rw [if_pos e] at hne; exact absurd rfl hne
        · omega
      generalize stC ⟨s.toArray⟩ p = c at *
      unfold sourceB at hns
      simp at hns
      show (c < 32 ∧ c ≠ 9 ∧ c ≠ 10 ∧ c ≠ 13) ∨ 65535 < c
      omega
  · refine hz 0 0 (by decide) fun w => ?_
    exact (rrune_out ⟨s.toArray⟩ (p : Int) w (by rw [hD]; omega)).mono fun e w' ⟨h1, h2⟩ => ⟨h1, by rw [h2]; exact Below.refl _ _⟩
set_option maxHeartbeats 1000000 in
theorem source_yes (s : Bs) (p k : Nat) (hs : s.length ≤ 16384) (h : srcC s p = some k) (w : World) :
    Calls Tryz.prog 64 #[.string ⟨s.toArray⟩, .int .i64 (p : Int)] w fun e w' => e = .returned (.tuple #[.int .i64 (stC ⟨s.toArray⟩ p), .int .i64 (k : Int)]) ∧ Below w.heap.size w w' := by
  have hD : (ByteArray.mk s.toArray).size = s.length := rfl
  unfold srcC at h
  split at h
  · rename_i hc
    obtain ⟨hp, hc⟩ := hc
    have hk : stW ⟨s.toArray⟩ p = k := by simpa using h
    have hR := fun w => rrune_in ⟨s.toArray⟩ p w (by rw [hD]; omega) (by rw [hD]; exact hp)
    have hg := src_ge hc
    have e : runeS ⟨s.toArray⟩ p = (stC ⟨s.toArray⟩ p, (k : Int)) := by
      unfold runeS
      rw [if_neg (by omega), hk]
    rw [e] at hR
    clear e h hk hc
    generalize stC ⟨s.toArray⟩ p = c at *
    generalize (ByteArray.mk s.toArray) = D at *
    rcases hg with (rfl | rfl | rfl) | ⟨h1, h2⟩
    · go_enter Tryz.func64, Tryz.ntmps64
      go_wp2_with (go_at_call 99; refine (hR _).mono ?_; rintro e w1 ⟨rfl, hb⟩)
      go_ret2
      exact ⟨rfl, hb⟩
    · go_enter Tryz.func64, Tryz.ntmps64
      go_wp2_with (go_at_call 99; refine (hR _).mono ?_; rintro e w1 ⟨rfl, hb⟩)
      go_ret2
      exact ⟨rfl, hb⟩
    · go_enter Tryz.func64, Tryz.ntmps64
      go_wp2_with (go_at_call 99; refine (hR _).mono ?_; rintro e w1 ⟨rfl, hb⟩)
      go_ret2
      exact ⟨rfl, hb⟩
    · have x1 : ¬ 65535 < c := by omega
      have x2 : ¬ c < 32 := by omega
      go_enter Tryz.func64, Tryz.ntmps64
      go_wp2_with (go_at_call 99; refine (hR _).mono ?_; rintro e w1 ⟨rfl, hb⟩)
      go_ret2
      exact ⟨rfl, hb⟩
  · cases h

/-! ### run -/
def runN (l : Bs) : Nat := (l.takeWhile fun c => digL.contains c).length
theorem span_run (l : Bs) : spanR digL l = l.drop (runN l) := by
  induction l with
  | nil => rfl
  | cons c l ih =>
    unfold spanR runN
    by_cases h : digL.contains c = true
    · rw [if_pos h, ih, List.takeWhile_cons_of_pos (by exact h)]
      rfl
    · rw [if_neg h, List.takeWhile_cons_of_neg (by exact h)]
      rfl
theorem run_at (l : Bs) : ∀ k, k ≤ runN l → digL.contains (l.getD k 0) = decide (k < runN l) := by
  induction l with
  | nil =>
    intro k hk
    have : k = 0 := by simpa [runN] using hk
    subst this
    rfl
  | cons c l ih =>
    intro k hk
    by_cases h : digL.contains c = true
    · have e : runN (c :: l) = runN l + 1 := by
        unfold runN
        rw [List.takeWhile_cons_of_pos (by exact h)]
        rfl
      rw [e] at hk ⊢
      cases k with
      | zero =>
        show digL.contains c = _
        rw [h]
        simp
      | succ k =>
        show digL.contains (l.getD k 0) = _
        rw [ih k (by omega)]
        simp
    · have e : runN (c :: l) = 0 := by
        unfold runN
        rw [List.takeWhile_cons_of_neg (by exact h)]
        rfl
      rw [e] at hk ⊢
      obtain rfl : k = 0 := by omega
      show digL.contains c = _
      simpa using h
theorem run_le (l : Bs) : runN l ≤ l.length := (List.takeWhile_sublist _).length_le
set_option maxHeartbeats 1000000 in
theorem run_any (s : Bs) (p : Nat) (hs : s.length ≤ 16384) (hp : p ≤ 65536) (w : World) :
    Calls Tryz.prog 100 #[.string ⟨s.toArray⟩, .int .i64 (p : Int)] w fun e w' => e = .returned (.int .i64 (runN (s.drop p) : Int)) ∧ w' = w := by
  have hr := run_at (s.drop p)
  have hle := run_le (s.drop p)
  rw [List.length_drop] at hle
  have A := fun k => xat_any s (by omega) k
  have hat : ∀ k, k ≤ runN (s.drop p) → digL.contains (s.getD (p + k) 0) = decide (k < runN (s.drop p)) := fun k hk => by rw [← hr k hk, drop_get]
  clear hr
  generalize runN (s.drop p) = M at *
  generalize (ByteArray.mk s.toArray) = D at *
  go_enter Tryz.func100, Tryz.ntmps100
  go_wp2
  go_loopw [5] (fun n wr => ∃ k : Nat, k ≤ M ∧ n = .int .i64 (k : Int) ∧ wr = w) (fun n _ => M - (RowKit.intOf n).toNat)
  case atStart => exact ⟨0, Nat.zero_le _, rfl, rfl⟩
  case round =>
    obtain ⟨k, hk, rfl, rfl⟩ := hrel
    have A1 := A (p + k)
    have hd := hat k hk
    have Dg := fun w => xdigit_any (s.getD (p + k) 0) w
    rw [hd] at Dg
    have ec : ((p + k : Nat) : Int) = (p : Int) + (k : Int) := by omega
    rw [ec] at A1
    generalize ((s.getD (p + k) 0).toNat : Int) = c at A1 Dg
    clear A hat hd ec
    by_cases hlt : k < M
    · rw [decide_eq_true hlt] at Dg
      go_wp2_with (first
        | (go_at_call 67; refine (Dg _).mono ?_; rintro e w2 ⟨rfl, rfl⟩)
        | (go_at_call 66; refine (A1 _).mono ?_; rintro e w1 ⟨rfl, rfl⟩)
        | fail)
      go_roundw
      case rel => exact ⟨k + 1, by omega, by go_num, trivial⟩
      case measure => simp [RowKit.intOf]; omega
    · rw [decide_eq_false hlt] at Dg
      obtain rfl : k = M := by omega
      go_wp2_with (first
        | (go_at_call 67; refine (Dg _).mono ?_; rintro e w2 ⟨rfl, rfl⟩)
        | (go_at_call 66; refine (A1 _).mono ?_; rintro e w1 ⟨rfl, rfl⟩)
        | fail)
      go_ret
      exact ⟨rfl, rfl⟩
end Go.Proofs.YthficamlgngaaaaGreatDoor
