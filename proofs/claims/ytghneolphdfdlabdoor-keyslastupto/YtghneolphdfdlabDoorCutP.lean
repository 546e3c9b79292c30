/- A part read from its bytes. -/
import Derived.Test.YtghneolphdfdlabDoorCutX
namespace Go.Proofs.YtghneolphdfdlabDoor
open Go Go.RowKit

/-- The part with whose bytes a row begins, and what is behind them. -/
def decP : List UInt8 → Option (Pt × List UInt8)
  | [] => none
  | c :: r =>
    if c = 1 then (if 8 ≤ r.length then some (⟨0, (valB (r.take 8) : Int) - 9223372036854775808, 0, ⟨#[]⟩⟩, r.drop 8) else none)
    else if c = 2 then (if 8 ≤ r.length then (if inK (valB (r.take 8)) then some (⟨1, 0, fromN (valB (r.take 8)), ⟨#[]⟩⟩, r.drop 8) else none) else none)
    else if c = 3 then (cutT r).map fun x => (⟨2, 0, 0, ⟨x.1.toArray⟩⟩, x.2)
    else none

/-- What is told of it. -/
def told (o : Option (Pt × List UInt8)) (e : Ending) : Prop := match o with
  | none => ∃ (p : Pt) (t : ByteArray), e = .returned (.tuple #[p.val, .string t, .bool false])
  | some x => e = .returned (.tuple #[x.1.val, .string ⟨x.2.toArray⟩, .bool true])

theorem setB {B o : Nat} {a w : World} {v : Value} (h : Below B a w) : Below B a (w.setCell ⟨B, o, none⟩ v) := h.setCell (p := ⟨B, o, none⟩) (Nat.le_refl _) v
theorem ext_more (r : List UInt8) (k : Nat) : (ByteArray.mk r.toArray).extract k (ByteArray.mk r.toArray).size = ⟨(r.drop k).toArray⟩ := by
  apply ByteArray.ext
  rw [mk_size]
  simp only [ByteArray.data_extract, List.extract_toArray, List.extract_eq_take_drop]
  rw [List.take_of_length_le (by simp)]

set_option maxHeartbeats 400000 in
theorem cutPart_other (c : UInt8) (s : ByteArray) (w : World) (h0 : s.size ≤ 4000000000) (h1 : 1 ≤ s.size) (hc : s[0] = c) (n1 : c ≠ 1) (n2 : c ≠ 2) (n3 : c ≠ 3) :
    Calls Tryd.prog 15 #[.string s] w fun e w' => told none e ∧ Below w.heap.size w w' := by
  have hlt := c.toNat_lt
  have m1 : ¬ (s[0].toNat : Int) - 1 = 0 := by
    intro e; exact n1 (UInt8.toNat_inj.1 (by rw [hc] at e; show c.toNat = 1; omega))
  have m2 : ¬ (s[0].toNat : Int) - 1 = 1 := by
    intro e; exact n2 (UInt8.toNat_inj.1 (by rw [hc] at e; show c.toNat = 2; omega))
  have m3 : ¬ (s[0].toNat : Int) - 1 = 2 := by
    intro e; exact n3 (UInt8.toNat_inj.1 (by rw [hc] at e; show c.toNat = 3; omega))
  have m4 : (s[0].toNat : Int) ≤ 255 := by rw [hc]; omega
  clear n1 n2 n3 hlt hc
  go_enter Tryd.func15, Tryd.ntmps15
  go_wp2
  exact bodyPost_ret (v := .tuple #[.agg #[.int .i64 ((s[0].toNat : Int) - 1), .int .i64 0, .int .u64 0, .string ⟨#[]⟩], .string ⟨#[]⟩, .bool false]) (by simp [results, Tryd.results15, go_sem]) rfl ⟨⟨⟨(s[0].toNat : Int) - 1, 0, 0, ⟨#[]⟩⟩, _, rfl⟩, (Below.refl _ _).alloc (Nat.le_refl _) _⟩

set_option maxHeartbeats 400000 in
theorem cutPart_1no (s r : ByteArray) (w : World) (h0 : s.size ≤ 4000000000) (h1 : 1 ≤ s.size) (hc : (s[0].toNat : Int) = 1) (hr : s.extract 1 s.size = r) (h8 : r.size < 8) :
    Calls Tryd.prog 15 #[.string s] w fun e w' => told none e ∧ Below w.heap.size w w' := by
  have CN := fun w => cutNumber_no r w h8
  go_enter Tryd.func15, Tryd.ntmps15
  go_wp2_with (go_at_call 23; refine (CN _).mono ?_; rintro e w1 ⟨rfl, rfl⟩)
  exact bodyPost_ret (v := .tuple #[.agg #[.int .i64 0, .int .i64 (wrap64 (IntKind.u64.wrap (-9223372036854775808))), .int .u64 0, .string ⟨#[]⟩], .string ⟨#[]⟩, .bool false]) (by simp [results, Tryd.results15, go_sem]) rfl ⟨⟨⟨0, wrap64 (IntKind.u64.wrap (-9223372036854775808)), 0, ⟨#[]⟩⟩, _, rfl⟩, (Below.refl _ _).alloc (Nat.le_refl _) _⟩

theorem wrap_back (n : Nat) (h : n < 18446744073709551616) : wrap64 (IntKind.u64.wrap ((n : Int) - 9223372036854775808)) = (n : Int) - 9223372036854775808 := by
  simp only [IntKind.wrap_u64]
  unfold wrap64
  omega

set_option maxHeartbeats 400000 in
theorem cutPart_1yes (s r : ByteArray) (w : World) (h0 : s.size ≤ 4000000000) (h1 : 1 ≤ s.size) (hc : (s[0].toNat : Int) = 1) (hr : s.extract 1 s.size = r) (h8 : 8 ≤ r.size) (hrs : r.size ≤ 4000000000) :
    Calls Tryd.prog 15 #[.string s] w fun e w' => e = .returned (.tuple #[(⟨0, (valB (r.data.toList.take 8) : Int) - 9223372036854775808, 0, ⟨#[]⟩⟩ : Pt).val, .string (r.extract 8 r.size), .bool true]) ∧ Below w.heap.size w w' := by
  have CN := fun w => cutNumber_yes r w h8 (by omega)
  have hb : valB (r.data.toList.take 8) < 18446744073709551616 := by
    refine Nat.lt_of_lt_of_le (valB_lt _) ?_
    have : (r.data.toList.take 8).length ≤ 8 := by rw [List.length_take]; omega
    exact Nat.le_trans (Nat.pow_le_pow_right (by decide) this) (by decide)
  generalize valB (r.data.toList.take 8) = n at *
  have HX : Hid (wrap64 (IntKind.u64.wrap ((n : Int) - 9223372036854775808)) = (n : Int) - 9223372036854775808) := wrap_back n hb
  clear hb
  go_enter Tryd.func15, Tryd.ntmps15
  go_wp2_with (go_at_call 23; refine (CN _).mono ?_; rintro e w1 ⟨rfl, q, rfl⟩)
  refine bodyPost_ret (v := .tuple #[.agg #[.int .i64 0, .int .i64 (wrap64 (IntKind.u64.wrap ((n : Int) - 9223372036854775808))), .int .u64 0, .string ⟨#[]⟩], .string (r.extract 8 r.size), .bool true]) (by simp [results, Tryd.results15, go_sem]) rfl ⟨?_, ?_⟩
  · rw [HX.out]
    rfl
  · exact setB (setB (setB (setB (setB (belD ((Below.refl _ _).alloc (Nat.le_refl _) _) _)))))


set_option maxHeartbeats 400000 in
theorem cutPart_2no (s r : ByteArray) (w : World) (h0 : s.size ≤ 4000000000) (h1 : 1 ≤ s.size) (hc : (s[0].toNat : Int) = 2) (hr : s.extract 1 s.size = r) (h8 : r.size < 8) :
    Calls Tryd.prog 15 #[.string s] w fun e w' => told none e ∧ Below w.heap.size w w' := by
  have CN := fun w => cutNumber_no r w h8
  have FK := fun w => fromKey_any 0 w (by decide)
  generalize fromN 0 = x at FK
  generalize errN (inK 0) = y at FK
  go_enter Tryd.func15, Tryd.ntmps15
  go_wp2_with (first
    | (go_at_call 23; refine (CN _).mono ?_; rintro e w1 ⟨rfl, rfl⟩)
    | (go_at_call 24; refine (FK _).mono ?_; rintro e w1 ⟨rfl, rfl⟩))
  exact bodyPost_ret (v := .tuple #[.agg #[.int .i64 1, .int .i64 0, .int .u64 (x : Int), .string ⟨#[]⟩], .string ⟨#[]⟩, .bool false]) (by simp [results, Tryd.results15, go_sem]) rfl ⟨⟨⟨1, 0, x, ⟨#[]⟩⟩, _, rfl⟩, (Below.refl _ _).alloc (Nat.le_refl _) _⟩

set_option maxHeartbeats 400000 in
theorem cutPart_2bad (s r : ByteArray) (w : World) (h0 : s.size ≤ 4000000000) (h1 : 1 ≤ s.size) (hc : (s[0].toNat : Int) = 2) (hr : s.extract 1 s.size = r) (h8 : 8 ≤ r.size) (hrs : r.size ≤ 4000000000) (hk : inK (valB (r.data.toList.take 8)) = false) :
    Calls Tryd.prog 15 #[.string s] w fun e w' => told none e ∧ Below w.heap.size w w' := by
  have CN := fun w => cutNumber_yes r w h8 (by omega)
  have hb : valB (r.data.toList.take 8) < 18446744073709551616 := by
    refine Nat.lt_of_lt_of_le (valB_lt _) ?_
    have : (r.data.toList.take 8).length ≤ 8 := by rw [List.length_take]; omega
    exact Nat.le_trans (Nat.pow_le_pow_right (by decide) this) (by decide)
  generalize valB (r.data.toList.take 8) = n at *
  have FK := fun w => fromKey_any n w hb
  rw [hk] at FK
  simp only [errN, Bool.false_eq_true, if_false] at FK
  generalize fromN n = x at FK
  clear hb hk
  go_enter Tryd.func15, Tryd.ntmps15
  go_wp2_with (first
    | (go_at_call 23; refine (CN _).mono ?_; rintro e w1 ⟨rfl, q, rfl⟩)
    | (go_at_call 24; refine (FK _).mono ?_; rintro e w1 ⟨rfl, rfl⟩))
  refine bodyPost_ret (v := .tuple #[.agg #[.int .i64 1, .int .i64 0, .int .u64 (x : Int), .string ⟨#[]⟩], .string (r.extract 8 r.size), .bool false]) (by simp [results, Tryd.results15, go_sem]) rfl ⟨⟨⟨1, 0, x, ⟨#[]⟩⟩, _, rfl⟩, ?_⟩
  · exact setB (setB (setB (setB (setB (belD ((Below.refl _ _).alloc (Nat.le_refl _) _) _)))))


set_option maxHeartbeats 400000 in
theorem cutPart_2yes (s r : ByteArray) (w : World) (h0 : s.size ≤ 4000000000) (h1 : 1 ≤ s.size) (hc : (s[0].toNat : Int) = 2) (hr : s.extract 1 s.size = r) (h8 : 8 ≤ r.size) (hrs : r.size ≤ 4000000000) (hk : inK (valB (r.data.toList.take 8)) = true) :
    Calls Tryd.prog 15 #[.string s] w fun e w' => e = .returned (.tuple #[(⟨1, 0, fromN (valB (r.data.toList.take 8)), ⟨#[]⟩⟩ : Pt).val, .string (r.extract 8 r.size), .bool true]) ∧ Below w.heap.size w w' := by
  have CN := fun w => cutNumber_yes r w h8 (by omega)
  have hb : valB (r.data.toList.take 8) < 18446744073709551616 := by
    refine Nat.lt_of_lt_of_le (valB_lt _) ?_
    have : (r.data.toList.take 8).length ≤ 8 := by rw [List.length_take]; omega
    exact Nat.le_trans (Nat.pow_le_pow_right (by decide) this) (by decide)
  generalize valB (r.data.toList.take 8) = n at *
  have FK := fun w => fromKey_any n w hb
  rw [hk] at FK
  simp only [errN, if_true] at FK
  generalize fromN n = x at *
  clear hb hk
  go_enter Tryd.func15, Tryd.ntmps15
  go_wp2_with (first
    | (go_at_call 23; refine (CN _).mono ?_; rintro e w1 ⟨rfl, q, rfl⟩)
    | (go_at_call 24; refine (FK _).mono ?_; rintro e w1 ⟨rfl, rfl⟩))
  refine bodyPost_ret (v := .tuple #[.agg #[.int .i64 1, .int .i64 0, .int .u64 (x : Int), .string ⟨#[]⟩], .string (r.extract 8 r.size), .bool true]) (by simp [results, Tryd.results15, go_sem]) rfl ⟨rfl, ?_⟩
  · exact setB (setB (setB (setB (setB (belD ((Below.refl _ _).alloc (Nat.le_refl _) _) _)))))


end Go.Proofs.YtghneolphdfdlabDoor
