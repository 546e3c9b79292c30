/- The document's own one: names. -/
import Derived.Test.YthficamlgngaaaaGreatDoorXrS
namespace Go.Proofs.YthficamlgngaaaaGreatDoor
open Go Go.RowKit
attribute [local irreducible] srcB

/-- The token at a place, or what is wrong. -/
def oneV (s : Bs) (p : Nat) : Value × Int := match tokS (s.drop p) with
  | .ok k t r => (tokV k t p (s.length - r.length), 0)
  | .bad e => (tokV 0 [] 0 0, e)
theorem pun_not {x : UInt8} (h : punL.contains x = true) : letL.contains x = false ∧ digL.contains x = false ∧ x ≠ 45 ∧ x ≠ 34 ∧ x ≠ 46 := by
  have : x ∈ punL := List.contains_iff_mem.1 h
  simp [punL] at this
  rcases this with rfl | rfl | rfl | rfl | rfl | rfl | rfl | rfl | rfl | rfl | rfl | rfl | rfl <;> decide
theorem ix_of (s : Bs) : ∀ (q : Nat) (hh : q < (ByteArray.mk s.toArray).size), (((ByteArray.mk s.toArray)[q]'hh).toNat : Int) = bt s q := fun q hh => by
  unfold bt
  have e : (ByteArray.mk s.toArray)[q]'hh = s.getD q 0 := by
    show s.toArray[q]'hh = _
    have : q < s.length := hh
    simp [List.getD, this]
  rw [e]

set_option maxRecDepth 100000 in
set_option maxHeartbeats 1000000 in
theorem one_pun (s : Bs) (p : Nat) (x : UInt8) (r : Bs) (hl : s.drop p = x :: r) (hs : s.length ≤ 16384) (hx : punL.contains x = true) (w : World) :
    Calls Tryz.prog 39 #[.string ⟨s.toArray⟩, .int .i64 (p : Int)] w fun e w' => e = .returned (.tuple #[tokV 0 [x] p (p + 1), .int .i64 0]) ∧ Below w.heap.size w w' := by
  have hb := bt_drop s p x r hl
  have hlen := congrArg List.length hl
  rw [List.length_drop, List.length_cons] at hlen
  have hp : p < s.length := by omega
  have hpI : (p : Int) < (s.length : Int) := by omega
  have f1 : (p : Int) + 1 ≤ (s.length : Int) := by omega
  obtain ⟨g1, g2, g3, g4, g5⟩ := pun_not hx
  have hD : (ByteArray.mk s.toArray).size = s.length := rfl
  have ix := ix_of s p
  have hext : (ByteArray.mk s.toArray).extract p (p + 1) = ⟨#[x]⟩ := by
    rw [ext_mk, hl]
    rfl
  have Lt := fun w : World => xletter_any x w
  have Dg := fun w : World => xdigit_any x w
  rw [g1] at Lt
  rw [g2] at Dg
  have BB : ∀ w : World, Calls Tryz.prog 63 #[.string ⟨s.toArray⟩, .int .i64 (p : Int), .string ⟨#[46, 46, 46]⟩] w fun e w' => e = .returned (.bool false) ∧ w = w' := fun w => by
    have := begins_any s p (by omega) hs [46, 46, 46] (by decide) w
    have hz : List.isPrefixOf [46, 46, 46] (s.drop p) = false := by
      rw [hl, Bool.eq_false_iff]
      intro e
      obtain ⟨m, hm⟩ := List.isPrefixOf_iff_prefix.1 e
      simp at hm
      exact g5 hm.1.symm
    rw [hz] at this
    exact this.mono fun _ _ h => ⟨h.1, h.2.symm⟩
  rw [hb] at ix
  have c45 : ((x.toNat : Int) == 45) = false := by
    have : x.toNat ≠ 45 := fun e => g3 (UInt8.toNat_inj.1 e)
    simp; omega
  have c34 : ((x.toNat : Int) == 34) = false := by
    have : x.toNat ≠ 34 := fun e => g4 (UInt8.toNat_inj.1 e)
    simp; omega
  have hpun : x = 33 ∨ x = 36 ∨ x = 38 ∨ x = 40 ∨ x = 41 ∨ x = 58 ∨ x = 61 ∨ x = 64 ∨ x = 91 ∨ x = 93 ∨ x = 123 ∨ x = 124 ∨ x = 125 := by
    have : x ∈ punL := List.contains_iff_mem.1 hx
    simpa [punL] using this
  clear hb hlen hl g1 g2 g3 g4 g5 hx
  generalize (ByteArray.mk s.toArray) = D at *
  rcases hpun with rfl | rfl | rfl | rfl | rfl | rfl | rfl | rfl | rfl | rfl | rfl | rfl | rfl
  all_goals
    go_enter Tryz.func39, Tryz.ntmps39
    go_wp2_with (first
      | (go_at_call 63; (with_reducible refine (BB _).mono ?_); rintro e w0 ⟨rfl, rfl⟩)
      | (go_at_call 67; refine (Dg _).mono ?_; rintro e w0 ⟨rfl, hw⟩; subst hw)
      | (go_at_call 65; refine (Lt _).mono ?_; rintro e w0 ⟨rfl, hw⟩; subst hw)
      | fail)
    exact bodyPost_ret (by simp [results, Tryz.results39, go_sem]) rfl ⟨rfl, ((Below.refl _ _).alloc (Nat.le_refl _) _).alloc (by simp) _⟩

set_option maxRecDepth 100000 in
set_option maxHeartbeats 1000000 in
theorem one_dots (s : Bs) (p : Nat) (hs : s.length ≤ 16384) (hd : List.isPrefixOf [46, 46, 46] (s.drop p) = true) (w : World) :
    Calls Tryz.prog 39 #[.string ⟨s.toArray⟩, .int .i64 (p : Int)] w fun e w' => e = .returned (.tuple #[tokV 0 [46, 46, 46] p (p + 3), .int .i64 0]) ∧ Below w.heap.size w w' := by
  obtain ⟨m, hm⟩ := List.isPrefixOf_iff_prefix.1 hd
  have hl : s.drop p = 46 :: 46 :: 46 :: m := hm.symm
  have hb := bt_drop s p 46 _ hl
  have h3 := (pre_pos hd).resolve_right (by simp)
  simp only [List.length_cons, List.length_nil] at h3
  have hpI : (p : Int) < (s.length : Int) := by omega
  have f1 : (p : Int) + 3 ≤ (s.length : Int) := by omega
  have hD : (ByteArray.mk s.toArray).size = s.length := rfl
  have ix := ix_of s p
  have hext : (ByteArray.mk s.toArray).extract p (p + 3) = ⟨#[46, 46, 46]⟩ := by
    rw [ext_mk, hl]
    rfl
  have Lt := fun w : World => xletter_any 46 w
  have Dg := fun w : World => xdigit_any 46 w
  have BB : ∀ w : World, Calls Tryz.prog 63 #[.string ⟨s.toArray⟩, .int .i64 (p : Int), .string ⟨#[46, 46, 46]⟩] w fun e w' => e = .returned (.bool true) ∧ w = w' := fun w => by
    have := begins_any s p (by omega) hs [46, 46, 46] (by decide) w
    rw [hd] at this
    exact this.mono fun _ _ h => ⟨h.1, h.2.symm⟩
  rw [hb] at ix
  rw [show letL.contains 46 = false from rfl] at Lt
  rw [show digL.contains 46 = false from rfl] at Dg
  clear hb hl hm hd h3
  generalize (ByteArray.mk s.toArray) = D at *
  go_enter Tryz.func39, Tryz.ntmps39
  go_wp2_with (first
    | (go_at_call 63; (with_reducible refine (BB _).mono ?_); rintro e w0 ⟨rfl, rfl⟩)
    | (go_at_call 67; refine (Dg _).mono ?_; rintro e w0 ⟨rfl, hw⟩; subst hw)
    | (go_at_call 65; refine (Lt _).mono ?_; rintro e w0 ⟨rfl, hw⟩; subst hw)
    | fail)
  exact bodyPost_ret (by simp [results, Tryz.results39, go_sem]) rfl ⟨rfl, ((Below.refl _ _).alloc (Nat.le_refl _) _).alloc (by simp) _⟩

set_option maxRecDepth 100000 in
set_option maxHeartbeats 1000000 in
theorem one_bad (s : Bs) (p : Nat) (x : UInt8) (r : Bs) (hl : s.drop p = x :: r) (hs : s.length ≤ 16384) (g0 : punL.contains x = false) (g1 : letL.contains x = false) (g2 : digL.contains x = false) (g3 : x ≠ 45) (g4 : x ≠ 34) (hd : List.isPrefixOf [46, 46, 46] (s.drop p) = false) (w : World) :
    Calls Tryz.prog 39 #[.string ⟨s.toArray⟩, .int .i64 (p : Int)] w fun e w' => e = .returned (.tuple #[tokV 0 [] 0 0, .int .i64 50]) ∧ Below w.heap.size w w' := by
  have hb := bt_drop s p x r hl
  have hlen := congrArg List.length hl
  rw [List.length_drop, List.length_cons] at hlen
  have hp : p < s.length := by omega
  have hpI : (p : Int) < (s.length : Int) := by omega
  have hD : (ByteArray.mk s.toArray).size = s.length := rfl
  have ix := ix_of s p
  have Lt := fun w : World => xletter_any x w
  have Dg := fun w : World => xdigit_any x w
  rw [g1] at Lt
  rw [g2] at Dg
  have BB : ∀ w : World, Calls Tryz.prog 63 #[.string ⟨s.toArray⟩, .int .i64 (p : Int), .string ⟨#[46, 46, 46]⟩] w fun e w' => e = .returned (.bool false) ∧ w = w' := fun w => by
    have := begins_any s p (by omega) hs [46, 46, 46] (by decide) w
    rw [hd] at this
    exact this.mono fun _ _ h => ⟨h.1, h.2.symm⟩
  rw [hb] at ix
  have hne : ∀ v : UInt8, x ≠ v → ((x.toNat : Int) == (v.toNat : Int)) = false := fun v hv => by
    have : x.toNat ≠ v.toNat := fun e => hv (UInt8.toNat_inj.1 e)
    simp; omega
  have hpn : ∀ v : UInt8, punL.contains v = true → x ≠ v := fun v hv e => by rw [e, hv] at g0; cases g0
  have c45 := hne 45 g3
  have c34 := hne 34 g4
  have q1 := hne 33 (hpn 33 rfl)
  have q2 := hne 36 (hpn 36 rfl)
  have q3 := hne 38 (hpn 38 rfl)
  have q4 := hne 40 (hpn 40 rfl)
  have q5 := hne 41 (hpn 41 rfl)
  have q6 := hne 58 (hpn 58 rfl)
  have q7 := hne 61 (hpn 61 rfl)
  have q8 := hne 64 (hpn 64 rfl)
  have q9 := hne 91 (hpn 91 rfl)
  have q10 := hne 93 (hpn 93 rfl)
  have q11 := hne 123 (hpn 123 rfl)
  have q12 := hne 124 (hpn 124 rfl)
  have q13 := hne 125 (hpn 125 rfl)
  clear hb hlen hl g1 g2 g3 g4 hne hpn hd g0
  generalize (ByteArray.mk s.toArray) = D at *
  generalize (x.toNat : Int) = c at *
  simp only [show (((45 : UInt8).toNat : Nat) : Int) = 45 from rfl, show (((34 : UInt8).toNat : Nat) : Int) = 34 from rfl, show (((33 : UInt8).toNat : Nat) : Int) = 33 from rfl, show (((36 : UInt8).toNat : Nat) : Int) = 36 from rfl, show (((38 : UInt8).toNat : Nat) : Int) = 38 from rfl, show (((40 : UInt8).toNat : Nat) : Int) = 40 from rfl, show (((41 : UInt8).toNat : Nat) : Int) = 41 from rfl, show (((58 : UInt8).toNat : Nat) : Int) = 58 from rfl, show (((61 : UInt8).toNat : Nat) : Int) = 61 from rfl, show (((64 : UInt8).toNat : Nat) : Int) = 64 from rfl, show (((91 : UInt8).toNat : Nat) : Int) = 91 from rfl, show (((93 : UInt8).toNat : Nat) : Int) = 93 from rfl, show (((123 : UInt8).toNat : Nat) : Int) = 123 from rfl, show (((124 : UInt8).toNat : Nat) : Int) = 124 from rfl, show (((125 : UInt8).toNat : Nat) : Int) = 125 from rfl] at c45 c34 q1 q2 q3 q4 q5 q6 q7 q8 q9 q10 q11 q12 q13
  go_enter Tryz.func39, Tryz.ntmps39
  go_wp2_with (first
    | (go_at_call 63; (with_reducible refine (BB _).mono ?_); rintro e w0 ⟨rfl, rfl⟩)
    | (go_at_call 67; (with_reducible refine (Dg _).mono ?_); rintro e w0 ⟨rfl, hw⟩; subst hw)
    | (go_at_call 65; (with_reducible refine (Lt _).mono ?_); rintro e w0 ⟨rfl, hw⟩; subst hw)
    | fail)
  exact bodyPost_ret (by simp [results, Tryz.results39, go_sem]) rfl ⟨rfl, ((Below.refl _ _).alloc (Nat.le_refl _) _).alloc (by simp) _⟩

set_option maxRecDepth 100000 in
set_option maxHeartbeats 1000000 in
theorem one_num (s : Bs) (p : Nat) (x : UInt8) (r : Bs) (hl : s.drop p = x :: r) (hs : s.length ≤ 16384) (hx : x = 45 ∨ digL.contains x = true) (w : World) :
    Calls Tryz.prog 39 #[.string ⟨s.toArray⟩, .int .i64 (p : Int)] w fun e w' => e = .returned (.tuple #[(match numS (s.drop p) with | some q => (tokV q.1 (ahead (s.drop p) q.2) p (s.length - q.2.length), Value.int .i64 0) | none => (tokV 0 [] 0 0, Value.int .i64 51)).1, (match numS (s.drop p) with | some q => (tokV q.1 (ahead (s.drop p) q.2) p (s.length - q.2.length), Value.int .i64 0) | none => (tokV 0 [] 0 0, Value.int .i64 51)).2]) ∧ Below w.heap.size w w' := by
  have hb := bt_drop s p x r hl
  have hlen := congrArg List.length hl
  rw [List.length_drop, List.length_cons] at hlen
  have hp : p < s.length := by omega
  have hpI : (p : Int) < (s.length : Int) := by omega
  have hD : (ByteArray.mk s.toArray).size = s.length := rfl
  have ix := ix_of s p
  have g1 : letL.contains x = false := by
    rcases hx with rfl | hx
    · rfl
    · rw [let_is]
      rw [dig_is] at hx
      simp at hx ⊢
      omega
  have Lt := fun w : World => xletter_any x w
  have Dg := fun w : World => xdigit_any x w
  rw [g1] at Lt
  have N := fun w => xnumber_any s p hp hs w
  rw [hb] at ix
  have hx2 : ((x.toNat : Int) == 45) = true ∨ (((x.toNat : Int) == 45) = false ∧ digL.contains x = true) := by
    rcases hx with rfl | hx
    · left; rfl
    · right
      refine ⟨?_, hx⟩
      rw [dig_is] at hx
      simp at hx ⊢
      omega
  cases hn : numS (s.drop p) with
  | none =>
    rw [hn] at N
    clear hb hl hx hn g1
    generalize (ByteArray.mk s.toArray) = D at *
    generalize digL.contains x = dB at *
    generalize (x.toNat : Int) = c at *
    rcases hx2 with h45 | ⟨h45, hd⟩
    all_goals
      try subst hd
      go_enter Tryz.func39, Tryz.ntmps39
      go_wp2_with (first
        | (go_at_call 68; (with_reducible refine (N _).mono ?_); rintro e w0 ⟨⟨a, b, rfl⟩, hw⟩; subst hw)
        | (go_at_call 67; (with_reducible refine (Dg _).mono ?_); rintro e w0 ⟨rfl, hw⟩; subst hw)
        | (go_at_call 65; (with_reducible refine (Lt _).mono ?_); rintro e w0 ⟨rfl, hw⟩; subst hw)
        | fail)
      exact bodyPost_ret (by simp [results, Tryz.results39, go_sem]) rfl ⟨rfl, ((Below.refl _ _).alloc (Nat.le_refl _) _).alloc (by simp) _⟩
  | some q =>
    rw [hn] at N
    obtain ⟨k, m⟩ := q
    obtain ⟨hsuf, hlt⟩ := numS_facts hn
    have hsuf2 : m <:+ s := hsuf.trans (List.drop_suffix _ _)
    have hml : m.length < s.length - p := by have := hlt; rw [List.length_drop] at this; exact this
    have hE1 : (p : Int) ≤ ((s.length - m.length : Nat) : Int) := by omega
    have hE2 : ((s.length - m.length : Nat) : Int) ≤ (s.length : Int) := by omega
    have hext : (ByteArray.mk s.toArray).extract p (s.length - m.length) = ⟨(ahead (s.drop p) m).toArray⟩ := by
      have := cut_ahead (List.drop_suffix p s) hsuf
      rw [List.length_drop, show s.length - (s.length - p) = p by omega] at this
      exact this
    clear hb hl hx hn g1 hsuf hsuf2 hlt
    simp only
    generalize ahead (s.drop p) m = TX at *
    simp only at N
    generalize s.length - m.length = E at *
    generalize (ByteArray.mk s.toArray) = D at *
    generalize digL.contains x = dB at *
    generalize (x.toNat : Int) = c at *
    rcases hx2 with h45 | ⟨h45, hd⟩
    all_goals
      try subst hd
      go_enter Tryz.func39, Tryz.ntmps39
      go_wp2_with (first
        | (go_at_call 68; (with_reducible refine (N _).mono ?_); rintro e w0 ⟨rfl, hw⟩; subst hw)
        | (go_at_call 67; (with_reducible refine (Dg _).mono ?_); rintro e w0 ⟨rfl, hw⟩; subst hw)
        | (go_at_call 65; (with_reducible refine (Lt _).mono ?_); rintro e w0 ⟨rfl, hw⟩; subst hw)
        | fail)
      exact bodyPost_ret (by simp [results, Tryz.results39, go_sem]) rfl ⟨rfl, ((Below.refl _ _).alloc (Nat.le_refl _) _).alloc (by simp) _⟩
end Go.Proofs.YthficamlgngaaaaGreatDoor
namespace Go.Proofs.YthficamlgngaaaaGreatDoor
open Go Go.RowKit
attribute [local irreducible] srcB

def nmL : Bs := letL ++ digL
def nmN (l : Bs) : Nat := (l.takeWhile fun c => nmL.contains c).length
theorem span_nm (l : Bs) : spanR nmL l = l.drop (nmN l) := by
  induction l with
  | nil => rfl
  | cons c l ih =>
    unfold spanR nmN
    by_cases h : nmL.contains c = true
    · rw [if_pos h, ih, List.takeWhile_cons_of_pos (by exact h)]
      rfl
    · rw [if_neg h, List.takeWhile_cons_of_neg (by exact h)]
      rfl
theorem nm_at (l : Bs) : ∀ k, k ≤ nmN l → nmL.contains (l.getD k 0) = decide (k < nmN l) := by
  induction l with
  | nil =>
    intro k hk
    have : k = 0 := by simpa [nmN] using hk
    subst this
    rfl
  | cons c l ih =>
    intro k hk
    by_cases h : nmL.contains c = true
    · have e : nmN (c :: l) = nmN l + 1 := by
        unfold nmN
        rw [List.takeWhile_cons_of_pos (by exact h)]
        rfl
      rw [e] at hk ⊢
      cases k with
      | zero =>
        show nmL.contains c = _
        rw [h]
        simp
      | succ k =>
        show nmL.contains (l.getD k 0) = _
        rw [ih k (by omega)]
        simp
    · have e : nmN (c :: l) = 0 := by
        unfold nmN
        rw [List.takeWhile_cons_of_neg (by exact h)]
        rfl
      rw [e] at hk ⊢
      obtain rfl : k = 0 := by omega
      show nmL.contains c = _
      simpa using h
theorem nm_le (l : Bs) : nmN l ≤ l.length := (List.takeWhile_sublist _).length_le
theorem nm_or (x : UInt8) : nmL.contains x = (letL.contains x || digL.contains x) := by
  rw [Bool.eq_iff_iff, Bool.or_eq_true, List.contains_iff_mem, List.contains_iff_mem, List.contains_iff_mem]
  exact List.mem_append
/-- The End of the token that is being read. -/
def eOf (B : Nat) (w : World) : Int := match w.cell? ⟨B, 3, none⟩ with
  | some (.int _ z) => z
  | _ => 0
theorem eOf_new (w : World) (A : Obj) (k p e : Int) (t : ByteArray) : eOf (w.heap.size + 1) ((w.alloc A).alloc (.cells #[.int .i64 k, .string t, .int .i64 p, .int .i64 e] 40)) = e := by
  have h := cell_new (w.alloc A) #[.int .i64 k, .string t, .int .i64 p, .int .i64 e] 40 3
  rw [Addr.add_lit, Nat.zero_add, World.size_alloc] at h
  unfold eOf
  rw [h]
  rfl
abbrev tkO (k : Int) (t : ByteArray) (p e : Int) : Obj := .cells #[.int .i64 k, .string t, .int .i64 p, .int .i64 e] 40

set_option maxRecDepth 100000 in
set_option maxHeartbeats 2000000 in
theorem one_name (s : Bs) (p : Nat) (x : UInt8) (r : Bs) (hl : s.drop p = x :: r) (hs : s.length ≤ 16384) (hx : letL.contains x = true) (w : World) :
    Calls Tryz.prog 39 #[.string ⟨s.toArray⟩, .int .i64 (p : Int)] w fun e w' => e = .returned (.tuple #[tokV 1 ((s.drop p).take (1 + nmN r)) p (p + 1 + nmN r), .int .i64 0]) ∧ Below w.heap.size w w' := by
  have hb := bt_drop s p x r hl
  have hlen := congrArg List.length hl
  rw [List.length_drop, List.length_cons] at hlen
  have hr : s.drop (p + 1) = r := by
    have := congrArg (List.drop 1) hl
    rw [List.drop_drop] at this
    exact this
  have hp : p < s.length := by omega
  have hpI : (p : Int) < (s.length : Int) := by omega
  have hD : (ByteArray.mk s.toArray).size = s.length := rfl
  have ix := ix_of s p
  rw [hb] at ix
  have Lt := fun w : World => xletter_any x w
  rw [hx] at Lt
  have hnat := nm_at r
  have hnle := nm_le r
  have hext := ext_mk s p (1 + nmN r)
  rw [show p + (1 + nmN r) = p + 1 + nmN r by omega] at hext
  have hk : ∀ k, k ≤ nmN r → (letL.contains (s.getD (p + 1 + k) 0) || digL.contains (s.getD (p + 1 + k) 0)) = decide (k < nmN r) := fun k hk => by
    rw [← nm_or, ← hnat k hk, ← hr, drop_get]
  have A := fun k w => xat_any s (by omega) k w
  have hE1 : (p : Int) ≤ ((p + 1 + nmN r : Nat) : Int) := by omega
  have hE2 : ((p + 1 + nmN r : Nat) : Int) ≤ (s.length : Int) := by omega
  clear hb hl hr hnat hx
  generalize nmN r = M at *
  generalize (s.drop p).take (1 + M) = TX at *
  generalize (ByteArray.mk s.toArray) = D at *
  generalize (x.toNat : Int) = c at *
  go_enter Tryz.func39, Tryz.ntmps39
  go_wp2_with (first
    | (go_at_call 65; (with_reducible refine (Lt _).mono ?_); rintro e w0 ⟨rfl, hw⟩; subst hw)
    | fail)
  go_loopw [] (fun wr => ∃ k : Nat, k ≤ M ∧ wr = (w.alloc (tkO 0 ⟨#[]⟩ 0 0)).alloc (tkO 1 ⟨#[]⟩ (p : Int) ((p + 1 + k : Nat) : Int))) (fun wr => (p + 2 + M) - (eOf (w.heap.size + 1) wr).toNat)
  case atStart => exact ⟨0, Nat.zero_le _, rfl⟩
  case round =>
    obtain ⟨k, hkM, rfl⟩ := hrel
    have A1 := A (p + 1 + k)
    have hor := hk k hkM
    have L1 := fun w : World => xletter_any (s.getD (p + 1 + k) 0) w
    have D1 := fun w : World => xdigit_any (s.getD (p + 1 + k) 0) w
    have hkS : p + 1 + k ≤ s.length := by omega
    clear A hk
    generalize ((s.getD (p + 1 + k) 0).toNat : Int) = d at *
    generalize letL.contains (s.getD (p + 1 + k) 0) = lB at *
    generalize digL.contains (s.getD (p + 1 + k) 0) = dB at *
    by_cases hlt : k < M
    · rw [decide_eq_true hlt] at hor
      have hnx : Hid (((p + 1 + k : Nat) : Int) + 1 = ((p + 1 + (k + 1) : Nat) : Int)) := by show _ = _; omega
      have hpk : ((p + 1 + k : Nat) : Int) ≤ 20000 := by omega
      generalize hJ : p + 1 + k = J at *
      have HJ : Hid (p + 1 + k = J) := hJ
      clear hJ
      cases lB
      · cases dB
        · cases hor
        · go_wp2_with (first
            | (go_at_call 67; (with_reducible refine (D1 _).mono ?_); rintro e w0 ⟨rfl, hw⟩; subst hw)
            | (go_at_call 65; (with_reducible refine (L1 _).mono ?_); rintro e w0 ⟨rfl, hw⟩; subst hw)
            | (go_at_call 66; (with_reducible refine (A1 _).mono ?_); rintro e w1 ⟨rfl, rfl⟩)
            | fail)
          refine ⟨⟨k + 1, by omega, by rw [hnx.out]⟩, ?_⟩
          have hj := HJ.out
          rw [eOf_new, eOf_new]
          omega
      · go_wp2_with (first
          | (go_at_call 65; (with_reducible refine (L1 _).mono ?_); rintro e w0 ⟨rfl, hw⟩; subst hw)
          | (go_at_call 66; (with_reducible refine (A1 _).mono ?_); rintro e w1 ⟨rfl, rfl⟩)
          | fail)
        refine ⟨⟨k + 1, by omega, by rw [hnx.out]⟩, ?_⟩
        have hj := HJ.out
        rw [eOf_new, eOf_new]
        omega
    · rw [decide_eq_false hlt] at hor
      obtain rfl : k = M := by omega
      cases lB
      · cases dB
        · generalize hJ : p + 1 + k = J at *
          have HJ : Hid (p + 1 + k = J) := hJ
          clear hJ
          go_wp2_with (first
            | (go_at_call 67; (with_reducible refine (D1 _).mono ?_); rintro e w0 ⟨rfl, hw⟩; subst hw)
            | (go_at_call 65; (with_reducible refine (L1 _).mono ?_); rintro e w0 ⟨rfl, hw⟩; subst hw)
            | (go_at_call 66; (with_reducible refine (A1 _).mono ?_); rintro e w1 ⟨rfl, rfl⟩)
            | fail)
          exact bodyPost_ret (by simp [results, Tryz.results39, go_sem]; have := HJ.out; omega) rfl ⟨rfl, ((Below.refl _ _).alloc (Nat.le_refl _) _).alloc (by simp) _⟩
        · cases hor
      · cases hor
end Go.Proofs.YthficamlgngaaaaGreatDoor
