/- What is ignored. -/
import Derived.Test.YthficamlgngaaaaGreatDoorLxN
import Derived.Deep.RegionWith
namespace Go.Proofs.YthficamlgngaaaaGreatDoor
open Go Go.RowKit
section
variable {R : Nat} {s : Bs} {b : Nat}
/-- A token as a value. -/
abbrev tokV (k : Int) (t : Bs) (b e : Nat) : Value := .agg #[.int .i64 k, .string ⟨t.toArray⟩, .int .i64 (b : Int), .int .i64 (e : Int)]
theorem cut_ahead {s lb l : Bs} (hlb : lb <:+ s) (hl : l <:+ lb) : (ByteArray.mk s.toArray).extract (s.length - lb.length) (s.length - l.length) = ⟨(ahead lb l).toArray⟩ := by
  obtain ⟨p, rfl⟩ := hlb
  obtain ⟨q, rfl⟩ := hl
  unfold ahead
  apply ByteArray.ext; apply Array.toList_inj.1
  simp
  have e : p.length + (q.length + l.length) - l.length - p.length = q.length := by omega
  rw [e]
  simp

set_option maxHeartbeats 2000000 in
theorem written_any (k : Int) (lb l : Bs) (w : World) (h : Rd w R s (s.length - lb.length) l) (hlb : lb <:+ s) (hl : l <:+ lb) :
    Calls Tryz.prog 83 #[.pointer (some ⟨R, 0, none⟩), .int .i64 k] w fun e w' => e = .returned (tokV k (ahead lb l) (s.length - lb.length) (s.length - l.length)) ∧ Rd w' R s (s.length - lb.length) l ∧ Kp (Own1 R) w w' := by
  have c0 := fun o => (h.alloc o).c0
  have c1 := fun o => (h.alloc o).c1
  have c2 := fun o => (h.alloc o).c2
  have hle := hl.length_le
  have hle2 := hlb.length_le
  have hx := cut_ahead hlb hl
  obtain ⟨h1, _, _⟩ := suf_facts h.suf
  have HH : Hid (Rd w R s (s.length - lb.length) l) := h
  have HK : Hid (R < w.heap.size) := h.lt
  have g1 : ((s.length - lb.length : Nat) : Int) ≤ ((s.length - l.length : Nat) : Int) := by omega
  have g2 : ((s.length - l.length : Nat) : Int) ≤ (s.length : Int) := by omega
  have g3 : (0 : Int) ≤ ((s.length - lb.length : Nat) : Int) := by omega
  clear h
  generalize ahead lb l = T at *
  generalize (ByteArray.mk s.toArray) = D at *
  generalize hA : s.length - l.length = A at *
  generalize hB : s.length - lb.length = B at *
  clear hle hle2 hlb hl
  go_enter Tryz.func83, Tryz.ntmps83
  go_wp2
  go_region
  all_goals
    go_wp2
    exact bodyPost_ret (v := tokV k T B A) (by simp [results, Tryz.results83, go_sem]) rfl ⟨rfl, ((HH.out.alloc _).drewN 1), ((Kp.refl _ _).alloc _).drew⟩

theorem walkF_source (S : ByteArray) : ∀ (n p : Nat), walkF S (sourceStep S) n p (0, 0) = (0, 0) ∨ ∃ q : Nat, q < S.size ∧ walkF S (sourceStep S) n p (0, 0) = ((q : Int), 10)
  | 0, _ => Or.inl rfl
  | n + 1, p => by
    unfold walkF
    by_cases hp : p < S.size
    · rw [if_pos hp]
      by_cases hc : sourceB (stC S p) = true
      · have e : sourceStep S (0, 0) p = ((0, 0), true) := if_pos hc
        rw [e]
        exact walkF_source S n _
      · have e : sourceStep S (0, 0) p = (((p : Int), 10), false) := if_neg hc
        rw [e]
        exact Or.inr ⟨p, hp, rfl⟩
    · rw [if_neg hp]; exact Or.inl rfl
theorem sourceS_cases (x : Bs) : (srcB x = none ∧ (sourceS ⟨x.toArray⟩).2 = 0) ∨ ∃ k : Nat, k < x.length ∧ srcB x = some k ∧ sourceS ⟨x.toArray⟩ = ((k : Int), 10) := by
  unfold srcB
  rcases walkF_source ⟨x.toArray⟩ ((ByteArray.mk x.toArray).size - 0) 0 with h | ⟨q, hq, h⟩
  · left
    have h' : sourceS ⟨x.toArray⟩ = (0, 0) := h
    rw [h']
    exact ⟨rfl, rfl⟩
  · right
    have h' : sourceS ⟨x.toArray⟩ = ((q : Int), 10) := h
    rw [h']
    exact ⟨q, hq, rfl, rfl⟩

theorem spanN_head (S : Bs) (c : UInt8) (l : Bs) (h : S.contains c = false) : spanN S (c :: l) = spanN S l := by
  conv => lhs; unfold spanN
  rw [h]
  rfl
theorem spanN_stop (S : Bs) (c : UInt8) (l : Bs) (h : S.contains c = true) : spanN S (c :: l) = c :: l := by
  unfold spanN
  rw [if_pos h]
/-- What a comment comes to. -/
def ComP (R : Nat) (s : Bs) (b : Nat) (w : World) (l : Bs) (r : Option (Bs ⊕ Nat)) (e : Ending) (w' : World) : Prop := (match r with
    | none => e = .returned (.bool false) ∧ Rd w' R s b l
    | some (.inl m) => e = .returned (.bool true) ∧ Rd w' R s b m
    | some (.inr k) => e = Dies (s.length - l.length + k) 50) ∧ Kp (Own1 R) w w'

end
end Go.Proofs.YthficamlgngaaaaGreatDoor
namespace Go.Proofs.YthficamlgngaaaaGreatDoor
open Go Go.RowKit
section
variable {R : Nat} {s : Bs} {b : Nat}

set_option maxHeartbeats 4000000 in
theorem com_walk (l : Bs) (w : World) (h : Rd w R s b l) (hp : List.isPrefixOf [35] l = true) (x : Bs) (hx : x = ahead l (spanN endL (l.drop 1))) (A1 A2 : Int) (hS : sourceS ⟨x.toArray⟩ = (A1, A2))
    (P : Ending → World → Prop) (hok : A2 = 0 → ∀ w', Rd w' R s b (spanN endL (l.drop 1)) → Kp (Own1 R) w w' → P (.returned (.bool true)) w')
    (hno : A2 ≠ 0 → ∀ w', Kp (Own1 R) w w' → P (.panicked [{ v := .iface 78 (.agg #[.int .i64 (((s.length - l.length : Nat) : Int) + A1), .int .i64 50]), recovered := false }]) w') (hA : 0 ≤ A1) (hA' : A1 ≤ 16384) :
    Calls Tryz.prog 80 #[.pointer (some ⟨R, 0, none⟩)] w P := by
  have T := take_yes [35] l hp w h
  have hle := h.le
  have c2 := h.c2
  have hsm := h.small
  have hrest : spanN endL (l.drop 1) <:+ l := (spanN_suf _ _).trans (drop_suf _ _)
  have hcut := cut_ahead h.suf hrest
  rw [← hx] at hcut
  have hxl : x.length ≤ 16384 := by rw [hx]; unfold ahead; rw [List.length_take]; omega
  have S := fun w => source_any ⟨x.toArray⟩ w (by rw [size_of]; omega)
  rw [hS] at S
  have HS : Hid (∀ w, Calls Tryz.prog 107 #[.string ⟨x.toArray⟩] w fun e w' => e = .returned (.tuple #[.int .i64 A1, .int .i64 A2]) ∧ Below w.heap.size w w') := S
  have HC : Hid ((ByteArray.mk s.toArray).extract (s.length - l.length) (s.length - (spanN endL (l.drop 1)).length) = ⟨x.toArray⟩) := hcut
  have hsz := size_of s
  have hB1 : ((s.length - l.length : Nat) : Int) ≤ ((s.length - (spanN endL (l.drop 1)).length : Nat) : Int) := by have := hrest.length_le; omega
  have hB2 : ((s.length - (spanN endL (l.drop 1)).length : Nat) : Int) ≤ (s.length : Int) := by omega
  have hB3 : (0 : Int) ≤ ((s.length - l.length : Nat) : Int) := by omega
  have hB4 : ((s.length - l.length : Nat) : Int) ≤ 16384 := by omega
  have HN : Hid (A2 ≠ 0 → ∀ w', Kp (Own1 R) w w' → P (.panicked [{ v := .iface 78 (.agg #[.int .i64 (((s.length - l.length : Nat) : Int) + A1), .int .i64 50]), recovered := false }]) w') := hno
  have HO : Hid (A2 = 0 → ∀ w', Rd w' R s b (spanN endL (l.drop 1)) → Kp (Own1 R) w w' → P (.returned (.bool true)) w') := hok
  have HL : Hid (x = ahead l (spanN endL (l.drop 1))) := hx
  clear h S hS hcut hno hok hx hxl hrest
  go_enter Tryz.func80, Tryz.ntmps80
  go_wp2_with (go_at_call 79; refine T.mono ?_; rintro e w1 ⟨rfl, hr1, hk1⟩)
  go_loopw [20] (fun _ wr => ∃ l', Rd wr R s b l' ∧ spanN endL l' = spanN endL (l.drop 1) ∧ Kp (Own1 R) w wr) (fun _ wr => s.length - (atOf wr R).toNat)
  case atStart => exact ⟨_, hr1, rfl, hk1⟩
  case round =>
    obtain ⟨l', hr, hsp, hk⟩ := hrel
    have HSP : Hid (spanN endL l' = spanN endL (l.drop 1)) := hsp
    clear hsp T hr1 hk1
    have fin : ∀ (w3 : World), Rd w3 R s b (spanN endL (l.drop 1)) → w3.cell? ⟨R, 0, none⟩ = some (.string ⟨s.toArray⟩) ∧ w3.cell? ⟨R, 2, none⟩ = some (.int .i64 ((s.length - (spanN endL (l.drop 1)).length : Nat) : Int)) := fun w3 h3 => ⟨h3.c0, h3.c2⟩
    cases l' with
    | nil =>
      have E := ends_yes wr hr
      have e : spanN endL (l.drop 1) = [] := HSP.out.symm
      rw [e] at HC HO hB1 hB2 fin
      obtain ⟨d0, d2⟩ := fin wr hr
      have hcut := HC.out
      clear fin HC HSP HL
      generalize s.length - l.length = A at *
      generalize s.length - ([] : Bs).length = C at *
      generalize (ByteArray.mk s.toArray) = D at *
      generalize (ByteArray.mk x.toArray) = X at *
      by_cases hz : A2 = 0
      · subst hz
        have HQ : Hid (∀ w', Rd w' R s b _ → Kp (Own1 R) w w' → P (.returned (.bool true)) w') := HO.out rfl
        clear HO
        go_wp2_with (go_at_call 81; refine E.mono ?_; rintro e w1 ⟨rfl, m, rfl⟩)
        go_region_with (go_at_call 107; refine (HS.out _).mono ?_; rintro e w4 ⟨rfl, hb4⟩)
        all_goals
          go_wp2
          exact HQ.out _ ((hr.drewN (m + 1)).below hb4 hr.lt) ((hk.drewN (m + 1)).then_below (hb4.mono hk.size))
      · have hz' : (A2 == 0) = false := by rw [beq_eq_false_iff_ne]; exact hz
        have HZ : Hid (A2 ≠ 0) := hz
        clear hz
        go_wp2_with (go_at_call 81; refine E.mono ?_; rintro e w1 ⟨rfl, m, rfl⟩)
        go_region_with (go_at_call 107; refine (HS.out _).mono ?_; rintro e w4 ⟨rfl, hb4⟩)
        all_goals
          go_wp2
          exact ⟨rfl, HN.out HZ.out _ ((hk.drewN (m + 1)).then_below (hb4.mono hk.size))⟩
    | cons c l' =>
      have E : Calls Tryz.prog 81 #[.pointer (some ⟨R, 0, none⟩)] wr fun e w' => e = .returned (.bool false) ∧ Rd w' R s b (c :: l') ∧ Kp (Own1 R) wr w' := by
        refine (ends_no c l' wr hr).mono ?_
        rintro e w' ⟨rfl, m, rfl⟩
        exact ⟨rfl, hr.drewN m, Kp.n wr m⟩
      by_cases hc : endL.contains c = true
      · have e : c :: l' = spanN endL (l.drop 1) := (spanN_stop endL c l' hc).symm.trans HSP.out
        have E2 := sees_is (R := R) (s := s) (b := b) endL (c :: l') true hc
        rw [e] at E E2 hr
        have hcut := HC.out
        clear HC HSP HL hc e
        generalize spanN endL (l.drop 1) = r at *
        generalize s.length - l.length = A at *
        generalize s.length - r.length = C at *
        generalize (ByteArray.mk s.toArray) = D at *
        generalize (ByteArray.mk x.toArray) = X at *
        by_cases hz : A2 = 0
        · subst hz
          have HQ : Hid (∀ w', Rd w' R s b _ → Kp (Own1 R) w w' → P (.returned (.bool true)) w') := HO.out rfl
          clear HO
          go_wp2_with (first
            | (go_at_call 84; refine (E2 _ hr1).mono ?_; rintro e w2 ⟨rfl, hr2, hk2⟩; obtain ⟨d0, d2⟩ := fin _ hr2)
            | (go_at_call 81; refine E.mono ?_; rintro e w1 ⟨rfl, hr1, hk1⟩)
            | fail)
          go_region_with (go_at_call 107; refine (HS.out _).mono ?_; rintro e w4 ⟨rfl, hb4⟩)
          all_goals
            go_wp2
            exact HQ.out _ ((hr2.drewN 1).below hb4 hr2.lt) (((hk.trans hk1).trans hk2).drew.then_below (hb4.mono ((hk.trans hk1).trans hk2).size))
        · have hz' : (A2 == 0) = false := by rw [beq_eq_false_iff_ne]; exact hz
          have HZ : Hid (A2 ≠ 0) := hz
          clear hz
          go_wp2_with (first
            | (go_at_call 84; refine (E2 _ hr1).mono ?_; rintro e w2 ⟨rfl, hr2, hk2⟩; obtain ⟨d0, d2⟩ := fin _ hr2)
            | (go_at_call 81; refine E.mono ?_; rintro e w1 ⟨rfl, hr1, hk1⟩)
            | fail)
          go_region_with (go_at_call 107; refine (HS.out _).mono ?_; rintro e w4 ⟨rfl, hb4⟩)
          all_goals
            go_wp2
            exact ⟨rfl, HN.out HZ.out _ (((hk.trans hk1).trans hk2).drew.then_below (hb4.mono ((hk.trans hk1).trans hk2).size))⟩
      · have hc' : endL.contains c = false := Bool.eq_false_iff.2 hc
        have E2 := sees_is (R := R) (s := s) (b := b) endL (c :: l') false hc'
        have Y := fun w h => byte_any (R := R) (s := s) (b := b) c l' w h
        have ha := atOf_eq hr
        have hle' := hr.le
        have HE : Hid (spanN endL l' = spanN endL (l.drop 1)) := (spanN_head endL c l' hc').symm.trans HSP.out
        clear hc hc' HC fin HSP HL
        go_wp2_with (first
          | (go_at_call 106; refine (Y _ hr2).mono ?_; rintro e w3 ⟨rfl, hr3, hk3⟩)
          | (go_at_call 84; refine (E2 _ hr1).mono ?_; rintro e w2 ⟨rfl, hr2, hk2⟩)
          | (go_at_call 81; refine E.mono ?_; rintro e w1 ⟨rfl, hr1, hk1⟩)
          | fail)
        refine ⟨⟨_, hr3, HE.out, ((hk.trans hk1).trans hk2).trans hk3⟩, ?_⟩
        rw [atOf_eq hr3, ha]
        simp only [Int.toNat_natCast, List.length_cons] at hle' ⊢
        omega
end
end Go.Proofs.YthficamlgngaaaaGreatDoor
namespace Go.Proofs.YthficamlgngaaaaGreatDoor
open Go Go.RowKit

theorem spanR_lt (S l : Bs) (h : headIn S l = true) : (spanR S l).length < l.length := by
  rw [← spanR_head S l h]
  have := (spanR_suf S (l.drop 1)).length_le
  rw [List.length_drop] at this
  cases l with
  | nil => cases h
  | cons c l => simp only [List.length_cons] at this ⊢; omega
theorem prefix_le {p l : Bs} (h : p.isPrefixOf l = true) : p.length ≤ l.length := (List.isPrefixOf_iff_prefix.1 h).length_le
theorem comS_lt {l m : Bs} (h : comS l = some (.inl m)) : m.length < l.length := by
  unfold comS at h
  by_cases hp : List.isPrefixOf [35] l = true
  · rw [if_pos hp] at h
    have h1 := prefix_le hp
    have h2 := (spanN_suf endL (l.drop 1)).length_le
    rw [List.length_drop] at h2
    simp only [List.length_cons, List.length_nil] at h1
    have e : m = spanN endL (l.drop 1) := by
      cases hs : srcB (ahead l (spanN endL (l.drop 1))) with
      | none => rw [hs] at h; injection h with h; injection h with h; exact h.symm
      | some k => rw [hs] at h; simp at h
    rw [e]; omega
  · rw [if_neg hp] at h; cases h
theorem skipF_fuel : ∀ (n m : Nat) (l : Bs), l.length < n → l.length < m → skipF n l = skipF m l
  | 0, _, _, h, _ => absurd h (Nat.not_lt_zero _)
  | _ + 1, 0, _, _, h => absurd h (Nat.not_lt_zero _)
  | n + 1, m + 1, l, hn, hm => by
    unfold skipF
    by_cases h1 : headIn ignL l = true
    · rw [if_pos h1, if_pos h1]
      have := spanR_lt ignL l h1
      exact skipF_fuel n m _ (by omega) (by omega)
    · rw [if_neg h1, if_neg h1]
      by_cases h2 : List.isPrefixOf [239, 187, 191] l = true
      · rw [if_pos h2, if_pos h2]
        have := prefix_le h2
        simp only [List.length_cons, List.length_nil] at this
        exact skipF_fuel n m _ (by rw [List.length_drop]; omega) (by rw [List.length_drop]; omega)
      · rw [if_neg h2, if_neg h2]
        cases hc : comS l with
        | none => rfl
        | some x =>
          cases x with
          | inl r =>
            have := comS_lt hc
            exact skipF_fuel n m _ (by omega) (by omega)
          | inr k => rfl
theorem skipS_ign {l : Bs} (h : headIn ignL l = true) : skipS l = skipS (spanR ignL l) := by
  have := spanR_lt ignL l h
  show skipF (l.length + 1) l = _
  unfold skipF
  rw [if_pos h]
  exact skipF_fuel _ _ _ (by omega) (by omega)
theorem skipS_mark {l : Bs} (h : headIn ignL l = false) (h2 : List.isPrefixOf [239, 187, 191] l = true) : skipS l = skipS (l.drop 3) := by
  have := prefix_le h2
  simp only [List.length_cons, List.length_nil] at this
  show skipF (l.length + 1) l = _
  unfold skipF
  rw [if_neg (by rw [h]; simp), if_pos h2]
  exact skipF_fuel _ _ _ (by rw [List.length_drop]; omega) (by omega)
theorem skipS_com {l : Bs} (h : headIn ignL l = false) (h2 : List.isPrefixOf [239, 187, 191] l = false) : skipS l = match comS l with
    | none => .inl l
    | some (.inl r) => skipS r
    | some (.inr k) => .inr (l.length - k) := by
  show skipF (l.length + 1) l = _
  unfold skipF
  rw [if_neg (by rw [h]; simp), if_neg (by rw [h2]; simp)]
  cases hc : comS l with
  | none => rfl
  | some x =>
    cases x with
    | inl r =>
      have := comS_lt hc
      exact skipF_fuel _ _ _ (by omega) (by omega)
    | inr k => rfl
section
variable {R : Nat} {s : Bs} {b : Nat}

theorem comment_any (l : Bs) (w : World) (h : Rd w R s b l) : Calls Tryz.prog 80 #[.pointer (some ⟨R, 0, none⟩)] w (ComP R s b w l (comS l)) := by
  by_cases hp : List.isPrefixOf [35] l = true
  · rcases sourceS_cases (ahead l (spanN endL (l.drop 1))) with ⟨h1, h2⟩ | ⟨k, hk, h1, h2⟩
    · rw [show comS l = some (.inl (spanN endL (l.drop 1))) by unfold comS; rw [if_pos hp, h1]]
      rcases walkF_source ⟨(ahead l (spanN endL (l.drop 1))).toArray⟩ ((ByteArray.mk (ahead l (spanN endL (l.drop 1))).toArray).size - 0) 0 with hs | ⟨q, _, hs⟩
      · refine com_walk l w h hp _ rfl 0 0 hs _ (fun _ w' h1 h2 => ⟨⟨rfl, h1⟩, h2⟩) (fun h => absurd rfl h) (by decide) (by decide)
      · have hs' : sourceS ⟨(ahead l (spanN endL (l.drop 1))).toArray⟩ = ((q : Int), 10) := hs
        rw [hs'] at h2
        cases h2
    · rw [show comS l = some (.inr k) by unfold comS; rw [if_pos hp, h1]]
      have hle := h.le
      have hsm := h.small
      have hkl : k ≤ 16384 := by
        unfold ahead at hk
        rw [List.length_take] at hk
        omega
      refine com_walk l w h hp _ rfl (k : Int) 10 h2 _ (fun h => by cases h) (fun _ w' h1 => ⟨?_, h1⟩) (by omega) (by omega)
      show _ = Dies _ _
      unfold Dies
      rw [Int.natCast_add]
  · have hp' : List.isPrefixOf [35] l = false := Bool.eq_false_iff.2 hp
    rw [show comS l = none by unfold comS; rw [if_neg hp]]
    have T := take_no (R := R) (s := s) (b := b) [35] l hp' w h
    have c2 := h.c2
    go_enter Tryz.func80, Tryz.ntmps80
    go_wp2_with (go_at_call 79; refine T.mono ?_; rintro e w1 ⟨rfl, hr1, hk1⟩)
    go_ret
    exact ⟨⟨rfl, hr1⟩, hk1⟩

/-- What 'next' comes to. -/
def NextP (R : Nat) (s : Bs) (w : World) (r : Bs ⊕ Nat) (e : Ending) (w' : World) : Prop := (match r with
    | .inl m => e = .returned (.bool (!m.isEmpty)) ∧ Rd w' R s (s.length - m.length) m
    | .inr k => e = Dies (s.length - k) 50) ∧ Kp (Own1 R) w w'

set_option maxHeartbeats 4000000 in
theorem next_any (l : Bs) (w : World) (h : Rd w R s b l) : Calls Tryz.prog 50 #[.pointer (some ⟨R, 0, none⟩)] w (NextP R s w (skipS l)) := by
  go_enter Tryz.func50, Tryz.ntmps50
  go_wp2
  go_loopw [12] (fun _ wr => ∃ l', Rd wr R s b l' ∧ skipS l' = skipS l ∧ Kp (Own1 R) w wr) (fun _ wr => s.length - (atOf wr R).toNat)
  case atStart => exact ⟨_, h, rfl, Kp.refl _ _⟩
  case round =>
    clear h
    obtain ⟨l', hr, hsp, hk⟩ := hrel
    have ha := atOf_eq hr
    have hle := hr.le
    have HA : Hid (atOf wr R = ((s.length - l'.length : Nat) : Int)) := ha
    clear ha
    by_cases h1 : headIn ignL l' = true
    · have O := row_any ignL l' wr hr
      rw [h1] at O
      have HSP : Hid (skipS (spanR ignL l') = skipS l) := (skipS_ign h1).symm.trans hsp
      have HLT : Hid ((spanR ignL l').length < l'.length) := spanR_lt ignL l' h1
      clear hsp h1 hr
      go_wp2_with (go_at_call 78; refine O.mono ?_; rintro e w1 ⟨rfl, hr1, hk1⟩)
      refine ⟨⟨_, hr1, HSP.out, hk.trans hk1⟩, ?_⟩
      rw [atOf_eq hr1, HA.out]
      have := HLT.out
      simp only [Int.toNat_natCast]
      omega
    · have h1' : headIn ignL l' = false := Bool.eq_false_iff.2 h1
      have O := row_any ignL l' wr hr
      rw [h1', spanR_stop ignL l' h1'] at O
      by_cases h2 : List.isPrefixOf [239, 187, 191] l' = true
      · have T := take_yes (R := R) (s := s) (b := b) [239, 187, 191] l' h2
        have HSP : Hid (skipS (l'.drop 3) = skipS l) := (skipS_mark h1' h2).symm.trans hsp
        have HLT : Hid ((l'.drop 3).length < l'.length) := by
          have := prefix_le h2
          simp only [List.length_cons, List.length_nil] at this
          show (l'.drop 3).length < _
          rw [List.length_drop]; omega
        clear hsp h1 h1' h2
        go_wp2_with (first
          | (go_at_call 79; refine (T _ hr1).mono ?_; rintro e w2 ⟨rfl, hr2, hk2⟩)
          | (go_at_call 78; refine O.mono ?_; rintro e w1 ⟨rfl, hr1, hk1⟩)
          | fail)
        refine ⟨⟨_, hr2, HSP.out, (hk.trans hk1).trans hk2⟩, ?_⟩
        have hr2' : Rd w2 R s b (l'.drop 3) := hr2
        rw [atOf_eq hr2', HA.out]
        have := HLT.out
        simp only [Int.toNat_natCast]
        omega
      · have h2' : List.isPrefixOf [239, 187, 191] l' = false := Bool.eq_false_iff.2 h2
        have T := take_no (R := R) (s := s) (b := b) [239, 187, 191] l' h2'
        have M := fun w h => comment_any (R := R) (s := s) (b := b) l' w h
        have HSP := (skipS_com h1' h2').symm.trans hsp
        clear hsp h1 h1' h2 h2'
        cases hc : comS l' with
        | none =>
          rw [hc] at HSP M
          have HQ : Hid ((.inl l' : Bs ⊕ Nat) = skipS l) := HSP
          clear HSP hc
          have fin : ∀ w3, Rd w3 R s b l' → w3.cell? ⟨R, 2, none⟩ = some (.int .i64 ((s.length - l'.length : Nat) : Int)) ∧ w3.frozen? ⟨R, 1, none⟩ = false ∧ w3.cell? ⟨R, 1, none⟩ = some (.int .i64 (b : Int)) := fun w3 h3 => ⟨h3.c2, h3.free 1, h3.c1⟩
          cases l' with
          | nil =>
            have E := fun w (h : Rd w R s (s.length - ([] : Bs).length) []) => ends_yes w h
            go_wp2_with (first
              | (go_at_call 81; refine (E _ (hr3.begin _ _ rfl)).mono ?_; rintro e w4 ⟨rfl, m, rfl⟩)
              | (go_at_call 80; refine (M _ hr2).mono ?_; rintro e w3 ⟨⟨rfl, hr3⟩, hk3⟩; obtain ⟨d2, f1, d1⟩ := fin _ hr3)
              | (go_at_call 79; refine (T _ hr1).mono ?_; rintro e w2 ⟨rfl, hr2, hk2⟩)
              | (go_at_call 78; refine O.mono ?_; rintro e w1 ⟨rfl, hr1, hk1⟩)
              | fail)
            go_ret
            rw [← HQ.out]
            exact ⟨⟨rfl, (hr3.begin _ _ rfl).drewN _⟩, ((((hk.trans hk1).trans hk2).trans hk3).trans (Kp.own R 1 _)).drewN _⟩
          | cons c l' =>
            have E := fun w (h : Rd w R s (s.length - (c :: l').length) (c :: l')) => ends_no c l' w h
            generalize hn : s.length - (c :: l').length = A at *
            go_wp2_with (first
              | (go_at_call 81; refine (E _ (hr3.begin _ _ rfl)).mono ?_; rintro e w4 ⟨rfl, m, rfl⟩)
              | (go_at_call 80; refine (M _ hr2).mono ?_; rintro e w3 ⟨⟨rfl, hr3⟩, hk3⟩; obtain ⟨d2, f1, d1⟩ := fin _ hr3)
              | (go_at_call 79; refine (T _ hr1).mono ?_; rintro e w2 ⟨rfl, hr2, hk2⟩)
              | (go_at_call 78; refine O.mono ?_; rintro e w1 ⟨rfl, hr1, hk1⟩)
              | fail)
            go_ret
            rw [← HQ.out]
            subst hn
            exact ⟨⟨rfl, (hr3.begin _ _ rfl).drewN _⟩, ((((hk.trans hk1).trans hk2).trans hk3).trans (Kp.own R 1 _)).drewN _⟩
        | some x =>
          rw [hc] at HSP M
          cases x with
          | inl m =>
            have HQ : Hid (skipS m = skipS l) := HSP
            have HLT : Hid (m.length < l'.length) := comS_lt hc
            clear HSP hc
            go_wp2_with (first
              | (go_at_call 80; refine (M _ hr2).mono ?_; rintro e w3 ⟨⟨rfl, hr3⟩, hk3⟩)
              | (go_at_call 79; refine (T _ hr1).mono ?_; rintro e w2 ⟨rfl, hr2, hk2⟩)
              | (go_at_call 78; refine O.mono ?_; rintro e w1 ⟨rfl, hr1, hk1⟩)
              | fail)
            refine ⟨⟨_, hr3, HQ.out, ((hk.trans hk1).trans hk2).trans hk3⟩, ?_⟩
            rw [atOf_eq hr3, HA.out]
            have := HLT.out
            simp only [Int.toNat_natCast]
            omega
          | inr k =>
            have HQ : Hid ((.inr (l'.length - k) : Bs ⊕ Nat) = skipS l) := HSP
            have HK : Hid (s.length - l'.length + k = s.length - (l'.length - k)) := by
              show _ = _
              rcases sourceS_cases (ahead l' (spanN endL (l'.drop 1))) with ⟨h1, _⟩ | ⟨q, hq, h1, _⟩
              · unfold comS at hc
                by_cases hp : List.isPrefixOf [35] l' = true
                · rw [if_pos hp, h1] at hc; simp at hc
                · rw [if_neg hp] at hc; cases hc
              · unfold comS at hc
                by_cases hp : List.isPrefixOf [35] l' = true
                · rw [if_pos hp, h1] at hc
                  simp at hc
                  unfold ahead at hq
                  rw [List.length_take] at hq
                  omega
                · rw [if_neg hp] at hc; cases hc
            clear HSP hc
            go_wp2_with (first
              | (go_at_call 80; refine (M _ hr2).mono ?_; rintro e w3 ⟨rfl, hk3⟩)
              | (go_at_call 79; refine (T _ hr1).mono ?_; rintro e w2 ⟨rfl, hr2, hk2⟩)
              | (go_at_call 78; refine O.mono ?_; rintro e w1 ⟨rfl, hr1, hk1⟩)
              | fail)
            refine ⟨rfl, ?_⟩
            rw [← HQ.out]
            refine ⟨?_, ((hk.trans hk1).trans hk2).trans hk3⟩
            show _ = Dies _ _
            rw [← HK.out]
            unfold Dies
            rw [Int.natCast_add]
end
end Go.Proofs.YthficamlgngaaaaGreatDoor
