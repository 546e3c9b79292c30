/- How a text is quoted, piece by piece. -/
import Derived.Test.YtebojfipdcicaaaGreatDoorLxA3
import Derived.Test.YtebojfipdcicaaaGreatDoorLxP
namespace Go.Proofs.YtebojfipdcicaaaGreatDoor
open Go Go.RowKit

theorem halfQ_lt {l : Bs} {V : Nat} (h : halfQ l = some V) : V < 65536 := by
  match l, h with
  | [], h => cases h
  | [_], h => cases h
  | [_, _], h => cases h
  | c :: d :: e :: r, h =>
    unfold halfQ at h
    dsimp only at h
    by_cases hc : halfC c d e
    · rw [if_pos hc] at h
      have h2 := (halfN_yes hc).2.2
      generalize halfV d e = U at *
      injection h with h
      omega
    · rw [if_neg hc] at h; cases h

set_option maxRecDepth 20000 in
set_option maxHeartbeats 2000000 in
theorem quoted_any (c : UInt8) (r : Bs) (hl : r.length < 1048576) (w : World) (hz : Tz w) : Calls Tryz.prog 31 #[.string ⟨(c :: r).toArray⟩] w fun e w' => e = .returned (.tuple #[.string ⟨(pieceQ c r).1.toArray⟩, .int .i64 ((pieceQ c r).2 : Nat)]) ∧ Below w.heap.size w w' := by
  have H := halfOf_any (c :: r) (by simp; omega) w
  have hzb : ∀ w1, Below w.heap.size w w1 → Tz w1 := fun w1 hb => hz.below hb (Nat.le_refl _)
  unfold pieceQ
  have h1 : (ByteArray.mk (c :: r).toArray).size = r.length + 1 := rfl
  have g0 : ∀ h, (ByteArray.mk (c :: r).toArray)[0]'h = c := fun _ => rfl
  have hx : (ByteArray.mk (c :: r).toArray).extract 0 1 = ⟨#[c]⟩ := by
    apply ByteArray.ext; apply Array.toList_inj.1; simp
  have hcl := c.toNat_lt
  have hc1 : (0 : Int) ≤ (c.toNat : Int) := by omega
  have hc2 : (c.toNat : Int) < 256 := by omega
  have hlt : (1 : Int) ≤ (r.length : Int) + 1 := by omega
  have hlt2 : (0 : Int) < (r.length : Int) + 1 := by omega
  have hlt3 : (r.length : Int) < 1048576 := by omega
  cases hq : halfQ (c :: r) with
  | some V =>
    rw [hq] at H
    have E := fun w hz => escaped_any V (halfQ_lt hq) w hz
    dsimp only at H ⊢
    generalize (ByteArray.mk (c :: r).toArray) = L at *
    generalize (escQ V).toArray = T at *
    clear hq
    go_enter Tryz.func31, Tryz.ntmps31
    go_wp2_with (first
      | (go_at_call 55; refine (E _ (hzb _ hb1)).mono ?_; rintro e w2 ⟨rfl, hb2⟩)
      | (go_at_call 54; refine H.mono ?_; rintro e w1 ⟨rfl, hb1⟩)
      | fail)
    go_ret2
    exact ⟨rfl, hb1.trans (hb2.mono hb1.size)⟩
  | none =>
    rw [hq] at H
    dsimp only at H ⊢
    by_cases hA : c = 34 ∨ c = 92
    · rw [if_pos hA]
      have ht : (ByteArray.mk [92, c].toArray) = ⟨#[92]⟩ ++ ⟨#[c]⟩ := rfl
      have HT : Hid ((ByteArray.mk [92, c].toArray) = ⟨#[92]⟩ ++ ⟨#[c]⟩) := ht
      clear ht
      generalize hL : (ByteArray.mk (c :: r).toArray) = L at *
      clear hL
      rcases hA with rfl | rfl
      all_goals
        go_enter Tryz.func31, Tryz.ntmps31
        go_wp2_with (first
          | (go_at_call 54; refine H.mono ?_; rintro e w1 ⟨⟨x, rfl⟩, hb1⟩)
          | fail)
        go_ret2
        exact ⟨rfl, hb1⟩
    · rw [if_neg hA]
      have n1 : ¬ c.toNat = 34 := fun e => hA (Or.inl (u8_eq e))
      have n2 : ¬ c.toNat = 92 := fun e => hA (Or.inr (u8_eq e))
      have n3 : ¬ (c.toNat : Int) = 34 := by omega
      have n4 : ¬ (c.toNat : Int) = 92 := by omega
      have gX : ∀ h, (((ByteArray.mk (c :: r).toArray)[0]'h).toNat : Int) = (c.toNat : Int) := fun h => by rw [g0 h]
      have m1 : ((c.toNat : Int) == 34) = false := beq_eq_false_iff_ne.2 n3
      have m2 : ((c.toNat : Int) == 92) = false := beq_eq_false_iff_ne.2 n4
      by_cases hB : c.toNat < 32 ∨ c = 127
      · rw [if_pos hB]
        have E := fun w hz => escaped_any c.toNat (by omega) w hz
        generalize (ByteArray.mk (c :: r).toArray) = L at *
        generalize (escQ c.toNat).toArray = T at *
        clear g0
        by_cases hC : c.toNat < 32
        · have n5 : (c.toNat : Int) < 32 := by omega
          clear hA hB hC n1 n2 n3 n4 hcl hl
          generalize (c.toNat : Int) = X at *
          go_enter Tryz.func31, Tryz.ntmps31
          go_wp2_with (first
            | (go_at_call 55; refine (E _ (hzb _ hb1)).mono ?_; rintro e w2 ⟨rfl, hb2⟩)
            | (go_at_call 54; refine H.mono ?_; rintro e w1 ⟨⟨x, rfl⟩, hb1⟩)
            | fail)
          go_ret2
          exact ⟨rfl, hb1.trans (hb2.mono hb1.size)⟩
        · have n5 : ¬ (c.toNat : Int) < 32 := by omega
          have hD : c = 127 := by rcases hB with h | h; exact absurd h hC; exact h
          have n6 : c.toNat = 127 := by rw [hD]; rfl
          have n7 : (c.toNat : Int) = 127 := by omega
          clear hA hB hD hC n1 n2 n3 n4 hcl hl n6
          generalize (c.toNat : Int) = X at *
          subst n7
          go_enter Tryz.func31, Tryz.ntmps31
          go_wp2_with (first
            | (go_at_call 55; refine (E _ (hzb _ hb1)).mono ?_; rintro e w2 ⟨rfl, hb2⟩)
            | (go_at_call 54; refine H.mono ?_; rintro e w1 ⟨⟨x, rfl⟩, hb1⟩)
            | fail)
          go_ret2
          exact ⟨rfl, hb1.trans (hb2.mono hb1.size)⟩
      · rw [if_neg hB]
        have n5 : ¬ c.toNat < 32 := fun h => hB (Or.inl h)
        have n6 : ¬ c.toNat = 127 := fun e => hB (Or.inr (u8_eq e))
        have n7 : ¬ (c.toNat : Int) < 32 := by omega
        have m4 : ((c.toNat : Int) == 127) = false := beq_eq_false_iff_ne.2 (by omega)
        have m3 : decide ((c.toNat : Int) < 32) = false := decide_eq_false n7
        clear g0
        generalize (ByteArray.mk (c :: r).toArray) = L at *
        clear hA hB n1 n2 n5 n6 hcl hl hc1 hc2 n3 n4
        generalize (c.toNat : Int) = X at *
        go_enter Tryz.func31, Tryz.ntmps31
        go_wp2_with (first
          | (go_at_call 54; refine H.mono ?_; rintro e w1 ⟨⟨x, rfl⟩, hb1⟩)
          | fail)
        go_ret2
        exact ⟨rfl, hb1⟩

/-! ### The quoted text, step by step -/
theorem pieceQ_len (c : UInt8) (r : Bs) : 1 ≤ (pieceQ c r).2 ∧ (pieceQ c r).2 ≤ (c :: r).length ∧ (pieceQ c r).1.length ≤ 6 := by
  unfold pieceQ
  cases hq : halfQ (c :: r) with
  | some V =>
    match r, hq with
    | [], hq => cases hq
    | [_], hq => cases hq
    | d :: e :: r, _ => refine ⟨by simp, by simp, by simp [escQ]⟩
  | none =>
    refine ⟨by simp, by simp, ?_⟩
    dsimp only
    split
    · simp
    · split <;> simp [escQ]
theorem quoF_step (n : Nat) (c : UInt8) (r : Bs) : quoF (n + 1) (c :: r) = (pieceQ c r).1 ++ quoF n ((c :: r).drop (pieceQ c r).2) := by
  unfold pieceQ
  conv => lhs; unfold quoF
  match r with
  | [] => rfl
  | [d] => rfl
  | d :: e :: r' =>
    dsimp only
    by_cases h : halfC c d e
    · rw [if_pos (show c = 237 ∧ 160 ≤ d.toNat ∧ d.toNat ≤ 191 ∧ 128 ≤ e.toNat ∧ e.toNat ≤ 191 from h), show halfQ (c :: d :: e :: r') = some (halfV d e) from if_pos h]
      rfl
    · rw [if_neg (show ¬ (c = 237 ∧ 160 ≤ d.toNat ∧ d.toNat ≤ 191 ∧ 128 ≤ e.toNat ∧ e.toNat ≤ 191) from h), show halfQ (c :: d :: e :: r') = none from if_neg h]
      rfl
theorem quoF_nil (n : Nat) : quoF n [] = [] := by cases n <;> rfl
theorem quoF_fuel : ∀ (n m : Nat) (l : Bs), l.length ≤ n → l.length ≤ m → quoF n l = quoF m l
  | _, _, [], _, _ => by rw [quoF_nil, quoF_nil]
  | n + 1, m + 1, c :: r, hn, hm => by
    have h := pieceQ_len c r
    rw [quoF_step, quoF_step, quoF_fuel n m ((c :: r).drop (pieceQ c r).2) (by rw [List.length_drop]; simp at hn ⊢; omega) (by rw [List.length_drop]; simp at hm ⊢; omega)]
def quoL (l : Bs) : Bs := quoF l.length l
theorem quoL_step (c : UInt8) (r : Bs) : quoL (c :: r) = (pieceQ c r).1 ++ quoL ((c :: r).drop (pieceQ c r).2) := by
  have h := pieceQ_len c r
  unfold quoL
  rw [List.length_cons, quoF_step, quoF_fuel r.length ((c :: r).drop (pieceQ c r).2).length _ (by rw [List.length_drop]; simp; omega) (Nat.le_refl _)]
theorem wbB_any (B : Nat) (acc : Bs) (c : UInt8) (w : World) (h : isBl B acc w) (hl : acc.length + 1 ≤ 16777216) (hB : B ≤ w.heap.size) :
    Calls Tryz.prog 30 #[.pointer (some ⟨B, 0, none⟩), .int .u8 (c.toNat : Int)] w fun e w' => (∃ v, e = .returned v) ∧ isBl B (acc ++ [c]) w' ∧ Below B w w' := by
  refine (Tryz.Builder_WriteByte B B (Lib.byteCells acc) (c.toNat : Int) w h (by rw [cells_len]; omega) hB).mono ?_
  rintro e w' ⟨rfl, h1, h2⟩
  exact ⟨⟨_, rfl⟩, Or.inr (by rw [cells_app]; exact h1), h2⟩
theorem wsB_any (B : Nat) (acc c : Bs) (w : World) (h : isBl B acc w) (hl : acc.length + c.length ≤ 16777216) (hB : B ≤ w.heap.size) :
    Calls Tryz.prog 32 #[.pointer (some ⟨B, 0, none⟩), .string ⟨c.toArray⟩] w fun e w' => (∃ v, e = .returned v) ∧ isBl B (acc ++ c) w' ∧ Below B w w' := by
  refine (Tryz.Builder_WriteString B B (Lib.byteCells acc) ⟨c.toArray⟩ w h (by rw [size_of, cells_len]; omega) hB).mono ?_
  rintro e w' ⟨rfl, h1, h2⟩
  exact ⟨⟨_, rfl⟩, Or.inr (by rw [cells_app]; exact h1), h2⟩
/-- Between two pieces. -/
structure QuoS (s : Bs) (w wr : World) (l acc : Bs) : Prop where
  suf : l <:+ s
  eq : acc ++ quoL l = 34 :: quoL s
  len : acc.length + 6 * l.length ≤ 1 + 6 * s.length
  bl : isBl w.heap.size acc wr
  bel : Below w.heap.size w wr
theorem tz_of (w wr : World) (hz : Tz w) (h : Below w.heap.size w wr) : Tz wr := hz.below h (Nat.le_refl _)

set_option maxHeartbeats 4000000 in
theorem quote_any (s : Bs) (hs : s.length ≤ 1048576) (w : World) (hz : Tz w) : Calls Tryz.prog 15 #[.string ⟨s.toArray⟩] w fun e w' => e = .returned (.string ⟨(quoS s).toArray⟩) ∧ Below w.heap.size w w' := by
  have hB := isB_new w
  have hk0 : Below w.heap.size w (w.alloc (.cells #[.pointer none, .slice none 0 0] 55)) := (Below.refl _ w).alloc (Nat.le_refl _) _
  have W := wbB_any w.heap.size [] 34 _ hB (by simp) (by simp)
  have hsz := size_of s
  have hsI : (s.length : Int) ≤ 1048576 := by omega
  generalize hD : (ByteArray.mk s.toArray) = D at *
  go_enter Tryz.func15, Tryz.ntmps15
  go_wp2_with (go_at_call 30; refine W.mono ?_; rintro e w1 ⟨⟨v1, rfl⟩, hb1, hk1⟩)
  go_loopw [4] (fun v wr => ∃ l acc, v = .int .i64 ((s.length - l.length : Nat) : Int) ∧ QuoS s w wr l acc) (fun v _ => s.length - (RowKit.intOf v).toNat)
  case atStart =>
    exact ⟨s, [34], by simp, List.suffix_refl _, rfl, by simp, hb1, hk0.trans hk1⟩
  case round =>
    clear hB hk0 W hb1 hk1
    obtain ⟨l, acc, rfl, hQ⟩ := hrel
    have hbel := hQ.bel
    have hbl := hQ.bl
    have hlen := hQ.len
    have hz1 := hbel.size
    obtain ⟨q1, q2, q3⟩ := suf_facts hQ.suf
    rw [hD] at q1 q2
    cases l with
    | nil =>
      have W := wbB_any w.heap.size acc 34 wr hbl (by simp at hlen; omega) hz1
      have S := fun w2 (hb : isBl w.heap.size (acc ++ [34]) w2) (hz : w.heap.size ≤ w2.heap.size) => Tryz.Builder_String_any w.heap.size w.heap.size (acc ++ [34]) w2 hb hz
      have HE : Hid (acc ++ [34] = quoS s) := by
        show _ = _
        have := hQ.eq
        unfold quoS
        rw [show quoL [] = [] from rfl, List.append_nil] at this
        rw [this]
        rfl
      clear hQ
      generalize acc ++ [34] = acc2 at *
      go_wp2_with (first
        | (go_at_call 33; refine (S _ hb2 (by omega)).mono ?_; rintro e w3 ⟨rfl, hk3⟩)
        | (go_at_call 30; refine W.mono ?_; rintro e w2 ⟨⟨v2, rfl⟩, hb2, hk2⟩; have hz2 := hk2.size)
        | fail)
      go_ret
      rw [← HE.out]
      exact ⟨rfl, (hbel.trans hk2).trans (hk3.mono (by omega))⟩
    | cons c r =>
      have hp := pieceQ_len c r
      have hle : (c :: r).length ≤ s.length := hQ.suf.length_le
      have HQ : Hid (QuoS s w wr (c :: r) acc) := hQ
      have P := quoted_any c r (by simp at hle; omega) wr (tz_of w wr hz hbel)
      have WS := fun w2 h hB => wsB_any w.heap.size acc (pieceQ c r).1 w2 h (by simp at hlen hle; omega) hB
      have hkeep : ∀ w2, Below wr.heap.size wr w2 → isBl w.heap.size acc w2 := fun w2 hb => (kp_isB (R := 0) hbl (Kp.of_below hb) (Nat.lt_of_le_of_lt (Nat.zero_le _) (by have := World.block_lt_of_cell? w _ hz; exact Nat.lt_of_le_of_lt (Nat.zero_le _) this)))
      have HN : Hid (((s.length - (c :: r).length : Nat) : Int) + ((pieceQ c r).2 : Nat) = ((s.length - ((c :: r).drop (pieceQ c r).2).length : Nat) : Int)) := by
        show _ = _
        rw [List.length_drop]; omega
      have HS : Hid (quoL (c :: r) = (pieceQ c r).1 ++ quoL ((c :: r).drop (pieceQ c r).2)) := quoL_step c r
      have b1 : ((s.length - (c :: r).length : Nat) : Int) < (s.length : Int) := by simp only [List.length_cons] at hle ⊢; omega
      have b2 : (0 : Int) ≤ ((s.length - (c :: r).length : Nat) : Int) := by omega
      have b3 : (((s.length - (c :: r).length : Nat) : Int)).toNat = s.length - (c :: r).length := by omega
      have b4 : ((pieceQ c r).2 : Int) ≤ 1048576 := by omega
      have b5 : (0 : Int) ≤ ((pieceQ c r).2 : Int) := by omega
      have HP : Hid (1 ≤ (pieceQ c r).2 ∧ (pieceQ c r).2 ≤ (c :: r).length ∧ (pieceQ c r).1.length ≤ 6) := hp
      clear hQ hp hlen hle q3
      generalize hA : s.length - (c :: r).length = A at *
      have HA : Hid (s.length - (c :: r).length = A) := hA
      clear hA
      generalize hL : (ByteArray.mk (c :: r).toArray) = L at *
      clear hL
      generalize hT : (pieceQ c r).1 = T at *
      generalize hK : (pieceQ c r).2 = K at *
      clear hT hK
      go_wp2_with (first
        | (go_at_call 32; refine (WS _ hb2 (by omega)).mono ?_; rintro e w3 ⟨⟨v3, rfl⟩, hb3, hk3⟩)
        | (go_at_call 31; refine P.mono ?_; rintro e w2 ⟨rfl, hk2⟩; have hb2 := hkeep _ hk2; have hz2 := hk2.size)
        | fail)
      refine ⟨⟨(c :: r).drop K, acc ++ T, by rw [← HN.out], ?_, ?_, ?_, hb3, (hbel.trans (hk2.mono hz1)).trans hk3⟩, ?_⟩
      · exact (List.drop_suffix _ _).trans HQ.out.suf
      · rw [← HQ.out.eq, HS.out, List.append_assoc]
      · have := HQ.out.len
        have h2 := HP.out
        rw [List.length_append, List.length_drop]
        omega
      · have h2 := HP.out
        have h3 := HA.out
        have h4 := HQ.out.suf.length_le
        simp [RowKit.intOf]
        simp at h2 h3 h4
        omega
end Go.Proofs.YtebojfipdcicaaaGreatDoor
