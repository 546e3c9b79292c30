/- Two keys compared, by the document. -/
import Derived.Test.YtghneolphdfdlaaDoorCmpL
import Derived.Test.YtghneolphdfdlaaDoorQChk
namespace Go.Proofs.YtghneolphdfdlaaDoor
open Go Go.RowKit

theorem qsign_any (x y : Bool) (w : World) : Calls Tryd.prog 29 #[.bool x, .bool y] w fun e w' => e = .returned (.int .i64 (if x then -1 else if y then 1 else 0)) ∧ w' = w := by
  cases x <;> cases y
  all_goals
    go_enter Tryd.func29, Tryd.ntmps29
    go_wp2
    go_ret
    exact ⟨rfl, rfl⟩
theorem qsign_int (a b : Int) (w : World) : Calls Tryd.prog 29 #[.bool (decide (a < b)), .bool (decide (b < a))] w fun e w' => e = .returned (.int .i64 (sgnI a b)) ∧ w' = w := by
  have h := qsign_any (decide (a < b)) (decide (b < a)) w
  have e : (if decide (a < b) = true then (-1 : Int) else if decide (b < a) = true then 1 else 0) = sgnI a b := by
    unfold sgnI; simp
  rw [e] at h
  exact h

/-- Of parts that may be a key's: compared as nothing, they are the same. -/
theorem pos_inj (a b : Nat) (ha : a < 18446744073709551616) (hb : b < 18446744073709551616) (za : a ≠ 9223372036854775808) (zb : b ≠ 9223372036854775808) (h : pos a = pos b) : a = b := by
  by_cases c : a < 9223372036854775808 <;> by_cases d : b < 9223372036854775808
  · rw [pos_low c, pos_low d, sz_low c, sz_low d] at h; omega
  · rw [pos_low c, pos_high (by omega) hb, sz_low c, sz_high (by omega) hb] at h; omega
  · rw [pos_high (by omega) ha, pos_low d, sz_high (by omega) ha, sz_low d] at h; omega
  · rw [pos_high (by omega) ha, pos_high (by omega) hb, sz_high (by omega) ha, sz_high (by omega) hb] at h; omega
theorem sgnI_zero {a b : Int} (h : sgnI a b = 0) : a = b := by
  unfold sgnI at h
  by_cases h1 : a < b
  · rw [if_pos h1] at h; omega
  · rw [if_neg h1] at h
    by_cases h2 : b < a
    · rw [if_pos h2] at h; omega
    · omega
theorem less_total : ∀ (a b : List UInt8), Op.bytesLess a b = false → Op.bytesLess b a = false → a = b
  | [], [], _, _ => rfl
  | [], _ :: _, h, _ => by cases h
  | _ :: _, [], _, h => by cases h
  | a :: x, b :: y, h, h' => by
    have h1 : (decide (a < b) || (a == b && Op.bytesLess x y)) = false := h
    have h2 : (decide (b < a) || (b == a && Op.bytesLess y x)) = false := h'
    rw [Bool.or_eq_false_iff] at h1 h2
    have n1 := of_decide_eq_false h1.1
    have n2 := of_decide_eq_false h2.1
    rw [UInt8.lt_iff_toNat_lt] at n1 n2
    have e : a = b := UInt8.toNat_inj.1 (by omega)
    subst e
    have g1 : Op.bytesLess x y = false := by simpa using h1.2
    have g2 : Op.bytesLess y x = false := by simpa using h2.2
    rw [less_total x y g1 g2]

theorem strI_zero {a b : ByteArray} (h : strI a b = 0) : a = b := by
  unfold strI at h
  cases h1 : Op.bytesLess a.toList b.toList
  · rw [h1, if_neg (by decide)] at h
    by_cases h2 : a.toList = b.toList
    · exact bytes_ext h2
    · rw [if_neg h2] at h; cases h
  · rw [h1, if_pos rfl] at h; cases h
theorem cmpI_zero {a b : Nat} (na : isN a = true) (nb : isN b = true) (h : cmpI a b = 0) : pos a = pos b := by
  unfold cmpI at h
  rw [na, nb] at h
  exact sgnI_zero (show sgnI (pos a) (pos b) = 0 from h)
theorem mt_same {a b : ByteArray} (ha : mtB a = true) (hb : mtB b = true) : a = b := by
  have h1 : a.toList = [] := of_decide_eq_true ha
  have h2 : b.toList = [] := of_decide_eq_true hb
  exact bytes_ext (h1.trans h2.symm)
/-- Parts that may be a key's and compare as nothing are the same. -/
theorem part_eq {p q : Pt} (mp : mayB p = true) (mq : mayB q = true) (wp : p.b < 18446744073709551616) (wq : q.b < 18446744073709551616) (h : cmpP p q = 0) : p = q := by
  obtain ⟨k, i, b, t⟩ := p
  obtain ⟨k', i', b', t'⟩ := q
  unfold cmpP at h
  unfold mayB at mp mq
  dsimp only at mp mq wp wq h
  by_cases hk : k = k'
  · subst hk
    rw [if_pos rfl] at h
    by_cases h0 : k = 0
    · rw [if_pos h0] at mp mq h
      unfold may0 at mp mq
      rw [Bool.and_eq_true, decide_eq_true_iff] at mp mq
      rw [sgnI_zero h, mp.1, mq.1, mt_same mp.2 mq.2]
    · rw [if_neg h0] at mp mq h
      by_cases h1 : k = 1
      · rw [if_pos h1] at mp mq h
        unfold may1 at mp mq
        simp only [Bool.and_eq_true, decide_eq_true_iff] at mp mq
        rw [mp.1.1.1, mq.1.1.1, mt_same mp.1.1.2 mq.1.1.2, pos_inj b b' wp wq mp.2 mq.2 (cmpI_zero mp.1.2 mq.1.2 h)]
      · rw [if_neg h1] at mp mq h
        by_cases h2 : k = 2
        · rw [if_pos h2] at mp mq
          unfold may2 at mp mq
          simp only [Bool.and_eq_true, decide_eq_true_iff] at mp mq
          rw [mp.1.1, mq.1.1, mp.1.2, mq.1.2, strI_zero h]
        · rw [if_neg h2] at mp; cases mp
  · rw [if_neg hk] at h
    exact absurd (sgnI_zero h) hk
theorem less_irrefl : ∀ a : List UInt8, Op.bytesLess a a = false
  | [] => rfl
  | c :: a => by
    show (decide (c < c) || (c == c && Op.bytesLess a a)) = false
    rw [less_irrefl a]
    simp
theorem sgnI_self (a : Int) : sgnI a a = 0 := by
  unfold sgnI; rw [if_neg (by omega), if_neg (by omega)]
theorem cmpP_self (p : Pt) : cmpP p p = 0 := by
  unfold cmpP
  rw [if_pos rfl, sgnI_self]
  by_cases h0 : p.k = 0
  · rw [if_pos h0]
  · rw [if_neg h0]
    by_cases h1 : p.k = 1
    · rw [if_pos h1]
      unfold cmpI
      cases isN p.b
      · rfl
      · exact sgnI_self (pos p.b)
    · rw [if_neg h1]
      unfold strI
      rw [less_irrefl, if_neg (by decide), if_pos rfl]
theorem cmpL_at {ps qs : List Pt} {j : Nat} (h1 : j < ps.length) (h2 : j < qs.length) (mp : mayB ps[j] = true) (mq : mayB qs[j] = true) (wp : ps[j].b < 18446744073709551616) (wq : qs[j].b < 18446744073709551616) :
    cmpL (ps.drop j) (qs.drop j) = if cmpP ps[j] qs[j] = 0 then cmpL (ps.drop (j + 1)) (qs.drop (j + 1)) else cmpP ps[j] qs[j] := by
  rw [cmpL_drop h1 h2]
  by_cases h : cmpP ps[j] qs[j] = 0
  · rw [if_pos h, if_pos (part_eq mp mq wp wq h)]
  · rw [if_neg h, if_neg (fun e => h (by rw [e]; exact cmpP_self _))]
end Go.Proofs.YtghneolphdfdlaaDoor
