/- A token as it is written; comments; what is ignored. -/
import Derived.Test.YtlabcadpkdgjnaaGreatDoorLxN
import Derived.Deep.RegionWith
namespace Go.Proofs.YtlabcadpkdgjnaaGreatDoor
open Go Go.RowKit
section
variable {R : Nat} {s : Bs} {b : Nat}
/-- A token as a value. -/
abbrev tokV (k : Int) (t : Bs) (b e : Nat) : Value := .agg #[.int .i64 k, .string ⟨t.toArray⟩, .int .i64 (b : Int), .int .i64 (e : Int)]
theorem cut_ahead {s lb l : Bs} (hlb : lb <:+ s) (hl : l <:+ lb) : (ByteArray.mk s.toArray).extract (s.length - lb.length) (s.length - l.length) = ⟨(ahead lb l).toArray⟩ := by
  obtain ⟨p, rfl⟩ := hlb
  obtain ⟨q, rfl⟩ := hl
  unfold ahead
  apply ByteArray.ext; apply Array.toList_inj.1
  simp
  have e : p.length + (q.length + l.length) - l.length - p.length = q.length := by omega
  rw [e]
  simp

set_option maxHeartbeats 2000000 in
theorem written_any (k : Int) (lb l : Bs) (w : World) (h : Rd w R s (s.length - lb.length) l) (hlb : lb <:+ s) (hl : l <:+ lb) :
    Calls Tryz.prog 79 #[.pointer (some ⟨R, 0, none⟩), .int .i64 k] w fun e w' => e = .returned (tokV k (ahead lb l) (s.length - lb.length) (s.length - l.length)) ∧ Rd w' R s (s.length - lb.length) l ∧ Kp (Own1 R) w w' := by
  have c0 := fun o => (h.alloc o).c0
  have c1 := fun o => (h.alloc o).c1
  have c2 := fun o => (h.alloc o).c2
  have hle := hl.length_le
  have hle2 := hlb.length_le
  have hx := cut_ahead hlb hl
  obtain ⟨h1, _, _⟩ := suf_facts h.suf
  have HH : Hid (Rd w R s (s.length - lb.length) l) := h
  have HK : Hid (R < w.heap.size) := h.lt
  have g1 : ((s.length - lb.length : Nat) : Int) ≤ ((s.length - l.length : Nat) : Int) := by omega
  have g2 : ((s.length - l.length : Nat) : Int) ≤ (s.length : Int) := by omega
  have g3 : (0 : Int) ≤ ((s.length - lb.length : Nat) : Int) := by omega
  clear h
  generalize ahead lb l = T at *
  generalize (ByteArray.mk s.toArray) = D at *
  generalize hA : s.length - l.length = A at *
  generalize hB : s.length - lb.length = B at *
  clear hle hle2 hlb hl
  go_enter Tryz.func79, Tryz.ntmps79
  go_wp2
  go_region
  all_goals
    go_wp2
    exact bodyPost_ret (v := tokV k T B A) (by simp [results, Tryz.results79, go_sem]) rfl ⟨rfl, ((HH.out.alloc _).drewN 1), ((Kp.refl _ _).alloc _).drew⟩

theorem walkF_source (S : ByteArray) : ∀ (n p : Nat), walkF S (sourceStep S) n p (0, 0) = (0, 0) ∨ ∃ q : Nat, q < S.size ∧ walkF S (sourceStep S) n p (0, 0) = ((q : Int), 10)
  | 0, _ => Or.inl rfl
  | n + 1, p => by
    unfold walkF
    by_cases hp : p < S.size
    · rw [if_pos hp]
      by_cases hc : sourceB (stC S p) = true
      · have e : sourceStep S (0, 0) p = ((0, 0), true) := if_pos hc
        rw [e]
        exact walkF_source S n _
      · have e : sourceStep S (0, 0) p = (((p : Int), 10), false) := if_neg hc
        rw [e]
        exact Or.inr ⟨p, hp, rfl⟩
    · rw [if_neg hp]; exact Or.inl rfl
theorem sourceS_cases (x : Bs) : (srcB x = none ∧ (sourceS ⟨x.toArray⟩).2 = 0) ∨ ∃ k : Nat, k < x.length ∧ srcB x = some k ∧ sourceS ⟨x.toArray⟩ = ((k : Int), 10) := by
  unfold srcB
  rcases walkF_source ⟨x.toArray⟩ ((ByteArray.mk x.toArray).size - 0) 0 with h | ⟨q, hq, h⟩
  · left
    have h' : sourceS ⟨x.toArray⟩ = (0, 0) := h
    rw [h']
    exact ⟨rfl, rfl⟩
  · right
    have h' : sourceS ⟨x.toArray⟩ = ((q : Int), 10) := h
    rw [h']
    exact ⟨q, hq, rfl, rfl⟩

theorem spanN_head (S : Bs) (c : UInt8) (l : Bs) (h : S.contains c = false) : spanN S (c :: l) = spanN S l := by
  conv => lhs; unfold spanN
  rw [h]
  rfl
theorem spanN_stop (S : Bs) (c : UInt8) (l : Bs) (h : S.contains c = true) : spanN S (c :: l) = c :: l := by
  unfold spanN
  rw [if_pos h]
/-- What a comment comes to. -/
def ComP (R : Nat) (s : Bs) (b : Nat) (w : World) (l : Bs) (r : Option (Bs ⊕ Nat)) (e : Ending) (w' : World) : Prop := (match r with
    | none => e = .returned (.bool false) ∧ Rd w' R s b l
    | some (.inl m) => e = .returned (.bool true) ∧ Rd w' R s b m
    | some (.inr k) => e = Dies (s.length - l.length + k) 50) ∧ Kp (Own1 R) w w'

end
end Go.Proofs.YtlabcadpkdgjnaaGreatDoor
