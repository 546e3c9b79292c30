/- A text read up to its end: the plain mathematics; a Builder written to. -/
import Derived.Test.YtghneolphdfdlabDoorCutN
import Derived.Lib.Builder
namespace Go.Proofs.YtghneolphdfdlabDoor
open Go Go.RowKit

theorem writeString_any (B b : Nat) (bs : List Value) (s : ByteArray) (w : World) (h : Lib.IsBuilder 71 5 B b bs w) (hlen : bs.length + s.size ≤ 140737488355328) (hBw : B ≤ w.heap.size) :
    Calls Tryd.prog 37 #[.pointer (some ⟨b, 0, none⟩), .string s] w fun e w' => e = .returned (.tuple #[.int .i64 s.size, .nilIface]) ∧ (Lib.BuilderAt 71 5 B b (.pointer (some ⟨b, 0, none⟩)) (bs ++ Lib.strCells s) w' ∧ Below B w w') :=
  Any.Builder_WriteString ({ Tryd.lays155 with } : Lays.n166 Tryd.prog Tryd.lays155_ren) Tryd.Builder_Extra_155 B b bs s w h hlen hBw

/-- The text with whose bytes a row begins, and what is behind its end. -/
def cutT : List UInt8 → Option (List UInt8 × List UInt8)
  | [] => none
  | [c] => if c = 0 then none else none
  | c :: d :: r => if c = 0 then (if d = 0 then some ([], r) else if d = 255 then (cutT r).map fun x => (0 :: x.1, x.2) else none) else (cutT (d :: r)).map fun x => (c :: x.1, x.2)

theorem cutT_none : ∀ (l : List UInt8), (0 : UInt8) ∉ l → cutT l = none
  | [], _ => rfl
  | [c], _ => by unfold cutT; split <;> rfl
  | c :: d :: r, h => by
    have hc : c ≠ 0 := fun e => h (by simp [e])
    have hr : (0 : UInt8) ∉ d :: r := fun e => h (List.mem_cons_of_mem _ e)
    unfold cutT
    rw [if_neg hc, cutT_none (d :: r) hr]
    rfl
theorem cutT_cons (c : UInt8) (l : List UInt8) (hc : c ≠ 0) : cutT (c :: l) = (cutT l).map fun x => (c :: x.1, x.2) := by
  cases l with
  | nil => unfold cutT; rw [if_neg hc]; rfl
  | cons d r => show (if c = 0 then _ else _) = _; rw [if_neg hc]
theorem cutT_piece : ∀ (p l : List UInt8), (0 : UInt8) ∉ p → cutT (p ++ l) = (cutT l).map fun x => (p ++ x.1, x.2)
  | [], l, _ => by simp
  | c :: p, l, h => by
    have hc : c ≠ 0 := fun e => h (by simp [e])
    have hr : (0 : UInt8) ∉ p := fun e => h (List.mem_cons_of_mem _ e)
    rw [List.cons_append, cutT_cons c _ hc, cutT_piece p l hr, Option.map_map]
    rfl
theorem cutT_stop (p : List UInt8) (h : (0 : UInt8) ∉ p) : cutT (p ++ [0]) = none := by
  rw [cutT_piece p _ h]; rfl
theorem cutT_end (p r : List UInt8) (h : (0 : UInt8) ∉ p) : cutT (p ++ 0 :: 0 :: r) = some (p, r) := by
  rw [cutT_piece p _ h]; simp [cutT]
theorem cutT_more (p r : List UInt8) (h : (0 : UInt8) ∉ p) : cutT (p ++ 0 :: 255 :: r) = (cutT r).map fun x => (p ++ 0 :: x.1, x.2) := by
  rw [cutT_piece p _ h]
  show ((if (0 : UInt8) = 0 then (if (255 : UInt8) = 0 then some ([], r) else if (255 : UInt8) = 255 then (cutT r).map (fun x => (0 :: x.1, x.2)) else none) else _) : Option (List UInt8 × List UInt8)).map _ = _
  rw [if_pos rfl, if_neg (by decide), if_pos rfl, Option.map_map]
  rfl
theorem cutT_bad (p r : List UInt8) (d : UInt8) (h : (0 : UInt8) ∉ p) (h0 : d ≠ 0) (h1 : d ≠ 255) : cutT (p ++ 0 :: d :: r) = none := by
  rw [cutT_piece p _ h]
  simp [cutT, h0, h1]

/-- strings.Cut around the first byte 0. -/
theorem cut_zero : ∀ (l : List UInt8), (Lib.cut l [0] = (l, [], false) ∧ (0 : UInt8) ∉ l) ∨ ∃ p b, l = p ++ 0 :: b ∧ (0 : UInt8) ∉ p ∧ Lib.cut l [0] = (p, b, true)
  | [] => Or.inl ⟨by decide, by simp⟩
  | c :: l => by
    by_cases hc : c = 0
    · subst hc
      refine Or.inr ⟨[], l, rfl, by simp, ?_⟩
      unfold Lib.cut
      rw [Lib.index_one]
      rfl
    · have hi : Lib.index (c :: l) [0] = if Lib.index l [0] == -1 then -1 else Lib.index l [0] + 1 := by
        rw [Lib.index_one, Lib.index_one]
        show (if c == 0 then (0 : Int) else if Lib.indexByte l 0 == -1 then -1 else Lib.indexByte l 0 + 1) = _
        rw [if_neg (by simpa using hc)]
      have hg := Lib.index_ge l [0]
      rcases cut_zero l with ⟨h1, h2⟩ | ⟨p, b, h1, h2, h3⟩
      · left
        have hx : ¬ 0 ≤ Lib.index l [0] := by
          intro h0
          unfold Lib.cut at h1
          rw [if_pos h0] at h1
          simp at h1
        refine ⟨?_, by simp [h2]; exact fun e => hc e.symm⟩
        unfold Lib.cut
        have e : Lib.index l [0] = -1 := by omega
        rw [hi, e]
        rfl
      · right
        have hx : 0 ≤ Lib.index l [0] := by
          by_cases h0 : 0 ≤ Lib.index l [0]
          · exact h0
          · unfold Lib.cut at h3
            rw [if_neg h0] at h3
            simp at h3
        refine ⟨c :: p, b, by rw [h1]; rfl, by simp [h2]; exact fun e => hc e.symm, ?_⟩
        unfold Lib.cut at h3 ⊢
        rw [if_pos hx] at h3
        obtain ⟨i, hi'⟩ : ∃ i : Nat, Lib.index l [0] = i := ⟨(Lib.index l [0]).toNat, by omega⟩
        have e2 : Lib.index (c :: l) [0] = ((i + 1 : Nat) : Int) := by
          rw [hi, hi', if_neg (by simp <;> omega)]; rfl
        rw [hi'] at h3
        rw [e2, if_pos (by omega)]
        simp only [Int.toNat_natCast, Prod.mk.injEq] at h3 ⊢
        refine ⟨?_, ?_, trivial⟩
        · rw [List.take_succ_cons, h3.1]
        · exact h3.2.1
end Go.Proofs.YtghneolphdfdlabDoor
