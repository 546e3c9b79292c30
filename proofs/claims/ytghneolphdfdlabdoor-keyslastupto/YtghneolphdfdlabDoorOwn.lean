/- Rows that a call owns, and a number's eight bytes put behind one. -/
import Derived.Test.YtghneolphdfdlabDoorChk
import Derived.OwnWalk
import Derived.OneCell
import Derived.Laws.OwnMore
import Derived.Laws.IdiomStrings
import Derived.Lib.AppendStr
import Derived.Lib.UnsafeStr
namespace Go.Proofs.YtghneolphdfdlabDoor
open Go Go.RowKit

theorem Tryd.infoByte : (Tryd.prog.info? 5).map (fun i => (i.zero, i.size, i.bytes)) = some (some (.int .u8 0), 1, 1) := by kernel_rfl

theorem owns_below {W W' : World} {B e sz n : Nat} {v : Value} {xs : List Value} (h : W.ownsRow B e sz v n xs) (hb : Below W.heap.size W W') : W'.ownsRow B e sz v n xs := by
  refine ⟨h.1, ?_⟩
  rcases h.2 with h2 | ⟨g, cap, cur, hv, hg, hh, r⟩
  · exact Or.inl h2
  · exact Or.inr ⟨g, cap, cur, hv, hg, (hb.block g (lt_of_block hh)).trans hh, r⟩
theorem own_ge {w : World} {B e sz n : Nat} {v : Value} {xs : List Value} (h : w.ownsRow B e sz v n xs) : ∀ k, v.ownBlock = some k → B ≤ k := by
  intro k hk
  rcases h.2 with ⟨rfl, _⟩ | ⟨g, cap, cur, rfl, hg, _⟩
  · simp [Value.ownBlock] at hk
  · simp [Value.ownBlock] at hk
    omega
theorem own_lt {w : World} {B e sz n : Nat} {v : Value} {xs : List Value} (h : w.ownsRow B e sz v n xs) : ∀ k, v.ownBlock = some k → k < w.heap.size := fun k hk => (h.lt k hk).2
theorem owns_base {w : World} {B B' e sz n : Nat} {v : Value} {xs : List Value} (h : w.ownsRow B e sz v n xs) (hB : B' ≤ B) : w.ownsRow B' e sz v n xs := by
  refine ⟨h.1, ?_⟩
  rcases h.2 with h2 | ⟨g, cap, cur, hv, hb, r⟩
  · exact Or.inl h2
  · exact Or.inr ⟨g, cap, cur, hv, Nat.le_trans hB hb, r⟩
/-- The bytes of a row, as a string. -/
theorem conv_row {W : World} {B g cap : Nat} {l : List UInt8} (h : W.ownsRow B 5 1 (.slice (some ⟨g, 0, none⟩) l.length cap) l.length (Lib.byteCells l)) :
    (convert 34 9 (.slice (some ⟨g, 0, none⟩) l.length cap)).run Tryd.prog W = .ok (.string ⟨l.toArray⟩) W := by
  refine run_convert_bytes_back (P := Tryd.prog) W 34 9 5 ⟨g, 0, none⟩ cap l Tryd.underlying34 Tryd.underlying5 Tryd.underlying9 ?_
  intro j hj
  rw [Addr.add_lit, Nat.zero_add, h.cellAt j (by omega)]
  simp [Lib.byteCells, hj]

/-- A number's bytes, the highest first. -/
def byteAt (n j : Nat) : UInt8 := UInt8.ofNat (n / 2 ^ (8 * (7 - j)))
def beN (n j : Nat) : List UInt8 := (List.range j).map (byteAt n)
def be8 (n : Nat) : List UInt8 := beN n 8
theorem beN_succ (n j : Nat) : beN n (j + 1) = beN n j ++ [byteAt n j] := by unfold beN; rw [List.range_succ, List.map_append]; rfl
theorem beN_len (n j : Nat) : (beN n j).length = j := by simp [beN]
theorem cells_snoc (l : List UInt8) (c : UInt8) : Lib.byteCells (l ++ [c]) = Lib.byteCells l ++ [.int .u8 c.toNat] := by simp [Lib.byteCells]
theorem cells_app (l m : List UInt8) : Lib.byteCells (l ++ m) = Lib.byteCells l ++ Lib.byteCells m := by simp [Lib.byteCells]

theorem byteAt_int (n j : Nat) : ((n : Int) / 2 ^ (8 * (7 - j)) % 256) = ((byteAt n j).toNat : Int) := by
  unfold byteAt
  have e : (UInt8.ofNat (n / 2 ^ (8 * (7 - j)))).toNat = n / 2 ^ (8 * (7 - j)) % 256 := by simp
  rw [e]
  simp
/-- A row of bytes. -/
abbrev Bytes (w : World) (B : Nat) (v : Value) (l : List UInt8) : Prop := w.ownsRow B 5 1 v l.length (Lib.byteCells l)

set_option maxHeartbeats 2000000 in
theorem putNumber_any (B n : Nat) (v : Value) (l : List UInt8) (w : World) (ho : Bytes w B v l) (hB : B ≤ w.heap.size) (hl : l.length ≤ 1000000000) :
    Calls Tryd.prog 20 #[v, .int .u64 (n : Int)] w fun e w' => ∃ v', e = .returned v' ∧ Bytes w' B v' (l ++ be8 n) ∧ Below B w w' := by
  obtain ⟨i1, hi1, hy0, hy1, hy2⟩ := info_parts Tryd.infoByte
  go_enter Tryd.func20, Tryd.ntmps20
  go_wp2
  go_loopw [0, 6] (fun o i wr => ∃ j : Nat, j ≤ 8 ∧ i = .int .i64 j ∧ Bytes wr B o (l ++ beN n j) ∧ Below B w wr) (fun _ i _ => 8 - (intOf i).toNat)
  case atStart => exact ⟨0, by decide, rfl, by simpa [beN] using ho, Below.refl _ _⟩
  case round =>
    obtain ⟨j, hj, rfl, hor, hbr⟩ := hrel
    have hz := hbr.size
    by_cases hlt : j < 8
    · have hlt' : (j : Int) < 8 := by omega
      have HC : Hid (((n : Int) / 2 ^ (8 * (7 - j)) % 256) = ((byteAt n j).toNat : Int)) := byteAt_int n j
      go_wp2_with (at_builtin; refine wpList_append_own _ rfl _ _ 34 rfl B 5 i1 (.int .u8 0) 1 1 Tryd.underlying34 hi1 hy0 hy1 hy2 rfl (by decide) _ _ _ rfl (hor.alloc _) ⟨wr.heap.size, 0, none⟩ 1 1 [.int .u8 ((n : Int) / 2 ^ (8 * (7 - j)) % 256)] rfl rfl ?c1 ?c2 ?c3 ?c4 ?c5 ?_)
      case c1 =>
        intro j u hj
        match j, hj with
        | 0, hj => simp at hj; subst hj; simp [Addr.add]
      case c2 => intro u hu; simp at hu; subst hu; rfl
      case c3 => unfold maxLen; simp [beN_len]; omega
      case c4 => simp [beN_len]; omega
      case c5 => simp; omega
      intro v' w2 hown' hgrow' _
      have hown2 : Bytes w2 B v' (l ++ beN n (j + 1)) := by
        rw [HC.out, ← cells_snoc, List.append_assoc, ← beN_succ] at hown'
        have e1 : (l ++ beN n (j + 1)).length = l.length + (beN n j).length + 1 := by simp [beN_len]; omega
        unfold Bytes
        rw [e1]
        exact hown'
      have hbr2 : Below B w w2 := (hbr.alloc (by omega) _).grown hgrow' (by simp; omega) (own_ge hor)
      clear hown' hgrow' hor HC
      go_wp2
      go_roundw
      case rel => exact ⟨j + 1, by omega, by go_num, hown2, hbr2⟩
      case measure => simp [intOf]; omega
    · obtain rfl : j = 8 := by omega
      go_wp2
      go_ret
      exact ⟨_, rfl, hor, hbr⟩
end Go.Proofs.YtghneolphdfdlabDoor
