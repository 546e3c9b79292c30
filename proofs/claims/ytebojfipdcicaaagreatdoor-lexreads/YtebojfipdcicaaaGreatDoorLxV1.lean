/- How a text is quoted, by the document. -/
import Derived.Test.YtebojfipdcicaaaGreatDoorLxA4
import Derived.OwnWalk
import Derived.OneCell
import Derived.Laws.OwnMore
import Derived.Laws.IdiomStrings
import Derived.Lib.AppendStr
import Derived.Lib.UnsafeStr
namespace Go.Proofs.YtebojfipdcicaaaGreatDoor
open Go Go.RowKit

theorem Tryz.infoByte : (Tryz.prog.info? 5).map (fun i => (i.zero, i.size, i.bytes)) = some (some (.int .u8 0), 1, 1) := by kernel_rfl
theorem own_ge {w : World} {B e sz n : Nat} {v : Value} {xs : List Value} (h : w.ownsRow B e sz v n xs) : ∀ k, v.ownBlock = some k → B ≤ k := by
  intro k hk
  rcases h.2 with ⟨rfl, _⟩ | ⟨g, cap, cur, rfl, hg, _⟩
  · simp [Value.ownBlock] at hk
  · simp [Value.ownBlock] at hk
    omega
theorem conv_row {W : World} {B g cap : Nat} {l : List UInt8} (h : W.ownsRow B 5 1 (.slice (some ⟨g, 0, none⟩) l.length cap) l.length (Lib.byteCells l)) :
    (convert 33 9 (.slice (some ⟨g, 0, none⟩) l.length cap)).run Tryz.prog W = .ok (.string ⟨l.toArray⟩) W := by
  refine run_convert_bytes_back (P := Tryz.prog) W 33 9 5 ⟨g, 0, none⟩ cap l Tryz.underlying33 Tryz.underlying5 Tryz.underlying9 ?_
  intro j hj
  rw [Addr.add_lit, Nat.zero_add, h.cellAt j (by omega)]
  simp [Lib.byteCells, hj]
abbrev Bytes (w : World) (B : Nat) (v : Value) (l : List UInt8) : Prop := w.ownsRow B 5 1 v l.length (Lib.byteCells l)
theorem hexD_toNat : ∀ d : Fin 16, ((hexD d.1).toNat : Int) = if d.1 < 10 then 48 + (d.1 : Int) else 87 + (d.1 : Int) := by decide
theorem digit_any (d : Nat) (hd : d < 16) (w : World) : Calls Tryz.prog 34 #[.int .i64 (d : Int)] w fun e w' => e = .returned (.int .u8 ((hexD d).toNat : Int)) ∧ w' = w := by
  have hx := hexD_toNat ⟨d, hd⟩
  dsimp only at hx
  rw [hx]
  have h0 : (0 : Int) ≤ (d : Int) := by omega
  have h1 : (d : Int) < 16 := by omega
  by_cases h : d < 10
  · rw [if_pos h]
    have h2 : (d : Int) < 10 := by omega
    clear hx hd h
    generalize (d : Int) = X at *
    go_enter Tryz.func34, Tryz.ntmps34
    go_wp2
    go_ret
    exact ⟨rfl, rfl⟩
  · rw [if_neg h]
    have h2 : ¬ (d : Int) < 10 := by omega
    clear hx hd h
    have HE : Hid (97 + (d : Int) - 10 = 87 + (d : Int)) := by show _ = _; omega
    generalize (d : Int) = X at *
    go_enter Tryz.func34, Tryz.ntmps34
    go_wp2
    go_ret
    exact ⟨by rw [← HE.out]; rfl, rfl⟩
theorem digit_sym (d : Nat) (hd : d < 16) (w : World) : Calls Tryz.prog 34 #[.int .i64 (d : Int)] w fun e w' => e = .returned (.int .u8 ((hexD d).toNat : Int)) ∧ w = w' := (digit_any d hd w).mono fun _ _ ⟨a, b⟩ => ⟨a, b.symm⟩
theorem own_quote (w : World) : (w.alloc (.cells #[.int .u8 34] 5)).ownsRow w.heap.size 5 1 (.slice (some ⟨w.heap.size, 0, none⟩) 1 1) 1 (Lib.byteCells [34]) :=
  ⟨rfl, Or.inr ⟨w.heap.size, 1, _, rfl, Nat.le_refl _, heap_alloc_new _ _, Nat.le_refl _, by decide, by kernel_rfl, by kernel_rfl⟩⟩
structure QdS (s : Bs) (w wr : World) (o : Value) (l acc : Bs) : Prop where
  suf : l <:+ s
  eq : acc ++ quoL l = 34 :: quoL s
  len : acc.length + 6 * l.length ≤ 1 + 6 * s.length
  own : Bytes wr w.heap.size o acc
  bel : Below w.heap.size w wr
theorem QdS.drewN {s : Bs} {w wr : World} {o : Value} {l acc : Bs} (h : QdS s w wr o l acc) (n : Nat) : QdS s w (wr.drewN n) o l acc := ⟨h.suf, h.eq, h.len, h.own, ⟨h.bel.os, h.bel.tape, h.bel.output, h.bel.size, h.bel.block⟩⟩
theorem QdS.next {s : Bs} {w wr w2 : World} {o v' : Value} {c : UInt8} {r acc new : Bs} {k : Nat} {X : Obj} (h : QdS s w wr o (c :: r) acc) (hp : pieceQ c r = (new, k))
    (hown : w2.ownsRow w.heap.size 5 1 v' (acc.length + new.length) (Lib.byteCells acc ++ Lib.byteCells new)) (hg : (wr.alloc X).grownBy w2 o.ownBlock) : QdS s w w2 v' ((c :: r).drop k) (acc ++ new) := by
  have hl := pieceQ_len c r
  rw [hp] at hl
  have hs := quoL_step c r
  rw [hp] at hs
  have hlen := h.len
  refine ⟨(List.drop_suffix _ _).trans h.suf, ?_, ?_, ?_, (h.bel.alloc h.bel.size _).grown hg (by simp; have := h.bel.size; omega) (own_ge h.own)⟩
  · rw [← h.eq, hs, List.append_assoc]
  · rw [List.length_append, List.length_drop]
    dsimp only at hl
    omega
  · unfold Bytes
    rw [List.length_append, cells_app]
    exact hown
end Go.Proofs.YtebojfipdcicaaaGreatDoor
