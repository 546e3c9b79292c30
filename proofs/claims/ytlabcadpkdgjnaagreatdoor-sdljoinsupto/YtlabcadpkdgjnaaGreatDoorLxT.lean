/- Lines, indents. -/
import Derived.Test.YtlabcadpkdgjnaaGreatDoorLxQ
namespace Go.Proofs
open Go Go.RowKit
theorem Tryz.strings_TrimLeft_blank (s : ByteArray) (w : World) :
    Calls Tryz.prog 136 #[.string s, .string ⟨#[9, 32]⟩] w fun e w' => e = .returned (.string ⟨(Lib.trimLeftS s.data.toList [9, 32]).toArray⟩) ∧ Below w.heap.size w w' :=
  Any.strings_TrimLeft_laid Tryz.lays161 (by kernel_rfl) s ⟨#[9, 32]⟩ w (by decide) (ascii_of_all (by decide))
end Go.Proofs
namespace Go.Proofs.YtlabcadpkdgjnaaGreatDoor
open Go Go.RowKit

theorem indent_any (l : Bs) (hl : l.length ≤ 4294967280) (w : World) : Calls Tryz.prog 131 #[.string ⟨l.toArray⟩] w fun e w' => e = .returned (.int .i64 ((indS l : Nat) : Int)) ∧ Below w.heap.size w w' := by
  have T := fun w => Tryz.strings_TrimLeft_blank ⟨l.toArray⟩ w
  have e : Lib.trimLeftS (ByteArray.mk l.toArray).data.toList [9, 32] = spanR [9, 32] l := trimLeft_eq [9, 32] l
  rw [e] at T
  have h1 := size_of l
  have h2 := size_of (spanR [9, 32] l)
  have h3 := (spanR_suf [9, 32] l).length_le
  have HE : Hid ((l.length : Int) - ((spanR [9, 32] l).length : Int) = ((indS l : Nat) : Int)) := by
    show _ = _
    unfold indS; omega
  have g1 : (l.length : Int) ≤ 4294967280 := by omega
  have g2 : ((spanR [9, 32] l).length : Int) ≤ (l.length : Int) := by omega
  have g3 : (0 : Int) ≤ ((spanR [9, 32] l).length : Int) := by omega
  clear e h3 hl
  generalize (spanR [9, 32] l).length = m at *
  generalize (ByteArray.mk (spanR [9, 32] l).toArray) = M at *
  generalize (ByteArray.mk l.toArray) = L at *
  go_enter Tryz.func131, Tryz.ntmps131
  go_wp2_with (go_at_call 136; refine (T _).mono ?_; rintro e w1 ⟨rfl, hb⟩)
  go_ret
  exact ⟨by rw [← HE.out]; rfl, hb⟩
theorem blank_any (l : Bs) (hl : l.length ≤ 4294967280) (w : World) : Calls Tryz.prog 123 #[.string ⟨l.toArray⟩] w fun e w' => e = .returned (.bool (blankB l)) ∧ Below w.heap.size w w' := by
  have I := fun w => indent_any l hl w
  have h1 := size_of l
  have HE : Hid (blankB l = (((indS l : Nat) : Int) == (l.length : Int))) := by
    show _ = _
    unfold blankB
    rw [Bool.eq_iff_iff]
    simp
    omega
  generalize indS l = m at *
  generalize (ByteArray.mk l.toArray) = L at *
  go_enter Tryz.func123, Tryz.ntmps123
  go_wp2_with (go_at_call 131; refine (I _).mono ?_; rintro e w1 ⟨rfl, hb⟩)
  go_ret
  refine ⟨?_, hb⟩
  rw [HE.out]
  rfl
/-- A row of texts in a block. -/
def StrRow (w : World) (G : Nat) (L : List Bs) : Prop := w.heap[G]? = some (.cells (L.map fun x => Value.string ⟨x.toArray⟩).toArray 9 (0, 0))
theorem StrRow.below {w w' : World} {G B : Nat} {L : List Bs} (h : StrRow w G L) (hb : Below B w w') (hG : G < B) : StrRow w' G L := (hb.block G hG).trans h
theorem StrRow.cell {w : World} {G : Nat} {L : List Bs} (h : StrRow w G L) (i : Nat) (hi : i < L.length) : w.cell? ⟨G, i, none⟩ = some (.string ⟨L[i].toArray⟩) := by
  unfold World.cell?
  rw [show w.heap[G]? = _ from h]
  simp [hi]
theorem StrRow.free {w : World} {G : Nat} {L : List Bs} (h : StrRow w G L) (i : Nat) : w.frozen? ⟨G, i, none⟩ = false := frozen_of_row w G i _ _ h
theorem StrRow.lt {w : World} {G : Nat} {L : List Bs} (h : StrRow w G L) : G < w.heap.size := lt_of_block h
theorem StrRow.set {w : World} {G : Nat} {L : List Bs} (h : StrRow w G L) (i : Nat) (x : Bs) : StrRow (w.setCell ⟨G, i, none⟩ (.string ⟨x.toArray⟩)) G (L.set i x) := by
  have := heap_setCell_same w G i _ _ (.string ⟨x.toArray⟩) h
  unfold StrRow
  rw [this]
  congr 2
  apply Array.toList_inj.1
  simp [List.map_set]

theorem linesOf_any (l : Bs) (hl : l.length ≤ 4294967280) (w : World) (g : Gl w) : Calls Tryz.prog 121 #[.string ⟨l.toArray⟩] w fun e w' => (∃ G, w.heap.size ≤ G ∧ e = .returned (.slice (some ⟨G, 0, none⟩) (linesS l).length (linesS l).length) ∧ StrRow w' G (linesS l)) ∧ Below w.heap.size w w' := by
  have hl1 : (rep [13, 10] [10] l).length ≤ l.length := rep_len _ _ (by simp) (by simp) _ l (Nat.le_refl _)
  have hl2 : (rep [13] [10] (rep [13, 10] [10] l)).length ≤ l.length := Nat.le_trans (rep_len _ _ (by simp) (by simp) _ _ (Nat.le_refl _)) hl1
  have R1 : ∀ w, Gl w → Calls Tryz.prog 129 #[.string ⟨l.toArray⟩, .string ⟨#[13, 10]⟩, .string ⟨#[10]⟩] w fun e w' => e = .returned (.string ⟨(rep [13, 10] [10] l).toArray⟩) ∧ Below w.heap.size w w' := by
    intro w g
    obtain ⟨m, hm⟩ := g.mx
    have := Tryz.strings_ReplaceAll ⟨l.toArray⟩ ⟨#[13, 10]⟩ ⟨#[10]⟩ m w (by rw [size_of]; omega) hm (by decide) (by
      have h1 := Lib.countB_le ⟨#[13, 10]⟩ (by decide) (ByteArray.mk l.toArray).size ⟨l.toArray⟩ (Nat.le_refl _)
      rw [size_of] at h1 ⊢
      have h2 : (ByteArray.mk #[10]).size = 1 := rfl
      rw [h2]; omega)
    rw [replaceAll_rep (by decide)] at this
    exact this
  have R2 : ∀ w, Gl w → Calls Tryz.prog 129 #[.string ⟨(rep [13, 10] [10] l).toArray⟩, .string ⟨#[13]⟩, .string ⟨#[10]⟩] w fun e w' => e = .returned (.string ⟨(rep [13] [10] (rep [13, 10] [10] l)).toArray⟩) ∧ Below w.heap.size w w' := by
    intro w g
    obtain ⟨m, hm⟩ := g.mx
    have := Tryz.strings_ReplaceAll ⟨(rep [13, 10] [10] l).toArray⟩ ⟨#[13]⟩ ⟨#[10]⟩ m w (by rw [size_of]; omega) hm (by decide) (by
      have h1 := Lib.countB_le ⟨#[13]⟩ (by decide) (ByteArray.mk (rep [13, 10] [10] l).toArray).size ⟨(rep [13, 10] [10] l).toArray⟩ (Nat.le_refl _)
      rw [size_of] at h1 ⊢
      have h2 : (ByteArray.mk #[10]).size = 1 := rfl
      rw [h2]; omega)
    rw [replaceAll_rep (by decide)] at this
    exact this
  rw [norm_rep _ l (Nat.le_refl _)] at R2 hl2
  have S : ∀ w, Gl w → Calls Tryz.prog 130 #[.string ⟨(normS l).toArray⟩, .string ⟨#[10]⟩] w fun e w' => (∃ G, w.heap.size ≤ G ∧ e = .returned (.slice (some ⟨G, 0, none⟩) (linesS l).length (linesS l).length) ∧ StrRow w' G (linesS l)) ∧ Below w.heap.size w w' := by
    intro w g
    obtain ⟨m, hm⟩ := g.mx
    refine (Tryz.strings_Split ⟨(normS l).toArray⟩ ⟨#[10]⟩ m w (by rw [size_of]; omega) hm (by decide)).mono ?_
    rintro e w' ⟨rfl, rfl⟩
    have hd := Lib.splitB_data ⟨#[10]⟩ 0 (Lib.countB ⟨(normS l).toArray⟩ ⟨#[10]⟩) ⟨(normS l).toArray⟩
    have hs : Lib.splitK [10] 0 (Lib.count (normS l) [10]) (normS l) = linesS l := split_eq (normS l)
    have hd2 : (Lib.splitB ⟨#[10]⟩ 0 (Lib.countB ⟨(normS l).toArray⟩ ⟨#[10]⟩) ⟨(normS l).toArray⟩).map (·.data.toList) = linesS l := hd.trans hs
    have hlen := Lib.splitB_all ⟨#[10]⟩ (by decide) 0 _ (ByteArray.mk (normS l).toArray) rfl
    have hlen2 : (linesS l).length = Lib.countB ⟨(normS l).toArray⟩ ⟨#[10]⟩ + 1 := by rw [← hd2, List.length_map]; exact hlen
    refine ⟨⟨w.heap.size, Nat.le_refl _, by rw [hlen2], ?_⟩, (Below.refl _ _).alloc (Nat.le_refl _) _⟩
    show (w.alloc _).heap[w.heap.size]? = _
    rw [heap_alloc_new]
    congr 2
    rw [← hd2, List.map_map]
    congr 1
  clear hl hl1 hl2
  generalize linesS l = L at *
  generalize (normS l).toArray = N at *
  generalize (rep [13, 10] [10] l).toArray = M at *
  generalize l.toArray = A at *
  go_enter Tryz.func121, Tryz.ntmps121
  go_wp2_with (first
    | (go_at_call 130; refine (S _ g2).mono ?_; rintro e w3 ⟨⟨G, hG, rfl, hrow⟩, hb3⟩)
    | (go_at_call 129; refine (R2 _ g1).mono ?_; rintro e w2 ⟨rfl, hb2⟩; have g2 := g1.below hb2 (Nat.le_refl _))
    | (go_at_call 129; refine (R1 _ g).mono ?_; rintro e w1 ⟨rfl, hb1⟩; have g1 := g.below hb1 (Nat.le_refl _))
    | fail)
  go_ret
  have s1 := hb1.size
  have s2 := hb2.size
  exact ⟨⟨G, by omega, rfl, hrow⟩, (hb1.trans (hb2.mono hb1.size)).trans (hb3.mono (Nat.le_trans s1 s2))⟩
end Go.Proofs.YtlabcadpkdgjnaaGreatDoor
