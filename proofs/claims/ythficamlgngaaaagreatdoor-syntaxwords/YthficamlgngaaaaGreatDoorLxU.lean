/- The common indent; what a block string says. -/
import Derived.Test.YthficamlgngaaaaGreatDoorLxQ
namespace Go.Proofs
open Go Go.RowKit
theorem Tryz.strings_TrimLeft_blank (s : ByteArray) (w : World) :
    Calls Tryz.prog 152 #[.string s, .string ⟨#[9, 32]⟩] w fun e w' => e = .returned (.string ⟨(Lib.trimLeftS s.data.toList [9, 32]).toArray⟩) ∧ Below w.heap.size w w' :=
  Any.strings_TrimLeft_laid Tryz.lays161 (by kernel_rfl) s ⟨#[9, 32]⟩ w (by decide) (ascii_of_all (by decide))
end Go.Proofs
namespace Go.Proofs.YthficamlgngaaaaGreatDoor
open Go Go.RowKit

theorem indent_any (l : Bs) (hl : l.length ≤ 4294967280) (w : World) : Calls Tryz.prog 144 #[.string ⟨l.toArray⟩] w fun e w' => e = .returned (.int .i64 ((indS l : Nat) : Int)) ∧ Below w.heap.size w w' := by
  have T := fun w => Tryz.strings_TrimLeft_blank ⟨l.toArray⟩ w
  have e : Lib.trimLeftS (ByteArray.mk l.toArray).data.toList [9, 32] = spanR [9, 32] l := trimLeft_eq [9, 32] l
  rw [e] at T
  have h1 := size_of l
  have h2 := size_of (spanR [9, 32] l)
  have h3 := (spanR_suf [9, 32] l).length_le
  have HE : Hid ((l.length : Int) - ((spanR [9, 32] l).length : Int) = ((indS l : Nat) : Int)) := by
    show _ = _
    unfold indS; omega
  have g1 : (l.length : Int) ≤ 4294967280 := by omega
  have g2 : ((spanR [9, 32] l).length : Int) ≤ (l.length : Int) := by omega
  have g3 : (0 : Int) ≤ ((spanR [9, 32] l).length : Int) := by omega
  clear e h3 hl
  generalize (spanR [9, 32] l).length = m at *
  generalize (ByteArray.mk (spanR [9, 32] l).toArray) = M at *
  generalize (ByteArray.mk l.toArray) = L at *
  go_enter Tryz.func144, Tryz.ntmps144
  go_wp2_with (go_at_call 152; refine (T _).mono ?_; rintro e w1 ⟨rfl, hb⟩)
  go_ret
  exact ⟨by rw [← HE.out]; rfl, hb⟩
theorem blank_any (l : Bs) (hl : l.length ≤ 4294967280) (w : World) : Calls Tryz.prog 132 #[.string ⟨l.toArray⟩] w fun e w' => e = .returned (.bool (blankB l)) ∧ Below w.heap.size w w' := by
  have I := fun w => indent_any l hl w
  have h1 := size_of l
  have HE : Hid (blankB l = (((indS l : Nat) : Int) == (l.length : Int))) := by
    show _ = _
    unfold blankB
    rw [Bool.eq_iff_iff]
    simp
    omega
  generalize indS l = m at *
  generalize (ByteArray.mk l.toArray) = L at *
  go_enter Tryz.func132, Tryz.ntmps132
  go_wp2_with (go_at_call 144; refine (I _).mono ?_; rintro e w1 ⟨rfl, hb⟩)
  go_ret
  refine ⟨?_, hb⟩
  rw [HE.out]
  rfl
/-- A row of texts in a block. -/
def StrRow (w : World) (G : Nat) (L : List Bs) : Prop := w.heap[G]? = some (.cells (L.map fun x => Value.string ⟨x.toArray⟩).toArray 9 (0, 0))
theorem StrRow.below {w w' : World} {G B : Nat} {L : List Bs} (h : StrRow w G L) (hb : Below B w w') (hG : G < B) : StrRow w' G L := (hb.block G hG).trans h
theorem StrRow.cell {w : World} {G : Nat} {L : List Bs} (h : StrRow w G L) (i : Nat) (hi : i < L.length) : w.cell? ⟨G, i, none⟩ = some (.string ⟨L[i].toArray⟩) := by
  unfold World.cell?
  rw [show w.heap[G]? = _ from h]
  simp [hi]
theorem StrRow.free {w : World} {G : Nat} {L : List Bs} (h : StrRow w G L) (i : Nat) : w.frozen? ⟨G, i, none⟩ = false := frozen_of_row w G i _ _ h
theorem StrRow.lt {w : World} {G : Nat} {L : List Bs} (h : StrRow w G L) : G < w.heap.size := lt_of_block h
theorem StrRow.set {w : World} {G : Nat} {L : List Bs} (h : StrRow w G L) (i : Nat) (x : Bs) : StrRow (w.setCell ⟨G, i, none⟩ (.string ⟨x.toArray⟩)) G (L.set i x) := by
  have := heap_setCell_same w G i _ _ (.string ⟨x.toArray⟩) h
  unfold StrRow
  rw [this]
  congr 2
  apply Array.toList_inj.1
  simp [List.map_set]

theorem linesOf_any (l : Bs) (hl : l.length ≤ 4294967280) (w : World) (g : Gl w) : Calls Tryz.prog 130 #[.string ⟨l.toArray⟩] w fun e w' => (∃ G, w.heap.size ≤ G ∧ e = .returned (.slice (some ⟨G, 0, none⟩) (linesS l).length (linesS l).length) ∧ StrRow w' G (linesS l)) ∧ Below w.heap.size w w' := by
  have hl1 : (rep [13, 10] [10] l).length ≤ l.length := rep_len _ _ (by simp) (by simp) _ l (Nat.le_refl _)
  have hl2 : (rep [13] [10] (rep [13, 10] [10] l)).length ≤ l.length := Nat.le_trans (rep_len _ _ (by simp) (by simp) _ _ (Nat.le_refl _)) hl1
  have R1 : ∀ w, Gl w → Calls Tryz.prog 142 #[.string ⟨l.toArray⟩, .string ⟨#[13, 10]⟩, .string ⟨#[10]⟩] w fun e w' => e = .returned (.string ⟨(rep [13, 10] [10] l).toArray⟩) ∧ Below w.heap.size w w' := by
    intro w g
    obtain ⟨m, hm⟩ := g.mx
    have := Tryz.strings_ReplaceAll ⟨l.toArray⟩ ⟨#[13, 10]⟩ ⟨#[10]⟩ m w (by rw [size_of]; omega) hm (by decide) (by
      have h1 := Lib.countB_le ⟨#[13, 10]⟩ (by decide) (ByteArray.mk l.toArray).size ⟨l.toArray⟩ (Nat.le_refl _)
      rw [size_of] at h1 ⊢
      have h2 : (ByteArray.mk #[10]).size = 1 := rfl
      rw [h2]; omega)
    rw [replaceAll_rep (by decide)] at this
    exact this
  have R2 : ∀ w, Gl w → Calls Tryz.prog 142 #[.string ⟨(rep [13, 10] [10] l).toArray⟩, .string ⟨#[13]⟩, .string ⟨#[10]⟩] w fun e w' => e = .returned (.string ⟨(rep [13] [10] (rep [13, 10] [10] l)).toArray⟩) ∧ Below w.heap.size w w' := by
    intro w g
    obtain ⟨m, hm⟩ := g.mx
    have := Tryz.strings_ReplaceAll ⟨(rep [13, 10] [10] l).toArray⟩ ⟨#[13]⟩ ⟨#[10]⟩ m w (by rw [size_of]; omega) hm (by decide) (by
      have h1 := Lib.countB_le ⟨#[13]⟩ (by decide) (ByteArray.mk (rep [13, 10] [10] l).toArray).size ⟨(rep [13, 10] [10] l).toArray⟩ (Nat.le_refl _)
      rw [size_of] at h1 ⊢
      have h2 : (ByteArray.mk #[10]).size = 1 := rfl
      rw [h2]; omega)
    rw [replaceAll_rep (by decide)] at this
    exact this
  rw [norm_rep _ l (Nat.le_refl _)] at R2 hl2
  have S : ∀ w, Gl w → Calls Tryz.prog 143 #[.string ⟨(normS l).toArray⟩, .string ⟨#[10]⟩] w fun e w' => (∃ G, w.heap.size ≤ G ∧ e = .returned (.slice (some ⟨G, 0, none⟩) (linesS l).length (linesS l).length) ∧ StrRow w' G (linesS l)) ∧ Below w.heap.size w w' := by
    intro w g
    obtain ⟨m, hm⟩ := g.mx
    refine (Tryz.strings_Split ⟨(normS l).toArray⟩ ⟨#[10]⟩ m w (by rw [size_of]; omega) hm (by decide)).mono ?_
    rintro e w' ⟨rfl, rfl⟩
    have hd := Lib.splitB_data ⟨#[10]⟩ 0 (Lib.countB ⟨(normS l).toArray⟩ ⟨#[10]⟩) ⟨(normS l).toArray⟩
    have hs : Lib.splitK [10] 0 (Lib.count (normS l) [10]) (normS l) = linesS l := split_eq (normS l)
    have hd2 : (Lib.splitB ⟨#[10]⟩ 0 (Lib.countB ⟨(normS l).toArray⟩ ⟨#[10]⟩) ⟨(normS l).toArray⟩).map (·.data.toList) = linesS l := hd.trans hs
    have hlen := Lib.splitB_all ⟨#[10]⟩ (by decide) 0 _ (ByteArray.mk (normS l).toArray) rfl
    have hlen2 : (linesS l).length = Lib.countB ⟨(normS l).toArray⟩ ⟨#[10]⟩ + 1 := by rw [← hd2, List.length_map]; exact hlen
    refine ⟨⟨w.heap.size, Nat.le_refl _, by rw [hlen2], ?_⟩, (Below.refl _ _).alloc (Nat.le_refl _) _⟩
    show (w.alloc _).heap[w.heap.size]? = _
    rw [heap_alloc_new]
    congr 2
    rw [← hd2, List.map_map]
    congr 1
  clear hl hl1 hl2
  generalize linesS l = L at *
  generalize (normS l).toArray = N at *
  generalize (rep [13, 10] [10] l).toArray = M at *
  generalize l.toArray = A at *
  go_enter Tryz.func130, Tryz.ntmps130
  go_wp2_with (first
    | (go_at_call 143; refine (S _ g2).mono ?_; rintro e w3 ⟨⟨G, hG, rfl, hrow⟩, hb3⟩)
    | (go_at_call 142; refine (R2 _ g1).mono ?_; rintro e w2 ⟨rfl, hb2⟩; have g2 := g1.below hb2 (Nat.le_refl _))
    | (go_at_call 142; refine (R1 _ g).mono ?_; rintro e w1 ⟨rfl, hb1⟩; have g1 := g.below hb1 (Nat.le_refl _))
    | fail)
  go_ret
  have s1 := hb1.size
  have s2 := hb2.size
  exact ⟨⟨G, by omega, rfl, hrow⟩, (hb1.trans (hb2.mono hb1.size)).trans (hb3.mono (Nat.le_trans s1 s2))⟩
end Go.Proofs.YthficamlgngaaaaGreatDoor
namespace Go.Proofs.YthficamlgngaaaaGreatDoor
open Go Go.RowKit

/-- The common indent as the loop keeps it: its number, and whether there is one. -/
def cmN (a : Option Nat) : Nat := a.getD 0
theorem commonS_step (x : Bs) (xs : List Bs) (a : Option Nat) : commonS (x :: xs) a = commonS xs (if blankB x then a else match a with
    | none => some (indS x)
    | some n => if indS x < n then some (indS x) else some n) := rfl

set_option maxHeartbeats 2000000 in
theorem common_any (G o : Nat) (L : List Bs) (w : World) (h : StrRow w G L) (ho : o ≤ L.length) (hs : ∀ x ∈ L, x.length ≤ 4294967280) (hn : L.length ≤ 4294967281) :
    Calls Tryz.prog 131 #[.slice (some ⟨G, o, none⟩) (L.length - o) (L.length - o)] w fun e w' => e = .returned (.int .i64 ((cmN (commonS (L.drop o) none) : Nat) : Int)) ∧ Below w.heap.size w w' := by
  have hG := h.lt
  have hlen : (L.drop o).length = L.length - o := List.length_drop
  go_enter Tryz.func131, Tryz.ntmps131
  go_wp2
  go_loopw [3, 4, 10] (fun c f i wr => ∃ (j : Nat) (a : Option Nat), j ≤ L.length - o ∧ i = .int .i64 j ∧ c = .int .i64 ((cmN a : Nat) : Int) ∧ f = .bool a.isSome ∧ commonS ((L.drop o).drop j) a = commonS (L.drop o) none ∧ Below w.heap.size w wr) (fun _ _ i _ => L.length - o - (intOf i).toNat)
  case atStart => exact ⟨0, none, Nat.zero_le _, rfl, rfl, rfl, rfl, Below.refl _ _⟩
  case round =>
    obtain ⟨j, a, hj, rfl, rfl, rfl, hc, hb⟩ := hrel
    by_cases hlt : j < L.length - o
    · have hx : (L.drop o).drop j = (L.drop o)[j] :: (L.drop o).drop (j + 1) := List.drop_eq_getElem_cons (by rw [hlen]; exact hlt)
      have hcell := (h.below hb hG).cell (o + j) (by omega)
      have hge : (L.drop o)[j] = L[o + j] := List.getElem_drop
      have hxl : (L[o + j]).length ≤ 4294967280 := hs _ (List.getElem_mem _)
      rw [hx, hge, commonS_step] at hc
      have I := fun w => indent_any (L[o + j]) hxl w
      have B := fun w => blank_any (L[o + j]) hxl w
      have hI : (j : Int) < ((L.length - o : Nat) : Int) := by omega
      have HC := hc
      clear hx hge hc
      generalize L[o + j] = x at *
      have HLT : Hid (j < L.length - o) := hlt
      clear hlt hj
      have hin : (0 : Int) ≤ ((indS x : Nat) : Int) := by omega
      by_cases hbl : blankB x = true
      · rw [hbl] at B HC
        have HH : Hid (commonS ((L.drop o).drop (j + 1)) a = commonS (L.drop o) none) := HC
        clear HC hbl
        go_wp2_with (first
          | (go_at_call 132; refine (B _).mono ?_; rintro e w2 ⟨rfl, hb2⟩)
          | (go_at_call 144; refine (I _).mono ?_; rintro e w1 ⟨rfl, hb1⟩)
          | fail)
        refine ⟨⟨j + 1, a, HLT.out, by go_num, rfl, rfl, HH.out, (hb.trans (hb1.mono hb.size)).trans (hb2.mono (Nat.le_trans hb.size hb1.size))⟩, ?_⟩
        have := HLT.out
        simp [intOf]; omega
      · have hbl' : blankB x = false := Bool.eq_false_iff.2 hbl
        rw [hbl'] at B HC
        cases a with
        | none =>
          have HH : Hid (commonS ((L.drop o).drop (j + 1)) (some (indS x)) = commonS (L.drop o) none) := HC
          clear HC hbl hbl'
          go_wp2_with (first
            | (go_at_call 132; refine (B _).mono ?_; rintro e w2 ⟨rfl, hb2⟩)
            | (go_at_call 144; refine (I _).mono ?_; rintro e w1 ⟨rfl, hb1⟩)
            | fail)
          refine ⟨⟨j + 1, some (indS x), HLT.out, by go_num, rfl, rfl, HH.out, (hb.trans (hb1.mono hb.size)).trans (hb2.mono (Nat.le_trans hb.size hb1.size))⟩, ?_⟩
          have := HLT.out
          simp [intOf]; omega
        | some n =>
          by_cases hlt2 : indS x < n
          · have HH : Hid (commonS ((L.drop o).drop (j + 1)) (some (indS x)) = commonS (L.drop o) none) := by
              show _ = _
              rw [← HC]
              simp [hlt2]
            have hd : ((indS x : Nat) : Int) < ((cmN (some n) : Nat) : Int) := by show ((indS x : Nat) : Int) < (n : Int); omega
            clear HC hbl hbl' hlt2
            go_wp2_with (first
              | (go_at_call 132; refine (B _).mono ?_; rintro e w2 ⟨rfl, hb2⟩)
              | (go_at_call 144; refine (I _).mono ?_; rintro e w1 ⟨rfl, hb1⟩)
              | fail)
            refine ⟨⟨j + 1, some (indS x), HLT.out, by go_num, rfl, rfl, HH.out, (hb.trans (hb1.mono hb.size)).trans (hb2.mono (Nat.le_trans hb.size hb1.size))⟩, ?_⟩
            have := HLT.out
            simp [intOf]; omega
          · have HH : Hid (commonS ((L.drop o).drop (j + 1)) (some n) = commonS (L.drop o) none) := by
              show _ = _
              rw [← HC]
              simp [hlt2]
            have hd : ¬ ((indS x : Nat) : Int) < ((cmN (some n) : Nat) : Int) := by show ¬ ((indS x : Nat) : Int) < (n : Int); omega
            clear HC hbl hbl' hlt2
            go_wp2_with (first
              | (go_at_call 132; refine (B _).mono ?_; rintro e w2 ⟨rfl, hb2⟩)
              | (go_at_call 144; refine (I _).mono ?_; rintro e w1 ⟨rfl, hb1⟩)
              | fail)
            refine ⟨⟨j + 1, some n, HLT.out, by go_num, rfl, rfl, HH.out, (hb.trans (hb1.mono hb.size)).trans (hb2.mono (Nat.le_trans hb.size hb1.size))⟩, ?_⟩
            have := HLT.out
            simp [intOf]; omega
    · obtain rfl : j = L.length - o := by omega
      have HH : Hid (a = commonS (L.drop o) none) := by
        show _ = _
        rw [← hc, ← hlen, List.drop_length]; rfl
      clear hc
      go_wp2
      go_ret
      exact ⟨by rw [← HH.out]; rfl, hb⟩
end Go.Proofs.YthficamlgngaaaaGreatDoor
