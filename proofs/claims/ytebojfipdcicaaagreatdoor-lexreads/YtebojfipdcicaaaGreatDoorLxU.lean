/- The common indent; what a block string says. -/
import Derived.Test.YtebojfipdcicaaaGreatDoorLxP
import Derived.Lib.Replace
import Derived.Lib.SplitLaws
import Derived.Lib.Join
import Derived.Shelf.Strings.SlTrimAscii
namespace Go.Proofs.YtebojfipdcicaaaGreatDoor
open Go Go.Lib

theorem index_cons_no {c : UInt8} {l old : Bs} (h : old.isPrefixOf (c :: l) = false) : index (c :: l) old = if index l old == -1 then -1 else index l old + 1 := by
  rw [index, if_neg (by rw [h]; simp)]
theorem index_cons_yes {c : UInt8} {l old : Bs} (h : old.isPrefixOf (c :: l) = true) : index (c :: l) old = 0 := by
  rw [index, if_pos h]
theorem count_cons_no {c : UInt8} {l old : Bs} (ho : old ≠ []) (h : old.isPrefixOf (c :: l) = false) : count (c :: l) old = count l old := by
  have hi := index_cons_no h
  by_cases hm : index l old = -1
  · rw [hm] at hi
    rw [count_miss hm, count_miss (by rw [hi]; rfl)]
  · have hge := index_ge l old
    obtain ⟨i, hi2⟩ : ∃ i : Nat, index l old = i := ⟨(index l old).toNat, by omega⟩
    have hi3 : index (c :: l) old = ((i + 1 : Nat) : Int) := by
      rw [hi, if_neg (by simpa using hm), hi2]; omega
    rw [count_hit ho hi2, count_hit ho hi3, show i + 1 + old.length = (i + old.length) + 1 by omega, List.drop_succ_cons]
theorem replaceK_no {c : UInt8} {l old new : Bs} (h : old.isPrefixOf (c :: l) = false) : ∀ k, replaceK old new k (c :: l) = c :: replaceK old new k l
  | 0 => rfl
  | k + 1 => by
    have hi := index_cons_no h
    by_cases hm : index l old = -1
    · rw [hm] at hi
      have hi' : index (c :: l) old = -1 := by rw [hi]; rfl
      rw [replaceK, if_pos (by rw [hi']; rfl), replaceK, if_pos (by rw [hm]; rfl)]
    · have hge := index_ge l old
      obtain ⟨i, hi2⟩ : ∃ i : Nat, index l old = i := ⟨(index l old).toNat, by omega⟩
      have hi3 : index (c :: l) old = ((i + 1 : Nat) : Int) := by
        rw [hi, if_neg (by simpa using hm), hi2]; omega
      rw [replaceK_hit old new k l i hi2, replaceK_hit old new k (c :: l) (i + 1) hi3, show i + 1 + old.length = (i + old.length) + 1 by omega, List.drop_succ_cons, List.take_succ_cons]
      rfl
/-- All instances replaced, from the left. -/
def rep (old new s : Bs) : Bs := replaceK old new (count s old) s
theorem rep_nil {old new : Bs} (ho : old ≠ []) : rep old new [] = [] := by
  unfold rep
  have : index ([] : Bs) old = -1 := by
    rw [index, if_neg]
    cases old with
    | nil => exact absurd rfl ho
    | cons c l => simp
  rw [count_miss this]
  rfl
theorem rep_no {c : UInt8} {l old new : Bs} (ho : old ≠ []) (h : old.isPrefixOf (c :: l) = false) : rep old new (c :: l) = c :: rep old new l := by
  unfold rep
  rw [count_cons_no ho h, replaceK_no h]
theorem rep_yes {c : UInt8} {l old new : Bs} (ho : old ≠ []) (h : old.isPrefixOf (c :: l) = true) : rep old new (c :: l) = new ++ rep old new ((c :: l).drop old.length) := by
  have h0 : index (c :: l) old = ((0 : Nat) : Int) := index_cons_yes h
  unfold rep
  rw [count_hit ho h0, Nat.zero_add, Nat.add_comm, replaceK_hit old new _ _ 0 h0, Nat.zero_add]
  rfl
theorem replaceAll_rep {s old new : Bs} (hne : (old == new) = false) : replaceAll s old new = rep old new s := by
  unfold replaceAll replace replaceNum rep
  rw [if_neg (by rw [hne]; simp), if_pos (Or.inl (by decide))]
theorem rep_len (old new : Bs) (h : new.length ≤ old.length) (ho : old ≠ []) : ∀ (n : Nat) (s : Bs), s.length ≤ n → (rep old new s).length ≤ s.length
  | 0, s, hs => by
    have : s = [] := List.length_eq_zero_iff.1 (by omega)
    subst this
    rw [rep_nil ho]; simp
  | n + 1, [], _ => by rw [rep_nil ho]; simp
  | n + 1, c :: l, hs => by
    simp only [List.length_cons] at hs
    by_cases hp : old.isPrefixOf (c :: l) = true
    · rw [rep_yes ho hp, List.length_append]
      have h1 := (List.isPrefixOf_iff_prefix.1 hp).length_le
      have h2 : 0 < old.length := List.length_pos_iff.2 ho
      have h3 := rep_len old new h ho n ((c :: l).drop old.length) (by rw [List.length_drop, List.length_cons]; omega)
      rw [List.length_drop] at h3
      omega
    · rw [rep_no ho (Bool.eq_false_iff.2 hp), List.length_cons, List.length_cons]
      have := rep_len old new h ho n l (by omega)
      omega
theorem rep13 : ∀ l : Bs, rep [13] [10] l = l.map fun c => if c = 13 then 10 else c
  | [] => rep_nil (by simp)
  | c :: l => by
    by_cases h : c = 13
    · subst h
      rw [rep_yes (by simp) (by simp [List.isPrefixOf])]
      show [10] ++ rep [13] [10] l = _
      rw [rep13 l]
      simp
    · rw [rep_no (by simp) (by simp [List.isPrefixOf]; exact fun e => h e.symm), rep13 l, List.map_cons, if_neg h]
theorem norm_rep : ∀ (n : Nat) (l : Bs), l.length ≤ n → rep [13] [10] (rep [13, 10] [10] l) = normS l
  | _, [], _ => by rw [rep_nil (by simp), rep_nil (by simp)]; rfl
  | _, [c], _ => by
    rw [rep_no (by simp) (by simp [List.isPrefixOf]), rep_nil (by simp), rep13]
    rfl
  | 0, _ :: _ :: _, h => by simp at h
  | n + 1, c :: d :: l, h => by
    simp only [List.length_cons] at h
    by_cases hc : c = 13
    · subst hc
      by_cases hd : d = 10
      · subst hd
        rw [rep_yes (by simp) (by simp [List.isPrefixOf])]
        show rep [13] [10] (10 :: rep [13, 10] [10] l) = _
        rw [rep_no (by simp) (by simp [List.isPrefixOf]), norm_rep n l (by omega)]
        simp [normS]
      · rw [rep_no (by simp) (by simp [List.isPrefixOf]; exact fun e => hd e.symm), rep_yes (by simp) (by simp [List.isPrefixOf])]
        show [10] ++ rep [13] [10] (rep [13, 10] [10] (d :: l)) = _
        rw [norm_rep n (d :: l) (by simp; omega)]
        simp [normS, hd]
    · rw [rep_no (by simp) (by simp [List.isPrefixOf]; intro e; exact absurd e.symm hc), rep_no (by simp) (by simp [List.isPrefixOf]; exact fun e => hc e.symm), norm_rep n (d :: l) (by simp; omega)]
      simp [normS, hc]
theorem splitK_no {c : UInt8} {l : Bs} (h : c ≠ 10) : ∀ k, splitK [10] 0 k (c :: l) = match splitK [10] 0 k l with
    | [] => [[c]]
    | x :: xs => (c :: x) :: xs
  | 0 => rfl
  | k + 1 => by
    have hp : List.isPrefixOf [10] (c :: l) = false := by simp [List.isPrefixOf]; exact fun e => h e.symm
    have hi := index_cons_no hp
    by_cases hm : index l [10] = -1
    · rw [hm] at hi
      have hi' : index (c :: l) [10] = -1 := by rw [hi]; rfl
      rw [splitK, if_pos (by rw [hi']; rfl), splitK, if_pos (by rw [hm]; rfl)]
    · have hge := index_ge l [10]
      obtain ⟨i, hi2⟩ : ∃ i : Nat, index l [10] = i := ⟨(index l [10]).toNat, by omega⟩
      have hi3 : index (c :: l) [10] = ((i + 1 : Nat) : Int) := by
        rw [hi, if_neg (by simpa using hm), hi2]; omega
      have e1 : (((i + 1 : Nat) : Int)).toNat = i + 1 := by omega
      have e2 : ((i : Nat) : Int).toNat = i := by omega
      rw [splitK, if_neg (by rw [hi3]; simp; omega), splitK, if_neg (by simpa using hm), hi3, hi2, e1, e2]
      simp
theorem split_eq : ∀ l : Bs, splitK [10] 0 (count l [10]) l = split10 l
  | [] => by
    rw [show count ([] : Bs) [10] = 0 by decide]
    rfl
  | c :: l => by
    by_cases h : c = 10
    · subst h
      rw [count_cons_eq, Nat.add_comm, splitK, if_neg (by rw [index_cons_yes (by simp [List.isPrefixOf])]; decide), index_cons_yes (by simp [List.isPrefixOf])]
      show [] :: splitK [10] 0 (count l [10]) l = _
      rw [split_eq l]
      simp [split10]
    · rw [count_cons_ne c 10 l h, splitK_no h, split_eq l]
      conv => rhs; unfold split10
      rw [if_neg h]
      cases split10 l <;> rfl
theorem split10_ne : ∀ l : Bs, split10 l ≠ []
  | [] => by simp [split10]
  | c :: l => by
    unfold split10
    split
    · simp
    · cases split10 l <;> simp
theorem join_eq : ∀ xs : List Bs, Lib.join xs [10] = joinS xs
  | [] => rfl
  | [x] => join_one x [10]
  | x :: y :: xs => by
    rw [join_cons]
    have := join_eq (y :: xs)
    rw [join_cons] at this
    show x ++ joinTail [10] (y :: xs) = x ++ 10 :: joinS (y :: xs)
    rw [← this]
    simp [joinTail]
theorem trimLeft_eq (S : Bs) : ∀ l : Bs, Lib.trimLeftS l S = spanR S l
  | [] => rfl
  | c :: l => by
    unfold Lib.trimLeftS spanR
    rw [List.dropWhile_cons]
    by_cases h : S.contains c = true
    · rw [if_pos h, if_pos h]; exact trimLeft_eq S l
    · rw [if_neg h, if_neg h]
end Go.Proofs.YtebojfipdcicaaaGreatDoor
namespace Go.Proofs
open Go Go.RowKit
theorem Tryz.strings_TrimLeft_blank (s : ByteArray) (w : World) :
    Calls Tryz.prog 70 #[.string s, .string ⟨#[9, 32]⟩] w fun e w' => e = .returned (.string ⟨(Lib.trimLeftS s.data.toList [9, 32]).toArray⟩) ∧ Below w.heap.size w w' :=
  Any.strings_TrimLeft_laid Tryz.lays161 (by kernel_rfl) s ⟨#[9, 32]⟩ w (by decide) (ascii_of_all (by decide))
end Go.Proofs
namespace Go.Proofs.YtebojfipdcicaaaGreatDoor
open Go Go.RowKit

theorem indent_any (l : Bs) (hl : l.length ≤ 4294967280) (w : World) : Calls Tryz.prog 51 #[.string ⟨l.toArray⟩] w fun e w' => e = .returned (.int .i64 ((indS l : Nat) : Int)) ∧ Below w.heap.size w w' := by
  have T := fun w => Tryz.strings_TrimLeft_blank ⟨l.toArray⟩ w
  have e : Lib.trimLeftS (ByteArray.mk l.toArray).data.toList [9, 32] = spanR [9, 32] l := trimLeft_eq [9, 32] l
  rw [e] at T
  have h1 := size_of l
  have h2 := size_of (spanR [9, 32] l)
  have h3 := (spanR_suf [9, 32] l).length_le
  have HE : Hid ((l.length : Int) - ((spanR [9, 32] l).length : Int) = ((indS l : Nat) : Int)) := by
    show _ = _
    unfold indS; omega
  have g1 : (l.length : Int) ≤ 4294967280 := by omega
  have g2 : ((spanR [9, 32] l).length : Int) ≤ (l.length : Int) := by omega
  have g3 : (0 : Int) ≤ ((spanR [9, 32] l).length : Int) := by omega
  clear e h3 hl
  generalize (spanR [9, 32] l).length = m at *
  generalize (ByteArray.mk (spanR [9, 32] l).toArray) = M at *
  generalize (ByteArray.mk l.toArray) = L at *
  go_enter Tryz.func51, Tryz.ntmps51
  go_wp2_with (go_at_call 70; refine (T _).mono ?_; rintro e w1 ⟨rfl, hb⟩)
  go_ret
  exact ⟨by rw [← HE.out]; rfl, hb⟩
theorem blank_any (l : Bs) (hl : l.length ≤ 4294967280) (w : World) : Calls Tryz.prog 26 #[.string ⟨l.toArray⟩] w fun e w' => e = .returned (.bool (blankB l)) ∧ Below w.heap.size w w' := by
  have I := fun w => indent_any l hl w
  have h1 := size_of l
  have HE : Hid (blankB l = (((indS l : Nat) : Int) == (l.length : Int))) := by
    show _ = _
    unfold blankB
    rw [Bool.eq_iff_iff]
    simp
    omega
  generalize indS l = m at *
  generalize (ByteArray.mk l.toArray) = L at *
  go_enter Tryz.func26, Tryz.ntmps26
  go_wp2_with (go_at_call 51; refine (I _).mono ?_; rintro e w1 ⟨rfl, hb⟩)
  go_ret
  refine ⟨?_, hb⟩
  rw [HE.out]
  rfl
/-- A row of texts in a block. -/
def StrRow (w : World) (G : Nat) (L : List Bs) : Prop := w.heap[G]? = some (.cells (L.map fun x => Value.string ⟨x.toArray⟩).toArray 9 (0, 0))
theorem StrRow.below {w w' : World} {G B : Nat} {L : List Bs} (h : StrRow w G L) (hb : Below B w w') (hG : G < B) : StrRow w' G L := (hb.block G hG).trans h
theorem StrRow.cell {w : World} {G : Nat} {L : List Bs} (h : StrRow w G L) (i : Nat) (hi : i < L.length) : w.cell? ⟨G, i, none⟩ = some (.string ⟨L[i].toArray⟩) := by
  unfold World.cell?
  rw [show w.heap[G]? = _ from h]
  simp [hi]
theorem StrRow.free {w : World} {G : Nat} {L : List Bs} (h : StrRow w G L) (i : Nat) : w.frozen? ⟨G, i, none⟩ = false := frozen_of_row w G i _ _ h
theorem StrRow.lt {w : World} {G : Nat} {L : List Bs} (h : StrRow w G L) : G < w.heap.size := lt_of_block h
theorem StrRow.set {w : World} {G : Nat} {L : List Bs} (h : StrRow w G L) (i : Nat) (x : Bs) : StrRow (w.setCell ⟨G, i, none⟩ (.string ⟨x.toArray⟩)) G (L.set i x) := by
  have := heap_setCell_same w G i _ _ (.string ⟨x.toArray⟩) h
  unfold StrRow
  rw [this]
  congr 2
  apply Array.toList_inj.1
  simp [List.map_set]

theorem linesOf_any (l : Bs) (hl : l.length ≤ 4294967280) (w : World) (g : Gl w) : Calls Tryz.prog 24 #[.string ⟨l.toArray⟩] w fun e w' => (∃ G, w.heap.size ≤ G ∧ e = .returned (.slice (some ⟨G, 0, none⟩) (linesS l).length (linesS l).length) ∧ StrRow w' G (linesS l)) ∧ Below w.heap.size w w' := by
  have hl1 : (rep [13, 10] [10] l).length ≤ l.length := rep_len _ _ (by simp) (by simp) _ l (Nat.le_refl _)
  have hl2 : (rep [13] [10] (rep [13, 10] [10] l)).length ≤ l.length := Nat.le_trans (rep_len _ _ (by simp) (by simp) _ _ (Nat.le_refl _)) hl1
  have R1 : ∀ w, Gl w → Calls Tryz.prog 49 #[.string ⟨l.toArray⟩, .string ⟨#[13, 10]⟩, .string ⟨#[10]⟩] w fun e w' => e = .returned (.string ⟨(rep [13, 10] [10] l).toArray⟩) ∧ Below w.heap.size w w' := by
    intro w g
    obtain ⟨m, hm⟩ := g.mx
    have := Tryz.strings_ReplaceAll ⟨l.toArray⟩ ⟨#[13, 10]⟩ ⟨#[10]⟩ m w (by rw [size_of]; omega) hm (by decide) (by
      have h1 := Lib.countB_le ⟨#[13, 10]⟩ (by decide) (ByteArray.mk l.toArray).size ⟨l.toArray⟩ (Nat.le_refl _)
      rw [size_of] at h1 ⊢
      have h2 : (ByteArray.mk #[10]).size = 1 := rfl
      rw [h2]; omega)
    rw [replaceAll_rep (by decide)] at this
    exact this
  have R2 : ∀ w, Gl w → Calls Tryz.prog 49 #[.string ⟨(rep [13, 10] [10] l).toArray⟩, .string ⟨#[13]⟩, .string ⟨#[10]⟩] w fun e w' => e = .returned (.string ⟨(rep [13] [10] (rep [13, 10] [10] l)).toArray⟩) ∧ Below w.heap.size w w' := by
    intro w g
    obtain ⟨m, hm⟩ := g.mx
    have := Tryz.strings_ReplaceAll ⟨(rep [13, 10] [10] l).toArray⟩ ⟨#[13]⟩ ⟨#[10]⟩ m w (by rw [size_of]; omega) hm (by decide) (by
      have h1 := Lib.countB_le ⟨#[13]⟩ (by decide) (ByteArray.mk (rep [13, 10] [10] l).toArray).size ⟨(rep [13, 10] [10] l).toArray⟩ (Nat.le_refl _)
      rw [size_of] at h1 ⊢
      have h2 : (ByteArray.mk #[10]).size = 1 := rfl
      rw [h2]; omega)
    rw [replaceAll_rep (by decide)] at this
    exact this
  rw [norm_rep _ l (Nat.le_refl _)] at R2 hl2
  have S : ∀ w, Gl w → Calls Tryz.prog 50 #[.string ⟨(normS l).toArray⟩, .string ⟨#[10]⟩] w fun e w' => (∃ G, w.heap.size ≤ G ∧ e = .returned (.slice (some ⟨G, 0, none⟩) (linesS l).length (linesS l).length) ∧ StrRow w' G (linesS l)) ∧ Below w.heap.size w w' := by
    intro w g
    obtain ⟨m, hm⟩ := g.mx
    refine (Tryz.strings_Split ⟨(normS l).toArray⟩ ⟨#[10]⟩ m w (by rw [size_of]; omega) hm (by decide)).mono ?_
    rintro e w' ⟨rfl, rfl⟩
    have hd := Lib.splitB_data ⟨#[10]⟩ 0 (Lib.countB ⟨(normS l).toArray⟩ ⟨#[10]⟩) ⟨(normS l).toArray⟩
    have hs : Lib.splitK [10] 0 (Lib.count (normS l) [10]) (normS l) = linesS l := split_eq (normS l)
    have hd2 : (Lib.splitB ⟨#[10]⟩ 0 (Lib.countB ⟨(normS l).toArray⟩ ⟨#[10]⟩) ⟨(normS l).toArray⟩).map (·.data.toList) = linesS l := hd.trans hs
    have hlen := Lib.splitB_all ⟨#[10]⟩ (by decide) 0 _ (ByteArray.mk (normS l).toArray) rfl
    have hlen2 : (linesS l).length = Lib.countB ⟨(normS l).toArray⟩ ⟨#[10]⟩ + 1 := by rw [← hd2, List.length_map]; exact hlen
    refine ⟨⟨w.heap.size, Nat.le_refl _, by rw [hlen2], ?_⟩, (Below.refl _ _).alloc (Nat.le_refl _) _⟩
    show (w.alloc _).heap[w.heap.size]? = _
    rw [heap_alloc_new]
    congr 2
    rw [← hd2, List.map_map]
    congr 1
  clear hl hl1 hl2
  generalize linesS l = L at *
  generalize (normS l).toArray = N at *
  generalize (rep [13, 10] [10] l).toArray = M at *
  generalize l.toArray = A at *
  go_enter Tryz.func24, Tryz.ntmps24
  go_wp2_with (first
    | (go_at_call 50; refine (S _ g2).mono ?_; rintro e w3 ⟨⟨G, hG, rfl, hrow⟩, hb3⟩)
    | (go_at_call 49; refine (R2 _ g1).mono ?_; rintro e w2 ⟨rfl, hb2⟩; have g2 := g1.below hb2 (Nat.le_refl _))
    | (go_at_call 49; refine (R1 _ g).mono ?_; rintro e w1 ⟨rfl, hb1⟩; have g1 := g.below hb1 (Nat.le_refl _))
    | fail)
  go_ret
  have s1 := hb1.size
  have s2 := hb2.size
  exact ⟨⟨G, by omega, rfl, hrow⟩, (hb1.trans (hb2.mono hb1.size)).trans (hb3.mono (Nat.le_trans s1 s2))⟩
end Go.Proofs.YtebojfipdcicaaaGreatDoor
namespace Go.Proofs.YtebojfipdcicaaaGreatDoor
open Go Go.RowKit

/-- The common indent as the loop keeps it: its number, and whether there is one. -/
def cmN (a : Option Nat) : Nat := a.getD 0
theorem commonS_step (x : Bs) (xs : List Bs) (a : Option Nat) : commonS (x :: xs) a = commonS xs (if blankB x then a else match a with
    | none => some (indS x)
    | some n => if indS x < n then some (indS x) else some n) := rfl

set_option maxHeartbeats 2000000 in
theorem common_any (G o : Nat) (L : List Bs) (w : World) (h : StrRow w G L) (ho : o ≤ L.length) (hs : ∀ x ∈ L, x.length ≤ 4294967280) (hn : L.length ≤ 4294967281) :
    Calls Tryz.prog 25 #[.slice (some ⟨G, o, none⟩) (L.length - o) (L.length - o)] w fun e w' => e = .returned (.int .i64 ((cmN (commonS (L.drop o) none) : Nat) : Int)) ∧ Below w.heap.size w w' := by
  have hG := h.lt
  have hlen : (L.drop o).length = L.length - o := List.length_drop
  go_enter Tryz.func25, Tryz.ntmps25
  go_wp2
  go_loopw [3, 4, 10] (fun c f i wr => ∃ (j : Nat) (a : Option Nat), j ≤ L.length - o ∧ i = .int .i64 j ∧ c = .int .i64 ((cmN a : Nat) : Int) ∧ f = .bool a.isSome ∧ commonS ((L.drop o).drop j) a = commonS (L.drop o) none ∧ Below w.heap.size w wr) (fun _ _ i _ => L.length - o - (intOf i).toNat)
  case atStart => exact ⟨0, none, Nat.zero_le _, rfl, rfl, rfl, rfl, Below.refl _ _⟩
  case round =>
    obtain ⟨j, a, hj, rfl, rfl, rfl, hc, hb⟩ := hrel
    by_cases hlt : j < L.length - o
    · have hx : (L.drop o).drop j = (L.drop o)[j] :: (L.drop o).drop (j + 1) := List.drop_eq_getElem_cons (by rw [hlen]; exact hlt)
      have hcell := (h.below hb hG).cell (o + j) (by omega)
      have hge : (L.drop o)[j] = L[o + j] := List.getElem_drop
      have hxl : (L[o + j]).length ≤ 4294967280 := hs _ (List.getElem_mem _)
      rw [hx, hge, commonS_step] at hc
      have I := fun w => indent_any (L[o + j]) hxl w
      have B := fun w => blank_any (L[o + j]) hxl w
      have hI : (j : Int) < ((L.length - o : Nat) : Int) := by omega
      have HC := hc
      clear hx hge hc
      generalize L[o + j] = x at *
      have HLT : Hid (j < L.length - o) := hlt
      clear hlt hj
      have hin : (0 : Int) ≤ ((indS x : Nat) : Int) := by omega
      by_cases hbl : blankB x = true
      · rw [hbl] at B HC
        have HH : Hid (commonS ((L.drop o).drop (j + 1)) a = commonS (L.drop o) none) := HC
        clear HC hbl
        go_wp2_with (first
          | (go_at_call 26; refine (B _).mono ?_; rintro e w2 ⟨rfl, hb2⟩)
          | (go_at_call 51; refine (I _).mono ?_; rintro e w1 ⟨rfl, hb1⟩)
          | fail)
        refine ⟨⟨j + 1, a, HLT.out, by go_num, rfl, rfl, HH.out, (hb.trans (hb1.mono hb.size)).trans (hb2.mono (Nat.le_trans hb.size hb1.size))⟩, ?_⟩
        have := HLT.out
        simp [intOf]; omega
      · have hbl' : blankB x = false := Bool.eq_false_iff.2 hbl
        rw [hbl'] at B HC
        cases a with
        | none =>
          have HH : Hid (commonS ((L.drop o).drop (j + 1)) (some (indS x)) = commonS (L.drop o) none) := HC
          clear HC hbl hbl'
          go_wp2_with (first
            | (go_at_call 26; refine (B _).mono ?_; rintro e w2 ⟨rfl, hb2⟩)
            | (go_at_call 51; refine (I _).mono ?_; rintro e w1 ⟨rfl, hb1⟩)
            | fail)
          refine ⟨⟨j + 1, some (indS x), HLT.out, by go_num, rfl, rfl, HH.out, (hb.trans (hb1.mono hb.size)).trans (hb2.mono (Nat.le_trans hb.size hb1.size))⟩, ?_⟩
          have := HLT.out
          simp [intOf]; omega
        | some n =>
          by_cases hlt2 : indS x < n
          · have HH : Hid (commonS ((L.drop o).drop (j + 1)) (some (indS x)) = commonS (L.drop o) none) := by
              show _ = _
              rw [← HC]
              simp [hlt2]
            have hd : ((indS x : Nat) : Int) < ((cmN (some n) : Nat) : Int) := by show ((indS x : Nat) : Int) < (n : Int); omega
            clear HC hbl hbl' hlt2
            go_wp2_with (first
              | (go_at_call 26; refine (B _).mono ?_; rintro e w2 ⟨rfl, hb2⟩)
              | (go_at_call 51; refine (I _).mono ?_; rintro e w1 ⟨rfl, hb1⟩)
              | fail)
            refine ⟨⟨j + 1, some (indS x), HLT.out, by go_num, rfl, rfl, HH.out, (hb.trans (hb1.mono hb.size)).trans (hb2.mono (Nat.le_trans hb.size hb1.size))⟩, ?_⟩
            have := HLT.out
            simp [intOf]; omega
          · have HH : Hid (commonS ((L.drop o).drop (j + 1)) (some n) = commonS (L.drop o) none) := by
              show _ = _
              rw [← HC]
              simp [hlt2]
            have hd : ¬ ((indS x : Nat) : Int) < ((cmN (some n) : Nat) : Int) := by show ¬ ((indS x : Nat) : Int) < (n : Int); omega
            clear HC hbl hbl' hlt2
            go_wp2_with (first
              | (go_at_call 26; refine (B _).mono ?_; rintro e w2 ⟨rfl, hb2⟩)
              | (go_at_call 51; refine (I _).mono ?_; rintro e w1 ⟨rfl, hb1⟩)
              | fail)
            refine ⟨⟨j + 1, some n, HLT.out, by go_num, rfl, rfl, HH.out, (hb.trans (hb1.mono hb.size)).trans (hb2.mono (Nat.le_trans hb.size hb1.size))⟩, ?_⟩
            have := HLT.out
            simp [intOf]; omega
    · obtain rfl : j = L.length - o := by omega
      have HH : Hid (a = commonS (L.drop o) none) := by
        show _ = _
        rw [← hc, ← hlen, List.drop_length]; rfl
      clear hc
      go_wp2
      go_ret
      exact ⟨by rw [← HH.out]; rfl, hb⟩
end Go.Proofs.YtebojfipdcicaaaGreatDoor
