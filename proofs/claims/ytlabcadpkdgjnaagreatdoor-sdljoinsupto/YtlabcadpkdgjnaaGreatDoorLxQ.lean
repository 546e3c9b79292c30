/- Lines, as the library cuts them: the plain mathematics. -/
import Derived.Test.YtlabcadpkdgjnaaGreatDoorLxP
import Derived.Lib.Replace
import Derived.Lib.SplitLaws
import Derived.Lib.Join
import Derived.Shelf.Strings.SlTrimAscii
namespace Go.Proofs.YtlabcadpkdgjnaaGreatDoor
open Go Go.Lib

theorem index_cons_no {c : UInt8} {l old : Bs} (h : old.isPrefixOf (c :: l) = false) : index (c :: l) old = if index l old == -1 then -1 else index l old + 1 := by
  rw [index, if_neg (by rw [h]; simp)]
theorem index_cons_yes {c : UInt8} {l old : Bs} (h : old.isPrefixOf (c :: l) = true) : index (c :: l) old = 0 := by
  rw [index, if_pos h]
theorem count_cons_no {c : UInt8} {l old : Bs} (ho : old ≠ []) (h : old.isPrefixOf (c :: l) = false) : count (c :: l) old = count l old := by
  have hi := index_cons_no h
  by_cases hm : index l old = -1
  · rw [hm] at hi
    rw [count_miss hm, count_miss (by rw [hi]; rfl)]
  · have hge := index_ge l old
    obtain ⟨i, hi2⟩ : ∃ i : Nat, index l old = i := ⟨(index l old).toNat, by omega⟩
    have hi3 : index (c :: l) old = ((i + 1 : Nat) : Int) := by
      rw [hi, if_neg (by simpa using hm), hi2]; omega
    rw [count_hit ho hi2, count_hit ho hi3, show i + 1 + old.length = (i + old.length) + 1 by omega, List.drop_succ_cons]
theorem replaceK_no {c : UInt8} {l old new : Bs} (h : old.isPrefixOf (c :: l) = false) : ∀ k, replaceK old new k (c :: l) = c :: replaceK old new k l
  | 0 => rfl
  | k + 1 => by
    have hi := index_cons_no h
    by_cases hm : index l old = -1
    · rw [hm] at hi
      have hi' : index (c :: l) old = -1 := by rw [hi]; rfl
      rw [replaceK, if_pos (by rw [hi']; rfl), replaceK, if_pos (by rw [hm]; rfl)]
    · have hge := index_ge l old
      obtain ⟨i, hi2⟩ : ∃ i : Nat, index l old = i := ⟨(index l old).toNat, by omega⟩
      have hi3 : index (c :: l) old = ((i + 1 : Nat) : Int) := by
        rw [hi, if_neg (by simpa using hm), hi2]; omega
      rw [replaceK_hit old new k l i hi2, replaceK_hit old new k (c :: l) (i + 1) hi3, show i + 1 + old.length = (i + old.length) + 1 by omega, List.drop_succ_cons, List.take_succ_cons]
      rfl
/-- All instances replaced, from the left. -/
def rep (old new s : Bs) : Bs := replaceK old new (count s old) s
theorem rep_nil {old new : Bs} (ho : old ≠ []) : rep old new [] = [] := by
  unfold rep
  have : index ([] : Bs) old = -1 := by
    rw [index, if_neg]
    cases old with
    | nil => exact absurd rfl ho
    | cons c l => simp
  rw [count_miss this]
  rfl
theorem rep_no {c : UInt8} {l old new : Bs} (ho : old ≠ []) (h : old.isPrefixOf (c :: l) = false) : rep old new (c :: l) = c :: rep old new l := by
  unfold rep
  rw [count_cons_no ho h, replaceK_no h]
theorem rep_yes {c : UInt8} {l old new : Bs} (ho : old ≠ []) (h : old.isPrefixOf (c :: l) = true) : rep old new (c :: l) = new ++ rep old new ((c :: l).drop old.length) := by
  have h0 : index (c :: l) old = ((0 : Nat) : Int) := index_cons_yes h
  unfold rep
  rw [count_hit ho h0, Nat.zero_add, Nat.add_comm, replaceK_hit old new _ _ 0 h0, Nat.zero_add]
  rfl
theorem replaceAll_rep {s old new : Bs} (hne : (old == new) = false) : replaceAll s old new = rep old new s := by
  unfold replaceAll replace replaceNum rep
  rw [if_neg (by rw [hne]; simp), if_pos (Or.inl (by decide))]
theorem rep_len (old new : Bs) (h : new.length ≤ old.length) (ho : old ≠ []) : ∀ (n : Nat) (s : Bs), s.length ≤ n → (rep old new s).length ≤ s.length
  | 0, s, hs => by
    have : s = [] := List.length_eq_zero_iff.1 (by omega)
    subst this
    rw [rep_nil ho]; simp
  | n + 1, [], _ => by rw [rep_nil ho]; simp
  | n + 1, c :: l, hs => by
    simp only [List.length_cons] at hs
    by_cases hp : old.isPrefixOf (c :: l) = true
    · rw [rep_yes ho hp, List.length_append]
      have h1 := (List.isPrefixOf_iff_prefix.1 hp).length_le
      have h2 : 0 < old.length := List.length_pos_iff.2 ho
      have h3 := rep_len old new h ho n ((c :: l).drop old.length) (by rw [List.length_drop, List.length_cons]; omega)
      rw [List.length_drop] at h3
      omega
    · rw [rep_no ho (Bool.eq_false_iff.2 hp), List.length_cons, List.length_cons]
      have := rep_len old new h ho n l (by omega)
      omega
theorem rep13 : ∀ l : Bs, rep [13] [10] l = l.map fun c => if c = 13 then 10 else c
  | [] => rep_nil (by simp)
  | c :: l => by
    by_cases h : c = 13
    · subst h
      rw [rep_yes (by simp) (by simp [List.isPrefixOf])]
      show [10] ++ rep [13] [10] l = _
      rw [rep13 l]
      simp
    · rw [rep_no (by simp) (by simp [List.isPrefixOf]; exact fun e => h e.symm), rep13 l, List.map_cons, if_neg h]
theorem norm_rep : ∀ (n : Nat) (l : Bs), l.length ≤ n → rep [13] [10] (rep [13, 10] [10] l) = normS l
  | _, [], _ => by rw [rep_nil (by simp), rep_nil (by simp)]; rfl
  | _, [c], _ => by
    rw [rep_no (by simp) (by simp [List.isPrefixOf]), rep_nil (by simp), rep13]
    rfl
  | 0, _ :: _ :: _, h => by simp at h
  | n + 1, c :: d :: l, h => by
    simp only [List.length_cons] at h
    by_cases hc : c = 13
    · subst hc
      by_cases hd : d = 10
      · subst hd
        rw [rep_yes (by simp) (by simp [List.isPrefixOf])]
        show rep [13] [10] (10 :: rep [13, 10] [10] l) = _
        rw [rep_no (by simp) (by simp [List.isPrefixOf]), norm_rep n l (by omega)]
        simp [normS]
      · rw [rep_no (by simp) (by simp [List.isPrefixOf]; exact fun e => hd e.symm), rep_yes (by simp) (by simp [List.isPrefixOf])]
        show [10] ++ rep [13] [10] (rep [13, 10] [10] (d :: l)) = _
        rw [norm_rep n (d :: l) (by simp; omega)]
        simp [normS, hd]
    · rw [rep_no (by simp) (by simp [List.isPrefixOf]; intro e; exact absurd e.symm hc), rep_no (by simp) (by simp [List.isPrefixOf]; exact fun e => hc e.symm), norm_rep n (d :: l) (by simp; omega)]
      simp [normS, hc]
theorem splitK_no {c : UInt8} {l : Bs} (h : c ≠ 10) : ∀ k, splitK [10] 0 k (c :: l) = match splitK [10] 0 k l with
    | [] => [[c]]
    | x :: xs => (c :: x) :: xs
  | 0 => rfl
  | k + 1 => by
    have hp : List.isPrefixOf [10] (c :: l) = false := by simp [List.isPrefixOf]; exact fun e => h e.symm
    have hi := index_cons_no hp
    by_cases hm : index l [10] = -1
    · rw [hm] at hi
      have hi' : index (c :: l) [10] = -1 := by rw [hi]; rfl
      rw [splitK, if_pos (by rw [hi']; rfl), splitK, if_pos (by rw [hm]; rfl)]
    · have hge := index_ge l [10]
      obtain ⟨i, hi2⟩ : ∃ i : Nat, index l [10] = i := ⟨(index l [10]).toNat, by omega⟩
      have hi3 : index (c :: l) [10] = ((i + 1 : Nat) : Int) := by
        rw [hi, if_neg (by simpa using hm), hi2]; omega
      have e1 : (((i + 1 : Nat) : Int)).toNat = i + 1 := by omega
      have e2 : ((i : Nat) : Int).toNat = i := by omega
      rw [splitK, if_neg (by rw [hi3]; simp; omega), splitK, if_neg (by simpa using hm), hi3, hi2, e1, e2]
      simp
theorem split_eq : ∀ l : Bs, splitK [10] 0 (count l [10]) l = split10 l
  | [] => by
    rw [show count ([] : Bs) [10] = 0 by decide]
    rfl
  | c :: l => by
    by_cases h : c = 10
    · subst h
      rw [count_cons_eq, Nat.add_comm, splitK, if_neg (by rw [index_cons_yes (by simp [List.isPrefixOf])]; decide), index_cons_yes (by simp [List.isPrefixOf])]
      show [] :: splitK [10] 0 (count l [10]) l = _
      rw [split_eq l]
      simp [split10]
    · rw [count_cons_ne c 10 l h, splitK_no h, split_eq l]
      conv => rhs; unfold split10
      rw [if_neg h]
      cases split10 l <;> rfl
theorem split10_ne : ∀ l : Bs, split10 l ≠ []
  | [] => by simp [split10]
  | c :: l => by
    unfold split10
    split
    · simp
    · cases split10 l <;> simp
theorem join_eq : ∀ xs : List Bs, Lib.join xs [10] = joinS xs
  | [] => rfl
  | [x] => join_one x [10]
  | x :: y :: xs => by
    rw [join_cons]
    have := join_eq (y :: xs)
    rw [join_cons] at this
    show x ++ joinTail [10] (y :: xs) = x ++ 10 :: joinS (y :: xs)
    rw [← this]
    simp [joinTail]
theorem trimLeft_eq (S : Bs) : ∀ l : Bs, Lib.trimLeftS l S = spanR S l
  | [] => rfl
  | c :: l => by
    unfold Lib.trimLeftS spanR
    rw [List.dropWhile_cons]
    by_cases h : S.contains c = true
    · rw [if_pos h, if_pos h]; exact trimLeft_eq S l
    · rw [if_neg h, if_neg h]
end Go.Proofs.YtlabcadpkdgjnaaGreatDoor
