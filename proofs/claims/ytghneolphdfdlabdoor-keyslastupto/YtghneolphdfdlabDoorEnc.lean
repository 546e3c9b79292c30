/- A part's bytes put behind a row; the bytes of a key. -/
import Derived.Test.YtghneolphdfdlabDoorEncMath
import Derived.Test.YtghneolphdfdlabDoorShelf
namespace Go.Proofs.YtghneolphdfdlabDoor
open Go Go.RowKit

/-- What the library's variable holds: some number. -/
def SomeMax (w : World) : Prop := ∃ m, w.cell? ⟨1, 0, none⟩ = some (.int .i64 m)
theorem SomeMax.lt {w : World} (h : SomeMax w) : 1 < w.heap.size := by
  obtain ⟨m, hm⟩ := h
  exact World.block_lt_of_cell? w _ hm
theorem SomeMax.below {n : Nat} {w w' : World} (h : SomeMax w) (hb : Below n w w') (hn : 1 < n) : SomeMax w' := by
  obtain ⟨m, hm⟩ := h
  exact ⟨m, (hb.cell (p := ⟨1, 0, none⟩) hn).trans hm⟩

theorem wrap_int (i : Int) : IntKind.u64.wrap (9223372036854775808 + IntKind.u64.wrap i) = ((intW i : Nat) : Int) := by
  unfold intW
  simp only [IntKind.wrap_u64]
  omega
theorem conv_nil (W : World) : (convert 34 9 (.slice none 0 0)).run Tryd.prog W = .ok (.string ⟨#[]⟩) W := by kernel_rfl
theorem strCells_eq (l : List UInt8) : Lib.strCells ⟨l.toArray⟩ = Lib.byteCells l := rfl
theorem sizeOfList (l : List UInt8) : (ByteArray.mk l.toArray).size = l.length := rfl

set_option maxHeartbeats 2000000 in
theorem putPart_0 (B : Nat) (v : Value) (l : List UInt8) (i : Int) (b : Nat) (t : ByteArray) (w : World) (ho : Bytes w B v l) (hB : B ≤ w.heap.size) (hl : l.length ≤ 100000000) :
    Calls Tryd.prog 14 #[v, .agg #[.int .i64 0, .int .i64 i, .int .u64 (b : Int), .string t]] w fun e w' => ∃ v', e = .returned v' ∧ Bytes w' B v' (l ++ encP ⟨0, i, b, t⟩) ∧ Below B w w' := by
  obtain ⟨i1, hi1, hy0, hy1, hy2⟩ := info_parts Tryd.infoByte
  go_enter Tryd.func14, Tryd.ntmps14
  go_wp2_with (first
    | (at_builtin; refine wpList_append_own _ rfl _ _ 34 rfl B 5 i1 (.int .u8 0) 1 1 Tryd.underlying34 hi1 hy0 hy1 hy2 rfl (by decide) _ _ _ rfl ((ho.alloc _).alloc _) ⟨w.heap.size + 1, 0, none⟩ 1 1 [.int .u8 1] rfl rfl ?c1 ?c2 ?c3 ?c4 ?c5 ?_))
  case c1 =>
    intro j u hj
    match j, hj with
    | 0, hj => simp at hj; subst hj; simp [Addr.add]
  case c2 => intro u hu; simp at hu; subst hu; rfl
  case c3 => unfold maxLen; omega
  case c4 => omega
  case c5 => simp; omega
  intro v' w2 hown' hgrow' _
  have hown2 : Bytes w2 B v' (l ++ [1]) := by
    unfold Bytes
    rw [cells_snoc, List.length_append]
    exact hown'
  have hbr2 : Below B w w2 := (((Below.refl B w).alloc hB _).alloc (by simp; omega) _).grown hgrow' (by simp; omega) (own_ge ho)
  have hbx : w2.heap[w.heap.size]? = some (.cells #[.int .i64 0, .int .i64 i, .int .u64 (b : Int), .string t] 29 (0, 0)) := by
    rw [hgrow'.block w.heap.size (by simp; omega) (fun e1 => by have := own_lt ho _ e1.symm; omega), Lib.alloc_old _ _ _ (by simp), heap_alloc_new]
  have x0 : w2.cell? ⟨w.heap.size, 0, none⟩ = some (.int .i64 0) := by simp [World.cell?, hbx]
  have x1 : w2.cell? ⟨w.heap.size, 1, none⟩ = some (.int .i64 i) := by simp [World.cell?, hbx]
  have x2 : w2.cell? ⟨w.heap.size, 2, none⟩ = some (.int .u64 (b : Int)) := by simp [World.cell?, hbx]
  have x3 : w2.cell? ⟨w.heap.size, 3, none⟩ = some (.string t) := by simp [World.cell?, hbx]
  clear hown' hgrow' hbx ho
  have hz := hbr2.size
  have hwr : Hid (IntKind.u64.wrap (9223372036854775808 + IntKind.u64.wrap i) = ((intW i : Nat) : Int)) := wrap_int i
  have PN := putNumber_any B (intW i) v' (l ++ [1]) w2 hown2 (by omega) (by simp; omega)
  go_wp2_with (go_at_call 20; rw [hwr.out]; refine PN.mono ?_; rintro e w3 ⟨v3, rfl, ho3, hb3⟩)
  go_ret
  refine ⟨_, rfl, ?_, hbr2.trans hb3⟩
  rw [List.append_assoc] at ho3
  exact ho3

set_option maxHeartbeats 2000000 in
theorem putPart_1 (B : Nat) (v : Value) (l : List UInt8) (i : Int) (b : Nat) (t : ByteArray) (w : World) (ho : Bytes w B v l) (hB : B ≤ w.heap.size) (hl : l.length ≤ 100000000) (hb : b < 18446744073709551616) :
    Calls Tryd.prog 14 #[v, .agg #[.int .i64 1, .int .i64 i, .int .u64 (b : Int), .string t]] w fun e w' => ∃ v', e = .returned v' ∧ Bytes w' B v' (l ++ encP ⟨1, i, b, t⟩) ∧ Below B w w' := by
  obtain ⟨i1, hi1, hy0, hy1, hy2⟩ := info_parts Tryd.infoByte
  go_enter Tryd.func14, Tryd.ntmps14
  go_wp2_with (first
    | (at_builtin; refine wpList_append_own _ rfl _ _ 34 rfl B 5 i1 (.int .u8 0) 1 1 Tryd.underlying34 hi1 hy0 hy1 hy2 rfl (by decide) _ _ _ rfl ((ho.alloc _).alloc _) ⟨w.heap.size + 1, 0, none⟩ 1 1 [.int .u8 2] rfl rfl ?c1 ?c2 ?c3 ?c4 ?c5 ?_))
  case c1 =>
    intro j u hj
    match j, hj with
    | 0, hj => simp at hj; subst hj; simp [Addr.add]
  case c2 => intro u hu; simp at hu; subst hu; rfl
  case c3 => unfold maxLen; omega
  case c4 => omega
  case c5 => simp; omega
  intro v' w2 hown' hgrow' _
  have hown2 : Bytes w2 B v' (l ++ [2]) := by
    unfold Bytes
    rw [cells_snoc, List.length_append]
    exact hown'
  have hbr2 : Below B w w2 := (((Below.refl B w).alloc hB _).alloc (by simp; omega) _).grown hgrow' (by simp; omega) (own_ge ho)
  have hbx : w2.heap[w.heap.size]? = some (.cells #[.int .i64 1, .int .i64 i, .int .u64 (b : Int), .string t] 29 (0, 0)) := by
    rw [hgrow'.block w.heap.size (by simp; omega) (fun e1 => by have := own_lt ho _ e1.symm; omega), Lib.alloc_old _ _ _ (by simp), heap_alloc_new]
  have x0 : w2.cell? ⟨w.heap.size, 0, none⟩ = some (.int .i64 1) := by simp [World.cell?, hbx]
  have x1 : w2.cell? ⟨w.heap.size, 1, none⟩ = some (.int .i64 i) := by simp [World.cell?, hbx]
  have x2 : w2.cell? ⟨w.heap.size, 2, none⟩ = some (.int .u64 (b : Int)) := by simp [World.cell?, hbx]
  have x3 : w2.cell? ⟨w.heap.size, 3, none⟩ = some (.string t) := by simp [World.cell?, hbx]
  clear hown' hgrow' hbx ho
  have hz := hbr2.size
  have hk : keyI b = (((keyI b).toNat : Nat) : Int) := by
    have : 0 ≤ keyI b := by
      unfold keyI
      by_cases h : sz b ≤ 9218868437227405312
      · rw [isN_true h, if_pos rfl, pos_eq]
        have := sz_lt b
        cases sgn b <;> simp <;> omega
      · rw [isN_false h]; simp
    omega
  have PN := putNumber_any B (keyI b).toNat v' (l ++ [2]) w2 hown2 (by omega) (by simp; omega)
  have KA := fun w => key_any b w hb
  rw [← hk] at PN
  clear hk
  go_wp2_with (first
    | (go_at_call 21; refine (KA _).mono ?_; rintro e w3 ⟨rfl, rfl⟩)
    | (go_at_call 20; refine PN.mono ?_; rintro e w3 ⟨v3, rfl, ho3, hb3⟩))
  go_ret
  refine ⟨_, rfl, ?_, hbr2.trans hb3⟩
  rw [List.append_assoc] at ho3
  exact ho3

set_option maxHeartbeats 2000000 in
theorem putPart_2 (B : Nat) (v : Value) (l : List UInt8) (i : Int) (b : Nat) (t : ByteArray) (w : World) (ho : Bytes w B v l) (hB : B ≤ w.heap.size) (hl : l.length ≤ 100000000) (ht : t.size ≤ 255) (hM : SomeMax w) (hMB : 1 < B) :
    Calls Tryd.prog 14 #[v, .agg #[.int .i64 2, .int .i64 i, .int .u64 (b : Int), .string t]] w fun e w' => ∃ v', e = .returned v' ∧ Bytes w' B v' (l ++ encP ⟨2, i, b, t⟩) ∧ Below B w w' := by
  obtain ⟨i1, hi1, hy0, hy1, hy2⟩ := info_parts Tryd.infoByte
  go_enter Tryd.func14, Tryd.ntmps14
  go_wp2_with (first
    | (at_builtin; refine wpList_append_own _ rfl _ _ 34 rfl B 5 i1 (.int .u8 0) 1 1 Tryd.underlying34 hi1 hy0 hy1 hy2 rfl (by decide) _ _ _ rfl ((ho.alloc _).alloc _) ⟨w.heap.size + 1, 0, none⟩ 1 1 [.int .u8 3] rfl rfl ?c1 ?c2 ?c3 ?c4 ?c5 ?_))
  case c1 =>
    intro j u hj
    match j, hj with
    | 0, hj => simp at hj; subst hj; simp [Addr.add]
  case c2 => intro u hu; simp at hu; subst hu; rfl
  case c3 => unfold maxLen; omega
  case c4 => omega
  case c5 => simp; omega
  intro v' w2 hown' hgrow' _
  have hown2 : Bytes w2 B v' (l ++ [3]) := by
    unfold Bytes
    rw [cells_snoc, List.length_append]
    exact hown'
  have hbr2 : Below B w w2 := (((Below.refl B w).alloc hB _).alloc (by simp; omega) _).grown hgrow' (by simp; omega) (own_ge ho)
  have hbx : w2.heap[w.heap.size]? = some (.cells #[.int .i64 2, .int .i64 i, .int .u64 (b : Int), .string t] 29 (0, 0)) := by
    rw [hgrow'.block w.heap.size (by simp; omega) (fun e1 => by have := own_lt ho _ e1.symm; omega), Lib.alloc_old _ _ _ (by simp), heap_alloc_new]
  have x0 : w2.cell? ⟨w.heap.size, 0, none⟩ = some (.int .i64 2) := by simp [World.cell?, hbx]
  have x1 : w2.cell? ⟨w.heap.size, 1, none⟩ = some (.int .i64 i) := by simp [World.cell?, hbx]
  have x2 : w2.cell? ⟨w.heap.size, 2, none⟩ = some (.int .u64 (b : Int)) := by simp [World.cell?, hbx]
  have x3 : w2.cell? ⟨w.heap.size, 3, none⟩ = some (.string t) := by simp [World.cell?, hbx]
  clear hown' hgrow' hbx ho
  have hz := hbr2.size
  have hel := esc_len t.data.toList
  have etl : t.data.toList.length = t.size := by rw [Array.length_toList]; rfl
  obtain ⟨m, hm⟩ := hM.below hbr2 hMB
  have RA := Tryd.strings_ReplaceAll t ⟨#[0]⟩ ⟨#[0, 255]⟩ m w2 (by omega) hm (by decide) (by
    have e1 : Lib.countB t ⟨#[0]⟩ ≤ t.size := by
      show Lib.count t.data.toList [0] ≤ _
      rw [Lib.count_one, ← etl]
      exact List.count_le_length ..
    have e2 : (ByteArray.mk #[0, 255]).size = 2 := rfl
    rw [e2]
    omega)
  have e3 : Lib.replaceAll t.data.toList (ByteArray.mk #[0]).data.toList (ByteArray.mk #[0, 255]).data.toList = esc t.data.toList := replace_esc _
  rw [e3] at RA
  clear e3 hm m
  generalize hE : esc t.data.toList = E at RA hel
  have HE : Hid (esc t.data.toList = E) := hE
  clear hE
  go_wp2_with (first
    | (go_at_call 22; refine RA.mono ?_; rintro e w3 ⟨rfl, hb3⟩; have ho3 := owns_below hown2 hb3; have hz3 := hb3.size)
    | (at_builtin; refine Lib.wpList_append_own_string _ rfl _ _ 34 9 rfl B 5 i1 Tryd.underlying34 Tryd.underlying9 hi1 hy0 hy1 hy2 _ _ _ rfl ho3 ⟨E.toArray⟩ rfl ?d1 ?d2 ?d3 ?_))
  case d1 => unfold maxLen; rw [sizeOfList]; simp; omega
  case d2 => rw [sizeOfList]; simp; omega
  case d3 => omega
  intro v4 w4 hown4 hgrow4 _
  have ho4 : Bytes w4 B v4 (l ++ [3] ++ E) := by
    have e4 : (l ++ [3] ++ E).length = l.length + 1 + E.length := by simp; omega
    unfold Bytes
    rw [cells_app, e4]
    exact hown4
  have hb4 : Below B w2 w4 := (hb3.mono (by omega)).grown hgrow4 (by omega) (own_ge ho3)
  have hz4 := hb4.size
  clear hown4 hgrow4 ho3 hown2 x0 x1 x2 x3 RA hb3
  go_wp2_with (at_builtin; refine Lib.wpList_append_own_string _ rfl _ _ 34 9 rfl B 5 i1 Tryd.underlying34 Tryd.underlying9 hi1 hy0 hy1 hy2 _ _ _ rfl ho4 ⟨#[0, 0]⟩ rfl ?d1 ?d2 ?d3 ?_)
  case d1 =>
    have e2 : (ByteArray.mk #[0, 0]).size = 2 := rfl
    unfold maxLen; rw [e2]; simp; omega
  case d2 =>
    have e2 : (ByteArray.mk #[0, 0]).size = 2 := rfl
    rw [e2]; simp; omega
  case d3 => omega
  intro v5 w5 hown5 hgrow5 _
  have ho5 : Bytes w5 B v5 (l ++ encP ⟨2, i, b, t⟩) := by
    have e5 : l ++ encP ⟨2, i, b, t⟩ = (l ++ 3 :: E) ++ [0, 0] := by
      rw [← HE.out]
      show l ++ 3 :: (esc t.data.toList ++ [0, 0]) = _
      simp
    have e6 : ((l ++ 3 :: E) ++ [0, 0]).length = l.length + (E.length + 1) + 2 := by simp; omega
    unfold Bytes
    rw [e5, cells_app, e6]
    exact hown5
  have hb5 : Below B w2 w5 := hb4.grown hgrow5 (by omega) (own_ge ho4)
  clear hown5 hgrow5 ho4 HE
  go_wp2
  go_ret
  exact ⟨_, rfl, ho5, hbr2.trans hb5⟩

theorem putPart_any (B : Nat) (v : Value) (l : List UInt8) (p : Pt) (w : World) (ho : Bytes w B v l) (hB : B ≤ w.heap.size) (hl : l.length ≤ 100000000) (hb : p.b < 18446744073709551616) (hp : mayB p = true) (hM : SomeMax w) (hMB : 1 < B) :
    Calls Tryd.prog 14 #[v, p.val] w fun e w' => ∃ v', e = .returned v' ∧ Bytes w' B v' (l ++ encP p) ∧ Below B w w' := by
  obtain ⟨k, i, b, t⟩ := p
  unfold mayB at hp
  by_cases h0 : k = 0
  · subst h0; exact putPart_0 B v l i b t w ho hB hl
  · rw [if_neg h0] at hp
    by_cases h1 : k = 1
    · subst h1; exact putPart_1 B v l i b t w ho hB hl hb
    · rw [if_neg h1] at hp
      by_cases h2 : k = 2
      · subst h2
        rw [if_pos rfl] at hp
        exact putPart_2 B v l i b t w ho hB hl (by unfold may2 at hp; simp at hp; exact hp.2) hM hMB
      · rw [if_neg h2] at hp; cases hp

theorem encL_snoc (ps : List Pt) (j : Nat) (h : j < ps.length) : encL (ps.take (j + 1)) = encL (ps.take j) ++ encP ps[j] := by
  unfold encL
  rw [List.take_succ_eq_append_getElem h, List.flatMap_append]
  simp
theorem encL_len (ps : List Pt) (h : ps.all mayB = true) : (encL ps).length ≤ 513 * ps.length := by
  induction ps with
  | nil => exact Nat.le_refl _
  | cons p ps ih =>
    simp only [List.all_cons, Bool.and_eq_true] at h
    have h1 := encP_len p h.1
    have h2 := ih h.2
    unfold encL at h2 ⊢
    rw [List.flatMap_cons, List.length_append, List.length_cons]
    omega
theorem all_take {ps : List Pt} (h : ps.all mayB = true) (j : Nat) : (ps.take j).all mayB = true := by
  rw [List.all_eq_true] at h ⊢
  exact fun p hp => h p (List.mem_of_mem_take hp)

theorem keyB_parts {ps : List Pt} (h : keyB ps = true) : ps.length ≤ 16 ∧ ps.all mayB = true := by
  unfold keyB at h
  rw [Bool.and_eq_true] at h
  exact ⟨of_decide_eq_true h.1, h.2⟩

set_option maxHeartbeats 2000000 in
theorem encode_yes (v : Value) (ps : List Pt) (w : World) (hp : PartsAt w v ps) (hW : Words ps) (hM : SomeMax w) (hk : keyB ps = true) :
    Calls Tryd.prog 9 #[v] w fun e w' => e = .returned (.tuple #[.string ⟨(encL ps).toArray⟩, .int .i64 0]) ∧ Below w.heap.size w w' := by
  have CK := fun w1 (hb : Below w.heap.size w w1) => check_any v ps w1 (hp.below hb) hW
  rw [check_yes hk] at CK
  obtain ⟨hlen, hall⟩ := keyB_parts hk
  have hMlt := hM.lt
  obtain ⟨a, cap, rfl, hcap, hcells⟩ := hp
  go_enter Tryd.func9, Tryd.ntmps9
  go_wp2_with (go_at_call 7; refine (CK _ (Below.refl _ _)).mono ?_; rintro e w1 ⟨rfl, hb1⟩)
  have hz1 := hb1.size
  go_loopw [5, 15] (fun o i wr => ∃ j : Nat, j ≤ ps.length ∧ i = .int .i64 j ∧ Bytes wr w1.heap.size o (encL (ps.take j)) ∧ Below w1.heap.size w1 wr) (fun _ i _ => ps.length - (intOf i).toNat)
  case atStart => exact ⟨0, Nat.zero_le _, rfl, World.ownsRow_nil _ _ _ _, Below.refl _ _⟩
  case round =>
    obtain ⟨j, hj, rfl, hor, hbr⟩ := hrel
    have hz := hbr.size
    have hel := encL_len _ (all_take hall j)
    have htl : (ps.take j).length ≤ 16 := by rw [List.length_take]; omega
    by_cases hlt : j < ps.length
    · obtain ⟨b, o, rfl, hblt, hc⟩ := hcells (by intro e; rw [e] at hlt; simp at hlt)
      obtain ⟨h0, h1, h2, h3⟩ := hc j ps[j] (List.getElem?_eq_getElem hlt)
      have hbw := hW ps[j] (List.getElem_mem hlt)
      have hm : mayB ps[j] = true := by rw [List.all_eq_true] at hall; exact hall _ (List.getElem_mem hlt)
      have HS : Hid (encL (ps.take (j + 1)) = encL (ps.take j) ++ encP ps[j]) := encL_snoc ps j hlt
      have hbw1 : Below w.heap.size w wr := hb1.trans (hbr.mono hz1)
      have PP := fun w2 (hb : Bytes w2 w1.heap.size u5 (encL (ps.take j))) h2 hM2 => putPart_any w1.heap.size u5 (encL (ps.take j)) ps[j] w2 hb h2 (by omega) hbw hm hM2 (by omega)
      have hMr : SomeMax wr := hM.below hbw1 hMlt
      generalize ps[j] = p at PP h0 h1 h2 h3 HS
      obtain ⟨k, i, b', t⟩ := p
      obtain ⟨hc', hf'⟩ := bcell hbw1
      simp only [Pt.val, Pt.cells] at PP h0 h1 h2 h3
      rw [← hc' b _ hblt] at h0 h1 h2 h3
      clear hc' hf' hc hcells
      go_wp2_with (go_at_call 14; refine (PP _ (hor.alloc _) (by simp; omega) (hMr.below ((Below.refl wr.heap.size wr).alloc (Nat.le_refl _) _) hMr.lt)).mono ?_; rintro e w3 ⟨v3, rfl, ho3, hb3⟩)
      go_roundw
      case rel => exact ⟨j + 1, by omega, by go_num, by rw [HS.out]; exact ho3, (hbr.alloc hz _).trans hb3⟩
      case measure => simp [intOf]; omega
    · have HT : Hid (ps.take j = ps) := List.take_of_length_le (by omega)
      rw [HT.out] at hor
      clear hel htl
      rcases hor.2 with ⟨rfl, hnil⟩ | ⟨g, cap', cur, rfl, hg, hh, hr⟩
      · have HE : Hid (encL ps = []) := List.eq_nil_of_length_eq_zero hnil
        have hcv := conv_nil
        clear hnil hor
        go_wp2
        go_ret2
        refine ⟨?_, hb1.trans (hbr.mono hz1)⟩
        rw [HE.out]
        rfl
      · have hcv := conv_row hor
        go_wp2
        go_ret2
        exact ⟨rfl, hb1.trans (hbr.mono hz1)⟩

theorem encode_no (v : Value) (ps : List Pt) (w : World) (hp : PartsAt w v ps) (hW : Words ps) (hk : keyB ps = false) :
    Calls Tryd.prog 9 #[v] w fun e w' => e = .returned (.tuple #[.string ⟨#[]⟩, .int .i64 30]) ∧ Below w.heap.size w w' := by
  have CK := check_any v ps w hp hW
  rw [check_no hk] at CK
  go_enter Tryd.func9, Tryd.ntmps9
  go_wp2_with (go_at_call 7; refine CK.mono ?_; rintro e w1 ⟨rfl, hb1⟩)
  go_ret2
  exact ⟨rfl, hb1⟩
end Go.Proofs.YtghneolphdfdlabDoor
