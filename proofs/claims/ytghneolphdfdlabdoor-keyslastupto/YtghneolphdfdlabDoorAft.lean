/- What stands behind all bytes that begin so. -/
import Derived.Test.YtghneolphdfdlabDoorOwn
import Derived.Deep.RegionLawGrows
namespace Go.Proofs.YtghneolphdfdlabDoor
open Go Go.RowKit

def backK (l : List UInt8) : Nat → Nat
  | 0 => 0
  | k + 1 => if l.getD k 0 = 255 then backK l k else k + 1
theorem getD_byte (s : ByteArray) (j : Nat) (h : j < s.size) : s.data.toList.getD j 0 = s[j] := by
  have h' : j < s.data.toList.length := by rw [Array.length_toList]; exact h
  rw [List.getD_eq_getElem?_getD, List.getElem?_eq_getElem h']
  rfl


theorem row_cells {W : World} {b cap : Nat} {t : ByteArray} {q : Nat × Nat} (h : W.heap[b]? = some (.cells (bytesRow t cap) 5 q)) (j : Nat) (hj : j < t.size) : W.cell? ⟨b, j, none⟩ = some (.int .u8 (t.data.toList.getD j 0).toNat) := by
  have hj' : j < t.data.size := hj
  simp [World.cell?, h, bytesRow, Array.getElem?_append, List.getD_eq_getElem?_getD]
  rw [if_pos hj, Array.getElem?_eq_getElem hj']
  rfl
theorem row_spare {W : World} {b cap : Nat} {t : ByteArray} {q : Nat × Nat} (h : W.heap[b]? = some (.cells (bytesRow t cap) 5 q)) (hc : t.size < cap) : (W.cell? ⟨b, t.size, none⟩).isSome = true := by
  have e : t.data.size = t.size := rfl
  simp [World.cell?, h, bytesRow, Array.getElem?_append, e]
  omega

theorem run_append_str (W : World) (ty B b g cap : Nat) (t : ByteArray) (c : UInt8) (hrow : W.heap[b]? = some (.cells (bytesRow t cap) 5 ((bytesRow t cap).size, (bytesRow t cap).size + 1))) (hg : W.heap[g]? = some (.cells #[.int .u8 (c.toNat : Int)] 5 (0, 0)))
    (hB : B ≤ b) (ht : t.size + 1 ≤ 140737488355328) (hcap : t.size ≤ cap) :
    ∃ b' cap' W', (Builtin.append_ #[34, 34] ty #[.slice (some ⟨b, 0, none⟩) t.size cap, .slice (some ⟨g, 0, none⟩) 1 1]).run Tryd.prog W = .ok (.slice (some ⟨b', 0, none⟩) (t.size + 1) cap') W' ∧
      (convert 34 9 (.slice (some ⟨b', 0, none⟩) (t.size + 1) cap')).run Tryd.prog W' = .ok (.string ⟨(t.data.toList ++ [c]).toArray⟩) W' ∧ Below B W W' := by
  obtain ⟨i1, hi1, hy0, hy1, hy2⟩ := info_parts Tryd.infoByte
  have hlt := lt_of_block hrow
  have etl : t.data.toList.length = t.size := by rw [Array.length_toList]; rfl
  have hnews : ∀ j u, [Value.int .u8 (c.toNat : Int)][j]? = some u → W.cell? ((⟨g, 0, none⟩ : Addr).add j) = some u := by
    intro j u hj
    match j, hj with
    | 0, hj => simp at hj; subst hj; simp [Addr.add, World.cell?, hg]
  by_cases hr : t.size + 1 ≤ cap
  · have hq : (bytesRow t cap).size = cap := by
      have e : t.data.size = t.size := rfl
      simp [bytesRow, e]; omega
    have hrun := run_append_room_cells (P := Tryd.prog) W 34 ty 5 i1 Tryd.underlying34 hi1 b 0 t.size cap ⟨g, 0, none⟩ 1 1 [.int .u8 (c.toNat : Int)] (by rw [hy1]; rfl) hnews (by intro u hu; simp at hu; subst hu; rfl) hr
      (by
        intro j hj
        obtain rfl : j = 0 := by simpa using hj
        rw [hy1]
        simpa using row_spare hrow (by omega))
      (by
        intro j hj
        obtain rfl : j = 0 := by simpa using hj
        rw [hy1]
        simp [World.frozen?, hrow, hq]
        omega)
    have e2 : 0 + t.size * i1.size = t.size := by rw [hy1]; omega
    rw [e2] at hrun
    refine ⟨b, cap, _, hrun, ?_, ?_⟩
    · have e1 : t.size + 1 = (t.data.toList ++ [c]).length := by simp [etl]
      rw [e1]
      refine run_convert_bytes_back (P := Tryd.prog) _ 34 9 5 ⟨b, 0, none⟩ cap (t.data.toList ++ [c]) Tryd.underlying34 Tryd.underlying5 Tryd.underlying9 ?_
      intro j hj
      rw [Addr.add_lit, Nat.zero_add]
      by_cases hj2 : j < t.size
      · rw [World.cell?_setCells_out b _ _ _ _ (fun _ _ => Or.inl hj2), row_cells hrow j hj2]
        simp [etl, hj2, List.getD_eq_getElem?_getD]
      · obtain rfl : j = t.size := by simp [etl] at hj; omega
        have := World.cell?_setCells_in b [.int .u8 (c.toNat : Int)] t.size W (by intro j hj; (obtain rfl : j = 0 := by simpa using hj); simpa using row_spare hrow (by omega)) 0 (by simp)
        simp only [Nat.add_zero] at this
        rw [this]
        simp [etl]
    · exact (Below.refl B W).setCell (p := ⟨b, _, none⟩) hB _
  · obtain ⟨v', W', hrun, hown, hgr⟩ := run_append_arg_grows (P := Tryd.prog) W 34 ty 5 i1 (.int .u8 0) 1 1 Tryd.underlying34 hi1 hy0 hy1 hy2 rfl (by decide) ⟨b, 0, none⟩ t.size cap (Lib.byteCells t.data.toList) (by simp [Lib.byteCells, etl])
      (by
        intro j u hj
        have hj2 : j < t.size := by
          have := (List.getElem?_eq_some_iff.1 hj).1
          simpa [Lib.byteCells, etl] using this
        rw [Addr.add_lit, Nat.zero_add, row_cells hrow j hj2]
        have hj3 : j < t.data.toList.length := by omega
        simp [Lib.byteCells] at hj
        obtain ⟨x, hx1, hx2⟩ := hj
        rw [← hx2]
        simp [List.getD_eq_getElem?_getD, hx1])
      ⟨g, 0, none⟩ 1 1 [.int .u8 (c.toNat : Int)] rfl hnews (by omega) (by unfold maxLen; omega) (by omega)
    have ho2 : Bytes W' W.heap.size v' (t.data.toList ++ [c]) := by
      have e1 : (t.data.toList ++ [c]).length = t.size + 1 := by simp [etl]
      unfold Bytes
      rw [cells_snoc, e1]
      exact hown
    rcases hown.2 with ⟨_, h0⟩ | ⟨g', cap', cur', rfl, hg', hh', r'⟩
    · omega
    refine ⟨g', cap', W', hrun, ?_, ?_⟩
    · have e1 : t.size + 1 = (t.data.toList ++ [c]).length := by simp [etl]
      rw [e1] at ho2 ⊢
      exact conv_row ho2
    · exact (Below.refl B W).grown hgr (by omega) (by simp)

theorem step_append_str {ops : Array Oper} {o : Oper} {a : Act} {w : World} {K : Act → World → Prop} {Q : Exit → Act → World → Prop} {E : Prop}
    (hgd : o.guard = none) (s x : Operand) (hop : o.op = Op.call { callee := Callee.builtin Builtin.append, args := #[s, x], argTypes := #[34, 34] })
    (B b g cap : Nat) (t : ByteArray) (n : Nat) (hn : t.size = n) (c : UInt8) (z : Int) (hz : z = (c.toNat : Int)) (hs : a.eval s = .slice (some ⟨b, 0, none⟩) n cap) (hx : a.eval x = .slice (some ⟨g, 0, none⟩) 1 1)
    (hrow : w.heap[b]? = some (.cells (bytesRow t cap) 5 ((bytesRow t cap).size, (bytesRow t cap).size + 1))) (hg : w.heap[g]? = some (.cells #[.int .u8 z] 5 (0, 0)))
    (hB : B ≤ b) (ht : n + 1 ≤ 140737488355328) (hcap : n ≤ cap)
    (hK : ∀ b' cap' W', (convert 34 9 (.slice (some ⟨b', 0, none⟩) (n + 1) cap')).run Tryd.prog W' = .ok (.string ⟨(t.data.toList ++ [c]).toArray⟩) W' → Below B w W' → K (a.put o.dst (.slice (some ⟨b', 0, none⟩) (n + 1) cap')) W') :
    if Region.wanted o (yielded ops a.tmps) = true then Oper.wp Tryd.prog o a w K Q else E := by
  subst hn hz
  have hw : Region.wanted o (yielded ops a.tmps) = true := by simp [Region.wanted, hgd]
  rw [if_pos hw]
  obtain ⟨b', cap', W', hrun, h1, h2⟩ := run_append_str w o.type B b g cap t c hrow hg hB ht hcap
  unfold Oper.wp
  simp [execOp, hop, resolve, invoke, builtin, hs, hx, hrun, Result.andThen]
  exact hK b' cap' W' h1 h2

theorem heap2_first (w : World) (o1 o2 : Obj) : ((w.alloc o1).alloc o2).drew.drew.heap[w.heap.size]? = some o1 := by
  show ((w.heap.push o1).push o2)[w.heap.size]? = _
  rw [Array.getElem?_push, if_neg (by simp), Array.getElem?_push, if_pos rfl]
theorem heap2_second (w : World) (o1 o2 : Obj) : ((w.alloc o1).alloc o2).drew.drew.heap[w.heap.size + 1]? = some o2 := by
  show ((w.heap.push o1).push o2)[w.heap.size + 1]? = _
  rw [Array.getElem?_push, if_pos (by simp)]
theorem below_drew {n : Nat} {w w' : World} (h : Below n w w') : Below n w w'.drew := ⟨h.os, h.tape, h.output, h.size, h.block⟩

def afterK (l : List UInt8) : Nat := backK l l.length
def afterS (l : List UInt8) : List UInt8 := if afterK l = 0 then [] else l.take (afterK l - 1) ++ [l.getD (afterK l - 1) 0 + 1]
def afterB (l : List UInt8) : Bool := decide (afterK l ≠ 0)

theorem after_no {l : List UInt8} (h : afterK l = 0) : afterS l = [] ∧ afterB l = false := by
  unfold afterS afterB
  rw [if_pos h, h]
  exact ⟨rfl, rfl⟩
theorem after_yes {l : List UInt8} {j : Nat} (h : afterK l = j + 1) : afterS l = l.take j ++ [l.getD j 0 + 1] ∧ afterB l = true := by
  unfold afterS afterB
  rw [if_neg (by omega), h]
  exact ⟨rfl, by simp⟩

set_option maxHeartbeats 2000000 in
theorem after_any (s : ByteArray) (w : World) (hs : s.size ≤ 140737488351232) :
    Calls Tryd.prog 5 #[.string s] w fun e w' => e = .returned (.tuple #[.string ⟨(afterS s.data.toList).toArray⟩, .bool (afterB s.data.toList)]) ∧ Below w.heap.size w w' := by
  have etl : s.data.toList.length = s.size := by rw [Array.length_toList]; rfl
  go_enter Tryd.func5, Tryd.ntmps5
  go_wp2
  go_loop [4] (fun i => ∃ k : Nat, k ≤ s.size ∧ i = .int .i64 ((k : Int) - 1) ∧ backK s.data.toList k = afterK s.data.toList) (fun i => (intOf i + 1).toNat)
  case atStart => exact ⟨s.size, Nat.le_refl _, rfl, by unfold afterK; rw [etl]⟩
  case round =>
    obtain ⟨k, hk, rfl, hb⟩ := hrel
    have HB : Hid (backK s.data.toList k = afterK s.data.toList) := hb
    clear hb
    cases k with
    | zero =>
      have HA : Hid (afterS s.data.toList = [] ∧ afterB s.data.toList = false) := after_no HB.out.symm
      go_wp2
      go_ret2
      rw [HA.out.1, HA.out.2]
      exact ⟨rfl, Below.refl _ _⟩
    | succ j =>
      have e1 : (((j + 1 : Nat) : Int) - 1) = (j : Int) := by omega
      rw [e1]
      have hj : j < s.size := by omega
      clear e1 hk
      have hgd := getD_byte s j hj
      by_cases hc : s[j] = 255
      · have hc' : (s[j].toNat : Int) = 255 := by rw [hc]; rfl
        have HB2 : Hid (backK s.data.toList j = afterK s.data.toList) := by
          have := HB.out
          unfold backK at this
          rw [if_pos (hgd.trans hc)] at this
          exact this
        clear hgd hc etl
        go_wp2
        go_round
        case rel => exact ⟨j, by omega, by go_num, HB2.out⟩
        case measure => simp [intOf]
      · have hlt := s[j].toNat_lt
        have hc' : ¬ (s[j].toNat : Int) = 255 := by
          intro e
          have e' : s[j].toNat = 255 := by omega
          exact hc (UInt8.toNat_inj.1 e')
        have HA : Hid (afterS s.data.toList = s.data.toList.take j ++ [s.data.toList.getD j 0 + 1] ∧ afterB s.data.toList = true) := by
          refine after_yes ?_
          have := HB.out
          unfold backK at this
          rw [if_neg (fun e => hc (hgd.symm.trans e))] at this
          exact this.symm
        have HG0 : Hid (s.data.toList.getD j 0 = s[j]) := hgd
        clear etl hgd HB hc
        have HL : Hid (s[j].toNat < 256) := hlt
        clear hlt
        go_wp2
        have h0 : (0 : Int) ≤ (j : Int) := by omega
        have h1 : (j : Int) < s.size := by omega
        have h3 : j ≤ s.size := by omega
        have h2 : (s[j].toNat : Int) + 1 < 256 := by have := HL.out; omega
        have hcv := fun (W : World) (t : ByteArray) => run_bytes_of_string (P := Tryd.prog) W 9 34 5 t Tryd.underlying9 Tryd.underlying34 Tryd.underlying5
        have HN : Hid ((s.extract 0 j).size = j) := by
          show _ = _
          rw [ByteArray.size_extract]; omega
        have HX : Hid (IntKind.u8.wrap ((s[j].toNat : Int) + 1) = ((s[j] + 1).toNat : Int)) := by
          show _ = _
          have e1 : (s[j] + 1).toNat = (s[j].toNat + 1) % 256 := UInt8.toNat_add ..
          rw [e1]
          simp only [IntKind.wrap_u8]
          omega
        have HG := HG0
        clear HG0
        have HT : Hid ((s.extract 0 j).data.toList = s.data.toList.take j) := by
          show _ = _
          simp
        clear h2
        go_region_law (refine step_append_str rfl (.tmp 23) (.tmp 28) rfl w.heap.size _ _ _ (s.extract 0 j) j HN.out (s[j] + 1) _ HX.out rfl rfl (by first | exact heap2_first _ _ _ | exact heap2_second _ _ _) (by first | exact heap2_first _ _ _ | exact heap2_second _ _ _) (by omega) (by omega) (grownCap_ge _ _ _ _) ?_; intro b' cap' W' hcv2 hb2; have hb3 := (below_drew (below_drew (((Below.refl w.heap.size w).alloc (Nat.le_refl _) _).alloc (by simp) _))).trans hb2)
        all_goals
          go_wp2
          go_ret2
          refine ⟨?_, hb3⟩
          rw [HA.out.1, HA.out.2, HG.out, ← HT.out]
          rfl
end Go.Proofs.YtghneolphdfdlabDoor
