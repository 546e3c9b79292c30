/- Schemas: all fields with their places. -/
import Derived.Test.YtfkgmgnoijokdaaGreatDoorScK
namespace Go.Proofs.YtfkgmgnoijokdaaGreatDoor
open Go Go.RowKit Go.Shelf
abbrev sptC (x : Spt) : List Value := [.int .i64 (x.o : Int), .int .i64 (x.k : Int), .string ⟨x.f.n.toArray⟩, .string ⟨x.f.t.toArray⟩, .string ⟨x.f.w.toArray⟩, .bool x.f.s, .string ⟨x.f.i.toArray⟩]
def cellsS : List Spt → List Value
  | [] => []
  | x :: l => sptC x ++ cellsS l
theorem cellsS_app (l m : List Spt) : cellsS (l ++ m) = cellsS l ++ cellsS m := by
  induction l with
  | nil => rfl
  | cons x l ih => simp [cellsS, ih]
theorem cellsS_len (l : List Spt) : (cellsS l).length = l.length * 7 := by
  induction l with
  | nil => rfl
  | cons x l ih => simp [cellsS, ih]; omega
theorem cellsS_at : ∀ (l : List Spt) (i : Nat) (x : Spt), l[i]? = some x → ∀ j, j < 7 → (cellsS l)[i * 7 + j]? = (sptC x)[j]?
  | [], _, _, h, _, _ => by simp at h
  | y :: l, 0, x, h, j, hj => by
    simp at h
    subst h
    rw [Nat.zero_mul, Nat.zero_add]
    exact List.getElem?_append_left (by simpa using hj)
  | y :: l, i + 1, x, h, j, hj => by
    have ih := cellsS_at l i x (by simpa using h) j hj
    rw [← ih]
    show (sptC y ++ cellsS l)[(i + 1) * 7 + j]? = _
    rw [List.getElem?_append_right (by simp; omega)]
    congr 1
    simp
    omega
theorem spts_own {w : World} {Q E : Nat} {v : Value} {l : List Spt} (h : w.ownsRow Q E 7 v l.length (cellsS l)) (hl : l.length ≤ 140737488355328) : SptsAt w v l := by
  rcases h.2 with ⟨rfl, h0⟩ | ⟨g, cap, cur, hv, hb, hg, hn, _, _, ht⟩
  · exact ⟨none, 0, by rw [h0], by omega, hl, fun hp => absurd hp (by omega)⟩
  · refine ⟨_, cap, hv, hn, hl, fun _ => ⟨g, 0, rfl, lt_of_block hg, fun i hi x hx => ?_⟩⟩
    have f : ∀ j, j < 7 → ∀ u, (sptC x)[j]? = some u → w.cell? ⟨g, 0 + i * 7 + j, none⟩ = some u := fun j hj u hu => by
      rw [← cellsS_at l i x hx j hj, ← ht, List.getElem?_take] at hu
      rw [Nat.zero_add]
      split at hu
      · unfold World.cell?
        rw [hg]
        simpa using hu
      · cases hu
    exact ⟨f 0 (by decide) _ rfl, f 1 (by decide) _ rfl, f 2 (by decide) _ rfl, f 3 (by decide) _ rfl, f 4 (by decide) _ rfl, f 5 (by decide) _ rfl, f 6 (by decide) _ rfl⟩
def fldsSp (i : Nat) : Nat → List Fld → List Spt
  | _, [] => []
  | k, f :: r => ⟨i, k, f⟩ :: fldsSp i (k + 1) r
def obsSp : Nat → List Ob → List Spt
  | _, [] => []
  | i, x :: r => fldsSp i 0 x.fs ++ obsSp (i + 1) r
def sptS (s : Sch) : List Spt := obsSp 0 s.os
theorem obsSp_step {os : List Ob} {j : Nat} {x : Ob} (h : os[j]? = some x) : obsSp j (os.drop j) = fldsSp j 0 x.fs ++ obsSp (j + 1) (os.drop (j + 1)) := by
  obtain ⟨hj, he⟩ := List.getElem?_eq_some_iff.1 h
  rw [List.drop_eq_getElem_cons hj, he]
  rfl
theorem fldsSp_step {fs : List Fld} {i k : Nat} {f : Fld} (h : fs[k]? = some f) : fldsSp i k (fs.drop k) = ⟨i, k, f⟩ :: fldsSp i (k + 1) (fs.drop (k + 1)) := by
  obtain ⟨hk, he⟩ := List.getElem?_eq_some_iff.1 h
  rw [List.drop_eq_getElem_cons hk, he]
  rfl
theorem below_grew {n : Nat} {w W w8 : World} {ob : Option Nat} (h : Below n w W) (g : W.grownBy w8 ob) (hn : n ≤ W.heap.size) (ho : ∀ k, ob = some k → n ≤ k) : Below n w w8 :=
  ⟨g.os.trans h.os, g.tape.trans h.tape, g.output.trans h.output, Nat.le_trans h.size g.size, fun k hk => (g.block k (by omega) (fun e => by have := ho k e.symm; omega)).trans (h.block k hk)⟩
theorem own_blk {w : World} {B E sz n : Nat} {v : Value} {xs : List Value} (h : w.ownsRow B E sz v n xs) {q : Nat} (hq : v.ownBlock = some q) : B ≤ q ∧ q < w.heap.size := by
  rcases h.2 with ⟨rfl, _⟩ | ⟨q', cp, cur, hv, hb, hg, _⟩
  · cases hq
  · rw [hv] at hq
    have e : q' = q := by simpa [Value.ownBlock] using hq
    subst e
    exact ⟨hb, lt_of_block hg⟩
theorem Tryz.infoSpot : (Tryz.prog.info? 52).map (fun i => (i.zero, i.size, i.bytes)) = some (some (.agg #[.int .i64 0, .int .i64 0, .string ⟨#[]⟩, .string ⟨#[]⟩, .string ⟨#[]⟩, .bool false, .string ⟨#[]⟩]), 7, 88) := by kernel_rfl
section
variable {w : World} {ov ev : Value} {s : Sch}
set_option maxRecDepth 100000 in
set_option maxHeartbeats 8000000 in
theorem hspots_any (h : SchAt w ov ev s) (h8 : s.os.length ≤ 8) (h12 : ∀ x ∈ s.os, x.fs.length ≤ 12) : Calls Tryz.prog 24 #[.agg #[ov, ev]] w fun e w' => ∃ v, e = .returned v ∧ SptsAt w' v (sptS s) ∧ Below w.heap.size w w' := by
  have hos := h.os
  obtain ⟨a', c', rfl, _, _⟩ := h.es.slice
  obtain ⟨a, c, rfl, hc, hn⟩ := h.os.slice
  obtain ⟨ti, hti, hy0, hy1, hy2⟩ := info_parts Tryz.infoSpot
  unfold sptS
  go_enter Tryz.func24, Tryz.ntmps24
  go_wp2
  go_loopw [3, 11] (fun lz iv wr => ∃ (lv : Value) (j : Nat) (sf : List Spt), lv = lz ∧ iv = .int .i64 (j : Int) ∧ j ≤ s.os.length ∧ wr.ownsRow (w.heap.size + 1) 52 7 lv sf.length (cellsS sf) ∧ sf ++ obsSp j (s.os.drop j) = obsSp 0 s.os ∧ sf.length ≤ 12 * j ∧ Below w.heap.size w wr ∧ w.heap.size + 1 ≤ wr.heap.size) (fun _ iv _ => s.os.length - (RowKit.intOf iv).toNat)
  case atStart => exact ⟨_, 0, [], rfl, rfl, Nat.zero_le _, ⟨by simp [cellsS], Or.inl ⟨rfl, rfl⟩⟩, rfl, Nat.zero_le _, al1 w _, by simp⟩
  case round =>
    obtain ⟨lv0, j, sf, rfl, rfl, hj, hown, hrel, hlen, hbr, hzr⟩ := hrel
    by_cases hlt : j < s.os.length
    · obtain ⟨x, hx⟩ : ∃ x, s.os[j]? = some x := ⟨_, List.getElem?_eq_getElem hlt⟩
      have hx12 := h12 x (List.mem_of_getElem? hx)
      obtain ⟨b, o, c0, a1, c1, hv, hbl, _, e0, e1, hfs⟩ := ob_cells hos hx
      cases hv
      have f0 := cell_on hbr e0
      have f1 := cell_on hbr e1
      have l1 : ((j : Nat) : Int) < (s.os.length : Int) := by omega
      have hjN : ((j : Nat) : Int).toNat = j := by omega
      have hst := obsSp_step hx
      have HR : Hid (sf ++ (fldsSp j 0 x.fs ++ obsSp (j + 1) (s.os.drop (j + 1))) = obsSp 0 s.os) := by rw [← hst]; exact hrel
      clear hrel hst hx hlt
      have hown1 := hown.alloc (.cells #[.string ⟨x.n.toArray⟩, .slice a1 x.fs.length c1] 41)
      have hbr1 := hbr.trans ((al1 wr (.cells #[.string ⟨x.n.toArray⟩, .slice a1 x.fs.length c1] 41)).mono hbr.size)
      have HJ : Hid (j + 1 ≤ s.os.length) := by show j + 1 ≤ _; omega
      generalize hwB : wr = wB at *
      clear hwB
      go_wp2
      go_loopw [3, 19] (fun lz kv wr => ∃ (lv : Value) (k : Nat) (sg : List Spt), lv = lz ∧ kv = .int .i64 (k : Int) ∧ k ≤ x.fs.length ∧ wr.ownsRow (w.heap.size + 1) 52 7 lv sg.length (cellsS sg) ∧ sg ++ fldsSp j k (x.fs.drop k) = sf ++ fldsSp j 0 x.fs ∧ sg.length ≤ 12 * j + k ∧ Below w.heap.size w wr ∧ w.heap.size + 1 ≤ wr.heap.size) (fun _ kv _ => x.fs.length - (RowKit.intOf kv).toNat)
      case atStart => exact ⟨_, 0, sf, rfl, rfl, Nat.zero_le _, hown1, rfl, by omega, hbr1, by rw [World.size_alloc]; omega⟩
      case round =>
        obtain ⟨lv, k, sg, rfl, rfl, hk, hog, hrg, hlg, hbg, hzg⟩ := hrel
        by_cases hkl : k < x.fs.length
        · obtain ⟨f, hf⟩ : ∃ f, x.fs[k]? = some f := ⟨_, List.getElem?_eq_getElem hkl⟩
          obtain ⟨b1, o1, rfl, hbl1, _, g0, g1, g2, g3, g4⟩ := fld_cells hfs hf
          have k0 := cell_on hbg g0
          have k1 := cell_on hbg g1
          have k2 := cell_on hbg g2
          have k3 := cell_on hbg g3
          have k4 := cell_on hbg g4
          have l2 : ((k : Nat) : Int) < (x.fs.length : Int) := by omega
          have hkN : ((k : Nat) : Int).toNat = k := by omega
          have HG : Hid ((sg ++ [⟨j, k, f⟩]) ++ fldsSp j (k + 1) (x.fs.drop (k + 1)) = sf ++ fldsSp j 0 x.fs) := by
            show _ = _
            rw [← hrg, fldsSp_step hf, List.append_assoc]
            rfl
          have HK : Hid (k + 1 ≤ x.fs.length) := hkl
          obtain ⟨fn, ft, fw, fs, fi⟩ := f
          simp only at k0 k1 k2 k3 k4
          have hslv : ∃ lo lc, lv = .slice lo sg.length lc := by
            rcases hog.2 with ⟨h1, h2⟩ | ⟨q, cp, cu, hv, _⟩
            · exact ⟨_, _, by rw [h1, h2]⟩
            · exact ⟨_, _, hv⟩
          obtain ⟨lo, lc, rfl⟩ := hslv
          have hog1 := hog.alloc (.cells #[.string ⟨fn.toArray⟩, .string ⟨ft.toArray⟩, .string ⟨fw.toArray⟩, .bool fs, .string ⟨fi.toArray⟩] 33)
          have hLo := fun q (e : (Value.slice lo sg.length lc).ownBlock = some q) => own_blk hog e
          clear hrg hf hkl HR
          go_wp2_with (first
            | (at_builtin; refine wpList_append_lies _ rfl (.tmp 24) (.tmp 29) 48 rfl (w.heap.size + 1) 52 ti _ 7 88 Tryz.underlying48 hti hy0 hy1 hy2 rfl (by decide) (.slice lo sg.length lc) sg.length (cellsS sg) rfl (hog1.alloc _) ⟨wr.heap.size + 1, 0, none⟩ 1 1 [.int .i64 (j : Int), .int .i64 (k : Int), .string ⟨fn.toArray⟩, .string ⟨ft.toArray⟩, .string ⟨fw.toArray⟩, .bool fs, .string ⟨fi.toArray⟩] rfl rfl (World.news_of_block (new2 wr _ _)) (by intro u hu; simp at hu; rcases hu with rfl | rfl | rfl | rfl | rfl | rfl | rfl <;> rfl) (by decide) (by unfold maxLen; omega) (by omega) (by rw [World.size_alloc, World.size_alloc]; omega) _ rfl ?_; intro q8 cp8 w8 own8 gr8 hor8 hlt8)
            | fail)
          have hb8 := below_grew ((hbg.trans ((al2 wr _ _).mono hbg.size))) gr8 (by rw [World.size_alloc, World.size_alloc]; omega) (fun q e => by have := (hLo q e).1; omega)
          have hz8 := gr8.size
          rw [World.size_alloc, World.size_alloc] at hz8
          refine ⟨⟨_, k + 1, sg ++ [⟨j, k, ⟨fn, ft, fw, fs, fi⟩⟩], rfl, by simp, HK.out, ?_, HG.out, ?_, hb8, by omega⟩, ?_⟩
          · rw [List.length_append, cellsS_app]
            exact own8
          · rw [List.length_append]
            simp only [List.length_cons, List.length_nil]
            omega
          · have := HK.out
            simp [RowKit.intOf]
            omega
        · have l2 : decide (((k : Nat) : Int) < (x.fs.length : Int)) = false := by simp; omega
          have l3 : decide (k < x.fs.length) = false := by simp; omega
          have hke : k = x.fs.length := by omega
          have hsg : Hid (sg = sf ++ fldsSp j 0 x.fs) := by
            show sg = _
            rw [hke, List.drop_length] at hrg
            simpa [fldsSp] using hrg
          have hl12 : Hid (sg.length ≤ 12 * (j + 1)) := by show sg.length ≤ 12 * (j + 1); omega
          clear hke hkl hrg hk hlg
          go_wp2
          refine ⟨⟨_, j + 1, sg, rfl, by simp, HJ.out, hog, ?_, hl12.out, hbg, hzg⟩, ?_⟩
          · rw [hsg.out, List.append_assoc]
            exact HR.out
          · have := HJ.out
            simp [RowKit.intOf]
            omega
    · have l2 : decide (((j : Nat) : Int) < (s.os.length : Int)) = false := by simp; omega
      have l3 : decide (j < s.os.length) = false := by simp; omega
      have hje : j = s.os.length := by omega
      have HS : Hid (sf = obsSp 0 s.os) := by
        show sf = _
        rw [hje, List.drop_length] at hrel
        simpa [obsSp] using hrel
      have HL : Hid (sf.length ≤ 140737488355328) := by show sf.length ≤ _; omega
      clear hje hlt hrel hj hlen
      go_wp2
      refine bodyPost_ret (v := lv0) (by simp [results, Tryz.results24, go_sem]) rfl ⟨_, rfl, ?_, hbr⟩
      rw [← HS.out]
      exact spts_own hown HL.out
end
end Go.Proofs.YtfkgmgnoijokdaaGreatDoor
