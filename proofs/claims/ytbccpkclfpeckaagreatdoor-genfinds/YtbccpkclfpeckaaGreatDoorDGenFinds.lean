/- Where any name stands in any list of definitions, and which field that is, is as the document says: for any list of definitions and any two strings (within the form's own reach of 2^47 - 4096 bytes); the listed package variables are as the program's text lays them (tied). -/
import Derived.Test.YtbccpkclfpeckaaGreatDoorG03
import Derived.Test.YtbccpkclfpeckaaGreatDoorC02
import Derived.Deep.Slices
import Derived.OpenShut
import Derived.ProofKit
import Derived.SizedLaws
import Derived.Test.YtbccpkclfpeckaaGreatDoorC03
import Derived.Test.YtbccpkclfpeckaaGreatDoorRows
import Derived.Test.YtbccpkclfpeckaaGreatDoorLxK
import Derived.Lib.LaidU8
import Derived.LaidMore
import Derived.Stop.LaidErr
import Derived.Lay
import Derived.Shelf.Vars
import Derived.Test.YtbccpkclfpeckaaGreatDoorTie
import Derived.Test.YtbccpkclfpeckaaGreatDoorCards
import Derived.ShutString
import Derived.ChangeOld
import Derived.SevenTiedAt
import Derived.Stop.Joined
import Derived.Carry
namespace Go.Proofs.YtbccpkclfpeckaaGreatDoor
open Go Go.RowKit Go.Shelf
set_option maxRecDepth 100000 in
set_option maxHeartbeats 4000000 in
theorem jfind_any {l : List Df} {v : Value} {w : World} (h : DefsAt w v l) (y : Bs) : Calls Tryz.prog 15 #[v, .string ⟨y.toArray⟩] w fun e w' => e = .returned (.int .i64 (fndT l y)) ∧ Below w.heap.size w w' := by
  have hh := h
  obtain ⟨a0, cap, rfl, hc, hn, hr⟩ := h
  go_enter Tryz.func15, Tryz.ntmps15
  go_wp2
  go_loopw [5] (fun i wr => ∃ j : Nat, i = .int .i64 (j : Int) ∧ j ≤ l.length ∧ (∀ (q : Nat) z, q < j → (l.map (·.n))[q]? = some z → (z == y) = false) ∧ wr = w) (fun i _ => l.length - (RowKit.intOf i).toNat)
  case atStart => exact ⟨0, rfl, Nat.zero_le _, fun q z hq => absurd hq (Nat.not_lt_zero _), rfl⟩
  case round =>
    obtain ⟨j, rfl, hj, hno, rfl⟩ := hrel
    by_cases hlt : j < l.length
    · obtain ⟨x, hx⟩ : ∃ x, l[j]? = some x := ⟨_, List.getElem?_eq_getElem hlt⟩
      obtain ⟨b, o, c, a1, n1, c1, a2, n2, c2, a3, n3, c3, hv, hbl, _, e0, _⟩ := df_cells hh hx
      cases hv
      have l1 : ((j : Nat) : Int) < (l.length : Int) := by omega
      have hjN : ((j : Nat) : Int).toNat = j := by omega
      have hnm : (l.map (·.n))[j]? = some x.n := (by rw [List.getElem?_map, hx]; rfl)
      have hz : Hid (j + 1 ≤ l.length) := hlt
      have HN : Hid (∀ (q : Nat) z, q < j → (l.map (·.n))[q]? = some z → (z == y) = false) := hno
      have HM : Hid ((l.map (·.n))[j]? = some x.n) := hnm
      clear hno hnm hr hx hlt hh
      cases hq : (x.n == y) with
      | true =>
        have HP : Hid (fndT l y = (j : Int)) := by
          have e : x.n = y := by simpa using hq
          have h2 := HM.out
          rw [e] at h2
          exact plB_hit h2 HN.out
        go_wp2
        go_ret
        exact ⟨by rw [HP.out]; rfl, Below.refl _ _⟩
      | false =>
        have hno2 : Hid (∀ (q : Nat) z, q < j + 1 → (l.map (·.n))[q]? = some z → (z == y) = false) := by
          intro q z hq1 hz1
          by_cases e : q = j
          · subst e
            rw [HM.out] at hz1
            cases hz1
            exact hq
          · exact HN.out q z (by omega) hz1
        go_wp2
        refine ⟨⟨j + 1, by simp, hz.out, hno2.out, trivial⟩, ?_⟩
        have := hz.out
        simp [RowKit.intOf]
        omega
    · have l2 : decide (((j : Nat) : Int) < (l.length : Int)) = false := by simp; omega
      have l3 : decide (j < l.length) = false := by simp; omega
      have HP : Hid (fndT l y = -1) := plB_none fun q z hz => hno q z (by
        have := (List.getElem?_eq_some_iff.1 hz).1
        rw [List.length_map] at this
        omega) hz
      clear hno hr hlt hj hh
      go_wp2
      go_ret
      exact ⟨by rw [HP.out]; rfl, Below.refl _ _⟩
set_option maxRecDepth 100000 in
theorem jout_any (w : World) (a b c : ByteArray) (p : Option Addr) (n m : Nat) : Calls Tryz.prog 22 #[.string a, .string b, .string c, .slice p n m] w fun e w' => e = .returned (.agg #[.string a, .string b, .string c, .slice p n m]) ∧ Below w.heap.size w w' := by
  go_enter Tryz.func22, Tryz.ntmps22
  go_wp2
  exact bodyPost_ret (v := .agg #[.string a, .string b, .string c, .slice p n m]) (by simp [results, Tryz.results22, go_sem]) rfl ⟨rfl, al1 w _⟩
section
variable {w : World} {v : Value} {l : List Df}
set_option maxRecDepth 100000 in
set_option maxHeartbeats 8000000 in
theorem jOut_any (h : DefsAt w v l) (x f : Bs) : Calls Tryz.prog 13 #[v, .string ⟨x.toArray⟩, .string ⟨f.toArray⟩] w fun e w' => ∃ p n c, e = .returned (.tuple #[outV ((outT l x f).getD zO, .slice p n c), .bool (outT l x f).isSome]) ∧ InsAt w' (.slice p n c) ((outT l x f).getD zO).ar ∧ Below w.heap.size w w' := by
  have A0 := al1 w outZ
  have FD := jfind_any (h.on A0) x
  have hh := h
  obtain ⟨va, vc, rfl, _, _⟩ := h.slice
  by_cases hk : fndT l x < 0
  · rw [out_none hk]
    have hk2 : decide (fndT l x < 0) = true := by simpa using hk
    generalize fndT l x = k at *
    clear h hh
    go_enter Tryz.func13, Tryz.ntmps13
    go_wp2_with (first
      | (go_at_call 15; (with_reducible refine FD.mono ?_); rintro e w2 ⟨rfl, b2⟩; obtain ⟨c0, c1, c2, c3, cf⟩ := row4 (new_on b2))
      | fail)
    exact bodyPost_ret (v := .tuple #[.agg #[.string ⟨#[]⟩, .string ⟨#[]⟩, .string ⟨#[]⟩, .slice none 0 0], .bool false]) (by simp [results, Tryz.results13, go_sem, c0, c1, c2, c3]) rfl ⟨none, 0, 0, rfl, ins_none _, bel_kp (A0.trans (b2.mono A0.size)) (Nat.le_refl _) (kp4 _ _ _ _ _ _)⟩
  · obtain ⟨j, d, hj, hd, _⟩ := fnd_some hk
    obtain ⟨b, o, c, a1, n1, c1, a2, n2, c2, a3, n3, c3, hv, hbl, hlc, e0, e1, e2, e3, e4, _, hos, _⟩ := df_cells hh hd
    cases hv
    have hjl := (List.getElem?_eq_some_iff.1 hd).1
    have jl : ((j : Nat) : Int) < (l.length : Int) := by omega
    have jn : ((j : Nat) : Int).toNat = j := by omega
    have j0 : ¬ ((j : Nat) : Int) < 0 := by omega
    rw [out_some hj hd]
    rw [hj] at FD
    unfold fldO'
    by_cases hk2 : d.k = 2
    · have hk3 : ¬ d.k ≠ 2 := by simpa using hk2
      rw [if_neg hk3]
      cases hf : (f == tyN) with
      | true =>
        have hf2 : f = tyN := by simpa using hf
        have HF : Hid (f = tyN) := hf2
        rw [if_pos hf2]
        have hz2 : ((ByteArray.mk f.toArray).toList == (ByteArray.mk tyN.toArray).toList) = true := by rw [bytes_eq]; exact hf
        clear h hh hd hk hf2
        go_enter Tryz.func13, Tryz.ntmps13
        go_wp2_with (first
          | (go_at_call 15; (with_reducible refine FD.mono ?_); rintro e w2 ⟨rfl, b2⟩; have f1 := cell_on (A0.trans (b2.mono A0.size)) e1; rw [hk2] at f1)
          | (go_at_call 22; (with_reducible refine (jout_any _ _ _ _ _ _ _).mono ?_); rintro e w3 ⟨rfl, b3⟩; have b23 := b2.trans (b3.mono b2.size); obtain ⟨c0, c1, c2, c3, cf⟩ := row4 (new_on b23))
          | fail)
        exact bodyPost_ret (v := .tuple #[.agg #[.string ⟨f.toArray⟩, .string ⟨#[83, 116, 114, 105, 110, 103]⟩, .string ⟨#[33]⟩, .slice none 0 0], .bool true]) (by simp [results, Tryz.results13, go_sem, c0, c1, c2, c3]) rfl ⟨none, 0, 0, rfl, ins_none _, bel_kp (A0.trans (b23.mono A0.size)) (Nat.le_refl _) (kp4 _ _ _ _ _ _)⟩
      | false =>
        have hf2 : ¬ f = tyN := by simpa using hf
        rw [if_neg hf2]
        have hos' := hos
        obtain ⟨oa, oc, ho, _, _⟩ := hos.slice
        cases ho
        clear h hh hd hk hf2
        go_enter Tryz.func13, Tryz.ntmps13
        go_wp2_with (first
          | (go_at_call 15; (with_reducible refine FD.mono ?_); rintro e w2 ⟨rfl, b2⟩; have D2 := A0.trans (b2.mono A0.size); have f1 := cell_on D2 e1; rw [hk2] at f1; have f3 := cell_on D2 e3)
          | fail)
        have HB2 : Hid (Below (w.alloc outZ).heap.size (w.alloc outZ) w2) := b2
        go_loopw [9] (fun iv wr => ∃ i : Nat, iv = .int .i64 (i : Int) ∧ i ≤ d.os.length ∧ (∀ (q : Nat) z, q < i → d.os[q]? = some z → (z.n == f) = false) ∧ wr = w2) (fun iv _ => d.os.length - (RowKit.intOf iv).toNat)
        case atStart => exact ⟨0, rfl, Nat.zero_le _, fun q z hq => absurd hq (Nat.not_lt_zero _), rfl⟩
        case round =>
          obtain ⟨i, rfl, hi, hno, rfl⟩ := hrel
          have hbr := HB2.out
          have hbw := A0.trans (hbr.mono A0.size)
          by_cases hlt : i < d.os.length
          · obtain ⟨y, hy⟩ : ∃ y, d.os[i]? = some y := ⟨_, List.getElem?_eq_getElem hlt⟩
            obtain ⟨b5, o5, a5, n5, c5, ha, hn, _, hoc, g0, g1, g2, g3, hia, h48⟩ := ot_cells hos' hy
            cases ha
            have q0 := cell_on hbw g0
            have q1 := cell_on hbw g1
            have q2 := cell_on hbw g2
            have q3 := cell_on hbw g3
            have l1 : ((i : Nat) : Int) < (d.os.length : Int) := by omega
            have hiN : ((i : Nat) : Int).toNat = i := by omega
            have HK : Hid (i + 1 ≤ d.os.length) := hlt
            have HY : Hid (d.os[i]? = some y) := hy
            have HN : Hid (∀ (q : Nat) z, q < i → d.os[q]? = some z → (z.n == f) = false) := hno
            obtain ⟨c0, c1, c2, c3, cf⟩ := row4 (new_on hbr)
            clear hy hno hlt hos hos'
            cases hq : (y.n == f) with
            | true =>
              have HP : Hid (d.os.find? (fun o => o.n == f) = some y) := find_hit HY.out hq HN.out
              obtain ⟨yn, yt, yw, ya⟩ := y
              simp only at *
              go_wp2
              exact bodyPost_ret (v := .tuple #[.agg #[.string ⟨yn.toArray⟩, .string ⟨yt.toArray⟩, .string ⟨yw.toArray⟩, .slice a5 n5 c5], .bool true]) (by simp [results, Tryz.results13, go_sem, c0, c1, c2, c3]) rfl (by rw [HP.out]; exact ⟨a5, n5, c5, rfl, ins_kp hia hbw (kp4 _ _ _ _ _ _) (Nat.le_refl _), bel_kp hbw (Nat.le_refl _) (kp4 _ _ _ _ _ _)⟩)
            | false =>
              have hno2 : Hid (∀ (q : Nat) z, q < i + 1 → d.os[q]? = some z → (z.n == f) = false) := by
                intro q z hq1 hz1
                by_cases e : q = i
                · subst e
                  rw [HY.out] at hz1
                  cases hz1
                  exact hq
                · exact HN.out q z (by omega) hz1
              go_wp2
              refine ⟨⟨i + 1, by simp, HK.out, hno2.out, trivial⟩, ?_⟩
              have := HK.out
              simp [RowKit.intOf]
              omega
          · have l2 : decide (((i : Nat) : Int) < (d.os.length : Int)) = false := by simp; omega
            have l3 : decide (i < d.os.length) = false := by simp; omega
            have HP : Hid (d.os.find? (fun o => o.n == f) = none) := find_miss fun q z hz => hno q z (by
              have := (List.getElem?_eq_some_iff.1 hz).1
              omega) hz
            obtain ⟨c0, c1, c2, c3, cf⟩ := row4 (new_on hbr)
            clear hno hlt hi hos hos'
            go_wp2
            exact bodyPost_ret (v := .tuple #[.agg #[.string ⟨#[]⟩, .string ⟨#[]⟩, .string ⟨#[]⟩, .slice none 0 0], .bool false]) (by simp [results, Tryz.results13, go_sem, c0, c1, c2, c3]) rfl (by rw [HP.out]; exact ⟨none, 0, 0, rfl, ins_none _, bel_kp hbw (Nat.le_refl _) (kp4 _ _ _ _ _ _)⟩)
    · have hk3 : d.k ≠ 2 := hk2
      rw [if_pos hk3]
      clear h hh hd hk
      have hk4 : (d.k != 2) = true := by simpa using hk2
      have j2 : decide (((j : Nat) : Int) < 0) = false := by simp
      go_enter Tryz.func13, Tryz.ntmps13
      go_wp2_with (first
        | (go_at_call 15; (with_reducible refine FD.mono ?_); rintro e w2 ⟨rfl, b2⟩; have f1 := cell_on (A0.trans (b2.mono A0.size)) e1; obtain ⟨c0, c1, c2, c3, cf⟩ := row4 (new_on b2))
        | fail)
      exact bodyPost_ret (v := .tuple #[.agg #[.string ⟨#[]⟩, .string ⟨#[]⟩, .string ⟨#[]⟩, .slice none 0 0], .bool false]) (by simp [results, Tryz.results13, go_sem, c0, c1, c2, c3]) rfl ⟨none, 0, 0, rfl, ins_none _, bel_kp (A0.trans (b2.mono A0.size)) (Nat.le_refl _) (kp4 _ _ _ _ _ _)⟩
end
/-- Two rows of the same arguments. -/
theorem ins_eq_cells {w : World} {a : Option Addr} {n c : Nat} {l : List Inn} {i : Nat} {x : Inn} (h : InsAt w (.slice a n c) l) (hx : l[i]? = some x) : ∃ b o, a = some ⟨b, o, none⟩ ∧ n ≤ c ∧ n = l.length ∧ w.cell? ⟨b, o + i * 3, none⟩ = some (.string ⟨x.n.toArray⟩) ∧ w.cell? ⟨b, o + i * 3 + 1, none⟩ = some (.string ⟨x.t.toArray⟩) ∧ w.cell? ⟨b, o + i * 3 + 2, none⟩ = some (.string ⟨x.w.toArray⟩) := by
  obtain ⟨b, o, rfl, rfl, _, hc, q⟩ := ins_at h hx
  exact ⟨b, o, rfl, hc, rfl, q.1, q.2.1, q.2.2⟩
set_option maxRecDepth 100000 in
set_option maxHeartbeats 4000000 in
theorem jsameIns_eq {w : World} {va vb : Value} {l : List Inn} (ha : InsAt w va l) (hb : InsAt w vb l) : Calls Tryz.prog 33 #[va, vb] w fun e w' => e = .returned (.bool true) ∧ Below w.heap.size w w' := by
  have ha' := ha
  have hb' := hb
  obtain ⟨a1, c1, rfl, k1, _⟩ := ha.slice
  obtain ⟨a2, c2, rfl, k2, _⟩ := hb.slice
  clear ha hb
  go_enter Tryz.func33, Tryz.ntmps33
  go_wp2
  go_loopw [5] (fun i wr => ∃ j : Nat, i = .int .i64 (j : Int) ∧ j ≤ l.length ∧ Below w.heap.size w wr) (fun i _ => l.length - (RowKit.intOf i).toNat)
  case atStart => exact ⟨0, rfl, Nat.zero_le _, Below.refl _ _⟩
  case round =>
    obtain ⟨j, rfl, hj, hbr⟩ := hrel
    by_cases hlt : j < l.length
    · obtain ⟨x, hx⟩ : ∃ x, l[j]? = some x := ⟨_, List.getElem?_eq_getElem hlt⟩
      obtain ⟨b1, o1, rfl, _, _, e0, e1, e2⟩ := ins_eq_cells ha' hx
      obtain ⟨b2, o2, rfl, _, _, f0, f1, f2⟩ := ins_eq_cells hb' hx
      have l1 : ((j : Nat) : Int) < (l.length : Int) := by omega
      have hjN : ((j : Nat) : Int).toNat = j := by omega
      have hz : Hid (j + 1 ≤ l.length) := hlt
      have g0 := cell_on hbr e0
      have g1 := cell_on hbr e1
      have g2 := cell_on hbr e2
      have r0 := cell_on hbr f0
      have r1 := cell_on hbr f1
      have r2 := cell_on hbr f2
      obtain ⟨xn, xt, xw⟩ := x
      simp only at g0 g1 g2 r0 r1 r2
      clear hx hlt e0 e1 e2 f0 f1 f2 ha' hb'
      go_wp2
      go_region_held3 (fun w' => w'.cell? ⟨b1, o1 + j * 3, none⟩ = some (.string ⟨xn.toArray⟩) ∧ w'.cell? ⟨b1, o1 + j * 3 + 1, none⟩ = some (.string ⟨xt.toArray⟩) ∧ w'.cell? ⟨b1, o1 + j * 3 + 2, none⟩ = some (.string ⟨xw.toArray⟩) ∧ w'.cell? ⟨b2, o2 + j * 3, none⟩ = some (.string ⟨xn.toArray⟩) ∧ w'.cell? ⟨b2, o2 + j * 3 + 1, none⟩ = some (.string ⟨xt.toArray⟩) ∧ w'.cell? ⟨b2, o2 + j * 3 + 2, none⟩ = some (.string ⟨xw.toArray⟩)) (go_keep) (fail)
      go_wp2
      refine ⟨⟨j + 1, by simp, hz.out, bel_dr hbr⟩, ?_⟩
      have := hz.out
      simp [RowKit.intOf]
      omega
    · have l2 : decide (((j : Nat) : Int) < (l.length : Int)) = false := by simp; omega
      have l3 : decide (j < l.length) = false := by simp; omega
      clear hlt hj ha' hb'
      go_wp2
      go_ret
      exact ⟨rfl, hbr⟩
set_option maxRecDepth 100000 in
set_option maxHeartbeats 4000000 in
theorem jsameOut_eq {w : World} {x : Ot} {p p' : Option Addr} {n c n' c' : Nat} (ha : InsAt w (.slice p n c) x.ar) (hb : InsAt w (.slice p' n' c') x.ar) : Calls Tryz.prog 16 #[outV (x, .slice p n c), outV (x, .slice p' n' c')] w fun e w' => e = .returned (.bool true) ∧ Below w.heap.size w w' := by
  have SI := fun o o' => jsameIns_eq (ha.on (al2 w o o')) (hb.on (al2 w o o'))
  obtain ⟨xn, xt, xw, xa⟩ := x
  clear ha hb
  go_enter Tryz.func16, Tryz.ntmps16
  go_wp2_with (first
    | (go_at_call 33; (with_reducible refine (SI _ _).mono ?_); rintro e w2 ⟨rfl, b2⟩)
    | fail)
  go_ret
  exact ⟨rfl, (al2 w _ _).trans (b2.mono (al2 w _ _).size)⟩
set_option maxRecDepth 100000 in
set_option maxHeartbeats 8000000 in
theorem finds_any {w : World} {v : Value} {l : List Df} (h : DefsAt w v l) (gl : Gl w) (x f : Bs) : Calls Tryz.prog 4 #[v, .string ⟨x.toArray⟩, .string ⟨f.toArray⟩] w fun e w' => e = .returned (.bool true) ∧ Below w.heap.size w w' := by
  have GO := gOut_any h x f
  have nx : ∀ {X Y : World}, Below w.heap.size w X → Below X.heap.size X Y → Below w.heap.size w Y := fun p q => p.trans (q.mono p.size)
  have al : ∀ {X : World} {o : Obj}, Below w.heap.size w X → Below w.heap.size w (X.alloc o) := fun p => p.alloc p.size _
  have JO := fun {X : World} (d : Below w.heap.size w X) => jOut_any (h.on d) x f
  have FX := fun {X : World} (d : Below w.heap.size w X) => gfixed_any X (gl.below d (Nat.le_refl _))
  have GF := fun {X : World} (d : Below w.heap.size w X) => gfind_any (h.on d) x
  have JF := fun {X : World} (d : Below w.heap.size w X) => jfind_any (h.on d) x
  obtain ⟨va, vc, rfl, _, _⟩ := h.slice
  generalize outT l x f = ot at *
  generalize fndT l x = k at *
  generalize hx : ot.getD zO = y at *
  obtain ⟨yn, yt, yw, ya⟩ := y
  clear h gl hx
  go_enter Tryz.func4, Tryz.ntmps4
  go_wp2_with (first
    | (go_at_call 12; (with_reducible refine GO.mono ?_); rintro e x1 ⟨p1, n1, c1, rfl, I1, D⟩; have N1 := heap_alloc_new x1 (outN ⟨yn, yt, yw, []⟩ p1 n1 c1))
    | (go_at_call 13; (with_reducible refine (JO (al D)).mono ?_); rintro e x2 ⟨p2, n2, c2, rfl, I2, b2⟩; replace D := nx (al D) b2; replace I1 := (I1.on (al1 _ _)).on b2; replace N1 := (b2.block _ (lt_of_block N1)).trans N1; have N2 := heap_alloc_new x2 (outN ⟨yn, yt, yw, []⟩ p2 n2 c2); clear b2)
    | (go_at_call 11; (with_reducible refine (FX (al D)).mono ?_); rintro e x3 ⟨rfl, b3⟩; replace D := nx (al D) b3; replace I1 := (I1.on (al1 _ _)).on b3; replace I2 := (I2.on (al1 _ _)).on b3; replace N1 := (b3.block _ (Nat.lt_of_lt_of_le (lt_of_block N1) (al1 _ _).size)).trans (((al1 _ _).block _ (lt_of_block N1)).trans N1); replace N2 := (b3.block _ (lt_of_block N2)).trans N2; clear b3)
    | (go_at_call 14; (with_reducible refine (GF D).mono ?_); rintro e x4 ⟨rfl, b4⟩; replace D := nx D b4; replace I1 := I1.on b4; replace I2 := I2.on b4; replace N1 := (b4.block _ (lt_of_block N1)).trans N1; replace N2 := (b4.block _ (lt_of_block N2)).trans N2; clear b4)
    | (go_at_call 15; (with_reducible refine (JF D).mono ?_); rintro e x5 ⟨rfl, b5⟩; replace D := nx D b5; replace I1 := I1.on b5; replace I2 := I2.on b5; replace N1 := (b5.block _ (lt_of_block N1)).trans N1; replace N2 := (b5.block _ (lt_of_block N2)).trans N2; clear b5; obtain ⟨t0, t1, t2, t3, _⟩ := row4 N1; obtain ⟨u0, u1, u2, u3, _⟩ := row4 N2)
    | (go_at_call 16; (with_reducible refine (jsameOut_eq (x := ⟨yn, yt, yw, ya⟩) I1 I2).mono ?_); rintro e x6 ⟨rfl, b6⟩; replace D := nx D b6)
    | fail)
  go_ret
  exact ⟨rfl, D⟩
end Go.Proofs.YtbccpkclfpeckaaGreatDoor
namespace Go.Proofs.YtbccpkclfpeckaaGreatDoor
open Go Go.RowKit Go.ChangeShapes Go.WideShapes Go.Deep
/-- Nothing within it is beyond the form's reach. -/
def Wt {H : Type} (t : TypeId) (d : DataW H) : Prop := ∀ n ∈ d.weights Tryz.prog t, n ≤ reachBytes
theorem mem_weightsAll {H : Type} {e : TypeId} {d : DataW H} {n : Nat} (hn : n ∈ d.weights Tryz.prog e) : ∀ {l : List (DataW H)}, d ∈ l → n ∈ DataW.weightsAll Tryz.prog e l
  | x :: r, h => by
    simp only [DataW.weightsAll, List.mem_append]
    rcases List.mem_cons.1 h with rfl | h
    · exact Or.inl hn
    · exact Or.inr (mem_weightsAll hn h)
theorem Wt.elem {H : Type} {t e : TypeId} {el sp : List (DataW H)} (ht : Tryz.prog.underlying t = some (.slice e)) (h : Wt t (.slice el sp)) {d : DataW H} (hd : d ∈ el) : Wt e d := by
  intro n hn
  refine h n ?_
  simp only [DataW.weights, ht, List.mem_cons, List.mem_append]
  exact Or.inr (Or.inl (mem_weightsAll hn hd))
theorem Wt.len {H : Type} {t e : TypeId} {el sp : List (DataW H)} (ht : Tryz.prog.underlying t = some (.slice e)) (h : Wt t (.slice el sp)) (hb : 1 ≤ Tryz.prog.bytesOf e) : el.length ≤ 140737488355328 := by
  have h1 := h ((el.length + sp.length) * Tryz.prog.bytesOf e) (by simp only [DataW.weights, ht, List.mem_cons, true_or])
  have h2 := reachBytes_lt
  have h3 : el.length + sp.length ≤ (el.length + sp.length) * Tryz.prog.bytesOf e := Nat.le_mul_of_pos_right _ hb
  omega
theorem Wt.part {H : Type} {t : TypeId} {fs : Array Field} {parts : List (DataW H)} (ht : Tryz.prog.underlying t = some (.struct fs)) (h : Wt t (.agg parts)) {j : Nat} {u : TypeId} {d : DataW H} (hu : (fs.toList.map (·.type))[j]? = some u) (hd : parts[j]? = some d) : Wt u d := by
  intro n hn
  refine h n ?_
  simp only [DataW.weights, ht]
  exact DataW.weights_mem_each hu hd n hn
section
variable {H : Type} {enc : TypeId × Value → H} {w : World} {base : Nat} {spare : Nat → Bool} {held : Bool}
theorem open_sl {α : Type} {sz : Nat} {t e : TypeId} {p : α → Nat → Nat → Prop} (ht : Tryz.prog.underlying t = some (.slice e)) (hsz : Tryz.prog.cellsOf e = sz) (hs1 : 0 < sz) (hb : 1 ≤ Tryz.prog.bytesOf e) {fuel : Nat} {cs : List Value} {x : DataW H × List MemPlace} (h : DataW.trod enc Tryz.prog w base spare held fuel t cs = some x) (hw : Wt t x.1)
    (each : ∀ (fuel : Nat) (cs : List Value) (y : DataW H × List MemPlace) (b o : Nat), DataW.trod enc Tryz.prog w base spare held fuel e cs = some y → Wt e y.1 → cs.length = sz → (∀ j u, cs[j]? = some u → w.cell? ⟨b, o + j, none⟩ = some u) → ∃ a : α, p a b o) :
    ∃ (v : Value) (l : List α), cs = [v] ∧ Sl w v l.length sz (fun i b o => ∀ a, l[i]? = some a → p a b o) := by
  rcases open_slice ht h with ⟨hcs, _⟩ | ⟨ad, len, cap, m, n, D, Pl, hcs, _, hl, hm, hmm, rfl, hx⟩
  · exact ⟨_, [], hcs, _, 0, rfl, Nat.le_refl _, by simp, fun h => absurd h (by simp)⟩
  · have hlm : len ≤ m := by rw [hmm]; split <;> omega
    rw [hsz] at hx
    have hlen47 : len ≤ 140737488355328 := by
      have := hw.len ht hb
      simpa using this
    by_cases h0 : len = 0
    · subst h0
      exact ⟨_, [], hcs, some ad, cap, rfl, by simp, by simp, fun h => absurd h (by simp)⟩
    · obtain ⟨b, o, sp⟩ := ad
      have cell : ∀ i, i < len → ∃ cs', DataW.trod enc Tryz.prog w base spare held n e cs' = some (D i, Pl i) ∧ cs'.length = sz ∧ ∀ j, j < sz → w.cell? ((⟨b, o, sp⟩ : Addr).add (i * sz + j)) = cs'[j]? := by
        intro i hi
        obtain ⟨cs', h1, h2⟩ := hx i (by omega)
        obtain ⟨_, hlen, hcell⟩ := World.cells?_some h1
        refine ⟨cs', h2, hlen, fun j hj => ?_⟩
        have := hcell j hj
        rw [add_add] at this
        exact this
      obtain ⟨cs0, _, hl0, hc0⟩ := cell 0 (by omega)
      obtain ⟨u0, hu0⟩ : ∃ u, cs0[0]? = some u := ⟨_, List.getElem?_eq_getElem (by omega)⟩
      have hc00 := (hc0 0 hs1).trans hu0
      have hsp : sp = none := by simpa [Addr.add] using World.cell?_spot hc00
      subst hsp
      have hbl : b < w.heap.size := by
        have := World.block_lt_of_cell? w _ hc00
        simpa [Addr.add] using this
      have each' : ∀ i, i < len → ∃ a : α, p a b (o + i * sz) := by
        intro i hi
        obtain ⟨cs', h1, h2, h3⟩ := cell i hi
        refine each n cs' _ b (o + i * sz) h1 (hw.elem ht (List.mem_map.2 ⟨i, List.mem_range.2 hi, rfl⟩)) h2 fun j u hj => ?_
        have hjs : j < sz := by
          have := (List.getElem?_eq_some_iff.1 hj).1
          omega
        have h4 := (h3 j hjs).trans hj
        have e4 : (⟨b, o, none⟩ : Addr).add (i * sz + j) = ⟨b, o + i * sz + j, none⟩ := by simp [Addr.add, Nat.add_assoc]
        rw [e4] at h4
        exact h4
      obtain ⟨a0, _⟩ := each' 0 (by omega)
      haveI : Inhabited α := ⟨a0⟩
      obtain ⟨f, hf⟩ := choose_lt each'
      refine ⟨_, (List.range len).map f, hcs, some ⟨b, o, none⟩, cap, by simp, by simpa using hl, by simpa using hlen47, fun _ => ⟨b, o, rfl, hbl, fun i hi a ha => ?_⟩⟩
      have hi : i < len := by simpa using hi
      have hpf : a = f i := by
        simp [hi] at ha
        exact ha.symm
      subst hpf
      exact hf i hi
theorem Tryz.cStr : Tryz.prog.cellsOf 9 = 1 := by kernel_rfl
theorem Tryz.cFld : Tryz.prog.cellsOf 56 = 5 := by kernel_rfl
theorem Tryz.cRef : Tryz.prog.cellsOf 37 = 2 := by kernel_rfl
theorem Tryz.cBool : Tryz.prog.cellsOf 4 = 1 := by kernel_rfl
theorem Tryz.cOb : Tryz.prog.cellsOf 54 = 2 := by kernel_rfl
theorem Tryz.cEn : Tryz.prog.cellsOf 59 = 2 := by kernel_rfl
theorem Tryz.cSch : Tryz.prog.cellsOf 25 = 2 := by kernel_rfl
theorem Tryz.cFs : Tryz.prog.cellsOf 52 = 1 := by kernel_rfl
theorem Tryz.cWs : Tryz.prog.cellsOf 31 = 1 := by kernel_rfl
theorem Tryz.cOs : Tryz.prog.cellsOf 22 = 1 := by kernel_rfl
theorem Tryz.cEs : Tryz.prog.cellsOf 23 = 1 := by kernel_rfl
theorem open_str {fuel : Nat} {cs : List Value} {x : DataW H × List MemPlace} (h : DataW.trod enc Tryz.prog w base spare held fuel 9 cs = some x) : ∃ b : Bs, cs = [.string ⟨b.toArray⟩] := by
  obtain ⟨t, e, _, _⟩ := DataW.trod_string Tryz.underlying9 h
  exact ⟨t.data.toList, by rw [e]⟩
set_option maxRecDepth 100000 in
theorem open_fld {fuel : Nat} {cs : List Value} {x : DataW H × List MemPlace} (h : DataW.trod enc Tryz.prog w base spare held fuel 56 cs = some x) :
    ∃ f : Fld, cs = [.string ⟨f.n.toArray⟩, .string ⟨f.t.toArray⟩, .string ⟨f.w.toArray⟩, .bool f.s, .string ⟨f.i.toArray⟩] := by
  obtain ⟨xs, n, _, _, hl, hxl, hf⟩ := DataW.trod_struct Tryz.underlying56 h
  rw [Tryz.cFld] at hl
  match xs, hxl, cs, hl with
  | [y0, y1, y2, y3], _, [v0, v1, v2, v3, v4], _ =>
    have g0 := hf 0 _ rfl
    have g1 := hf 1 _ rfl
    have g2 := hf 2 _ rfl
    have g3 := hf 3 _ rfl
    simp [Tryz.cStr, Tryz.cRef, Tryz.cBool] at g0 g1 g2 g3
    obtain ⟨a0, e0⟩ := open_str g0
    obtain ⟨ys, m, _, _, _, hyl, hg⟩ := DataW.trod_struct Tryz.underlying37 g1
    match ys, hyl with
    | [z0, z1], _ =>
      have q0 := hg 0 _ rfl
      have q1 := hg 1 _ rfl
      simp [Tryz.cStr] at q0 q1
      obtain ⟨a1, e1⟩ := open_str q0
      obtain ⟨a2, e2⟩ := open_str q1
      obtain ⟨a3, e3, _, _⟩ := DataW.trod_bool Tryz.underlying4 g2
      obtain ⟨a4, e4⟩ := open_str g3
      simp at e0 e1 e2 e3 e4
      exact ⟨⟨a0, a1, a2, a3, a4⟩, by rw [e0, e1, e2, e3, e4]⟩
theorem open_wds {fuel : Nat} {cs : List Value} {x : DataW H × List MemPlace} (h : DataW.trod enc Tryz.prog w base spare held fuel 31 cs = some x) (hw : Wt 31 x.1) : ∃ (v : Value) (ws : List Bs), cs = [v] ∧ WdsAt w v ws :=
  open_sl Tryz.underlying31 Tryz.cStr (by decide) (of_decide_eq_true (by kernel_rfl)) h hw fun fuel cs y b o hy _ _ hc => by
    obtain ⟨a, rfl⟩ := open_str hy
    exact ⟨a, hc 0 _ rfl⟩
theorem open_flds {fuel : Nat} {cs : List Value} {x : DataW H × List MemPlace} (h : DataW.trod enc Tryz.prog w base spare held fuel 52 cs = some x) (hw : Wt 52 x.1) : ∃ (v : Value) (fs : List Fld), cs = [v] ∧ FldsAt w v fs :=
  open_sl Tryz.underlying52 Tryz.cFld (by decide) (of_decide_eq_true (by kernel_rfl)) h hw fun fuel cs y b o hy _ _ hc => by
    obtain ⟨f, rfl⟩ := open_fld hy
    exact ⟨f, hc 0 _ rfl, hc 1 _ rfl, hc 2 _ rfl, hc 3 _ rfl, hc 4 _ rfl⟩
set_option maxRecDepth 100000 in
theorem open_ob {fuel : Nat} {cs : List Value} {x : DataW H × List MemPlace} (h : DataW.trod enc Tryz.prog w base spare held fuel 54 cs = some x) (hw : Wt 54 x.1) :
    ∃ (o : Ob) (fv : Value), cs = [.string ⟨o.n.toArray⟩, fv] ∧ FldsAt w fv o.fs := by
  obtain ⟨xs, n, _, rfl, hl, hxl, hf⟩ := DataW.trod_struct Tryz.underlying54 h
  rw [Tryz.cOb] at hl
  match xs, hxl, cs, hl with
  | [y0, y1], _, [v0, v1], _ =>
    have g0 := hf 0 _ rfl
    have g1 := hf 1 _ rfl
    simp [Tryz.cStr, Tryz.cFs] at g0 g1
    obtain ⟨a0, e0⟩ := open_str g0
    obtain ⟨fv, fs, e1, hfs⟩ := open_flds g1 (hw.part Tryz.underlying54 (j := 1) rfl rfl)
    simp at e0 e1
    exact ⟨⟨a0, fs⟩, fv, by rw [e0, e1], hfs⟩
set_option maxRecDepth 100000 in
theorem open_en {fuel : Nat} {cs : List Value} {x : DataW H × List MemPlace} (h : DataW.trod enc Tryz.prog w base spare held fuel 59 cs = some x) (hw : Wt 59 x.1) :
    ∃ (o : En) (fv : Value), cs = [.string ⟨o.n.toArray⟩, fv] ∧ WdsAt w fv o.ws := by
  obtain ⟨xs, n, _, rfl, hl, hxl, hf⟩ := DataW.trod_struct Tryz.underlying59 h
  rw [Tryz.cEn] at hl
  match xs, hxl, cs, hl with
  | [y0, y1], _, [v0, v1], _ =>
    have g0 := hf 0 _ rfl
    have g1 := hf 1 _ rfl
    simp [Tryz.cStr, Tryz.cWs] at g0 g1
    obtain ⟨a0, e0⟩ := open_str g0
    obtain ⟨fv, fs, e1, hfs⟩ := open_wds g1 (hw.part Tryz.underlying59 (j := 1) rfl rfl)
    simp at e0 e1
    exact ⟨⟨a0, fs⟩, fv, by rw [e0, e1], hfs⟩
theorem open_obs {fuel : Nat} {cs : List Value} {x : DataW H × List MemPlace} (h : DataW.trod enc Tryz.prog w base spare held fuel 22 cs = some x) (hw : Wt 22 x.1) : ∃ (v : Value) (fs : List Ob), cs = [v] ∧ ObsAt w v fs :=
  open_sl Tryz.underlying22 Tryz.cOb (by decide) (of_decide_eq_true (by kernel_rfl)) h hw fun fuel cs y b o hy hwy _ hc => by
    obtain ⟨f, fv, rfl, hfs⟩ := open_ob hy hwy
    exact ⟨f, hc 0 _ rfl, fv, hc 1 _ rfl, hfs⟩
theorem open_ens {fuel : Nat} {cs : List Value} {x : DataW H × List MemPlace} (h : DataW.trod enc Tryz.prog w base spare held fuel 23 cs = some x) (hw : Wt 23 x.1) : ∃ (v : Value) (fs : List En), cs = [v] ∧ EnsAt w v fs :=
  open_sl Tryz.underlying23 Tryz.cEn (by decide) (of_decide_eq_true (by kernel_rfl)) h hw fun fuel cs y b o hy hwy _ hc => by
    obtain ⟨f, fv, rfl, hfs⟩ := open_en hy hwy
    exact ⟨f, hc 0 _ rfl, fv, hc 1 _ rfl, hfs⟩
set_option maxRecDepth 100000 in
theorem open_sch {fuel : Nat} {cs : List Value} {x : DataW H × List MemPlace} (h : DataW.trod enc Tryz.prog w base spare held fuel 25 cs = some x) (hw : Wt 25 x.1) :
    ∃ (s : Sch) (ov ev : Value), cs = [ov, ev] ∧ SchAt w ov ev s := by
  obtain ⟨xs, n, _, rfl, hl, hxl, hf⟩ := DataW.trod_struct Tryz.underlying25 h
  rw [Tryz.cSch] at hl
  match xs, hxl, cs, hl with
  | [y0, y1], _, [v0, v1], _ =>
    have g0 := hf 0 _ rfl
    have g1 := hf 1 _ rfl
    simp [Tryz.cOs, Tryz.cEs] at g0 g1
    obtain ⟨ov, os, e0, h0⟩ := open_obs g0 (hw.part Tryz.underlying25 (j := 0) rfl rfl)
    obtain ⟨ev, es, e1, h1⟩ := open_ens g1 (hw.part Tryz.underlying25 (j := 1) rfl rfl)
    simp at e0 e1
    exact ⟨⟨os, es⟩, ov, ev, by rw [e0, e1], h0, h1⟩
end
end Go.Proofs.YtbccpkclfpeckaaGreatDoor
namespace Go.Proofs.YtbccpkclfpeckaaGreatDoor
open Go Go.RowKit Go.ChangeShapes Go.WideShapes Go.Deep
theorem Wt.lenB {H : Type} {t e : TypeId} {el sp : List (DataW H)} (ht : Tryz.prog.underlying t = some (.slice e)) (h : Wt t (.slice el sp)) {B : Nat} (hB : Tryz.prog.bytesOf e = B) : el.length * B ≤ 140737488355328 := by
  have h1 := h ((el.length + sp.length) * Tryz.prog.bytesOf e) (by simp only [DataW.weights, ht, List.mem_cons, true_or])
  have h2 := reachBytes_lt
  rw [hB] at h1
  have h3 : el.length * B ≤ (el.length + sp.length) * B := Nat.mul_le_mul_right _ (by omega)
  omega
theorem Sl.mem {α : Type} {w : World} {v : Value} {sz : Nat} {l : List α} {p : α → Nat → Nat → Prop} {q : α → Prop} (h : Sl w v l.length sz (fun i b o => ∀ a, l[i]? = some a → p a b o)) (hp : ∀ a b o, p a b o → q a) : ∀ a ∈ l, q a := by
  intro a ha
  obtain ⟨i, hi⟩ := List.mem_iff_getElem?.1 ha
  have hl := (List.getElem?_eq_some_iff.1 hi).1
  obtain ⟨_, _, _, _, _, hr⟩ := h
  obtain ⟨b, o, _, _, hH⟩ := hr (by omega)
  exact hp a b _ (hH i hl a hi)
section
variable {H : Type} {enc : TypeId × Value → H} {w : World} {base : Nat} {spare : Nat → Bool} {held : Bool}
theorem open_slB {α : Type} {sz B : Nat} {t e : TypeId} {p : α → Nat → Nat → Prop} (ht : Tryz.prog.underlying t = some (.slice e)) (hB : Tryz.prog.bytesOf e = B) {fuel : Nat} {cs : List Value} {x : DataW H × List MemPlace} (h : DataW.trod enc Tryz.prog w base spare held fuel t cs = some x) (hw : Wt t x.1)
    {v : Value} {l : List α} (hc : cs = [v]) (hl : Sl w v l.length sz (fun i b o => ∀ a, l[i]? = some a → p a b o)) : l.length * B ≤ 140737488355328 := by
  obtain ⟨a9, c9, hv9, _⟩ := hl
  rcases open_slice ht h with ⟨hcs, _⟩ | ⟨ad, len, cap, m, n, D, Pl, hcs, _, hl, hm, hmm, rfl, hx⟩
  · rw [hc] at hcs
    have e2 : v = .slice none 0 0 := by simpa using hcs
    rw [hv9] at e2
    have : l.length = 0 := by
      injection e2
    rw [this]
    simp
  · have := hw.lenB ht hB
    rw [hc] at hcs
    have e2 : v = .slice (some ad) len cap := by simpa using hcs
    rw [hv9] at e2
    have e3 : l.length = len := by
      injection e2
    rw [e3]
    simpa using this
set_option maxRecDepth 100000 in
theorem open_obB {fuel : Nat} {cs : List Value} {x : DataW H × List MemPlace} (h : DataW.trod enc Tryz.prog w base spare held fuel 54 cs = some x) (hw : Wt 54 x.1) :
    ∃ (o : Ob) (fv : Value), cs = [.string ⟨o.n.toArray⟩, fv] ∧ FldsAt w fv o.fs ∧ o.fs.length * 72 ≤ 140737488355328 := by
  obtain ⟨xs, n, _, rfl, hl, hxl, hf⟩ := DataW.trod_struct Tryz.underlying54 h
  rw [Tryz.cOb] at hl
  match xs, hxl, cs, hl with
  | [y0, y1], _, [v0, v1], _ =>
    have g0 := hf 0 _ rfl
    have g1 := hf 1 _ rfl
    simp [Tryz.cStr, Tryz.cFs] at g0 g1
    obtain ⟨a0, e0⟩ := open_str g0
    have hw1 := hw.part Tryz.underlying54 (j := 1) (u := 52) rfl rfl
    obtain ⟨fv, fs, e1, hfs⟩ := open_flds g1 hw1
    have hb := open_slB (B := 72) Tryz.underlying52 (by kernel_rfl) g1 hw1 e1 hfs
    simp at e0 e1
    exact ⟨⟨a0, fs⟩, fv, by rw [e0, e1], hfs, hb⟩
set_option maxRecDepth 100000 in
theorem open_enB {fuel : Nat} {cs : List Value} {x : DataW H × List MemPlace} (h : DataW.trod enc Tryz.prog w base spare held fuel 59 cs = some x) (hw : Wt 59 x.1) :
    ∃ (o : En) (fv : Value), cs = [.string ⟨o.n.toArray⟩, fv] ∧ WdsAt w fv o.ws ∧ o.ws.length * 16 ≤ 140737488355328 := by
  obtain ⟨xs, n, _, rfl, hl, hxl, hf⟩ := DataW.trod_struct Tryz.underlying59 h
  rw [Tryz.cEn] at hl
  match xs, hxl, cs, hl with
  | [y0, y1], _, [v0, v1], _ =>
    have g0 := hf 0 _ rfl
    have g1 := hf 1 _ rfl
    simp [Tryz.cStr, Tryz.cWs] at g0 g1
    obtain ⟨a0, e0⟩ := open_str g0
    have hw1 := hw.part Tryz.underlying59 (j := 1) (u := 31) rfl rfl
    obtain ⟨fv, fs, e1, hfs⟩ := open_wds g1 hw1
    have hb := open_slB (B := 16) Tryz.underlying31 (by kernel_rfl) g1 hw1 e1 hfs
    simp at e0 e1
    exact ⟨⟨a0, fs⟩, fv, by rw [e0, e1], hfs, hb⟩
theorem open_obsB {fuel : Nat} {cs : List Value} {x : DataW H × List MemPlace} (h : DataW.trod enc Tryz.prog w base spare held fuel 22 cs = some x) (hw : Wt 22 x.1) : ∃ (v : Value) (fs : List Ob), cs = [v] ∧ ObsAt w v fs ∧ fs.length * 40 ≤ 140737488355328 ∧ ∀ o ∈ fs, o.fs.length * 72 ≤ 140737488355328 := by
  obtain ⟨v, l, hc, hl⟩ := open_sl (p := fun a b o => ObAt w a b o ∧ a.fs.length * 72 ≤ 140737488355328) Tryz.underlying22 Tryz.cOb (by decide) (of_decide_eq_true (by kernel_rfl)) h hw fun fuel cs y b o hy hwy _ hc => by
    obtain ⟨f, fv, rfl, hfs, hb⟩ := open_obB hy hwy
    exact ⟨f, ⟨hc 0 _ rfl, fv, hc 1 _ rfl, hfs⟩, hb⟩
  exact ⟨v, l, hc, hl.mono (Nat.le_refl _) fun i b o _ hp a ha => (hp a ha).1, open_slB (B := 40) Tryz.underlying22 (by kernel_rfl) h hw hc hl, hl.mem fun a b o hp => hp.2⟩
theorem open_ensB {fuel : Nat} {cs : List Value} {x : DataW H × List MemPlace} (h : DataW.trod enc Tryz.prog w base spare held fuel 23 cs = some x) (hw : Wt 23 x.1) : ∃ (v : Value) (fs : List En), cs = [v] ∧ EnsAt w v fs ∧ fs.length * 40 ≤ 140737488355328 ∧ ∀ o ∈ fs, o.ws.length * 16 ≤ 140737488355328 := by
  obtain ⟨v, l, hc, hl⟩ := open_sl (p := fun a b o => EnAt w a b o ∧ a.ws.length * 16 ≤ 140737488355328) Tryz.underlying23 Tryz.cEn (by decide) (of_decide_eq_true (by kernel_rfl)) h hw fun fuel cs y b o hy hwy _ hc => by
    obtain ⟨f, fv, rfl, hfs, hb⟩ := open_enB hy hwy
    exact ⟨f, ⟨hc 0 _ rfl, fv, hc 1 _ rfl, hfs⟩, hb⟩
  exact ⟨v, l, hc, hl.mono (Nat.le_refl _) fun i b o _ hp a ha => (hp a ha).1, open_slB (B := 40) Tryz.underlying23 (by kernel_rfl) h hw hc hl, hl.mem fun a b o hp => hp.2⟩
set_option maxRecDepth 100000 in
theorem open_schB {fuel : Nat} {cs : List Value} {x : DataW H × List MemPlace} (h : DataW.trod enc Tryz.prog w base spare held fuel 25 cs = some x) (hw : Wt 25 x.1) :
    ∃ (s : Sch) (ov ev : Value), cs = [ov, ev] ∧ SchAt w ov ev s ∧ SchB s := by
  obtain ⟨xs, n, _, rfl, hl, hxl, hf⟩ := DataW.trod_struct Tryz.underlying25 h
  rw [Tryz.cSch] at hl
  match xs, hxl, cs, hl with
  | [y0, y1], _, [v0, v1], _ =>
    have g0 := hf 0 _ rfl
    have g1 := hf 1 _ rfl
    simp [Tryz.cOs, Tryz.cEs] at g0 g1
    obtain ⟨ov, os, e0, h0, b0, c0⟩ := open_obsB g0 (hw.part Tryz.underlying25 (j := 0) rfl rfl)
    obtain ⟨ev, es, e1, h1, b1, c1⟩ := open_ensB g1 (hw.part Tryz.underlying25 (j := 1) rfl rfl)
    simp at e0 e1
    exact ⟨⟨os, es⟩, ov, ev, by rw [e0, e1], ⟨h0, h1⟩, ⟨b0, c0, b1, c1⟩⟩
end
end Go.Proofs.YtbccpkclfpeckaaGreatDoor
namespace Go.Proofs.YtbccpkclfpeckaaGreatDoor
open Go Go.RowKit Go.ChangeShapes Go.WideShapes Go.Deep
section
variable {H : Type} {enc : TypeId × Value → H} {w : World} {base : Nat} {spare : Nat → Bool} {held : Bool}
theorem Tryz.cIn : Tryz.prog.cellsOf 39 = 3 := by kernel_rfl
theorem Tryz.cOut : Tryz.prog.cellsOf 41 = 4 := by kernel_rfl
theorem Tryz.cDef : Tryz.prog.cellsOf 35 = 5 := by kernel_rfl
theorem Tryz.cInt : Tryz.prog.cellsOf 3 = 1 := by kernel_rfl
theorem Tryz.cIns : Tryz.prog.cellsOf 33 = 1 := by kernel_rfl
theorem Tryz.cOuts : Tryz.prog.cellsOf 32 = 1 := by kernel_rfl
set_option maxRecDepth 100000 in
theorem open_in {fuel : Nat} {cs : List Value} {x : DataW H × List MemPlace} (h : DataW.trod enc Tryz.prog w base spare held fuel 39 cs = some x) :
    ∃ f : Inn, cs = [.string ⟨f.n.toArray⟩, .string ⟨f.t.toArray⟩, .string ⟨f.w.toArray⟩] := by
  obtain ⟨xs, n, _, _, hl, hxl, hf⟩ := DataW.trod_struct Tryz.underlying39 h
  rw [Tryz.cIn] at hl
  match xs, hxl, cs, hl with
  | [y0, y1], _, [v0, v1, v2], _ =>
    have g0 := hf 0 _ rfl
    have g1 := hf 1 _ rfl
    simp [Tryz.cStr, Tryz.cRef] at g0 g1
    obtain ⟨a0, e0⟩ := open_str g0
    obtain ⟨ys, m, _, _, _, hyl, hg⟩ := DataW.trod_struct Tryz.underlying37 g1
    match ys, hyl with
    | [z0, z1], _ =>
      have q0 := hg 0 _ rfl
      have q1 := hg 1 _ rfl
      simp [Tryz.cStr] at q0 q1
      obtain ⟨a1, e1⟩ := open_str q0
      obtain ⟨a2, e2⟩ := open_str q1
      simp at e0 e1 e2
      exact ⟨⟨a0, a1, a2⟩, by rw [e0, e1, e2]⟩
theorem open_ins {fuel : Nat} {cs : List Value} {x : DataW H × List MemPlace} (h : DataW.trod enc Tryz.prog w base spare held fuel 33 cs = some x) (hw : Wt 33 x.1) : ∃ (v : Value) (l : List Inn), cs = [v] ∧ InsAt w v l ∧ l.length * 48 ≤ 140737488355328 := by
  obtain ⟨v, l, e, hl⟩ := open_sl (p := InAt w) Tryz.underlying33 Tryz.cIn (by decide) (of_decide_eq_true (by kernel_rfl)) h hw fun fuel cs y b o hy _ _ hc => by
    obtain ⟨a, rfl⟩ := open_in hy
    exact ⟨a, hc 0 _ rfl, hc 1 _ rfl, hc 2 _ rfl⟩
  exact ⟨v, l, e, hl, open_slB (B := 48) Tryz.underlying33 (by kernel_rfl) h hw e hl⟩
set_option maxRecDepth 100000 in
theorem open_ot {fuel : Nat} {cs : List Value} {x : DataW H × List MemPlace} (h : DataW.trod enc Tryz.prog w base spare held fuel 41 cs = some x) (hw : Wt 41 x.1) :
    ∃ (o : Ot) (av : Value), cs = [.string ⟨o.n.toArray⟩, .string ⟨o.t.toArray⟩, .string ⟨o.w.toArray⟩, av] ∧ InsAt w av o.ar ∧ o.ar.length * 48 ≤ 140737488355328 := by
  obtain ⟨xs, n, _, rfl, hl, hxl, hf⟩ := DataW.trod_struct Tryz.underlying41 h
  rw [Tryz.cOut] at hl
  match xs, hxl, cs, hl with
  | [y0, y1, y2], _, [v0, v1, v2, v3], _ =>
    have g0 := hf 0 _ rfl
    have g1 := hf 1 _ rfl
    have g2 := hf 2 _ rfl
    simp [Tryz.cStr, Tryz.cRef, Tryz.cIns] at g0 g1 g2
    obtain ⟨a0, e0⟩ := open_str g0
    obtain ⟨ys, m, _, _, _, hyl, hg⟩ := DataW.trod_struct Tryz.underlying37 g1
    match ys, hyl with
    | [z0, z1], _ =>
      have q0 := hg 0 _ rfl
      have q1 := hg 1 _ rfl
      simp [Tryz.cStr] at q0 q1
      obtain ⟨a1, e1⟩ := open_str q0
      obtain ⟨a2, e2⟩ := open_str q1
      obtain ⟨av, ar, e3, hI, hB⟩ := open_ins g2 (hw.part Tryz.underlying41 (j := 2) rfl rfl)
      simp at e0 e1 e2 e3
      exact ⟨⟨a0, a1, a2, ar⟩, av, by rw [e0, e1, e2, e3], hI, hB⟩
theorem open_ots {fuel : Nat} {cs : List Value} {x : DataW H × List MemPlace} (h : DataW.trod enc Tryz.prog w base spare held fuel 32 cs = some x) (hw : Wt 32 x.1) : ∃ (v : Value) (l : List Ot), cs = [v] ∧ OtsAt w v l :=
  open_sl (p := OtAt w) Tryz.underlying32 Tryz.cOut (by decide) (of_decide_eq_true (by kernel_rfl)) h hw fun fuel cs y b o hy hwy _ hc => by
    obtain ⟨a, av, rfl, hI, hB⟩ := open_ot hy hwy
    exact ⟨a, hc 0 _ rfl, hc 1 _ rfl, hc 2 _ rfl, av, hc 3 _ rfl, hI, hB⟩
set_option maxRecDepth 100000 in
theorem open_df {fuel : Nat} {cs : List Value} {x : DataW H × List MemPlace} (h : DataW.trod enc Tryz.prog w base spare held fuel 35 cs = some x) (hw : Wt 35 x.1) :
    ∃ (d : Df) (wv ov iv : Value), cs = [.string ⟨d.n.toArray⟩, .int .i64 d.k, wv, ov, iv] ∧ WdsAt w wv d.ws ∧ OtsAt w ov d.os ∧ InsAt w iv d.is := by
  obtain ⟨xs, n, _, rfl, hl, hxl, hf⟩ := DataW.trod_struct Tryz.underlying35 h
  rw [Tryz.cDef] at hl
  match xs, hxl, cs, hl with
  | [y0, y1, y2, y3, y4], _, [v0, v1, v2, v3, v4], _ =>
    have g0 := hf 0 _ rfl
    have g1 := hf 1 _ rfl
    have g2 := hf 2 _ rfl
    have g3 := hf 3 _ rfl
    have g4 := hf 4 _ rfl
    simp [Tryz.cStr, Tryz.cInt, Tryz.cWs, Tryz.cOuts, Tryz.cIns] at g0 g1 g2 g3 g4
    obtain ⟨a0, e0⟩ := open_str g0
    obtain ⟨a1, e1, _, _⟩ := DataW.trod_int Tryz.underlying3 g1
    obtain ⟨wv, ws, e2, h2⟩ := open_wds g2 (hw.part Tryz.underlying35 (j := 2) rfl rfl)
    obtain ⟨ov, os, e3, h3⟩ := open_ots g3 (hw.part Tryz.underlying35 (j := 3) rfl rfl)
    obtain ⟨iv, is, e4, h4, _⟩ := open_ins g4 (hw.part Tryz.underlying35 (j := 4) rfl rfl)
    simp at e0 e1 e2 e3 e4
    exact ⟨⟨a0, a1, ws, is, os⟩, wv, ov, iv, by rw [e0, e1, e2, e3, e4], h2, h3, h4⟩
theorem open_defs {fuel : Nat} {cs : List Value} {x : DataW H × List MemPlace} (h : DataW.trod enc Tryz.prog w base spare held fuel 26 cs = some x) (hw : Wt 26 x.1) : ∃ (v : Value) (l : List Df), cs = [v] ∧ DefsAt w v l :=
  open_sl (p := DfAt w) Tryz.underlying26 Tryz.cDef (by decide) (of_decide_eq_true (by kernel_rfl)) h hw fun fuel cs y b o hy hwy _ hc => by
    obtain ⟨a, wv, ov, iv, rfl, h2, h3, h4⟩ := open_df hy hwy
    exact ⟨a, hc 0 _ rfl, hc 1 _ rfl, wv, ov, iv, hc 2 _ rfl, hc 3 _ rfl, hc 4 _ rfl, h2, h3, h4⟩
end
end Go.Proofs.YtbccpkclfpeckaaGreatDoor
namespace Go.Proofs.YtbccpkclfpeckaaGreatDoor
open Go Go.RowKit Go.Lib

def listed : List (String × DataW Unit) := Rows.genTellsRow.laid
theorem at_var {w : World} {n : String} {d : DataW Unit} {g t : Nat} (h : VarReads Tryz.prog w n d) (hg : Tryz.prog.globalNamed n = some g) (ht : (Tryz.prog.globals[g]?).map (·.type) = some t) :
    ∃ (cs : Array Value) (fuel : Nat) (p : List MemPlace), w.var? Tryz.prog n = some cs ∧ DataW.trod (fun _ => ()) Tryz.prog w 0 (fun _ => true) false fuel t cs.toList = some (d, p) ∧ ∀ i, w.cell? ⟨g, i, none⟩ = cs.toList[i]? := by
  obtain ⟨g', t', cs, fuel, p, hg', ht', hv, hd⟩ := h
  obtain rfl := Option.some.inj (hg.symm.trans hg')
  obtain rfl := Option.some.inj (ht.symm.trans ht')
  exact ⟨cs, fuel, p, hv, hd, fun i => by rw [World.var?_cell hg hv i, Array.getElem?_toList]⟩
theorem es_laid {w : World} (h : VarReads Tryz.prog w "strconv.ErrSyntax" Rows.laid_strconv_ErrSyntax) : ∃ te pe, w.cell? ⟨3, 0, none⟩ = some (.iface te pe) := by
  obtain ⟨cs, fuel, p, _, hd, hc⟩ := at_var h (g := 3) (t := 183) (by kernel_rfl) (by kernel_rfl)
  cases fuel with
  | zero => simp [DataW.trod] at hd
  | succ n =>
    have hu := Tryz.underlying183
    simp only [DataW.trod, hu, Rows.laid_strconv_ErrSyntax] at hd
    rw [hc]
    split at hd
    all_goals simp_all
theorem max_of {W : World} (h : W.ShapedOpen Tryz.prog) : ∃ m, W.cell? ⟨gM, 0, none⟩ = some (.int .i64 m) :=
  cell_of_shapedOpen_int h (g := 0) (t := 3) (zero := #[.int .i64 0]) (of_decide_eq_true (by kernel_rfl)) (by kernel_rfl) rfl (by kernel_rfl) (by kernel_rfl) Tryz.underlying3
theorem gl_laid {W : World} (hL : laidMet Tryz.prog listed W) (hs : W.ShapedOpen Tryz.prog) : Gl W := by
  obtain ⟨te, pe, he⟩ := es_laid (laidMet.reads hL (.tail _ (.tail _ (.tail _ (.tail _ (.tail _ (.head _)))))))
  exact ⟨max_of hs, ⟨_, he, Or.inr ⟨te, pe, rfl⟩⟩⟩
end Go.Proofs.YtbccpkclfpeckaaGreatDoor
namespace Go.Proofs.YtbccpkclfpeckaaGreatDoor
open Go.ChangeShapes Go.WideShapes Go.ChangeAt Go.RowKit
open Go.ChangeMaps (open_string shut_string)

theorem Tryz.own : ownKnob Tryz.prog.godebug = none := by kernel_rfl
theorem Tryz.laidOut : laidOutB Tryz.prog = true := by kernel_rfl

/-- The road from the contract to the row where the contract is handed both what is listed and the world's shape. -/
theorem lifted_by {H : Type} {enc : TypeId × Value → H} {C : Checked} {os : Os} {f : FuncId} {fn : Func} {s : ChangeSpec} {conds : List PathCond} {apart fresh handsOn again : Bool} {X : World → Array Value → Prop}
    (hX : ∀ (w w' : World) (args : Array Value), w.heap = w'.heap → X w args → X w' args)
    (own : ownKnob C.prog.godebug = none) (started : os.Started) (noInit : C.prog.inits.idxOf? f = none) (hfn : C.prog.funcs[f]? = some fn)
    (witness : ∃ (w : World) (tape : Tape) (i : Input), w.os = os ∧ (w.forCall tape i).Shaped C.prog ∧ i.vars = [] ∧ Input.okWide C.prog (w.forCall tape i) .any w.heap.size f i ∧
      ((s.pre enc C.prog fn conds apart (w.forCall tape i).memory i.args ∧ X (w.forCall tape i).memory i.args) ∧ sizedMet enc C.prog fn (OpenSpec.ofChange s) apart (w.forCall tape i).memory i.args) ∧ ({} : Assume).holds C.prog (lone (Frame.enter C.prog f i.args .normal) [] (w.forCall tape i)))
    (contract : ∀ (W : World) (base : Nat) (args : Array Value) (ds gs : List (DataW H)) (before : List MemPlace),
      (∀ (j : Nat) t v, fn.params[j]? = some t → args[j]? = some v → Value.okWide C.prog W .any base t v) →
      DataW.Whole enc C.prog fn.params.toList s.vars apart W args.toList ds gs before →
      (DataW.weightsEach C.prog (fn.params.toList ++ s.plain.varTypes C.prog) (ds ++ gs)).all (· ≤ reachBytes) = true → W.ShapedOpen C.prog → X W args →
      Calls C.prog f args W fun e W' => ∃ v, e = .returned v ∧ s.post enc C.prog fn apart fresh handsOn again W args v W') :
    ReturnsInHanded {} C os f .any (fun w args => (s.pre enc C.prog fn conds apart w args ∧ X w args) ∧ sizedMet enc C.prog fn (OpenSpec.ofChange s) apart w args) (s.post enc C.prog fn apart fresh handsOn again) := by
  refine returnsInHanded_of_calls own started noInit witness ?_
  intro w tape i _ hsh _ hok hpre _
  obtain ⟨_, _, _, fn', hfn', _, _, _, _, hval⟩ := hok
  obtain rfl : fn' = fn := Option.some.inj (hfn'.symm.trans hfn)
  obtain ⟨⟨⟨ds, gs, before, hw, _⟩, hx⟩, hz⟩ := hpre
  refine (contract (w.forCall tape i) w.heap.size i.args ds gs before hval (DataW.Whole.of_heap (w' := w.forCall tape i) (by rfl) hw) (hz.weights hw) hsh (hX _ _ _ (by rfl) hx)).mono fun e W' ⟨v, he, hp⟩ => ?_
  subst he
  exact ChangeSpec.post_blind hp

set_option maxRecDepth 100000 in
theorem genFinds_lifted (os : Os) (started : os.Started) (H : Type) (enc : TypeId × Value → H) :
    ReturnsInHanded {} Tryz.checked os 4 .any (fun w args => (Rows.genFindsSpec.pre enc Tryz.prog Tryz.f4 Rows.genFindsRow.domain false w args ∧ laidMetH Tryz.prog listed w) ∧ sizedMet enc Tryz.prog Tryz.f4 (OpenSpec.ofChange Rows.genFindsSpec) false w args)
      (Rows.genFindsSpec.post enc Tryz.prog Tryz.f4 false true false false) := by
  refine lifted_by (C := Tryz.checked) (X := fun w _ => laidMetH Tryz.prog listed w) (fun _ _ _ hh h => h.of_heap hh) Tryz.own started (by kernel_rfl) Tryz.func4
    (ChangeSpec.witness_shaped (enc := enc) (C := Tryz.checked) (os := os) (X := fun w _ => laidMetH Tryz.prog listed w) false (World.laidAll Tryz.prog os listed) #[.slice none 0 0, .string ByteArray.empty, .string ByteArray.empty] 8 (World.laidAll_os _ _ _)
      (World.shaped_of_ZipB (by kernel_rfl) (by kernel_rfl)) (by kernel_rfl) (by kernel_rfl) (by kernel_rfl)
      (by rw [MakeChecks.laidMetH_plain _ _ _ (by kernel_rfl)]; exact laidMet_laidAll _ (by kernel_rfl) (by kernel_rfl))) ?_
  intro W base args ds gs before hval0 hW hsz hsh hL
  have hval : ∀ (j : Nat) t v, Tryz.f4.params[j]? = some t → args[j]? = some v → Value.okWide Tryz.prog W .any base t v := hval0
  have hW' := hW
  obtain ⟨p, q, hA0, hV, rfl, hfz, hnd⟩ := hW
  have hA : DataW.TrodAll enc Tryz.prog W 0 (fun _ => true) true Tryz.f4.params.toList args.toList ds p := hA0
  rw [Tryz.params4] at hA hval
  obtain ⟨v0, vs0, d0, ds0, p0, q0, hargs, rfl, rfl, h0, r0⟩ := trodAll_cons hA
  obtain ⟨v1, vs1, d1, ds1, p1, q1, rfl, rfl, rfl, h1, r1⟩ := trodAll_cons r0
  obtain ⟨v2, vs2, d2, ds2, p2, q2, rfl, rfl, rfl, h2, r2⟩ := trodAll_cons r1
  obtain ⟨rfl, rfl, rfl⟩ := trodAll_nil r2
  obtain rfl : args = #[v0, v1, v2] := by cases args; simp_all
  obtain ⟨rfl, rfl⟩ := trodVars_none hV
  obtain ⟨aD, nD, cD, rfl⟩ := okWide_slice Tryz.underlying26 (hval 0 26 v0 rfl rfl)
  have k0 := h0
  have lt0 : ∀ x ∈ p0, x.block < W.heap.size := by obtain ⟨m, hm⟩ := k0; exact DataW.trod_lt m _ _ _ hm
  have wt0 : Wt 26 d0 := fun n hn => by
    have := List.all_eq_true.1 hsz n (DataW.weights_mem_each (j := 0) rfl rfl n hn)
    simpa using this
  obtain ⟨lD, hS0⟩ : ∃ lD : List Df, DefsAt W (.slice aD nD cD) lD := by
    obtain ⟨fuel, hf⟩ := h0
    obtain ⟨v, l, e, hl⟩ := open_defs hf wt0
    have ev : Value.slice aD nD cD = v := by simpa [Value.cells] using e
    exact ⟨l, by rw [ev]; exact hl⟩
  obtain ⟨a1, rfl, rfl, rfl, w1⟩ := open_string Tryz.underlying9 (hval 1 9 v1 rfl rfl) h1
  obtain ⟨a2, rfl, rfl, rfl, w2⟩ := open_string Tryz.underlying9 (hval 2 9 v2 rfl rfl) h2
  have hL2 : laidMetH Tryz.prog listed W := hL
  rw [MakeChecks.laidMetH_plain _ _ _ (by kernel_rfl)] at hL2
  have gl := gl_laid hL2 hsh
  clear hA0 hval0 hL hL2 hsz
  have wk := finds_any hS0 gl a1.data.toList a2.data.toList
  refine wk.mono fun e W' ⟨he, bel⟩ => ?_
  subst he
  exact ⟨_, rfl, _, _, _, [], _, [], hW', trodAll_mk1 (shut_bool Tryz.underlying4 _), (trodAll_cons_mk (Below.trod Tryz.laidOut (by kernel_rfl) (of_decide_eq_true (by kernel_rfl)) k0 bel lt0) (trodAll_cons_mk (shut_string Tryz.underlying9 w1) (trodAll_cons_mk (shut_string Tryz.underlying9 w2) trodAll_mk0))), rfl, bel.frame _, fun h => by cases h⟩

theorem genFinds_row : Rows.GenFindsSaid :=
  OpenClaim.holds_of_wide 4 Tryz.f4 rfl rfl rfl rfl rfl rfl rfl ⟨rfl, rfl, rfl, rfl, rfl⟩ rfl rfl rfl rfl rfl (by kernel_rfl) Tryz.func4 (by kernel_rfl)
    (of_decide_eq_true (by kernel_rfl)) (by unfold Func.isWrapper; first | (rw [if_pos (by decide +kernel)]; kernel_rfl) | (rw [if_neg (by decide +kernel)]; exact ⟨rfl, rfl⟩))
    (fun os started H enc _ => genFinds_lifted os started H enc)

theorem genFinds_holds : Rows.GenFindsCardSaid :=
  Claim7.holds_tied_plain_at .later [] _ _ _ _ genFinds_row (fun _ h => by cases h) (by kernel_rfl) (fun _ h => by cases h) genFinds_row_tie rfl ⟨rfl, rfl⟩ (by kernel_rfl) rfl
    (fun f fn hf hfn => by
      obtain rfl : f = 4 := Option.some.inj ((show Tryz.prog.funcNamed "rhizome/rhizomelaw10.GenFinds" = some 4 by kernel_rfl).symm.trans hf) |>.symm
      obtain rfl : fn = Tryz.f4 := (Option.some.inj (Tryz.func4.symm.trans hfn)).symm
      exact ⟨by kernel_rfl, fun j t ht => by
        rw [Tryz.params4] at ht
        have hm : t ∈ [26, 9] := by simpa using Array.mem_of_getElem? ht
        have hall : ([26, 9].all fun u => !Tryz.prog.wantsStandIn u) = true := by kernel_rfl
        exact (show Tryz.prog.wantsStandIn t = false by simpa using List.all_eq_true.1 hall t hm)⟩)
    (by kernel_rfl)
#print axioms genFinds_holds
end Go.Proofs.YtbccpkclfpeckaaGreatDoor
