/- All definitions of a schema's API have unlike names; every type that is named in them is one of them; what goes out is never an input, what goes in never an object; and nothing has two fields, arguments, words of one name: for any schema (within the form's own reach of 2^47 - 4096 bytes); the listed package variables are as the program's text lays them (tied). -/
import Derived.Test.YtbccpkclfpeckaaGreatDoorG03
import Derived.Test.YtbccpkclfpeckaaGreatDoorC02
import Derived.Deep.Slices
import Derived.OpenShut
import Derived.ProofKit
import Derived.SizedLaws
import Derived.Test.YtbccpkclfpeckaaGreatDoorRows
import Derived.Test.YtbccpkclfpeckaaGreatDoorLxK
import Derived.Lib.LaidU8
import Derived.LaidMore
import Derived.Stop.LaidErr
import Derived.Lay
import Derived.Shelf.Vars
import Derived.Test.YtbccpkclfpeckaaGreatDoorTie
import Derived.Test.YtbccpkclfpeckaaGreatDoorCards
import Derived.ShutString
import Derived.ChangeOld
import Derived.SevenTiedAt
import Derived.Stop.Joined
import Derived.Carry
namespace Go.Proofs.YtbccpkclfpeckaaGreatDoor
open Go Go.RowKit Go.Shelf
theorem wd_cells {w : World} {a : Option Addr} {n c : Nat} {l : List Bs} {i : Nat} {x : Bs} (h : WdsAt w (.slice a n c) l) (hx : l[i]? = some x) : ∃ b o, a = some ⟨b, o, none⟩ ∧ n = l.length ∧ n ≤ c ∧ w.cell? ⟨b, o + i, none⟩ = some (.string ⟨x.toArray⟩) := by
  obtain ⟨a0, c0, he, hc, _, hr⟩ := h
  cases he
  have hi := (List.getElem?_eq_some_iff.1 hx).1
  obtain ⟨b, o, rfl, hb, hH⟩ := hr (by omega)
  have q := hH i hi x hx
  rw [Nat.mul_one] at q
  exact ⟨b, o, rfl, rfl, hc, q⟩
theorem ins_cellsW {w : World} {a : Option Addr} {n c : Nat} {l : List Inn} {i : Nat} {x : Inn} (h : InsAt w (.slice a n c) l) (hx : l[i]? = some x) : ∃ b o, a = some ⟨b, o, none⟩ ∧ n ≤ c ∧ n = l.length ∧ w.cell? ⟨b, o + i * 3, none⟩ = some (.string ⟨x.n.toArray⟩) ∧ w.cell? ⟨b, o + i * 3 + 1, none⟩ = some (.string ⟨x.t.toArray⟩) ∧ w.cell? ⟨b, o + i * 3 + 2, none⟩ = some (.string ⟨x.w.toArray⟩) := by
  obtain ⟨b, o, rfl, rfl, _, hc, q⟩ := ins_at h hx
  exact ⟨b, o, rfl, hc, rfl, q.1, q.2.1, q.2.2⟩
theorem nodup_ne {l : List Bs} (h : l.Nodup) {i j : Nat} {x y : Bs} (hi : l[i]? = some x) (hj : l[j]? = some y) (hij : i < j) : (x == y) = false := by
  rw [beq_eq_false_iff_ne]
  intro e
  subst e
  obtain ⟨hi', ei⟩ := List.getElem?_eq_some_iff.1 hi
  obtain ⟨hj', ej⟩ := List.getElem?_eq_some_iff.1 hj
  exact List.pairwise_iff_getElem.1 h i j hi' hj' hij (ei.trans ej.symm)
set_option maxRecDepth 100000 in
set_option maxHeartbeats 8000000 in
theorem lunlike_true {w : World} {v : Value} {l : List Bs} (h : WdsAt w v l) (hn : l.Nodup) : Calls Tryz.prog 19 #[v] w fun e w' => e = .returned (.bool true) ∧ Below w.heap.size w w' := by
  have hh := h
  obtain ⟨a, c, rfl, hc, h47⟩ := h.slice
  clear h
  go_enter Tryz.func19, Tryz.ntmps19
  go_wp2
  go_loopw [3] (fun i wr => ∃ j : Nat, i = .int .i64 (j : Int) ∧ j ≤ l.length ∧ Below w.heap.size w wr) (fun i _ => l.length - (RowKit.intOf i).toNat)
  case atStart => exact ⟨0, rfl, Nat.zero_le _, Below.refl _ _⟩
  case round =>
    obtain ⟨j, rfl, hj, hbr⟩ := hrel
    by_cases hlt : j < l.length
    · obtain ⟨x, hx⟩ : ∃ x, l[j]? = some x := ⟨_, List.getElem?_eq_getElem hlt⟩
      obtain ⟨b, o, rfl, _, _, ex⟩ := wd_cells hh hx
      have l1 : ((j : Nat) : Int) < (l.length : Int) := by omega
      have hjN : ((j : Nat) : Int).toNat = j := by omega
      have HK : Hid (j + 1 ≤ l.length) := hlt
      have HX : Hid (l[j]? = some x) := hx
      have HB : Hid (Below w.heap.size w wr) := hbr
      clear hx
      go_wp2
      go_loopw [4] (fun i wq => ∃ k : Nat, i = .int .i64 (k : Int) ∧ k ≤ j ∧ Below w.heap.size w wq) (fun i _ => j - (RowKit.intOf i).toNat)
      case atStart => exact ⟨0, rfl, Nat.zero_le _, HB.out⟩
      case round =>
        obtain ⟨k, rfl, hk, hbq⟩ := hrel
        by_cases hkl : k < j
        · obtain ⟨y, hy⟩ : ∃ y, l[k]? = some y := ⟨_, List.getElem?_eq_getElem (by omega)⟩
          obtain ⟨b', o', e', _, _, ey⟩ := wd_cells hh hy
          cases e'
          have q0 := cell_on hbq ex
          have q1 := cell_on hbq ey
          have m1 : ((k : Nat) : Int) < (j : Int) := by omega
          have m2 : ((k : Nat) : Int) < (l.length : Int) := by omega
          have hkN : ((k : Nat) : Int).toNat = k := by omega
          have hne := nodup_ne hn hy HX.out hkl
          have HKK : Hid (k + 1 ≤ j) := hkl
          clear hy hkl
          go_wp2
          go_region_held3 (fun w' => w'.cell? ⟨b, o + j, none⟩ = some (.string ⟨x.toArray⟩) ∧ w'.cell? ⟨b, o + k, none⟩ = some (.string ⟨y.toArray⟩)) (go_keep) (fail)
          go_wp2
          refine ⟨⟨k + 1, by simp, HKK.out, bel_dr hbq⟩, ?_⟩
          have := HKK.out
          simp [RowKit.intOf]
          omega
        · have m2 : decide (((k : Nat) : Int) < (j : Int)) = false := by simp; omega
          have m3 : decide (k < j) = false := by simp; omega
          clear hkl hk
          go_wp2
          refine ⟨⟨j + 1, by simp, HK.out, hbq⟩, ?_⟩
          have := HK.out
          simp [RowKit.intOf]
          omega
    · have l2 : decide (((j : Nat) : Int) < (l.length : Int)) = false := by simp; omega
      have l3 : decide (j < l.length) = false := by simp; omega
      clear hlt hj
      go_wp2
      go_ret
      exact ⟨rfl, hbr⟩
/-- A definition of some kind, found by its name. -/
def FndK (l : List Df) (x : Bs) (p : Int → Prop) : Prop := ∃ (j : Nat) (d : Df), fndT l x = (j : Int) ∧ l[j]? = some d ∧ p d.k
theorem has_fnd {s : Sch} (h : OkD s) {x : Bs} {k : Int} (hk : Has s x k) : FndK (defT s) x (fun q => q = k) := by
  obtain ⟨d, hd, rfl, rfl⟩ := hk
  obtain ⟨i, hi⟩ := List.mem_iff_getElem?.1 hd
  exact ⟨i, d, fnd_at h hi, hi, rfl⟩
set_option maxRecDepth 100000 in
set_option maxHeartbeats 8000000 in
theorem lgoesIn_true {w : World} {v iv : Value} {l : List Df} {is : List Inn} (h : DefsAt w v l) (hi : InsAt w iv is) (hl : is.length ≤ 1000) (hf : ∀ i ∈ is, FndK l i.t (fun k => k ≠ 2)) (hn : (is.map (·.n)).Nodup) : Calls Tryz.prog 18 #[v, iv] w fun e w' => e = .returned (.bool true) ∧ Below w.heap.size w w' := by
  obtain ⟨ti, hti, hy0, hy1, hy2⟩ := info_parts Tryz.infoStr
  have hh := h
  have hi' := hi
  obtain ⟨a, c, rfl, hc, h47⟩ := h.slice
  obtain ⟨a', c', rfl, hc', h47'⟩ := hi.slice
  obtain ⟨W0, hW0⟩ : ∃ W0, W0 = w.alloc (.cells #[] 9) := ⟨_, rfl⟩
  have A0 : Below w.heap.size w W0 := by rw [hW0]; exact al1 w _
  have R0 : WdR W0 w.heap.size (.slice (some ⟨w.heap.size, 0, none⟩) 0 0) [] := by rw [hW0]; exact RowO.lit (fun _ => rfl) (Nat.le_refl _) (heap_alloc_new w _) rfl rfl (by decide)
  have HW : Hid (W0 = w.alloc (.cells #[] 9)) := hW0
  clear h hi hW0
  go_enter Tryz.func18, Tryz.ntmps18
  go_wp2
  rw [← HW.out]
  go_loopw [5, 6] (fun lz i wr => ∃ (lv : Value) (j : Nat) (ll : List Bs), lv = lz ∧ i = .int .i64 (j : Int) ∧ j ≤ is.length ∧ WdR wr w.heap.size lv ll ∧ ll = (is.map (·.n)).take j ∧ Gt w.heap.size 9 W0 wr) (fun _ i _ => is.length - (RowKit.intOf i).toNat)
  case atStart => exact ⟨_, 0, [], rfl, rfl, Nat.zero_le _, R0, rfl, Gt.refl _ _ _⟩
  case round =>
    obtain ⟨lv, j, ll, rfl, rfl, hj, hrow, hll, hg⟩ := hrel
    have hbr : Below w.heap.size w wr := A0.trans (hg.below A0.size)
    have hz := hbr.size
    have hlen : ll.length ≤ 1000 := by
      rw [hll, List.length_take, List.length_map]
      omega
    by_cases hlt : j < is.length
    · obtain ⟨x, hx⟩ : ∃ x, is[j]? = some x := ⟨_, List.getElem?_eq_getElem hlt⟩
      obtain ⟨b, o, rfl, _, _, e0, e1, e2⟩ := ins_cellsW hi' hx
      obtain ⟨jj, d, hfd, hd, hdk⟩ := hf x (List.mem_of_getElem? hx)
      obtain ⟨b2, o2, c2, a3, n3, c3, a4, n4, c4, a5, n5, c5, hv, _, _, _, d1, _⟩ := df_cells hh hd
      cases hv
      have hjl := (List.getElem?_eq_some_iff.1 hd).1
      have q0 := cell_on hbr e0
      have q1 := cell_on hbr e1
      have FD := gfind_any (hh.on hbr) x.t
      rw [hfd] at FD
      have l1 : ((j : Nat) : Int) < (is.length : Int) := by omega
      have hjN : ((j : Nat) : Int).toNat = j := by omega
      have n0 : ¬ ((jj : Nat) : Int) < 0 := by omega
      have n1 : ¬ ((jj : Nat) : Int) ≥ (l.length : Int) := by omega
      have n2 : ((jj : Nat) : Int) < (l.length : Int) := by omega
      have n3' : ((jj : Nat) : Int).toNat = jj := by omega
      have n4' : ¬ (l.length : Int) ≤ ((jj : Nat) : Int) := by omega
      have n5' : ¬ l.length ≤ jj := by omega
      have hk2 : (d.k == 2) = false := by simpa using hdk
      have HK : Hid (j + 1 ≤ is.length) := hlt
      have HD : Hid (ll ++ [x.n] = (is.map (·.n)).take (j + 1)) := by
        show _ = _
        rw [take_step (x := x.n) (by rw [List.getElem?_map, hx]; rfl), ← hll]
      obtain ⟨lo, lc, rfl⟩ := hrow.slice
      obtain ⟨xn, xt, xw⟩ := x
      simp only at q0 q1 FD
      clear hx hlt hll hfd hd hdk hi' hh e0 e1 e2 hf hn
      go_wp2_with (first
        | (go_at_call 14; (with_reducible refine FD.mono ?_); rintro e w2 ⟨rfl, b2'⟩; have G2 : Gt w.heap.size 9 W0 w2 := hg.trans (gt_of b2'); have R2 := RowO.on hrow b2'; have r0 := cell_on b2' q0; have r1 := cell_on (hbr.trans (b2'.mono hbr.size)) d1; have hz2 := b2'.size)
        | (at_builtin; refine wpList_append_lies _ rfl (.tmp 39) (.tmp 45) 31 rfl w.heap.size 9 ti _ 1 16 Tryz.underlying31 hti hy0 hy1 hy2 rfl (by decide) (.slice lo ll.length lc) ll.length (ll.flatMap wrdC) rfl (R2.on (al1 w2 _)) ⟨w2.heap.size, 0, none⟩ 1 1 [.string ⟨xn.toArray⟩] rfl rfl (World.news_of_block (heap_alloc_new w2 _)) (by intro u hu; simp at hu; subst hu; rfl) (by decide) (by unfold maxLen; omega) (by omega) (by rw [World.size_alloc]; omega) _ rfl ?_; intro q8 cp8 w8 own8 gr8 hor8 hlt8)
        | fail)
      have G8 := (G2.alloc _).trans (gt_grown (R2.on (al1 w2 (.cells #[.string ⟨xn.toArray⟩] 9))) gr8)
      refine ⟨⟨_, j + 1, ll ++ [xn], rfl, by simp, HK.out, RowO.push own8, HD.out, G8⟩, ?_⟩
      have := HK.out
      simp [RowKit.intOf]
      omega
    · have l2 : decide (((j : Nat) : Int) < (is.length : Int)) = false := by simp; omega
      have l3 : decide (j < is.length) = false := by simp; omega
      have hje : j = is.length := by omega
      have hfull : ll = is.map (·.n) := by
        rw [hll, hje, List.take_of_length_le (by rw [List.length_map]; omega)]
      have UN := lunlike_true (wds_row hrow (by omega)) (by rw [hfull]; exact hn)
      obtain ⟨p9, n9, m9, rfl⟩ := row_slc hrow
      clear hlt hj hll hje hfull hh hi'
      go_wp2_with (first
        | (go_at_call 19; (with_reducible refine UN.mono ?_); rintro e w2 ⟨rfl, b2⟩)
        | fail)
      go_ret
      exact ⟨rfl, hbr.trans (b2.mono hbr.size)⟩
end Go.Proofs.YtbccpkclfpeckaaGreatDoor
namespace Go.Proofs.YtbccpkclfpeckaaGreatDoor
open Go Go.RowKit Go.Shelf
abbrev defO (d : Df) (a1 a2 a3 : Option Addr) (n1 c1 n2 c2 n3 c3 : Nat) : Obj := .cells #[.string ⟨d.n.toArray⟩, .int .i64 d.k, .slice a1 n1 c1, .slice a2 n2 c2, .slice a3 n3 c3] 35
/-- Of a row of definitions that a call made: a slice of words that is nil has no room. -/
def DefsZ (w : World) (v : Value) (l : List Df) : Prop := ∀ (i : Nat) (x : Df) (b o n c : Nat) (a1 : Option Addr) (n1 c1 : Nat), l[i]? = some x → v = .slice (some ⟨b, o, none⟩) n c → w.cell? ⟨b, o + i * 5 + 2, none⟩ = some (.slice a1 n1 c1) → a1 = none → c1 = 0
theorem row_nil {α : Type} {f : α → List Value} {sz : Nat} {w : World} {B E : Nat} {l : List α} {n c : Nat} (h : RowO w B E sz f (.slice none n c) l) : c = 0 := by
  rcases h.2 with ⟨e, _⟩ | ⟨g, cap, cur, e, _⟩
  · cases e
    rfl
  · cases e
theorem DfR.z {w : World} {B : Nat} {v : Value} {l : List Df} (h : DfR w B v l) : DefsZ w v l := by
  intro i x b o n c a1 n1 c1 hx hv hc ha
  obtain ⟨lp, rfl, R, F⟩ := h
  rw [List.getElem?_map] at hx
  obtain ⟨p, hp, rfl⟩ := Option.map_eq_some_iff.1 hx
  have hne : lp ≠ [] := fun e => by rw [e] at hp; cases hp
  obtain ⟨g, cc, e, _, _, _, _, cells⟩ := R.cells hne
  rw [hv] at e
  cases e
  have q := cells (i * 5 + 2) p.2.1 (by rw [flat_at (f := defC) (sz := 5) (fun _ => rfl) lp i p hp 2 (by decide)]; rfl)
  rw [Nat.zero_add, q] at hc
  have hw := (F p (List.mem_of_getElem? hp)).ws
  have e2 : p.2.1 = .slice a1 n1 c1 := by injection hc
  rw [e2, ha] at hw
  exact row_nil hw
/-- An append of words. -/
theorem wpList_app_wds {w : World} {ops : Array Oper} {rest : List Oper} {o : Oper} {a : Act} {Q : Exit → Act → World → Prop} (hgd : o.guard = none) (s x : Operand) (ho : o.op = .call { callee := .builtin .append, args := #[s, x], argTypes := #[31, 31] })
    {base : Nat} {v : Value} {ll ws : List Bs} {a1 : Option Addr} {n1 c1 : Nat} (hs : a.eval s = v) (hown : WdR w base v ll) (hx : a.eval x = .slice a1 n1 c1) (hw : WdsAt w (.slice a1 n1 c1) ws) (hz : a1 = none → c1 = 0) (hl : ll.length + ws.length ≤ 4000) (hbase : base ≤ w.heap.size)
    (h : ∀ p n m w', WdR w' base (.slice p n m) (ll ++ ws) → Gt base 9 w w' → wpList Tryz.prog ops Q rest (a.put o.dst (.slice p n m)) w') : wpList Tryz.prog ops Q (o :: rest) a w := by
  obtain ⟨ti, hti, hy0, hy1, hy2⟩ := info_parts Tryz.infoStr
  obtain ⟨a0, c0, he, hc, h47, hr⟩ := hw
  cases he
  cases a1 with
  | none =>
    have h0 : ws = [] := by
      by_cases hp : 0 < ws.length
      · obtain ⟨_, _, e, _⟩ := hr hp
        cases e
      · exact List.length_eq_zero_iff.1 (by omega)
    subst h0
    have hc0 := hz rfl
    subst hc0
    obtain ⟨p, n, m, rfl⟩ := row_slc hown
    refine wpList_append_own_none hgd s x _ ho base 9 ti 1 Tryz.underlying31 hti _ _ _ hs hown hx (h p n m w ?_ (Gt.refl _ _ _))
    rw [List.append_nil]
    exact hown
  | some ad =>
    have hnews : ∀ (j : Nat) (u : Value), (ws.flatMap wrdC)[j]? = some u → w.cell? (ad.add j) = some u := by
      intro j u hj
      have hjl := (List.getElem?_eq_some_iff.1 hj).1
      rw [flat_len (f := wrdC) (sz := 1) (fun _ => rfl)] at hjl
      obtain ⟨b, o, e, hb, hH⟩ := hr (by omega)
      cases e
      rw [add_at]
      obtain ⟨y, hy⟩ : ∃ y, ws[j]? = some y := ⟨_, List.getElem?_eq_getElem (by omega)⟩
      have q := hH j (by omega) y hy
      have e2 := flat_at (f := wrdC) (sz := 1) (fun _ => rfl) ws j y hy 0 (by decide)
      rw [Nat.mul_one, Nat.add_zero] at e2
      rw [e2] at hj
      cases hj
      rw [Nat.mul_one] at q
      exact q
    have hone : ∀ u ∈ ws.flatMap wrdC, u.oneCell' = true := by
      intro u hu
      obtain ⟨y, _, hu⟩ := List.mem_flatMap.1 hu
      simp at hu
      subst hu
      rfl
    refine wpList_append_own _ hgd s x _ ho base 9 ti _ 1 16 Tryz.underlying31 hti hy0 hy1 hy2 rfl (by decide) v ll.length (ll.flatMap wrdC) hs hown ad ws.length c1 (ws.flatMap wrdC) hx (flat_len (f := wrdC) (sz := 1) (fun _ => rfl) ws) hnews hone (by unfold maxLen; omega) (by omega) hbase fun v' w' own gr _ => ?_
    obtain ⟨o8, c8, rfl⟩ := own_slice own
    exact h _ _ _ w' (RowO.pushL own rfl rfl) (gt_grown hown gr)
theorem len_pos {α : Type} {l : List α} {k c : Int} (h : k = c ↔ l ≠ []) : decide (0 < l.length) = (k == c) := by
  cases l with
  | nil => simp at h; simp [h]
  | cons x l => simp at h; simp [h]
section
variable {w : World} {ov ev : Value} {s : Sch}
set_option maxRecDepth 100000 in
set_option maxHeartbeats 8000000 in
theorem closed_no (h : SchAt w ov ev s) (gl : Gl w) (hc : chkS s ≠ 0) : Calls Tryz.prog 5 #[.agg #[ov, ev]] w fun e w' => e = .returned (.bool true) ∧ Below w.heap.size w w' := by
  obtain ⟨a, c, rfl, _, _⟩ := h.os.slice
  obtain ⟨a', c', rfl, _, _⟩ := h.es.slice
  obtain ⟨W0, hW0⟩ : ∃ W0, W0 = w.alloc (schO (.slice a s.os.length c) (.slice a' s.es.length c')) := ⟨_, rfl⟩
  have A0 : Below w.heap.size w W0 := by rw [hW0]; exact al1 w _
  have N0 : W0.heap[w.heap.size]? = some (schO (.slice a s.os.length c) (.slice a' s.es.length c')) := by rw [hW0]; exact heap_alloc_new w _
  have GL : ∀ {X : World}, Below W0.heap.size W0 X → Gl X := fun d => gl.below (A0.trans (d.mono A0.size)) (Nat.le_refl _)
  have T1 := gtypes_no (h.on A0) (GL (Below.refl _ _)) hc
  rw [hW0] at T1
  have FX := fun {X : World} (d : Below W0.heap.size W0 X) => gfixed_any X (GL d)
  have CK := fun {X : World} (d : Below W0.heap.size W0 X) => hcheck_any ((h.on A0).on d) (GL d)
  have CC : ∀ {X : World}, Below W0.heap.size W0 X → X.cell? ⟨w.heap.size, 0, none⟩ = some (.slice a s.os.length c) ∧ X.cell? ⟨w.heap.size, 1, none⟩ = some (.slice a' s.es.length c') := fun d => by
    have q := row2 ((d.block _ (lt_of_block N0)).trans N0)
    exact ⟨q.1, q.2.1⟩
  have nx : ∀ {X Y : World}, Below W0.heap.size W0 X → Below X.heap.size X Y → Below W0.heap.size W0 Y := fun p q => p.trans (q.mono p.size)
  have hk : (chkS s == 0) = false := by simpa using hc
  generalize chkS s = k at *
  clear h gl GL hc
  go_enter Tryz.func5, Tryz.ntmps5
  go_wp2_with (first
    | (go_at_call 9; (with_reducible refine T1.mono ?_); rintro e x1 ⟨rfl, D⟩; rw [← hW0] at D)
    | (go_at_call 11; (with_reducible refine (FX D).mono ?_); rintro e x2 ⟨rfl, b2⟩; replace D := nx D b2; clear b2; obtain ⟨s0, s1⟩ := CC D)
    | (go_at_call 17; (with_reducible refine (CK D).mono ?_); rintro e x3 ⟨rfl, b3⟩; replace D := nx D b3; clear b3)
    | fail)
  go_loopw [5] (fun i wr => i = .int .i64 0 ∧ Below W0.heap.size W0 wr) (fun _ _ => 0)
  case atStart => exact ⟨rfl, D⟩
  case round =>
    obtain ⟨rfl, hbr⟩ := hrel
    go_wp2
    go_ret
    exact ⟨rfl, A0.trans (hbr.mono A0.size)⟩
set_option maxRecDepth 100000 in
set_option maxHeartbeats 20000000 in
theorem closed_ok (h : SchAt w ov ev s) (gl : Gl w) (hc : chkS s = 0) : Calls Tryz.prog 5 #[.agg #[ov, ev]] w fun e w' => e = .returned (.bool true) ∧ Below w.heap.size w w' := by
  have OK : Hid (OkD s) := chk_ok.1 hc
  obtain ⟨ti, hti, hy0, hy1, hy2⟩ := info_parts Tryz.infoStr
  obtain ⟨a, c, rfl, _, _⟩ := h.os.slice
  obtain ⟨a', c', rfl, _, _⟩ := h.es.slice
  obtain ⟨W0, hW0⟩ : ∃ W0, W0 = w.alloc (schO (.slice a s.os.length c) (.slice a' s.es.length c')) := ⟨_, rfl⟩
  have A0 : Below w.heap.size w W0 := by rw [hW0]; exact al1 w _
  have N0 : W0.heap[w.heap.size]? = some (schO (.slice a s.os.length c) (.slice a' s.es.length c')) := by rw [hW0]; exact heap_alloc_new w _
  have GL : ∀ {X : World}, Below W0.heap.size W0 X → Gl X := fun d => gl.below (A0.trans (d.mono A0.size)) (Nat.le_refl _)
  have T1 := gtypes_ok (h.on A0) (GL (Below.refl _ _)) hc
  rw [hW0] at T1
  have FX := fun {X : World} (d : Below W0.heap.size W0 X) => gfixed_any X (GL d)
  have CK := fun {X : World} (d : Below W0.heap.size W0 X) => hcheck_any ((h.on A0).on d) (GL d)
  rw [hc] at CK
  have CC : ∀ {X : World}, Below W0.heap.size W0 X → X.cell? ⟨w.heap.size, 0, none⟩ = some (.slice a s.os.length c) ∧ X.cell? ⟨w.heap.size, 1, none⟩ = some (.slice a' s.es.length c') := fun d => by
    have q := row2 ((d.block _ (lt_of_block N0)).trans N0)
    exact ⟨q.1, q.2.1⟩
  have nx : ∀ {X Y : World}, Below W0.heap.size W0 X → Below X.heap.size X Y → Below W0.heap.size W0 Y := fun p q => p.trans (q.mono p.size)
  clear h gl GL hc
  go_enter Tryz.func5, Tryz.ntmps5
  go_wp2_with (first
    | (go_at_call 9; (with_reducible refine T1.mono ?_); rintro e x1 ⟨v1, rfl, R1, D⟩; rw [← hW0] at D; have DX := DfR.defs R1 OK.out; have DZ := R1.z; clear R1; obtain ⟨pl, cl, rfl, _, _⟩ := DX.slice)
    | (go_at_call 11; (with_reducible refine (FX D).mono ?_); rintro e x2 ⟨rfl, b2⟩; replace D := nx D b2; have DX1 := DX; replace DX := DX.on b2; obtain ⟨s0, s1⟩ := CC D)
    | (go_at_call 17; (with_reducible refine (CK D).mono ?_); rintro e X ⟨rfl, b3⟩; replace D := nx D b3; replace DX := DX.on b3; have bX := b2.trans (b3.mono b2.size); clear b3 b2)
    | fail)
  have DD : Below w.heap.size w X := A0.trans (D.mono A0.size)
  have dall := (def_sm OK.out).2
  have dcl := fun d hd => def_cl OK.out (d := d) hd
  have dfn := fun i d hd => fnd_at OK.out (i := i) (d := d) hd
  have hfk : ∀ {x : Bs} {k : Int}, Has s x k → FndK (defT s) x (fun q => q = k) := fun hk => has_fnd OK.out hk
  have hfi : ∀ {is : List Inn}, GoIn s is → ∀ i ∈ is, FndK (defT s) i.t (fun k => k ≠ 2) := fun hg i hi => by
    obtain ⟨k, hk, hh⟩ := hg.1 i hi
    obtain ⟨j, d, e1, e2, e3⟩ := hfk hh
    exact ⟨j, d, e1, e2, by rw [e3]; exact hk⟩
  have hfo : ∀ {x : Bs}, (∃ k, k ≠ 3 ∧ Has s x k) → FndK (defT s) x (fun k => k ≠ 3) := fun hg => by
    obtain ⟨k, hk, hh⟩ := hg
    obtain ⟨j, d, e1, e2, e3⟩ := hfk hh
    exact ⟨j, d, e1, e2, by rw [e3]; exact hk⟩
  generalize hL : defT s = L at *
  clear hfk CK FX T1 CC N0 s0 s1 hW0 hL
  have HA : Hid (∀ d ∈ L, Sm d) := dall
  have HC : Hid (∀ d ∈ L, ClD s d) := dcl
  have HF : Hid (∀ (i : Nat) (d : Df), L[i]? = some d → fndT L d.n = (i : Int)) := dfn
  have HFI : Hid (∀ {is : List Inn}, GoIn s is → ∀ i ∈ is, FndK L i.t (fun k => k ≠ 2)) := hfi
  have HFO : Hid (∀ {x : Bs}, (∃ k, k ≠ 3 ∧ Has s x k) → FndK L x (fun k => k ≠ 3)) := hfo
  clear dall dcl dfn hfi hfo D nx
  go_loopw [5] (fun i wr => ∃ j : Nat, i = .int .i64 (j : Int) ∧ j ≤ L.length ∧ Below X.heap.size X wr) (fun i _ => L.length - (RowKit.intOf i).toNat)
  case atStart => exact ⟨0, rfl, Nat.zero_le _, Below.refl _ _⟩
  case round =>
    obtain ⟨j, rfl, hj, hbr⟩ := hrel
    by_cases hlt : j < L.length
    · obtain ⟨d, hd⟩ : ∃ d, L[j]? = some d := ⟨_, List.getElem?_eq_getElem hlt⟩
      have hm := List.mem_of_getElem? hd
      have cl := HC.out d hm
      have sm := HA.out d hm
      have fd := HF.out j d hd
      obtain ⟨b, o, c0, a1, n1, c1, a2, n2, c2, a3, n3, c3, hv, hbl, _, e0, e1, e2, e3, e4, hws, hos, his⟩ := df_cells DX hd
      cases hv
      obtain ⟨a1', c1', hq1, hl1, hg1⟩ := hws.slice
      cases hq1
      obtain ⟨a2', c2', hq2, hl2, hg2⟩ := hos.slice
      cases hq2
      obtain ⟨a3', c3', hq3, hl3, hg3⟩ := his.slice
      cases hq3
      have hnil : a1 = none → c1 = 0 := DZ j d b o _ _ a1 _ c1 hd rfl (by obtain ⟨b', o', c', a1', n1', c1', _, _, _, _, _, _, hv', _, _, _, _, g2, _⟩ := df_cells DX1 hd; cases hv'; have q := cell_on bX g2; rw [e2] at q; cases q; exact g2)
      have f0 := cell_on hbr e0
      have f1 := cell_on hbr e1
      have f2 := cell_on hbr e2
      have f3 := cell_on hbr e3
      have f4 := cell_on hbr e4
      have FD := gfind_any ((DX.on hbr).on (al1 wr (defO d a1 a2 a3 d.ws.length c1 d.os.length c2 d.is.length c3))) d.n
      rw [fd] at FD
      have l1 : ((j : Nat) : Int) < (L.length : Int) := by omega
      have hjN : ((j : Nat) : Int).toNat = j := by omega
      have HK : Hid (j + 1 ≤ L.length) := hlt
      have p1 := len_pos cl.kw
      have p2 := len_pos cl.ko
      have p3 := len_pos cl.ki
      have k1 : ¬ d.k < 0 := by have := cl.k0.1; omega
      have k2 : ¬ 4 ≤ d.k := by have := cl.k0.2; omega
      clear hlt hd hm fd e0 e1 e2 e3 e4
      go_wp2_with (first
        | (go_at_call 14; (with_reducible refine FD.mono ?_); rintro e Z ⟨rfl, b4⟩; have N6 := new_on b4; have hbZ := hbr.trans (((al1 wr _).trans (b4.mono (al1 wr _).size)).mono hbr.size); obtain ⟨t0, t1, t2, t3, t4, tf⟩ := row5 N6; have u2 := cell_on (al1 Z (.cells #[] 9)) t2; have hwsZ := (hws.on hbZ).on (al1 Z (.cells #[] 9)); have RZ : WdR (Z.alloc (.cells #[] 9)) Z.heap.size (.slice (some ⟨Z.heap.size, 0, none⟩) 0 0) [] := RowO.lit (fun _ => rfl) (Nat.le_refl _) (heap_alloc_new Z _) rfl rfl (by decide))
        | (at_builtin; refine wpList_app_wds rfl (.tmp 83) (.tmp 85) rfl rfl RZ rfl hwsZ hnil (by have := sm.ws; simp; omega) (al1 Z _).size ?_; intro p7 n7 m7 Y R7 G7)
        | fail)
      have GY : Gt Z.heap.size 9 Z Y := (gt_of (al1 Z _)).trans G7
      rw [List.nil_append] at R7
      have HKz : Hid (Below X.heap.size X Z) := hbZ
      have SM : Hid (Sm d) := sm
      have CL : Hid (ClD s d) := cl
      clear FD G7 RZ hwsZ u2 t0 t1 t2 t3 t4 f0 f1 f2 f3 f4 p1 p2 p3 k1 k2 hnil b4 sm cl DX1 DZ bX hws
      go_loopw [7, 8] (fun lz i wr => ∃ (lv : Value) (k : Nat) (ll : List Bs), lv = lz ∧ i = .int .i64 (k : Int) ∧ k ≤ d.os.length ∧ WdR wr Z.heap.size lv ll ∧ ll = d.ws ++ (d.os.map (·.n)).take k ∧ Gt Z.heap.size 9 Z wr) (fun _ i _ => d.os.length - (RowKit.intOf i).toNat)
      case atStart => exact ⟨_, 0, d.ws, rfl, rfl, Nat.zero_le _, R7, by simp, GY⟩
      case round =>
        obtain ⟨lv, k, ll, rfl, rfl, hk, hrow, hll, hg⟩ := hrel
        have hbz : Below Z.heap.size Z wr := hg.below (Nat.le_refl _)
        have hbx : Below X.heap.size X wr := HKz.out.trans (hbz.mono HKz.out.size)
        have N6r := (hbz.block _ (lt_of_block N6)).trans N6
        obtain ⟨t0, t1, t2, t3, t4, tf⟩ := row5 N6r
        have hzz := hbz.size
        have hlen : ll.length ≤ 2000 := by
          have h1 := SM.out.ws
          have h2 := SM.out.os
          rw [hll, List.length_append, List.length_take, List.length_map]
          omega
        by_cases hkl : k < d.os.length
        · obtain ⟨y, hy⟩ : ∃ y, d.os[k]? = some y := ⟨_, List.getElem?_eq_getElem hkl⟩
          have hym := List.mem_of_getElem? hy
          obtain ⟨b5, o5, a5, n5, c5, ha, hn5, _, hoc, g0, g1, g2, g3, hia, h48⟩ := ot_cells hos hy
          cases ha
          obtain ⟨c6, hgi⟩ := CL.out.os y hym
          obtain ⟨jj, d2, hfd, hd2, hdk⟩ := HFO.out c6
          obtain ⟨b6, o6, _, _, _, _, _, _, _, _, _, _, hv6, _, _, _, d1, _⟩ := df_cells DX hd2
          cases hv6
          have hjl := (List.getElem?_eq_some_iff.1 hd2).1
          have q0 := cell_on hbx g0
          have q1 := cell_on hbx g1
          have q2 := cell_on hbx g2
          have q3 := cell_on hbx g3
          have FD := gfind_any ((DX.on hbx).on (al1 wr (outN y a5 n5 c5))) y.t
          rw [hfd] at FD
          have GI := fun {V : World} (dv : Below X.heap.size X V) => lgoesIn_true (DX.on dv) (hia.on dv) (SM.out.ar y hym) (HFI.out hgi) hgi.2
          have m1 : ((k : Nat) : Int) < (d.os.length : Int) := by omega
          have mN : ((k : Nat) : Int).toNat = k := by omega
          have n0 : ¬ ((jj : Nat) : Int) < 0 := by omega
          have n2 : ((jj : Nat) : Int) < (L.length : Int) := by omega
          have n3' : ((jj : Nat) : Int).toNat = jj := by omega
          have n4' : ¬ (L.length : Int) ≤ ((jj : Nat) : Int) := by omega
          have n5' : ¬ L.length ≤ jj := by omega
          have hk3 : (d2.k == 3) = false := by simpa using hdk
          have HKK : Hid (k + 1 ≤ d.os.length) := hkl
          have HD : Hid (ll ++ [y.n] = d.ws ++ (d.os.map (·.n)).take (k + 1)) := by
            show _ = _
            rw [take_step (x := y.n) (by rw [List.getElem?_map, hy]; rfl), hll, List.append_assoc]
          obtain ⟨lo, lc, rfl⟩ := hrow.slice
          obtain ⟨yn, yt, yw, ya⟩ := y
          simp only at q0 q1 q2 q3 FD
          clear hy hkl hll hfd hd2 hdk g0 g1 g2 g3 c6 hgi
          go_wp2_with (first
            | (go_at_call 14; (with_reducible refine FD.mono ?_); rintro e w2 ⟨rfl, b2⟩; have No := new_on b2; have bw := (al1 wr _).trans (b2.mono (al1 wr _).size); have bv := hbx.trans (bw.mono hbx.size); obtain ⟨v0, v1, v2, v3, _⟩ := row4 No; have r1 := cell_on bv d1)
            | (go_at_call 18; (with_reducible refine (GI bv).mono ?_); rintro e w3 ⟨rfl, b3⟩; have x0 := cell_on b3 v0; have bq := bw.trans (b3.mono bw.size); have R3 := RowO.on hrow bq; have G3 := hg.trans (gt_of bq); have hz3 := bq.size)
            | (at_builtin; refine wpList_append_lies _ rfl (.tmp 127) (.tmp 130) 31 rfl Z.heap.size 9 ti _ 1 16 Tryz.underlying31 hti hy0 hy1 hy2 rfl (by decide) (.slice lo ll.length lc) ll.length (ll.flatMap wrdC) rfl (R3.on (al1 w3 _)) ⟨w3.heap.size, 0, none⟩ 1 1 [.string ⟨yn.toArray⟩] rfl rfl (World.news_of_block (heap_alloc_new w3 _)) (by intro u hu; simp at hu; subst hu; rfl) (by decide) (by unfold maxLen; omega) (by omega) (by rw [World.size_alloc]; omega) _ rfl ?_; intro q8 cp8 w8 own8 gr8 hor8 hlt8)
            | fail)
          have G8 := (G3.alloc _).trans (gt_grown (R3.on (al1 w3 (.cells #[.string ⟨yn.toArray⟩] 9))) gr8)
          refine ⟨⟨_, k + 1, ll ++ [yn], rfl, by simp, HKK.out, RowO.push own8, HD.out, G8⟩, ?_⟩
          have := HKK.out
          simp [RowKit.intOf]
          omega
        · have m2 : decide (((k : Nat) : Int) < (d.os.length : Int)) = false := by simp; omega
          have m3 : decide (k < d.os.length) = false := by simp; omega
          have hfull : ll = d.ws ++ d.os.map (·.n) := by
            rw [hll, List.take_of_length_le (by rw [List.length_map]; omega)]
          have hg1 := hg
          have R9 : Hid (WdR wr Z.heap.size lv (d.ws ++ d.os.map (·.n))) := by rw [← hfull]; exact hrow
          clear hkl hk hll hfull hlen hrow
          go_wp2
          go_loopw [7, 11] (fun lz i wr => ∃ (lv : Value) (k : Nat) (ll : List Bs), lv = lz ∧ i = .int .i64 (k : Int) ∧ k ≤ d.is.length ∧ WdR wr Z.heap.size lv ll ∧ ll = (d.ws ++ d.os.map (·.n)) ++ (d.is.map (·.n)).take k ∧ Gt Z.heap.size 9 Z wr) (fun _ i _ => d.is.length - (RowKit.intOf i).toNat)
          case atStart => exact ⟨_, 0, d.ws ++ d.os.map (·.n), rfl, rfl, Nat.zero_le _, R9.out, by simp, hg1⟩
          case round =>
            obtain ⟨lv3, k, ll, rfl, rfl, hk, hrow, hll, hg⟩ := hrel
            have hbz : Below Z.heap.size Z wr := hg.below (Nat.le_refl _)
            have hbx : Below X.heap.size X wr := HKz.out.trans (hbz.mono HKz.out.size)
            have N6r := (hbz.block _ (lt_of_block N6)).trans N6
            obtain ⟨t0, t1, t2, t3, t4, tf⟩ := row5 N6r
            have hzz := hbz.size
            have hlen : ll.length ≤ 3000 := by
              have h1 := SM.out.ws
              have h2 := SM.out.os
              have h3 := SM.out.is
              rw [hll, List.length_append, List.length_append, List.length_take, List.length_map, List.length_map]
              omega
            by_cases hkl : k < d.is.length
            · obtain ⟨y, hy⟩ : ∃ y, d.is[k]? = some y := ⟨_, List.getElem?_eq_getElem hkl⟩
              obtain ⟨b5, o5, ha, _, _, g0, g1, g2⟩ := ins_cellsW his hy
              cases ha
              have q0 := cell_on hbx g0
              have m1 : ((k : Nat) : Int) < (d.is.length : Int) := by omega
              have mN : ((k : Nat) : Int).toNat = k := by omega
              have HKK : Hid (k + 1 ≤ d.is.length) := hkl
              have HD : Hid (ll ++ [y.n] = (d.ws ++ d.os.map (·.n)) ++ (d.is.map (·.n)).take (k + 1)) := by
                show _ = _
                rw [take_step (x := y.n) (by rw [List.getElem?_map, hy]; rfl), hll, List.append_assoc (d.ws ++ d.os.map (·.n))]
              obtain ⟨lo, lc, rfl⟩ := hrow.slice
              obtain ⟨yn, yt, yw⟩ := y
              simp only at q0
              clear hy hkl hll g0 g1 g2
              go_wp2_with (first
                | (at_builtin; refine wpList_append_lies _ rfl (.tmp 139) (.tmp 146) 31 rfl Z.heap.size 9 ti _ 1 16 Tryz.underlying31 hti hy0 hy1 hy2 rfl (by decide) (.slice lo ll.length lc) ll.length (ll.flatMap wrdC) rfl (RowO.on hrow (al1 wr _)) ⟨wr.heap.size, 0, none⟩ 1 1 [.string ⟨yn.toArray⟩] rfl rfl (World.news_of_block (heap_alloc_new wr _)) (by intro u hu; simp at hu; subst hu; rfl) (by decide) (by unfold maxLen; omega) (by omega) (by rw [World.size_alloc]; omega) _ rfl ?_; intro q8 cp8 w8 own8 gr8 hor8 hlt8)
                | fail)
              have G8 := (hg.alloc _).trans (gt_grown (RowO.on hrow (al1 wr (.cells #[.string ⟨yn.toArray⟩] 9))) gr8)
              refine ⟨⟨_, k + 1, ll ++ [yn], rfl, by simp, HKK.out, RowO.push own8, HD.out, G8⟩, ?_⟩
              have := HKK.out
              simp [RowKit.intOf]
              omega
            · have m2 : decide (((k : Nat) : Int) < (d.is.length : Int)) = false := by simp; omega
              have m3 : decide (k < d.is.length) = false := by simp; omega
              have hfull : ll = d.ws ++ (d.os.map (·.n) ++ d.is.map (·.n)) := by
                rw [hll, List.take_of_length_le (by rw [List.length_map]; omega), List.append_assoc]
              have GI := lgoesIn_true (DX.on hbx) (his.on hbx) SM.out.is (HFI.out CL.out.is) CL.out.is.2
              have UN := fun {V : World} (b : Below wr.heap.size wr V) => lunlike_true (wds_row (RowO.on hrow b) (by omega)) (by rw [hfull]; exact CL.out.nd)
              obtain ⟨p9, n9, m9, rfl⟩ := row_slc hrow
              clear hkl hk hll hfull
              go_wp2_with (first
                | (go_at_call 18; (with_reducible refine GI.mono ?_); rintro e w3 ⟨rfl, b3⟩)
                | (go_at_call 19; (with_reducible refine (UN b3).mono ?_); rintro e w4 ⟨rfl, b4⟩)
                | fail)
              refine ⟨⟨j + 1, by simp, HK.out, hbx.trans ((b3.trans (b4.mono b3.size)).mono hbx.size)⟩, ?_⟩
              have := HK.out
              simp [RowKit.intOf]
              omega
    · have l2 : decide (((j : Nat) : Int) < (L.length : Int)) = false := by simp; omega
      have l3 : decide (j < L.length) = false := by simp; omega
      clear hlt hj
      go_wp2
      go_ret
      exact ⟨rfl, DD.trans (hbr.mono DD.size)⟩
theorem closed_any (h : SchAt w ov ev s) (gl : Gl w) : Calls Tryz.prog 5 #[.agg #[ov, ev]] w fun e w' => e = .returned (.bool true) ∧ Below w.heap.size w w' := by
  by_cases hc : chkS s = 0
  · exact closed_ok h gl hc
  · exact closed_no h gl hc
end
end Go.Proofs.YtbccpkclfpeckaaGreatDoor
namespace Go.Proofs.YtbccpkclfpeckaaGreatDoor
open Go Go.RowKit Go.ChangeShapes Go.WideShapes Go.Deep
/-- Nothing within it is beyond the form's reach. -/
def Wt {H : Type} (t : TypeId) (d : DataW H) : Prop := ∀ n ∈ d.weights Tryz.prog t, n ≤ reachBytes
theorem mem_weightsAll {H : Type} {e : TypeId} {d : DataW H} {n : Nat} (hn : n ∈ d.weights Tryz.prog e) : ∀ {l : List (DataW H)}, d ∈ l → n ∈ DataW.weightsAll Tryz.prog e l
  | x :: r, h => by
    simp only [DataW.weightsAll, List.mem_append]
    rcases List.mem_cons.1 h with rfl | h
    · exact Or.inl hn
    · exact Or.inr (mem_weightsAll hn h)
theorem Wt.elem {H : Type} {t e : TypeId} {el sp : List (DataW H)} (ht : Tryz.prog.underlying t = some (.slice e)) (h : Wt t (.slice el sp)) {d : DataW H} (hd : d ∈ el) : Wt e d := by
  intro n hn
  refine h n ?_
  simp only [DataW.weights, ht, List.mem_cons, List.mem_append]
  exact Or.inr (Or.inl (mem_weightsAll hn hd))
theorem Wt.len {H : Type} {t e : TypeId} {el sp : List (DataW H)} (ht : Tryz.prog.underlying t = some (.slice e)) (h : Wt t (.slice el sp)) (hb : 1 ≤ Tryz.prog.bytesOf e) : el.length ≤ 140737488355328 := by
  have h1 := h ((el.length + sp.length) * Tryz.prog.bytesOf e) (by simp only [DataW.weights, ht, List.mem_cons, true_or])
  have h2 := reachBytes_lt
  have h3 : el.length + sp.length ≤ (el.length + sp.length) * Tryz.prog.bytesOf e := Nat.le_mul_of_pos_right _ hb
  omega
theorem Wt.part {H : Type} {t : TypeId} {fs : Array Field} {parts : List (DataW H)} (ht : Tryz.prog.underlying t = some (.struct fs)) (h : Wt t (.agg parts)) {j : Nat} {u : TypeId} {d : DataW H} (hu : (fs.toList.map (·.type))[j]? = some u) (hd : parts[j]? = some d) : Wt u d := by
  intro n hn
  refine h n ?_
  simp only [DataW.weights, ht]
  exact DataW.weights_mem_each hu hd n hn
section
variable {H : Type} {enc : TypeId × Value → H} {w : World} {base : Nat} {spare : Nat → Bool} {held : Bool}
theorem open_sl {α : Type} {sz : Nat} {t e : TypeId} {p : α → Nat → Nat → Prop} (ht : Tryz.prog.underlying t = some (.slice e)) (hsz : Tryz.prog.cellsOf e = sz) (hs1 : 0 < sz) (hb : 1 ≤ Tryz.prog.bytesOf e) {fuel : Nat} {cs : List Value} {x : DataW H × List MemPlace} (h : DataW.trod enc Tryz.prog w base spare held fuel t cs = some x) (hw : Wt t x.1)
    (each : ∀ (fuel : Nat) (cs : List Value) (y : DataW H × List MemPlace) (b o : Nat), DataW.trod enc Tryz.prog w base spare held fuel e cs = some y → Wt e y.1 → cs.length = sz → (∀ j u, cs[j]? = some u → w.cell? ⟨b, o + j, none⟩ = some u) → ∃ a : α, p a b o) :
    ∃ (v : Value) (l : List α), cs = [v] ∧ Sl w v l.length sz (fun i b o => ∀ a, l[i]? = some a → p a b o) := by
  rcases open_slice ht h with ⟨hcs, _⟩ | ⟨ad, len, cap, m, n, D, Pl, hcs, _, hl, hm, hmm, rfl, hx⟩
  · exact ⟨_, [], hcs, _, 0, rfl, Nat.le_refl _, by simp, fun h => absurd h (by simp)⟩
  · have hlm : len ≤ m := by rw [hmm]; split <;> omega
    rw [hsz] at hx
    have hlen47 : len ≤ 140737488355328 := by
      have := hw.len ht hb
      simpa using this
    by_cases h0 : len = 0
    · subst h0
      exact ⟨_, [], hcs, some ad, cap, rfl, by simp, by simp, fun h => absurd h (by simp)⟩
    · obtain ⟨b, o, sp⟩ := ad
      have cell : ∀ i, i < len → ∃ cs', DataW.trod enc Tryz.prog w base spare held n e cs' = some (D i, Pl i) ∧ cs'.length = sz ∧ ∀ j, j < sz → w.cell? ((⟨b, o, sp⟩ : Addr).add (i * sz + j)) = cs'[j]? := by
        intro i hi
        obtain ⟨cs', h1, h2⟩ := hx i (by omega)
        obtain ⟨_, hlen, hcell⟩ := World.cells?_some h1
        refine ⟨cs', h2, hlen, fun j hj => ?_⟩
        have := hcell j hj
        rw [add_add] at this
        exact this
      obtain ⟨cs0, _, hl0, hc0⟩ := cell 0 (by omega)
      obtain ⟨u0, hu0⟩ : ∃ u, cs0[0]? = some u := ⟨_, List.getElem?_eq_getElem (by omega)⟩
      have hc00 := (hc0 0 hs1).trans hu0
      have hsp : sp = none := by simpa [Addr.add] using World.cell?_spot hc00
      subst hsp
      have hbl : b < w.heap.size := by
        have := World.block_lt_of_cell? w _ hc00
        simpa [Addr.add] using this
      have each' : ∀ i, i < len → ∃ a : α, p a b (o + i * sz) := by
        intro i hi
        obtain ⟨cs', h1, h2, h3⟩ := cell i hi
        refine each n cs' _ b (o + i * sz) h1 (hw.elem ht (List.mem_map.2 ⟨i, List.mem_range.2 hi, rfl⟩)) h2 fun j u hj => ?_
        have hjs : j < sz := by
          have := (List.getElem?_eq_some_iff.1 hj).1
          omega
        have h4 := (h3 j hjs).trans hj
        have e4 : (⟨b, o, none⟩ : Addr).add (i * sz + j) = ⟨b, o + i * sz + j, none⟩ := by simp [Addr.add, Nat.add_assoc]
        rw [e4] at h4
        exact h4
      obtain ⟨a0, _⟩ := each' 0 (by omega)
      haveI : Inhabited α := ⟨a0⟩
      obtain ⟨f, hf⟩ := choose_lt each'
      refine ⟨_, (List.range len).map f, hcs, some ⟨b, o, none⟩, cap, by simp, by simpa using hl, by simpa using hlen47, fun _ => ⟨b, o, rfl, hbl, fun i hi a ha => ?_⟩⟩
      have hi : i < len := by simpa using hi
      have hpf : a = f i := by
        simp [hi] at ha
        exact ha.symm
      subst hpf
      exact hf i hi
theorem Tryz.cStr : Tryz.prog.cellsOf 9 = 1 := by kernel_rfl
theorem Tryz.cFld : Tryz.prog.cellsOf 56 = 5 := by kernel_rfl
theorem Tryz.cRef : Tryz.prog.cellsOf 37 = 2 := by kernel_rfl
theorem Tryz.cBool : Tryz.prog.cellsOf 4 = 1 := by kernel_rfl
theorem Tryz.cOb : Tryz.prog.cellsOf 54 = 2 := by kernel_rfl
theorem Tryz.cEn : Tryz.prog.cellsOf 59 = 2 := by kernel_rfl
theorem Tryz.cSch : Tryz.prog.cellsOf 25 = 2 := by kernel_rfl
theorem Tryz.cFs : Tryz.prog.cellsOf 52 = 1 := by kernel_rfl
theorem Tryz.cWs : Tryz.prog.cellsOf 31 = 1 := by kernel_rfl
theorem Tryz.cOs : Tryz.prog.cellsOf 22 = 1 := by kernel_rfl
theorem Tryz.cEs : Tryz.prog.cellsOf 23 = 1 := by kernel_rfl
theorem open_str {fuel : Nat} {cs : List Value} {x : DataW H × List MemPlace} (h : DataW.trod enc Tryz.prog w base spare held fuel 9 cs = some x) : ∃ b : Bs, cs = [.string ⟨b.toArray⟩] := by
  obtain ⟨t, e, _, _⟩ := DataW.trod_string Tryz.underlying9 h
  exact ⟨t.data.toList, by rw [e]⟩
set_option maxRecDepth 100000 in
theorem open_fld {fuel : Nat} {cs : List Value} {x : DataW H × List MemPlace} (h : DataW.trod enc Tryz.prog w base spare held fuel 56 cs = some x) :
    ∃ f : Fld, cs = [.string ⟨f.n.toArray⟩, .string ⟨f.t.toArray⟩, .string ⟨f.w.toArray⟩, .bool f.s, .string ⟨f.i.toArray⟩] := by
  obtain ⟨xs, n, _, _, hl, hxl, hf⟩ := DataW.trod_struct Tryz.underlying56 h
  rw [Tryz.cFld] at hl
  match xs, hxl, cs, hl with
  | [y0, y1, y2, y3], _, [v0, v1, v2, v3, v4], _ =>
    have g0 := hf 0 _ rfl
    have g1 := hf 1 _ rfl
    have g2 := hf 2 _ rfl
    have g3 := hf 3 _ rfl
    simp [Tryz.cStr, Tryz.cRef, Tryz.cBool] at g0 g1 g2 g3
    obtain ⟨a0, e0⟩ := open_str g0
    obtain ⟨ys, m, _, _, _, hyl, hg⟩ := DataW.trod_struct Tryz.underlying37 g1
    match ys, hyl with
    | [z0, z1], _ =>
      have q0 := hg 0 _ rfl
      have q1 := hg 1 _ rfl
      simp [Tryz.cStr] at q0 q1
      obtain ⟨a1, e1⟩ := open_str q0
      obtain ⟨a2, e2⟩ := open_str q1
      obtain ⟨a3, e3, _, _⟩ := DataW.trod_bool Tryz.underlying4 g2
      obtain ⟨a4, e4⟩ := open_str g3
      simp at e0 e1 e2 e3 e4
      exact ⟨⟨a0, a1, a2, a3, a4⟩, by rw [e0, e1, e2, e3, e4]⟩
theorem open_wds {fuel : Nat} {cs : List Value} {x : DataW H × List MemPlace} (h : DataW.trod enc Tryz.prog w base spare held fuel 31 cs = some x) (hw : Wt 31 x.1) : ∃ (v : Value) (ws : List Bs), cs = [v] ∧ WdsAt w v ws :=
  open_sl Tryz.underlying31 Tryz.cStr (by decide) (of_decide_eq_true (by kernel_rfl)) h hw fun fuel cs y b o hy _ _ hc => by
    obtain ⟨a, rfl⟩ := open_str hy
    exact ⟨a, hc 0 _ rfl⟩
theorem open_flds {fuel : Nat} {cs : List Value} {x : DataW H × List MemPlace} (h : DataW.trod enc Tryz.prog w base spare held fuel 52 cs = some x) (hw : Wt 52 x.1) : ∃ (v : Value) (fs : List Fld), cs = [v] ∧ FldsAt w v fs :=
  open_sl Tryz.underlying52 Tryz.cFld (by decide) (of_decide_eq_true (by kernel_rfl)) h hw fun fuel cs y b o hy _ _ hc => by
    obtain ⟨f, rfl⟩ := open_fld hy
    exact ⟨f, hc 0 _ rfl, hc 1 _ rfl, hc 2 _ rfl, hc 3 _ rfl, hc 4 _ rfl⟩
set_option maxRecDepth 100000 in
theorem open_ob {fuel : Nat} {cs : List Value} {x : DataW H × List MemPlace} (h : DataW.trod enc Tryz.prog w base spare held fuel 54 cs = some x) (hw : Wt 54 x.1) :
    ∃ (o : Ob) (fv : Value), cs = [.string ⟨o.n.toArray⟩, fv] ∧ FldsAt w fv o.fs := by
  obtain ⟨xs, n, _, rfl, hl, hxl, hf⟩ := DataW.trod_struct Tryz.underlying54 h
  rw [Tryz.cOb] at hl
  match xs, hxl, cs, hl with
  | [y0, y1], _, [v0, v1], _ =>
    have g0 := hf 0 _ rfl
    have g1 := hf 1 _ rfl
    simp [Tryz.cStr, Tryz.cFs] at g0 g1
    obtain ⟨a0, e0⟩ := open_str g0
    obtain ⟨fv, fs, e1, hfs⟩ := open_flds g1 (hw.part Tryz.underlying54 (j := 1) rfl rfl)
    simp at e0 e1
    exact ⟨⟨a0, fs⟩, fv, by rw [e0, e1], hfs⟩
set_option maxRecDepth 100000 in
theorem open_en {fuel : Nat} {cs : List Value} {x : DataW H × List MemPlace} (h : DataW.trod enc Tryz.prog w base spare held fuel 59 cs = some x) (hw : Wt 59 x.1) :
    ∃ (o : En) (fv : Value), cs = [.string ⟨o.n.toArray⟩, fv] ∧ WdsAt w fv o.ws := by
  obtain ⟨xs, n, _, rfl, hl, hxl, hf⟩ := DataW.trod_struct Tryz.underlying59 h
  rw [Tryz.cEn] at hl
  match xs, hxl, cs, hl with
  | [y0, y1], _, [v0, v1], _ =>
    have g0 := hf 0 _ rfl
    have g1 := hf 1 _ rfl
    simp [Tryz.cStr, Tryz.cWs] at g0 g1
    obtain ⟨a0, e0⟩ := open_str g0
    obtain ⟨fv, fs, e1, hfs⟩ := open_wds g1 (hw.part Tryz.underlying59 (j := 1) rfl rfl)
    simp at e0 e1
    exact ⟨⟨a0, fs⟩, fv, by rw [e0, e1], hfs⟩
theorem open_obs {fuel : Nat} {cs : List Value} {x : DataW H × List MemPlace} (h : DataW.trod enc Tryz.prog w base spare held fuel 22 cs = some x) (hw : Wt 22 x.1) : ∃ (v : Value) (fs : List Ob), cs = [v] ∧ ObsAt w v fs :=
  open_sl Tryz.underlying22 Tryz.cOb (by decide) (of_decide_eq_true (by kernel_rfl)) h hw fun fuel cs y b o hy hwy _ hc => by
    obtain ⟨f, fv, rfl, hfs⟩ := open_ob hy hwy
    exact ⟨f, hc 0 _ rfl, fv, hc 1 _ rfl, hfs⟩
theorem open_ens {fuel : Nat} {cs : List Value} {x : DataW H × List MemPlace} (h : DataW.trod enc Tryz.prog w base spare held fuel 23 cs = some x) (hw : Wt 23 x.1) : ∃ (v : Value) (fs : List En), cs = [v] ∧ EnsAt w v fs :=
  open_sl Tryz.underlying23 Tryz.cEn (by decide) (of_decide_eq_true (by kernel_rfl)) h hw fun fuel cs y b o hy hwy _ hc => by
    obtain ⟨f, fv, rfl, hfs⟩ := open_en hy hwy
    exact ⟨f, hc 0 _ rfl, fv, hc 1 _ rfl, hfs⟩
set_option maxRecDepth 100000 in
theorem open_sch {fuel : Nat} {cs : List Value} {x : DataW H × List MemPlace} (h : DataW.trod enc Tryz.prog w base spare held fuel 25 cs = some x) (hw : Wt 25 x.1) :
    ∃ (s : Sch) (ov ev : Value), cs = [ov, ev] ∧ SchAt w ov ev s := by
  obtain ⟨xs, n, _, rfl, hl, hxl, hf⟩ := DataW.trod_struct Tryz.underlying25 h
  rw [Tryz.cSch] at hl
  match xs, hxl, cs, hl with
  | [y0, y1], _, [v0, v1], _ =>
    have g0 := hf 0 _ rfl
    have g1 := hf 1 _ rfl
    simp [Tryz.cOs, Tryz.cEs] at g0 g1
    obtain ⟨ov, os, e0, h0⟩ := open_obs g0 (hw.part Tryz.underlying25 (j := 0) rfl rfl)
    obtain ⟨ev, es, e1, h1⟩ := open_ens g1 (hw.part Tryz.underlying25 (j := 1) rfl rfl)
    simp at e0 e1
    exact ⟨⟨os, es⟩, ov, ev, by rw [e0, e1], h0, h1⟩
end
end Go.Proofs.YtbccpkclfpeckaaGreatDoor
namespace Go.Proofs.YtbccpkclfpeckaaGreatDoor
open Go Go.RowKit Go.Lib

def listed : List (String × DataW Unit) := Rows.genTellsRow.laid
theorem at_var {w : World} {n : String} {d : DataW Unit} {g t : Nat} (h : VarReads Tryz.prog w n d) (hg : Tryz.prog.globalNamed n = some g) (ht : (Tryz.prog.globals[g]?).map (·.type) = some t) :
    ∃ (cs : Array Value) (fuel : Nat) (p : List MemPlace), w.var? Tryz.prog n = some cs ∧ DataW.trod (fun _ => ()) Tryz.prog w 0 (fun _ => true) false fuel t cs.toList = some (d, p) ∧ ∀ i, w.cell? ⟨g, i, none⟩ = cs.toList[i]? := by
  obtain ⟨g', t', cs, fuel, p, hg', ht', hv, hd⟩ := h
  obtain rfl := Option.some.inj (hg.symm.trans hg')
  obtain rfl := Option.some.inj (ht.symm.trans ht')
  exact ⟨cs, fuel, p, hv, hd, fun i => by rw [World.var?_cell hg hv i, Array.getElem?_toList]⟩
theorem es_laid {w : World} (h : VarReads Tryz.prog w "strconv.ErrSyntax" Rows.laid_strconv_ErrSyntax) : ∃ te pe, w.cell? ⟨3, 0, none⟩ = some (.iface te pe) := by
  obtain ⟨cs, fuel, p, _, hd, hc⟩ := at_var h (g := 3) (t := 183) (by kernel_rfl) (by kernel_rfl)
  cases fuel with
  | zero => simp [DataW.trod] at hd
  | succ n =>
    have hu := Tryz.underlying183
    simp only [DataW.trod, hu, Rows.laid_strconv_ErrSyntax] at hd
    rw [hc]
    split at hd
    all_goals simp_all
theorem max_of {W : World} (h : W.ShapedOpen Tryz.prog) : ∃ m, W.cell? ⟨gM, 0, none⟩ = some (.int .i64 m) :=
  cell_of_shapedOpen_int h (g := 0) (t := 3) (zero := #[.int .i64 0]) (of_decide_eq_true (by kernel_rfl)) (by kernel_rfl) rfl (by kernel_rfl) (by kernel_rfl) Tryz.underlying3
theorem gl_laid {W : World} (hL : laidMet Tryz.prog listed W) (hs : W.ShapedOpen Tryz.prog) : Gl W := by
  obtain ⟨te, pe, he⟩ := es_laid (laidMet.reads hL (.tail _ (.tail _ (.tail _ (.tail _ (.tail _ (.head _)))))))
  exact ⟨max_of hs, ⟨_, he, Or.inr ⟨te, pe, rfl⟩⟩⟩
end Go.Proofs.YtbccpkclfpeckaaGreatDoor

namespace Go.Proofs.YtbccpkclfpeckaaGreatDoor
open Go.ChangeShapes Go.WideShapes Go.ChangeAt Go.RowKit
open Go.ChangeMaps (open_string shut_string)

theorem Tryz.own : ownKnob Tryz.prog.godebug = none := by kernel_rfl
theorem Tryz.laidOut : laidOutB Tryz.prog = true := by kernel_rfl

/-- The road from the contract to the row where the contract is handed both what is listed and the world's shape. -/
theorem lifted_by {H : Type} {enc : TypeId × Value → H} {C : Checked} {os : Os} {f : FuncId} {fn : Func} {s : ChangeSpec} {conds : List PathCond} {apart fresh handsOn again : Bool} {X : World → Array Value → Prop}
    (hX : ∀ (w w' : World) (args : Array Value), w.heap = w'.heap → X w args → X w' args)
    (own : ownKnob C.prog.godebug = none) (started : os.Started) (noInit : C.prog.inits.idxOf? f = none) (hfn : C.prog.funcs[f]? = some fn)
    (witness : ∃ (w : World) (tape : Tape) (i : Input), w.os = os ∧ (w.forCall tape i).Shaped C.prog ∧ i.vars = [] ∧ Input.okWide C.prog (w.forCall tape i) .any w.heap.size f i ∧
      ((s.pre enc C.prog fn conds apart (w.forCall tape i).memory i.args ∧ X (w.forCall tape i).memory i.args) ∧ sizedMet enc C.prog fn (OpenSpec.ofChange s) apart (w.forCall tape i).memory i.args) ∧ ({} : Assume).holds C.prog (lone (Frame.enter C.prog f i.args .normal) [] (w.forCall tape i)))
    (contract : ∀ (W : World) (base : Nat) (args : Array Value) (ds gs : List (DataW H)) (before : List MemPlace),
      (∀ (j : Nat) t v, fn.params[j]? = some t → args[j]? = some v → Value.okWide C.prog W .any base t v) →
      DataW.Whole enc C.prog fn.params.toList s.vars apart W args.toList ds gs before →
      (DataW.weightsEach C.prog (fn.params.toList ++ s.plain.varTypes C.prog) (ds ++ gs)).all (· ≤ reachBytes) = true → W.ShapedOpen C.prog → X W args →
      Calls C.prog f args W fun e W' => ∃ v, e = .returned v ∧ s.post enc C.prog fn apart fresh handsOn again W args v W') :
    ReturnsInHanded {} C os f .any (fun w args => (s.pre enc C.prog fn conds apart w args ∧ X w args) ∧ sizedMet enc C.prog fn (OpenSpec.ofChange s) apart w args) (s.post enc C.prog fn apart fresh handsOn again) := by
  refine returnsInHanded_of_calls own started noInit witness ?_
  intro w tape i _ hsh _ hok hpre _
  obtain ⟨_, _, _, fn', hfn', _, _, _, _, hval⟩ := hok
  obtain rfl : fn' = fn := Option.some.inj (hfn'.symm.trans hfn)
  obtain ⟨⟨⟨ds, gs, before, hw, _⟩, hx⟩, hz⟩ := hpre
  refine (contract (w.forCall tape i) w.heap.size i.args ds gs before hval (DataW.Whole.of_heap (w' := w.forCall tape i) (by rfl) hw) (hz.weights hw) hsh (hX _ _ _ (by rfl) hx)).mono fun e W' ⟨v, he, hp⟩ => ?_
  subst he
  exact ChangeSpec.post_blind hp

set_option maxRecDepth 100000 in
theorem genClosed_lifted (os : Os) (started : os.Started) (H : Type) (enc : TypeId × Value → H) :
    ReturnsInHanded {} Tryz.checked os 5 .any (fun w args => (Rows.genClosedSpec.pre enc Tryz.prog Tryz.f5 Rows.genClosedRow.domain false w args ∧ laidMetH Tryz.prog listed w) ∧ sizedMet enc Tryz.prog Tryz.f5 (OpenSpec.ofChange Rows.genClosedSpec) false w args)
      (Rows.genClosedSpec.post enc Tryz.prog Tryz.f5 false true false false) := by
  refine lifted_by (C := Tryz.checked) (X := fun w _ => laidMetH Tryz.prog listed w) (fun _ _ _ hh h => h.of_heap hh) Tryz.own started (by kernel_rfl) Tryz.func5
    (ChangeSpec.witness_shaped (enc := enc) (C := Tryz.checked) (os := os) (X := fun w _ => laidMetH Tryz.prog listed w) false (World.laidAll Tryz.prog os listed) #[.agg #[.slice none 0 0, .slice none 0 0]] 8 (World.laidAll_os _ _ _)
      (World.shaped_of_ZipB (by kernel_rfl) (by kernel_rfl)) (by kernel_rfl) (by kernel_rfl) (by kernel_rfl)
      (by rw [MakeChecks.laidMetH_plain _ _ _ (by kernel_rfl)]; exact laidMet_laidAll _ (by kernel_rfl) (by kernel_rfl))) ?_
  intro W base args ds gs before hval0 hW hsz hsh hL
  have hval : ∀ (j : Nat) t v, Tryz.f5.params[j]? = some t → args[j]? = some v → Value.okWide Tryz.prog W .any base t v := hval0
  have hW' := hW
  obtain ⟨p, q, hA0, hV, rfl, hfz, hnd⟩ := hW
  have hA : DataW.TrodAll enc Tryz.prog W 0 (fun _ => true) true Tryz.f5.params.toList args.toList ds p := hA0
  rw [Tryz.params5] at hA hval
  obtain ⟨v0, vs0, d0, ds0, p0, q0, hargs, rfl, rfl, h0, r0⟩ := trodAll_cons hA
  obtain ⟨rfl, rfl, rfl⟩ := trodAll_nil r0
  obtain rfl : args = #[v0] := by cases args; simp_all
  obtain ⟨rfl, rfl⟩ := trodVars_none hV
  obtain ⟨c0, rfl, _⟩ := okWide_struct Tryz.underlying25 (hval 0 25 v0 rfl rfl)
  have k0 := h0
  have lt0 : ∀ x ∈ p0, x.block < W.heap.size := by obtain ⟨m, hm⟩ := k0; exact DataW.trod_lt m _ _ _ hm
  have wt0 : Wt 25 d0 := fun n hn => by
    have := List.all_eq_true.1 hsz n (DataW.weights_mem_each (j := 0) rfl rfl n hn)
    simpa using this
  obtain ⟨s0, ov0, ev0, hc0, hS0⟩ : ∃ (s : Sch) (ov ev : Value), (Value.agg c0).cells.toList = [ov, ev] ∧ SchAt W ov ev s := by
    obtain ⟨fuel, hf⟩ := h0
    exact open_sch hf wt0
  obtain rfl : c0 = #[ov0, ev0] := Array.toList_inj.1 hc0
  have hL2 : laidMetH Tryz.prog listed W := hL
  rw [MakeChecks.laidMetH_plain _ _ _ (by kernel_rfl)] at hL2
  have gl := gl_laid hL2 hsh
  clear hA0 hval0 hL hL2 hsz
  have wk := closed_any hS0 gl
  refine wk.mono fun e W' ⟨he, bel⟩ => ?_
  subst he
  exact ⟨_, rfl, _, _, _, [], _, [], hW', trodAll_mk1 (shut_bool Tryz.underlying4 _), (trodAll_cons_mk (Below.trod Tryz.laidOut (by kernel_rfl) (of_decide_eq_true (by kernel_rfl)) k0 bel lt0) trodAll_mk0), rfl, bel.frame _, fun h => by cases h⟩

theorem genClosed_row : Rows.GenClosedSaid :=
  OpenClaim.holds_of_wide 5 Tryz.f5 rfl rfl rfl rfl rfl rfl rfl ⟨rfl, rfl, rfl, rfl, rfl⟩ rfl rfl rfl rfl rfl (by kernel_rfl) Tryz.func5 (by kernel_rfl)
    (of_decide_eq_true (by kernel_rfl)) (by unfold Func.isWrapper; first | (rw [if_pos (by decide +kernel)]; kernel_rfl) | (rw [if_neg (by decide +kernel)]; exact ⟨rfl, rfl⟩))
    (fun os started H enc _ => genClosed_lifted os started H enc)

theorem genClosed_holds : Rows.GenClosedCardSaid :=
  Claim7.holds_tied_plain_at .later [] _ _ _ _ genClosed_row (fun _ h => by cases h) (by kernel_rfl) (fun _ h => by cases h) genClosed_row_tie rfl ⟨rfl, rfl⟩ (by kernel_rfl) rfl
    (fun f fn hf hfn => by
      obtain rfl : f = 5 := Option.some.inj ((show Tryz.prog.funcNamed "rhizome/rhizomelaw10.GenClosed" = some 5 by kernel_rfl).symm.trans hf) |>.symm
      obtain rfl : fn = Tryz.f5 := (Option.some.inj (Tryz.func5.symm.trans hfn)).symm
      exact ⟨by kernel_rfl, fun j t ht => by
        rw [Tryz.params5] at ht
        have hm : t ∈ [25] := by simpa using Array.mem_of_getElem? ht
        have hall : ([25].all fun u => !Tryz.prog.wantsStandIn u) = true := by kernel_rfl
        exact (show Tryz.prog.wantsStandIn t = false by simpa using List.all_eq_true.1 hall t hm)⟩)
    (by kernel_rfl)
#print axioms genClosed_holds
end Go.Proofs.YtbccpkclfpeckaaGreatDoor
