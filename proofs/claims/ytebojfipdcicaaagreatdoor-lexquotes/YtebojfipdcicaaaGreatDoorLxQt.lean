/- A quoted text is one token that says it: the law's own walk. -/
import Derived.Test.YtebojfipdcicaaaGreatDoorMtQ
import Derived.Test.YtebojfipdcicaaaGreatDoorLxFx
import Derived.Test.YtebojfipdcicaaaGreatDoorLxV1
import Derived.Deep.RegionHeld3
import Derived.OpenShut
namespace Go.Proofs.YtebojfipdcicaaaGreatDoor
open Go Go.RowKit

/-- What is told of the slice that came in. -/
def IsRow (k : IntKind) (w : World) (a : Option Addr) (len cap : Nat) (zs : List Int) : Prop :=
  (a = none ∧ len = 0 ∧ cap = 0 ∧ zs = []) ∨
  ∃ x, a = some x ∧ len ≤ cap ∧ cap ≤ maxLen ∧ zs.length = cap ∧ (∀ i, i < zs.length → w.cell? (x.add i) = some (.int k (zs.getD i 0))) ∧ ∀ n ∈ zs, (Lit.int k n).wf = true
theorem owns_belowQ {W W' : World} {B e sz n : Nat} {v : Value} {xs : List Value} (h : W.ownsRow B e sz v n xs) (hb : Below W.heap.size W W') : W'.ownsRow B e sz v n xs := by
  refine ⟨h.1, ?_⟩
  rcases h.2 with h2 | ⟨g, cap, cur, hv, hg, hh, r⟩
  · exact Or.inl h2
  · exact Or.inr ⟨g, cap, cur, hv, hg, (hb.block g (lt_of_block hh)).trans hh, r⟩
theorem cell_ltQ {w : World} {b o : Nat} {v : Value} (hc : w.cell? ⟨b, o, none⟩ = some v) : b < w.heap.size := by
  rcases Nat.lt_or_ge b w.heap.size with h' | h'
  · exact h'
  · simp [World.cell?, Array.getElem?_eq_none h'] at hc
theorem old_cellQ {w wr : World} {b o : Nat} {v : Value} (h : Below w.heap.size w wr) (hc : w.cell? ⟨b, o, none⟩ = some v) : wr.cell? ⟨b, o, none⟩ = some v :=
  (h.cell (p := ⟨b, o, none⟩) (cell_ltQ hc)).trans hc
theorem own_nobQ (w : World) : Bytes (w.alloc (.cells #[] 5)) w.heap.size (.slice (some ⟨w.heap.size, 0, none⟩) 0 0) [] :=
  ⟨rfl, Or.inr ⟨w.heap.size, 0, #[], rfl, Nat.le_refl _, heap_alloc_new _ _, Nat.le_refl _, Nat.zero_le _, rfl, rfl⟩⟩
theorem below_dQ (w : World) : Below w.heap.size w w.drew := ⟨rfl, rfl, rfl, Nat.le_refl _, fun _ _ => rfl⟩
/-- One unit more. -/
theorem quo_grow {w2 : World} {B n : Nat} {x q : Bs} {vb : Value} (hq : Qd x q) (hx : x.length < 2700) (hn : n < 65536)
    (h2 : w2.ownsRow B 5 1 vb (x.length + (ByteArray.mk (unitS n).toArray).size) (Lib.byteCells x ++ Lib.strCells ⟨(unitS n).toArray⟩)) : ∃ y p, Qd y p ∧ y.length ≤ 2703 ∧ Bytes w2 B vb y := by
  obtain ⟨p, hp⟩ := Qd.unit n hn
  have hl := unitS_le n
  refine ⟨x ++ unitS n, q ++ p, hq.app hp, by rw [List.length_append]; omega, ?_⟩
  unfold Bytes
  rw [cells_app, List.length_append, ← strCells_eq (unitS n)]
  exact h2
/-- The loop's state. -/
structure QL (w wr : World) (b : Value) (x q : Bs) : Prop where
  row : Bytes wr w.heap.size b x
  qd : Qd x q
  le : x.length ≤ 2703
  nn : b ≠ .slice none 0 0
  bel : Below w.heap.size w wr
theorem not_noneQ {w : World} {B e n : Nat} {v : Value} {xs : List Value} (h : w.ownsRow B e 1 v n xs) (hn : v ≠ .slice none 0 0) : ∃ g cap, v = .slice (some ⟨g, 0, none⟩) n cap := by
  rcases h.2 with ⟨h1, _⟩ | ⟨g, cap, cur, h1, _⟩
  · exact absurd h1 hn
  · exact ⟨g, cap, h1⟩

set_option maxRecDepth 100000 in
set_option maxHeartbeats 4000000 in
theorem quotes_walk (a0 : Option Addr) (len cap : Nat) (zs : List Int) (w : World) (h : IsRow .i64 w a0 len cap zs) (gl : Gl w) (hz : Tz w) :
    Calls Tryz.prog 5 #[.slice a0 len cap] w fun e w' => e = .returned (.bool true) ∧ Below w.heap.size w w' := by
  have ok : Ok w w := ⟨Below.refl _ _, gl, hz⟩
  clear gl hz
  obtain ⟨i1, hi1, hy0, hy1, hy2⟩ := info_parts Tryz.infoByte
  go_enter Tryz.func5, Tryz.ntmps5
  go_wp2
  go_loopw [3, 4] (fun b i wr => ∃ (j : Nat) (vb : Value) (x q : Bs), j ≤ len ∧ i = .int .i64 (j : Int) ∧ b = vb ∧ QL w wr vb x q) (fun _ i _ => len - (RowKit.intOf i).toNat)
  case atStart => exact ⟨0, _, [], [], Nat.zero_le _, rfl, rfl, own_nobQ w, Qd.nil, by simp, by simp, (Below.refl _ _).alloc (Nat.le_refl _) _⟩
  case round =>
    obtain ⟨j, vb, x, q, hj, rfl, rfl, hQ⟩ := hrel
    obtain ⟨hob, hqd, hle, hnn, hbr⟩ := hQ
    obtain ⟨g9, cap9, rfl⟩ := not_noneQ hob hnn
    by_cases hgo : j < len ∧ x.length < 2700
    · obtain ⟨hlt, hx⟩ := hgo
      rcases h with ⟨_, h0, _⟩ | ⟨xa, rfl, h1, h2, h3, h4, _⟩
      · omega
      obtain ⟨bk, off, rfl, hc⟩ := ints_at h4 (by omega)
      have c0 : w.cell? ⟨bk, off + j, none⟩ = some (.int .i64 (zs.getD j 0)) := hc j (by omega)
      have c1 : wr.cell? ⟨bk, off + j, none⟩ = some (.int .i64 (zs.getD j 0)) := old_cellQ hbr c0
      generalize zs.getD j 0 = c at c1
      clear c0 h4 hc
      unfold maxLen at h2
      have HQ : Hid (Qd x q) := hqd
      have hx2 : (x.length : Int) < 2700 := by omega
      clear hqd
      by_cases hc1 : 32 ≤ c ∧ c ≤ 65535
      · obtain ⟨k1, k2⟩ := hc1
        obtain ⟨n, rfl⟩ : ∃ n : Nat, c = n := ⟨c.toNat, by omega⟩
        have U := fun w1 => unit_any n (by omega) w1
        have hus : (ByteArray.mk (unitS n).toArray).size ≤ 4 := unitS_le n
        generalize hUB : (ByteArray.mk (unitS n).toArray) = UB at *
        have HUB : Hid ((ByteArray.mk (unitS n).toArray) = UB) := hUB
        clear hUB
        go_wp2_with (first
          | (at_builtin; refine Lib.wpList_append_own_string _ rfl _ _ 33 9 rfl w.heap.size 5 i1 Tryz.underlying33 Tryz.underlying9 hi1 hy0 hy1 hy2 _ _ _ rfl hob3 UB rfl ?d1 ?d2 ?d3 ?_)
          | (go_at_call 17; refine (U _).mono ?_; rintro e w3 ⟨rfl, hb3⟩; have hob3 := owns_belowQ hob hb3; have hbr3 := hbr.trans (hb3.mono hbr.size))
          | fail)
        case d1 => unfold maxLen; omega
        case d2 => omega
        case d3 => exact hbr3.size
        intro vb2 w4 hob4 hg4 hnil4
        have hbr4 : Below w.heap.size w w4 := hbr3.grown hg4 hbr3.size (own_ge hob3)
        have hnn4 : vb2 ≠ .slice none 0 0 := by first | exact fun e => hnn (hnil4.1 e).1 | exact hnil4
        have HG : Hid (∃ y p, Qd y p ∧ y.length ≤ 2703 ∧ Bytes w4 w.heap.size vb2 y) := by
          have e := HUB.out
          subst e
          exact quo_grow HQ.out hx (by omega) hob4
        clear hob4 hg4 hnil4 hob3
        go_wp2
        obtain ⟨y, p, g1, g2, g3⟩ := HG.out
        refine ⟨⟨j + 1, vb2, y, p, by omega, congrArg (Value.int .i64) (by omega), rfl, g3, g1, g2, hnn4, hbr4⟩, ?_⟩
        simp [RowKit.intOf]
        omega
      · by_cases hc2 : c = 9
        · subst hc2
          have U := fun w1 => unit_any 9 (by omega) w1
          have hus : (ByteArray.mk (unitS 9).toArray).size ≤ 4 := unitS_le 9
          generalize hUB : (ByteArray.mk (unitS 9).toArray) = UB at *
          have HUB : Hid ((ByteArray.mk (unitS 9).toArray) = UB) := hUB
          clear hUB
          go_wp2_with (first
            | (at_builtin; refine Lib.wpList_append_own_string _ rfl _ _ 33 9 rfl w.heap.size 5 i1 Tryz.underlying33 Tryz.underlying9 hi1 hy0 hy1 hy2 _ _ _ rfl hob3 UB rfl ?d1 ?d2 ?d3 ?_)
            | (go_at_call 17; refine (U _).mono ?_; rintro e w3 ⟨rfl, hb3⟩; have hob3 := owns_belowQ hob hb3; have hbr3 := hbr.trans (hb3.mono hbr.size))
            | fail)
          case d1 => unfold maxLen; omega
          case d2 => omega
          case d3 => exact hbr3.size
          intro vb2 w4 hob4 hg4 hnil4
          have hbr4 : Below w.heap.size w w4 := hbr3.grown hg4 hbr3.size (own_ge hob3)
          have hnn4 : vb2 ≠ .slice none 0 0 := by first | exact fun e => hnn (hnil4.1 e).1 | exact hnil4
          have HG : Hid (∃ y p, Qd y p ∧ y.length ≤ 2703 ∧ Bytes w4 w.heap.size vb2 y) := by
            have e := HUB.out
            subst e
            exact quo_grow HQ.out hx (by omega) hob4
          clear hob4 hg4 hnil4 hob3
          go_wp2
          obtain ⟨y, p, g1, g2, g3⟩ := HG.out
          refine ⟨⟨j + 1, vb2, y, p, by omega, congrArg (Value.int .i64) (by omega), rfl, g3, g1, g2, hnn4, hbr4⟩, ?_⟩
          simp [RowKit.intOf]
          omega
        · by_cases hc3 : c = 10
          · subst hc3
            have U := fun w1 => unit_any 10 (by omega) w1
            have hus : (ByteArray.mk (unitS 10).toArray).size ≤ 4 := unitS_le 10
            generalize hUB : (ByteArray.mk (unitS 10).toArray) = UB at *
            have HUB : Hid ((ByteArray.mk (unitS 10).toArray) = UB) := hUB
            clear hUB
            go_wp2_with (first
              | (at_builtin; refine Lib.wpList_append_own_string _ rfl _ _ 33 9 rfl w.heap.size 5 i1 Tryz.underlying33 Tryz.underlying9 hi1 hy0 hy1 hy2 _ _ _ rfl hob3 UB rfl ?d1 ?d2 ?d3 ?_)
              | (go_at_call 17; refine (U _).mono ?_; rintro e w3 ⟨rfl, hb3⟩; have hob3 := owns_belowQ hob hb3; have hbr3 := hbr.trans (hb3.mono hbr.size))
              | fail)
            case d1 => unfold maxLen; omega
            case d2 => omega
            case d3 => exact hbr3.size
            intro vb2 w4 hob4 hg4 hnil4
            have hbr4 : Below w.heap.size w w4 := hbr3.grown hg4 hbr3.size (own_ge hob3)
            have hnn4 : vb2 ≠ .slice none 0 0 := by first | exact fun e => hnn (hnil4.1 e).1 | exact hnil4
            have HG : Hid (∃ y p, Qd y p ∧ y.length ≤ 2703 ∧ Bytes w4 w.heap.size vb2 y) := by
              have e := HUB.out
              subst e
              exact quo_grow HQ.out hx (by omega) hob4
            clear hob4 hg4 hnil4 hob3
            go_wp2
            obtain ⟨y, p, g1, g2, g3⟩ := HG.out
            refine ⟨⟨j + 1, vb2, y, p, by omega, congrArg (Value.int .i64) (by omega), rfl, g3, g1, g2, hnn4, hbr4⟩, ?_⟩
            simp [RowKit.intOf]
            omega
          · by_cases hc4 : c = 13
            · subst hc4
              have U := fun w1 => unit_any 13 (by omega) w1
              have hus : (ByteArray.mk (unitS 13).toArray).size ≤ 4 := unitS_le 13
              generalize hUB : (ByteArray.mk (unitS 13).toArray) = UB at *
              have HUB : Hid ((ByteArray.mk (unitS 13).toArray) = UB) := hUB
              clear hUB
              go_wp2_with (first
                | (at_builtin; refine Lib.wpList_append_own_string _ rfl _ _ 33 9 rfl w.heap.size 5 i1 Tryz.underlying33 Tryz.underlying9 hi1 hy0 hy1 hy2 _ _ _ rfl hob3 UB rfl ?d1 ?d2 ?d3 ?_)
                | (go_at_call 17; refine (U _).mono ?_; rintro e w3 ⟨rfl, hb3⟩; have hob3 := owns_belowQ hob hb3; have hbr3 := hbr.trans (hb3.mono hbr.size))
                | fail)
              case d1 => unfold maxLen; omega
              case d2 => omega
              case d3 => exact hbr3.size
              intro vb2 w4 hob4 hg4 hnil4
              have hbr4 : Below w.heap.size w w4 := hbr3.grown hg4 hbr3.size (own_ge hob3)
              have hnn4 : vb2 ≠ .slice none 0 0 := by first | exact fun e => hnn (hnil4.1 e).1 | exact hnil4
              have HG : Hid (∃ y p, Qd y p ∧ y.length ≤ 2703 ∧ Bytes w4 w.heap.size vb2 y) := by
                have e := HUB.out
                subst e
                exact quo_grow HQ.out hx (by omega) hob4
              clear hob4 hg4 hnil4 hob3
              go_wp2
              obtain ⟨y, p, g1, g2, g3⟩ := HG.out
              refine ⟨⟨j + 1, vb2, y, p, by omega, congrArg (Value.int .i64) (by omega), rfl, g3, g1, g2, hnn4, hbr4⟩, ?_⟩
              simp [RowKit.intOf]
              omega
            · have y9 : (c == 9) = false := by simpa using hc2
              have y10 : (c == 10) = false := by simpa using hc3
              have y13 : (c == 13) = false := by simpa using hc4
              by_cases hc5 : 32 ≤ c
              · have k2 : ¬ c ≤ 65535 := fun h => hc1 ⟨hc5, h⟩
                go_wp2
                refine ⟨⟨j + 1, _, x, q, by omega, congrArg (Value.int .i64) (by omega), rfl, hob, HQ.out, hle, hnn, hbr⟩, ?_⟩
                simp [RowKit.intOf]
                omega
              · have k1 : ¬ 32 ≤ c := hc5
                go_wp2
                refine ⟨⟨j + 1, _, x, q, by omega, congrArg (Value.int .i64) (by omega), rfl, hob, HQ.out, hle, hnn, hbr⟩, ?_⟩
                simp [RowKit.intOf]
                omega
    · have hlx := lexS_quo hqd hle
      have Q1 := fun w1 g => quote_any x (by omega) w1 g
      have T1 : ∀ w, Gl w → Calls Tryz.prog 10 #[.string ⟨(quoS x).toArray⟩] w (TokensP w (.inr [⟨4, x, 0, (quoS x).length⟩])) := fun w g => by
        have := tokens_any (quoS x) w g
        rw [hlx] at this
        exact this
      have hql : (ByteArray.mk (quoS x).toArray).size = (quoS x).length := rfl
      have hcv := conv_row hob
      have ok1 := ok.go hbr
      have HT : ∀ (W W' : World) (v : Value), Toks W' W.heap.size v [⟨4, x, 0, (quoS x).length⟩] → ∃ g c, v = .slice (some ⟨g, 0, none⟩) 1 c ∧ 1 ≤ c ∧ g < W'.heap.size ∧ W'.cell? ⟨g, 0, none⟩ = some (.int .i64 4) ∧ W'.cell? ⟨g, 1, none⟩ = some (.string ⟨x.toArray⟩) ∧ W'.cell? ⟨g, 2, none⟩ = some (.int .i64 0) ∧ W'.cell? ⟨g, 3, none⟩ = some (.int .i64 ((quoS x).length : Int)) := by
        intro W W' v ht
        obtain ⟨g, c, e, h1, _, h3, h4⟩ := toks_row ht (by simp)
        obtain ⟨q0, q1, q2, q3⟩ := h4 0 _ rfl
        exact ⟨g, c, e, h1, h3, q0, q1, q2, q3⟩
      have hor : ¬ (j : Int) < (len : Int) ∨ ((j : Int) < (len : Int) ∧ ¬ (x.length : Int) < 2700) := by omega
      have hCV : ∀ W', Below wr.heap.size wr W' → (convert 33 9 (.slice (some ⟨g9, 0, none⟩) x.length cap9)).run Tryz.prog W' = .ok (.string ⟨x.toArray⟩) W' := fun W' hb => conv_row (owns_belowQ hob hb)
      clear hlx hqd hgo
      generalize (quoS x).length = QLn at *
      generalize (ByteArray.mk (quoS x).toArray) = QB at *
      generalize (ByteArray.mk x.toArray) = XB at *
      rcases hor with hor | ⟨hor, hor2⟩
      all_goals
        go_wp2_with (first
          | (go_at_call 10; (with_reducible refine (T1 _ ok2.gl).mono ?_); rintro e w3 ⟨⟨v3, rfl, ht3⟩, hb3⟩; have ok3 := ok2.go hb3; obtain ⟨g3, c3, rfl, hc3, hg3, q0, q1, q2, q3⟩ := HT _ _ _ ht3; have hb13 := hb2.trans (hb3.mono hb2.size))
          | (go_at_call 15; (with_reducible refine (Q1 _ ok1.tz).mono ?_); rintro e w2 ⟨rfl, hb2⟩; have ok2 := ok1.go hb2)
          | fail)
      all_goals
        have hbD := hb13.trans ((below_dQ w3).mono hb13.size)
        have ok3d : Ok w w3.drew := ok3.go (below_dQ w3)
        have hS4 : w3.drew.cell? ⟨g3, 0, none⟩ = some (.int .i64 4) ∧ w3.drew.cell? ⟨g3, 1, none⟩ = some (.string XB) ∧ w3.drew.cell? ⟨g3, 2, none⟩ = some (.int .i64 0) ∧ w3.drew.cell? ⟨g3, 3, none⟩ = some (.int .i64 (QLn : Int)) ∧ (convert 33 9 (.slice (some ⟨g9, 0, none⟩) x.length cap9)).run Tryz.prog w3.drew = .ok (.string XB) w3.drew := ⟨q0, q1, q2, q3, hCV _ hbD⟩
        clear ht3 T1 Q1 HT hcv
        go_region_held3 (fun w' => w'.cell? ⟨g3, 0, none⟩ = some (.int .i64 4) ∧ w'.cell? ⟨g3, 1, none⟩ = some (.string XB) ∧ w'.cell? ⟨g3, 2, none⟩ = some (.int .i64 0) ∧ w'.cell? ⟨g3, 3, none⟩ = some (.int .i64 (QLn : Int)) ∧ (convert 33 9 (.slice (some ⟨g9, 0, none⟩) x.length cap9)).run Tryz.prog w' = .ok (.string XB) w') (first | with_reducible exact hS5 | with_reducible exact hS4 | go_keep) ((first
          | (go_at_call 12; refine (fixed_any _ (by with_reducible exact ok3d.gl) (by with_reducible exact ok3d.tz)).mono ?_; rintro e w5 ⟨rfl, hb5⟩; have ok5 := ok3d.go hb5; have hS5 : w5.cell? ⟨g3, 0, none⟩ = some (.int .i64 4) ∧ w5.cell? ⟨g3, 1, none⟩ = some (.string XB) ∧ w5.cell? ⟨g3, 2, none⟩ = some (.int .i64 0) ∧ w5.cell? ⟨g3, 3, none⟩ = some (.int .i64 (QLn : Int)) ∧ (convert 33 9 (.slice (some ⟨g9, 0, none⟩) x.length cap9)).run Tryz.prog w5 = .ok (.string XB) w5 := ⟨(hb5.cell (p := ⟨g3, 0, none⟩) hg3).trans hS4.1, (hb5.cell (p := ⟨g3, 1, none⟩) hg3).trans hS4.2.1, (hb5.cell (p := ⟨g3, 2, none⟩) hg3).trans hS4.2.2.1, (hb5.cell (p := ⟨g3, 3, none⟩) hg3).trans hS4.2.2.2.1, hCV _ (hbD.trans (hb5.mono hbD.size))⟩)
          | fail))
        all_goals
          go_wp2
          go_ret
          exact ⟨by first | rfl | simp, ok5.bel⟩
end Go.Proofs.YtebojfipdcicaaaGreatDoor
