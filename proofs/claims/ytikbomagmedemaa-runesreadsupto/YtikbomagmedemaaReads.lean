/- Which character begins at any place of any bytes, whether they are a text, and its characters, are as the document says: for every string and every int where what comes in is of bulk at most 1048576. -/
import Derived.Test.YtikbomagmedemaaRPoints
import Derived.ProofKit
import Derived.OpenShut
import Derived.ShutString
import Derived.ChangeOld
import Derived.JoinedCond
namespace Go.Proofs.Ytikbomagmedemaa
open Go.ChangeShapes Go.WideShapes Go.ChangeAt Go.RowKit
open Go.ChangeMaps (open_string shut_string)

theorem Try.own : ownKnob Try.prog.godebug = none := by kernel_rfl

theorem own_lt {w : World} {B e sz n : Nat} {v : Value} {xs : List Value} (h : w.ownsRow B e sz v n xs) : ∀ k, v.ownBlock = some k → k < w.heap.size := by
  intro k hk
  rcases h.2 with ⟨rfl, _⟩ | ⟨g, cap, cur, rfl, _, hh, _⟩
  · simp [Value.ownBlock] at hk
  · simp [Value.ownBlock] at hk
    rw [← hk]
    exact lt_of_block hh

/-- The program's Rune and the document's: one answer. -/
theorem runes_same (s : ByteArray) (k : Int) (hs : s.size ≤ 1048576) : ∃ c n : Int,
    (∀ w, Calls Try.prog 9 #[.string s, .int .i64 k] w fun e w' => e = .returned (.tuple #[.int .i64 c, .int .i64 n]) ∧ Below w.heap.size w w') ∧
    (∀ w, Calls Try.prog 10 #[.string s, .int .i64 k] w fun e w' => e = .returned (.tuple #[.int .i64 c, .int .i64 n]) ∧ Below w.heap.size w w') := by
  by_cases hk : 0 ≤ k ∧ k < s.size
  · obtain ⟨p, rfl⟩ : ∃ p : Nat, k = p := ⟨k.toNat, by omega⟩
    exact ⟨(runeS s p).1, (runeS s p).2, fun w => rune_in s p w (by omega) (by omega), fun w => rrune_in s p w (by omega) (by omega)⟩
  · exact ⟨0, 0, fun w => (rune_out s k w (by omega)).mono fun e w' ⟨h1, h2⟩ => ⟨h1, by rw [h2]; exact Below.refl _ _⟩, fun w => (rrune_out s k w (by omega)).mono fun e w' ⟨h1, h2⟩ => ⟨h1, by rw [h2]; exact Below.refl _ _⟩⟩

/-- The program's Points and the document's: one answer. -/
theorem points_same (s : ByteArray) (hs : s.size ≤ 1048576) : ∃ (b : Bool) (xs : List Int), xs.length ≤ 1048576 ∧
    (∀ w, Calls Try.prog 15 #[.string s] w fun e w' => ∃ v, e = .returned (.tuple #[v, .bool b]) ∧ w'.ownsRow w.heap.size 3 1 v xs.length (intsV xs) ∧ Below w.heap.size w w') ∧
    (∀ w, Calls Try.prog 14 #[.string s] w fun e w' => ∃ v, e = .returned (.tuple #[v, .bool b]) ∧ w'.ownsRow w.heap.size 3 1 v xs.length (intsV xs) ∧ Below w.heap.size w w') := by
  by_cases hv : validS s = true
  · refine ⟨true, pointsS s, ?_, fun w => points_yes s w (by omega) hv, fun w => (rpoints_any s w (by omega)).mono ?_⟩
    · have h : ∀ (n p : Nat) (a : List Int), s.size - p ≤ n → p ≤ s.size → a.length ≤ p → (walk s (pointsStep s) p a).length ≤ s.size := by
        intro n
        induction n with
        | zero => intro p a h1 h2 h3; rw [walk_end (by omega)]; omega
        | succ n ih =>
          intro p a h1 h2 h3
          by_cases hp : p < s.size
          · have hw := dec_w s p hp
            rw [points_step s p a hp]
            exact ih _ _ (by omega) (by omega) (by simp; omega)
          · rw [walk_end hp]; omega
      have := h s.size 0 [] (by omega) (by omega) (by simp)
      exact Nat.le_trans this hs
    · rintro e w' ⟨⟨_, v, h1, h2⟩ | ⟨h1, _⟩, h3⟩
      · exact ⟨v, h1, h2, h3⟩
      · rw [hv] at h1; exact absurd h1 (by decide)
  · have hv' : validS s = false := by simpa using hv
    refine ⟨false, [], by simp, fun w => (points_no s w (by omega) hv').mono ?_, fun w => (rpoints_any s w (by omega)).mono ?_⟩
    · rintro e w' ⟨h1, h2⟩
      exact ⟨_, h1, ⟨rfl, Or.inl ⟨rfl, rfl⟩⟩, h2⟩
    · rintro e w' ⟨⟨h1, _⟩ | ⟨_, h1⟩, h3⟩
      · rw [hv'] at h1; exact absurd h1 (by decide)
      · exact ⟨_, h1, ⟨rfl, Or.inl ⟨rfl, rfl⟩⟩, h3⟩

set_option maxHeartbeats 8000000 in
theorem reads_walk (s : ByteArray) (k : Int) (w : World) (hs : s.size ≤ 1048576) :
    Calls Try.prog 3 #[.string s, .int .i64 k] w fun e w' => e = .returned (.bool true) ∧ Below w.heap.size w w' := by
  have hb := Below.refl w.heap.size w
  obtain ⟨c, n, R1, R2⟩ := runes_same s k hs
  obtain ⟨b, xs, hxs, P1, P2⟩ := points_same s hs
  have V1 := fun w => valid_any s w (by omega)
  have V2 := fun w => rvalid_any s w (by omega)
  have hbb : (b != b) = false := by simp
  have hvv : (validS s != validS s) = false := by simp
  go_enter Try.func3, Try.ntmps3
  go_wp2_with (first
    | (go_at_call 11; refine (fixed_any _).mono ?_; rintro e w1 ⟨rfl, hb1⟩; have hb := hb.trans (hb1.mono hb.size); clear hb1)
    | (go_at_call 9; with_reducible refine (R1 _).mono ?_; rintro e w1 ⟨rfl, hb1⟩; have hb := hb.trans (hb1.mono hb.size); clear hb1)
    | (go_at_call 10; with_reducible refine (R2 _).mono ?_; rintro e w1 ⟨rfl, hb1⟩; have hb := hb.trans (hb1.mono hb.size); clear hb1)
    | (go_at_call 12; with_reducible refine (V1 _).mono ?_; rintro e w1 ⟨rfl, hb1⟩; have hb := hb.trans (hb1.mono hb.size); clear hb1)
    | (go_at_call 13; with_reducible refine (V2 _).mono ?_; rintro e w1 ⟨rfl, hb1⟩; have hb := hb.trans (hb1.mono hb.size); clear hb1)
    | (go_at_call 14; with_reducible refine (P2 _).mono ?_; rintro e w5 ⟨vk, rfl, hk, hb1⟩; have hk := owns_base hk hb.size; have hb := hb.trans (hb1.mono hb.size); clear hb1))
  go_loopw [11] (fun t wr => ∃ j : Nat, j ≤ 2 ∧ t = .int .i64 j ∧ wr.ownsRow w.heap.size 3 1 vk xs.length (intsV xs) ∧ Below w.heap.size w wr) (fun t _ => 2 - (intOf t).toNat)
  case atStart => exact ⟨0, Nat.zero_le _, rfl, hk, hb⟩
  case round =>
    obtain ⟨j, hj, rfl, hkr, hbr⟩ := hrel
    clear hk hb
    by_cases hlt : j < 2
    · have hlt' : (j : Int) < 2 := by omega
      have hlt9 := own_lt hkr
      go_wp2_with (first
        | (go_at_call 15; with_reducible refine (P1 _).mono ?_; rintro e w6 ⟨vl, rfl, hl, hb6⟩; have hk6 := owns_below hkr hb6; have hbr6 := hbr.trans (hb6.mono hbr.size))
        | (go_at_call 16; refine (same_yes _ _ _ _ (rowIs_of hl) (rowIs_of hk6)).mono ?_; rintro e w7 ⟨rfl, hb7⟩; have hk7 := owns_below hk6 hb7; have hl7 := owns_below hl hb7; have hbr7 := hbr6.trans (hb7.mono hbr6.size)))
      rcases hl7.2 with ⟨rfl, h0⟩ | ⟨gl, cap, cur, rfl, hgl, hh, hn, hcm, hcs, _⟩
      · go_loopw [14] (fun i wr => i = .int .i64 0 ∧ wr.ownsRow w.heap.size 3 1 vk xs.length (intsV xs) ∧ Below w.heap.size w wr) (fun _ _ => 0)
        case atStart => exact ⟨rfl, hk7, hbr7⟩
        case round =>
          obtain ⟨rfl, hkq, hbq⟩ := hrel
          go_wp2
          go_roundw
          case rel => exact ⟨j + 1, by omega, by go_num, hkq, hbq⟩
          case measure => simp [intOf]; omega
      · go_loopw [14] (fun i wr => ∃ (q : Nat) (cu : Array Value), q ≤ xs.length ∧ i = .int .i64 q ∧ wr.heap[gl]? = some (.cells cu 3 (0, 0)) ∧ cu.size = cap ∧ wr.ownsRow w.heap.size 3 1 vk xs.length (intsV xs) ∧ Below w.heap.size w wr) (fun i _ => xs.length - (intOf i).toNat)
        case atStart => exact ⟨0, cur, Nat.zero_le _, rfl, hh, by omega, hk7, hbr7⟩
        case round =>
          obtain ⟨q, cu, hq, rfl, hcu, hcz, hkq, hbq⟩ := hrel
          by_cases hlq : q < xs.length
          · have hlq' : (q : Int) < xs.length := by omega
            obtain ⟨old, cq⟩ : ∃ old, wr.cell? ⟨gl, q, none⟩ = some old := by
              refine ⟨cu[q]'(by omega), ?_⟩
              unfold World.cell?
              rw [hcu]
              show cu[q]? = _
              rw [Array.getElem?_eq_getElem (by omega)]
            have fq : wr.frozen? ⟨gl, q, none⟩ = false := by simp [World.frozen?, hcu]
            obtain ⟨cu2, hcu2, hcz2⟩ := row_setCell hcu q (.int .i64 (-1))
            have hkq2 : (wr.setCell ⟨gl, q, none⟩ (.int .i64 (-1))).ownsRow w.heap.size 3 1 vk xs.length (intsV xs) := by
              refine ownsRow_setCell_other hkq ?_ _
              intro e1
              have := hlt9 gl e1
              omega
            have hbq2 : Below w.heap.size w (wr.setCell ⟨gl, q, none⟩ (.int .i64 (-1))) := hbq.setCell (p := ⟨gl, q, none⟩) (by have := hbr.size; show w.heap.size ≤ gl; omega) _
            have hcz3 : cu2.size = cap := by omega
            clear hcu hcz hkq hcz2
            go_wp2
            go_roundw
            case rel => exact ⟨q + 1, cu2, by omega, by go_num, hcu2, hcz3, hkq2, hbq2⟩
            case measure => simp [intOf]; omega
          · go_wp2
            go_roundw
            case rel => exact ⟨j + 1, by omega, by go_num, hkq, hbq⟩
            case measure => simp [intOf]; omega
    · have hlt' : ¬ (j : Int) < 2 := by omega
      go_wp2
      go_ret
      exact ⟨rfl, hbr⟩

set_option maxRecDepth 100000 in
theorem runesReads_lifted (os : Os) (started : os.Started) (H : Type) (enc : TypeId × Value → H) (F : Stop.Interp) :
    ReturnsInHanded {} Try.checked os 3 .any ((Rows.OpenSpec.upto Rows.runesReadsSpec).pre6 enc Try.prog Try.f3 Rows.runesReadsUptoRow.domain false) (((Rows.OpenSpec.upto Rows.runesReadsSpec).at F).post enc Try.prog Try.f3 false true false false) := by
  refine returnsInHanded_of_cond (C := Try.checked) (s := Rows.OpenSpec.upto Rows.runesReadsSpec) (k := Rows.uptoSmall) rfl Try.own started (by kernel_rfl) Try.func3
    (OpenSpec.witness (enc := enc) (C := Try.checked) (s := Rows.OpenSpec.upto Rows.runesReadsSpec) (k := Rows.uptoSmall) rfl false ⟨#[], #[.string ByteArray.empty, .int .i64 0], []⟩ 8 (by kernel_rfl) (by kernel_rfl) (by kernel_rfl)
      (x := ([.lit (.string []), .lit (.int .i64 0)], [], [])) (by kernel_rfl) rfl (by kernel_rfl)) ?_
  intro W base args ds gs before hval0 hW _ hk _
  have hval : ∀ (j : Nat) t v, Try.f3.params[j]? = some t → args[j]? = some v → Value.okWide Try.prog W .any base t v := hval0
  have hW' := hW
  obtain ⟨p, q, hA0, hV, rfl, hfz, hnd⟩ := hW
  have hA : DataW.TrodAll enc Try.prog W 0 (fun _ => true) true Try.f3.params.toList args.toList ds p := hA0
  rw [Try.params3] at hA hval
  obtain ⟨v0, vs0, d0, ds0, p0, q0, hargs, rfl, rfl, h0, r0⟩ := trodAll_cons hA
  obtain ⟨v1, vs1, d1, ds1, p1, q1, rfl, rfl, rfl, h1, r1⟩ := trodAll_cons r0
  obtain ⟨rfl, rfl, rfl⟩ := trodAll_nil r1
  obtain rfl : args = #[v0, v1] := by cases args; simp_all
  obtain ⟨rfl, rfl⟩ := trodVars_none hV
  obtain ⟨a0, rfl, rfl, rfl, w0⟩ := open_string Try.underlying9 (hval 0 9 v0 rfl rfl) h0
  obtain ⟨a1, rfl, rfl, rfl, w1⟩ := open_int Try.underlying3 (hval 1 3 v1 rfl rfl) h1
  simp only [List.append_nil] at hk
  have hk2 : Rows.uptoBulkAll ([DataW.lit (H := H) (.string a0.data.toList), DataW.lit (H := H) (.int .i64 a1)]) ≤ 1048576 := of_decide_eq_true hk
  simp only [Rows.uptoBulkAll, Rows.uptoBulk] at hk2
  have b0 : a0.size ≤ 1048576 := by
    have e : a0.data.toList.length = a0.size := by rw [Array.length_toList]; rfl
    omega
  clear hA0 hval0 hk hk2
  refine (reads_walk a0 a1 W b0).mono fun e W' ⟨he, bel⟩ => ?_
  subst he
  exact ⟨_, rfl, _, _, _, [], _, [], hW', trodAll_mk1 (shut_bool Try.underlying4 _), (trodAll_cons_mk (shut_string Try.underlying9 w0) (trodAll_cons_mk (shut_int Try.underlying3 w1) trodAll_mk0)), rfl, bel.frame _, fun h => by cases h⟩

theorem runesReads_holds : Rows.RunesReadsUptoSaid :=
  OpenClaim.holds_of_cond 3 Try.f3 rfl rfl rfl rfl rfl rfl rfl ⟨rfl, rfl, rfl, rfl, rfl⟩ rfl rfl rfl rfl rfl (by kernel_rfl) Try.func3 (by kernel_rfl)
    (of_decide_eq_true (by kernel_rfl)) (by unfold Func.isWrapper; first | (rw [if_pos (by decide +kernel)]; kernel_rfl) | (rw [if_neg (by decide +kernel)]; exact ⟨rfl, rfl⟩))
    (fun os started H enc _ F => runesReads_lifted os started H enc F)
#print axioms runesReads_holds

end Go.Proofs.Ytikbomagmedemaa
