/- Two keys compared, by the document: the walk. -/
import Derived.Test.YtghneolphdfdlaaDoorQCmp
namespace Go.Proofs.YtghneolphdfdlaaDoor
open Go Go.RowKit

set_option maxRecDepth 100000 in
set_option maxHeartbeats 2000000 in
theorem qcmp_some (a a' : Option Addr) (cap cap' : Nat) (ps qs : List Pt) (w : World) (hp : PartsAt w (.slice a ps.length cap) ps) (hq : PartsAt w (.slice a' qs.length cap') qs) (hl : ps.length ≤ 16) (_hl2 : qs.length ≤ 16) (mp : ps.all mayB = true) (mq : qs.all mayB = true) (wp : Words ps) (wq : Words qs) :
    Calls Tryd.prog 20 #[.slice a ps.length cap, .slice a' qs.length cap'] w fun e w' => e = .returned (.int .i64 (cmpL ps qs)) ∧ Below w.heap.size w w' := by
  obtain ⟨_, _, e1, hcap, hca⟩ := hp
  obtain ⟨_, _, e2, hcap', hcb⟩ := hq
  cases e1
  cases e2
  go_enter Tryd.func20, Tryd.ntmps20
  go_wp2
  go_loopw [5] (fun i wr => ∃ j : Nat, j ≤ ps.length ∧ j ≤ qs.length ∧ i = .int .i64 j ∧ cmpL (ps.drop j) (qs.drop j) = cmpL ps qs ∧ Below w.heap.size w wr) (fun i _ => ps.length - (intOf i).toNat)
  case atStart => exact ⟨0, Nat.zero_le _, Nat.zero_le _, rfl, rfl, Below.refl _ _⟩
  case round =>
    obtain ⟨j, hj, hj', rfl, hc, hbr⟩ := hrel
    have HC : Hid (cmpL (ps.drop j) (qs.drop j) = cmpL ps qs) := hc
    clear hc
    have hz := hbr.size
    by_cases hlt : j < ps.length
    · by_cases hlt' : j < qs.length
      · obtain ⟨b, o, rfl, hblt, hca⟩ := hca (by intro e; rw [e] at hlt; simp at hlt)
        obtain ⟨b2, o2, rfl, hblt2, hcb⟩ := hcb (by intro e; rw [e] at hlt'; simp at hlt')
        obtain ⟨h0, h1, h2, h3⟩ := hca j ps[j] (List.getElem?_eq_getElem hlt)
        obtain ⟨g0, g1, g2, g3⟩ := hcb j qs[j] (List.getElem?_eq_getElem hlt')
        have HD := cmpL_at hlt hlt' (by rw [List.all_eq_true] at mp; exact mp _ (List.getElem_mem hlt)) (by rw [List.all_eq_true] at mq; exact mq _ (List.getElem_mem hlt')) (wp _ (List.getElem_mem hlt)) (wq _ (List.getElem_mem hlt'))
        have hwb := wp ps[j] (List.getElem_mem hlt)
        have hwb' := wq qs[j] (List.getElem_mem hlt')
        rw [HC.out] at HD
        clear hca hcb mp mq wp wq HC
        generalize ps[j] = p at *
        generalize qs[j] = q at *
        obtain ⟨k, i, b', t⟩ := p
        obtain ⟨k', i', b'', t'⟩ := q
        obtain ⟨hc', _⟩ := bcell hbr
        simp only at h0 h1 h2 h3 g0 g1 g2 g3 hwb hwb'
        rw [← hc' b _ hblt] at h0 h1 h2 h3
        rw [← hc' b2 _ hblt2] at g0 g1 g2 g3
        clear hc'
        have CI := fun w => qsign_int k k' w
        by_cases hk : k = k'
        · subst hk
          rw [sgnI_self] at CI
          have x : decide (k < k) = false := by simp
          rw [x] at CI
          clear x
          by_cases k0 : k = 0
          · subst k0
            have C2 := fun w => qsign_int i i' w
            have e : cmpP ⟨0, i, b', t⟩ ⟨0, i', b'', t'⟩ = sgnI i i' := rfl
            rw [e] at HD
            clear e
            generalize sgnI i i' = r at *
            by_cases hr : r = 0
            · rw [if_pos hr] at HD
              subst hr
              have HR : Hid (cmpL (ps.drop (j + 1)) (qs.drop (j + 1)) = cmpL ps qs) := HD.symm
              clear HD
              have x0 := World.new_ne wr _ h0
              have x1 := World.new_ne wr _ h1
              have x2 := World.new_ne wr _ h2
              have x3 := World.new_ne wr _ h3
              have y0 := World.new_ne wr _ g0
              have y1 := World.new_ne wr _ g1
              have y2 := World.new_ne wr _ g2
              have y3 := World.new_ne wr _ g3
              go_wp2
              go_region_held3 (fun w' => w'.cell? ⟨b, o + j * 4, none⟩ = some (.int .i64 0) ∧ w'.cell? ⟨b, o + j * 4 + 1, none⟩ = some (.int .i64 i) ∧ w'.cell? ⟨b, o + j * 4 + 2, none⟩ = some (.int .u64 (b' : Int)) ∧ w'.cell? ⟨b, o + j * 4 + 3, none⟩ = some (.string t) ∧ w'.cell? ⟨b2, o2 + j * 4, none⟩ = some (.int .i64 0) ∧ w'.cell? ⟨b2, o2 + j * 4 + 1, none⟩ = some (.int .i64 i') ∧ w'.cell? ⟨b2, o2 + j * 4 + 2, none⟩ = some (.int .u64 (b'' : Int)) ∧ w'.cell? ⟨b2, o2 + j * 4 + 3, none⟩ = some (.string t')) (go_keep) (fail)
              all_goals
                go_wp2_with (go_at_call 29; (first | with_reducible refine (CI _).mono ?_ | with_reducible refine (C2 _).mono ?_); rintro e w1 ⟨rfl, rfl⟩)
                go_roundw
                case rel => exact ⟨j + 1, by omega, by omega, by go_num, HR.out, ((hbr.alloc hz _).alloc (by simp; omega) _).trans ⟨rfl, rfl, rfl, Nat.le_refl _, fun _ _ => rfl⟩⟩
                case measure => simp [intOf]; omega
            · rw [if_neg hr] at HD
              have HR : Hid (cmpL ps qs = r) := HD
              clear HD
              have x0 := World.new_ne wr _ h0
              have x1 := World.new_ne wr _ h1
              have x2 := World.new_ne wr _ h2
              have x3 := World.new_ne wr _ h3
              have y0 := World.new_ne wr _ g0
              have y1 := World.new_ne wr _ g1
              have y2 := World.new_ne wr _ g2
              have y3 := World.new_ne wr _ g3
              go_wp2
              go_region_held3 (fun w' => w'.cell? ⟨b, o + j * 4, none⟩ = some (.int .i64 0) ∧ w'.cell? ⟨b, o + j * 4 + 1, none⟩ = some (.int .i64 i) ∧ w'.cell? ⟨b, o + j * 4 + 2, none⟩ = some (.int .u64 (b' : Int)) ∧ w'.cell? ⟨b, o + j * 4 + 3, none⟩ = some (.string t) ∧ w'.cell? ⟨b2, o2 + j * 4, none⟩ = some (.int .i64 0) ∧ w'.cell? ⟨b2, o2 + j * 4 + 1, none⟩ = some (.int .i64 i') ∧ w'.cell? ⟨b2, o2 + j * 4 + 2, none⟩ = some (.int .u64 (b'' : Int)) ∧ w'.cell? ⟨b2, o2 + j * 4 + 3, none⟩ = some (.string t')) (go_keep) (fail)
              all_goals
                go_wp2_with (go_at_call 29; (first | with_reducible refine (CI _).mono ?_ | with_reducible refine (C2 _).mono ?_); rintro e w1 ⟨rfl, rfl⟩)
                go_ret
                exact ⟨by rw [HR.out]; rfl, ((hbr.alloc hz _).alloc (by simp; omega) _).trans ⟨rfl, rfl, rfl, Nat.le_refl _, fun _ _ => rfl⟩⟩
          · by_cases k1 : k = 1
            · subst k1
              have C2 := fun w => rcmp_any b' b'' w hwb hwb'
              have e : cmpP ⟨1, i, b', t⟩ ⟨1, i', b'', t'⟩ = cmpI b' b'' := rfl
              rw [e] at HD
              clear e
              generalize cmpI b' b'' = r at *
              generalize cmpB b' b'' = rb at *
              by_cases hr : r = 0
              · rw [if_pos hr] at HD
                subst hr
                have HR : Hid (cmpL (ps.drop (j + 1)) (qs.drop (j + 1)) = cmpL ps qs) := HD.symm
                clear HD
                have x0 := World.new_ne wr _ h0
                have x1 := World.new_ne wr _ h1
                have x2 := World.new_ne wr _ h2
                have x3 := World.new_ne wr _ h3
                have y0 := World.new_ne wr _ g0
                have y1 := World.new_ne wr _ g1
                have y2 := World.new_ne wr _ g2
                have y3 := World.new_ne wr _ g3
                go_wp2
                go_region_held3 (fun w' => w'.cell? ⟨b, o + j * 4, none⟩ = some (.int .i64 1) ∧ w'.cell? ⟨b, o + j * 4 + 1, none⟩ = some (.int .i64 i) ∧ w'.cell? ⟨b, o + j * 4 + 2, none⟩ = some (.int .u64 (b' : Int)) ∧ w'.cell? ⟨b, o + j * 4 + 3, none⟩ = some (.string t) ∧ w'.cell? ⟨b2, o2 + j * 4, none⟩ = some (.int .i64 1) ∧ w'.cell? ⟨b2, o2 + j * 4 + 1, none⟩ = some (.int .i64 i') ∧ w'.cell? ⟨b2, o2 + j * 4 + 2, none⟩ = some (.int .u64 (b'' : Int)) ∧ w'.cell? ⟨b2, o2 + j * 4 + 3, none⟩ = some (.string t')) (go_keep) (fail)
                all_goals
                  go_wp2_with (first
                    | (go_at_call 29; with_reducible refine (CI _).mono ?_; rintro e w1 ⟨rfl, rfl⟩)
                    | (go_at_call 30; with_reducible refine (C2 _).mono ?_; rintro e w1 ⟨rfl, rfl⟩))
                  go_roundw
                  case rel => exact ⟨j + 1, by omega, by omega, by go_num, HR.out, ((hbr.alloc hz _).alloc (by simp; omega) _).trans ⟨rfl, rfl, rfl, Nat.le_refl _, fun _ _ => rfl⟩⟩
                  case measure => simp [intOf]; omega
              · rw [if_neg hr] at HD
                have HR : Hid (cmpL ps qs = r) := HD
                clear HD
                have x0 := World.new_ne wr _ h0
                have x1 := World.new_ne wr _ h1
                have x2 := World.new_ne wr _ h2
                have x3 := World.new_ne wr _ h3
                have y0 := World.new_ne wr _ g0
                have y1 := World.new_ne wr _ g1
                have y2 := World.new_ne wr _ g2
                have y3 := World.new_ne wr _ g3
                go_wp2
                go_region_held3 (fun w' => w'.cell? ⟨b, o + j * 4, none⟩ = some (.int .i64 1) ∧ w'.cell? ⟨b, o + j * 4 + 1, none⟩ = some (.int .i64 i) ∧ w'.cell? ⟨b, o + j * 4 + 2, none⟩ = some (.int .u64 (b' : Int)) ∧ w'.cell? ⟨b, o + j * 4 + 3, none⟩ = some (.string t) ∧ w'.cell? ⟨b2, o2 + j * 4, none⟩ = some (.int .i64 1) ∧ w'.cell? ⟨b2, o2 + j * 4 + 1, none⟩ = some (.int .i64 i') ∧ w'.cell? ⟨b2, o2 + j * 4 + 2, none⟩ = some (.int .u64 (b'' : Int)) ∧ w'.cell? ⟨b2, o2 + j * 4 + 3, none⟩ = some (.string t')) (go_keep) (fail)
                all_goals
                  go_wp2_with (first
                    | (go_at_call 29; with_reducible refine (CI _).mono ?_; rintro e w1 ⟨rfl, rfl⟩)
                    | (go_at_call 30; with_reducible refine (C2 _).mono ?_; rintro e w1 ⟨rfl, rfl⟩))
                  go_ret
                  exact ⟨by rw [HR.out]; rfl, ((hbr.alloc hz _).alloc (by simp; omega) _).trans ⟨rfl, rfl, rfl, Nat.le_refl _, fun _ _ => rfl⟩⟩
            · have e : cmpP ⟨k, i, b', t⟩ ⟨k, i', b'', t'⟩ = strI t t' := by unfold cmpP; rw [if_pos rfl, if_neg k0, if_neg k1]
              rw [e] at HD
              clear e
              cases l1 : Op.bytesLess t.toList t'.toList
              · by_cases l2 : t.toList = t'.toList
                · have e0 : strI t t' = 0 := by unfold strI; rw [l1, if_neg (by decide), if_pos l2]
                  rw [e0, if_pos rfl] at HD
                  clear e0
                  obtain rfl := bytes_ext l2
                  clear l2
                  have HR : Hid (cmpL (ps.drop (j + 1)) (qs.drop (j + 1)) = cmpL ps qs) := HD.symm
                  have C2 := CI
                  clear HD
                  have x0 := World.new_ne wr _ h0
                  have x1 := World.new_ne wr _ h1
                  have x2 := World.new_ne wr _ h2
                  have x3 := World.new_ne wr _ h3
                  have y0 := World.new_ne wr _ g0
                  have y1 := World.new_ne wr _ g1
                  have y2 := World.new_ne wr _ g2
                  have y3 := World.new_ne wr _ g3
                  go_wp2
                  go_region_held3 (fun w' => w'.cell? ⟨b, o + j * 4, none⟩ = some (.int .i64 k) ∧ w'.cell? ⟨b, o + j * 4 + 1, none⟩ = some (.int .i64 i) ∧ w'.cell? ⟨b, o + j * 4 + 2, none⟩ = some (.int .u64 (b' : Int)) ∧ w'.cell? ⟨b, o + j * 4 + 3, none⟩ = some (.string t) ∧ w'.cell? ⟨b2, o2 + j * 4, none⟩ = some (.int .i64 k) ∧ w'.cell? ⟨b2, o2 + j * 4 + 1, none⟩ = some (.int .i64 i') ∧ w'.cell? ⟨b2, o2 + j * 4 + 2, none⟩ = some (.int .u64 (b'' : Int)) ∧ w'.cell? ⟨b2, o2 + j * 4 + 3, none⟩ = some (.string t)) (go_keep) (fail)
                  all_goals
                    go_wp2_with (go_at_call 29; (first | with_reducible refine (CI _).mono ?_ | with_reducible refine (C2 _).mono ?_); rintro e w1 ⟨rfl, rfl⟩)
                    go_roundw
                    case rel => exact ⟨j + 1, by omega, by omega, by go_num, HR.out, ((hbr.alloc hz _).alloc (by simp; omega) _).trans ⟨rfl, rfl, rfl, Nat.le_refl _, fun _ _ => rfl⟩⟩
                    case measure => simp [intOf]; omega
                · have e0 : strI t t' = 1 := by unfold strI; rw [l1, if_neg (by decide), if_neg l2]
                  rw [e0, if_neg (by decide)] at HD
                  clear e0
                  have HR : Hid (cmpL ps qs = 1) := HD
                  have l3 : (!t.toList == t'.toList) = true := by simp [l2]
                  have C2 := fun w => qsign_any false true w
                  simp only [Bool.false_eq_true, if_false, if_true] at C2
                  clear HD l2
                  have x0 := World.new_ne wr _ h0
                  have x1 := World.new_ne wr _ h1
                  have x2 := World.new_ne wr _ h2
                  have x3 := World.new_ne wr _ h3
                  have y0 := World.new_ne wr _ g0
                  have y1 := World.new_ne wr _ g1
                  have y2 := World.new_ne wr _ g2
                  have y3 := World.new_ne wr _ g3
                  go_wp2
                  go_region_held3 (fun w' => w'.cell? ⟨b, o + j * 4, none⟩ = some (.int .i64 k) ∧ w'.cell? ⟨b, o + j * 4 + 1, none⟩ = some (.int .i64 i) ∧ w'.cell? ⟨b, o + j * 4 + 2, none⟩ = some (.int .u64 (b' : Int)) ∧ w'.cell? ⟨b, o + j * 4 + 3, none⟩ = some (.string t) ∧ w'.cell? ⟨b2, o2 + j * 4, none⟩ = some (.int .i64 k) ∧ w'.cell? ⟨b2, o2 + j * 4 + 1, none⟩ = some (.int .i64 i') ∧ w'.cell? ⟨b2, o2 + j * 4 + 2, none⟩ = some (.int .u64 (b'' : Int)) ∧ w'.cell? ⟨b2, o2 + j * 4 + 3, none⟩ = some (.string t')) (go_keep) (fail)
                  all_goals
                    go_wp2_with (go_at_call 29; (first | with_reducible refine (CI _).mono ?_ | with_reducible refine (C2 _).mono ?_); rintro e w1 ⟨rfl, rfl⟩)
                    go_ret
                    exact ⟨by rw [HR.out]; rfl, ((hbr.alloc hz _).alloc (by simp; omega) _).trans ⟨rfl, rfl, rfl, Nat.le_refl _, fun _ _ => rfl⟩⟩
              · have e0 : strI t t' = -1 := by unfold strI; rw [l1, if_pos rfl]
                rw [e0, if_neg (by decide)] at HD
                clear e0
                have HR : Hid (cmpL ps qs = -1) := HD
                have C2 := fun w => qsign_any true false w
                simp only [if_true] at C2
                clear HD
                have x0 := World.new_ne wr _ h0
                have x1 := World.new_ne wr _ h1
                have x2 := World.new_ne wr _ h2
                have x3 := World.new_ne wr _ h3
                have y0 := World.new_ne wr _ g0
                have y1 := World.new_ne wr _ g1
                have y2 := World.new_ne wr _ g2
                have y3 := World.new_ne wr _ g3
                go_wp2
                go_region_held3 (fun w' => w'.cell? ⟨b, o + j * 4, none⟩ = some (.int .i64 k) ∧ w'.cell? ⟨b, o + j * 4 + 1, none⟩ = some (.int .i64 i) ∧ w'.cell? ⟨b, o + j * 4 + 2, none⟩ = some (.int .u64 (b' : Int)) ∧ w'.cell? ⟨b, o + j * 4 + 3, none⟩ = some (.string t) ∧ w'.cell? ⟨b2, o2 + j * 4, none⟩ = some (.int .i64 k) ∧ w'.cell? ⟨b2, o2 + j * 4 + 1, none⟩ = some (.int .i64 i') ∧ w'.cell? ⟨b2, o2 + j * 4 + 2, none⟩ = some (.int .u64 (b'' : Int)) ∧ w'.cell? ⟨b2, o2 + j * 4 + 3, none⟩ = some (.string t')) (go_keep) (fail)
                all_goals
                  go_wp2_with (go_at_call 29; (first | with_reducible refine (CI _).mono ?_ | with_reducible refine (C2 _).mono ?_); rintro e w1 ⟨rfl, rfl⟩)
                  go_ret
                  exact ⟨by rw [HR.out]; rfl, ((hbr.alloc hz _).alloc (by simp; omega) _).trans ⟨rfl, rfl, rfl, Nat.le_refl _, fun _ _ => rfl⟩⟩
        · have e : cmpP ⟨k, i, b', t⟩ ⟨k', i', b'', t'⟩ = sgnI k k' := if_neg hk
          have hr : ¬ sgnI k k' = 0 := fun h => hk (sgnI_zero h)
          rw [e, if_neg hr] at HD
          clear e
          generalize sgnI k k' = r at *
          have HR : Hid (cmpL ps qs = r) := HD
          clear HD
          have x0 := World.new_ne wr _ h0
          have x1 := World.new_ne wr _ h1
          have x2 := World.new_ne wr _ h2
          have x3 := World.new_ne wr _ h3
          have y0 := World.new_ne wr _ g0
          have y1 := World.new_ne wr _ g1
          have y2 := World.new_ne wr _ g2
          have y3 := World.new_ne wr _ g3
          go_wp2
          go_region_held3 (fun w' => w'.cell? ⟨b, o + j * 4, none⟩ = some (.int .i64 k) ∧ w'.cell? ⟨b, o + j * 4 + 1, none⟩ = some (.int .i64 i) ∧ w'.cell? ⟨b, o + j * 4 + 2, none⟩ = some (.int .u64 (b' : Int)) ∧ w'.cell? ⟨b, o + j * 4 + 3, none⟩ = some (.string t) ∧ w'.cell? ⟨b2, o2 + j * 4, none⟩ = some (.int .i64 k') ∧ w'.cell? ⟨b2, o2 + j * 4 + 1, none⟩ = some (.int .i64 i') ∧ w'.cell? ⟨b2, o2 + j * 4 + 2, none⟩ = some (.int .u64 (b'' : Int)) ∧ w'.cell? ⟨b2, o2 + j * 4 + 3, none⟩ = some (.string t')) (go_keep) (fail)
          all_goals
            go_wp2_with (first
              | (go_at_call 29; with_reducible refine (CI _).mono ?_; rintro e w1 ⟨rfl, rfl⟩))
            go_ret
            exact ⟨by rw [HR.out]; rfl, ((hbr.alloc hz _).alloc (by simp; omega) _).trans ⟨rfl, rfl, rfl, Nat.le_refl _, fun _ _ => rfl⟩⟩
      · have HE : Hid (cmpL ps qs = 1) := by
          have := HC.out.symm.trans (cmpL_end (by omega) hj hj')
          unfold sgnI at this
          rw [if_neg (by omega), if_pos (by omega)] at this
          exact this
        have hn1 : ¬ (ps.length : Int) < qs.length := by omega
        have hn2 : (qs.length : Int) < ps.length := by omega
        have C1 := fun w => qsign_any false true w
        simp only [Bool.false_eq_true, if_false, if_true] at C1
        go_wp2_with (go_at_call 29; with_reducible refine (C1 _).mono ?_; rintro e w1 ⟨rfl, rfl⟩)
        go_ret
        exact ⟨by rw [HE.out]; rfl, hbr⟩
    · by_cases hlt' : j < qs.length
      · have HE : Hid (cmpL ps qs = -1) := by
          have := HC.out.symm.trans (cmpL_end (by omega) hj hj')
          unfold sgnI at this
          rw [if_pos (by omega)] at this
          exact this
        have hn1 : (ps.length : Int) < qs.length := by omega
        have hn2 : ¬ (qs.length : Int) < ps.length := by omega
        have C1 := fun w => qsign_any true false w
        simp only [if_true] at C1
        go_wp2_with (go_at_call 29; with_reducible refine (C1 _).mono ?_; rintro e w1 ⟨rfl, rfl⟩)
        go_ret
        exact ⟨by rw [HE.out]; rfl, hbr⟩
      · have HE : Hid (cmpL ps qs = 0) := by
          have := HC.out.symm.trans (cmpL_end (by omega) hj hj')
          unfold sgnI at this
          rw [if_neg (by omega), if_neg (by omega)] at this
          exact this
        have hn1 : ¬ (ps.length : Int) < qs.length := by omega
        have hn2 : ¬ (qs.length : Int) < ps.length := by omega
        have C1 := fun w => qsign_any false false w
        simp only [Bool.false_eq_true, if_false] at C1
        go_wp2_with (go_at_call 29; with_reducible refine (C1 _).mono ?_; rintro e w1 ⟨rfl, rfl⟩)
        go_ret
        exact ⟨by rw [HE.out]; rfl, hbr⟩
end Go.Proofs.YtghneolphdfdlaaDoor
