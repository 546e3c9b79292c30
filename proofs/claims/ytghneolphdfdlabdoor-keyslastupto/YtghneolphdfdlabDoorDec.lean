/- A key read from its bytes. -/
import Derived.Test.YtghneolphdfdlabDoorCutP3
namespace Go.Proofs.YtghneolphdfdlabDoor
open Go Go.RowKit

theorem Tryd.infoPart : (Tryd.prog.info? 29).map (fun i => (i.zero, i.size, i.bytes)) = some (some (.agg #[.int .i64 0, .int .i64 0, .int .u64 0, .string ⟨#[]⟩]), 4, 40) := by kernel_rfl

def decF : Nat → List UInt8 → List Pt → Option (List Pt)
  | _, [], acc => some acc
  | 0, _ :: _, _ => none
  | n + 1, c :: l, acc => match decP (c :: l) with
    | none => none
    | some x => if mayB x.1 && decide (acc.length ≠ 16) then decF n x.2 (acc ++ [x.1]) else none
/-- The parts of bytes. -/
def decL (l : List UInt8) : Option (List Pt) := decF l.length l []

theorem cutT_len : ∀ (l : List UInt8) (x : List UInt8 × List UInt8), cutT l = some x → x.1.length + x.2.length + 2 ≤ l.length
  | [], x, h => by simp [cutT] at h
  | [c], x, h => by unfold cutT at h; split at h <;> cases h
  | c :: d :: r, x, h => by
    unfold cutT at h
    by_cases hc : c = 0
    · rw [if_pos hc] at h
      by_cases hd : d = 0
      · rw [if_pos hd] at h
        cases h
        simp
      · rw [if_neg hd] at h
        by_cases hd2 : d = 255
        · rw [if_pos hd2] at h
          cases hr : cutT r with
          | none => rw [hr] at h; cases h
          | some y =>
            rw [hr] at h
            cases h
            have := cutT_len r y hr
            simp
            omega
        · rw [if_neg hd2] at h; cases h
    · rw [if_neg hc] at h
      cases hr : cutT (d :: r) with
      | none => rw [hr] at h; cases h
      | some y =>
        rw [hr] at h
        cases h
        have := cutT_len (d :: r) y hr
        simp at this ⊢
        omega

theorem decP_facts (c : UInt8) (l : List UInt8) (x : Pt × List UInt8) (h : decP (c :: l) = some x) : x.2.length ≤ l.length ∧ x.1.b < 18446744073709551616 := by
  rw [decP] at h
  by_cases k1 : c = 1
  · rw [if_pos k1] at h
    by_cases h8 : 8 ≤ l.length
    · rw [if_pos h8] at h; cases h; simp
    · rw [if_neg h8] at h; cases h
  · rw [if_neg k1] at h
    by_cases k2 : c = 2
    · rw [if_pos k2] at h
      by_cases h8 : 8 ≤ l.length
      · rw [if_pos h8] at h
        cases hk : inK (valB (l.take 8))
        · rw [hk, if_neg (by decide)] at h; cases h
        · rw [hk, if_pos rfl] at h
          cases h
          refine ⟨by simp, ?_⟩
          show fromN _ < _
          have hk' : 4503599627370496 ≤ valB (l.take 8) ∧ valB (l.take 8) ≤ 18442240474082181120 := of_decide_eq_true hk
          unfold fromN
          rw [hk, if_pos rfl]
          split <;> omega
      · rw [if_neg h8] at h; cases h
    · rw [if_neg k2] at h
      by_cases k3 : c = 3
      · rw [if_pos k3] at h
        cases hr : cutT l with
        | none => rw [hr] at h; cases h
        | some y =>
          rw [hr] at h
          cases h
          have := cutT_len l y hr
          exact ⟨by show y.2.length ≤ _; omega, by show 0 < _; decide⟩
      · rw [if_neg k3] at h; cases h

/-- The cells of parts. -/
def cellsL (ps : List Pt) : List Value := ps.flatMap fun p => [.int .i64 p.k, .int .i64 p.i, .int .u64 (p.b : Int), .string p.t]
theorem cellsL_snoc (ps : List Pt) (p : Pt) : cellsL (ps ++ [p]) = cellsL ps ++ [.int .i64 p.k, .int .i64 p.i, .int .u64 (p.b : Int), .string p.t] := by simp [cellsL]
abbrev Parts (w : World) (B : Nat) (v : Value) (ps : List Pt) : Prop := w.ownsRow B 29 4 v ps.length (cellsL ps)

theorem own_hid {w : World} {B e sz n : Nat} {v : Value} {xs : List Value} (h : w.ownsRow B e sz v n xs) : Hid (w.ownsRow B e sz v n xs) := h
theorem cells4 {W : World} {g : Nat} {a b c d : Value} {t : TypeId} {fr : Nat × Nat} (hh : W.heap[g]? = some (.cells #[a, b, c, d] t fr)) : W.cell? ((⟨g, 0, none⟩ : Addr).add 0) = some a ∧ W.cell? ((⟨g, 0, none⟩ : Addr).add 1) = some b ∧ W.cell? ((⟨g, 0, none⟩ : Addr).add 2) = some c ∧ W.cell? ((⟨g, 0, none⟩ : Addr).add 3) = some d := by
  refine ⟨?_, ?_, ?_, ?_⟩ <;> simp [Addr.add, World.cell?, hh]
theorem new3 (w : World) (o1 o2 : Obj) (a b c d : Value) (t : TypeId) : (((w.alloc o1).alloc o2).alloc (.cells #[a, b, c, d] t)).cell? ((⟨w.heap.size + 2, 0, none⟩ : Addr).add 0) = some a ∧ (((w.alloc o1).alloc o2).alloc (.cells #[a, b, c, d] t)).cell? ((⟨w.heap.size + 2, 0, none⟩ : Addr).add 1) = some b ∧ (((w.alloc o1).alloc o2).alloc (.cells #[a, b, c, d] t)).cell? ((⟨w.heap.size + 2, 0, none⟩ : Addr).add 2) = some c ∧ (((w.alloc o1).alloc o2).alloc (.cells #[a, b, c, d] t)).cell? ((⟨w.heap.size + 2, 0, none⟩ : Addr).add 3) = some d := by
  have e : ((w.alloc o1).alloc o2).heap.size = w.heap.size + 2 := by simp
  have hh := heap_alloc_new ((w.alloc o1).alloc o2) (.cells #[a, b, c, d] t)
  rw [e] at hh
  exact cells4 hh

def toldL (w w' : World) (o : Option (List Pt)) (e : Ending) : Prop := match o with
  | none => e = .returned (.tuple #[.slice none 0 0, .int .i64 31])
  | some ps => ∃ v, e = .returned (.tuple #[v, .int .i64 0]) ∧ Parts w' w.heap.size v ps ∧ ps.length ≤ 16

set_option maxHeartbeats 2000000 in
theorem decode_any (s : List UInt8) (w : World) (hs : s.length ≤ 3999999999) (hM : SomeMax w) :
    Calls Tryd.prog 10 #[.string ⟨s.toArray⟩] w fun e w' => toldL w w' (decL s) e ∧ Below w.heap.size w w' := by
  have hMlt := hM.lt
  obtain ⟨i1, hi1, hy0, hy1, hy2⟩ := info_parts Tryd.infoPart
  go_enter Tryd.func10, Tryd.ntmps10
  go_wp2
  go_loopw [0, 4] (fun t a wr => ∃ (n : Nat) (l : List UInt8) (acc : List Pt), t = .string ⟨l.toArray⟩ ∧ l.length ≤ n ∧ n ≤ s.length ∧ acc.length ≤ 16 ∧ decF n l acc = decL s ∧ Parts wr w.heap.size a acc ∧ Below w.heap.size w wr) (fun t _ _ => match t with | .string b => b.size | _ => 0)
  case atStart => exact ⟨s.length, s, [], rfl, Nat.le_refl _, Nat.le_refl _, by simp, rfl, World.ownsRow_nil _ _ _ _, Below.refl _ _⟩
  case round =>
    obtain ⟨n, l, acc, rfl, hln, hn, hacc, hD, hP, hbr⟩ := hrel
    have HD : Hid (decF n l acc = decL s) := hD
    clear hD
    have hz := hbr.size
    cases l with
    | nil =>
      have HR : Hid (decL s = some acc) := by rw [← HD.out]; cases n <;> rfl
      go_wp2
      go_ret2
      rw [HR.out]
      exact ⟨⟨_, rfl, hP, hacc⟩, hbr⟩
    | cons c l =>
      obtain ⟨m, rfl⟩ : ∃ m, n = m + 1 := ⟨n - 1, by simp at hln; omega⟩
      have hl2 : l.length ≤ 3999999999 := by simp at hln; omega
      have CP := cutPart_any c l wr hl2 (hM.below hbr hMlt)
      have hD2 := HD.out
      have e1 : decF (m + 1) (c :: l) acc = match decP (c :: l) with
        | none => none
        | some x => if mayB x.1 && decide (acc.length ≠ 16) then decF m x.2 (acc ++ [x.1]) else none := rfl
      rw [e1] at hD2
      clear e1 HD
      cases hx : decP (c :: l) with
      | none =>
        rw [hx] at CP hD2
        have HR : Hid (decL s = none) := hD2.symm
        clear hD2 hx
        simp only [told] at CP
        go_wp2_with (go_at_call 15; refine CP.mono ?_; rintro e w1 ⟨⟨p, t, rfl⟩, hb1⟩; simp only [Pt.val, Pt.cells])
        go_ret2
        rw [HR.out]
        have hb2 := hbr.trans (hb1.mono hz)
        exact ⟨rfl, hb2.alloc hb2.size _⟩
      | some x =>
        obtain ⟨p, r⟩ := x
        obtain ⟨hrl, hpb⟩ := decP_facts c l _ hx
        rw [hx] at CP hD2
        simp only [told] at CP
        dsimp only at hD2 hrl hpb
        have MB := fun w => mayBe_any p w hpb
        clear hx hpb
        cases hm : mayB p
        · rw [hm] at MB hD2
          have HR : Hid (decL s = none) := by rw [← hD2]; rfl
          clear hD2 hm
          simp only [Pt.val, Pt.cells] at CP MB
          go_wp2_with (first
            | (go_at_call 15; refine CP.mono ?_; rintro e w1 ⟨rfl, hb1⟩)
            | (go_at_call 11; refine (MB _).mono ?_; rintro e w2 ⟨rfl, rfl⟩))
          go_ret2
          rw [HR.out]
          have hb2 := hbr.trans (hb1.mono hz)
          exact ⟨rfl, (hb2.alloc hb2.size _).alloc (by have := hb2.size; simp; omega) _⟩
        · rw [hm] at MB hD2
          rcases hP.2 with ⟨rfl, hnil⟩ | ⟨g, cap, cur, rfl, hg, hh, hr'⟩
          · have hr0 : decF m r (acc ++ [p]) = decL s := by rw [← hD2]; simp [hnil]
            clear hacc
            have hacc : acc.length ≤ 15 := by omega
            clear hnil
            have HR : Hid (decF m r (acc ++ [p]) = decL s) := hr0
            clear hD2 hm hr0
            have HP := own_hid hP
            clear hP
            simp only [Pt.val, Pt.cells] at CP MB
            go_wp2_with (first
              | (go_at_call 15; refine CP.mono ?_; rintro e w1 ⟨rfl, hb1⟩; have HP1 := own_hid (owns_below HP.out hb1); have hz1 := hb1.size)
              | (go_at_call 11; refine (MB _).mono ?_; rintro e w2 ⟨rfl, rfl⟩)
              | (at_builtin; refine wpList_append_own _ rfl _ _ 26 rfl w.heap.size 29 i1 _ 4 40 Tryd.underlying26 hi1 hy0 hy1 hy2 rfl (by decide) _ _ _ rfl (((HP1.out.alloc _).alloc _).alloc _) ⟨w1.heap.size + 2, 0, none⟩ 1 1 [.int .i64 p.k, .int .i64 p.i, .int .u64 (p.b : Int), .string p.t] rfl rfl ?c1 ?c2 ?c3 ?c4 ?c5 ?_))
            case c1 =>
              intro j u hj
              match j, hj with
              | 0, hj => simp at hj; subst hj; exact (new3 _ _ _ _ _ _ _ _).1
              | 1, hj => simp at hj; subst hj; exact (new3 _ _ _ _ _ _ _ _).2.1
              | 2, hj => simp at hj; subst hj; exact (new3 _ _ _ _ _ _ _ _).2.2.1
              | 3, hj => simp at hj; subst hj; exact (new3 _ _ _ _ _ _ _ _).2.2.2
            case c2 => intro u hu; simp at hu; rcases hu with rfl | rfl | rfl | rfl <;> rfl
            case c3 => unfold maxLen; omega
            case c4 => omega
            case c5 => simp; omega
            intro v' w4 hown' hgrow' _
            have hown2 : Parts w4 w.heap.size v' (acc ++ [p]) := by
              unfold Parts
              rw [cellsL_snoc, List.length_append]
              exact hown'
            have hb2 := hbr.trans (hb1.mono hz)
            have hbr4 : Below w.heap.size w w4 := (((hb2.alloc hb2.size _).alloc (by have := hb2.size; simp; omega) _).alloc (by have := hb2.size; simp; omega) _).grown hgrow' (by have := hb2.size; simp; omega) (own_ge HP1.out)
            clear hown' hgrow' HP HP1 MB CP
            go_wp2
            refine ⟨⟨m, r, acc ++ [p], rfl, by simp at hln; omega, by omega, (by rw [List.length_append]; show _ + 1 ≤ 16; omega), HR.out, hown2, hbr4⟩, ?_⟩
            show (ByteArray.mk r.toArray).size < (ByteArray.mk (c :: l).toArray).size
            rw [mk_size, mk_size]
            simp
            omega
          · by_cases h16 : acc.length = 16
            · have hr0 : decL s = none := by rw [← hD2]; simp [h16]
              have HR : Hid (decL s = none) := hr0
              have h16' : (acc.length : Int) = 16 := by omega
              clear hD2 hm hh hr' hr0 hP h16
              simp only [Pt.val, Pt.cells] at CP MB
              go_wp2_with (first
                | (go_at_call 15; refine CP.mono ?_; rintro e w1 ⟨rfl, hb1⟩)
                | (go_at_call 11; refine (MB _).mono ?_; rintro e w2 ⟨rfl, rfl⟩))
              go_ret2
              rw [HR.out]
              have hb2 := hbr.trans (hb1.mono hz)
              exact ⟨rfl, (hb2.alloc hb2.size _).alloc (by have := hb2.size; simp; omega) _⟩
            · have hr0 : decF m r (acc ++ [p]) = decL s := by rw [← hD2]; simp [h16]
              have h16' : ((acc.length : Int) == 16) = false := by rw [beq_eq_false_iff_ne]; omega
              have hacc2 : acc.length ≤ 15 := by omega
              clear hh hr' h16 hacc
              have HR : Hid (decF m r (acc ++ [p]) = decL s) := hr0
              clear hD2 hm hr0
              have HP := own_hid hP
              clear hP
              simp only [Pt.val, Pt.cells] at CP MB
              go_wp2_with (first
                | (go_at_call 15; refine CP.mono ?_; rintro e w1 ⟨rfl, hb1⟩; have HP1 := own_hid (owns_below HP.out hb1); have hz1 := hb1.size)
                | (go_at_call 11; refine (MB _).mono ?_; rintro e w2 ⟨rfl, rfl⟩)
                | (at_builtin; refine wpList_append_own _ rfl _ _ 26 rfl w.heap.size 29 i1 _ 4 40 Tryd.underlying26 hi1 hy0 hy1 hy2 rfl (by decide) _ _ _ rfl (((HP1.out.alloc _).alloc _).alloc _) ⟨w1.heap.size + 2, 0, none⟩ 1 1 [.int .i64 p.k, .int .i64 p.i, .int .u64 (p.b : Int), .string p.t] rfl rfl ?c1 ?c2 ?c3 ?c4 ?c5 ?_))
              case c1 =>
                intro j u hj
                match j, hj with
                | 0, hj => simp at hj; subst hj; exact (new3 _ _ _ _ _ _ _ _).1
                | 1, hj => simp at hj; subst hj; exact (new3 _ _ _ _ _ _ _ _).2.1
                | 2, hj => simp at hj; subst hj; exact (new3 _ _ _ _ _ _ _ _).2.2.1
                | 3, hj => simp at hj; subst hj; exact (new3 _ _ _ _ _ _ _ _).2.2.2
              case c2 => intro u hu; simp at hu; rcases hu with rfl | rfl | rfl | rfl <;> rfl
              case c3 => unfold maxLen; omega
              case c4 => omega
              case c5 => simp; omega
              intro v' w4 hown' hgrow' _
              have hown2 : Parts w4 w.heap.size v' (acc ++ [p]) := by
                unfold Parts
                rw [cellsL_snoc, List.length_append]
                exact hown'
              have hb2 := hbr.trans (hb1.mono hz)
              have hbr4 : Below w.heap.size w w4 := (((hb2.alloc hb2.size _).alloc (by have := hb2.size; simp; omega) _).alloc (by have := hb2.size; simp; omega) _).grown hgrow' (by have := hb2.size; simp; omega) (own_ge HP1.out)
              clear hown' hgrow' HP HP1 MB CP
              go_wp2
              refine ⟨⟨m, r, acc ++ [p], rfl, by simp at hln; omega, by omega, (by rw [List.length_append]; show _ + 1 ≤ 16; omega), HR.out, hown2, hbr4⟩, ?_⟩
              show (ByteArray.mk r.toArray).size < (ByteArray.mk (c :: l).toArray).size
              rw [mk_size, mk_size]
              simp
              omega
end Go.Proofs.YtghneolphdfdlabDoor
