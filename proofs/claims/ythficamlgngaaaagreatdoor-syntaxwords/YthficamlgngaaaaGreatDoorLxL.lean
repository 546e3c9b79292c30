/- Escapes; a string read to its end. -/
import Derived.Test.YthficamlgngaaaaGreatDoorShelf2
import Derived.Shelf.Strings.Builder1
import Derived.Shelf.Strings.Builder2
import Derived.Lib.Builder
import Derived.Test.YthficamlgngaaaaGreatDoorSyB
import Derived.Test.YthficamlgngaaaaGreatDoorLxI
namespace Go.Proofs
open Go Go.RowKit Go.Shelf
def Tryz.lays167_ren : Go.Shelf.Ren := ⟨fun | 167 => 135 | 240 => 146 | 276 => 154 | n => n, fun | 0 => 0 | 3 => 3 | 4 => 4 | 5 => 5 | 9 => 9 | 20 => 20 | 37 => 37 | 70 => 143 | 72 => 145 | 75 => 147 | 80 => 102 | 164 => 160 | n => n, fun | n => n⟩
theorem Tryz.lays167 : Go.Proofs.Lays.n167 Tryz.prog Tryz.lays167_ren := {
  mixed := by kernel_rfl
  f167 := Tryz.func135.trans (congrArg some (by kernel_rfl))
  f240 := Tryz.func146.trans (congrArg some (by kernel_rfl))
  f276 := Tryz.func154.trans (congrArg some (by kernel_rfl))
  t0 := Tryz.underlying0
  a0 := Tryz.isAgg0
  z0 := Tryz.sizeOf0
  v0 := Tryz.zeroValue0
  t4 := Tryz.underlying4
  a4 := Tryz.isAgg4
  z4 := Tryz.sizeOf4
  v4 := Tryz.zeroValue4
  t5 := Tryz.underlying5
  a5 := Tryz.isAgg5
  z5 := Tryz.sizeOf5
  v5 := Tryz.zeroValue5
  t9 := Tryz.underlying9
  a9 := Tryz.isAgg9
  z9 := Tryz.sizeOf9
  v9 := Tryz.zeroValue9
  t20 := Tryz.underlying20
  a20 := Tryz.isAgg20
  z20 := Tryz.sizeOf20
  v20 := Tryz.zeroValue20
  t37 := Tryz.underlying37
  a37 := Tryz.isAgg37
  z37 := Tryz.sizeOf37
  v37 := Tryz.zeroValue37
  t70 := Tryz.underlying143
  a70 := Tryz.isAgg143
  z70 := Tryz.sizeOf143
  v70 := Tryz.zeroValue143
  t72 := Tryz.underlying145
  a72 := Tryz.isAgg145
  z72 := Tryz.sizeOf145
  v72 := Tryz.zeroValue145
  t75 := Tryz.underlying147
  a75 := Tryz.isAgg147
  z75 := Tryz.sizeOf147
  v75 := Tryz.zeroValue147
  t164 := Tryz.underlying160
  a164 := Tryz.isAgg160
  z164 := Tryz.sizeOf160
  v164 := Tryz.zeroValue160 }
theorem Tryz.Builder_Extra_167 : Builder.Extra Tryz.prog Tryz.lays167_ren := {
  sizeBuilder := by kernel_rfl
  liesBuilder := by kernel_rfl
  t5 := Tryz.underlying5
  a5 := Tryz.isAgg5
  z5 := Tryz.sizeOf5
  v5 := Tryz.zeroValue5
  infoByte := by kernel_rfl
  cellsByte := by kernel_rfl
  sizeByte := by kernel_rfl
  neB5 := by decide }
theorem Tryz.Builder_WriteByte (B b : Nat) (bs : List Value) (c : Int) (w : World) (h : Lib.IsBuilder 145 5 B b bs w) (hlen : bs.length + 1 ≤ 140737488355328) (hBw : B ≤ w.heap.size) :
    Calls Tryz.prog 135 #[.pointer (some ⟨b, 0, none⟩), .int .u8 c] w fun e w' => e = .returned .nilIface ∧ (Lib.BuilderAt 145 5 B b (.pointer (some ⟨b, 0, none⟩)) (bs ++ [.int .u8 c]) w' ∧ Below B w w') := Any.Builder_WriteByte Tryz.lays167 Tryz.Builder_Extra_167 B b bs c w h hlen hBw
theorem Tryz.Builder_WriteString (B b : Nat) (bs : List Value) (s : ByteArray) (w : World) (h : Lib.IsBuilder 145 5 B b bs w) (hlen : bs.length + s.size ≤ 140737488355328) (hBw : B ≤ w.heap.size) :
    Calls Tryz.prog 134 #[.pointer (some ⟨b, 0, none⟩), .string s] w fun e w' => e = .returned (.tuple #[.int .i64 s.size, .nilIface]) ∧ (Lib.BuilderAt 145 5 B b (.pointer (some ⟨b, 0, none⟩)) (bs ++ Lib.strCells s) w' ∧ Below B w w') :=
  Any.Builder_WriteString ({ Tryz.lays155 with } : Lays.n166 Tryz.prog Tryz.lays155_ren) Tryz.Builder_Extra_155 B b bs s w h hlen hBw
end Go.Proofs
namespace Go.Proofs.YthficamlgngaaaaGreatDoor
open Go Go.RowKit
theorem isB_new (w : World) : Lib.IsBuilder 145 5 w.heap.size w.heap.size (Lib.byteCells []) (w.alloc (.cells #[.pointer none, .slice none 0 0] 145)) :=
  Or.inl ⟨Nat.le_refl _, _, heap_alloc_new _ _, World.ownsRow_nil _ _ _ _, by simp [Value.ownBlock]⟩
theorem strCells_eq (l : Bs) : Lib.strCells ⟨l.toArray⟩ = Lib.byteCells l := rfl
theorem cells_app (l m : Bs) : Lib.byteCells (l ++ m) = Lib.byteCells l ++ Lib.byteCells m := by simp [Lib.byteCells]
theorem cells_one (c : UInt8) : Lib.byteCells [c] = [.int .u8 (c.toNat : Int)] := rfl
theorem cells_len (l : Bs) : (Lib.byteCells l).length = l.length := by simp [Lib.byteCells]
theorem kp_isB {T e B b R : Nat} {bs : List Value} {w w' : World} (h : Lib.IsBuilder T e B b bs w) (hk : Kp (Own1 R) w w') (hR : R < B) : Lib.IsBuilder T e B b bs w' := by
  have one : ∀ p, Lib.BuilderAt T e B b p bs w → Lib.BuilderAt T e B b p bs w' := by
    rintro p ⟨hB, v, hb, hown, hne⟩
    refine ⟨hB, v, (hk.block b (lt_of_block hb) (fun e => by have e' : b = R := e; omega)).trans hb, ⟨hown.1, ?_⟩, hne⟩
    rcases hown.2 with h2 | ⟨g, cap, cur, hv, hg, hh, r⟩
    · exact Or.inl h2
    · exact Or.inr ⟨g, cap, cur, hv, hg, (hk.block g (lt_of_block hh) (fun e => by have e' : g = R := e; omega)).trans hh, r⟩
  rcases h with h | h
  · exact Or.inl (one _ h)
  · exact Or.inr (one _ h)
end Go.Proofs.YthficamlgngaaaaGreatDoor
namespace Go.Proofs.YthficamlgngaaaaGreatDoor
open Go Go.RowKit
section
variable {R : Nat} {s : Bs} {b : Nat}

theorem hexV_lt {c : UInt8} {d : Nat} (h : hexV c = some d) : d < 16 := by
  unfold hexV at h
  by_cases h1 : 48 ≤ c.toNat ∧ c.toNat ≤ 57
  · rw [if_pos h1] at h; cases h; omega
  · rw [if_neg h1] at h
    by_cases h2 : 97 ≤ c.toNat ∧ c.toNat ≤ 102
    · rw [if_pos h2] at h; cases h; omega
    · rw [if_neg h2] at h
      by_cases h3 : 65 ≤ c.toNat ∧ c.toNat ≤ 70
      · rw [if_pos h3] at h; cases h; omega
      · rw [if_neg h3] at h; cases h
theorem nmbS_eq (a b c d : UInt8) (r : Bs) : nmbS (a :: b :: c :: d :: r) = (hexF [a, b, c, d] 0).map fun V => (unitS V, r) := by
  have e : nmbS (a :: b :: c :: d :: r) = (hexV a).bind fun x => (hexV b).bind fun y => (hexV c).bind fun z => (hexV d).bind fun t => some (unitS (x * 4096 + y * 256 + z * 16 + t), r) := rfl
  rw [e]
  simp only [hexF]
  cases hexV a with
  | none => rfl
  | some x =>
    cases hexV b with
    | none => rfl
    | some y =>
      cases hexV c with
      | none => rfl
      | some z =>
        cases hexV d with
        | none => rfl
        | some t =>
          simp only [Option.bind_some, Option.map_some]
          have e : x * 4096 + y * 256 + z * 16 + t = (((0 * 16 + x) * 16 + y) * 16 + z) * 16 + t := by omega
          rw [e]
theorem hexF_lt : ∀ (l : Bs) (a n : Nat) (V : Nat), a < 16 ^ n → hexF l a = some V → V < 16 ^ (n + l.length)
  | [], a, n, V, ha, h => by
    have e : a = V := by simpa [hexF] using h
    subst e
    exact ha
  | c :: l, a, n, V, ha, h => by
    unfold hexF at h
    cases hc : hexV c with
    | none => rw [hc] at h; cases h
    | some d =>
      rw [hc] at h
      have := hexF_lt l (a * 16 + d) (n + 1) V (by have := hexV_lt hc; rw [Nat.pow_succ]; omega) h
      rw [List.length_cons, show n + (l.length + 1) = n + 1 + l.length by omega]
      exact this
/-- What an escape's step comes to. -/
def StrP (R : Nat) (s : Bs) (b : Nat) (w : World) (r : Option (Bs × Bs)) (e : Ending) (w' : World) : Prop := (match r with
    | some p => e = .returned (.string ⟨p.1.toArray⟩) ∧ Rd w' R s b p.2
    | none => e = Dies b 52) ∧ Kp (Own1 R) w w'
theorem cut_take {s l : Bs} (h : l <:+ s) (n : Nat) : (ByteArray.mk s.toArray).extract (s.length - l.length) (s.length - l.length + n) = ⟨(l.take n).toArray⟩ := by
  obtain ⟨p, rfl⟩ := h
  have e : (p ++ l).length - l.length = p.length := by simp
  rw [e]
  apply ByteArray.ext; apply Array.toList_inj.1; simp

set_option maxHeartbeats 2000000 in
theorem nmb_short (l : Bs) (hl : l.length < 4) (w : World) (h : Rd w R s b l) : Calls Tryz.prog 147 #[.pointer (some ⟨R, 0, none⟩)] w fun e w' => e = Dies b 52 ∧ Kp (Own1 R) w w' := by
  have c0 := h.c0
  have c2 := h.c2
  have hle := h.le
  have hsm := h.small
  obtain ⟨h1, h2, h3⟩ := suf_facts h.suf
  have U : ∀ (w : World), Gl w → Calls Tryz.prog 155 #[.string ⟨l.toArray⟩, .int .i64 16, .int .i64 64] w fun e w' => (∃ x ev, e = .returned (.tuple #[.int .u64 x, ev])) ∧ Below w.heap.size w w' := by
    intro w g
    cases l with
    | nil =>
      refine (suint_no [] (by simp) (Or.inl rfl) w g).mono ?_
      rintro e w' ⟨⟨N, rfl⟩, hb⟩
      exact ⟨⟨_, _, rfl⟩, hb⟩
    | cons c l =>
      cases hx : hexF (c :: l) 0 with
      | none =>
        refine (suint_no (c :: l) (by omega) (Or.inr hx) w g).mono ?_
        rintro e w' ⟨⟨N, rfl⟩, hb⟩
        exact ⟨⟨_, _, rfl⟩, hb⟩
      | some v =>
        refine (suint_yes c l (by simp at hl; omega) v hx w).mono ?_
        rintro e w' ⟨rfl, hb⟩
        exact ⟨⟨_, _, rfl⟩, hb⟩
  have hz := size_of l
  have g1 : (l.length : Int) < 4 := by omega
  have g2 : (0 : Int) ≤ ((s.length - l.length : Nat) : Int) := by omega
  have g3 : ((s.length - l.length : Nat) : Int) ≤ (s.length : Int) := by omega
  have g4 : ¬ (((s.length - l.length : Nat) : Int) + 4 < (s.length : Int)) := by omega
  have g5 : (s.length : Int) < ((s.length - l.length : Nat) : Int) + 4 := by omega
  have g6 : ((s.length - l.length : Nat) : Int) ≤ 16384 := by omega
  have g7 : min (((s.length - l.length : Nat) : Int) + 4) (s.length : Int) = (s.length : Int) := by omega
  have HH : Hid (Rd w R s b l) := h
  have gD : Gl w.drew := (h.drewN 1).gl
  have rD : Rd w.drew R s b l := h.drewN 1
  have HD : Hid (Rd w.drew R s b l) := rD
  clear h hle hsm h3 rD
  generalize s.length - l.length = A at *
  generalize (ByteArray.mk s.toArray) = D at *
  generalize (ByteArray.mk l.toArray) = X at *
  go_enter Tryz.func147, Tryz.ntmps147
  go_wp2
  go_region
  all_goals
    go_wp2_with (first
      | (go_at_call 51; refine (fail_any _ _ _ hr1).mono ?_; rintro e w2 ⟨rfl, rfl⟩)
      | (go_at_call 155; refine (U _ gD).mono ?_; rintro e w1 ⟨⟨x, ev, rfl⟩, hb1⟩; have hr1 := HD.out.below hb1 HH.out.lt)
      | fail)
    exact ⟨rfl, rfl, (Kp.refl _ w).drew.then_below hb1⟩

set_option maxHeartbeats 2000000 in
theorem nmb_bad (x0 x1 x2 x3 : UInt8) (r : Bs) (hx : hexF [x0, x1, x2, x3] 0 = none) (w : World) (h : Rd w R s b (x0 :: x1 :: x2 :: x3 :: r)) : Calls Tryz.prog 147 #[.pointer (some ⟨R, 0, none⟩)] w fun e w' => e = Dies b 52 ∧ Kp (Own1 R) w w' := by
  have c0 := h.c0
  have c2 := h.c2
  have hle := h.le
  have hsm := h.small
  have h1 := size_of s
  have h2 := cut_take h.suf 4
  have U := fun w g => suint_no [x0, x1, x2, x3] (by simp) (Or.inr hx) w g
  rw [show List.take 4 (x0 :: x1 :: x2 :: x3 :: r) = [x0, x1, x2, x3] from rfl] at h2
  have hz : (ByteArray.mk [x0, x1, x2, x3].toArray).size = 4 := rfl
  simp only [List.length_cons] at hle
  have g2 : (0 : Int) ≤ ((s.length - (x0 :: x1 :: x2 :: x3 :: r).length : Nat) : Int) := by omega
  have g3 : ((s.length - (x0 :: x1 :: x2 :: x3 :: r).length : Nat) : Int) + 4 ≤ (s.length : Int) := by simp only [List.length_cons]; omega
  have g6 : ((s.length - (x0 :: x1 :: x2 :: x3 :: r).length : Nat) : Int) ≤ 16384 := by omega
  have g7 : min (((s.length - (x0 :: x1 :: x2 :: x3 :: r).length : Nat) : Int) + 4) (s.length : Int) = ((s.length - (x0 :: x1 :: x2 :: x3 :: r).length : Nat) : Int) + 4 := by omega
  have g8 : (((s.length - (x0 :: x1 :: x2 :: x3 :: r).length : Nat) : Int) + 4).toNat = s.length - (x0 :: x1 :: x2 :: x3 :: r).length + 4 := by omega
  have gD : Gl w.drew := (h.drewN 1).gl
  have HD : Hid (Rd w.drew R s b (x0 :: x1 :: x2 :: x3 :: r)) := h.drewN 1
  have HL : Hid (R < w.heap.size) := h.lt
  clear h hle hsm hx
  generalize s.length - (x0 :: x1 :: x2 :: x3 :: r).length = A at *
  generalize (ByteArray.mk s.toArray) = D at *
  generalize (ByteArray.mk [x0, x1, x2, x3].toArray) = X at *
  go_enter Tryz.func147, Tryz.ntmps147
  go_wp2
  go_region
  all_goals
    go_wp2_with (first
      | (go_at_call 51; refine (fail_any _ _ _ hr1).mono ?_; rintro e w2 ⟨rfl, rfl⟩)
      | (go_at_call 155; refine (U _ gD).mono ?_; rintro e w1 ⟨⟨N, rfl⟩, hb1⟩; have hr1 := HD.out.below hb1 HL.out)
      | fail)
    exact ⟨rfl, rfl, (Kp.refl _ w).drew.then_below hb1⟩

set_option maxHeartbeats 2000000 in
theorem nmb_walkA (x0 x1 x2 x3 : UInt8) (r : Bs) (VV : Int) (T : ByteArray) (gV : VV < 65536) (gV0 : 0 ≤ VV) (U : ∀ w, Calls Tryz.prog 155 #[.string ⟨[x0, x1, x2, x3].toArray⟩, .int .i64 16, .int .i64 64] w fun e w' => e = .returned (.tuple #[.int .u64 VV, .nilIface]) ∧ Below w.heap.size w w')
    (H : ∀ w, Calls Tryz.prog 156 #[.int .i64 VV] w fun e w' => e = .returned (.bool true) ∧ w' = w) (B : ∀ w, Calls Tryz.prog 157 #[.int .i64 VV] w fun e w' => e = .returned (.string T) ∧ Below w.heap.size w w') (w : World) (h : Rd w R s b (x0 :: x1 :: x2 :: x3 :: r)) :
    Calls Tryz.prog 147 #[.pointer (some ⟨R, 0, none⟩)] w fun e w' => e = .returned (.string T) ∧ Rd w' R s b r ∧ Kp (Own1 R) w w' := by
  have c0 := h.c0
  have c2 := h.c2
  have hle := h.le
  have hsm := h.small
  have h1 := size_of s
  have h2 := cut_take h.suf 4
  rw [show List.take 4 (x0 :: x1 :: x2 :: x3 :: r) = [x0, x1, x2, x3] from rfl] at h2
  have hz : (ByteArray.mk [x0, x1, x2, x3].toArray).size = 4 := rfl
  simp only [List.length_cons] at hle
  have g2 : (0 : Int) ≤ ((s.length - (x0 :: x1 :: x2 :: x3 :: r).length : Nat) : Int) := by omega
  have g3 : ((s.length - (x0 :: x1 :: x2 :: x3 :: r).length : Nat) : Int) + 4 ≤ (s.length : Int) := by simp only [List.length_cons]; omega
  have g6 : ((s.length - (x0 :: x1 :: x2 :: x3 :: r).length : Nat) : Int) ≤ 16384 := by omega
  have g7 : min (((s.length - (x0 :: x1 :: x2 :: x3 :: r).length : Nat) : Int) + 4) (s.length : Int) = ((s.length - (x0 :: x1 :: x2 :: x3 :: r).length : Nat) : Int) + 4 := by omega
  have g8 : (((s.length - (x0 :: x1 :: x2 :: x3 :: r).length : Nat) : Int) + 4).toNat = s.length - (x0 :: x1 :: x2 :: x3 :: r).length + 4 := by omega
  have HG : Hid (((s.length - (x0 :: x1 :: x2 :: x3 :: r).length : Nat) : Int) + 4 = ((s.length - r.length : Nat) : Int)) := by
    show _ = _
    simp only [List.length_cons]; omega
  have HD : Hid (Rd w.drew R s b (x0 :: x1 :: x2 :: x3 :: r)) := h.drewN 1
  have HL : Hid (R < w.heap.size) := h.lt
  have HS : Hid (r <:+ x0 :: x1 :: x2 :: x3 :: r) := ⟨[x0, x1, x2, x3], rfl⟩
  have fin : ∀ w3, Rd w3 R s b (x0 :: x1 :: x2 :: x3 :: r) → w3.cell? ⟨R, 2, none⟩ = some (.int .i64 ((s.length - (x0 :: x1 :: x2 :: x3 :: r).length : Nat) : Int)) ∧ w3.frozen? ⟨R, 2, none⟩ = false := fun w3 h3 => ⟨h3.c2, h3.free 2⟩
  have mv : Hid (∀ w3, Rd w3 R s b (x0 :: x1 :: x2 :: x3 :: r) → Rd (w3.setCell ⟨R, 2, none⟩ (.int .i64 (((s.length - (x0 :: x1 :: x2 :: x3 :: r).length : Nat) : Int) + 4))) R s b r) := fun w3 h3 => h3.move HS.out _ HG.out
  clear h hle hsm
  generalize hA : s.length - (x0 :: x1 :: x2 :: x3 :: r).length = A at *
  generalize (ByteArray.mk s.toArray) = D at *
  generalize (ByteArray.mk [x0, x1, x2, x3].toArray) = X at *
  clear hA
  go_enter Tryz.func147, Tryz.ntmps147
  go_wp2
  go_region
  all_goals
    go_wp2_with (first
      | (go_at_call 157; refine (B _).mono ?_; rintro e w3 ⟨rfl, hb3⟩)
      | (go_at_call 156; refine (H _).mono ?_; rintro e w2 ⟨rfl, rfl⟩)
      | (go_at_call 155; refine (U _).mono ?_; rintro e w1 ⟨rfl, hb1⟩; have hr1 := HD.out.below hb1 HL.out; obtain ⟨d2, f2⟩ := fin _ hr1)
      | fail)
    go_ret
    exact ⟨rfl, (mv.out _ hr1).below hb3 (mv.out _ hr1).lt, (((Kp.refl _ w).drew.then_below hb1).trans (Kp.own R 2 _)).trans (Kp.of_below hb3)⟩

set_option maxHeartbeats 2000000 in
theorem nmb_walkB (x0 x1 x2 x3 : UInt8) (r : Bs) (VV : Int) (T : ByteArray) (gV : VV < 65536) (gV0 : 0 ≤ VV) (U : ∀ w, Calls Tryz.prog 155 #[.string ⟨[x0, x1, x2, x3].toArray⟩, .int .i64 16, .int .i64 64] w fun e w' => e = .returned (.tuple #[.int .u64 VV, .nilIface]) ∧ Below w.heap.size w w')
    (H : ∀ w, Calls Tryz.prog 156 #[.int .i64 VV] w fun e w' => e = .returned (.bool false) ∧ w' = w) (B : ∀ w, Calls Tryz.prog 158 #[.int .i64 VV] w fun e w' => e = .returned (.tuple #[.string T, .int .i64 0]) ∧ w' = w) (w : World) (h : Rd w R s b (x0 :: x1 :: x2 :: x3 :: r)) :
    Calls Tryz.prog 147 #[.pointer (some ⟨R, 0, none⟩)] w fun e w' => e = .returned (.string T) ∧ Rd w' R s b r ∧ Kp (Own1 R) w w' := by
  have c0 := h.c0
  have c2 := h.c2
  have hle := h.le
  have hsm := h.small
  have h1 := size_of s
  have h2 := cut_take h.suf 4
  rw [show List.take 4 (x0 :: x1 :: x2 :: x3 :: r) = [x0, x1, x2, x3] from rfl] at h2
  have hz : (ByteArray.mk [x0, x1, x2, x3].toArray).size = 4 := rfl
  simp only [List.length_cons] at hle
  have g2 : (0 : Int) ≤ ((s.length - (x0 :: x1 :: x2 :: x3 :: r).length : Nat) : Int) := by omega
  have g3 : ((s.length - (x0 :: x1 :: x2 :: x3 :: r).length : Nat) : Int) + 4 ≤ (s.length : Int) := by simp only [List.length_cons]; omega
  have g6 : ((s.length - (x0 :: x1 :: x2 :: x3 :: r).length : Nat) : Int) ≤ 16384 := by omega
  have g7 : min (((s.length - (x0 :: x1 :: x2 :: x3 :: r).length : Nat) : Int) + 4) (s.length : Int) = ((s.length - (x0 :: x1 :: x2 :: x3 :: r).length : Nat) : Int) + 4 := by omega
  have g8 : (((s.length - (x0 :: x1 :: x2 :: x3 :: r).length : Nat) : Int) + 4).toNat = s.length - (x0 :: x1 :: x2 :: x3 :: r).length + 4 := by omega
  have HG : Hid (((s.length - (x0 :: x1 :: x2 :: x3 :: r).length : Nat) : Int) + 4 = ((s.length - r.length : Nat) : Int)) := by
    show _ = _
    simp only [List.length_cons]; omega
  have HD : Hid (Rd w.drew R s b (x0 :: x1 :: x2 :: x3 :: r)) := h.drewN 1
  have HL : Hid (R < w.heap.size) := h.lt
  have HS : Hid (r <:+ x0 :: x1 :: x2 :: x3 :: r) := ⟨[x0, x1, x2, x3], rfl⟩
  have fin : ∀ w3, Rd w3 R s b (x0 :: x1 :: x2 :: x3 :: r) → w3.cell? ⟨R, 2, none⟩ = some (.int .i64 ((s.length - (x0 :: x1 :: x2 :: x3 :: r).length : Nat) : Int)) ∧ w3.frozen? ⟨R, 2, none⟩ = false := fun w3 h3 => ⟨h3.c2, h3.free 2⟩
  have mv : Hid (∀ w3, Rd w3 R s b (x0 :: x1 :: x2 :: x3 :: r) → Rd (w3.setCell ⟨R, 2, none⟩ (.int .i64 (((s.length - (x0 :: x1 :: x2 :: x3 :: r).length : Nat) : Int) + 4))) R s b r) := fun w3 h3 => h3.move HS.out _ HG.out
  clear h hle hsm
  generalize hA : s.length - (x0 :: x1 :: x2 :: x3 :: r).length = A at *
  generalize (ByteArray.mk s.toArray) = D at *
  generalize (ByteArray.mk [x0, x1, x2, x3].toArray) = X at *
  clear hA
  go_enter Tryz.func147, Tryz.ntmps147
  go_wp2
  go_region
  all_goals
    go_wp2_with (first
      | (go_at_call 158; refine (B _).mono ?_; rintro e w3 ⟨rfl, rfl⟩)
      | (go_at_call 156; refine (H _).mono ?_; rintro e w2 ⟨rfl, rfl⟩)
      | (go_at_call 155; refine (U _).mono ?_; rintro e w1 ⟨rfl, hb1⟩; have hr1 := HD.out.below hb1 HL.out; obtain ⟨d2, f2⟩ := fin _ hr1)
      | fail)
    go_ret
    exact ⟨rfl, mv.out _ hr1, ((Kp.refl _ w).drew.then_below hb1).trans (Kp.own R 2 _)⟩

theorem mk_toList (B : ByteArray) : ByteArray.mk B.data.toList.toArray = B := by
  apply ByteArray.ext; apply Array.toList_inj.1; simp
theorem unitS_else (V : Nat) (hh : ¬ (55296 ≤ V ∧ V ≤ 57343)) : unitS V = (Utf8.encode (V : Int)).data.toList := by
  unfold unitS
  generalize (Utf8.encode (V : Int)).data.toList = E
  rw [if_neg hh]
theorem charB_small (c : Int) (h0 : 0 ≤ c) (h1 : c < 65536) (h2 : ¬ (55296 ≤ c ∧ c ≤ 57343)) : charB c = true := by
  unfold charB validB
  simp
  omega
theorem nmb_good (x0 x1 x2 x3 : UInt8) (r : Bs) (V : Nat) (hx : hexF [x0, x1, x2, x3] 0 = some V) (w : World) (h : Rd w R s b (x0 :: x1 :: x2 :: x3 :: r)) : Calls Tryz.prog 147 #[.pointer (some ⟨R, 0, none⟩)] w fun e w' => e = .returned (.string ⟨(unitS V).toArray⟩) ∧ Rd w' R s b r ∧ Kp (Own1 R) w w' := by
  have hV : V < 65536 := by
    have := hexF_lt [x0, x1, x2, x3] 0 0 V (by decide) hx
    simpa using this
  have U := fun w => suint_yes x0 [x1, x2, x3] (by simp) V hx w
  by_cases hh : 55296 ≤ V ∧ V ≤ 57343
  · rw [show unitS V = halfS V from if_pos hh]
    refine nmb_walkA x0 x1 x2 x3 r (V : Int) _ (by omega) (by omega) U (fun w => ?_) (fun w => half_any V w (by omega) hV) w h
    have H := isHalf_any (V : Int) w
    rw [decide_eq_true (by omega)] at H
    exact H
  · rw [unitS_else V hh, mk_toList]
    refine nmb_walkB x0 x1 x2 x3 r (V : Int) _ (by omega) (by omega) U (fun w => ?_) (fun w => put_yes (V : Int) w (charB_small _ (by omega) (by omega) (by omega))) w h
    have H := isHalf_any (V : Int) w
    rw [decide_eq_false (by omega)] at H
    exact H
theorem nmb_any (l : Bs) (w : World) (h : Rd w R s b l) : Calls Tryz.prog 147 #[.pointer (some ⟨R, 0, none⟩)] w (StrP R s b w (nmbS l)) := by
  match l, h with
  | [], h => exact nmb_short [] (by simp) w h
  | [_], h => exact nmb_short [_] (by simp) w h
  | [_, _], h => exact nmb_short [_, _] (by simp) w h
  | [_, _, _], h => exact nmb_short [_, _, _] (by simp) w h
  | x0 :: x1 :: x2 :: x3 :: r, h =>
    rw [nmbS_eq]
    cases hx : hexF [x0, x1, x2, x3] 0 with
    | none => exact nmb_bad x0 x1 x2 x3 r hx w h
    | some V => exact (nmb_good x0 x1 x2 x3 r V hx w h).mono fun e w' ⟨h1, h2, h3⟩ => ⟨⟨h1, h2⟩, h3⟩
end
end Go.Proofs.YthficamlgngaaaaGreatDoor
namespace Go.Proofs.YthficamlgngaaaaGreatDoor
open Go Go.RowKit

theorem encode_le (c : Int) : (Utf8.encode c).data.toList.length ≤ 4 := by
  unfold Utf8.encode
  simp only []
  repeat' split
  all_goals simp
theorem unitS_le (V : Nat) : (unitS V).length ≤ 4 := by
  by_cases hh : 55296 ≤ V ∧ V ≤ 57343
  · rw [show unitS V = halfS V from if_pos hh]; simp [halfS]
  · rw [unitS_else V hh]; exact encode_le _
theorem nmbS_facts {l t r : Bs} (h : nmbS l = some (t, r)) : t.length ≤ 4 ∧ r.length < l.length ∧ r <:+ l := by
  match l, h with
  | [], h => cases h
  | [_], h => cases h
  | [_, _], h => cases h
  | [_, _, _], h => cases h
  | x0 :: x1 :: x2 :: x3 :: q, h =>
    rw [nmbS_eq] at h
    cases hx : hexF [x0, x1, x2, x3] 0 with
    | none => rw [hx] at h; cases h
    | some V =>
      rw [hx, Option.map_some] at h
      injection h with h
      injection h with h1 h2
      subst h1 h2
      exact ⟨unitS_le V, by simp only [List.length_cons]; omega, ⟨[x0, x1, x2, x3], rfl⟩⟩
theorem escS_facts {l t r : Bs} (h : escS l = some (t, r)) : t.length ≤ 4 ∧ r.length < l.length ∧ r <:+ l := by
  unfold escS at h
  by_cases hp : List.isPrefixOf [117] l = true
  · rw [if_pos hp] at h
    obtain ⟨h1, h2, h3⟩ := nmbS_facts h
    rw [List.length_drop] at h2
    exact ⟨h1, by omega, h3.trans (drop_suf 1 l)⟩
  · rw [if_neg hp] at h
    cases l with
    | nil => cases h
    | cons c l =>
      simp only at h
      by_cases hc : escL.contains c = true
      · rw [if_pos hc] at h
        injection h with h
        injection h with h1 h2
        subst h1 h2
        exact ⟨by simp, by simp, tail_suf c l⟩
      · rw [if_neg hc] at h; cases h
/-- A string behind its first quote. -/
def lineS (l : Bs) : Option (Bs × Bs) := lineF (l.length + 1) l
theorem lineF_fuel : ∀ (n m : Nat) (l : Bs), l.length < n → l.length < m → lineF n l = lineF m l
  | 0, _, _, h, _ => absurd h (Nat.not_lt_zero _)
  | _ + 1, 0, _, _, h => absurd h (Nat.not_lt_zero _)
  | n + 1, m + 1, l, hn, hm => by
    unfold lineF
    by_cases h1 : List.isPrefixOf [34] l = true
    · rw [if_pos h1, if_pos h1]
    · rw [if_neg h1, if_neg h1]
      by_cases h2 : List.isPrefixOf [92] l = true
      · rw [if_pos h2, if_pos h2]
        cases he : escS (l.drop 1) with
        | none => rfl
        | some p =>
          have := (escS_facts (show escS (l.drop 1) = some (p.1, p.2) from he)).2.1
          rw [List.length_drop] at this
          simp only [Option.bind_some]
          rw [lineF_fuel n m p.2 (by omega) (by omega)]
      · rw [if_neg h2, if_neg h2]
        cases l with
        | nil => rfl
        | cons c r =>
          simp only [List.length_cons] at hn hm
          simp only
          rw [lineF_fuel n m r (by omega) (by omega)]
theorem lineS_esc {l : Bs} (h1 : List.isPrefixOf [34] l = false) (h2 : List.isPrefixOf [92] l = true) : lineS l = (escS (l.drop 1)).bind fun p => (lineS p.2).map fun q => (p.1 ++ q.1, q.2) := by
  show lineF (l.length + 1) l = _
  unfold lineF
  rw [if_neg (by rw [h1]; simp), if_pos h2]
  cases he : escS (l.drop 1) with
  | none => rfl
  | some p =>
    have := (escS_facts (show escS (l.drop 1) = some (p.1, p.2) from he)).2.1
    rw [List.length_drop] at this
    simp only [Option.bind_some]
    rw [lineF_fuel l.length (p.2.length + 1) p.2 (by omega) (by omega)]
    rfl
theorem lineS_stop {l : Bs} (h1 : List.isPrefixOf [34] l = true) : lineS l = some ([], l.drop 1) := by
  show lineF (l.length + 1) l = _
  unfold lineF
  rw [if_pos h1]
theorem lineS_nil : lineS [] = none := rfl
theorem lineS_end {c : UInt8} {r : Bs} (h1 : List.isPrefixOf [34] (c :: r) = false) (h2 : List.isPrefixOf [92] (c :: r) = false) (h3 : endL.contains c = true) : lineS (c :: r) = none := by
  show lineF ((c :: r).length + 1) (c :: r) = _
  unfold lineF
  rw [if_neg (by rw [h1]; simp), if_neg (by rw [h2]; simp)]
  show (if endL.contains c then _ else _) = _
  rw [if_pos h3]
theorem lineS_chr {c : UInt8} {r : Bs} (h1 : List.isPrefixOf [34] (c :: r) = false) (h2 : List.isPrefixOf [92] (c :: r) = false) (h3 : endL.contains c = false) : lineS (c :: r) = (lineS r).map fun q => (c :: q.1, q.2) := by
  show lineF ((c :: r).length + 1) (c :: r) = _
  unfold lineF
  rw [if_neg (by rw [h1]; simp), if_neg (by rw [h2]; simp)]
  show (if endL.contains c then _ else _) = _
  rw [if_neg (by rw [h3]; simp)]
  rfl
section
variable {R : Nat} {s : Bs} {b : Nat}

theorem said_at (c : UInt8) (h : escL.contains c = true) : ∃ i : Nat, i < 8 ∧ Lib.indexByte escL c = (i : Int) ∧ (ByteArray.mk #[34, 92, 47, 8, 12, 10, 13, 9]).extract i (i + 1) = ⟨#[saidL.getD (escL.idxOf c) 0]⟩ := by
  have h' : c = 34 ∨ c = 92 ∨ c = 47 ∨ c = 98 ∨ c = 102 ∨ c = 110 ∨ c = 114 ∨ c = 116 := by
    simpa [escL] using h
  rcases h' with rfl | rfl | rfl | rfl | rfl | rfl | rfl | rfl
  · exact ⟨0, by decide, by decide, by decide⟩
  · exact ⟨1, by decide, by decide, by decide⟩
  · exact ⟨2, by decide, by decide, by decide⟩
  · exact ⟨3, by decide, by decide, by decide⟩
  · exact ⟨4, by decide, by decide, by decide⟩
  · exact ⟨5, by decide, by decide, by decide⟩
  · exact ⟨6, by decide, by decide, by decide⟩
  · exact ⟨7, by decide, by decide, by decide⟩

set_option maxHeartbeats 1000000 in
theorem esc_any (l : Bs) (w : World) (h : Rd w R s b l) : Calls Tryz.prog 137 #[.pointer (some ⟨R, 0, none⟩)] w (StrP R s b w (escS l)) := by
  by_cases hp : List.isPrefixOf [117] l = true
  · have T := take_yes (R := R) (s := s) (b := b) [117] l hp w h
    rw [show escS l = nmbS (l.drop 1) by unfold escS; rw [if_pos hp]]
    have N := fun w h => nmb_any (R := R) (s := s) (b := b) (l.drop 1) w h
    cases hn : nmbS (l.drop 1) with
    | none =>
      rw [hn] at N
      clear hn hp
      go_enter Tryz.func137, Tryz.ntmps137
      go_wp2_with (first
        | (go_at_call 147; refine (N _ hr1).mono ?_; rintro e w2 ⟨rfl, hk2⟩)
        | (go_at_call 79; refine T.mono ?_; rintro e w1 ⟨rfl, hr1, hk1⟩)
        | fail)
      exact ⟨rfl, rfl, hk1.trans hk2⟩
    | some p =>
      rw [hn] at N
      clear hn hp
      go_enter Tryz.func137, Tryz.ntmps137
      go_wp2_with (first
        | (go_at_call 147; refine (N _ hr1).mono ?_; rintro e w2 ⟨⟨rfl, hr2⟩, hk2⟩)
        | (go_at_call 79; refine T.mono ?_; rintro e w1 ⟨rfl, hr1, hk1⟩)
        | fail)
      go_ret
      exact ⟨⟨rfl, hr2⟩, hk1.trans hk2⟩
  · have hp' : List.isPrefixOf [117] l = false := Bool.eq_false_iff.2 hp
    have T := take_no (R := R) (s := s) (b := b) [117] l hp' w h
    by_cases hs : headIn escL l = true
    · cases l with
      | nil => cases hs
      | cons c l =>
        have hc : escL.contains c = true := hs
        obtain ⟨i, hi, hix, hex⟩ := said_at c hc
        rw [show escS (c :: l) = some ([saidL.getD (escL.idxOf c) 0], l) by unfold escS; rw [if_neg hp]; simp only; rw [if_pos hc]]
        have E := sees_is (R := R) (s := s) (b := b) escL (c :: l) true hs
        have Y := fun w h => byte_any (R := R) (s := s) (b := b) c l w h
        have I := fun w => Tryz.strings_IndexByte ⟨escL.toArray⟩ (c.toNat : Int) w
        have e8 : ((c.toNat : Int)).toNat.toUInt8 = c := by simp
        rw [e8] at I
        have I' : ∀ w, Calls Tryz.prog 108 #[.string ⟨escL.toArray⟩, .int .u8 (c.toNat : Int)] w fun e w' => e = .returned (.int .i64 (i : Int)) ∧ w' = w := by
          intro w
          rw [← hix]
          exact I w
        have i0 : (0 : Int) ≤ (i : Int) := by omega
        have i1 : (i : Int) < 8 := by omega
        have i2 : ((i : Int) + 1).toNat = i + 1 := by omega
        clear hix I e8 hi hp hp' hs hc
        generalize saidL.getD (escL.idxOf c) 0 = x at *
        go_enter Tryz.func137, Tryz.ntmps137
        go_wp2_with (first
          | (go_at_call 108; refine (I' _).mono ?_; rintro e w4 ⟨rfl, rfl⟩)
          | (go_at_call 106; refine (Y _ hr2).mono ?_; rintro e w3 ⟨rfl, hr3, hk3⟩)
          | (go_at_call 84; refine (E _ hr1).mono ?_; rintro e w2 ⟨rfl, hr2, hk2⟩)
          | (go_at_call 79; refine T.mono ?_; rintro e w1 ⟨rfl, hr1, hk1⟩)
          | fail)
        go_ret
        exact ⟨⟨rfl, hr3⟩, (hk1.trans hk2).trans hk3⟩
    · have hs' : headIn escL l = false := Bool.eq_false_iff.2 hs
      have E := sees_is (R := R) (s := s) (b := b) escL l false hs'
      rw [show escS l = none by
        unfold escS
        rw [if_neg hp]
        cases l with
        | nil => rfl
        | cons c l => simp only; rw [if_neg (show ¬ escL.contains c = true from hs)]]
      clear hp hp' hs hs'
      go_enter Tryz.func137, Tryz.ntmps137
      go_wp2_with (first
        | (go_at_call 51; refine (fail_any _ _ _ hr2).mono ?_; rintro e w3 ⟨rfl, rfl⟩)
        | (go_at_call 84; refine (E _ hr1).mono ?_; rintro e w2 ⟨rfl, hr2, hk2⟩)
        | (go_at_call 79; refine T.mono ?_; rintro e w1 ⟨rfl, hr1, hk1⟩)
        | fail)
      exact ⟨rfl, rfl, hk1.trans hk2⟩
end
end Go.Proofs.YthficamlgngaaaaGreatDoor
