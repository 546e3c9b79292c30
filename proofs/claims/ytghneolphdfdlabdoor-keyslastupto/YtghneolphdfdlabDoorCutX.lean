/- A text read up to its end. -/
import Derived.Test.YtghneolphdfdlabDoorBld
namespace Go.Proofs.YtghneolphdfdlabDoor
open Go Go.RowKit

theorem isB_new (w : World) : Lib.IsBuilder 71 5 w.heap.size w.heap.size (Lib.byteCells []) (w.alloc (.cells #[.pointer none, .slice none 0 0] 71)) :=
  Or.inl ⟨Nat.le_refl _, _, heap_alloc_new _ _, World.ownsRow_nil _ _ _ _, by simp [Value.ownBlock]⟩
theorem isB_drewN {T e B b : Nat} {bs : List Value} {w : World} (h : Lib.IsBuilder T e B b bs w) (n : Nat) : Lib.IsBuilder T e B b bs (w.drewN n) := h
theorem mk_size (l : List UInt8) : (ByteArray.mk l.toArray).size = l.length := rfl
theorem mk_data (s : ByteArray) : (⟨s.data.toList.toArray⟩ : ByteArray) = s := by cases s; simp

theorem ext_first (d : UInt8) (r : List UInt8) : (ByteArray.mk (d :: r).toArray).extract 0 1 = ⟨#[d]⟩ := by
  apply ByteArray.ext
  simp
theorem ext_rest (d : UInt8) (r : List UInt8) : (ByteArray.mk (d :: r).toArray).extract 1 (ByteArray.mk (d :: r).toArray).size = ⟨r.toArray⟩ := by
  apply ByteArray.ext
  rw [mk_size]
  simp

theorem belD {B : Nat} {a w : World} (h : Below B a w) (n : Nat) : Below B a (w.drewN n) := h.trans ⟨rfl, rfl, rfl, Nat.le_refl _, fun _ _ => rfl⟩
theorem belE {B : Nat} {a w : World} (h : Below B a w) : Below B a w.drew := h.trans ⟨rfl, rfl, rfl, Nat.le_refl _, fun _ _ => rfl⟩

def textOf (o : Option (List UInt8 × List UInt8)) : Value := match o with
  | some x => .tuple #[.string ⟨x.1.toArray⟩, .string ⟨x.2.toArray⟩, .bool true]
  | none => .tuple #[.string ⟨#[]⟩, .string ⟨#[]⟩, .bool false]

set_option maxHeartbeats 4000000 in
theorem cutText_any (s : ByteArray) (w : World) (hs : s.size ≤ 4000000000) (hM : SomeMax w) :
    Calls Tryd.prog 25 #[.string s] w fun e w' => e = .returned (textOf (cutT s.data.toList)) ∧ Below w.heap.size w w' := by
  have hMlt := hM.lt
  go_enter Tryd.func25, Tryd.ntmps25
  go_wp2
  go_loopw [0] (fun t wr => ∃ (l acc : List UInt8), t = .string ⟨l.toArray⟩ ∧ acc.length + l.length ≤ s.size ∧ cutT s.data.toList = (cutT l).map (fun x => (acc ++ x.1, x.2)) ∧ Lib.IsBuilder 71 5 w.heap.size w.heap.size (Lib.byteCells acc) wr ∧ Below w.heap.size w wr) (fun t _ => match t with | .string b => b.size | _ => 0)
  case atStart =>
    refine ⟨s.data.toList, [], ?_, ?_, ?_, isB_new w, (Below.refl _ _).alloc (Nat.le_refl _) _⟩
    · rw [mk_data]
    · have : s.data.toList.length = s.size := by rw [Array.length_toList]; rfl
      simp [this]
    · cases cutT s.data.toList <;> rfl
  case round =>
    obtain ⟨l, acc, rfl, hlen, hcut, hB, hbr⟩ := hrel
    have HC : Hid (cutT s.data.toList = (cutT l).map (fun x => (acc ++ x.1, x.2))) := hcut
    clear hcut
    have hz := hbr.size
    obtain ⟨m, hm⟩ := hM.below hbr hMlt
    have CT := fun n => Tryd.strings_Cut ⟨l.toArray⟩ ⟨#[0]⟩ m (wr.drewN n) (by rw [mk_size]; omega) hm
    dsimp only at CT
    clear hm
    rcases cut_zero l with ⟨h1, h2⟩ | ⟨p, b, h1, h2, h3⟩
    · simp only [h1] at CT
      have HR : Hid (cutT s.data.toList = none) := by rw [HC.out, cutT_none l h2]; rfl
      clear h1
      go_wp2_with (go_at_call 36; refine (CT 0).mono ?_; rintro e w1 ⟨rfl, n, rfl⟩)
      go_returns
      rw [HR.out]
      exact ⟨rfl, hbr.trans ⟨rfl, rfl, rfl, Nat.le_refl _, fun _ _ => rfl⟩⟩
    · simp only [h3] at CT
      clear h3
      subst h1
      cases b with
      | nil =>
        have HR : Hid (cutT s.data.toList = none) := by rw [HC.out, cutT_stop p h2]; rfl
        go_wp2_with (go_at_call 36; refine (CT 0).mono ?_; rintro e w1 ⟨rfl, n, rfl⟩)
        go_returns
        rw [HR.out]
        exact ⟨rfl, hbr.trans ⟨rfl, rfl, rfl, Nat.le_refl _, fun _ _ => rfl⟩⟩
      | cons d r =>
        obtain ⟨bb, hbb⟩ : ∃ bb : ByteArray, bb = ⟨(d :: r).toArray⟩ := ⟨_, rfl⟩
        rw [← hbb] at CT
        have b1 : bb.size = r.length + 1 := by rw [hbb]; rfl
        have b2 : bb.extract 0 1 = ⟨#[d]⟩ := by rw [hbb]; exact ext_first d r
        have b3 : bb.extract 1 (r.length + 1) = ⟨r.toArray⟩ := by rw [hbb]; exact ext_rest d r
        have b4 : bb.toList.isEmpty = false := by
          rw [hbb, ByteArray.toList_eq]; simp
        have b5 : (1 : Int) ≤ bb.size := by omega
        clear hbb
        have hl2 : acc.length + p.length + r.length + 2 ≤ s.size := by simp at hlen; omega
        have WS := fun n => writeString_any w.heap.size w.heap.size (Lib.byteCells acc) ⟨p.toArray⟩ (wr.drewN n) (isB_drewN hB n) (by rw [mk_size]; simp [Lib.byteCells]; omega) hz
        by_cases d0 : d = 0
        · subst d0
          have HR : Hid (cutT s.data.toList = some (acc ++ p, r)) := by rw [HC.out, cutT_end p r h2]; rfl
          clear h2 HC hlen
          go_wp2_with (first
            | (go_at_call 36; refine (CT 0).mono ?_; rintro e w1 ⟨rfl, n, rfl⟩)
            | (go_at_call 37; refine (WS _).mono ?_; rintro e w2 ⟨rfl, hB2, hb2⟩))
          have hbw2 : Below w.heap.size w w2 := (belD hbr _).trans hb2
          have hz2 := hbw2.size
          have hB3 : Lib.IsBuilder 71 5 w.heap.size w.heap.size (Lib.byteCells (acc ++ p)) w2 := by
            rw [cells_app, ← strCells_eq p]; exact Or.inr hB2
          have ST := Tryd.Builder_String_any w.heap.size w.heap.size (acc ++ p) w2.drew hB3 hz2
          clear hB2 hb2 WS CT hB b2
          go_region_with ((go_at_call 38; refine ST.mono ?_; rintro e w3 ⟨rfl, hb3⟩))
          all_goals
            go_wp2
            go_returns
            rw [HR.out]
            exact ⟨rfl, (belE hbw2).trans hb3⟩
        · by_cases d1 : d = 255
          · subst d1
            have HR : Hid (cutT s.data.toList = (cutT r).map fun x => ((acc ++ p ++ [0]) ++ x.1, x.2)) := by
              show _ = _
              rw [HC.out, cutT_more p r h2, Option.map_map]
              cases cutT r <;> simp
            have WS2 := fun w2 (hB2 : Lib.BuilderAt 71 5 w.heap.size w.heap.size (.pointer (some ⟨w.heap.size, 0, none⟩)) (Lib.byteCells acc ++ Lib.strCells ⟨p.toArray⟩) w2) hz2 => writeString_any w.heap.size w.heap.size (Lib.byteCells acc ++ Lib.strCells ⟨p.toArray⟩) ⟨#[0]⟩ w2 (Or.inr hB2) (by
              rw [List.length_append, Lib.strCells_length, mk_size]
              have e1 : (ByteArray.mk #[(0 : UInt8)]).size = 1 := rfl
              rw [e1]
              simp [Lib.byteCells]
              omega) hz2
            clear h2 HC hlen d0
            go_wp2_with (first
              | (go_at_call 36; refine (CT 0).mono ?_; rintro e w1 ⟨rfl, n, rfl⟩)
              | (go_at_call 37; with_reducible refine (WS _).mono ?_; rintro e w2 ⟨rfl, hB2, hb2⟩; have hbw2 : Below w.heap.size w w2 := (belD hbr _).trans hb2; have hz2 := hbw2.size)
              | (go_at_call 37; refine (WS2 _ hB2 hz2).mono ?_; rintro e w3 ⟨rfl, hB3, hb3⟩))
            refine ⟨⟨r, acc ++ p ++ [0], by first | rfl | rw [b3], by simp; omega, HR.out, ?_, hbw2.trans hb3⟩, ?_⟩
            · rw [cells_app, cells_app, ← strCells_eq p, ← strCells_eq [0]]
              exact Or.inr hB3
            · first
                | (show (ByteArray.mk r.toArray).size < (ByteArray.mk (p ++ 0 :: 255 :: r).toArray).size; rw [mk_size, mk_size]; simp; omega)
                | (rw [b3]; show (ByteArray.mk r.toArray).size < (ByteArray.mk (p ++ 0 :: 255 :: r).toArray).size; rw [mk_size, mk_size]; simp; omega)
          · have HR : Hid (cutT s.data.toList = none) := by rw [HC.out, cutT_bad p r d h2 d0 d1]; rfl
            have x0 : (d == 0) = false := by simpa using d0
            have x1 : (d == 255) = false := by simpa using d1
            clear h2 HC hlen d0 d1
            go_wp2_with (first
              | (go_at_call 36; refine (CT 0).mono ?_; rintro e w1 ⟨rfl, n, rfl⟩)
              | (go_at_call 37; with_reducible refine (WS _).mono ?_; rintro e w2 ⟨rfl, hB2, hb2⟩))
            go_returns
            rw [HR.out]
            exact ⟨rfl, (belD hbr _).trans hb2⟩
end Go.Proofs.YtghneolphdfdlabDoor
