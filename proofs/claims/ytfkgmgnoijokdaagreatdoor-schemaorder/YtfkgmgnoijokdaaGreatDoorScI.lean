/- Schemas: which names a type may have. -/
import Derived.Test.YtfkgmgnoijokdaaGreatDoorScH
namespace Go.Proofs.YtfkgmgnoijokdaaGreatDoor
open Go Go.RowKit Go.Shelf
set_option maxRecDepth 100000 in
theorem hfreeType1_any (x p : Bs) (P : Nat) (w : World) (h : w.cell? ⟨P, 0, none⟩ = some (.string ⟨x.toArray⟩)) : Calls Tryz.prog 78 (#[.string ⟨p.toArray⟩] ++ #[.pointer (some ⟨P, 0, none⟩)]) w fun e w' => e = .returned (.bool (!Lib.hasPrefix x p)) ∧ Below w.heap.size w w' := by
  have PF := fun w1 => Tryz.strings_HasPrefix ⟨x.toArray⟩ ⟨p.toArray⟩ w1
  have e : (Lib.hasPrefix (ByteArray.mk x.toArray).data.toList (ByteArray.mk p.toArray).data.toList) = Lib.hasPrefix x p := rfl
  rw [e] at PF
  show Calls Tryz.prog 78 #[.string ⟨p.toArray⟩, .pointer (some ⟨P, 0, none⟩)] w _
  go_enter Tryz.func78, Tryz.ntmps78
  go_wp2_with (first
    | (go_at_call 79; (with_reducible refine (PF _).mono ?_); rintro e w3 ⟨rfl, rfl⟩)
    | fail)
  go_ret
  exact ⟨rfl, Below.refl _ _⟩
set_option maxRecDepth 100000 in
theorem hfreeType2_any (x p : Bs) (P : Nat) (w : World) (hx : x.length ≤ 24) (h : w.cell? ⟨P, 0, none⟩ = some (.string ⟨x.toArray⟩)) : Calls Tryz.prog 80 (#[.string ⟨p.toArray⟩] ++ #[.pointer (some ⟨P, 0, none⟩)]) w fun e w' => e = .returned (.bool (!Lib.hasSuffix x p)) ∧ Below w.heap.size w w' := by
  have PF := fun w1 => Tryz.strings_HasSuffix ⟨x.toArray⟩ ⟨p.toArray⟩ w1 (by rw [size_of]; omega)
  have e : (Lib.hasSuffix (ByteArray.mk x.toArray).data.toList (ByteArray.mk p.toArray).data.toList) = Lib.hasSuffix x p := rfl
  rw [e] at PF
  show Calls Tryz.prog 80 #[.string ⟨p.toArray⟩, .pointer (some ⟨P, 0, none⟩)] w _
  go_enter Tryz.func80, Tryz.ntmps80
  go_wp2_with (first
    | (go_at_call 81; (with_reducible refine (PF _).mono ?_); rintro e w3 ⟨rfl, rfl⟩)
    | fail)
  go_ret
  exact ⟨rfl, Below.refl _ _⟩
def frtS (x : Bs) : Bool := !(x == [81, 117, 101, 114, 121] || x == [77, 117, 116, 97, 116, 105, 111, 110] || x == [83, 117, 98, 115, 99, 114, 105, 112, 116, 105, 111, 110] || x == [73, 68]) && (shoS x && !scaS x && ([[65, 100, 100], [80, 97, 116, 99, 104]] : List Bs).all (fun p => !Lib.hasPrefix x p) && ([[70, 105, 108, 116, 101, 114], [79, 114, 100, 101, 114], [79, 114, 100, 101, 114, 97, 98, 108, 101]] : List Bs).all (fun p => !Lib.hasSuffix x p))
theorem wds_pr {w : World} {q : Nat} (h : w.heap[q]? = some (.cells #[.string ⟨#[65, 100, 100]⟩, .string ⟨#[80, 97, 116, 99, 104]⟩] 9)) : WdsAt w (.slice (some ⟨q, 0, none⟩) 2 2) [[65, 100, 100], [80, 97, 116, 99, 104]] := by
  refine ⟨_, 2, rfl, Nat.le_refl _, by decide, fun _ => ⟨q, 0, rfl, lt_of_block h, fun i hi x hx => ?_⟩⟩
  change i < 2 at hi
  rcases (show i = 0 ∨ i = 1 by omega) with rfl | rfl <;> (simp only [List.getElem?_cons_zero, List.getElem?_cons_succ] at hx; cases hx; simp [World.cell?, h])
theorem wds_su {w : World} {q : Nat} (h : w.heap[q]? = some (.cells #[.string ⟨#[70, 105, 108, 116, 101, 114]⟩, .string ⟨#[79, 114, 100, 101, 114]⟩, .string ⟨#[79, 114, 100, 101, 114, 97, 98, 108, 101]⟩] 9)) : WdsAt w (.slice (some ⟨q, 0, none⟩) 3 3) [[70, 105, 108, 116, 101, 114], [79, 114, 100, 101, 114], [79, 114, 100, 101, 114, 97, 98, 108, 101]] := by
  refine ⟨_, 3, rfl, Nat.le_refl _, by decide, fun _ => ⟨q, 0, rfl, lt_of_block h, fun i hi x hx => ?_⟩⟩
  change i < 3 at hi
  rcases (show i = 0 ∨ i = 1 ∨ i = 2 by omega) with rfl | rfl | rfl <;> (simp only [List.getElem?_cons_zero, List.getElem?_cons_succ] at hx; cases hx; simp [World.cell?, h])
theorem sho_len {x : Bs} (h : shoS x = true) : x.length ≤ 24 := by
  unfold shoS at h
  simp only [Bool.and_eq_true, decide_eq_true_eq] at h
  have := h.1.1
  omega
set_option maxRecDepth 100000 in
set_option maxHeartbeats 4000000 in
theorem hfreeType_any (x : Bs) (w : World) (gl : Gl w) : Calls Tryz.prog 57 #[.string ⟨x.toArray⟩] w fun e w' => e = .returned (.bool (frtS x)) ∧ Below w.heap.size w w' := by
  have SH := fun o => hshort_any x (w.alloc o) (gl.below (al1 w o) (Nat.le_refl _))
  have SC := fun w1 => hscalar_any x w1
  have hmf := Tryz.makeFn
  have E1 := fun W (b : Below (w.alloc (.cells #[.string ⟨x.toArray⟩] 9)).heap.size (w.alloc (.cells #[.string ⟨x.toArray⟩] 9)) W) => every_string 78 #[.pointer (some ⟨w.heap.size, 0, none⟩)] (fun p => !Lib.hasPrefix x p) (W.alloc (.cells #[.string ⟨#[65, 100, 100]⟩, .string ⟨#[80, 97, 116, 99, 104]⟩] 9)) (wds_pr (heap_alloc_new W _)) (fun _ _ => rfl) (fun p W2 _ b2 => hfreeType1_any x p w.heap.size W2 (cell_on b2 (cell_on (al1 W _) (cell_on b (row1 (heap_alloc_new w _)).1))))
  have E2 := fun (hx : x.length ≤ 24) W (b : Below (w.alloc (.cells #[.string ⟨x.toArray⟩] 9)).heap.size (w.alloc (.cells #[.string ⟨x.toArray⟩] 9)) W) => every_string 80 #[.pointer (some ⟨w.heap.size, 0, none⟩)] (fun p => !Lib.hasSuffix x p) (W.alloc (.cells #[.string ⟨#[70, 105, 108, 116, 101, 114]⟩, .string ⟨#[79, 114, 100, 101, 114]⟩, .string ⟨#[79, 114, 100, 101, 114, 97, 98, 108, 101]⟩] 9)) (wds_su (heap_alloc_new W _)) (fun _ _ => rfl) (fun p W2 _ b2 => hfreeType2_any x p w.heap.size W2 hx (cell_on b2 (cell_on (al1 W _) (cell_on b (row1 (heap_alloc_new w _)).1))))
  have hln := sho_len (x := x)
  unfold frtS
  generalize ([[65, 100, 100], [80, 97, 116, 99, 104]] : List Bs).all (fun p => !Lib.hasPrefix x p) = b3 at *
  generalize ([[70, 105, 108, 116, 101, 114], [79, 114, 100, 101, 114], [79, 114, 100, 101, 114, 97, 98, 108, 101]] : List Bs).all (fun p => !Lib.hasSuffix x p) = b4 at *
  generalize shoS x = b1 at *
  generalize scaS x = b2 at *
  have B0 := al1 w (.cells #[.string ⟨x.toArray⟩] 9)
  cases c4 : (x == [81, 117, 101, 114, 121]) with
  | true =>
    go_enter Tryz.func57, Tryz.ntmps57
    go_wp2
    go_ret
    exact ⟨by simp, B0⟩
  | false =>
    cases c3 : (x == [77, 117, 116, 97, 116, 105, 111, 110]) with
    | true =>
      go_enter Tryz.func57, Tryz.ntmps57
      go_wp2
      go_ret
      exact ⟨by simp, B0⟩
    | false =>
      cases c2 : (x == [83, 117, 98, 115, 99, 114, 105, 112, 116, 105, 111, 110]) with
      | true =>
        go_enter Tryz.func57, Tryz.ntmps57
        go_wp2
        go_ret
        exact ⟨by simp, B0⟩
      | false =>
        cases c1 : (x == [73, 68]) with
        | true =>
          go_enter Tryz.func57, Tryz.ntmps57
          go_wp2
          go_ret
          exact ⟨by simp, B0⟩
        | false =>
          cases b1 with
          | false =>
            go_enter Tryz.func57, Tryz.ntmps57
            go_wp2_with (first
              | (go_at_call 61; (with_reducible refine (SH _).mono ?_); rintro e w2 ⟨rfl, b2⟩; obtain ⟨q0, fq⟩ := row1 ((b2.block _ (by simp)).trans (heap_alloc_new w (.cells #[.string ⟨x.toArray⟩] 9))))
              | fail)
            go_ret
            exact ⟨by simp, B0.trans (b2.mono B0.size)⟩
          | true =>
            have E3 := E2 (hln rfl)
            clear E2 hln
            cases b2 with
            | true =>
              go_enter Tryz.func57, Tryz.ntmps57
              go_wp2_with (first
                | (go_at_call 16; (with_reducible refine (SC _).mono ?_); rintro e w3 ⟨rfl, rfl⟩)
                | (go_at_call 61; (with_reducible refine (SH _).mono ?_); rintro e w2 ⟨rfl, b2⟩; obtain ⟨q0, fq⟩ := row1 ((b2.block _ (by simp)).trans (heap_alloc_new w (.cells #[.string ⟨x.toArray⟩] 9))))
                | fail)
              go_ret
              exact ⟨by simp, B0.trans (b2.mono B0.size)⟩
            | false =>
              cases b3 with
              | false =>
                go_enter Tryz.func57, Tryz.ntmps57
                go_wp2_with (first
                  | (go_at_call 59; (with_reducible refine (E1 _ b2).mono ?_); rintro e w4 ⟨rfl, b4⟩; have C4 := b2.trans (((al1 _ _).trans (b4.mono (al1 _ _).size)).mono b2.size); obtain ⟨r0, fr⟩ := row1 ((C4.block _ (by simp)).trans (heap_alloc_new w (.cells #[.string ⟨x.toArray⟩] 9))))
                  | (go_at_call 16; (with_reducible refine (SC _).mono ?_); rintro e w3 ⟨rfl, rfl⟩)
                  | (go_at_call 61; (with_reducible refine (SH _).mono ?_); rintro e w2 ⟨rfl, b2⟩; obtain ⟨q0, fq⟩ := row1 ((b2.block _ (by simp)).trans (heap_alloc_new w (.cells #[.string ⟨x.toArray⟩] 9))))
                  | fail)
                go_ret
                exact ⟨by simp, B0.trans (C4.mono B0.size)⟩
              | true =>
                go_enter Tryz.func57, Tryz.ntmps57
                go_wp2_with (first
                  | (go_at_call 59; (with_reducible refine (E3 _ C4).mono ?_); rintro e w5 ⟨rfl, b5⟩)
                  | (go_at_call 59; (with_reducible refine (E1 _ b2).mono ?_); rintro e w4 ⟨rfl, b4⟩; have C4 := b2.trans (((al1 _ _).trans (b4.mono (al1 _ _).size)).mono b2.size); obtain ⟨r0, fr⟩ := row1 ((C4.block _ (by simp)).trans (heap_alloc_new w (.cells #[.string ⟨x.toArray⟩] 9))))
                  | (go_at_call 16; (with_reducible refine (SC _).mono ?_); rintro e w3 ⟨rfl, rfl⟩)
                  | (go_at_call 61; (with_reducible refine (SH _).mono ?_); rintro e w2 ⟨rfl, b2⟩; obtain ⟨q0, fq⟩ := row1 ((b2.block _ (by simp)).trans (heap_alloc_new w (.cells #[.string ⟨x.toArray⟩] 9))))
                  | fail)
                go_ret
                exact ⟨by simp, B0.trans ((C4.trans (((al1 w4 _).trans (b5.mono (al1 w4 _).size)).mono C4.size)).mono B0.size)⟩
end Go.Proofs.YtfkgmgnoijokdaaGreatDoor
