/- Schemas: how many there may be of each; which names there may be. -/
import Derived.Test.YtfkgmgnoijokdaaGreatDoorScG
namespace Go.Proofs.YtfkgmgnoijokdaaGreatDoor
open Go Go.RowKit Go.Shelf
def betS (n a b : Int) : Bool := decide (a ≤ n) && decide (n ≤ b)
set_option maxRecDepth 100000 in
theorem hbetween_any (n a b : Int) (w : World) : Calls Tryz.prog 51 #[.int .i64 n, .int .i64 a, .int .i64 b] w fun e w' => e = .returned (.bool (betS n a b)) ∧ w' = w := by
  unfold betS
  cases h1 : decide (a ≤ n) with
  | true =>
    go_enter Tryz.func51, Tryz.ntmps51
    go_wp2
    go_ret
    exact ⟨by simp, rfl⟩
  | false =>
    go_enter Tryz.func51, Tryz.ntmps51
    go_wp2
    go_ret
    exact ⟨rfl, rfl⟩
set_option maxRecDepth 100000 in
theorem hmany1_any (x : Ob) (a1 : Option Addr) (c1 : Nat) (w : World) : Calls Tryz.prog 53 (#[.agg #[.string ⟨x.n.toArray⟩, .slice a1 x.fs.length c1]] ++ #[]) w fun e w' => e = .returned (.bool (betS x.fs.length 1 12)) ∧ Below w.heap.size w w' := by
  have BT := fun w1 => hbetween_any x.fs.length 1 12 w1
  show Calls Tryz.prog 53 #[.agg #[.string ⟨x.n.toArray⟩, .slice a1 x.fs.length c1]] w _
  go_enter Tryz.func53, Tryz.ntmps53
  go_wp2_with (first
    | (go_at_call 51; (with_reducible refine (BT _).mono ?_); rintro e w2 ⟨rfl, rfl⟩)
    | fail)
  go_ret
  exact ⟨rfl, al1 w _⟩
set_option maxRecDepth 100000 in
theorem hmany2_any (x : En) (a1 : Option Addr) (c1 : Nat) (w : World) : Calls Tryz.prog 55 (#[.agg #[.string ⟨x.n.toArray⟩, .slice a1 x.ws.length c1]] ++ #[]) w fun e w' => e = .returned (.bool (betS x.ws.length 1 16)) ∧ Below w.heap.size w w' := by
  have BT := fun w1 => hbetween_any x.ws.length 1 16 w1
  show Calls Tryz.prog 55 #[.agg #[.string ⟨x.n.toArray⟩, .slice a1 x.ws.length c1]] w _
  go_enter Tryz.func55, Tryz.ntmps55
  go_wp2_with (first
    | (go_at_call 51; (with_reducible refine (BT _).mono ?_); rintro e w2 ⟨rfl, rfl⟩)
    | fail)
  go_ret
  exact ⟨rfl, al1 w _⟩
def manS (s : Sch) : Bool := betS s.os.length 1 8 && decide ((s.es.length : Int) ≤ 8) && s.os.all (fun x => betS x.fs.length 1 12) && s.es.all (fun x => betS x.ws.length 1 16)
section
variable {w : World} {ov ev : Value} {s : Sch}
set_option maxRecDepth 100000 in
set_option maxHeartbeats 2000000 in
theorem hmany_any (h : SchAt w ov ev s) : Calls Tryz.prog 23 #[.agg #[ov, ev]] w fun e w' => e = .returned (.bool (manS s)) ∧ Below w.heap.size w w' := by
  have BT := fun w1 => hbetween_any s.os.length 1 8 w1
  have E1 := fun o => every_Object 53 #[] (fun x => betS x.fs.length 1 12) (w.alloc o) (h.os.on (al1 w o)) (fun _ _ => rfl) (fun x a1 c1 W _ _ _ => hmany1_any x a1 c1 W)
  have E2 := fun W (b : Below w.heap.size w W) => every_Enum 55 #[] (fun x => betS x.ws.length 1 16) W (h.es.on b) (fun _ _ => rfl) (fun x a1 c1 W _ _ _ => hmany2_any x a1 c1 W)
  obtain ⟨a, c, rfl, _, _⟩ := h.os.slice
  obtain ⟨a', c', rfl, _, _⟩ := h.es.slice
  unfold manS
  generalize s.os.all (fun x => betS x.fs.length 1 12) = b3 at *
  generalize s.es.all (fun x => betS x.ws.length 1 16) = b4 at *
  cases h1 : betS s.os.length 1 8 with
  | false =>
    rw [h1] at BT
    clear h1
    go_enter Tryz.func23, Tryz.ntmps23
    go_wp2_with (first
      | (go_at_call 51; (with_reducible refine (BT _).mono ?_); rintro e w2 ⟨rfl, rfl⟩)
      | fail)
    go_ret
    exact ⟨by simp, al1 w _⟩
  | true =>
    rw [h1] at BT
    clear h1
    cases h2 : decide ((s.es.length : Int) ≤ 8) with
    | false =>
      go_enter Tryz.func23, Tryz.ntmps23
      go_wp2_with (first
        | (go_at_call 51; (with_reducible refine (BT _).mono ?_); rintro e w2 ⟨rfl, rfl⟩)
        | fail)
      go_ret
      exact ⟨by simp, al1 w _⟩
    | true =>
      cases b3 with
      | false =>
        go_enter Tryz.func23, Tryz.ntmps23
        go_wp2_with (first
          | (go_at_call 52; (with_reducible refine (E1 _).mono ?_); rintro e w3 ⟨rfl, b3⟩)
          | (go_at_call 51; (with_reducible refine (BT _).mono ?_); rintro e w2 ⟨rfl, rfl⟩)
          | fail)
        go_ret
        exact ⟨by simp, (al1 w _).trans (b3.mono (al1 w _).size)⟩
      | true =>
        go_enter Tryz.func23, Tryz.ntmps23
        go_wp2_with (first
          | (go_at_call 54; (with_reducible refine (E2 _ B3).mono ?_); rintro e w4 ⟨rfl, b4⟩)
          | (go_at_call 52; (with_reducible refine (E1 _).mono ?_); rintro e w3 ⟨rfl, b3⟩; have B3 := (al1 w _).trans (b3.mono (al1 w _).size); obtain ⟨q0, q1, fq⟩ := row2 ((b3.block _ (by simp)).trans (heap_alloc_new w (.cells #[.slice a s.os.length c, .slice a' s.es.length c'] 25))))
          | (go_at_call 51; (with_reducible refine (BT _).mono ?_); rintro e w2 ⟨rfl, rfl⟩)
          | fail)
        go_ret
        exact ⟨by simp, B3.trans (b4.mono B3.size)⟩
end
def shoS (x : Bs) : Bool := decide ((x.length : Int) ≤ 24) && nameK x && !Lib.hasPrefix x [95, 95]
set_option maxRecDepth 100000 in
theorem hshort_any (x : Bs) (w : World) (gl : Gl w) : Calls Tryz.prog 61 #[.string ⟨x.toArray⟩] w fun e w' => e = .returned (.bool (shoS x)) ∧ Below w.heap.size w w' := by
  have NM := yname_any x w gl
  have PF := fun w1 => Tryz.strings_HasPrefix ⟨x.toArray⟩ ⟨#[95, 95]⟩ w1
  have hsz := size_of x
  unfold shoS
  have e : (Lib.hasPrefix (ByteArray.mk x.toArray).data.toList (ByteArray.mk #[95, 95]).data.toList) = Lib.hasPrefix x [95, 95] := rfl
  rw [e] at PF
  generalize Lib.hasPrefix x [95, 95] = b3 at *
  generalize nameK x = b2 at *
  cases h1 : decide ((x.length : Int) ≤ 24) with
  | false =>
    go_enter Tryz.func61, Tryz.ntmps61
    go_wp2
    go_ret
    exact ⟨by simp, Below.refl _ _⟩
  | true =>
    cases b2 with
    | false =>
      go_enter Tryz.func61, Tryz.ntmps61
      go_wp2_with (first
        | (go_at_call 82; (with_reducible refine NM.mono ?_); rintro e w2 ⟨rfl, b2⟩)
        | fail)
      go_ret
      exact ⟨by simp, b2⟩
    | true =>
      go_enter Tryz.func61, Tryz.ntmps61
      go_wp2_with (first
        | (go_at_call 79; (with_reducible refine (PF _).mono ?_); rintro e w3 ⟨rfl, rfl⟩)
        | (go_at_call 82; (with_reducible refine NM.mono ?_); rintro e w2 ⟨rfl, b2⟩)
        | fail)
      go_ret
      exact ⟨by simp, b2⟩
def frfS (x : Bs) : Bool := !(x == [105, 100] || x == [97, 110, 100] || x == [111, 114] || x == [110, 111, 116]) && shoS x
set_option maxRecDepth 100000 in
theorem hfreeField_any (x : Bs) (w : World) (gl : Gl w) : Calls Tryz.prog 28 #[.string ⟨x.toArray⟩] w fun e w' => e = .returned (.bool (frfS x)) ∧ Below w.heap.size w w' := by
  have SH := hshort_any x w gl
  unfold frfS
  generalize shoS x = b at *
  cases c4 : (x == [105, 100]) with
  | true =>
    go_enter Tryz.func28, Tryz.ntmps28
    go_wp2
    go_ret
    exact ⟨by simp, Below.refl _ _⟩
  | false =>
    cases c3 : (x == [97, 110, 100]) with
    | true =>
      go_enter Tryz.func28, Tryz.ntmps28
      go_wp2
      go_ret
      exact ⟨by simp, Below.refl _ _⟩
    | false =>
      cases c2 : (x == [111, 114]) with
      | true =>
        go_enter Tryz.func28, Tryz.ntmps28
        go_wp2
        go_ret
        exact ⟨by simp, Below.refl _ _⟩
      | false =>
        cases c1 : (x == [110, 111, 116]) with
        | true =>
          go_enter Tryz.func28, Tryz.ntmps28
          go_wp2
          go_ret
          exact ⟨by simp, Below.refl _ _⟩
        | false =>
          go_enter Tryz.func28, Tryz.ntmps28
          go_wp2_with (first
            | (go_at_call 61; (with_reducible refine SH.mono ?_); rintro e w2 ⟨rfl, b2⟩)
            | fail)
          go_ret
          exact ⟨by simp, b2⟩
def frwS (x : Bs) : Bool := !(x == [116, 114, 117, 101] || x == [102, 97, 108, 115, 101] || x == [110, 117, 108, 108]) && shoS x
set_option maxRecDepth 100000 in
theorem hfreeWord_any (x : Bs) (w : World) (gl : Gl w) : Calls Tryz.prog 60 #[.string ⟨x.toArray⟩] w fun e w' => e = .returned (.bool (frwS x)) ∧ Below w.heap.size w w' := by
  have SH := hshort_any x w gl
  unfold frwS
  generalize shoS x = b at *
  cases c3 : (x == [116, 114, 117, 101]) with
  | true =>
    go_enter Tryz.func60, Tryz.ntmps60
    go_wp2
    go_ret
    exact ⟨by simp, Below.refl _ _⟩
  | false =>
    cases c2 : (x == [102, 97, 108, 115, 101]) with
    | true =>
      go_enter Tryz.func60, Tryz.ntmps60
      go_wp2
      go_ret
      exact ⟨by simp, Below.refl _ _⟩
    | false =>
      cases c1 : (x == [110, 117, 108, 108]) with
      | true =>
        go_enter Tryz.func60, Tryz.ntmps60
        go_wp2
        go_ret
        exact ⟨by simp, Below.refl _ _⟩
      | false =>
        go_enter Tryz.func60, Tryz.ntmps60
        go_wp2_with (first
          | (go_at_call 61; (with_reducible refine SH.mono ?_); rintro e w2 ⟨rfl, b2⟩)
          | fail)
        go_ret
        exact ⟨by simp, b2⟩
end Go.Proofs.YtfkgmgnoijokdaaGreatDoor
