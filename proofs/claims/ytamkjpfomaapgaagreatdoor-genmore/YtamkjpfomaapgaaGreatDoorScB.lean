/- Schemas: scalars, and the place of a name in a list. -/
import Derived.Test.YtamkjpfomaapgaaGreatDoorScA
import Derived.Deep.RegionHeld3
namespace Go.Proofs.YtamkjpfomaapgaaGreatDoor
open Go Go.RowKit Go.Shelf
abbrev intB : Bs := [73, 110, 116]
abbrev floB : Bs := [70, 108, 111, 97, 116]
abbrev strB : Bs := [83, 116, 114, 105, 110, 103]
abbrev booB : Bs := [66, 111, 111, 108, 101, 97, 110]
def scaS (x : Bs) : Bool := x == intB || x == floB || x == strB || x == booB
set_option maxRecDepth 100000 in
theorem hscalar_any (x : Bs) (w : World) : Calls Tryz.prog 105 #[.string ⟨x.toArray⟩] w fun e w' => e = .returned (.bool (scaS x)) ∧ w' = w := by
  show Calls Tryz.prog 105 #[.string ⟨x.toArray⟩] w fun e w' => e = .returned (.bool (x == [73, 110, 116] || x == [70, 108, 111, 97, 116] || x == [83, 116, 114, 105, 110, 103] || x == [66, 111, 111, 108, 101, 97, 110])) ∧ w' = w
  cases c_intB : (x == [73, 110, 116]) with
  | true =>
    go_enter Tryz.func105, Tryz.ntmps105
    go_wp2
    go_ret
    exact ⟨rfl, rfl⟩
  | false =>
    cases c_floB : (x == [70, 108, 111, 97, 116]) with
    | true =>
      go_enter Tryz.func105, Tryz.ntmps105
      go_wp2
      go_ret
      exact ⟨rfl, rfl⟩
    | false =>
      cases c_strB : (x == [83, 116, 114, 105, 110, 103]) with
      | true =>
        go_enter Tryz.func105, Tryz.ntmps105
        go_wp2
        go_ret
        exact ⟨rfl, rfl⟩
      | false =>
        cases c_booB : (x == [66, 111, 111, 108, 101, 97, 110]) with
        | true =>
          go_enter Tryz.func105, Tryz.ntmps105
          go_wp2
          go_ret
          exact ⟨rfl, rfl⟩
        | false =>
          go_enter Tryz.func105, Tryz.ntmps105
          go_wp2
          go_ret
          exact ⟨rfl, rfl⟩
theorem bel_drew {w w2 : World} {o : Obj} (b : Below (w.alloc o).drew.heap.size (w.alloc o).drew w2) : Below w.heap.size w w2 := by
  have A : Below w.heap.size w (w.alloc o).drew := ⟨(al1 w o).os, (al1 w o).tape, (al1 w o).output, (al1 w o).size, (al1 w o).block⟩
  exact A.trans (b.mono A.size)
theorem bel_drew0 {w w2 : World} (b : Below w.drew.heap.size w.drew w2) : Below w.heap.size w w2 := ⟨b.os, b.tape, b.output, b.size, b.block⟩
theorem Tryz.mkFunc (fn : Fn) (first cap : Array Value) (w : World) : (Instr.makeFunc fn first cap).run Tryz.prog w = .ok (.func fn first cap) w := rfl
set_option maxRecDepth 100000 in
theorem hobjectName_any (x : Ob) (a : Option Addr) (l c : Nat) (w : World) : Calls Tryz.prog 86 #[.agg #[.string ⟨x.n.toArray⟩, .slice a l c]] w fun e w' => e = .returned (.string ⟨x.n.toArray⟩) ∧ Below w.heap.size w w' := by
  go_enter Tryz.func86, Tryz.ntmps86
  go_wp2
  go_ret
  exact ⟨rfl, al1 w _⟩
set_option maxRecDepth 100000 in
set_option maxHeartbeats 2000000 in
theorem hplace1_Object (x : Ob) (a : Option Addr) (l c : Nat) (y : Bs) (P0 P1 : Nat) (w : World) (h0 : w.cell? ⟨P0, 0, none⟩ = some (.func (.func 86) #[] #[])) (h1 : w.cell? ⟨P1, 0, none⟩ = some (.string ⟨y.toArray⟩)) : Calls Tryz.prog 125 #[.agg #[.string ⟨x.n.toArray⟩, .slice a l c], .pointer (some ⟨P0, 0, none⟩), .pointer (some ⟨P1, 0, none⟩)] w fun e w' => e = .returned (.bool (x.n == y)) ∧ Below w.heap.size w w' := by
  have hbe := bytes_eq x.n y
  have c0 := fun o => cell_on (al1 w o) h0
  have c1 := fun o => cell_on (al1 w o) h1
  go_enter Tryz.func125, Tryz.ntmps125
  go_wp2
  go_region_held3 (fun w' => w'.cell? ⟨P0, 0, none⟩ = some (.func (.func 86) #[] #[]) ∧ w'.cell? ⟨P1, 0, none⟩ = some (.string ⟨y.toArray⟩) ∧ w'.cell? ⟨w.heap.size, 0, none⟩ = some (.string ⟨x.n.toArray⟩) ∧ w'.cell? ⟨w.heap.size, 1, none⟩ = some (.slice a l c)) (go_keep) ((go_at_call 86; (with_reducible refine (hobjectName_any x a l c _).mono ?_); rintro e w2 ⟨rfl, b2⟩; have f0 := cell_on b2 (c0 (.cells #[.string ⟨x.n.toArray⟩, .slice a l c] 54)); have f1 := cell_on b2 (c1 (.cells #[.string ⟨x.n.toArray⟩, .slice a l c] 54)); obtain ⟨m0, m1, fm⟩ := row2 (heap_alloc_new w (.cells #[.string ⟨x.n.toArray⟩, .slice a l c] 54)); have e0 := cell_on b2 m0; have e1 := cell_on b2 m1))
  all_goals
    go_wp2
    go_ret
    exact ⟨rfl, bel_drew b2⟩
set_option maxRecDepth 100000 in
theorem henumName_any (x : En) (a : Option Addr) (l c : Nat) (w : World) : Calls Tryz.prog 88 #[.agg #[.string ⟨x.n.toArray⟩, .slice a l c]] w fun e w' => e = .returned (.string ⟨x.n.toArray⟩) ∧ Below w.heap.size w w' := by
  go_enter Tryz.func88, Tryz.ntmps88
  go_wp2
  go_ret
  exact ⟨rfl, al1 w _⟩
set_option maxRecDepth 100000 in
set_option maxHeartbeats 2000000 in
theorem hplace1_Enum (x : En) (a : Option Addr) (l c : Nat) (y : Bs) (P0 P1 : Nat) (w : World) (h0 : w.cell? ⟨P0, 0, none⟩ = some (.func (.func 88) #[] #[])) (h1 : w.cell? ⟨P1, 0, none⟩ = some (.string ⟨y.toArray⟩)) : Calls Tryz.prog 127 #[.agg #[.string ⟨x.n.toArray⟩, .slice a l c], .pointer (some ⟨P0, 0, none⟩), .pointer (some ⟨P1, 0, none⟩)] w fun e w' => e = .returned (.bool (x.n == y)) ∧ Below w.heap.size w w' := by
  have hbe := bytes_eq x.n y
  have c0 := fun o => cell_on (al1 w o) h0
  have c1 := fun o => cell_on (al1 w o) h1
  go_enter Tryz.func127, Tryz.ntmps127
  go_wp2
  go_region_held3 (fun w' => w'.cell? ⟨P0, 0, none⟩ = some (.func (.func 88) #[] #[]) ∧ w'.cell? ⟨P1, 0, none⟩ = some (.string ⟨y.toArray⟩) ∧ w'.cell? ⟨w.heap.size, 0, none⟩ = some (.string ⟨x.n.toArray⟩) ∧ w'.cell? ⟨w.heap.size, 1, none⟩ = some (.slice a l c)) (go_keep) ((go_at_call 88; (with_reducible refine (henumName_any x a l c _).mono ?_); rintro e w2 ⟨rfl, b2⟩; have f0 := cell_on b2 (c0 (.cells #[.string ⟨x.n.toArray⟩, .slice a l c] 59)); have f1 := cell_on b2 (c1 (.cells #[.string ⟨x.n.toArray⟩, .slice a l c] 59)); obtain ⟨m0, m1, fm⟩ := row2 (heap_alloc_new w (.cells #[.string ⟨x.n.toArray⟩, .slice a l c] 59)); have e0 := cell_on b2 m0; have e1 := cell_on b2 m1))
  all_goals
    go_wp2
    go_ret
    exact ⟨rfl, bel_drew b2⟩
set_option maxRecDepth 100000 in
theorem hfieldName_any (x : Fld) (w : World) : Calls Tryz.prog 95 #[.agg #[.string ⟨x.n.toArray⟩, .string ⟨x.t.toArray⟩, .string ⟨x.w.toArray⟩, .bool x.s, .string ⟨x.i.toArray⟩]] w fun e w' => e = .returned (.string ⟨x.n.toArray⟩) ∧ Below w.heap.size w w' := by
  go_enter Tryz.func95, Tryz.ntmps95
  go_wp2
  go_ret
  exact ⟨rfl, al1 w _⟩
set_option maxRecDepth 100000 in
set_option maxHeartbeats 2000000 in
theorem hplace1_Field (x : Fld) (y : Bs) (P0 P1 : Nat) (w : World) (h0 : w.cell? ⟨P0, 0, none⟩ = some (.func (.func 95) #[] #[])) (h1 : w.cell? ⟨P1, 0, none⟩ = some (.string ⟨y.toArray⟩)) : Calls Tryz.prog 131 #[.agg #[.string ⟨x.n.toArray⟩, .string ⟨x.t.toArray⟩, .string ⟨x.w.toArray⟩, .bool x.s, .string ⟨x.i.toArray⟩], .pointer (some ⟨P0, 0, none⟩), .pointer (some ⟨P1, 0, none⟩)] w fun e w' => e = .returned (.bool (x.n == y)) ∧ Below w.heap.size w w' := by
  have hbe := bytes_eq x.n y
  have c0 := fun o => cell_on (al1 w o) h0
  have c1 := fun o => cell_on (al1 w o) h1
  go_enter Tryz.func131, Tryz.ntmps131
  go_wp2
  go_region_held3 (fun w' => w'.cell? ⟨P0, 0, none⟩ = some (.func (.func 95) #[] #[]) ∧ w'.cell? ⟨P1, 0, none⟩ = some (.string ⟨y.toArray⟩) ∧ w'.cell? ⟨w.heap.size, 0, none⟩ = some (.string ⟨x.n.toArray⟩) ∧ w'.cell? ⟨w.heap.size, 1, none⟩ = some (.string ⟨x.t.toArray⟩) ∧ w'.cell? ⟨w.heap.size, 2, none⟩ = some (.string ⟨x.w.toArray⟩) ∧ w'.cell? ⟨w.heap.size, 3, none⟩ = some (.bool x.s) ∧ w'.cell? ⟨w.heap.size, 4, none⟩ = some (.string ⟨x.i.toArray⟩)) (go_keep) ((go_at_call 95; (with_reducible refine (hfieldName_any x _).mono ?_); rintro e w2 ⟨rfl, b2⟩; have f0 := cell_on b2 (c0 (.cells #[.string ⟨x.n.toArray⟩, .string ⟨x.t.toArray⟩, .string ⟨x.w.toArray⟩, .bool x.s, .string ⟨x.i.toArray⟩] 56)); have f1 := cell_on b2 (c1 (.cells #[.string ⟨x.n.toArray⟩, .string ⟨x.t.toArray⟩, .string ⟨x.w.toArray⟩, .bool x.s, .string ⟨x.i.toArray⟩] 56)); obtain ⟨m0, m1, m2, m3, m4, fm⟩ := row5 (heap_alloc_new w (.cells #[.string ⟨x.n.toArray⟩, .string ⟨x.t.toArray⟩, .string ⟨x.w.toArray⟩, .bool x.s, .string ⟨x.i.toArray⟩] 56)); have e0 := cell_on b2 m0; have e1 := cell_on b2 m1; have e2 := cell_on b2 m2; have e3 := cell_on b2 m3; have e4 := cell_on b2 m4))
  all_goals
    go_wp2
    go_ret
    exact ⟨rfl, bel_drew b2⟩
set_option maxRecDepth 100000 in
theorem hwordName_any (x : Bs) (w : World) : Calls Tryz.prog 92 #[.string ⟨x.toArray⟩] w fun e w' => e = .returned (.string ⟨x.toArray⟩) ∧ Below w.heap.size w w' := by
  go_enter Tryz.func92, Tryz.ntmps92
  go_wp2
  go_ret
  exact ⟨rfl, Below.refl _ _⟩
set_option maxRecDepth 100000 in
set_option maxHeartbeats 2000000 in
theorem hplace1_string (x : Bs) (y : Bs) (P0 P1 : Nat) (w : World) (h0 : w.cell? ⟨P0, 0, none⟩ = some (.func (.func 92) #[] #[])) (h1 : w.cell? ⟨P1, 0, none⟩ = some (.string ⟨y.toArray⟩)) : Calls Tryz.prog 129 #[.string ⟨x.toArray⟩, .pointer (some ⟨P0, 0, none⟩), .pointer (some ⟨P1, 0, none⟩)] w fun e w' => e = .returned (.bool (x == y)) ∧ Below w.heap.size w w' := by
  have hbe := bytes_eq x y
  go_enter Tryz.func129, Tryz.ntmps129
  go_wp2
  go_region_held3 (fun w' => w'.cell? ⟨P0, 0, none⟩ = some (.func (.func 92) #[] #[]) ∧ w'.cell? ⟨P1, 0, none⟩ = some (.string ⟨y.toArray⟩)) (go_keep) ((go_at_call 92; (with_reducible refine (hwordName_any x _).mono ?_); rintro e w2 ⟨rfl, b2⟩; have f0 := cell_on b2 h0; have f1 := cell_on b2 h1))
  all_goals
    go_wp2
    go_ret
    exact ⟨rfl, bel_drew0 b2⟩
end Go.Proofs.YtamkjpfomaapgaaGreatDoor
