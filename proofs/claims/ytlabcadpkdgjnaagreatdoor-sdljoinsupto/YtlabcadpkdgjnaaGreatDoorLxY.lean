/- A token. -/
import Derived.Test.YtlabcadpkdgjnaaGreatDoorLxX
namespace Go.Proofs.YtlabcadpkdgjnaaGreatDoor
open Go Go.RowKit
section
variable {R : Nat} {s : Bs}
/-- What a token comes to. -/
def TokP (R : Nat) (s : Bs) (l : Bs) (w : World) (r : TR) (e : Ending) (w' : World) : Prop := (match r with
    | .ok k t m => e = .returned (tokV k t (s.length - l.length) (s.length - m.length)) ∧ Rd w' R s (s.length - l.length) m
    | .bad x => e = Dies (s.length - l.length) x) ∧ Kp (Own1 R) w w'
/-- The result's cells, as they are laid. -/
abbrev tok0 : Obj := .cells #[.int .i64 0, .string ⟨#[]⟩, .int .i64 0, .int .i64 0] 43
/-- Four stores into the result. -/
def put4 (w : World) (B : Nat) (a b c d : Value) : World := (((w.setCell ⟨B, 0, none⟩ a).setCell ⟨B, 1, none⟩ b).setCell ⟨B, 2, none⟩ c).setCell ⟨B, 3, none⟩ d
theorem res_blk {w w' : World} (hk : Kp (Own1 R) (w.alloc tok0) w') (hR : R < w.heap.size) : w'.heap[w.heap.size]? = some (.cells #[.int .i64 0, .string ⟨#[]⟩, .int .i64 0, .int .i64 0] 43 (0, 0)) :=
  (hk.block w.heap.size (by simp) (fun e => by have e' : w.heap.size = R := e; omega)).trans (heap_alloc_new _ _)
theorem res_cells {w w' : World} (hk : Kp (Own1 R) (w.alloc tok0) w') (hR : R < w.heap.size) : (w'.cell? ⟨w.heap.size, 0, none⟩ = some (.int .i64 0) ∧ w'.cell? ⟨w.heap.size, 1, none⟩ = some (.string ⟨#[]⟩) ∧ w'.cell? ⟨w.heap.size, 2, none⟩ = some (.int .i64 0) ∧ w'.cell? ⟨w.heap.size, 3, none⟩ = some (.int .i64 0)) ∧ ∀ i, w'.frozen? ⟨w.heap.size, i, none⟩ = false := by
  have h := res_blk hk hR
  exact ⟨⟨by simp [World.cell?, h], by simp [World.cell?, h], by simp [World.cell?, h], by simp [World.cell?, h]⟩, fun i => frozen_of_row w' _ i _ _ h⟩
theorem Rd.other {w : World} {b B : Nat} {l : Bs} (h : Rd w R s b l) (i : Nat) (v : Value) (hB : R < B) : Rd (w.setCell ⟨B, i, none⟩ v) R s b l := by
  have hk : Kp (Own1 B) w (w.setCell ⟨B, i, none⟩ v) := Kp.own B i v
  have h1 := h.hi
  exact ⟨(hk.block R h.lt (fun e => by have e' : R = B := e; omega)).trans h.row, h.suf, h.small, h.gl.kp hk (fun e => by have e' : gM = B := e; omega) (fun e => by have e' : gE = B := e; omega), h.hi⟩
theorem put4_facts {w w' : World} {b : Nat} {l : Bs} (hr : Rd w' R s b l) (hk : Kp (Own1 R) (w.alloc tok0) w') (hR : R < w.heap.size) (k : Int) (t : Bs) (x y : Nat) :
    Rd (put4 w' w.heap.size (.int .i64 k) (.string ⟨t.toArray⟩) (.int .i64 (x : Int)) (.int .i64 (y : Int))) R s b l ∧ Kp (Own1 R) w (put4 w' w.heap.size (.int .i64 k) (.string ⟨t.toArray⟩) (.int .i64 (x : Int)) (.int .i64 (y : Int))) ∧
    (put4 w' w.heap.size (.int .i64 k) (.string ⟨t.toArray⟩) (.int .i64 (x : Int)) (.int .i64 (y : Int))).heap[w.heap.size]? = some (.cells #[.int .i64 k, .string ⟨t.toArray⟩, .int .i64 (x : Int), .int .i64 (y : Int)] 43 (0, 0)) := by
  unfold put4
  refine ⟨(((hr.other _ _ hR).other _ _ hR).other _ _ hR).other _ _ hR, (((((((Kp.refl (Own1 R) w).alloc tok0).trans hk).set _ _ _ (Or.inl (Nat.le_refl _))).set _ _ _ (Or.inl (Nat.le_refl _))).set _ _ _ (Or.inl (Nat.le_refl _))).set _ _ _ (Or.inl (Nat.le_refl _))), ?_⟩
  have h0 := res_blk hk hR
  have h1 := heap_setCell_same _ _ 0 _ _ (.int .i64 k) h0
  have h2 := heap_setCell_same _ _ 1 _ _ (.string ⟨t.toArray⟩) h1
  have h3 := heap_setCell_same _ _ 2 _ _ (.int .i64 (x : Int)) h2
  exact heap_setCell_same _ _ 3 _ _ (.int .i64 (y : Int)) h3
theorem tok_ret {fn : Func} {B : Nat} {W : World} {tmps : Array Value} {k : Int} {t : Bs} {x y : Nat} (h : W.heap[B]? = some (.cells #[.int .i64 k, .string ⟨t.toArray⟩, .int .i64 (x : Int), .int .i64 (y : Int)] 43 (0, 0))) (hf : fn.results = #[.cell 2 43]) (ht : tmps[2]? = some (.pointer (some ⟨B, 0, none⟩))) :
    (results fn tmps).run Tryz.prog W = .ok (tokV k t x y) W := by
  have c0 : W.cell? ⟨B, 0, none⟩ = some (.int .i64 k) := by simp [World.cell?, h]
  have c1 : W.cell? ⟨B, 1, none⟩ = some (.string ⟨t.toArray⟩) := by simp [World.cell?, h]
  have c2 : W.cell? ⟨B, 2, none⟩ = some (.int .i64 (x : Int)) := by simp [World.cell?, h]
  have c3 : W.cell? ⟨B, 3, none⟩ = some (.int .i64 (y : Int)) := by simp [World.cell?, h]
  simp [results, hf, go_sem, ht, c0, c1, c2, c3]

theorem written_is (k : Int) (l m : Bs) (hm : m <:+ l) : ∀ w, Rd w R s (s.length - l.length) m → l <:+ s → Calls Tryz.prog 79 #[.pointer (some ⟨R, 0, none⟩), .int .i64 k] w fun e w' => e = .returned (tokV k (ahead l m) (s.length - l.length) (s.length - m.length)) ∧ Rd w' R s (s.length - l.length) m ∧ Kp (Own1 R) w w' := fun w h hl => written_any k l m w h hl hm
/-- A step of the reader, in whatever world. -/
abbrev Stp (f : FuncId) (R : Nat) (s : Bs) (b : Nat) (l : Bs) (more : Array Value) (v : Value) (m : Bs) : Prop := ∀ w, Rd w R s b l → Calls Tryz.prog f (#[.pointer (some ⟨R, 0, none⟩)] ++ more) w fun e w' => e = .returned v ∧ Rd w' R s b m ∧ Kp (Own1 R) w w'
/-- What a token comes to, said of letters. -/
def TokQ (R : Nat) (s : Bs) (b : Nat) (w : World) (k : Int) (t : Bs) (y : Nat) (m : Bs) (e : Ending) (w' : World) : Prop := (e = .returned (tokV k t b y) ∧ Rd w' R s b m) ∧ Kp (Own1 R) w w'

set_option maxHeartbeats 4000000 in
theorem tokw_pun (b y : Nat) (l m : Bs) (t : Bs) (O1 : ∀ w, Rd w R s b l → Calls Tryz.prog 78 #[.pointer (some ⟨R, 0, none⟩), .string ⟨punL.toArray⟩] w fun e w' => e = .returned (.bool true) ∧ Rd w' R s b m ∧ Kp (Own1 R) w w') (W : ∀ w, Rd w R s b m → Calls Tryz.prog 79 #[.pointer (some ⟨R, 0, none⟩), .int .i64 0] w fun e w' => e = .returned (tokV 0 t b y) ∧ Rd w' R s b m ∧ Kp (Own1 R) w w') (w : World) (h : Rd w R s b l) : Calls Tryz.prog 50 #[.pointer (some ⟨R, 0, none⟩)] w (TokQ R s b w 0 t y m) := by
  have hR := h.lt
  have h0 := h.alloc tok0
  have PF := fun (w' : World) (hr : Rd w' R s b m) (hk : Kp (Own1 R) (w.alloc tok0) w') => put4_facts hr hk hR 0 t b y
  have RC := fun (w' : World) (hk : Kp (Own1 R) (w.alloc tok0) w') => res_cells hk hR
  clear h
  go_enter Tryz.func50, Tryz.ntmps50
  go_wp2_with (first
    | (go_at_call 79; refine (W _ hr1).mono ?_; rintro e w2 ⟨rfl, hr2, hk2⟩; obtain ⟨⟨q0, q1, q2, q3⟩, qf⟩ := RC _ (hk1.trans hk2))
    | (go_at_call 78; refine (O1 _ h0).mono ?_; rintro e w1 ⟨rfl, hr1, hk1⟩)
    | fail)
  obtain ⟨p1, p2, p3⟩ := PF _ hr2 (hk1.trans hk2)
  exact bodyPost_ret (tok_ret p3 rfl rfl) rfl ⟨⟨rfl, p1⟩, p2⟩

set_option maxHeartbeats 4000000 in
theorem tokw_dot (b y : Nat) (l m : Bs) (t : Bs) (O1 : ∀ w, Rd w R s b l → Calls Tryz.prog 78 #[.pointer (some ⟨R, 0, none⟩), .string ⟨punL.toArray⟩] w fun e w' => e = .returned (.bool false) ∧ Rd w' R s b l ∧ Kp (Own1 R) w w') (T2 : ∀ w, Rd w R s b l → Calls Tryz.prog 75 #[.pointer (some ⟨R, 0, none⟩), .string ⟨#[46, 46, 46]⟩] w fun e w' => e = .returned (.bool true) ∧ Rd w' R s b m ∧ Kp (Own1 R) w w') (W : ∀ w, Rd w R s b m → Calls Tryz.prog 79 #[.pointer (some ⟨R, 0, none⟩), .int .i64 0] w fun e w' => e = .returned (tokV 0 t b y) ∧ Rd w' R s b m ∧ Kp (Own1 R) w w') (w : World) (h : Rd w R s b l) : Calls Tryz.prog 50 #[.pointer (some ⟨R, 0, none⟩)] w (TokQ R s b w 0 t y m) := by
  have hR := h.lt
  have h0 := h.alloc tok0
  have PF := fun (w' : World) (hr : Rd w' R s b m) (hk : Kp (Own1 R) (w.alloc tok0) w') => put4_facts hr hk hR 0 t b y
  have RC := fun (w' : World) (hk : Kp (Own1 R) (w.alloc tok0) w') => res_cells hk hR
  clear h
  go_enter Tryz.func50, Tryz.ntmps50
  go_wp2_with (first
    | (go_at_call 79; refine (W _ hr2).mono ?_; rintro e w3 ⟨rfl, hr3, hk3⟩; obtain ⟨⟨q0, q1, q2, q3⟩, qf⟩ := RC _ ((hk1.trans hk2).trans hk3))
    | (go_at_call 75; refine (T2 _ hr1).mono ?_; rintro e w2 ⟨rfl, hr2, hk2⟩)
    | (go_at_call 78; refine (O1 _ h0).mono ?_; rintro e w1 ⟨rfl, hr1, hk1⟩)
    | fail)
  obtain ⟨p1, p2, p3⟩ := PF _ hr3 ((hk1.trans hk2).trans hk3)
  exact bodyPost_ret (tok_ret p3 rfl rfl) rfl ⟨⟨rfl, p1⟩, p2⟩

set_option maxHeartbeats 4000000 in
theorem tokw_let (b y : Nat) (l m : Bs) (t : Bs) (m1 : Bs) (B4 : Bool) (O1 : ∀ w, Rd w R s b l → Calls Tryz.prog 78 #[.pointer (some ⟨R, 0, none⟩), .string ⟨punL.toArray⟩] w fun e w' => e = .returned (.bool false) ∧ Rd w' R s b l ∧ Kp (Own1 R) w w') (T2 : ∀ w, Rd w R s b l → Calls Tryz.prog 75 #[.pointer (some ⟨R, 0, none⟩), .string ⟨#[46, 46, 46]⟩] w fun e w' => e = .returned (.bool false) ∧ Rd w' R s b l ∧ Kp (Own1 R) w w') (O3 : ∀ w, Rd w R s b l → Calls Tryz.prog 78 #[.pointer (some ⟨R, 0, none⟩), .string ⟨letL.toArray⟩] w fun e w' => e = .returned (.bool true) ∧ Rd w' R s b m1 ∧ Kp (Own1 R) w w') (R4 : ∀ w, Rd w R s b m1 → Calls Tryz.prog 74 #[.pointer (some ⟨R, 0, none⟩), .string ⟨(letL ++ digL).toArray⟩] w fun e w' => e = .returned (.bool B4) ∧ Rd w' R s b m ∧ Kp (Own1 R) w w') (W : ∀ w, Rd w R s b m → Calls Tryz.prog 79 #[.pointer (some ⟨R, 0, none⟩), .int .i64 1] w fun e w' => e = .returned (tokV 1 t b y) ∧ Rd w' R s b m ∧ Kp (Own1 R) w w') (w : World) (h : Rd w R s b l) : Calls Tryz.prog 50 #[.pointer (some ⟨R, 0, none⟩)] w (TokQ R s b w 1 t y m) := by
  have hR := h.lt
  have h0 := h.alloc tok0
  have PF := fun (w' : World) (hr : Rd w' R s b m) (hk : Kp (Own1 R) (w.alloc tok0) w') => put4_facts hr hk hR 1 t b y
  have RC := fun (w' : World) (hk : Kp (Own1 R) (w.alloc tok0) w') => res_cells hk hR
  clear h
  go_enter Tryz.func50, Tryz.ntmps50
  go_wp2_with (first
    | (go_at_call 79; refine (W _ hr4).mono ?_; rintro e w5 ⟨rfl, hr5, hk5⟩; obtain ⟨⟨q0, q1, q2, q3⟩, qf⟩ := RC _ ((((hk1.trans hk2).trans hk3).trans hk4).trans hk5))
    | (go_at_call 74; refine (R4 _ hr3).mono ?_; rintro e w4 ⟨rfl, hr4, hk4⟩)
    | (go_at_call 78; refine (O3 _ hr2).mono ?_; rintro e w3 ⟨rfl, hr3, hk3⟩)
    | (go_at_call 75; refine (T2 _ hr1).mono ?_; rintro e w2 ⟨rfl, hr2, hk2⟩)
    | (go_at_call 78; refine (O1 _ h0).mono ?_; rintro e w1 ⟨rfl, hr1, hk1⟩)
    | fail)
  obtain ⟨p1, p2, p3⟩ := PF _ hr5 ((((hk1.trans hk2).trans hk3).trans hk4).trans hk5)
  exact bodyPost_ret (tok_ret p3 rfl rfl) rfl ⟨⟨rfl, p1⟩, p2⟩

set_option maxHeartbeats 4000000 in
theorem tokw_num (b y : Nat) (l m : Bs) (t : Bs) (k : Int) (O1 : ∀ w, Rd w R s b l → Calls Tryz.prog 78 #[.pointer (some ⟨R, 0, none⟩), .string ⟨punL.toArray⟩] w fun e w' => e = .returned (.bool false) ∧ Rd w' R s b l ∧ Kp (Own1 R) w w') (T2 : ∀ w, Rd w R s b l → Calls Tryz.prog 75 #[.pointer (some ⟨R, 0, none⟩), .string ⟨#[46, 46, 46]⟩] w fun e w' => e = .returned (.bool false) ∧ Rd w' R s b l ∧ Kp (Own1 R) w w') (O3 : ∀ w, Rd w R s b l → Calls Tryz.prog 78 #[.pointer (some ⟨R, 0, none⟩), .string ⟨letL.toArray⟩] w fun e w' => e = .returned (.bool false) ∧ Rd w' R s b l ∧ Kp (Own1 R) w w') (S4 : ∀ w, Rd w R s b l → Calls Tryz.prog 80 #[.pointer (some ⟨R, 0, none⟩), .string ⟨(45 :: digL).toArray⟩] w fun e w' => e = .returned (.bool true) ∧ Rd w' R s b l ∧ Kp (Own1 R) w w') (N5 : ∀ w, Rd w R s b l → Calls Tryz.prog 81 #[.pointer (some ⟨R, 0, none⟩)] w fun e w' => e = .returned (.int .i64 k) ∧ Rd w' R s b m ∧ Kp (Own1 R) w w') (W : ∀ w, Rd w R s b m → Calls Tryz.prog 79 #[.pointer (some ⟨R, 0, none⟩), .int .i64 k] w fun e w' => e = .returned (tokV k t b y) ∧ Rd w' R s b m ∧ Kp (Own1 R) w w') (w : World) (h : Rd w R s b l) : Calls Tryz.prog 50 #[.pointer (some ⟨R, 0, none⟩)] w (TokQ R s b w k t y m) := by
  have hR := h.lt
  have h0 := h.alloc tok0
  have PF := fun (w' : World) (hr : Rd w' R s b m) (hk : Kp (Own1 R) (w.alloc tok0) w') => put4_facts hr hk hR k t b y
  have RC := fun (w' : World) (hk : Kp (Own1 R) (w.alloc tok0) w') => res_cells hk hR
  clear h
  go_enter Tryz.func50, Tryz.ntmps50
  go_wp2_with (first
    | (go_at_call 79; refine (W _ hr5).mono ?_; rintro e w6 ⟨rfl, hr6, hk6⟩; obtain ⟨⟨q0, q1, q2, q3⟩, qf⟩ := RC _ (((((hk1.trans hk2).trans hk3).trans hk4).trans hk5).trans hk6))
    | (go_at_call 81; refine (N5 _ hr4).mono ?_; rintro e w5 ⟨rfl, hr5, hk5⟩)
    | (go_at_call 80; refine (S4 _ hr3).mono ?_; rintro e w4 ⟨rfl, hr4, hk4⟩)
    | (go_at_call 78; refine (O3 _ hr2).mono ?_; rintro e w3 ⟨rfl, hr3, hk3⟩)
    | (go_at_call 75; refine (T2 _ hr1).mono ?_; rintro e w2 ⟨rfl, hr2, hk2⟩)
    | (go_at_call 78; refine (O1 _ h0).mono ?_; rintro e w1 ⟨rfl, hr1, hk1⟩)
    | fail)
  obtain ⟨p1, p2, p3⟩ := PF _ hr6 (((((hk1.trans hk2).trans hk3).trans hk4).trans hk5).trans hk6)
  exact bodyPost_ret (tok_ret p3 rfl rfl) rfl ⟨⟨rfl, p1⟩, p2⟩

set_option maxHeartbeats 4000000 in
theorem tokw_numx (b : Nat) (l : Bs) (O1 : ∀ w, Rd w R s b l → Calls Tryz.prog 78 #[.pointer (some ⟨R, 0, none⟩), .string ⟨punL.toArray⟩] w fun e w' => e = .returned (.bool false) ∧ Rd w' R s b l ∧ Kp (Own1 R) w w') (T2 : ∀ w, Rd w R s b l → Calls Tryz.prog 75 #[.pointer (some ⟨R, 0, none⟩), .string ⟨#[46, 46, 46]⟩] w fun e w' => e = .returned (.bool false) ∧ Rd w' R s b l ∧ Kp (Own1 R) w w') (O3 : ∀ w, Rd w R s b l → Calls Tryz.prog 78 #[.pointer (some ⟨R, 0, none⟩), .string ⟨letL.toArray⟩] w fun e w' => e = .returned (.bool false) ∧ Rd w' R s b l ∧ Kp (Own1 R) w w') (S4 : ∀ w, Rd w R s b l → Calls Tryz.prog 80 #[.pointer (some ⟨R, 0, none⟩), .string ⟨(45 :: digL).toArray⟩] w fun e w' => e = .returned (.bool true) ∧ Rd w' R s b l ∧ Kp (Own1 R) w w') (N5 : ∀ w, Rd w R s b l → Calls Tryz.prog 81 #[.pointer (some ⟨R, 0, none⟩)] w fun e w' => e = Dies b 51 ∧ Kp (Own1 R) w w') (w : World) (h : Rd w R s b l) : Calls Tryz.prog 50 #[.pointer (some ⟨R, 0, none⟩)] w fun e w' => e = Dies b 51 ∧ Kp (Own1 R) w w' := by
  have h0 := h.alloc tok0
  have K0 : Kp (Own1 R) w (w.alloc tok0) := (Kp.refl _ w).alloc _
  have C1 := fun (w' : World) (hr : Rd w' R s b l) => hr.c1
  clear h
  go_enter Tryz.func50, Tryz.ntmps50
  go_wp2_with (first
    | (go_at_call 81; refine (N5 _ hr4).mono ?_; rintro e w5 ⟨rfl, hk5⟩)
    | (go_at_call 80; refine (S4 _ hr3).mono ?_; rintro e w4 ⟨rfl, hr4, hk4⟩)
    | (go_at_call 78; refine (O3 _ hr2).mono ?_; rintro e w3 ⟨rfl, hr3, hk3⟩)
    | (go_at_call 75; refine (T2 _ hr1).mono ?_; rintro e w2 ⟨rfl, hr2, hk2⟩)
    | (go_at_call 78; refine (O1 _ h0).mono ?_; rintro e w1 ⟨rfl, hr1, hk1⟩)
    | fail)
  exact ⟨rfl, rfl, K0.trans ((((hk1.trans hk2).trans hk3).trans hk4).trans hk5)⟩

set_option maxHeartbeats 4000000 in
theorem tokw_textx (b : Nat) (l : Bs) (O1 : ∀ w, Rd w R s b l → Calls Tryz.prog 78 #[.pointer (some ⟨R, 0, none⟩), .string ⟨punL.toArray⟩] w fun e w' => e = .returned (.bool false) ∧ Rd w' R s b l ∧ Kp (Own1 R) w w') (T2 : ∀ w, Rd w R s b l → Calls Tryz.prog 75 #[.pointer (some ⟨R, 0, none⟩), .string ⟨#[46, 46, 46]⟩] w fun e w' => e = .returned (.bool false) ∧ Rd w' R s b l ∧ Kp (Own1 R) w w') (O3 : ∀ w, Rd w R s b l → Calls Tryz.prog 78 #[.pointer (some ⟨R, 0, none⟩), .string ⟨letL.toArray⟩] w fun e w' => e = .returned (.bool false) ∧ Rd w' R s b l ∧ Kp (Own1 R) w w') (S4 : ∀ w, Rd w R s b l → Calls Tryz.prog 80 #[.pointer (some ⟨R, 0, none⟩), .string ⟨(45 :: digL).toArray⟩] w fun e w' => e = .returned (.bool false) ∧ Rd w' R s b l ∧ Kp (Own1 R) w w') (S5 : ∀ w, Rd w R s b l → Calls Tryz.prog 80 #[.pointer (some ⟨R, 0, none⟩), .string ⟨#[34]⟩] w fun e w' => e = .returned (.bool true) ∧ Rd w' R s b l ∧ Kp (Own1 R) w w') (N6 : ∀ w, Rd w R s b l → Calls Tryz.prog 82 #[.pointer (some ⟨R, 0, none⟩)] w fun e w' => e = Dies b 52 ∧ Kp (Own1 R) w w') (w : World) (h : Rd w R s b l) : Calls Tryz.prog 50 #[.pointer (some ⟨R, 0, none⟩)] w fun e w' => e = Dies b 52 ∧ Kp (Own1 R) w w' := by
  have h0 := h.alloc tok0
  have K0 : Kp (Own1 R) w (w.alloc tok0) := (Kp.refl _ w).alloc _
  have C1 := fun (w' : World) (hr : Rd w' R s b l) => hr.c1
  clear h
  go_enter Tryz.func50, Tryz.ntmps50
  go_wp2_with (first
    | (go_at_call 82; refine (N6 _ hr5).mono ?_; rintro e w6 ⟨rfl, hk6⟩)
    | (go_at_call 80; refine (S5 _ hr4).mono ?_; rintro e w5 ⟨rfl, hr5, hk5⟩)
    | (go_at_call 80; refine (S4 _ hr3).mono ?_; rintro e w4 ⟨rfl, hr4, hk4⟩)
    | (go_at_call 78; refine (O3 _ hr2).mono ?_; rintro e w3 ⟨rfl, hr3, hk3⟩)
    | (go_at_call 75; refine (T2 _ hr1).mono ?_; rintro e w2 ⟨rfl, hr2, hk2⟩)
    | (go_at_call 78; refine (O1 _ h0).mono ?_; rintro e w1 ⟨rfl, hr1, hk1⟩)
    | fail)
  exact ⟨rfl, rfl, K0.trans (((((hk1.trans hk2).trans hk3).trans hk4).trans hk5).trans hk6)⟩

set_option maxHeartbeats 4000000 in
theorem tokw_none (b : Nat) (l : Bs) (O1 : ∀ w, Rd w R s b l → Calls Tryz.prog 78 #[.pointer (some ⟨R, 0, none⟩), .string ⟨punL.toArray⟩] w fun e w' => e = .returned (.bool false) ∧ Rd w' R s b l ∧ Kp (Own1 R) w w') (T2 : ∀ w, Rd w R s b l → Calls Tryz.prog 75 #[.pointer (some ⟨R, 0, none⟩), .string ⟨#[46, 46, 46]⟩] w fun e w' => e = .returned (.bool false) ∧ Rd w' R s b l ∧ Kp (Own1 R) w w') (O3 : ∀ w, Rd w R s b l → Calls Tryz.prog 78 #[.pointer (some ⟨R, 0, none⟩), .string ⟨letL.toArray⟩] w fun e w' => e = .returned (.bool false) ∧ Rd w' R s b l ∧ Kp (Own1 R) w w') (S4 : ∀ w, Rd w R s b l → Calls Tryz.prog 80 #[.pointer (some ⟨R, 0, none⟩), .string ⟨(45 :: digL).toArray⟩] w fun e w' => e = .returned (.bool false) ∧ Rd w' R s b l ∧ Kp (Own1 R) w w') (S5 : ∀ w, Rd w R s b l → Calls Tryz.prog 80 #[.pointer (some ⟨R, 0, none⟩), .string ⟨#[34]⟩] w fun e w' => e = .returned (.bool false) ∧ Rd w' R s b l ∧ Kp (Own1 R) w w') (w : World) (h : Rd w R s b l) : Calls Tryz.prog 50 #[.pointer (some ⟨R, 0, none⟩)] w fun e w' => e = Dies b 50 ∧ Kp (Own1 R) w w' := by
  have h0 := h.alloc tok0
  have K0 : Kp (Own1 R) w (w.alloc tok0) := (Kp.refl _ w).alloc _
  have C1 := fun (w' : World) (hr : Rd w' R s b l) => hr.c1
  clear h
  go_enter Tryz.func50, Tryz.ntmps50
  go_wp2_with (first
    | (go_at_call 80; refine (S5 _ hr4).mono ?_; rintro e w5 ⟨rfl, hr5, hk5⟩; have c1 := C1 _ hr5)
    | (go_at_call 80; refine (S4 _ hr3).mono ?_; rintro e w4 ⟨rfl, hr4, hk4⟩)
    | (go_at_call 78; refine (O3 _ hr2).mono ?_; rintro e w3 ⟨rfl, hr3, hk3⟩)
    | (go_at_call 75; refine (T2 _ hr1).mono ?_; rintro e w2 ⟨rfl, hr2, hk2⟩)
    | (go_at_call 78; refine (O1 _ h0).mono ?_; rintro e w1 ⟨rfl, hr1, hk1⟩)
    | fail)
  exact ⟨rfl, rfl, K0.trans ((((hk1.trans hk2).trans hk3).trans hk4).trans hk5)⟩

set_option maxHeartbeats 4000000 in
theorem tokw_text (b y : Nat) (l m : Bs) (t : Bs) (O1 : ∀ w, Rd w R s b l → Calls Tryz.prog 78 #[.pointer (some ⟨R, 0, none⟩), .string ⟨punL.toArray⟩] w fun e w' => e = .returned (.bool false) ∧ Rd w' R s b l ∧ Kp (Own1 R) w w') (T2 : ∀ w, Rd w R s b l → Calls Tryz.prog 75 #[.pointer (some ⟨R, 0, none⟩), .string ⟨#[46, 46, 46]⟩] w fun e w' => e = .returned (.bool false) ∧ Rd w' R s b l ∧ Kp (Own1 R) w w') (O3 : ∀ w, Rd w R s b l → Calls Tryz.prog 78 #[.pointer (some ⟨R, 0, none⟩), .string ⟨letL.toArray⟩] w fun e w' => e = .returned (.bool false) ∧ Rd w' R s b l ∧ Kp (Own1 R) w w') (S4 : ∀ w, Rd w R s b l → Calls Tryz.prog 80 #[.pointer (some ⟨R, 0, none⟩), .string ⟨(45 :: digL).toArray⟩] w fun e w' => e = .returned (.bool false) ∧ Rd w' R s b l ∧ Kp (Own1 R) w w') (S5 : ∀ w, Rd w R s b l → Calls Tryz.prog 80 #[.pointer (some ⟨R, 0, none⟩), .string ⟨#[34]⟩] w fun e w' => e = .returned (.bool true) ∧ Rd w' R s b l ∧ Kp (Own1 R) w w') (N6 : ∀ w, Rd w R s b l → Calls Tryz.prog 82 #[.pointer (some ⟨R, 0, none⟩)] w fun e w' => e = .returned (.string ⟨t.toArray⟩) ∧ Rd w' R s b m ∧ Kp (Own1 R) w w') (hy : y = s.length - m.length) (w : World) (h : Rd w R s b l) : Calls Tryz.prog 50 #[.pointer (some ⟨R, 0, none⟩)] w (TokQ R s b w 4 t y m) := by
  have hR := h.lt
  have h0 := h.alloc tok0
  have PF := fun (w' : World) (hr : Rd w' R s b m) (hk : Kp (Own1 R) (w.alloc tok0) w') => put4_facts hr hk hR 4 t b y
  have RC := fun (w' : World) (hk : Kp (Own1 R) (w.alloc tok0) w') => res_cells hk hR
  have FC := fun (w' : World) (hr : Rd w' R s b m) => And.intro hr.c1 hr.c2
  rw [← hy] at FC
  clear h hy
  go_enter Tryz.func50, Tryz.ntmps50
  go_wp2_with (first
    | (go_at_call 82; refine (N6 _ hr5).mono ?_; rintro e w6 ⟨rfl, hr6, hk6⟩; obtain ⟨d1, d2⟩ := FC _ hr6; obtain ⟨⟨q0, q1, q2, q3⟩, qf⟩ := RC _ (((((hk1.trans hk2).trans hk3).trans hk4).trans hk5).trans hk6))
    | (go_at_call 80; refine (S5 _ hr4).mono ?_; rintro e w5 ⟨rfl, hr5, hk5⟩)
    | (go_at_call 80; refine (S4 _ hr3).mono ?_; rintro e w4 ⟨rfl, hr4, hk4⟩)
    | (go_at_call 78; refine (O3 _ hr2).mono ?_; rintro e w3 ⟨rfl, hr3, hk3⟩)
    | (go_at_call 75; refine (T2 _ hr1).mono ?_; rintro e w2 ⟨rfl, hr2, hk2⟩)
    | (go_at_call 78; refine (O1 _ h0).mono ?_; rintro e w1 ⟨rfl, hr1, hk1⟩)
    | fail)
  go_region
  all_goals
    go_wp2
    obtain ⟨p1, p2, p3⟩ := PF _ hr6 (((((hk1.trans hk2).trans hk3).trans hk4).trans hk5).trans hk6)
    exact bodyPost_ret (tok_ret p3 rfl rfl) rfl ⟨⟨rfl, p1.drewN 1⟩, p2.drew⟩
end
end Go.Proofs.YtlabcadpkdgjnaaGreatDoor
