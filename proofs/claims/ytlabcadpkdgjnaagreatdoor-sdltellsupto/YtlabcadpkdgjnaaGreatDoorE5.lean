/- The writer of schemas: objects, enums, the whole. -/
import Derived.Test.YtlabcadpkdgjnaaGreatDoorE1
import Derived.Test.YtlabcadpkdgjnaaGreatDoorE3
import Derived.Lib.IndexMore
import Derived.Test.YtlabcadpkdgjnaaGreatDoorE2
namespace Go.Proofs.YtlabcadpkdgjnaaGreatDoor
open Go Go.RowKit
def nameW (s : Bs) : Option (List Bs) := if nameK s then some [s] else none
def bangW (s : Bs) : Option (List Bs) := if s = [] then some [] else if s = [33] then some [s] else none
def andW (x y : Option (List Bs)) : Option (List Bs) := match x with
  | none => none
  | some a => match y with
    | none => none
    | some b => some (a ++ b)
/-- What is ahead of the first bracket, and what behind it. -/
def cutW : Bs → Option (Bs × Bs)
  | [] => none
  | c :: l => if c = 91 then some ([], l) else match cutW l with
    | none => none
    | some p => some (c :: p.1, p.2)
def refW (t w : Bs) : Option (List Bs) := match cutW w with
  | none => andW (nameW t) (bangW w)
  | some p => andW (some [[91]]) (andW (nameW t) (andW (bangW p.1) (andW (some [[93]]) (bangW p.2))))
def invW (i : Bs) : Option (List Bs) := if i = [] then some [] else andW (some [[64], inverseB, [40], fieldB, [58]]) (andW (nameW i) (some [[41]]))
def seaW (s : Bool) : Option (List Bs) := if s then some [[64], searchB] else some []
def fieldW (f : Fld) : Option (List Bs) := andW (nameW f.n) (andW (some [[58]]) (andW (refW f.t f.w) (andW (seaW f.s) (invW f.i))))
def rowW {α : Type} (g : α → Option (List Bs)) : List α → Option (List Bs)
  | [] => some []
  | x :: l => andW (g x) (rowW g l)
def objectW (o : Ob) : Option (List Bs) := andW (some [typeB]) (andW (nameW o.n) (andW (some [[123]]) (andW (rowW fieldW o.fs) (some [[125]]))))
def enumW (e : En) : Option (List Bs) := andW (some [enumB]) (andW (nameW e.n) (andW (some [[123]]) (andW (rowW nameW e.ws) (some [[125]]))))
def schemaW (s : Sch) : Option (List Bs) := andW (rowW objectW s.os) (rowW enumW s.es)
def joinW : List Bs → Bs
  | [] => []
  | [x] => x
  | x :: y :: l => x ++ 32 :: joinW (y :: l)
/-- How long tokens are, a blank behind each. -/
def szW : List Bs → Nat
  | [] => 0
  | x :: l => x.length + 1 + szW l
theorem szW_app : ∀ a b : List Bs, szW (a ++ b) = szW a + szW b
  | [], b => by simp [szW]
  | x :: a, b => by simp [szW, szW_app a b]; omega
theorem joinW_len : ∀ us : List Bs, us ≠ [] → (joinW us).length + 1 = szW us
  | [], h => absurd rfl h
  | [x], _ => by simp [joinW, szW]
  | x :: y :: l, _ => by
    have := joinW_len (y :: l) (by simp)
    simp only [joinW, List.length_append, List.length_cons]
    rw [szW]
    omega
theorem andW_some {x y : Option (List Bs)} {us : List Bs} (h : andW x y = some us) : ∃ a b, x = some a ∧ y = some b ∧ us = a ++ b := by
  unfold andW at h
  split at h
  · cases h
  · split at h
    · cases h
    · cases h; exact ⟨_, _, rfl, rfl, rfl⟩
theorem andW_assoc (x y z : Option (List Bs)) : andW (andW x y) z = andW x (andW y z) := by
  cases x <;> cases y <;> cases z <;> simp [andW]
/-- What Print tells. -/
def printD (s : Sch) : Option Bs := match schemaW s with
  | none => none
  | some us => match parseD (joinW us) with
    | .error _ => none
    | .ok _ => some (joinW us)
end Go.Proofs.YtlabcadpkdgjnaaGreatDoor
namespace Go.Proofs.YtlabcadpkdgjnaaGreatDoor
open Go Go.RowKit Go.Shelf
/-- The writer V, its row, what is written. -/
structure WrL (V : Nat) (w : World) (lv : Value) (ts : List Bs) : Prop where
  row : w.heap[V]? = some (.cells #[lv, .int .i64 (szW ts : Int)] 69 (0, 0))
  own : RowO w (V + 1) 9 1 wrdC lv ts
  few : szW ts ≤ 16385
def Wr (V : Nat) (w : World) (ts : List Bs) : Prop := ∃ lv, WrL V w lv ts
/-- Only the writer, and blocks of strings behind it, have changed. -/
structure FrW (V : Nat) (w w' : World) : Prop where
  os : w'.os = w.os
  tape : w'.tape = w.tape
  output : w'.output = w.output
  size : w.heap.size ≤ w'.heap.size
  block : ∀ k o, w.heap[k]? = some o → k ≠ V → (k < V ∨ ∀ cur, o ≠ .cells cur 9 (0, 0)) → w'.heap[k]? = some o
theorem FrW.refl (V : Nat) (w : World) : FrW V w w := ⟨rfl, rfl, rfl, Nat.le_refl _, fun _ _ h _ _ => h⟩
theorem FrW.trans {V : Nat} {w w' w'' : World} (h : FrW V w w') (g : FrW V w' w'') : FrW V w w'' := ⟨g.os.trans h.os, g.tape.trans h.tape, g.output.trans h.output, Nat.le_trans h.size g.size, fun k o hk hn hq => g.block k o (h.block k o hk hn hq) hn hq⟩
theorem frw_of {V : Nat} {w w' : World} (h : Below w.heap.size w w') : FrW V w w' := ⟨h.os, h.tape, h.output, h.size, fun k _ hk _ _ => (h.block k (lt_of_block hk)).trans hk⟩
theorem FrW.below {V : Nat} {w w' : World} (h : FrW V w w') (hV : V ≤ w.heap.size) : Below V w w' := ⟨h.os, h.tape, h.output, h.size, fun k hk => by
    have hlt : k < w.heap.size := Nat.lt_of_lt_of_le hk hV
    have e : w.heap[k]? = some w.heap[k] := Array.getElem?_eq_getElem hlt
    rw [e]
    exact h.block k _ e (by omega) (Or.inl hk)⟩
/-- What a step of the writer comes to. -/
def OutW (V : Nat) (w : World) (x : Option (List Bs)) (ts : List Bs) (e : Ending) (w' : World) : Prop :=
  ((∀ us, x = some us → 16385 < szW (ts ++ us)) ∧ e = DiesD (0, 81) ∧ FrW V w w') ∨ (∃ us, Hid (x = some us) ∧ e = .returned (.tuple #[]) ∧ Wr V w' (ts ++ us) ∧ FrW V w w')
theorem len_szW : ∀ us : List Bs, us.length ≤ szW us
  | [] => Nat.zero_le _
  | x :: us => by have := len_szW us; simp [szW]; omega
theorem WrL.len {V : Nat} {w : World} {lv : Value} {ts : List Bs} (h : WrL V w lv ts) : ts.length ≤ 16385 := Nat.le_trans (len_szW ts) h.few
theorem WrL.lt {V : Nat} {w : World} {lv : Value} {ts : List Bs} (h : WrL V w lv ts) : V < w.heap.size := lt_of_block h.row
theorem WrL.blk {V : Nat} {w w' : World} {lv : Value} {ts : List Bs} (h : WrL V w lv ts) (hb : ∀ g o, V ≤ g → w.heap[g]? = some o → w'.heap[g]? = some o) : WrL V w' lv ts := ⟨hb V _ (Nat.le_refl _) h.row, h.own.blk fun g _ hg q => hb g _ (by omega) q, h.few⟩
theorem WrL.on {V : Nat} {w w' : World} {lv : Value} {ts : List Bs} (h : WrL V w lv ts) (hb : Below w.heap.size w w') : WrL V w' lv ts := h.blk fun g _ _ hg => (hb.block g (lt_of_block hg)).trans hg
theorem Wr.on {V : Nat} {w w' : World} {ts : List Bs} (h : Wr V w ts) (hb : Below w.heap.size w w') : Wr V w' ts := h.elim fun lv q => ⟨lv, q.on hb⟩
theorem Wr.lt {V : Nat} {w : World} {ts : List Bs} (h : Wr V w ts) : V < w.heap.size := h.elim fun _ q => q.lt
theorem Wr.few {V : Nat} {w : World} {ts : List Bs} (h : Wr V w ts) : szW ts ≤ 16385 := h.elim fun _ q => q.few
theorem WrL.ob {V : Nat} {w : World} {lv : Value} {ts : List Bs} (h : WrL V w lv ts) {k : Nat} (e : lv.ownBlock = some k) : V + 1 ≤ k ∧ k < w.heap.size := ownBlk (h.own.own rfl) e
theorem wneed_yes {V : Nat} (w : World) : Calls Tryz.prog 28 #[.pointer (some ⟨V, 0, none⟩), .bool true] w fun e w' => e = .returned (.tuple #[]) ∧ w = w' := by
  go_enter Tryz.func28, Tryz.ntmps28
  go_wp2
  go_end0
  exact ⟨rfl, rfl⟩
theorem wneed_no {V : Nat} (w : World) : Calls Tryz.prog 28 #[.pointer (some ⟨V, 0, none⟩), .bool false] w fun e w' => e = DiesD (0, 81) ∧ w = w' := by
  go_enter Tryz.func28, Tryz.ntmps28
  go_wp2
  exact ⟨rfl, rfl, rfl⟩
theorem szW_snoc (ts : List Bs) (x : Bs) : szW (ts ++ [x]) = szW ts + x.length + 1 := by rw [szW_app]; simp [szW]; omega
/-- One token more. -/
theorem WrL.push {V n : Nat} {w w8 : World} {lv v8 : Value} {ts : List Bs} {x : Bs} {X : Obj} (h : WrL V w lv ts) (hx : szW ts + x.length ≤ 16384) (gr : (w.alloc X).grownBy w8 lv.ownBlock) (hn : n = ts.length + 1) (own : w8.ownsRow (V + 1) 9 1 v8 n (ts.flatMap wrdC ++ [.string ⟨x.toArray⟩])) (z : Int) (hz : z = ((szW (ts ++ [x]) : Nat) : Int)) :
    WrL V ((w8.setCell ⟨V, 0, none⟩ v8).setCell ⟨V, 1, none⟩ (.int .i64 z)) v8 (ts ++ [x]) ∧ w8.heap[V]? = some (.cells #[lv, .int .i64 (szW ts : Int)] 69 (0, 0)) ∧ FrW V w ((w8.setCell ⟨V, 0, none⟩ v8).setCell ⟨V, 1, none⟩ (.int .i64 z)) := by
  have hV := h.lt
  have ga : Gt (V + 1) 9 w (w.alloc X) := gt_of (al1 w X)
  have gg : Gt (V + 1) 9 w w8 := ga.trans (gt_grown ((h.own.own rfl).alloc X) gr)
  have row8 : w8.heap[V]? = some (.cells #[lv, .int .i64 (szW ts : Int)] 69 (0, 0)) := gg.block V _ h.row (Or.inl (by omega))
  have k2 : Kp (Own1 V) w8 ((w8.setCell ⟨V, 0, none⟩ v8).setCell ⟨V, 1, none⟩ (.int .i64 z)) := (Kp.own V 0 v8).set V 1 _ (Or.inr rfl)
  have bk := kp_blk (B := V + 1) k2 (fun q e => by have e' : q = V := e; omega)
  refine ⟨⟨?_, ?_, by rw [szW_snoc]; omega⟩, row8, ?_⟩
  · subst hz
    exact heap_setCell_same _ V 1 _ _ _ (heap_setCell_same _ V 0 _ _ _ row8)
  · exact (RowO.pushL (m := [x]) own hn (by simp)).blk fun _ _ q => bk _ _ q
  · exact ⟨k2.os.trans gg.os, k2.tape.trans gg.tape, k2.output.trans gg.output, Nat.le_trans gg.size k2.size, fun k o hk hn hq => rowOld (gg.block k o hk (hq.elim (fun q => Or.inl (by omega)) Or.inr)) k2 hn⟩
set_option maxRecDepth 100000 in
set_option maxHeartbeats 4000000 in
theorem wput_any {V G : Nat} {w : World} {lv0 : Value} {ts : List Bs} (xs : List Bs) (h0 : WrL V w lv0 ts) (hG : w.heap[G]? = some (.cells (xs.map fun x => Value.string ⟨x.toArray⟩).toArray 9 (0, 0))) (hV : V < G) (hne : ∀ k, lv0.ownBlock = some k → k ≠ G) (hx : ∀ x ∈ xs, x.length ≤ 140737488355328) (hxl : xs.length ≤ 140737488355328) :
    Calls Tryz.prog 68 #[.pointer (some ⟨V, 0, none⟩), .slice (some ⟨G, 0, none⟩) xs.length xs.length] w (OutW V w (some xs) ts) := by
  obtain ⟨ti, hti, hy0, hy1, hy2⟩ := info_parts Tryz.infoStr
  go_enter Tryz.func68, Tryz.ntmps68
  go_wp2
  go_loopw [8] (fun i wr => ∃ (j : Nat) (lv : Value), i = .int .i64 (j : Int) ∧ j ≤ xs.length ∧ WrL V wr lv (ts ++ xs.take j) ∧ (∀ k, lv.ownBlock = some k → k ≠ G) ∧ wr.heap[G]? = some (.cells (xs.map fun x => Value.string ⟨x.toArray⟩).toArray 9 (0, 0)) ∧ FrW V w wr) (fun i _ => xs.length - (RowKit.intOf i).toNat)
  case atStart => exact ⟨0, lv0, rfl, Nat.zero_le _, by simpa using h0, hne, hG, FrW.refl _ _⟩
  case round =>
    obtain ⟨j, lv, rfl, hj, hW, hob, hGr, hB⟩ := hrel
    clear h0 hG hne
    by_cases hlt : j < xs.length
    · obtain ⟨x, hxj⟩ : ∃ x, xs[j]? = some x := ⟨_, List.getElem?_eq_getElem hlt⟩
      have hxm := hx x (List.mem_of_getElem? hxj)
      have l1 : ((j : Nat) : Int) < (xs.length : Int) := by omega
      have hjN : ((j : Nat) : Int).toNat = j := by omega
      have hz : Hid (j + 1 ≤ xs.length) := hlt
      have e0 : wr.cell? ⟨G, j, none⟩ = some (.string ⟨x.toArray⟩) := by
        unfold World.cell?
        rw [hGr]
        simp [hxj]
      have HT : Hid (ts ++ xs.take (j + 1) = (ts ++ xs.take j) ++ [x]) := by
        show _ = _
        rw [List.take_add_one, hxj]
        simp
      have hlen := hW.len
      have hfew := hW.few
      have hlV := hW.lt
      generalize hT : ts ++ xs.take j = us at *
      obtain ⟨c0, c1, cf⟩ := row2 hW.row
      have HX : Hid (xs[j]? = some x) := hxj
      clear hxj hlt
      by_cases hs : szW us + x.length ≤ 16384
      · have hd : ((szW us : Nat) : Int) + (x.length : Int) ≤ 16384 := by omega
        have f0 := fun o => cell_on (al1 wr o) c0
        have HS : Hid (szW us + x.length ≤ 16384) := hs
        have O6 := ((hW.own.own rfl).alloc (.cells #[.string ⟨x.toArray⟩] 9))
        clear hs
        go_wp2_with (first
          | (at_builtin; refine wpList_append_lies _ rfl (.tmp 26) (.tmp 28) 41 rfl (V + 1) 9 ti _ 1 16 Tryz.underlying41 hti hy0 hy1 hy2 rfl (by decide) lv us.length (us.flatMap wrdC) rfl O6 ⟨wr.heap.size, 0, none⟩ 1 1 (wrdC x) rfl rfl (World.news_of_block (heap_alloc_new wr (.cells #[.string ⟨x.toArray⟩] 9))) (by intro u hu; simp at hu; rcases hu with rfl <;> rfl) (by decide) (by unfold maxLen; omega) (by omega) (Nat.le_trans (Nat.succ_le_of_lt hlV) (al1 wr _).size) (wr.heap.size + 1) (by simp) ?_; intro g8 c8 w8 own8 gr8 hor8 hlt8; have HOR : Hid _ := hor8; clear hor8; obtain ⟨PW, P8, PB⟩ := hW.push HS.out gr8 rfl own8 (((szW us : Nat) : Int) + ((x.length : Int) + 1)) (by rw [szW_snoc]; omega); obtain ⟨g0, g1, gf⟩ := row2 P8)
          | (go_at_call 28; (with_reducible refine (wneed_yes _).mono ?_); rintro e w2 ⟨rfl, rfl⟩)
          | fail)
        have hGs : G < wr.heap.size := lt_of_block hGr
        have hG8 : w8.heap[G]? = some (.cells (xs.map fun x => Value.string ⟨x.toArray⟩).toArray 9 (0, 0)) := (gr8.block G (by simp; omega) (fun e => hob _ e.symm rfl)).trans (((al1 wr _).block G hGs).trans hGr)
        refine ⟨⟨j + 1, _, by simp, hz.out, by rw [HT.out]; exact PW, ?_, ?_, hB.trans PB⟩, ?_⟩
        · intro k hk e
          have hk' : g8 = k := by simpa [Value.ownBlock] using hk
          subst hk'
          rcases HOR.out with q | q
          · exact hob _ q e
          · omega
        · exact rowOld hG8 ((Kp.own V 0 (.slice (some ⟨g8, 0, none⟩) (us.length + 1) c8)).set V 1 _ (Or.inr rfl)) (fun e => by have e' : G = V := e; omega)
        · have := hz.out
          simp [RowKit.intOf]
          omega
      · have hd : decide (((szW us : Nat) : Int) + (x.length : Int) ≤ 16384) = false := by simp; omega
        go_wp2_with (first
          | (go_at_call 28; (with_reducible refine (wneed_no _).mono ?_); rintro e w2 ⟨rfl, rfl⟩; exact ⟨rfl, Or.inl ⟨fun us' e => (by
              cases e
              have e1 : ts ++ xs = (us ++ [x]) ++ xs.drop (j + 1) := by rw [← HT.out, List.append_assoc, List.take_append_drop]
              rw [e1, szW_app, szW_snoc]
              omega), rfl, hB⟩⟩)
          | fail)
    · have l2 : decide (((j : Nat) : Int) < (xs.length : Int)) = false := by simp; omega
      have l3 : decide (j < xs.length) = false := by simp; omega
      have hj2 : j = xs.length := by omega
      go_wp2
      go_end0
      refine Or.inr ⟨xs, rfl, rfl, ⟨lv, ?_⟩, hB⟩
      rw [hj2, List.take_length] at hW
      exact hW
theorem OutW.mono0 {V : Nat} {w0 w : World} {x : Option (List Bs)} {ts : List Bs} {e : Ending} {w' : World} (h : OutW V w x ts e w') (hb : FrW V w0 w) : OutW V w0 x ts e w' := by
  rcases h with ⟨h1, h2, h3⟩ | ⟨us, h1, h2, h3, h4⟩
  · exact Or.inl ⟨h1, h2, hb.trans h3⟩
  · exact Or.inr ⟨us, h1, h2, h3, hb.trans h4⟩
theorem al1V {V : Nat} {w : World} (o : Obj) : FrW V w (w.alloc o) := frw_of (al1 w o)
theorem wput_new {V : Nat} {w : World} {ts : List Bs} (xs : List Bs) (h : Wr V w ts) (hx : ∀ x ∈ xs, x.length ≤ 140737488355328) (hxl : xs.length ≤ 140737488355328) :
    Calls Tryz.prog 68 #[.pointer (some ⟨V, 0, none⟩), .slice (some ⟨w.heap.size, 0, none⟩) xs.length xs.length] (w.alloc (.cells (xs.map fun x => Value.string ⟨x.toArray⟩).toArray 9)) (OutW V w (some xs) ts) := by
  obtain ⟨lv, q⟩ := h
  have q' := q.on (al1 w (.cells (xs.map fun x => Value.string ⟨x.toArray⟩).toArray 9))
  exact (wput_any xs q' (heap_alloc_new w _) q.lt (fun k e => by have := (q.ob e).2; omega) hx hxl).mono fun _ _ o => o.mono0 (al1V _)
theorem wput1 {V : Nat} {w : World} {ts : List Bs} (x : Bs) (h : Wr V w ts) (hx : x.length ≤ 140737488355328) :
    Calls Tryz.prog 68 #[.pointer (some ⟨V, 0, none⟩), .slice (some ⟨w.heap.size, 0, none⟩) 1 1] (w.alloc (.cells #[.string ⟨x.toArray⟩] 9)) (OutW V w (some [x]) ts) := wput_new [x] h (fun y hy => by simp at hy; subst hy; exact hx) (by simp)
theorem wput2 {V : Nat} {w : World} {ts : List Bs} (x y : Bs) (h : Wr V w ts) (hx : x.length ≤ 140737488355328) (hy : y.length ≤ 140737488355328) :
    Calls Tryz.prog 68 #[.pointer (some ⟨V, 0, none⟩), .slice (some ⟨w.heap.size, 0, none⟩) 2 2] (w.alloc (.cells #[.string ⟨x.toArray⟩, .string ⟨y.toArray⟩] 9)) (OutW V w (some [x, y]) ts) := wput_new [x, y] h (fun z hz => by simp at hz; rcases hz with rfl | rfl <;> assumption) (by simp)
theorem wput5 {V : Nat} {w : World} {ts : List Bs} (h : Wr V w ts) :
    Calls Tryz.prog 68 #[.pointer (some ⟨V, 0, none⟩), .slice (some ⟨w.heap.size, 0, none⟩) 5 5] (w.alloc (.cells #[.string ⟨#[64]⟩, .string ⟨#[104, 97, 115, 73, 110, 118, 101, 114, 115, 101]⟩, .string ⟨#[40]⟩, .string ⟨#[102, 105, 101, 108, 100]⟩, .string ⟨#[58]⟩] 9)) (OutW V w (some [[64], inverseB, [40], fieldB, [58]]) ts) := wput_new [[64], inverseB, [40], fieldB, [58]] h (fun z hz => by simp at hz; rcases hz with rfl | rfl | rfl | rfl | rfl <;> decide) (by simp)
/-- One step behind another: the second. -/
theorem OutW.seq {V : Nat} {w w1 : World} {x y : Option (List Bs)} {ts us : List Bs} {e : Ending} {w' : World} (hx : Hid (x = some us)) (hb : FrW V w w1) (h : OutW V w1 y (ts ++ us) e w') : OutW V w (andW x y) ts e w' := by
  have hx' : x = some us := hx.out
  subst hx'
  rcases h with ⟨h1, h2, h3⟩ | ⟨vs, hv, h2, h3, h4⟩
  · refine Or.inl ⟨fun zs e => ?_, h2, hb.trans h3⟩
    obtain ⟨a, b, ea, eb, rfl⟩ := andW_some e
    cases ea
    rw [← List.append_assoc]
    exact h1 b eb
  · have hv' : y = some vs := hv.out
    subst hv'
    exact Or.inr ⟨us ++ vs, rfl, h2, by rw [← List.append_assoc]; exact h3, hb.trans h4⟩
/-- The first gives up. -/
theorem out_die {V : Nat} {w w' : World} {x : Option (List Bs)} {ts : List Bs} {y : Option (List Bs)} (hx : ∀ us, x = some us → 16385 < szW (ts ++ us)) (hb : FrW V w w') : OutW V w (andW x y) ts (DiesD (0, 81)) w' := by
  refine Or.inl ⟨fun zs e => ?_, rfl, hb⟩
  obtain ⟨a, b, ea, eb, rfl⟩ := andW_some e
  have := hx a ea
  rw [← List.append_assoc, szW_app]
  omega
theorem out_end {V : Nat} {w w' : World} {x : Option (List Bs)} {ts us : List Bs} (hx : Hid (x = some us)) (h : Wr V w' (ts ++ us)) (hb : FrW V w w') : OutW V w x ts (.returned (.tuple #[])) w' := Or.inr ⟨us, hx, rfl, h, hb⟩
theorem out_last {V : Nat} {w w' : World} {x : Option (List Bs)} {ts : List Bs} (hx : ∀ us, x = some us → 16385 < szW (ts ++ us)) (hb : FrW V w w') : OutW V w x ts (DiesD (0, 81)) w' := Or.inl ⟨hx, rfl, hb⟩
set_option maxRecDepth 100000 in
theorem wname_any {V : Nat} {w : World} {ts : List Bs} (n : Bs) (h : Wr V w ts) (hn : n.length ≤ 140737488355328) (gl : Gl w) : Calls Tryz.prog 69 #[.pointer (some ⟨V, 0, none⟩), .string ⟨n.toArray⟩] w (OutW V w (nameW n) ts) := by
  have X := yname_any n w gl
  unfold nameW
  cases hk : nameK n with
  | true =>
    rw [hk] at X
    clear hk
    rw [if_pos rfl]
    go_enter Tryz.func69, Tryz.ntmps69
    go_wp2_with (first
      | (go_at_call 68; (with_reducible refine (wput1 n h1 hn).mono ?_); rintro e w3 (⟨hq, rfl, b3⟩ | ⟨us, hq, rfl, h3, b3⟩); (exact ⟨rfl, out_last hq ((frw_of hb).trans b3)⟩))
      | (go_at_call 28; (with_reducible refine (wneed_yes _).mono ?_); rintro e w2 ⟨rfl, rfl⟩)
      | (go_at_call 94; (with_reducible refine X.mono ?_); rintro e w1 ⟨rfl, hb⟩; have h1 := h.on hb)
      | fail)
    go_end0
    exact out_end hq h3 ((frw_of hb).trans b3)
  | false =>
    rw [hk] at X
    clear hk
    rw [if_neg (by simp)]
    go_enter Tryz.func69, Tryz.ntmps69
    go_wp2_with (first
      | (go_at_call 28; (with_reducible refine (wneed_no _).mono ?_); rintro e w2 ⟨rfl, rfl⟩; exact ⟨rfl, out_last (fun _ e => (by cases e)) (frw_of hb)⟩)
      | (go_at_call 94; (with_reducible refine X.mono ?_); rintro e w1 ⟨rfl, hb⟩; have h1 := h.on hb)
      | fail)
set_option maxRecDepth 100000 in
theorem wbang_any {V : Nat} {w : World} {ts : List Bs} (n : Bs) (h : Wr V w ts) : Calls Tryz.prog 115 #[.pointer (some ⟨V, 0, none⟩), .string ⟨n.toArray⟩] w (OutW V w (bangW n) ts) := by
  have B1 := bytes_eq n []
  have B2 := bytes_eq n [33]
  unfold bangW
  by_cases h0 : n = []
  · subst h0
    rw [if_pos rfl]
    go_enter Tryz.func115, Tryz.ntmps115
    go_wp2_with (first
      | (go_at_call 28; (with_reducible refine (wneed_yes _).mono ?_); rintro e w2 ⟨rfl, rfl⟩)
      | fail)
    go_end0
    exact out_end rfl (by simpa using h) (FrW.refl _ _)
  · rw [if_neg h0]
    by_cases h1 : n = [33]
    · subst h1
      rw [if_pos rfl]
      go_enter Tryz.func115, Tryz.ntmps115
      go_wp2_with (first
        | (go_at_call 68; (with_reducible refine (wput1 [33] h (by decide)).mono ?_); rintro e w3 (⟨hq, rfl, b3⟩ | ⟨us, hq, rfl, h3, b3⟩); (exact ⟨rfl, out_last hq b3⟩))
        | (go_at_call 28; (with_reducible refine (wneed_yes _).mono ?_); rintro e w2 ⟨rfl, rfl⟩)
        | fail)
      go_end0
      exact out_end hq h3 b3
    · rw [if_neg h1]
      have e0 : (n == []) = false := by simpa using h0
      have e1 : (n == [33]) = false := by simpa using h1
      rw [e0] at B1
      rw [e1] at B2
      clear h0 h1
      go_enter Tryz.func115, Tryz.ntmps115
      go_wp2_with (first
        | (go_at_call 28; (with_reducible refine (wneed_no _).mono ?_); rintro e w2 ⟨rfl, rfl⟩; exact ⟨rfl, out_last (fun _ e => (by cases e)) (FrW.refl _ _)⟩)
        | fail)
end Go.Proofs.YtlabcadpkdgjnaaGreatDoor
namespace Go.Proofs.YtlabcadpkdgjnaaGreatDoor
open Go Go.RowKit Go.Shelf
theorem Gl.frw {w w' : World} (h : Gl w) {V : Nat} (hb : FrW V w w') (hV : gM < V ∧ gE < V) : Gl w' := by
  have f : ∀ k, k < V → k < w.heap.size → w'.heap[k]? = w.heap[k]? := fun k h1 h2 => by
    have e : w.heap[k]? = some w.heap[k] := Array.getElem?_eq_getElem h2
    rw [e]
    exact hb.block k _ e (by omega) (Or.inl h1)
  exact h.of (f _ hV.1 h.ltM) (f _ hV.2 h.ltE)
theorem FrW.old {V : Nat} {w w' : World} (h : FrW V w w') {k : Nat} {c : Array Value} {E : Nat} (hk : w.heap[k]? = some (.cells c E (0, 0))) (hn : V < k) (hE : E ≠ 9) : w'.heap[k]? = some (.cells c E (0, 0)) := h.block k _ hk (by omega) (Or.inr fun cur e => by cases e; exact hE rfl)
theorem cut_bra : ∀ (l : Bs), (Lib.cut l [91] = (l, [], false) ∧ cutW l = none) ∨ ∃ p, cutW l = some p ∧ Lib.cut l [91] = (p.1, p.2, true)
  | [] => Or.inl ⟨by decide, rfl⟩
  | c :: l => by
    by_cases hc : c = 91
    · subst hc
      refine Or.inr ⟨([], l), rfl, ?_⟩
      unfold Lib.cut
      rw [Lib.index_one]
      rfl
    · have hi : Lib.index (c :: l) [91] = if Lib.index l [91] == -1 then -1 else Lib.index l [91] + 1 := by
        rw [Lib.index_one, Lib.index_one]
        show (if c == 91 then (0 : Int) else if Lib.indexByte l 91 == -1 then -1 else Lib.indexByte l 91 + 1) = _
        rw [if_neg (by simpa using hc)]
      have hg := Lib.index_ge l [91]
      rcases cut_bra l with ⟨h1, h2⟩ | ⟨p, h2, h3⟩
      · left
        have hx : ¬ 0 ≤ Lib.index l [91] := by
          intro h0
          unfold Lib.cut at h1
          rw [if_pos h0] at h1
          simp at h1
        refine ⟨?_, by unfold cutW; rw [if_neg hc, h2]⟩
        unfold Lib.cut
        have e : Lib.index l [91] = -1 := by omega
        rw [hi, e]
        rfl
      · right
        refine ⟨(c :: p.1, p.2), by unfold cutW; rw [if_neg hc, h2], ?_⟩
        have h0 : 0 ≤ Lib.index l [91] := by
          by_cases h0 : 0 ≤ Lib.index l [91]
          · exact h0
          · unfold Lib.cut at h3
            rw [if_neg h0] at h3
            simp at h3
        unfold Lib.cut at h3 ⊢
        rw [if_pos h0] at h3
        have e : Lib.index (c :: l) [91] = Lib.index l [91] + 1 := by
          rw [hi, if_neg]
          simp
          omega
        rw [e, if_pos (by omega)]
        have en : (Lib.index l [91] + 1).toNat = (Lib.index l [91]).toNat + 1 := by omega
        rw [en, List.take_succ_cons, show (Lib.index l [91]).toNat + 1 + [(91 : UInt8)].length = ((Lib.index l [91]).toNat + [(91 : UInt8)].length) + 1 by omega, List.drop_succ_cons]
        have q1 : l.take (Lib.index l [91]).toNat = p.1 := congrArg Prod.fst h3
        have q2 : l.drop ((Lib.index l [91]).toNat + [(91 : UInt8)].length) = p.2 := congrArg (fun x => x.2.1) h3
        rw [q1, q2]
theorem row2' {w : World} {k E : Nat} {u v : Value} (h : w.heap[k]? = some (.cells #[u, v] E (0, 0))) : w.cell? ⟨k, 0, none⟩ = some u ∧ w.cell? ⟨k, 1, none⟩ = some v := ⟨(row2 h).1, (row2 h).2.1⟩
set_option maxRecDepth 100000 in
set_option maxHeartbeats 4000000 in
theorem wref_any {V : Nat} {w : World} {ts : List Bs} (t x : Bs) (h : Wr V w ts) (ht : t.length ≤ 140737488355328) (hx : x.length < 4294967281) (gl : Gl w) (hV : gM < V ∧ gE < V) : Calls Tryz.prog 95 #[.pointer (some ⟨V, 0, none⟩), .agg #[.string ⟨t.toArray⟩, .string ⟨x.toArray⟩]] w (OutW V w (refW t x) ts) := by
  have hlt := h.lt
  obtain ⟨w0, hw0⟩ : ∃ w0, w0 = w.alloc (.cells #[.string ⟨t.toArray⟩, .string ⟨x.toArray⟩] 61) := ⟨_, rfl⟩
  have f0 : FrW V w w0 := by rw [hw0]; exact al1V _
  have h0 : Wr V w0 ts := by rw [hw0]; exact h.on (al1 w _)
  have g0 : Gl w0 := gl.frw f0 hV
  have P0 : w0.heap[w.heap.size]? = some (.cells #[.string ⟨t.toArray⟩, .string ⟨x.toArray⟩] 61 (0, 0)) := by rw [hw0]; exact heap_alloc_new w _
  have A : Hid (∀ W, FrW V w0 W → Gl W ∧ W.cell? ⟨w.heap.size, 0, none⟩ = some (.string ⟨t.toArray⟩)) := fun W F => ⟨g0.frw F hV, (row2' (F.old P0 hlt (by decide))).1⟩
  obtain ⟨m, hm⟩ := g0.mx
  have CT := Tryz.strings_Cut ⟨x.toArray⟩ ⟨#[91]⟩ m w0 (by simpa [ByteArray.size] using hx) hm
  dsimp only at CT
  clear hm P0 h gl g0 hx
  unfold refW
  rcases cut_bra x with ⟨hc, hq⟩ | ⟨⟨p1, p2⟩, hq, hc⟩
  · simp only [hc] at CT
    rw [hq]
    show Calls _ _ _ _ (OutW V w (andW (nameW t) (bangW x)) ts)
    clear hc hq
    go_enter Tryz.func95, Tryz.ntmps95
    go_wp2_with (first
      | (go_at_call 115; (with_reducible refine (wbang_any x h2).mono ?_); rintro e w3 (⟨hq3, rfl, f3⟩ | ⟨us3, hq3, rfl, h3, f3⟩); (exact ⟨rfl, (OutW.seq hq2 f2 (out_last hq3 f3)).mono0 F1⟩))
      | (go_at_call 69; (with_reducible refine (wname_any t h1 ht (A.out _ F1').1).mono ?_); rintro e w2 (⟨hq2, rfl, f2⟩ | ⟨us2, hq2, rfl, h2, f2⟩); (exact ⟨rfl, (out_die hq2 f2).mono0 F1⟩))
      | (go_at_call 114; rw [← hw0]; (with_reducible refine CT.mono ?_); rintro e w1 ⟨rfl, n, hw1⟩; have b1 : Below w0.heap.size w0 w1 := (by rw [hw1]; exact below_drewN (Below.refl _ _) n); clear hw1; have F1' : FrW V w0 w1 := frw_of b1; have F1 := f0.trans F1'; have h1 := h0.on b1; have c1 := (A.out _ F1').2)
      | fail)
    go_end0
    exact (OutW.seq hq2 f2 (out_end hq3 h3 f3)).mono0 F1
  · simp only [hc] at CT
    rw [hq]
    show Calls _ _ _ _ (OutW V w (andW (some [[91]]) (andW (nameW t) (andW (bangW p1) (andW (some [[93]]) (bangW p2))))) ts)
    clear hc hq
    go_enter Tryz.func95, Tryz.ntmps95
    go_wp2_with (first
      | (go_at_call 115; (with_reducible refine (wbang_any p2 h5).mono ?_); rintro e w6 (⟨hq6, rfl, f6⟩ | ⟨us6, hq6, rfl, h6, f6⟩); (exact ⟨rfl, (OutW.seq hq2 f2 (OutW.seq hq3 f3 (OutW.seq hq4 f4 (OutW.seq hq5 f5 (out_last hq6 f6))))).mono0 F1⟩))
      | (go_at_call 68; (with_reducible refine (wput1 [93] h4 (by decide)).mono ?_); rintro e w5 (⟨hq5, rfl, f5⟩ | ⟨us5, hq5, rfl, h5, f5⟩); (exact ⟨rfl, (OutW.seq hq2 f2 (OutW.seq hq3 f3 (OutW.seq hq4 f4 (out_die hq5 f5)))).mono0 F1⟩))
      | (go_at_call 115; (with_reducible refine (wbang_any p1 h3).mono ?_); rintro e w4 (⟨hq4, rfl, f4⟩ | ⟨us4, hq4, rfl, h4, f4⟩); (exact ⟨rfl, (OutW.seq hq2 f2 (OutW.seq hq3 f3 (out_die hq4 f4))).mono0 F1⟩))
      | (go_at_call 69; (with_reducible refine (wname_any t h2 ht (A.out _ (F1'.trans f2)).1).mono ?_); rintro e w3 (⟨hq3, rfl, f3⟩ | ⟨us3, hq3, rfl, h3, f3⟩); (exact ⟨rfl, (OutW.seq hq2 f2 (out_die hq3 f3)).mono0 F1⟩))
      | (go_at_call 68; (with_reducible refine (wput1 [91] h1 (by decide)).mono ?_); rintro e w2 (⟨hq2, rfl, f2⟩ | ⟨us2, hq2, rfl, h2, f2⟩); (exact ⟨rfl, (out_die hq2 f2).mono0 F1⟩); have c2 := (A.out _ (F1'.trans f2)).2)
      | (go_at_call 114; rw [← hw0]; (with_reducible refine CT.mono ?_); rintro e w1 ⟨rfl, n, hw1⟩; have b1 : Below w0.heap.size w0 w1 := (by rw [hw1]; exact below_drewN (Below.refl _ _) n); clear hw1; have F1' : FrW V w0 w1 := frw_of b1; have F1 := f0.trans F1'; have h1 := h0.on b1; have c1 := (A.out _ F1').2)
      | fail)
    go_end0
    exact (OutW.seq hq2 f2 (OutW.seq hq3 f3 (OutW.seq hq4 f4 (OutW.seq hq5 f5 (out_end hq6 h6 f6))))).mono0 F1
end Go.Proofs.YtlabcadpkdgjnaaGreatDoor
namespace Go.Proofs.YtlabcadpkdgjnaaGreatDoor
open Go Go.RowKit Go.Shelf
theorem andW_nil (y : Option (List Bs)) : andW (some []) y = y := by cases y <;> simp [andW]
theorem andW_nilR (y : Option (List Bs)) : andW y (some []) = y := by cases y <;> simp [andW]
/-- What a schema's words may be, so that no sum of lengths goes round. -/
structure FldL (f : Fld) : Prop where
  n : f.n.length ≤ 140737488355328
  t : f.t.length ≤ 140737488355328
  w : f.w.length < 4294967281
  i : f.i.length ≤ 140737488355328
set_option maxRecDepth 100000 in
set_option maxHeartbeats 8000000 in
theorem wfield_A {V : Nat} {w : World} {ts : List Bs} (n t x : Bs) (h : Wr V w ts) (L : FldL ⟨n, t, x, false, []⟩) (gl : Gl w) (hV : gM < V ∧ gE < V) : Calls Tryz.prog 70 #[.pointer (some ⟨V, 0, none⟩), .agg #[.string ⟨n.toArray⟩, .string ⟨t.toArray⟩, .string ⟨x.toArray⟩, .bool false, .string ⟨#[]⟩]] w (OutW V w (andW (nameW n) (andW (some [[58]]) (refW t x))) ts) := by
  obtain ⟨L1, L2, L3, L4⟩ := L
  have hlt := h.lt
  obtain ⟨w0, hw0⟩ : ∃ w0, w0 = w.alloc (.cells #[.string ⟨n.toArray⟩, .string ⟨t.toArray⟩, .string ⟨x.toArray⟩, .bool false, .string ⟨#[]⟩] 63) := ⟨_, rfl⟩
  have f0 : FrW V w w0 := by rw [hw0]; exact al1V _
  have h0 : Wr V w0 ts := by rw [hw0]; exact h.on (al1 w _)
  have gl0 : Gl w0 := gl.frw f0 hV
  have P0 : w0.heap[w.heap.size]? = some (.cells #[.string ⟨n.toArray⟩, .string ⟨t.toArray⟩, .string ⟨x.toArray⟩, .bool false, .string ⟨#[]⟩] 63 (0, 0)) := by rw [hw0]; exact heap_alloc_new w _
  have A : Hid (∀ W, FrW V w0 W → Gl W ∧ W.cell? ⟨w.heap.size, 0, none⟩ = some (.string ⟨n.toArray⟩) ∧ W.cell? ⟨w.heap.size, 1, none⟩ = some (.string ⟨t.toArray⟩) ∧ W.cell? ⟨w.heap.size, 2, none⟩ = some (.string ⟨x.toArray⟩) ∧ W.cell? ⟨w.heap.size, 3, none⟩ = some (.bool false) ∧ W.cell? ⟨w.heap.size, 4, none⟩ = some (.string ⟨#[]⟩)) := fun W F => (by
    have P := F.old P0 hlt (by decide)
    exact ⟨gl0.frw F hV, by simp [World.cell?, P], by simp [World.cell?, P], by simp [World.cell?, P], by simp [World.cell?, P], by simp [World.cell?, P]⟩)
  clear P0 h gl
  go_enter Tryz.func70, Tryz.ntmps70
  go_wp2_with (first
    | (go_at_call 95; (with_reducible refine (wref_any t x h2 L2 L3 gl2 hV).mono ?_); rintro e w3 (⟨hq3, rfl, f3⟩ | ⟨us3, hq3, rfl, h3, f3⟩); (exact ⟨rfl, (OutW.seq hq1 f1 (OutW.seq hq2 f2 (out_last hq3 f3))).mono0 f0⟩); have F3 : FrW V w0 w3 := F2.trans f3; obtain ⟨gl3, a3, b3, c3, d3, e3⟩ := A.out _ F3)
    | (go_at_call 68; (with_reducible refine (wput1 [58] h1 (by decide)).mono ?_); rintro e w2 (⟨hq2, rfl, f2⟩ | ⟨us2, hq2, rfl, h2, f2⟩); (exact ⟨rfl, (OutW.seq hq1 f1 (out_die hq2 f2)).mono0 f0⟩); have F2 : FrW V w0 w2 := F1.trans f2; obtain ⟨gl2, a2, b2, c2, d2, e2⟩ := A.out _ F2)
    | (go_at_call 69; rw [← hw0]; (with_reducible refine (wname_any n h0 L1 gl0).mono ?_); rintro e w1 (⟨hq1, rfl, f1⟩ | ⟨us1, hq1, rfl, h1, f1⟩); (exact ⟨rfl, (out_die hq1 f1).mono0 f0⟩); have F1 : FrW V w0 w1 := f1; obtain ⟨gl1, a1, b1, c1, d1, e1⟩ := A.out _ F1)
    | fail)
  go_end0
  exact (OutW.seq hq1 f1 (OutW.seq hq2 f2 (out_end hq3 h3 f3))).mono0 f0
set_option maxRecDepth 100000 in
set_option maxHeartbeats 8000000 in
theorem wfield_B {V : Nat} {w : World} {ts : List Bs} (n t x : Bs) (h : Wr V w ts) (L : FldL ⟨n, t, x, true, []⟩) (gl : Gl w) (hV : gM < V ∧ gE < V) : Calls Tryz.prog 70 #[.pointer (some ⟨V, 0, none⟩), .agg #[.string ⟨n.toArray⟩, .string ⟨t.toArray⟩, .string ⟨x.toArray⟩, .bool true, .string ⟨#[]⟩]] w (OutW V w (andW (nameW n) (andW (some [[58]]) (andW (refW t x) (some [[64], searchB])))) ts) := by
  obtain ⟨L1, L2, L3, L4⟩ := L
  have hlt := h.lt
  obtain ⟨w0, hw0⟩ : ∃ w0, w0 = w.alloc (.cells #[.string ⟨n.toArray⟩, .string ⟨t.toArray⟩, .string ⟨x.toArray⟩, .bool true, .string ⟨#[]⟩] 63) := ⟨_, rfl⟩
  have f0 : FrW V w w0 := by rw [hw0]; exact al1V _
  have h0 : Wr V w0 ts := by rw [hw0]; exact h.on (al1 w _)
  have gl0 : Gl w0 := gl.frw f0 hV
  have P0 : w0.heap[w.heap.size]? = some (.cells #[.string ⟨n.toArray⟩, .string ⟨t.toArray⟩, .string ⟨x.toArray⟩, .bool true, .string ⟨#[]⟩] 63 (0, 0)) := by rw [hw0]; exact heap_alloc_new w _
  have A : Hid (∀ W, FrW V w0 W → Gl W ∧ W.cell? ⟨w.heap.size, 0, none⟩ = some (.string ⟨n.toArray⟩) ∧ W.cell? ⟨w.heap.size, 1, none⟩ = some (.string ⟨t.toArray⟩) ∧ W.cell? ⟨w.heap.size, 2, none⟩ = some (.string ⟨x.toArray⟩) ∧ W.cell? ⟨w.heap.size, 3, none⟩ = some (.bool true) ∧ W.cell? ⟨w.heap.size, 4, none⟩ = some (.string ⟨#[]⟩)) := fun W F => (by
    have P := F.old P0 hlt (by decide)
    exact ⟨gl0.frw F hV, by simp [World.cell?, P], by simp [World.cell?, P], by simp [World.cell?, P], by simp [World.cell?, P], by simp [World.cell?, P]⟩)
  clear P0 h gl
  go_enter Tryz.func70, Tryz.ntmps70
  go_wp2_with (first
    | (go_at_call 68; (with_reducible refine (wput2 [64] searchB h3 (by decide) (by decide)).mono ?_); rintro e w4 (⟨hq4, rfl, f4⟩ | ⟨us4, hq4, rfl, h4, f4⟩); (exact ⟨rfl, (OutW.seq hq1 f1 (OutW.seq hq2 f2 (OutW.seq hq3 f3 (out_last hq4 f4)))).mono0 f0⟩); have F4 : FrW V w0 w4 := F3.trans f4; obtain ⟨gl4, a4, b4, c4, d4, e4⟩ := A.out _ F4)
    | (go_at_call 95; (with_reducible refine (wref_any t x h2 L2 L3 gl2 hV).mono ?_); rintro e w3 (⟨hq3, rfl, f3⟩ | ⟨us3, hq3, rfl, h3, f3⟩); (exact ⟨rfl, (OutW.seq hq1 f1 (OutW.seq hq2 f2 (out_die hq3 f3))).mono0 f0⟩); have F3 : FrW V w0 w3 := F2.trans f3; obtain ⟨gl3, a3, b3, c3, d3, e3⟩ := A.out _ F3)
    | (go_at_call 68; (with_reducible refine (wput1 [58] h1 (by decide)).mono ?_); rintro e w2 (⟨hq2, rfl, f2⟩ | ⟨us2, hq2, rfl, h2, f2⟩); (exact ⟨rfl, (OutW.seq hq1 f1 (out_die hq2 f2)).mono0 f0⟩); have F2 : FrW V w0 w2 := F1.trans f2; obtain ⟨gl2, a2, b2, c2, d2, e2⟩ := A.out _ F2)
    | (go_at_call 69; rw [← hw0]; (with_reducible refine (wname_any n h0 L1 gl0).mono ?_); rintro e w1 (⟨hq1, rfl, f1⟩ | ⟨us1, hq1, rfl, h1, f1⟩); (exact ⟨rfl, (out_die hq1 f1).mono0 f0⟩); have F1 : FrW V w0 w1 := f1; obtain ⟨gl1, a1, b1, c1, d1, e1⟩ := A.out _ F1)
    | fail)
  go_end0
  exact (OutW.seq hq1 f1 (OutW.seq hq2 f2 (OutW.seq hq3 f3 (out_end hq4 h4 f4)))).mono0 f0
set_option maxRecDepth 100000 in
set_option maxHeartbeats 8000000 in
theorem wfield_C {V : Nat} {w : World} {ts : List Bs} (n t x i : Bs) (h : Wr V w ts) (L : FldL ⟨n, t, x, false, i⟩) (hi : (i == []) = false) (gl : Gl w) (hV : gM < V ∧ gE < V) : Calls Tryz.prog 70 #[.pointer (some ⟨V, 0, none⟩), .agg #[.string ⟨n.toArray⟩, .string ⟨t.toArray⟩, .string ⟨x.toArray⟩, .bool false, .string ⟨i.toArray⟩]] w (OutW V w (andW (nameW n) (andW (some [[58]]) (andW (refW t x) (andW (some [[64], inverseB, [40], fieldB, [58]]) (andW (nameW i) (some [[41]])))))) ts) := by
  obtain ⟨L1, L2, L3, L4⟩ := L
  have hlt := h.lt
  have B1 := bytes_eq i []
  rw [hi] at B1
  have hi2 : i ≠ [] := by simpa using hi
  have hi3 : i.isEmpty = false := by simpa using hi
  obtain ⟨w0, hw0⟩ : ∃ w0, w0 = w.alloc (.cells #[.string ⟨n.toArray⟩, .string ⟨t.toArray⟩, .string ⟨x.toArray⟩, .bool false, .string ⟨i.toArray⟩] 63) := ⟨_, rfl⟩
  have f0 : FrW V w w0 := by rw [hw0]; exact al1V _
  have h0 : Wr V w0 ts := by rw [hw0]; exact h.on (al1 w _)
  have gl0 : Gl w0 := gl.frw f0 hV
  have P0 : w0.heap[w.heap.size]? = some (.cells #[.string ⟨n.toArray⟩, .string ⟨t.toArray⟩, .string ⟨x.toArray⟩, .bool false, .string ⟨i.toArray⟩] 63 (0, 0)) := by rw [hw0]; exact heap_alloc_new w _
  have A : Hid (∀ W, FrW V w0 W → Gl W ∧ W.cell? ⟨w.heap.size, 0, none⟩ = some (.string ⟨n.toArray⟩) ∧ W.cell? ⟨w.heap.size, 1, none⟩ = some (.string ⟨t.toArray⟩) ∧ W.cell? ⟨w.heap.size, 2, none⟩ = some (.string ⟨x.toArray⟩) ∧ W.cell? ⟨w.heap.size, 3, none⟩ = some (.bool false) ∧ W.cell? ⟨w.heap.size, 4, none⟩ = some (.string ⟨i.toArray⟩)) := fun W F => (by
    have P := F.old P0 hlt (by decide)
    exact ⟨gl0.frw F hV, by simp [World.cell?, P], by simp [World.cell?, P], by simp [World.cell?, P], by simp [World.cell?, P], by simp [World.cell?, P]⟩)
  clear P0 h gl
  go_enter Tryz.func70, Tryz.ntmps70
  go_wp2_with (first
    | (go_at_call 68; (with_reducible refine (wput1 [41] h5 (by decide)).mono ?_); rintro e w6 (⟨hq6, rfl, f6⟩ | ⟨us6, hq6, rfl, h6, f6⟩); (exact ⟨rfl, (OutW.seq hq1 f1 (OutW.seq hq2 f2 (OutW.seq hq3 f3 (OutW.seq hq4 f4 (OutW.seq hq5 f5 (out_last hq6 f6)))))).mono0 f0⟩); have F6 : FrW V w0 w6 := F5.trans f6; obtain ⟨gl6, a6, b6, c6, d6, e6⟩ := A.out _ F6)
    | (go_at_call 69; (with_reducible refine (wname_any i h4 L4 gl4).mono ?_); rintro e w5 (⟨hq5, rfl, f5⟩ | ⟨us5, hq5, rfl, h5, f5⟩); (exact ⟨rfl, (OutW.seq hq1 f1 (OutW.seq hq2 f2 (OutW.seq hq3 f3 (OutW.seq hq4 f4 (out_die hq5 f5))))).mono0 f0⟩); have F5 : FrW V w0 w5 := F4.trans f5; obtain ⟨gl5, a5, b5, c5, d5, e5⟩ := A.out _ F5)
    | (go_at_call 68; (with_reducible refine (wput5 h3).mono ?_); rintro e w4 (⟨hq4, rfl, f4⟩ | ⟨us4, hq4, rfl, h4, f4⟩); (exact ⟨rfl, (OutW.seq hq1 f1 (OutW.seq hq2 f2 (OutW.seq hq3 f3 (out_die hq4 f4)))).mono0 f0⟩); have F4 : FrW V w0 w4 := F3.trans f4; obtain ⟨gl4, a4, b4, c4, d4, e4⟩ := A.out _ F4)
    | (go_at_call 95; (with_reducible refine (wref_any t x h2 L2 L3 gl2 hV).mono ?_); rintro e w3 (⟨hq3, rfl, f3⟩ | ⟨us3, hq3, rfl, h3, f3⟩); (exact ⟨rfl, (OutW.seq hq1 f1 (OutW.seq hq2 f2 (out_die hq3 f3))).mono0 f0⟩); have F3 : FrW V w0 w3 := F2.trans f3; obtain ⟨gl3, a3, b3, c3, d3, e3⟩ := A.out _ F3)
    | (go_at_call 68; (with_reducible refine (wput1 [58] h1 (by decide)).mono ?_); rintro e w2 (⟨hq2, rfl, f2⟩ | ⟨us2, hq2, rfl, h2, f2⟩); (exact ⟨rfl, (OutW.seq hq1 f1 (out_die hq2 f2)).mono0 f0⟩); have F2 : FrW V w0 w2 := F1.trans f2; obtain ⟨gl2, a2, b2, c2, d2, e2⟩ := A.out _ F2)
    | (go_at_call 69; rw [← hw0]; (with_reducible refine (wname_any n h0 L1 gl0).mono ?_); rintro e w1 (⟨hq1, rfl, f1⟩ | ⟨us1, hq1, rfl, h1, f1⟩); (exact ⟨rfl, (out_die hq1 f1).mono0 f0⟩); have F1 : FrW V w0 w1 := f1; obtain ⟨gl1, a1, b1, c1, d1, e1⟩ := A.out _ F1)
    | fail)
  go_end0
  exact (OutW.seq hq1 f1 (OutW.seq hq2 f2 (OutW.seq hq3 f3 (OutW.seq hq4 f4 (OutW.seq hq5 f5 (out_end hq6 h6 f6)))))).mono0 f0
set_option maxRecDepth 100000 in
set_option maxHeartbeats 8000000 in
theorem wfield_D {V : Nat} {w : World} {ts : List Bs} (n t x i : Bs) (h : Wr V w ts) (L : FldL ⟨n, t, x, true, i⟩) (hi : (i == []) = false) (gl : Gl w) (hV : gM < V ∧ gE < V) : Calls Tryz.prog 70 #[.pointer (some ⟨V, 0, none⟩), .agg #[.string ⟨n.toArray⟩, .string ⟨t.toArray⟩, .string ⟨x.toArray⟩, .bool true, .string ⟨i.toArray⟩]] w (OutW V w (andW (nameW n) (andW (some [[58]]) (andW (refW t x) (andW (some [[64], searchB]) (andW (some [[64], inverseB, [40], fieldB, [58]]) (andW (nameW i) (some [[41]]))))))) ts) := by
  obtain ⟨L1, L2, L3, L4⟩ := L
  have hlt := h.lt
  have B1 := bytes_eq i []
  rw [hi] at B1
  have hi2 : i ≠ [] := by simpa using hi
  have hi3 : i.isEmpty = false := by simpa using hi
  obtain ⟨w0, hw0⟩ : ∃ w0, w0 = w.alloc (.cells #[.string ⟨n.toArray⟩, .string ⟨t.toArray⟩, .string ⟨x.toArray⟩, .bool true, .string ⟨i.toArray⟩] 63) := ⟨_, rfl⟩
  have f0 : FrW V w w0 := by rw [hw0]; exact al1V _
  have h0 : Wr V w0 ts := by rw [hw0]; exact h.on (al1 w _)
  have gl0 : Gl w0 := gl.frw f0 hV
  have P0 : w0.heap[w.heap.size]? = some (.cells #[.string ⟨n.toArray⟩, .string ⟨t.toArray⟩, .string ⟨x.toArray⟩, .bool true, .string ⟨i.toArray⟩] 63 (0, 0)) := by rw [hw0]; exact heap_alloc_new w _
  have A : Hid (∀ W, FrW V w0 W → Gl W ∧ W.cell? ⟨w.heap.size, 0, none⟩ = some (.string ⟨n.toArray⟩) ∧ W.cell? ⟨w.heap.size, 1, none⟩ = some (.string ⟨t.toArray⟩) ∧ W.cell? ⟨w.heap.size, 2, none⟩ = some (.string ⟨x.toArray⟩) ∧ W.cell? ⟨w.heap.size, 3, none⟩ = some (.bool true) ∧ W.cell? ⟨w.heap.size, 4, none⟩ = some (.string ⟨i.toArray⟩)) := fun W F => (by
    have P := F.old P0 hlt (by decide)
    exact ⟨gl0.frw F hV, by simp [World.cell?, P], by simp [World.cell?, P], by simp [World.cell?, P], by simp [World.cell?, P], by simp [World.cell?, P]⟩)
  clear P0 h gl
  go_enter Tryz.func70, Tryz.ntmps70
  go_wp2_with (first
    | (go_at_call 68; (with_reducible refine (wput1 [41] h6 (by decide)).mono ?_); rintro e w7 (⟨hq7, rfl, f7⟩ | ⟨us7, hq7, rfl, h7, f7⟩); (exact ⟨rfl, (OutW.seq hq1 f1 (OutW.seq hq2 f2 (OutW.seq hq3 f3 (OutW.seq hq4 f4 (OutW.seq hq5 f5 (OutW.seq hq6 f6 (out_last hq7 f7))))))).mono0 f0⟩); have F7 : FrW V w0 w7 := F6.trans f7; obtain ⟨gl7, a7, b7, c7, d7, e7⟩ := A.out _ F7)
    | (go_at_call 69; (with_reducible refine (wname_any i h5 L4 gl5).mono ?_); rintro e w6 (⟨hq6, rfl, f6⟩ | ⟨us6, hq6, rfl, h6, f6⟩); (exact ⟨rfl, (OutW.seq hq1 f1 (OutW.seq hq2 f2 (OutW.seq hq3 f3 (OutW.seq hq4 f4 (OutW.seq hq5 f5 (out_die hq6 f6)))))).mono0 f0⟩); have F6 : FrW V w0 w6 := F5.trans f6; obtain ⟨gl6, a6, b6, c6, d6, e6⟩ := A.out _ F6)
    | (go_at_call 68; (with_reducible refine (wput5 h4).mono ?_); rintro e w5 (⟨hq5, rfl, f5⟩ | ⟨us5, hq5, rfl, h5, f5⟩); (exact ⟨rfl, (OutW.seq hq1 f1 (OutW.seq hq2 f2 (OutW.seq hq3 f3 (OutW.seq hq4 f4 (out_die hq5 f5))))).mono0 f0⟩); have F5 : FrW V w0 w5 := F4.trans f5; obtain ⟨gl5, a5, b5, c5, d5, e5⟩ := A.out _ F5)
    | (go_at_call 68; (with_reducible refine (wput2 [64] searchB h3 (by decide) (by decide)).mono ?_); rintro e w4 (⟨hq4, rfl, f4⟩ | ⟨us4, hq4, rfl, h4, f4⟩); (exact ⟨rfl, (OutW.seq hq1 f1 (OutW.seq hq2 f2 (OutW.seq hq3 f3 (out_die hq4 f4)))).mono0 f0⟩); have F4 : FrW V w0 w4 := F3.trans f4; obtain ⟨gl4, a4, b4, c4, d4, e4⟩ := A.out _ F4)
    | (go_at_call 95; (with_reducible refine (wref_any t x h2 L2 L3 gl2 hV).mono ?_); rintro e w3 (⟨hq3, rfl, f3⟩ | ⟨us3, hq3, rfl, h3, f3⟩); (exact ⟨rfl, (OutW.seq hq1 f1 (OutW.seq hq2 f2 (out_die hq3 f3))).mono0 f0⟩); have F3 : FrW V w0 w3 := F2.trans f3; obtain ⟨gl3, a3, b3, c3, d3, e3⟩ := A.out _ F3)
    | (go_at_call 68; (with_reducible refine (wput1 [58] h1 (by decide)).mono ?_); rintro e w2 (⟨hq2, rfl, f2⟩ | ⟨us2, hq2, rfl, h2, f2⟩); (exact ⟨rfl, (OutW.seq hq1 f1 (out_die hq2 f2)).mono0 f0⟩); have F2 : FrW V w0 w2 := F1.trans f2; obtain ⟨gl2, a2, b2, c2, d2, e2⟩ := A.out _ F2)
    | (go_at_call 69; rw [← hw0]; (with_reducible refine (wname_any n h0 L1 gl0).mono ?_); rintro e w1 (⟨hq1, rfl, f1⟩ | ⟨us1, hq1, rfl, h1, f1⟩); (exact ⟨rfl, (out_die hq1 f1).mono0 f0⟩); have F1 : FrW V w0 w1 := f1; obtain ⟨gl1, a1, b1, c1, d1, e1⟩ := A.out _ F1)
    | fail)
  go_end0
  exact (OutW.seq hq1 f1 (OutW.seq hq2 f2 (OutW.seq hq3 f3 (OutW.seq hq4 f4 (OutW.seq hq5 f5 (OutW.seq hq6 f6 (out_end hq7 h7 f7))))))).mono0 f0
theorem wfield_any {V : Nat} {w : World} {ts : List Bs} (f : Fld) (h : Wr V w ts) (L : FldL f) (gl : Gl w) (hV : gM < V ∧ gE < V) : Calls Tryz.prog 70 #[.pointer (some ⟨V, 0, none⟩), .agg #[.string ⟨f.n.toArray⟩, .string ⟨f.t.toArray⟩, .string ⟨f.w.toArray⟩, .bool f.s, .string ⟨f.i.toArray⟩]] w (OutW V w (fieldW f) ts) := by
  obtain ⟨n, t, x, s, i⟩ := f
  unfold fieldW seaW invW
  dsimp only
  by_cases hi : i = []
  · subst hi
    rw [if_pos rfl]
    cases s with
    | false =>
      rw [if_neg (by simp), andW_nil, andW_nilR]
      exact wfield_A n t x h L gl hV
    | true =>
      rw [if_pos rfl, andW_nilR]
      exact wfield_B n t x h L gl hV
  · rw [if_neg hi]
    have hi' : (i == []) = false := by simpa using hi
    cases s with
    | false =>
      rw [if_neg (by simp), andW_nil]
      exact wfield_C n t x i h L hi' gl hV
    | true =>
      rw [if_pos rfl]
      exact wfield_D n t x i h L hi' gl hV
end Go.Proofs.YtlabcadpkdgjnaaGreatDoor
namespace Go.Proofs.YtlabcadpkdgjnaaGreatDoor
open Go Go.RowKit Go.Shelf
theorem rowW_app0 {α : Type} (g : α → Option (List Bs)) : ∀ a b : List α, rowW g (a ++ b) = andW (rowW g a) (rowW g b)
  | [], b => (andW_nil _).symm
  | x :: a, b => by
    show andW (g x) (rowW g (a ++ b)) = andW (andW (g x) (rowW g a)) (rowW g b)
    rw [rowW_app0 g a b, andW_assoc]
theorem row_cut {α : Type} (g : α → Option (List Bs)) {l : List α} {j : Nat} {x : α} (h : l[j]? = some x) : rowW g l = andW (rowW g (l.take j)) (andW (g x) (rowW g (l.drop (j + 1)))) := by
  obtain ⟨hj, e⟩ := List.getElem?_eq_some_iff.1 h
  have : l = l.take j ++ x :: l.drop (j + 1) := by rw [← e, ← List.drop_eq_getElem_cons hj, List.take_append_drop]
  conv => lhs; rw [this]
  rw [rowW_app0]
  rfl
theorem row_step {α : Type} {g : α → Option (List Bs)} {l : List α} {j : Nat} {x : α} {acc vs : List Bs} (h : l[j]? = some x) (ha : Hid (rowW g (l.take j) = some acc)) (hv : Hid (g x = some vs)) : Hid (rowW g (l.take (j + 1)) = some (acc ++ vs)) := by
  show _ = _
  rw [List.take_add_one, h, Option.toList, rowW_app0, ha.out]
  show andW _ (andW (g x) (some [])) = _
  rw [andW_nilR, hv.out]
  rfl
theorem row_die {α : Type} {g : α → Option (List Bs)} {l : List α} {j : Nat} {x : α} {acc T : List Bs} (h : l[j]? = some x) (ha : Hid (rowW g (l.take j) = some acc)) (hv : ∀ vs, g x = some vs → 16385 < szW (T ++ acc ++ vs)) : ∀ us, rowW g l = some us → 16385 < szW (T ++ us) := by
  intro us hu
  rw [row_cut g h, ha.out] at hu
  obtain ⟨a, b, ea, eb, rfl⟩ := andW_some hu
  cases ea
  obtain ⟨c, d, ec, ed, rfl⟩ := andW_some eb
  have := hv c ec
  rw [szW_app, szW_app] at this
  rw [szW_app, szW_app, szW_app]
  omega
/-- What was there ahead of the writer is there still. -/
structure Old (V : Nat) (w00 w : World) : Prop where
  z : w00.heap.size ≤ V
  b : Below w00.heap.size w00 w
theorem Old.go {V : Nat} {w00 w w' : World} (h : Old V w00 w) (f : FrW V w w') (hV : V ≤ w.heap.size) : Old V w00 w' := ⟨h.z, h.b.trans ((f.below hV).mono h.z)⟩
set_option maxRecDepth 100000 in
set_option maxHeartbeats 8000000 in
theorem wobject_any {V : Nat} {w w00 : World} {ts : List Bs} (n : Bs) (fs : List Fld) (fv : Value) (h : Wr V w ts) (hn : n.length ≤ 140737488355328) (L : ∀ f ∈ fs, FldL f) (hF : FldsAt w00 fv fs) (O : Old V w00 w) (gl : Gl w) (hV : gM < V ∧ gE < V) : Calls Tryz.prog 40 #[.pointer (some ⟨V, 0, none⟩), .agg #[.string ⟨n.toArray⟩, fv]] w (OutW V w (objectW ⟨n, fs⟩) ts) := by
  have hlt := h.lt
  obtain ⟨a0, cap, rfl, hcap, h47, hr⟩ := hF
  obtain ⟨w0, hw0⟩ : ∃ w0, w0 = w.alloc (.cells #[.string ⟨n.toArray⟩, .slice a0 fs.length cap] 58) := ⟨_, rfl⟩
  have f0 : FrW V w w0 := by rw [hw0]; exact al1V _
  have h0 : Wr V w0 ts := by rw [hw0]; exact h.on (al1 w _)
  have gl0 : Gl w0 := gl.frw f0 hV
  have P0 : w0.heap[w.heap.size]? = some (.cells #[.string ⟨n.toArray⟩, .slice a0 fs.length cap] 58 (0, 0)) := by rw [hw0]; exact heap_alloc_new w _
  have O0 := O.go f0 (Nat.le_of_lt hlt)
  have hV0 : V ≤ w0.heap.size := Nat.le_of_lt h0.lt
  have A : Hid (∀ W, FrW V w0 W → Gl W ∧ W.cell? ⟨w.heap.size, 0, none⟩ = some (.string ⟨n.toArray⟩) ∧ W.cell? ⟨w.heap.size, 1, none⟩ = some (.slice a0 fs.length cap) ∧ Old V w00 W) := fun W F => ⟨gl0.frw F hV, (row2' (F.old P0 hlt (by decide))).1, (row2' (F.old P0 hlt (by decide))).2, O0.go F hV0⟩
  have C1 := wput1 typeB h0 (by decide)
  rw [hw0, World.size_alloc, ← hw0] at C1
  clear P0 h gl O O0
  unfold objectW
  dsimp only
  go_enter Tryz.func40, Tryz.ntmps40
  go_wp2_with (first
    | (go_at_call 68; (with_reducible refine (wput1 [123] h2 (by decide)).mono ?_); rintro e w3 (⟨hq3, rfl, f3⟩ | ⟨us3, hq3, rfl, h3, f3⟩); (exact ⟨rfl, (OutW.seq hq1 f1 (OutW.seq hq2 f2 (out_die hq3 f3))).mono0 f0⟩); have F3 := F2.trans f3; obtain ⟨gl3, c3, d3, O3⟩ := A.out _ F3)
    | (go_at_call 69; (with_reducible refine (wname_any n h1 hn gl1).mono ?_); rintro e w2 (⟨hq2, rfl, f2⟩ | ⟨us2, hq2, rfl, h2, f2⟩); (exact ⟨rfl, (OutW.seq hq1 f1 (out_die hq2 f2)).mono0 f0⟩); have F2 := F1.trans f2; obtain ⟨gl2, c2, d2, O2⟩ := A.out _ F2)
    | (go_at_call 68; rw [← hw0]; (with_reducible refine C1.mono ?_); rintro e w1 (⟨hq1, rfl, f1⟩ | ⟨us1, hq1, rfl, h1, f1⟩); (exact ⟨rfl, (out_die hq1 f1).mono0 f0⟩); have F1 : FrW V w0 w1 := f1; obtain ⟨gl1, c1, d1, O1⟩ := A.out _ F1)
    | fail)
  generalize hT : ts ++ us1 ++ us2 ++ us3 = T3 at *
  clear c1 d1 c2 d2 gl1 gl2 O1 O2 c3 d3
  go_loopw [19] (fun i wr => ∃ (j : Nat) (acc : List Bs), i = .int .i64 (j : Int) ∧ j ≤ fs.length ∧ Hid (rowW fieldW (fs.take j) = some acc) ∧ Wr V wr (T3 ++ acc) ∧ FrW V w3 wr) (fun i _ => fs.length - (RowKit.intOf i).toNat)
  case atStart => exact ⟨0, [], rfl, Nat.zero_le _, rfl, by simpa using h3, FrW.refl _ _⟩
  case round =>
    obtain ⟨j, acc, rfl, hj, hA, hW, hFr⟩ := hrel
    obtain ⟨gr, _, _, Or⟩ := A.out _ (F3.trans hFr)
    by_cases hjl : j < fs.length
    · obtain ⟨x, hxj⟩ : ∃ x, fs[j]? = some x := ⟨_, List.getElem?_eq_getElem hjl⟩
      obtain ⟨b, o, rfl, hb, hH⟩ := hr (by omega)
      have hLx := L x (List.mem_of_getElem? hxj)
      obtain ⟨e0, e1, e2, e3, e4⟩ := (hH j hjl x hxj).on Or.b
      have hbw : b < wr.heap.size := Nat.lt_of_lt_of_le hb Or.b.size
      have l1 : ((j : Nat) : Int) < (fs.length : Int) := by omega
      have hjN : ((j : Nat) : Int).toNat = j := by omega
      have hz : Hid (j + 1 ≤ fs.length) := hjl
      have HX : Hid (fs[j]? = some x) := hxj
      clear hjl hxj hH hr
      go_wp2_with (first
        | (go_at_call 70; (with_reducible refine (wfield_any x (hW.on (al1 wr _)) hLx (gr.alloc _) hV).mono ?_); rintro e w4 (⟨hq4, rfl, f4⟩ | ⟨us4, hq4, rfl, h4, f4⟩); (exact ⟨rfl, (OutW.seq hq1 f1 (OutW.seq hq2 f2 (OutW.seq hq3 f3 (by rw [hT]; exact out_die (row_die HX.out hA hq4) (hFr.trans ((al1V _).trans f4)))))).mono0 f0⟩))
        | fail)
      refine ⟨⟨j + 1, acc ++ us4, by simp, hz.out, row_step HX.out hA hq4, by rw [← List.append_assoc]; exact h4, hFr.trans ((al1V _).trans f4)⟩, ?_⟩
      have := hz.out
      simp [RowKit.intOf]
      omega
    · have l2 : decide (((j : Nat) : Int) < (fs.length : Int)) = false := by simp; omega
      have l3 : decide (j < fs.length) = false := by simp; omega
      have hj2 : j = fs.length := by omega
      have hA' : Hid (rowW fieldW fs = some acc) := by
        have := hA.out
        rw [hj2, List.take_length] at this
        exact this
      clear hr hjl
      go_wp2_with (first
        | (go_at_call 68; (with_reducible refine (wput1 [125] hW (by decide)).mono ?_); rintro e w5 (⟨hq5, rfl, f5⟩ | ⟨us5, hq5, rfl, h5, f5⟩); (exact ⟨rfl, (OutW.seq hq1 f1 (OutW.seq hq2 f2 (OutW.seq hq3 f3 (hT ▸ OutW.seq hA' hFr (out_last hq5 f5))))).mono0 f0⟩))
        | fail)
      go_end0
      exact (OutW.seq hq1 f1 (OutW.seq hq2 f2 (OutW.seq hq3 f3 (hT ▸ OutW.seq hA' hFr (out_end hq5 h5 f5))))).mono0 f0
set_option maxRecDepth 100000 in
set_option maxHeartbeats 8000000 in
theorem wenum_any {V : Nat} {w w00 : World} {ts : List Bs} (n : Bs) (fs : List Bs) (fv : Value) (h : Wr V w ts) (hn : n.length ≤ 140737488355328) (L : ∀ f ∈ fs, f.length ≤ 140737488355328) (hF : WdsAt w00 fv fs) (O : Old V w00 w) (gl : Gl w) (hV : gM < V ∧ gE < V) : Calls Tryz.prog 41 #[.pointer (some ⟨V, 0, none⟩), .agg #[.string ⟨n.toArray⟩, fv]] w (OutW V w (enumW ⟨n, fs⟩) ts) := by
  have hlt := h.lt
  obtain ⟨a0, cap, rfl, hcap, h47, hr⟩ := hF
  obtain ⟨w0, hw0⟩ : ∃ w0, w0 = w.alloc (.cells #[.string ⟨n.toArray⟩, .slice a0 fs.length cap] 66) := ⟨_, rfl⟩
  have f0 : FrW V w w0 := by rw [hw0]; exact al1V _
  have h0 : Wr V w0 ts := by rw [hw0]; exact h.on (al1 w _)
  have gl0 : Gl w0 := gl.frw f0 hV
  have P0 : w0.heap[w.heap.size]? = some (.cells #[.string ⟨n.toArray⟩, .slice a0 fs.length cap] 66 (0, 0)) := by rw [hw0]; exact heap_alloc_new w _
  have O0 := O.go f0 (Nat.le_of_lt hlt)
  have hV0 : V ≤ w0.heap.size := Nat.le_of_lt h0.lt
  have A : Hid (∀ W, FrW V w0 W → Gl W ∧ W.cell? ⟨w.heap.size, 0, none⟩ = some (.string ⟨n.toArray⟩) ∧ W.cell? ⟨w.heap.size, 1, none⟩ = some (.slice a0 fs.length cap) ∧ Old V w00 W) := fun W F => ⟨gl0.frw F hV, (row2' (F.old P0 hlt (by decide))).1, (row2' (F.old P0 hlt (by decide))).2, O0.go F hV0⟩
  have C1 := wput1 enumB h0 (by decide)
  rw [hw0, World.size_alloc, ← hw0] at C1
  clear P0 h gl O O0
  unfold enumW
  dsimp only
  go_enter Tryz.func41, Tryz.ntmps41
  go_wp2_with (first
    | (go_at_call 68; (with_reducible refine (wput1 [123] h2 (by decide)).mono ?_); rintro e w3 (⟨hq3, rfl, f3⟩ | ⟨us3, hq3, rfl, h3, f3⟩); (exact ⟨rfl, (OutW.seq hq1 f1 (OutW.seq hq2 f2 (out_die hq3 f3))).mono0 f0⟩); have F3 := F2.trans f3; obtain ⟨gl3, c3, d3, O3⟩ := A.out _ F3)
    | (go_at_call 69; (with_reducible refine (wname_any n h1 hn gl1).mono ?_); rintro e w2 (⟨hq2, rfl, f2⟩ | ⟨us2, hq2, rfl, h2, f2⟩); (exact ⟨rfl, (OutW.seq hq1 f1 (out_die hq2 f2)).mono0 f0⟩); have F2 := F1.trans f2; obtain ⟨gl2, c2, d2, O2⟩ := A.out _ F2)
    | (go_at_call 68; rw [← hw0]; (with_reducible refine C1.mono ?_); rintro e w1 (⟨hq1, rfl, f1⟩ | ⟨us1, hq1, rfl, h1, f1⟩); (exact ⟨rfl, (out_die hq1 f1).mono0 f0⟩); have F1 : FrW V w0 w1 := f1; obtain ⟨gl1, c1, d1, O1⟩ := A.out _ F1)
    | fail)
  generalize hT : ts ++ us1 ++ us2 ++ us3 = T3 at *
  clear c1 d1 c2 d2 gl1 gl2 O1 O2 c3 d3
  go_loopw [19] (fun i wr => ∃ (j : Nat) (acc : List Bs), i = .int .i64 (j : Int) ∧ j ≤ fs.length ∧ Hid (rowW nameW (fs.take j) = some acc) ∧ Wr V wr (T3 ++ acc) ∧ FrW V w3 wr) (fun i _ => fs.length - (RowKit.intOf i).toNat)
  case atStart => exact ⟨0, [], rfl, Nat.zero_le _, rfl, by simpa using h3, FrW.refl _ _⟩
  case round =>
    obtain ⟨j, acc, rfl, hj, hA, hW, hFr⟩ := hrel
    obtain ⟨gr, _, _, Or⟩ := A.out _ (F3.trans hFr)
    by_cases hjl : j < fs.length
    · obtain ⟨x, hxj⟩ : ∃ x, fs[j]? = some x := ⟨_, List.getElem?_eq_getElem hjl⟩
      obtain ⟨b, o, rfl, hb, hH⟩ := hr (by omega)
      have hLx := L x (List.mem_of_getElem? hxj)
      have e0 := cell_on Or.b (hH j hjl x hxj)
      rw [Nat.mul_one] at e0
      have hbw : b < wr.heap.size := Nat.lt_of_lt_of_le hb Or.b.size
      have l1 : ((j : Nat) : Int) < (fs.length : Int) := by omega
      have hjN : ((j : Nat) : Int).toNat = j := by omega
      have hz : Hid (j + 1 ≤ fs.length) := hjl
      have HX : Hid (fs[j]? = some x) := hxj
      clear hjl hxj hH hr
      go_wp2_with (first
        | (go_at_call 69; (with_reducible refine (wname_any x hW hLx gr).mono ?_); rintro e w4 (⟨hq4, rfl, f4⟩ | ⟨us4, hq4, rfl, h4, f4⟩); (exact ⟨rfl, (OutW.seq hq1 f1 (OutW.seq hq2 f2 (OutW.seq hq3 f3 (by rw [hT]; exact out_die (row_die HX.out hA hq4) (hFr.trans f4))))).mono0 f0⟩))
        | fail)
      refine ⟨⟨j + 1, acc ++ us4, by simp, hz.out, row_step HX.out hA hq4, by rw [← List.append_assoc]; exact h4, hFr.trans f4⟩, ?_⟩
      have := hz.out
      simp [RowKit.intOf]
      omega
    · have l2 : decide (((j : Nat) : Int) < (fs.length : Int)) = false := by simp; omega
      have l3 : decide (j < fs.length) = false := by simp; omega
      have hj2 : j = fs.length := by omega
      have hA' : Hid (rowW nameW fs = some acc) := by
        have := hA.out
        rw [hj2, List.take_length] at this
        exact this
      clear hr hjl
      go_wp2_with (first
        | (go_at_call 68; (with_reducible refine (wput1 [125] hW (by decide)).mono ?_); rintro e w5 (⟨hq5, rfl, f5⟩ | ⟨us5, hq5, rfl, h5, f5⟩); (exact ⟨rfl, (OutW.seq hq1 f1 (OutW.seq hq2 f2 (OutW.seq hq3 f3 (hT ▸ OutW.seq hA' hFr (out_last hq5 f5))))).mono0 f0⟩))
        | fail)
      go_end0
      exact (OutW.seq hq1 f1 (OutW.seq hq2 f2 (OutW.seq hq3 f3 (hT ▸ OutW.seq hA' hFr (out_end hq5 h5 f5))))).mono0 f0
structure SchL (s : Sch) : Prop where
  on : ∀ o ∈ s.os, o.n.length ≤ 140737488355328
  fs : ∀ o ∈ s.os, ∀ f ∈ o.fs, FldL f
  en : ∀ e ∈ s.es, e.n.length ≤ 140737488355328
  ws : ∀ e ∈ s.es, ∀ x ∈ e.ws, x.length ≤ 140737488355328
set_option maxRecDepth 100000 in
set_option maxHeartbeats 8000000 in
theorem wschema_any {V : Nat} {w w00 : World} {ts : List Bs} (s : Sch) (ov ev : Value) (h : Wr V w ts) (L : SchL s) (hS : SchAt w00 ov ev s) (O : Old V w00 w) (gl : Gl w) (hV : gM < V ∧ gE < V) : Calls Tryz.prog 26 #[.pointer (some ⟨V, 0, none⟩), .agg #[ov, ev]] w (OutW V w (schemaW s) ts) := by
  have hlt := h.lt
  obtain ⟨⟨a0, cap, rfl, hcap, h47, hr⟩, ⟨a1, cap1, rfl, hcap1, h471, hr1⟩⟩ := hS
  obtain ⟨w0, hw0⟩ : ∃ w0, w0 = w.alloc (.cells #[.slice a0 s.os.length cap, .slice a1 s.es.length cap1] 25) := ⟨_, rfl⟩
  have f0 : FrW V w w0 := by rw [hw0]; exact al1V _
  have h0 : Wr V w0 ts := by rw [hw0]; exact h.on (al1 w _)
  have gl0 : Gl w0 := gl.frw f0 hV
  have P0 : w0.heap[w.heap.size]? = some (.cells #[.slice a0 s.os.length cap, .slice a1 s.es.length cap1] 25 (0, 0)) := by rw [hw0]; exact heap_alloc_new w _
  have O0 := O.go f0 (Nat.le_of_lt hlt)
  have hV0 : V ≤ w0.heap.size := Nat.le_of_lt h0.lt
  have A : Hid (∀ W, FrW V w0 W → Gl W ∧ W.cell? ⟨w.heap.size, 1, none⟩ = some (.slice a1 s.es.length cap1) ∧ Old V w00 W) := fun W F => ⟨gl0.frw F hV, (row2' (F.old P0 hlt (by decide))).2, O0.go F hV0⟩
  clear P0 h gl O O0
  unfold schemaW
  go_enter Tryz.func26, Tryz.ntmps26
  go_wp2
  rw [← hw0]
  go_loopw [11] (fun i wr => ∃ (j : Nat) (acc : List Bs), i = .int .i64 (j : Int) ∧ j ≤ s.os.length ∧ Hid (rowW objectW (s.os.take j) = some acc) ∧ Wr V wr (ts ++ acc) ∧ FrW V w0 wr) (fun i _ => s.os.length - (RowKit.intOf i).toNat)
  case atStart => exact ⟨0, [], rfl, Nat.zero_le _, rfl, by simpa using h0, FrW.refl _ _⟩
  case round =>
    obtain ⟨j, acc, rfl, hj, hA, hW, hFr⟩ := hrel
    obtain ⟨gr, dr, Or⟩ := A.out _ hFr
    by_cases hjl : j < s.os.length
    · obtain ⟨x, hxj⟩ : ∃ x, s.os[j]? = some x := ⟨_, List.getElem?_eq_getElem hjl⟩
      obtain ⟨b, o, rfl, hb, hH⟩ := hr (by omega)
      have hxm := List.mem_of_getElem? hxj
      have hL1 := L.on x hxm
      have hL2 := L.fs x hxm
      obtain ⟨e0', fv, e1', hfv⟩ := hH j hjl x hxj
      have hfv' := hfv
      obtain ⟨fa, fc, rfl, _⟩ := hfv'
      have e0 := cell_on Or.b e0'
      have e1 := cell_on Or.b e1'
      have hbw : b < wr.heap.size := Nat.lt_of_lt_of_le hb Or.b.size
      have l1 : ((j : Nat) : Int) < (s.os.length : Int) := by omega
      have hjN : ((j : Nat) : Int).toNat = j := by omega
      have hz : Hid (j + 1 ≤ s.os.length) := hjl
      have HX : Hid (s.os[j]? = some x) := hxj
      have hVw : V ≤ wr.heap.size := Nat.le_of_lt hW.lt
      clear hjl hxj hH hr e0' e1' dr
      go_wp2_with (first
        | (go_at_call 40; (with_reducible refine (wobject_any x.n x.fs (.slice fa x.fs.length fc) (hW.on (al1 wr _)) hL1 hL2 hfv (Or.go (al1V _) hVw) (gr.alloc _) hV).mono ?_); rintro e w4 (⟨hq4, rfl, f4⟩ | ⟨us4, hq4, rfl, h4, f4⟩); (exact ⟨rfl, (out_die (row_die HX.out hA hq4) (hFr.trans ((al1V _).trans f4))).mono0 f0⟩))
        | fail)
      refine ⟨⟨j + 1, acc ++ us4, by simp, hz.out, row_step HX.out hA hq4, by rw [← List.append_assoc]; exact h4, hFr.trans ((al1V _).trans f4)⟩, ?_⟩
      have := hz.out
      simp [RowKit.intOf]
      omega
    · have l2 : decide (((j : Nat) : Int) < (s.os.length : Int)) = false := by simp; omega
      have l3 : decide (j < s.os.length) = false := by simp; omega
      have hj2 : j = s.os.length := by omega
      have hA1 : Hid (rowW objectW s.os = some acc) := by
        have := hA.out
        rw [hj2, List.take_length] at this
        exact this
      generalize hT : ts ++ acc = T1 at *
      have hWb := hW
      have hFb := hFr
      generalize wr = wB at *
      clear hr hjl hj hA gr Or hj2
      go_wp2
      go_loopw [22] (fun i wr => ∃ (j : Nat) (acc : List Bs), i = .int .i64 (j : Int) ∧ j ≤ s.es.length ∧ Hid (rowW enumW (s.es.take j) = some acc) ∧ Wr V wr (T1 ++ acc) ∧ FrW V wB wr) (fun i _ => s.es.length - (RowKit.intOf i).toNat)
      case atStart => exact ⟨0, [], rfl, Nat.zero_le _, rfl, by simpa using hWb, FrW.refl _ _⟩
      case round =>
        obtain ⟨j, acc, rfl, hj, hA, hW, hFr⟩ := hrel
        obtain ⟨gr, _, Or⟩ := A.out _ (hFb.trans hFr)
        by_cases hjl : j < s.es.length
        · obtain ⟨x, hxj⟩ : ∃ x, s.es[j]? = some x := ⟨_, List.getElem?_eq_getElem hjl⟩
          obtain ⟨b, o, rfl, hb, hH⟩ := hr1 (by omega)
          have hxm := List.mem_of_getElem? hxj
          have hL1 := L.en x hxm
          have hL2 := L.ws x hxm
          obtain ⟨e0', fv, e1', hfv⟩ := hH j hjl x hxj
          have hfv' := hfv
          obtain ⟨fa, fc, rfl, _⟩ := hfv'
          have e0 := cell_on Or.b e0'
          have e1 := cell_on Or.b e1'
          have hbw : b < wr.heap.size := Nat.lt_of_lt_of_le hb Or.b.size
          have l1 : ((j : Nat) : Int) < (s.es.length : Int) := by omega
          have hjN : ((j : Nat) : Int).toNat = j := by omega
          have hz : Hid (j + 1 ≤ s.es.length) := hjl
          have HX : Hid (s.es[j]? = some x) := hxj
          have hVw : V ≤ wr.heap.size := Nat.le_of_lt hW.lt
          clear hjl hxj hH hr1 e0' e1'
          go_wp2_with (first
            | (go_at_call 41; (with_reducible refine (wenum_any x.n x.ws (.slice fa x.ws.length fc) (hW.on (al1 wr _)) hL1 hL2 hfv (Or.go (al1V _) hVw) (gr.alloc _) hV).mono ?_); rintro e w4 (⟨hq4, rfl, f4⟩ | ⟨us4, hq4, rfl, h4, f4⟩); (exact ⟨rfl, (OutW.seq hA1 hFb (by rw [hT]; exact out_last (row_die HX.out hA hq4) (hFr.trans ((al1V _).trans f4)))).mono0 f0⟩))
            | fail)
          refine ⟨⟨j + 1, acc ++ us4, by simp, hz.out, row_step HX.out hA hq4, by rw [← List.append_assoc]; exact h4, hFr.trans ((al1V _).trans f4)⟩, ?_⟩
          have := hz.out
          simp [RowKit.intOf]
          omega
        · have l2 : decide (((j : Nat) : Int) < (s.es.length : Int)) = false := by simp; omega
          have l3 : decide (j < s.es.length) = false := by simp; omega
          have hj2 : j = s.es.length := by omega
          have hA2 : Hid (rowW enumW s.es = some acc) := by
            have := hA.out
            rw [hj2, List.take_length] at this
            exact this
          clear hr1 hjl
          go_wp2
          go_end0
          exact (OutW.seq hA1 hFb (by rw [hT]; exact out_end hA2 hW hFr)).mono0 f0
end Go.Proofs.YtlabcadpkdgjnaaGreatDoor
