/- Two documents that were read: told to be the same. -/
import Derived.Test.YtgppemlciohjcaaGreatDoorB20
import Derived.Test.YtgppemlciohjcaaGreatDoorB15
namespace Go.Proofs.YtgppemlciohjcaaGreatDoor
open Go Go.RowKit Go.Shelf
theorem its_rows {l m : List Tok} {xs : List (Bool × List CT)} (hl : l.length ≤ 1099511627776) (h : itsS l = .ok (xs,m)) : RowP OpT (opsOf xs) ∧ RowP FragT (fragsOf xs):=by
 obtain ⟨h1,h2⟩:=anyS_reads itemS_eats itemS_reads l xs m hl h
 refine ⟨⟨?_,fun x hx => ?_⟩,⟨?_,fun x hx => ?_⟩⟩
 ·unfold opsOf
  rw [List.length_map]
  exact Nat.le_trans (List.length_filter_le _ _) h1
 ·obtain ⟨y,hy,rfl⟩:=List.mem_map.1 hx
  obtain ⟨hy1,hy2⟩:=List.mem_filter.1 hy
  have:=h2 y hy1
  unfold ItemT at this
  rw [if_neg (by simpa using hy2)] at this
  exact this
 ·unfold fragsOf
  rw [List.length_map]
  exact Nat.le_trans (List.length_filter_le _ _) h1
 ·obtain ⟨y,hy,rfl⟩:=List.mem_map.1 hx
  obtain ⟨hy1,hy2⟩:=List.mem_filter.1 hy
  have:=h2 y hy1
  unfold ItemT at this
  rw [if_pos hy2] at this
  exact this
abbrev docR (ops frs : List (List CT)) : List CT:=[rowC 61 5 ops,rowC 57 4 frs]
theorem docV_at {lo : Nat} {xs : List (Bool × List CT)} {v : Value} {w : World} (h : DocV lo (docC xs) v w) : ∃ (o1 : Option Addr) (z1 : Nat) (o2 : Option Addr) (z2 : Nat),v = .agg #[.slice o1 (opsOf xs).length z1,.slice o2 (fragsOf xs).length z2] ∧ Ats w (fun k => k < w.heap.size) (docR (opsOf xs) (fragsOf xs)) [.slice o1 (opsOf xs).length z1,.slice o2 (fragsOf xs).length z2]:=by
 obtain ⟨o1,n1,z1,o2,n2,z2,rfl,ha⟩:=h
 obtain ⟨_,_,e1,_⟩:=(ha.all 0 _ _ rfl rfl).rowInv
 obtain ⟨_,_,e2,_⟩:=(ha.all 1 _ _ rfl rfl).rowInv
 cases e1;cases e2
 exact ⟨_,_,_,_,rfl,ha.mono fun k hk => hk.2⟩
theorem ats_none (w : World) (D : Nat → Prop) : Ats w D (docR [] []) [.slice none 0 0,.slice none 0 0]:=Ats.cons (.nil _ _) (Ats.cons (.nil _ _) Ats.nil)
theorem Ats.up {w w' : World} {ys : List CT} {us : List Value} (h : Ats w (fun k => k < w.heap.size) ys us) (hb : Below w.heap.size w w') : Ats w' (fun k => k < w'.heap.size) ys us:=(h.under hb fun _ hk => hk).mono fun _ hk => Nat.lt_of_lt_of_le hk hb.size
theorem same_docs {ops frs : List (List CT)} (ho : RowP OpT ops) (hf : RowP FragT frs) {w : World} {o1 o2 p1 p2 : Option Addr} {z1 z2 y1 y2 : Nat} (h : Ats w (fun k => k < w.heap.size) (docR ops frs) [.slice o1 ops.length z1,.slice o2 frs.length z2]) (h' : Ats w (fun k => k < w.heap.size) (docR ops frs) [.slice p1 ops.length y1,.slice p2 frs.length y2]) :
  Calls Tryz.prog 12 #[.agg #[.slice o1 ops.length z1,.slice o2 frs.length z2],.agg #[.slice p1 ops.length y1,.slice p2 frs.length y2]] w fun e w' => e = .returned (.bool true) ∧ Below w.heap.size w w' :=
 doc_same ho hf w _ _ _ _ (fun _ hk => hk) (fun _ hk => hk) h h'
theorem rowP_none {p : List CT → Prop} : RowP p []:=⟨Nat.zero_le _,fun _ h => by cases h⟩
theorem same_none (w : World) : Calls Tryz.prog 12 #[.agg #[.slice none 0 0,.slice none 0 0],.agg #[.slice none 0 0,.slice none 0 0]] w fun e w' => e = .returned (.bool true) ∧ Below w.heap.size w w':=same_docs (ops:=[]) (frs:=[]) rowP_none rowP_none (ats_none _ _) (ats_none _ _)
end Go.Proofs.YtgppemlciohjcaaGreatDoor
