/- The tree of any bytes is as the document says: the law's own walk. -/
import Derived.Test.YtgppemlciohjcaaGreatDoorB45
import Derived.Test.YtgppemlciohjcaaGreatDoorB24
import Derived.Test.YtgppemlciohjcaaGreatDoorB13
namespace Go.Proofs.YtgppemlciohjcaaGreatDoor
open Go Go.RowKit Go.Shelf
theorem doc_some {s : Bs} {d : List CT} (h : parseS s = .ok d) : ∃ xs,d = docC xs ∧ RowP OpT (opsOf xs) ∧ RowP FragT (fragsOf xs):=by
 unfold parseS at h
 cases hs : lexS s with
 | inl p => rw [hs] at h;cases h
 | inr ts =>
  rw [hs] at h
  simp only at h
  obtain ⟨hn,_,hno⟩:=lexS_full hs
  cases hd : docS (ts ++ [eofT s.length]) with
  | error p => rw [hd] at h;cases h
  | ok q =>
   obtain ⟨d',l⟩:=q
   rw [hd] at h
   injection h with h
   subst h
   obtain ⟨xs,_,h1,h2⟩:=doc_ok_its hno hd
   have hr:=its_rows (by simp;omega) h1
   exact ⟨xs,h2,hr.1,hr.2⟩
set_option maxRecDepth 100000 in
set_option maxHeartbeats 4000000 in
theorem reads_walk (s : Bs) (_ : s.length ≤ 140737488351232) (w : World) (gl : Gl w) : Calls Tryz.prog 3 #[.string ⟨s.toArray⟩] w fun e w' => e = .returned (.bool true) ∧ Below w.heap.size w w':=by
 have ok : Ok6 w w:=⟨Below.refl _ _,gl⟩
 have PP:=parse_any s w gl
 have PZ:=fun w1 => zparse_any s w1
 cases hp : parseS s with
 | error p =>
  rw [hp] at PP PZ
  obtain ⟨p,c⟩:=p
  clear hp
  go_enter Tryz.func3,Tryz.ntmps3
  go_wp2_with (first
   | (go_at_call 12;(with_reducible refine (same_none _).mono ?_);rintro e w4 ⟨rfl,b4⟩;have ok4:=ok3.go b4)
   | (go_at_call 11;(with_reducible refine (fixed_any _ (ok2.alloc _).gl).mono ?_);rintro e w3 ⟨rfl,b3⟩;have ok3:=(ok2.alloc (.cells #[.slice none 0 0,.slice none 0 0] 25)).go b3;obtain ⟨d0,d1,_⟩:=row2 (heap_alloc_new w1 (.cells #[.slice none 0 0,.slice none 0 0] 25));obtain ⟨c0,c1,_⟩:=row2 (heap_alloc_new w2 (.cells #[.slice none 0 0,.slice none 0 0] 25));have e0:=cell_on b3 (cell_on (al1 w2 _) (cell_on b2 d0));have e1:=cell_on b3 (cell_on (al1 w2 _) (cell_on b2 d1));have f0:=cell_on b3 c0;have f1:=cell_on b3 c1)
   | (go_at_call 10;(with_reducible refine (PZ _).mono ?_);rintro e w2 ⟨rfl,b2⟩;have ok2:=(ok1.alloc (.cells #[.slice none 0 0,.slice none 0 0] 25)).go b2)
   | (go_at_call 9;(with_reducible refine PP.mono ?_);rintro e w1 ⟨rfl,b1⟩;have ok1:=ok.go b1)
   | fail)
  go_ret
  exact ⟨by first | rfl | simp,ok4.bel⟩
 | ok d =>
  rw [hp] at PP PZ
  obtain ⟨xs,rfl,ho,hf⟩:=doc_some hp
  clear hp
  go_enter Tryz.func3,Tryz.ntmps3
  go_wp2_with (first
   | (go_at_call 12;(with_reducible refine (same_docs ho hf A3 B3).mono ?_);rintro e w4 ⟨rfl,b4⟩;have ok4:=ok3.go b4)
   | (go_at_call 11;(with_reducible refine (fixed_any _ (ok2.alloc _).gl).mono ?_);rintro e w3 ⟨rfl,b3⟩;have ok3:=(ok2.alloc (.cells #[.slice p1 (opsOf xs).length y1,.slice p2 (fragsOf xs).length y2] 25)).go b3;obtain ⟨d0,d1,_⟩:=row2 (heap_alloc_new w1 (.cells #[.slice o1 (opsOf xs).length z1,.slice o2 (fragsOf xs).length z2] 25));obtain ⟨c0,c1,_⟩:=row2 (heap_alloc_new w2 (.cells #[.slice p1 (opsOf xs).length y1,.slice p2 (fragsOf xs).length y2] 25));have e0:=cell_on b3 (cell_on (al1 w2 _) (cell_on b2 d0));have e1:=cell_on b3 (cell_on (al1 w2 _) (cell_on b2 d1));have f0:=cell_on b3 c0;have f1:=cell_on b3 c1;have A3:=(((A1.up (al1 w1 (.cells #[.slice o1 (opsOf xs).length z1,.slice o2 (fragsOf xs).length z2] 25))).up b2).up (al1 w2 (.cells #[.slice p1 (opsOf xs).length y1,.slice p2 (fragsOf xs).length y2] 25))).up b3;have B3:=(B2.up (al1 w2 (.cells #[.slice p1 (opsOf xs).length y1,.slice p2 (fragsOf xs).length y2] 25))).up b3)
   | (go_at_call 10;(with_reducible refine (PZ _).mono ?_);rintro e w2 ⟨⟨v,rfl,hv⟩,b2⟩;obtain ⟨p1,y1,p2,y2,rfl,B2⟩:=docV_at hv;have ok2:=(ok1.alloc (.cells #[.slice o1 (opsOf xs).length z1,.slice o2 (fragsOf xs).length z2] 25)).go b2)
   | (go_at_call 9;(with_reducible refine PP.mono ?_);rintro e w1 ⟨⟨v,rfl,hv⟩,b1⟩;obtain ⟨o1,z1,o2,z2,rfl,A1⟩:=docV_at hv;have ok1:=ok.go b1)
   | fail)
  go_ret
  exact ⟨by first | rfl | simp,ok4.bel⟩
end Go.Proofs.YtgppemlciohjcaaGreatDoor
