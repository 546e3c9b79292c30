/- Calls whose answers the document fixes: the walk. -/
import Derived.Test.YtgppemlciohjcaaGreatDoorB12
import Derived.Test.YtgppemlciohjcaaGreatDoorRows
import Derived.Test.YtgppemlciohjcaaGreatDoorB01
import Derived.Lib.LaidU8
import Derived.LaidMore
import Derived.Stop.LaidErr
import Derived.Lay
import Derived.Shelf.Vars
namespace Go.Proofs.YtgppemlciohjcaaGreatDoor
section
open Go Go.RowKit Go.Shelf
theorem fy5 {w0 w : World} (ok : Ok6 w0 w) (s : Bs) (x : Int) (hx : numK s = x) : Calls Tryz.prog 13 #[.string ⟨s.toArray⟩] w fun e w' => e = .returned (.int .i64 x) ∧ Ok6 w0 w' ∧ Below w.heap.size w w':=by
 have P:=ynumber_any s w ok.gl
 rw [hx] at P
 exact P.mono (fun e w' h => ⟨h.1,ok.go h.2,h.2⟩)
theorem fy6 {w0 w : World} (ok : Ok6 w0 w) (s : Bs) (x : Bool) (hx : nameK s = x) : Calls Tryz.prog 15 #[.string ⟨s.toArray⟩] w fun e w' => e = .returned (.bool x) ∧ Ok6 w0 w' ∧ Below w.heap.size w w':=by
 have P:=yname_any s w ok.gl
 rw [hx] at P
 exact P.mono (fun e w' h => ⟨h.1,ok.go h.2,h.2⟩)
set_option maxRecDepth 100000 in
set_option maxHeartbeats 8000000 in
theorem fixed_any (w : World) (gl : Gl w) : Calls Tryz.prog 11 #[] w fun e w' => e = .returned (.bool true) ∧ Below w.heap.size w w':=by
 have ok : Ok6 w w:=⟨Below.refl _ _,gl⟩
 clear gl
 go_enter Tryz.func11,Tryz.ntmps11
 go_wp2_with (first
  | (go_at_call 15;(with_reducible refine (fy6 ok7 [97,32] false fxN4).mono ?_);rintro e w8 ⟨rfl,ok8,b8⟩)
  | (go_at_call 15;(with_reducible refine (fy6 ok6 [95,97] true fxN3).mono ?_);rintro e w7 ⟨rfl,ok7,b7⟩)
  | (go_at_call 13;(with_reducible refine (fy5 ok5 [48,49] (-1) fxN2).mono ?_);rintro e w6 ⟨rfl,ok6,b6⟩)
  | (go_at_call 13;(with_reducible refine (fy5 (ok4.alloc _ |>.alloc _) [45,49,46,53] 3 fxN1).mono ?_);rintro e w5 ⟨rfl,ok5,b5⟩)
  | (go_at_call 9;(with_reducible refine (fy4 (ok3.alloc _)).mono ?_);rintro e w4 ⟨p0,r0,o4,n4,z4,p1,r1,rfl,ok4,fq,b4⟩;have fd4:=(fd3.keep (al1 w3 (.cells #[.slice none 0 0,.slice none 0 0] 25))).keep b4;have d0:=cell_on b4 (cell_on (al1 w3 (.cells #[.slice none 0 0,.slice none 0 0] 25)) e3);obtain ⟨s1,x0,x1,x2,x3,x4,x5,x6,y0⟩:=fd4;obtain ⟨v1,v2,v3,v4⟩:=fq;have A1:=fun o => cell_on (al1 w4 o) s1;have A2:=fun o => cell_on (al1 w4 o) x0;have A3:=fun o => cell_on (al1 w4 o) x1;have A4:=fun o => cell_on (al1 w4 o) x2;have A5:=fun o => cell_on (al1 w4 o) x3;have A6:=fun o => cell_on (al1 w4 o) x4;have A7:=fun o => cell_on (al1 w4 o) x5;have A8:=fun o => cell_on (al1 w4 o) x6;have A9:=fun o => cell_on (al1 w4 o) d0;have B1:=fun o => cell_on (al1 w4 o) v1;have B2:=fun o o' => cell_on (al1 (w4.alloc o) o') (cell_on (al1 w4 o) v1);have B3:=fun o o' => cell_on (al1 (w4.alloc o) o') (cell_on (al1 w4 o) v2);have B4:=fun o o' => cell_on (al1 (w4.alloc o) o') (cell_on (al1 w4 o) v3);have B5:=fun o o' => cell_on (al1 (w4.alloc o) o') (cell_on (al1 w4 o) v4);have B6:=fun o o' => cell_on (al1 (w4.alloc o) o') (cell_on (al1 w4 o) y0))
  | (go_at_call 9;(with_reducible refine (fy3 (ok2.alloc _)).mono ?_);rintro e w3 ⟨rfl,ok3,b3⟩;have fd3:=(fd2.keep (al1 w2 (.cells #[.slice none 0 0,.slice none 0 0] 25))).keep b3;have e3:=cell_on b3 (cell_on (al1 w2 (.cells #[.slice none 0 0,.slice none 0 0] 25)) e2))
  | (go_at_call 9;(with_reducible refine (fy2 (ok1.alloc _)).mono ?_);rintro e w2 ⟨rfl,ok2,b2⟩;have fd2:=(fd1.keep (al1 w1 (.cells #[.slice (some ⟨q0,0,none⟩) 1 c0,.slice o2 n2 z2] 25))).keep b2;have e2:=cell_on b2 (row2 (heap_alloc_new w1 (.cells #[.slice (some ⟨q0,0,none⟩) 1 c0,.slice o2 n2 z2] 25))).1)
  | (go_at_call 9;(with_reducible refine (fy1 ok).mono ?_);rintro e w1 ⟨q0,c0,o2,n2,z2,q1,q2,c1,c2,oa,od,ca,cd,rfl,ok1,fd1⟩)
  | fail)
 go_ret
 exact ⟨rfl,ok8.bel⟩
end
section
open Go Go.RowKit Go.Lib
def listed : List (String × DataW Unit):=Rows.syntaxReadsRow.laid
theorem at_var {w : World} {n : String} {d : DataW Unit} {g t : Nat} (h : VarReads Tryz.prog w n d) (hg : Tryz.prog.globalNamed n = some g) (ht : (Tryz.prog.globals[g]?).map (·.type) = some t) :
  ∃ (cs : Array Value) (fuel : Nat) (p : List MemPlace),w.var? Tryz.prog n = some cs ∧ DataW.trod (fun _ => ()) Tryz.prog w 0 (fun _ => true) false fuel t cs.toList = some (d,p) ∧ ∀ i,w.cell? ⟨g,i,none⟩ = cs.toList[i]?:=by
 obtain ⟨g',t',cs,fuel,p,hg',ht',hv,hd⟩:=h
 obtain rfl:=Option.some.inj (hg.symm.trans hg')
 obtain rfl:=Option.some.inj (ht.symm.trans ht')
 exact ⟨cs,fuel,p,hv,hd,fun i => by rw [World.var?_cell hg hv i,Array.getElem?_toList]⟩
theorem es_laid {w : World} (h : VarReads Tryz.prog w "strconv.ErrSyntax" Rows.laid_strconv_ErrSyntax) : ∃ te pe,w.cell? ⟨3,0,none⟩ = some (.iface te pe):=by
 obtain ⟨cs,fuel,p,_,hd,hc⟩:=at_var h (g:=3) (t:=147) (by kernel_rfl) (by kernel_rfl)
 cases fuel with
 | zero => simp [DataW.trod] at hd
 | succ n =>
  have hu:=Tryz.underlying147
  simp only [DataW.trod,hu,Rows.laid_strconv_ErrSyntax] at hd
  rw [hc]
  split at hd
  all_goals simp_all
theorem max_of {W : World} (h : W.ShapedOpen Tryz.prog) : ∃ m,W.cell? ⟨gM,0,none⟩ = some (.int .i64 m) :=
 cell_of_shapedOpen_int h (g:=0) (t:=3) (zero:=#[.int .i64 0]) (of_decide_eq_true (by kernel_rfl)) (by kernel_rfl) rfl (by kernel_rfl) (by kernel_rfl) Tryz.underlying3
theorem gl_laid {W : World} (hL : laidMet Tryz.prog listed W) (hs : W.ShapedOpen Tryz.prog) : Gl W:=by
 obtain ⟨te,pe,he⟩:=es_laid (laidMet.reads hL (.tail _ (.tail _ (.tail _ (.tail _ (.tail _ (.head _)))))))
 exact ⟨max_of hs,⟨_,he,Or.inr ⟨te,pe,rfl⟩⟩⟩
end
end Go.Proofs.YtgppemlciohjcaaGreatDoor
