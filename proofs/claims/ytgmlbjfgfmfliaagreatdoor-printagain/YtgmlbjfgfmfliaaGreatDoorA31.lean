/- Are two rows of directives the same? -/
import Derived.Test.YtgmlbjfgfmfliaaGreatDoorA30
namespace Go.Proofs.YtgmlbjfgfmfliaaGreatDoor
open Go Go.RowKit Go.Shelf
/-- Two rows of the same trees are told to be the same by the function f. -/
def SameR (f : FuncId) (E sz : Nat) (els : List (List CT)) : Prop:=∀ (w : World) (D D' : Nat → Prop) (u v : Value),(∀ k,D k → k < w.heap.size) → (∀ k,D' k → k < w.heap.size) → Bt w D (rowC E sz els) u → Bt w D' (rowC E sz els) v → Calls Tryz.prog f #[u,v] w fun e w' => e = .returned (.bool true) ∧ Below w.heap.size w w'
/-- A tree that is an argument's. -/
def ArgT (cs : List CT) : Prop:=∃ t v,cs = sC t :: v ∧ ValT v
theorem ArgT.len {cs : List CT} (h : ArgT cs) : cs.length = 5:=by
 obtain ⟨t,v,rfl,hv⟩:=h
 rw [List.length_cons,hv.len]
theorem argS_reads (fx : Bool) : Reads ArgT (argS fx):=(memS_reads (valF_reads fx 32)).go (memS_eats (valF_eats fx 32).keeps).keeps fun _ hm => reads_ok ⟨_,_,rfl,hm⟩
set_option maxRecDepth 100000 in
set_option maxHeartbeats 2000000 in
theorem args_same {els : List (List CT)} (h : RowP ArgT els) : SameR 70 43 5 els:=by
 intro w D D' u v hD hD' hu hv
 obtain ⟨he,hall⟩:=h
 obtain ⟨o,cp,rfl,hr⟩:=brow_cells hD hu (fun e he => (hall e he).len)
 obtain ⟨o',cp',rfl,hr'⟩:=brow_cells hD' hv (fun e he => (hall e he).len)
 clear hu hv
 go_enter Tryz.func70,Tryz.ntmps70
 go_wp2
 go_loopw [5] (fun i wr => ∃ j : Nat,j ≤ els.length ∧ i = .int .i64 j ∧ Below w.heap.size w wr) (fun i _ => els.length - (intOf i).toNat)
 case atStart => exact ⟨0,Nat.zero_le _,rfl,Below.refl _ _⟩
 case round =>
  obtain ⟨j,hj,rfl,hV⟩:=hrel
  by_cases hlt : j < els.length
  ·obtain ⟨q,ob,rfl,hq,hc⟩:=hr (by intro e;rw [e] at hlt;simp at hlt)
   obtain ⟨q',ob',rfl,hq',hc'⟩:=hr' (by intro e;rw [e] at hlt;simp at hlt)
   have hme : els[j] ∈ els:=List.getElem_mem hlt
   have hej:=List.getElem?_eq_getElem hlt
   obtain ⟨t,y,e1,hy⟩:=hall _ hme
   rw [e1] at hej
   clear e1 hme
   have IH:=value_same hy
   have he4:=hy.len
   clear hy
   match y,he4 with
   | [y0,y1,y2,y3],_ =>
    obtain ⟨_,n0,N0⟩:=hc j 0 _ (sC t) hej rfl
    obtain ⟨_,m0,M0⟩:=hc' j 0 _ (sC t) hej rfl
    cases N0;cases M0
    obtain ⟨x0,g0,A0⟩:=hc j 1 _ y0 hej rfl
    obtain ⟨x1,g1,A1⟩:=hc j 2 _ y1 hej rfl
    obtain ⟨x2,g2,A2⟩:=hc j 3 _ y2 hej rfl
    obtain ⟨x3,g3,A3⟩:=hc j 4 _ y3 hej rfl
    obtain ⟨z0,k0,B0⟩:=hc' j 1 _ y0 hej rfl
    obtain ⟨z1,k1,B1⟩:=hc' j 2 _ y1 hej rfl
    obtain ⟨z2,k2,B2⟩:=hc' j 3 _ y2 hej rfl
    obtain ⟨z3,k3,B3⟩:=hc' j 4 _ y3 hej rfl
    rw [Nat.add_zero] at n0 m0
    have f : ∀ i,wr.cell? ⟨q,i,none⟩ = w.cell? ⟨q,i,none⟩:=fun i => hV.cell (p:=⟨q,i,none⟩) hq
    have f' : ∀ i,wr.cell? ⟨q',i,none⟩ = w.cell? ⟨q',i,none⟩:=fun i => hV.cell (p:=⟨q',i,none⟩) hq'
    rw [← f] at g0 g1 g2 g3
    rw [← f'] at k0 k1 k2 k3
    have U : Bts wr D [y0,y1,y2,y3] [x0,x1,x2,x3]:=(bts_mk A0 A1 A2 A3).under hV hD
    have U' : Bts wr D' [y0,y1,y2,y3] [z0,z1,z2,z3]:=(bts_mk B0 B1 B2 B3).under hV hD'
    have hsz:=hV.size
    have CALL : ∀ m,Calls Tryz.prog 69 #[.agg #[x0,x1,x2,x3],.agg #[z0,z1,z2,z3]] (wr.drewN m) fun e w' => e = .returned (.bool true) ∧ Below wr.heap.size wr w':=fun m =>
     (IH (wr.drewN m) D D' _ _ (fun k hk => Nat.lt_of_lt_of_le (hD k hk) hsz) (fun k hk => Nat.lt_of_lt_of_le (hD' k hk) hsz) (U.keep fun _ _ => rfl) (U'.keep fun _ _ => rfl)).mono fun e w' h => ⟨h.1,⟨h.2.os,h.2.tape,h.2.output,h.2.size,h.2.block⟩⟩
    clear f f' A0 A1 A2 A3 B0 B1 B2 B3 hc hc'
    go_wp2
    go_region_with (go_at_call 69;refine (CALL _).mono ?_;rintro e w1 ⟨rfl,hb1⟩)
    all_goals
     have hV1:=hV.trans (hb1.mono hsz)
     have p0:=(hV1.cell (p:=⟨q,ob + j * 5,none⟩) hq).trans n0
     have p1:=(hV1.cell (p:=⟨q',ob' + j * 5,none⟩) hq').trans m0
     go_wp2
     go_quiet (fail)
     go_wp2
     go_roundw
     case rel => exact ⟨j + 1,by omega,by go_num,below_drewN hV1 _⟩
     case measure => simp [intOf];omega
  ·go_wp2
   go_ret
   exact ⟨rfl,hV⟩
end Go.Proofs.YtgmlbjfgfmfliaaGreatDoor
namespace Go.Proofs.YtgmlbjfgfmfliaaGreatDoor
open Go Go.RowKit Go.Shelf
/-- A tree that is a directive's. -/
def DirT (cs : List CT) : Prop:=∃ t xs,cs = [sC t,rowC 43 5 xs] ∧ RowP ArgT xs
theorem DirT.len {cs : List CT} (h : DirT cs) : cs.length = 2:=by
 obtain ⟨t,v,rfl,_⟩:=h
 rfl
theorem rowP_nil {α : Type} (p : α → Prop) : RowP p []:=⟨by simp,by simp⟩
theorem argsS_reads (fx : Bool) : Reads (RowP ArgT) (argsS fx):=reads_if (reads_tail (someS_reads (argS_eats fx) (argS_reads fx))) (reads_ok (rowP_nil _))
theorem dirS_reads (fx : Bool) : Reads DirT (dirS fx):=(reads_true nameS).go nameS_eats.keeps fun _ _ => (argsS_reads fx).go (argsS_keeps fx) fun _ ha => reads_ok ⟨_,_,rfl,ha⟩
theorem dirsS_reads (fx : Bool) : Reads (RowP DirT) (dirsS fx):=ledS_reads (dirS_eats fx).keeps (dirS_reads fx)
/-- What a function says of two rows, in a later world. -/
theorem SameR.later {f : FuncId} {E sz : Nat} {els : List (List CT)} (h : SameR f E sz els) {w wr : World} {D D' : Nat → Prop} {u v : Value} (hD : ∀ k,D k → k < w.heap.size) (hD' : ∀ k,D' k → k < w.heap.size) (hu : Bt w D (rowC E sz els) u) (hv : Bt w D' (rowC E sz els) v) (hV : Below w.heap.size w wr) (m : Nat) : Calls Tryz.prog f #[u,v] (wr.drewN m) fun e w' => e = .returned (.bool true) ∧ Below wr.heap.size wr w' :=
 (h (wr.drewN m) D D' u v (fun k hk => Nat.lt_of_lt_of_le (hD k hk) hV.size) (fun k hk => Nat.lt_of_lt_of_le (hD' k hk) hV.size) ((hu.under hV hD).keep fun _ _ => rfl) ((hv.under hV hD').keep fun _ _ => rfl)).mono fun _ _ h => ⟨h.1,⟨h.2.os,h.2.tape,h.2.output,h.2.size,h.2.block⟩⟩
theorem SameP.later {f : FuncId} {cs : List CT} (h : SameP f cs) {w wr : World} {D D' : Nat → Prop} {us vs : List Value} (hD : ∀ k,D k → k < w.heap.size) (hD' : ∀ k,D' k → k < w.heap.size) (hu : Bts w D cs us) (hv : Bts w D' cs vs) (hV : Below w.heap.size w wr) (m : Nat) : Calls Tryz.prog f #[.agg us.toArray,.agg vs.toArray] (wr.drewN m) fun e w' => e = .returned (.bool true) ∧ Below wr.heap.size wr w' :=
 (h (wr.drewN m) D D' us vs (fun k hk => Nat.lt_of_lt_of_le (hD k hk) hV.size) (fun k hk => Nat.lt_of_lt_of_le (hD' k hk) hV.size) ((hu.under hV hD).keep fun _ _ => rfl) ((hv.under hV hD').keep fun _ _ => rfl)).mono fun _ _ h => ⟨h.1,⟨h.2.os,h.2.tape,h.2.output,h.2.size,h.2.block⟩⟩
set_option maxRecDepth 100000 in
set_option maxHeartbeats 2000000 in
theorem dirs_same {els : List (List CT)} (h : RowP DirT els) : SameR 37 102 2 els:=by
 intro w D D' u v hD hD' hu hv
 obtain ⟨he,hall⟩:=h
 obtain ⟨o,cp,rfl,hr⟩:=brow_cells hD hu (fun e he => (hall e he).len)
 obtain ⟨o',cp',rfl,hr'⟩:=brow_cells hD' hv (fun e he => (hall e he).len)
 clear hu hv
 go_enter Tryz.func37,Tryz.ntmps37
 go_wp2
 go_loopw [5] (fun i wr => ∃ j : Nat,j ≤ els.length ∧ i = .int .i64 j ∧ Below w.heap.size w wr) (fun i _ => els.length - (intOf i).toNat)
 case atStart => exact ⟨0,Nat.zero_le _,rfl,Below.refl _ _⟩
 case round =>
  obtain ⟨j,hj,rfl,hV⟩:=hrel
  by_cases hlt : j < els.length
  ·obtain ⟨q,ob,rfl,hq,hc⟩:=hr (by intro e;rw [e] at hlt;simp at hlt)
   obtain ⟨q',ob',rfl,hq',hc'⟩:=hr' (by intro e;rw [e] at hlt;simp at hlt)
   have hme : els[j] ∈ els:=List.getElem_mem hlt
   have hej:=List.getElem?_eq_getElem hlt
   obtain ⟨t,xs,e1,ha⟩:=hall _ hme
   rw [e1] at hej
   clear e1 hme
   have IH:=args_same ha
   obtain ⟨_,n0,N0⟩:=hc j 0 _ (sC t) hej rfl
   obtain ⟨_,m0,M0⟩:=hc' j 0 _ (sC t) hej rfl
   cases N0;cases M0
   obtain ⟨x,g,A⟩:=hc j 1 _ _ hej rfl
   obtain ⟨z,k,B⟩:=hc' j 1 _ _ hej rfl
   rw [Nat.add_zero] at n0 m0
   have g1:=(hV.cell (p:=⟨q,ob + j * 2 + 1,none⟩) hq).trans g
   have k1:=(hV.cell (p:=⟨q',ob' + j * 2 + 1,none⟩) hq').trans k
   have hsz:=hV.size
   have CALL:=IH.later hD hD' A B hV
   clear hc hc' g k A B IH ha
   go_wp2
   go_region_with (go_at_call 70;refine (CALL _).mono ?_;rintro e w1 ⟨rfl,hb1⟩)
   all_goals
    have hV1:=hV.trans (hb1.mono hsz)
    have p0:=(hV1.cell (p:=⟨q,ob + j * 2,none⟩) hq).trans n0
    have p1:=(hV1.cell (p:=⟨q',ob' + j * 2,none⟩) hq').trans m0
    go_wp2
    go_quiet (fail)
    go_wp2
    go_roundw
    case rel => exact ⟨j + 1,by omega,by go_num,below_drewN hV1 _⟩
    case measure => simp [intOf];omega
  ·go_wp2
   go_ret
   exact ⟨rfl,hV⟩
end Go.Proofs.YtgmlbjfgfmfliaaGreatDoor
