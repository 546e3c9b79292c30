/- Are two rows of variables the same? -/
import Derived.Test.YtgmlbjfgfmfliaaGreatDoorA31
namespace Go.Proofs.YtgmlbjfgfmfliaaGreatDoor
open Go Go.RowKit Go.Shelf
theorem SameR.here {f : FuncId} {E sz : Nat} {els : List (List CT)} (h : SameR f E sz els) {w : World} {D D' : Nat → Prop} {u v : Value} (hD : ∀ k,D k → k < w.heap.size) (hD' : ∀ k,D' k → k < w.heap.size) (hu : Bt w D (rowC E sz els) u) (hv : Bt w D' (rowC E sz els) v) (wr : World) (hV : Below w.heap.size w wr) : Calls Tryz.prog f #[u,v] wr fun e w' => e = .returned (.bool true) ∧ Below wr.heap.size wr w' :=
 h wr D D' u v (fun k hk => Nat.lt_of_lt_of_le (hD k hk) hV.size) (fun k hk => Nat.lt_of_lt_of_le (hD' k hk) hV.size) (hu.under hV hD) (hv.under hV hD')
theorem SameP.here {f : FuncId} {cs : List CT} (h : SameP f cs) {w : World} {D D' : Nat → Prop} {us vs : List Value} (hD : ∀ k,D k → k < w.heap.size) (hD' : ∀ k,D' k → k < w.heap.size) (hu : Bts w D cs us) (hv : Bts w D' cs vs) (wr : World) (hV : Below w.heap.size w wr) : Calls Tryz.prog f #[.agg us.toArray,.agg vs.toArray] wr fun e w' => e = .returned (.bool true) ∧ Below wr.heap.size wr w' :=
 h wr D D' us vs (fun k hk => Nat.lt_of_lt_of_le (hD k hk) hV.size) (fun k hk => Nat.lt_of_lt_of_le (hD' k hk) hV.size) (hu.under hV hD) (hv.under hV hD')
theorem two_size (w : World) (o o' : Obj) : (((w.alloc o).alloc o').drew).heap.size = w.heap.size + 2:=by
 show ((w.heap.push _).push _).size = _
 rw [Array.size_push,Array.size_push]
theorem two_here {w wr : World} (hV : Below w.heap.size w wr) (o o' : Obj) : Below w.heap.size w (((wr.alloc o).alloc o').drew):=(hV.trans ((al2s wr o o').mono hV.size)).drew
theorem two_below {w wr w1 : World} {o o' : Obj} (hV : Below w.heap.size w wr) (h : Below (((wr.alloc o).alloc o').drew).heap.size (((wr.alloc o).alloc o').drew) w1) : Below w.heap.size w w1:=(two_here hV o o').trans (h.mono (two_here hV o o').size)
theorem two_grown {wr w1 : World} {o o' : Obj} (h : Below (((wr.alloc o).alloc o').drew).heap.size (((wr.alloc o).alloc o').drew) w1) : wr.heap.size + 2 ≤ w1.heap.size:=by
 have:=h.size
 rw [two_size] at this
 exact this
theorem two_after {wr w1 : World} {c d : Array Value} {E F j : Nat} {x : Value} (h : Below (((wr.alloc (.cells c E (0,0))).alloc (.cells d F (0,0))).drew).heap.size (((wr.alloc (.cells c E (0,0))).alloc (.cells d F (0,0))).drew) w1) (hx : c[j]? = some x) : w1.cell? ⟨wr.heap.size,j,none⟩ = some x :=
 (h.cell (p:=⟨wr.heap.size,j,none⟩) (by rw [two_size];show wr.heap.size < _;omega)).trans (two_fst wr c d E F j 1 x hx)
theorem two_after' {wr w1 : World} {c d : Array Value} {E F j : Nat} {x : Value} (h : Below (((wr.alloc (.cells c E (0,0))).alloc (.cells d F (0,0))).drew).heap.size (((wr.alloc (.cells c E (0,0))).alloc (.cells d F (0,0))).drew) w1) (hx : d[j]? = some x) : w1.cell? ⟨wr.heap.size + 1,j,none⟩ = some x :=
 (h.cell (p:=⟨wr.heap.size + 1,j,none⟩) (by rw [two_size];show wr.heap.size + 1 < _;omega)).trans (two_snd wr c d E F j 1 x hx)
/-- A tree that is a variable's. -/
def VarT (cs : List CT) : Prop:=∃ t x y b d ds,cs = [sC t,sC x,sC y,bC b] ++ d ++ [rowC 102 2 ds] ∧ ValT d ∧ RowP DirT ds
theorem VarT.len {cs : List CT} (h : VarT cs) : cs.length = 9:=by
 obtain ⟨t,x,y,b,d,ds,rfl,hd,_⟩:=h
 simp [hd.len]
theorem defS_reads : Reads (fun x => ValT x.2) defS:=fun l a m hl e => by
 unfold defS at e
 split at e
 ·obtain ⟨v,l1,h1,h2⟩:=go_ok_inv e
  cases h2
  exact valF_reads true 32 _ _ _ (by rw [List.length_tail];omega) h1
 ·cases e
  exact valT_leaf _ _
theorem varDefS_reads : Reads VarT varDefS:=(reads_true varS).go varS_eats.keeps fun _ _ => (reads_true (mustS _)).go (mustS_eats _).keeps fun _ _ => (reads_true (refF 32)).go (refF_eats 32).keeps fun _ _ => defS_reads.go defS_keeps fun _ hd => (dirsS_reads true).go (dirsS_keeps true) fun _ hs => reads_ok ⟨_,_,_,_,_,_,rfl,hd,hs⟩
theorem varsS_reads : Reads (RowP VarT) varsS:=reads_if (reads_tail (someS_reads varDefS_eats varDefS_reads)) (reads_ok (rowP_nil _))
set_option maxRecDepth 100000 in
set_option maxHeartbeats 2000000 in
theorem vars_same {els : List (List CT)} (h : RowP VarT els) : SameR 36 99 9 els:=by
 intro w D D' u v hD hD' hu hv
 obtain ⟨he,hall⟩:=h
 obtain ⟨o,cp,rfl,hr⟩:=brow_cells hD hu (fun e he => (hall e he).len)
 obtain ⟨o',cp',rfl,hr'⟩:=brow_cells hD' hv (fun e he => (hall e he).len)
 clear hu hv
 go_enter Tryz.func36,Tryz.ntmps36
 go_wp2
 go_loopw [5] (fun i wr => ∃ j : Nat,j ≤ els.length ∧ i = .int .i64 j ∧ Below w.heap.size w wr) (fun i _ => els.length - (intOf i).toNat)
 case atStart => exact ⟨0,Nat.zero_le _,rfl,Below.refl _ _⟩
 case round =>
  obtain ⟨j,hj,rfl,hV⟩:=hrel
  by_cases hlt : j < els.length
  ·obtain ⟨q,ob,rfl,hq,hc⟩:=hr (by intro e;rw [e] at hlt;simp at hlt)
   obtain ⟨q',ob',rfl,hq',hc'⟩:=hr' (by intro e;rw [e] at hlt;simp at hlt)
   have hme : els[j] ∈ els:=List.getElem_mem hlt
   have hej:=List.getElem?_eq_getElem hlt
   obtain ⟨t,s1,s2,bb,d,ds,e1,hd,hs⟩:=hall _ hme
   rw [e1] at hej
   clear e1 hme
   have IH:=value_same hd
   have IH2:=dirs_same hs
   clear hs
   cases hd with
   | mk dk dt dels dns _ _ _ =>
    obtain ⟨_,n0,N0⟩:=hc j 0 _ (sC t) hej rfl
    obtain ⟨_,n1,N1⟩:=hc j 1 _ (sC s1) hej rfl
    obtain ⟨_,n2,N2⟩:=hc j 2 _ (sC s2) hej rfl
    obtain ⟨_,n3,N3⟩:=hc j 3 _ (bC bb) hej rfl
    obtain ⟨_,m0,M0⟩:=hc' j 0 _ (sC t) hej rfl
    obtain ⟨_,m1,M1⟩:=hc' j 1 _ (sC s1) hej rfl
    obtain ⟨_,m2,M2⟩:=hc' j 2 _ (sC s2) hej rfl
    obtain ⟨_,m3,M3⟩:=hc' j 3 _ (bC bb) hej rfl
    cases N0;cases N1;cases N2;cases N3;cases M0;cases M1;cases M2;cases M3
    obtain ⟨x0,g0,A0⟩:=hc j 4 _ _ hej rfl
    obtain ⟨x1,g1,A1⟩:=hc j 5 _ _ hej rfl
    obtain ⟨x2,g2,A2⟩:=hc j 6 _ _ hej rfl
    obtain ⟨x3,g3,A3⟩:=hc j 7 _ _ hej rfl
    obtain ⟨x4,g4,A4⟩:=hc j 8 _ _ hej rfl
    obtain ⟨z0,k0,B0⟩:=hc' j 4 _ _ hej rfl
    obtain ⟨z1,k1,B1⟩:=hc' j 5 _ _ hej rfl
    obtain ⟨z2,k2,B2⟩:=hc' j 6 _ _ hej rfl
    obtain ⟨z3,k3,B3⟩:=hc' j 7 _ _ hej rfl
    obtain ⟨z4,k4,B4⟩:=hc' j 8 _ _ hej rfl
    rw [Nat.add_zero] at n0 m0
    have f : ∀ i,wr.cell? ⟨q,i,none⟩ = w.cell? ⟨q,i,none⟩:=fun i => hV.cell (p:=⟨q,i,none⟩) hq
    have f' : ∀ i,wr.cell? ⟨q',i,none⟩ = w.cell? ⟨q',i,none⟩:=fun i => hV.cell (p:=⟨q',i,none⟩) hq'
    rw [← f] at n0 n1 n2 n3 g0 g1 g2 g3 g4
    rw [← f'] at m0 m1 m2 m3 k0 k1 k2 k3 k4
    have hsz:=hV.size
    have UA:=bts_mk A0 A1 A2 A3
    have UB:=bts_mk B0 B1 B2 B3
    have CALL:=IH.here hD hD' UA UB
    have CALL2:=IH2.here hD hD' A4 B4
    cases A0;cases A1;cases B0;cases B1
    obtain ⟨o2,c2,rfl,_⟩:=A2.rowInv
    obtain ⟨o3,c3,rfl,_⟩:=A3.rowInv
    obtain ⟨o4,c4,rfl,_⟩:=A4.rowInv
    obtain ⟨r2,b2,rfl,_⟩:=B2.rowInv
    obtain ⟨r3,b3,rfl,_⟩:=B3.rowInv
    obtain ⟨r4,b4,rfl,_⟩:=B4.rowInv
    clear f f' A2 A3 B2 B3 A4 B4 UA UB IH IH2 hc hc'
    simp only [List.length_map] at CALL g3 k3
    have hq1 : q < wr.heap.size:=Nat.lt_of_lt_of_le hq hsz
    have hq2 : q' < wr.heap.size:=Nat.lt_of_lt_of_le hq' hsz
    go_wp2
    go_region
    all_goals
     go_wp2_with (first
      | (go_at_call 69;refine (CALL _ (two_here hV _ _)).mono ?_;rintro e w1 ⟨rfl,hb1⟩;have p1:=two_after (j:=8) hb1 rfl;have p2:=two_after' (j:=8) hb1 rfl;have hw1:=two_below hV hb1)
      | (go_at_call 37;refine (CALL2 _ hw1).mono ?_;rintro e w2 ⟨rfl,hb2⟩;have hw2:=hw1.trans (hb2.mono hw1.size)))
     go_roundw
     case rel => exact ⟨j + 1,by omega,by go_num,hw2⟩
     case measure => simp [intOf];omega
  ·go_wp2
   go_ret
   exact ⟨rfl,hV⟩
end Go.Proofs.YtgmlbjfgfmfliaaGreatDoor
