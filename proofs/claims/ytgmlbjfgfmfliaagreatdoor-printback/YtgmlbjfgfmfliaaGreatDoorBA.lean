/- Are two documents the same? -/
import Derived.Test.YtgmlbjfgfmfliaaGreatDoorA32
namespace Go.Proofs.YtgmlbjfgfmfliaaGreatDoor
open Go Go.RowKit Go.Shelf
theorem bts2 {w : World} {D : Nat → Prop} {a b : CT} {us : List Value} (h : Bts w D [a,b] us) : ∃ x y,us = [x,y] ∧ Bt w D a x ∧ Bt w D b y:=by
 have hl:=h.len
 match us,hl with
 | [x,y],_ => exact ⟨x,y,rfl,h.all 0 _ _ rfl rfl,h.all 1 _ _ rfl rfl⟩
theorem OpT.len {cs : List CT} (h : OpT cs) : cs.length = 5:=by
 obtain ⟨_,_,_,_,_,rfl,_⟩:=h
 rfl
theorem FragT.len {cs : List CT} (h : FragT cs) : cs.length = 4:=by
 obtain ⟨_,_,_,_,rfl,_⟩:=h
 rfl
abbrev boxD (o : Option Addr) (n c : Nat) (o' : Option Addr) (n' c' : Nat) : Obj:=.cells #[.slice o n c,.slice o' n' c'] 25
set_option maxRecDepth 100000 in
set_option maxHeartbeats 4000000 in
theorem doc_same {ops frs : List (List CT)} (ho : RowP OpT ops) (hf : RowP FragT frs) : SameP 16 [rowC 51 5 ops,rowC 65 4 frs]:=by
 intro w D0 D0' us vs hD0 hD0' hu hv
 obtain ⟨_,_,rfl,a0,a1⟩:=bts2 hu
 obtain ⟨_,_,rfl,b0,b1⟩:=bts2 hv
 obtain ⟨hoL,hoA⟩:=ho
 obtain ⟨hfL,hfA⟩:=hf
 obtain ⟨o,cp,rfl,_⟩:=a0.rowInv
 obtain ⟨p,dp,rfl,_⟩:=a1.rowInv
 obtain ⟨o',cp',rfl,_⟩:=b0.rowInv
 obtain ⟨p',dp',rfl,_⟩:=b1.rowInv
 have hW : Below w.heap.size w ((w.alloc (boxD o ops.length cp p frs.length dp)).alloc (boxD o' ops.length cp' p' frs.length dp')):=al2s _ _ _
 have c1 : World.cell? ((w.alloc (boxD o ops.length cp p frs.length dp)).alloc (boxD o' ops.length cp' p' frs.length dp')) ⟨w.heap.size,0,none⟩ = some (.slice o ops.length cp):=two_fst w _ _ _ _ 0 0 _ rfl
 have c2 : World.cell? ((w.alloc (boxD o ops.length cp p frs.length dp)).alloc (boxD o' ops.length cp' p' frs.length dp')) ⟨w.heap.size,1,none⟩ = some (.slice p frs.length dp):=two_fst w _ _ _ _ 1 0 _ rfl
 have c3 : World.cell? ((w.alloc (boxD o ops.length cp p frs.length dp)).alloc (boxD o' ops.length cp' p' frs.length dp')) ⟨w.heap.size + 1,0,none⟩ = some (.slice o' ops.length cp'):=two_snd w _ _ _ _ 0 0 _ rfl
 have c4 : World.cell? ((w.alloc (boxD o ops.length cp p frs.length dp)).alloc (boxD o' ops.length cp' p' frs.length dp')) ⟨w.heap.size + 1,1,none⟩ = some (.slice p' frs.length dp'):=two_snd w _ _ _ _ 1 0 _ rfl
 have hz : ((w.alloc (boxD o ops.length cp p frs.length dp)).alloc (boxD o' ops.length cp' p' frs.length dp')).heap.size = w.heap.size + 2:=by simp
 clear hu hv
 go_enter Tryz.func16,Tryz.ntmps16
 go_wp2
 have hD : ∀ k,D0 k → k < w.heap.size + 2:=fun k hk => Nat.lt_of_lt_of_le (hD0 k hk) (by omega)
 have hD' : ∀ k,D0' k → k < w.heap.size + 2:=fun k hk => Nat.lt_of_lt_of_le (hD0' k hk) (by omega)
 replace a0:=a0.under hW hD0
 replace a1:=a1.under hW hD0
 replace b0:=b0.under hW hD0'
 replace b1:=b1.under hW hD0'
 generalize (w.alloc (boxD o ops.length cp p frs.length dp)).alloc (boxD o' ops.length cp' p' frs.length dp') = V at *
 rw [← hz] at hD hD'
 have z1 : w.heap.size < V.heap.size:=by omega
 have z2 : w.heap.size + 1 < V.heap.size:=by omega
 obtain ⟨_,_,e0,hr⟩:=brow_cells hD a0 (fun e he => OpT.len (hoA e he))
 cases e0
 obtain ⟨_,_,e0,hr'⟩:=brow_cells hD' b0 (fun e he => OpT.len (hoA e he))
 cases e0
 obtain ⟨_,_,e0,hs⟩:=brow_cells hD a1 (fun e he => FragT.len (hfA e he))
 cases e0
 obtain ⟨_,_,e0,hs'⟩:=brow_cells hD' b1 (fun e he => FragT.len (hfA e he))
 cases e0
 clear a0 a1 b0 b1
 go_loopw [5] (fun i wr => ∃ j : Nat,j ≤ ops.length ∧ i = .int .i64 j ∧ Below V.heap.size V wr) (fun i _ => ops.length - (intOf i).toNat)
 case atStart => exact ⟨0,Nat.zero_le _,rfl,Below.refl _ _⟩
 case round =>
  obtain ⟨j,hj,rfl,hV⟩:=hrel
  have d1:=(hV.cell (p:=⟨w.heap.size,0,none⟩) z1).trans c1
  have d3:=(hV.cell (p:=⟨w.heap.size + 1,0,none⟩) z2).trans c3
  have d2:=(hV.cell (p:=⟨w.heap.size,1,none⟩) z1).trans c2
  have d4:=(hV.cell (p:=⟨w.heap.size + 1,1,none⟩) z2).trans c4
  have hsz:=hV.size
  have y1 : w.heap.size < wr.heap.size:=by omega
  have y2 : w.heap.size + 1 < wr.heap.size:=by omega
  by_cases hlt : j < ops.length
  ·obtain ⟨q,ob,rfl,hq,hc⟩:=hr (by intro e;rw [e] at hlt;simp at hlt)
   obtain ⟨q',ob',rfl,hq',hc'⟩:=hr' (by intro e;rw [e] at hlt;simp at hlt)
   have hme : ops[j] ∈ ops:=List.getElem_mem hlt
   have hej:=List.getElem?_eq_getElem hlt
   obtain ⟨k,t,xs,ds,ss,e1,hx,hd,hss⟩:=hoA _ hme
   rw [e1] at hej
   clear e1 hme
   have IH:=vars_same hx
   have IH2:=dirs_same hd
   have IH3:=sels_same hss
   clear hx hd hss
   obtain ⟨_,n0,N0⟩:=hc j 0 _ (iC k) hej rfl
   obtain ⟨_,n1,N1⟩:=hc j 1 _ (sC t) hej rfl
   obtain ⟨_,m0,M0⟩:=hc' j 0 _ (iC k) hej rfl
   obtain ⟨_,m1,M1⟩:=hc' j 1 _ (sC t) hej rfl
   cases N0;cases N1;cases M0;cases M1
   obtain ⟨x0,g0,A0⟩:=hc j 2 _ _ hej rfl
   obtain ⟨x1,g1,A1⟩:=hc j 3 _ _ hej rfl
   obtain ⟨x2,g2,A2⟩:=hc j 4 _ _ hej rfl
   obtain ⟨z0,k0,B0⟩:=hc' j 2 _ _ hej rfl
   obtain ⟨z1',k1,B1⟩:=hc' j 3 _ _ hej rfl
   obtain ⟨z2',k2,B2⟩:=hc' j 4 _ _ hej rfl
   rw [Nat.add_zero] at n0 m0
   have f : ∀ i,wr.cell? ⟨q,i,none⟩ = V.cell? ⟨q,i,none⟩:=fun i => hV.cell (p:=⟨q,i,none⟩) hq
   have f' : ∀ i,wr.cell? ⟨q',i,none⟩ = V.cell? ⟨q',i,none⟩:=fun i => hV.cell (p:=⟨q',i,none⟩) hq'
   rw [← f] at n0 n1 g0 g1 g2
   rw [← f'] at m0 m1 k0 k1 k2
   have CALL:=IH.here hD hD' A0 B0
   have CALL2:=IH2.here hD hD' A1 B1
   have CALL3:=IH3.here hD hD' A2 B2
   obtain ⟨o2,c2',rfl,_⟩:=A0.rowInv
   obtain ⟨o3,c3',rfl,_⟩:=A1.rowInv
   obtain ⟨o4,c4',rfl,_⟩:=A2.rowInv
   obtain ⟨r2,b2,rfl,_⟩:=B0.rowInv
   obtain ⟨r3,b3,rfl,_⟩:=B1.rowInv
   obtain ⟨r4,b4,rfl,_⟩:=B2.rowInv
   clear f f' A0 A1 A2 B0 B1 B2 IH IH2 IH3 hc hc' c1 c2 c3 c4 d2 d4
   have hq1 : q < wr.heap.size:=Nat.lt_of_lt_of_le hq hsz
   have hq2 : q' < wr.heap.size:=Nat.lt_of_lt_of_le hq' hsz
   go_wp2
   go_region
   all_goals
    go_wp2_with (first
     | (go_at_call 36;refine (CALL _ (two_here hV _ _)).mono ?_;rintro e w1 ⟨rfl,hb1⟩;have p1:=two_after (j:=3) hb1 rfl;have p2:=two_after' (j:=3) hb1 rfl;have p3:=two_after (j:=4) hb1 rfl;have p4:=two_after' (j:=4) hb1 rfl;have hw1:=two_below hV hb1;have hs1:=two_grown hb1)
     | (go_at_call 37;refine (CALL2 _ hw1).mono ?_;rintro e w2 ⟨rfl,hb2⟩;have p5:=(hb2.cell (p:=⟨wr.heap.size,4,none⟩) (by show wr.heap.size < w1.heap.size;omega)).trans p3;have p6:=(hb2.cell (p:=⟨wr.heap.size + 1,4,none⟩) (by show wr.heap.size + 1 < w1.heap.size;omega)).trans p4;have hw2:=hw1.trans (hb2.mono hw1.size))
     | (go_at_call 38;refine (CALL3 _ hw2).mono ?_;rintro e w3 ⟨rfl,hb3⟩;have hw3:=hw2.trans (hb3.mono hw2.size)))
    go_roundw
    case rel => exact ⟨j + 1,by omega,by go_num,hw3⟩
    case measure => simp [intOf];omega
  ·clear hr hr' d2 d4
   go_wp2
   clear d1 d3
   have hV0:=hV
   go_loopw [8] (fun i wr => ∃ j : Nat,j ≤ frs.length ∧ i = .int .i64 j ∧ Below V.heap.size V wr) (fun i _ => frs.length - (intOf i).toNat)
   case atStart => exact ⟨0,Nat.zero_le _,rfl,hV0⟩
   case round =>
    clear hV hV0 hsz y1 y2 hlt hj
    obtain ⟨j,hj,rfl,hV⟩:=hrel
    rename_i wr
    have d2:=(hV.cell (p:=⟨w.heap.size,1,none⟩) z1).trans c2
    have d4:=(hV.cell (p:=⟨w.heap.size + 1,1,none⟩) z2).trans c4
    have hsz:=hV.size
    have y1 : w.heap.size < wr.heap.size:=by omega
    have y2 : w.heap.size + 1 < wr.heap.size:=by omega
    by_cases hlt : j < frs.length
    ·obtain ⟨q,ob,rfl,hq,hc⟩:=hs (by intro e;rw [e] at hlt;simp at hlt)
     obtain ⟨q',ob',rfl,hq',hc'⟩:=hs' (by intro e;rw [e] at hlt;simp at hlt)
     have hme : frs[j] ∈ frs:=List.getElem_mem hlt
     have hej:=List.getElem?_eq_getElem hlt
     obtain ⟨t,u,ds,ss,e1,hd,hss⟩:=hfA _ hme
     rw [e1] at hej
     clear e1 hme
     have IH2:=dirs_same hd
     have IH3:=sels_same hss
     clear hd hss
     obtain ⟨_,n0,N0⟩:=hc j 0 _ (sC t) hej rfl
     obtain ⟨_,n1,N1⟩:=hc j 1 _ (sC u) hej rfl
     obtain ⟨_,m0,M0⟩:=hc' j 0 _ (sC t) hej rfl
     obtain ⟨_,m1,M1⟩:=hc' j 1 _ (sC u) hej rfl
     cases N0;cases N1;cases M0;cases M1
     obtain ⟨x1,g1,A1⟩:=hc j 2 _ _ hej rfl
     obtain ⟨x2,g2,A2⟩:=hc j 3 _ _ hej rfl
     obtain ⟨z1',k1,B1⟩:=hc' j 2 _ _ hej rfl
     obtain ⟨z2',k2,B2⟩:=hc' j 3 _ _ hej rfl
     rw [Nat.add_zero] at n0 m0
     have f : ∀ i,wr.cell? ⟨q,i,none⟩ = V.cell? ⟨q,i,none⟩:=fun i => hV.cell (p:=⟨q,i,none⟩) hq
     have f' : ∀ i,wr.cell? ⟨q',i,none⟩ = V.cell? ⟨q',i,none⟩:=fun i => hV.cell (p:=⟨q',i,none⟩) hq'
     rw [← f] at n0 n1 g1 g2
     rw [← f'] at m0 m1 k1 k2
     have CALL2:=IH2.here hD hD' A1 B1
     have CALL3:=IH3.here hD hD' A2 B2
     obtain ⟨o3,c3',rfl,_⟩:=A1.rowInv
     obtain ⟨o4,c4',rfl,_⟩:=A2.rowInv
     obtain ⟨r3,b3,rfl,_⟩:=B1.rowInv
     obtain ⟨r4,b4,rfl,_⟩:=B2.rowInv
     clear f f' A1 A2 B1 B2 IH2 IH3 hc hc' c1 c2 c3 c4
     have hq1 : q < wr.heap.size:=Nat.lt_of_lt_of_le hq hsz
     have hq2 : q' < wr.heap.size:=Nat.lt_of_lt_of_le hq' hsz
     go_wp2
     go_region
     all_goals
      go_wp2_with (first
       | (go_at_call 37;refine (CALL2 _ (two_here hV _ _)).mono ?_;rintro e w1 ⟨rfl,hb1⟩;have p3:=two_after (j:=3) hb1 rfl;have p4:=two_after' (j:=3) hb1 rfl;have hw1:=two_below hV hb1)
       | (go_at_call 38;refine (CALL3 _ hw1).mono ?_;rintro e w3 ⟨rfl,hb3⟩;have hw3:=hw1.trans (hb3.mono hw1.size)))
      go_roundw
      case rel => exact ⟨j + 1,by omega,by go_num,hw3⟩
      case measure => simp [intOf];omega
    ·go_wp2
     go_ret
     exact ⟨rfl,hW.trans (hV.mono hW.size)⟩
end Go.Proofs.YtgmlbjfgfmfliaaGreatDoor
