/- What the plain parser reads: selections, operations, fragments. -/
import Derived.Test.YtgmlbjfgfmfliaaGreatDoorB9
namespace Go.Proofs.YtgmlbjfgfmfliaaGreatDoor
open Go Go.RowKit Go.Shelf
/-- A tree that is a selection's. -/
inductive SelT : List CT → Prop
 | mk (k : Int) (a n o : Bs) (xs ds ss : List (List CT)) (hx : RowP ArgT xs) (hd : RowP DirT ds) (hs : ss.length ≤ 1099511627776) (h : ∀ e ∈ ss,SelT e) : SelT (selC k a n o xs ds ss)
/-- A selection whose own selections are told to be the same. -/
def SelS (cs : List CT) : Prop:=∃ k a n o xs ds ss,cs = selC k a n o xs ds ss ∧ RowP ArgT xs ∧ RowP DirT ds ∧ SameR 38 48 7 ss
theorem SelS.len {cs : List CT} (h : SelS cs) : cs.length = 7:=by
 obtain ⟨_,_,_,_,_,_,_,rfl,_⟩:=h
 rfl
set_option maxRecDepth 100000 in
set_option maxHeartbeats 4000000 in
theorem sels_step {els : List (List CT)} (h : RowP SelS els) : SameR 38 48 7 els:=by
 intro w D D' u v hD hD' hu hv
 obtain ⟨he,hall⟩:=h
 obtain ⟨o,cp,rfl,hr⟩:=brow_cells hD hu (fun e he => (hall e he).len)
 obtain ⟨o',cp',rfl,hr'⟩:=brow_cells hD' hv (fun e he => (hall e he).len)
 clear hu hv
 go_enter Tryz.func38,Tryz.ntmps38
 go_wp2
 go_loopw [5] (fun i wr => ∃ j : Nat,j ≤ els.length ∧ i = .int .i64 j ∧ Below w.heap.size w wr) (fun i _ => els.length - (intOf i).toNat)
 case atStart => exact ⟨0,Nat.zero_le _,rfl,Below.refl _ _⟩
 case round =>
  obtain ⟨j,hj,rfl,hV⟩:=hrel
  by_cases hlt : j < els.length
  ·obtain ⟨q,ob,rfl,hq,hc⟩:=hr (by intro e;rw [e] at hlt;simp at hlt)
   obtain ⟨q',ob',rfl,hq',hc'⟩:=hr' (by intro e;rw [e] at hlt;simp at hlt)
   have hme : els[j] ∈ els:=List.getElem_mem hlt
   have hej:=List.getElem?_eq_getElem hlt
   obtain ⟨k,a,n,on,xs,ds,ss,e1,hx,hd,IH3⟩:=hall _ hme
   rw [e1] at hej
   clear e1 hme
   have IH:=args_same hx
   have IH2:=dirs_same hd
   clear hx hd
   obtain ⟨_,n0,N0⟩:=hc j 0 _ (iC k) hej rfl
   obtain ⟨_,n1,N1⟩:=hc j 1 _ (sC a) hej rfl
   obtain ⟨_,n2,N2⟩:=hc j 2 _ (sC n) hej rfl
   obtain ⟨_,n3,N3⟩:=hc j 3 _ (sC on) hej rfl
   obtain ⟨_,m0,M0⟩:=hc' j 0 _ (iC k) hej rfl
   obtain ⟨_,m1,M1⟩:=hc' j 1 _ (sC a) hej rfl
   obtain ⟨_,m2,M2⟩:=hc' j 2 _ (sC n) hej rfl
   obtain ⟨_,m3,M3⟩:=hc' j 3 _ (sC on) hej rfl
   cases N0;cases N1;cases N2;cases N3;cases M0;cases M1;cases M2;cases M3
   obtain ⟨x0,g0,A0⟩:=hc j 4 _ _ hej rfl
   obtain ⟨x1,g1,A1⟩:=hc j 5 _ _ hej rfl
   obtain ⟨x2,g2,A2⟩:=hc j 6 _ _ hej rfl
   obtain ⟨z0,k0,B0⟩:=hc' j 4 _ _ hej rfl
   obtain ⟨z1,k1,B1⟩:=hc' j 5 _ _ hej rfl
   obtain ⟨z2,k2,B2⟩:=hc' j 6 _ _ hej rfl
   rw [Nat.add_zero] at n0 m0
   have f : ∀ i,wr.cell? ⟨q,i,none⟩ = w.cell? ⟨q,i,none⟩:=fun i => hV.cell (p:=⟨q,i,none⟩) hq
   have f' : ∀ i,wr.cell? ⟨q',i,none⟩ = w.cell? ⟨q',i,none⟩:=fun i => hV.cell (p:=⟨q',i,none⟩) hq'
   rw [← f] at n0 n1 n2 n3 g0 g1 g2
   rw [← f'] at m0 m1 m2 m3 k0 k1 k2
   have hsz:=hV.size
   have CALL:=IH.here hD hD' A0 B0
   have CALL2:=IH2.here hD hD' A1 B1
   have CALL3:=IH3.here hD hD' A2 B2
   obtain ⟨o2,c2,rfl,_⟩:=A0.rowInv
   obtain ⟨o3,c3,rfl,_⟩:=A1.rowInv
   obtain ⟨o4,c4,rfl,_⟩:=A2.rowInv
   obtain ⟨r2,b2,rfl,_⟩:=B0.rowInv
   obtain ⟨r3,b3,rfl,_⟩:=B1.rowInv
   obtain ⟨r4,b4,rfl,_⟩:=B2.rowInv
   clear f f' A0 A1 A2 B0 B1 B2 IH IH2 IH3 hc hc'
   have hq1 : q < wr.heap.size:=Nat.lt_of_lt_of_le hq hsz
   have hq2 : q' < wr.heap.size:=Nat.lt_of_lt_of_le hq' hsz
   go_wp2
   go_region
   all_goals
    go_wp2_with (first
     | (go_at_call 70;refine (CALL _ (two_here hV _ _)).mono ?_;rintro e w1 ⟨rfl,hb1⟩;have p1:=two_after (j:=5) hb1 rfl;have p2:=two_after' (j:=5) hb1 rfl;have p3:=two_after (j:=6) hb1 rfl;have p4:=two_after' (j:=6) hb1 rfl;have hw1:=two_below hV hb1;have hs1:=two_grown hb1)
     | (go_at_call 37;refine (CALL2 _ hw1).mono ?_;rintro e w2 ⟨rfl,hb2⟩;have p5:=(hb2.cell (p:=⟨wr.heap.size,6,none⟩) (by show wr.heap.size < w1.heap.size;omega)).trans p3;have p6:=(hb2.cell (p:=⟨wr.heap.size + 1,6,none⟩) (by show wr.heap.size + 1 < w1.heap.size;omega)).trans p4;have hw2:=hw1.trans (hb2.mono hw1.size))
     | (go_at_call 38;refine (CALL3 _ hw2).mono ?_;rintro e w3 ⟨rfl,hb3⟩;have hw3:=hw2.trans (hb3.mono hw2.size)))
    go_roundw
    case rel => exact ⟨j + 1,by omega,by go_num,hw3⟩
    case measure => simp [intOf];omega
  ·go_wp2
   go_ret
   exact ⟨rfl,hV⟩
theorem sel_told {cs : List CT} (h : SelT cs) : SelS cs:=by
 induction h with
 | mk k a n o xs ds ss hx hd hs _ ih => exact ⟨k,a,n,o,xs,ds,ss,rfl,hx,hd,sels_step ⟨hs,ih⟩⟩
theorem sels_same {els : List (List CT)} (h : RowP SelT els) : SameR 38 48 7 els:=sels_step ⟨h.1,fun e he => sel_told (h.2 e he)⟩
end Go.Proofs.YtgmlbjfgfmfliaaGreatDoor
namespace Go.Proofs.YtgmlbjfgfmfliaaGreatDoor
open Go Go.RowKit Go.Shelf
theorem selT_mk (k : Int) (a n o : Bs) {xs ds ss : List (List CT)} (hx : RowP ArgT xs) (hd : RowP DirT ds) (hs : RowP SelT ss) : SelT (selC k a n o xs ds ss):=.mk k a n o xs ds ss hx hd hs.1 hs.2
theorem withS_reads {st : List Tok → Rs (List (List CT))} (h : Reads (RowP SelT) st) : Reads (RowP SelT) (withS st):=reads_if (c:=isP [123]) h (reads_ok (rowP_nil _))
theorem fieldS_reads {st : List Tok → Rs (List (List CT))} (hk : Keeps st) (h : Reads (RowP SelT) st) : Reads SelT (fieldS st):=(reads_true nickS).go nickS_eats.keeps fun _ _ => (argsS_reads false).go (argsS_keeps false) fun _ hx => (dirsS_reads false).go (dirsS_keeps false) fun _ hd => (withS_reads h).go (withS_keeps hk) fun _ hs => reads_ok (selT_mk _ _ _ _ hx hd hs)
theorem spreadS_reads : Reads SelT spreadS:=(reads_true nameS).go nameS_eats.keeps fun _ _ => (dirsS_reads false).go (dirsS_keeps false) fun _ hd => reads_ok (selT_mk _ _ _ _ (rowP_nil _) hd (rowP_nil _))
theorem inlineS_reads {st : List Tok → Rs (List (List CT))} (h : Reads (RowP SelT) st) (hk : Keeps st) : Reads SelT (inlineS st):=(reads_true onS).go onS_keeps fun _ _ => (dirsS_reads false).go (dirsS_keeps false) fun _ hd => h.go hk fun _ hs => reads_ok (selT_mk _ _ _ _ (rowP_nil _) hd hs)
theorem selS_reads {st : List Tok → Rs (List (List CT))} (h : Reads (RowP SelT) st) (hk : Keeps st) : Reads SelT (selS st):=by
 intro l a m hl e
 have ht : l.tail.length ≤ 1099511627776:=by rw [List.length_tail];omega
 unfold selS at e
 split at e
 ·split at e
  ·exact spreadS_reads _ _ _ ht e
  ·exact inlineS_reads h hk _ _ _ ht e
 ·exact fieldS_reads hk h _ _ _ hl e
theorem setG_reads {inner : Option (List Tok → Rs (List (List CT)))} (hk : ∀ f,inner = some f → Eats f) (hi : ∀ f,inner = some f → Reads (RowP SelT) f) : Reads (RowP SelT) (setG inner):=by
 intro l a m hl e
 have ht : l.tail.length ≤ 1099511627776:=by rw [List.length_tail];omega
 unfold setG at e
 split at e
 ·cases inner with
  | none => cases e
  | some st => exact someS_reads (selS_eats (hk st rfl).keeps) (selS_reads (hi st rfl) (hk st rfl).keeps) _ _ _ ht e
 ·cases e
theorem setF_reads : ∀ n,Reads (RowP SelT) (setF n)
 | 0 => setG_reads (fun f h => by cases h) (fun f h => by cases h)
 | n + 1 => setG_reads (fun f h => by cases h;exact setF_eats n) (fun f h => by cases h;exact setF_reads n)
/-- A tree that is an operation's. -/
def OpT (cs : List CT) : Prop:=∃ k t vs ds ss,cs = opC k t vs ds ss ∧ RowP VarT vs ∧ RowP DirT ds ∧ RowP SelT ss
/-- A tree that is a fragment's. -/
def FragT (cs : List CT) : Prop:=∃ t u ds ss,cs = fragC t u ds ss ∧ RowP DirT ds ∧ RowP SelT ss
theorem opS_reads : Reads OpT opS:=reads_if (c:=isP [123]) ((setF_reads 32).go (setF_eats 32).keeps fun _ hs => reads_ok ⟨_,_,_,_,_,rfl,rowP_nil _,rowP_nil _,hs⟩) ((reads_true kindS).go kindS_eats.keeps fun _ _ => (reads_true titleS).go titleS_keeps fun _ _ => varsS_reads.go varsS_keeps fun _ hv => (dirsS_reads false).go (dirsS_keeps false) fun _ hd => (setF_reads 32).go (setF_eats 32).keeps fun _ hs => reads_ok ⟨_,_,_,_,_,rfl,hv,hd,hs⟩)
theorem fragS_reads : Reads FragT fragS:=(reads_true notOn).go notOn_keeps fun _ _ => (reads_true nameS).go nameS_eats.keeps fun _ _ => (reads_true (mustW _)).go (mustW_eats _).keeps fun _ _ => (reads_true nameS).go nameS_eats.keeps fun _ _ => (dirsS_reads false).go (dirsS_keeps false) fun _ hd => (setF_reads 32).go (setF_eats 32).keeps fun _ hs => reads_ok ⟨_,_,_,_,rfl,hd,hs⟩
/-- A tree that is an operation's or a fragment's. -/
def ItemT (x : Bool × List CT) : Prop:=if x.1 then FragT x.2 else OpT x.2
theorem itemS_reads : Reads ItemT itemS:=reads_if (c:=isW fragB) (reads_tail (f:=fun l => (fragS l).go fun x l1 => .ok ((true,x),l1)) (fragS_reads.go fragS_eats.keeps fun _ h => reads_ok h)) (opS_reads.go opS_eats.keeps fun _ h => reads_ok h)
end Go.Proofs.YtgmlbjfgfmfliaaGreatDoor
