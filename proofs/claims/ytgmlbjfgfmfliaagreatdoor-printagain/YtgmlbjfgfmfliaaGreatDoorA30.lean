/- Are two values the same? The document's SameValue at equal trees. -/
import Derived.Test.YtgmlbjfgfmfliaaGreatDoorA17
namespace Go.Proofs.YtgmlbjfgfmfliaaGreatDoor
open Go Go.RowKit Go.Shelf
/-- A row of things in memory: the i-th one's cells, wherever the row begins. -/
theorem brow_cells {w : World} {D : Nat → Prop} {E sz : Nat} {els : List (List CT)} {u : Value} (hD : ∀ k,D k → k < w.heap.size) (h : Bt w D (rowC E sz els) u) (hl : ∀ e ∈ els,e.length = sz) : ∃ o cp,u = .slice o els.length cp ∧ (els ≠ [] → ∃ q ob,o = some ⟨q,ob,none⟩ ∧ q < w.heap.size ∧ ∀ (i j : Nat) e y,els[i]? = some e → e[j]? = some y → ∃ x,w.cell? ⟨q,ob + i * sz + j,none⟩ = some x ∧ Bt w D y x):=by
 generalize hC : rowC E sz els = C at h
 cases h with
 | lf v => cases hC
 | @row E' sz' n b o cp a ys us hn hll ha hc hy =>
  simp only [rowC,CT.rw.injEq] at hC
  obtain ⟨_,rfl,rfl,rfl⟩:=hC
  refine ⟨a,cp,rfl,fun hne => ?_⟩
  have h0 : els.length ≠ 0:=fun e => hne (List.length_eq_zero_iff.1 e)
  obtain ⟨h1,h2⟩:=ha h0
  refine ⟨b,o,h1,hD b h2,fun i j e y he hy2 => ?_⟩
  have hf:=flat_at els hl i j e y he hy2
  have hj : i * sz + j < els.length * sz:=by
   rw [← hll]
   exact (List.getElem?_eq_some_iff.1 hf).1
  exact ⟨_,by rw [Nat.add_assoc];exact hc _ hj,hy _ _ hf⟩
theorem Bt.rowInv {w : World} {D : Nat → Prop} {E sz : Nat} {els : List (List CT)} {u : Value} (h : Bt w D (rowC E sz els) u) : ∃ o cp,u = .slice o els.length cp ∧ True:=by
 generalize hC : rowC E sz els = C at h
 cases h with
 | lf v => cases hC
 | row us hn hll ha hc hy =>
  simp only [rowC,CT.rw.injEq] at hC
  obtain ⟨_,_,e,_⟩:=hC
  exact ⟨_,_,by rw [e],trivial⟩
end Go.Proofs.YtgmlbjfgfmfliaaGreatDoor
namespace Go.Proofs.YtgmlbjfgfmfliaaGreatDoor
open Go Go.RowKit Go.Shelf
theorem bts4 {w : World} {D : Nat → Prop} {a b c d : CT} {us : List Value} (h : Bts w D [a,b,c,d] us) : ∃ x y z t,us = [x,y,z,t] ∧ Bt w D a x ∧ Bt w D b y ∧ Bt w D c z ∧ Bt w D d t:=by
 have hl:=h.len
 match us,hl with
 | [x,y,z,t],_ => exact ⟨x,y,z,t,rfl,h.all 0 _ _ rfl rfl,h.all 1 _ _ rfl rfl,h.all 2 _ _ rfl rfl,h.all 3 _ _ rfl rfl⟩
theorem bts_mk {w : World} {D : Nat → Prop} {a b c d : CT} {x y z t : Value} (h0 : Bt w D a x) (h1 : Bt w D b y) (h2 : Bt w D c z) (h3 : Bt w D d t) : Bts w D [a,b,c,d] [x,y,z,t]:=⟨rfl,fun i p q hp hq => by
 match i with
 | 0 => cases hp;cases hq;exact h0
 | 1 => cases hp;cases hq;exact h1
 | 2 => cases hp;cases hq;exact h2
 | 3 => cases hp;cases hq;exact h3
 | _ + 4 => simp at hp⟩
theorem Bt.under {w w' : World} {D : Nat → Prop} {y : CT} {u : Value} (h : Bt w D y u) (hb : Below w.heap.size w w') (hD : ∀ k,D k → k < w.heap.size) : Bt w' D y u:=h.keep (fun k hk => hb.block k (hD k hk))
theorem Bts.under {w w' : World} {D : Nat → Prop} {ys : List CT} {us : List Value} (h : Bts w D ys us) (hb : Below w.heap.size w w') (hD : ∀ k,D k → k < w.heap.size) : Bts w' D ys us:=h.keep (fun k hk => hb.block k (hD k hk))
/-- The two blocks that SameValue puts its arguments into. -/
abbrev boxV (k : Int) (t : ByteArray) (o : Option Addr) (n c : Nat) (o' : Option Addr) (n' c' : Nat) : Obj:=.cells #[.int .i64 k,.string t,.slice o n c,.slice o' n' c'] 35
/-- Two trees that are the same are told to be the same by the function f. -/
def SameP (f : FuncId) (cs : List CT) : Prop:=∀ (w : World) (D D' : Nat → Prop) (us vs : List Value),(∀ k,D k → k < w.heap.size) → (∀ k,D' k → k < w.heap.size) → Bts w D cs us → Bts w D' cs vs → Calls Tryz.prog f #[.agg us.toArray,.agg vs.toArray] w fun e w' => e = .returned (.bool true) ∧ Below w.heap.size w w'
theorem two_fst (w : World) (c d : Array Value) (E F j n : Nat) (x : Value) (h : c[j]? = some x) : World.cell? (World.drewN ((w.alloc (.cells c E (0,0))).alloc (.cells d F (0,0))) n) ⟨w.heap.size,j,none⟩ = some x:=by
 have : (World.drewN ((w.alloc (.cells c E (0,0))).alloc (.cells d F (0,0))) n).heap[w.heap.size]? = some (.cells c E (0,0)):=by
  show ((w.heap.push _).push _)[w.heap.size]? = _
  rw [Array.getElem?_push,if_neg (by rw [Array.size_push];omega),Array.getElem?_push,if_pos rfl]
 unfold World.cell?
 rw [this]
 exact h
theorem two_snd (w : World) (c d : Array Value) (E F j n : Nat) (x : Value) (h : d[j]? = some x) : World.cell? (World.drewN ((w.alloc (.cells c E (0,0))).alloc (.cells d F (0,0))) n) ⟨w.heap.size + 1,j,none⟩ = some x:=by
 have : (World.drewN ((w.alloc (.cells c E (0,0))).alloc (.cells d F (0,0))) n).heap[w.heap.size + 1]? = some (.cells d F (0,0)):=by
  show ((w.heap.push _).push _)[w.heap.size + 1]? = _
  rw [Array.getElem?_push,if_pos (by rw [Array.size_push])]
 unfold World.cell?
 rw [this]
 exact h
theorem al2s (w : World) (o o' : Obj) : Below w.heap.size w ((w.alloc o).alloc o'):=(al1 w o).alloc (by simp) _
set_option maxRecDepth 100000 in
set_option maxHeartbeats 2000000 in
theorem value_step (k : Int) (t : Bs) (els : List (List CT)) (ns : List Bs) (h4 : ∀ e ∈ els,e.length = 4) (hn : ns.length ≤ 1099511627776) (he : els.length ≤ 1099511627776) (ih : ∀ e ∈ els,SameP 69 e) : SameP 69 (valC k t els (ns.map fun s => [sC s])):=by
 intro w D D' us vs hD hD' hu hv
 obtain ⟨_,_,_,_,rfl,a0,a1,a2,a3⟩:=bts4 hu
 obtain ⟨_,_,_,_,rfl,b0,b1,b2,b3⟩:=bts4 hv
 cases a0;cases a1;cases b0;cases b1
 obtain ⟨o,cp,rfl,hr⟩:=brow_cells hD a2 h4
 obtain ⟨o',cp',rfl,hr'⟩:=brow_cells hD' b2 h4
 obtain ⟨p,dp,rfl,hs⟩:=brow_cells hD a3 (sz:=1) (by simp)
 obtain ⟨p',dp',rfl,hs'⟩:=brow_cells hD' b3 (sz:=1) (by simp)
 have hml : (ns.map fun s => [sC s]).length = ns.length:=by simp
 rw [hml]
 go_enter Tryz.func69,Tryz.ntmps69
 have hW : Below w.heap.size w ((w.alloc (boxV k ⟨t.toArray⟩ o els.length cp p ns.length dp)).alloc (boxV k ⟨t.toArray⟩ o' els.length cp' p' ns.length dp')):=al2s _ _ _
 clear hu hv a2 b2 a3 b3
 go_wp2
 go_loopw [5] (fun i wr => ∃ j n : Nat,j ≤ ns.length ∧ i = .int .i64 j ∧ wr = World.drewN ((w.alloc (boxV k ⟨t.toArray⟩ o els.length cp p ns.length dp)).alloc (boxV k ⟨t.toArray⟩ o' els.length cp' p' ns.length dp')) n) (fun i _ => ns.length - (intOf i).toNat)
 case atStart => exact ⟨0,0,Nat.zero_le _,rfl,rfl⟩
 case round =>
  obtain ⟨j,n,hj,rfl,rfl⟩:=hrel
  by_cases hlt : j < ns.length
  ·obtain ⟨q,ob,rfl,hq,hc⟩:=hs (by intro e;rw [List.map_eq_nil_iff.1 e] at hlt;simp at hlt)
   obtain ⟨q',ob',rfl,hq',hc'⟩:=hs' (by intro e;rw [List.map_eq_nil_iff.1 e] at hlt;simp at hlt)
   obtain ⟨x,hx,hx'⟩:=hc j 0 [sC ns[j]] (sC ns[j]) (by simp [hlt]) rfl
   obtain ⟨y,hy,hy'⟩:=hc' j 0 [sC ns[j]] (sC ns[j]) (by simp [hlt]) rfl
   cases hx';cases hy'
   rw [Nat.mul_one,Nat.add_zero] at hx hy
   generalize ns[j] = s at *
   clear hc hc'
   have gx:=(hW.cell (p:=⟨q,ob + j,none⟩) hq).trans hx
   have gy:=(hW.cell (p:=⟨q',ob' + j,none⟩) hq').trans hy
   go_wp2
   go_quiet (fail)
   go_wp2
   go_roundw
   case rel => exact ⟨j + 1,_,by omega,by go_num,rfl⟩
   case measure => simp [intOf];omega
  ·clear hs hs'
   go_wp2
   have hW1:=below_drewN hW n
   have c1 : World.cell? (World.drewN ((w.alloc (boxV k ⟨t.toArray⟩ o els.length cp p ns.length dp)).alloc (boxV k ⟨t.toArray⟩ o' els.length cp' p' ns.length dp')) n) ⟨w.heap.size,2,none⟩ = some (.slice o els.length cp):=two_fst _ _ _ _ _ _ _ _ rfl
   have c2 : World.cell? (World.drewN ((w.alloc (boxV k ⟨t.toArray⟩ o els.length cp p ns.length dp)).alloc (boxV k ⟨t.toArray⟩ o' els.length cp' p' ns.length dp')) n) ⟨w.heap.size + 1,2,none⟩ = some (.slice o' els.length cp'):=two_snd _ _ _ _ _ _ _ _ rfl
   have hz : (World.drewN ((w.alloc (boxV k ⟨t.toArray⟩ o els.length cp p ns.length dp)).alloc (boxV k ⟨t.toArray⟩ o' els.length cp' p' ns.length dp')) n).heap.size = w.heap.size + 2:=by simp
   generalize World.drewN ((w.alloc (boxV k ⟨t.toArray⟩ o els.length cp p ns.length dp)).alloc (boxV k ⟨t.toArray⟩ o' els.length cp' p' ns.length dp')) _ = V at *
   go_loopw [6] (fun i wr => ∃ j : Nat,j ≤ els.length ∧ i = .int .i64 j ∧ Below (w.heap.size + 2) V wr) (fun i _ => els.length - (intOf i).toNat)
   case atStart => exact ⟨0,Nat.zero_le _,rfl,Below.refl _ _⟩
   case round =>
    obtain ⟨j,hj,rfl,hB⟩:=hrel
    have d1:=(hB.cell (p:=⟨w.heap.size,2,none⟩) (by show w.heap.size < w.heap.size + 2;omega)).trans c1
    have d2:=(hB.cell (p:=⟨w.heap.size + 1,2,none⟩) (by show w.heap.size + 1 < w.heap.size + 2;omega)).trans c2
    have hV:=hW1.trans (hB.mono (by omega))
    by_cases hlt : j < els.length
    ·obtain ⟨q,ob,rfl,hq,hc⟩:=hr (by intro e;rw [e] at hlt;simp at hlt)
     obtain ⟨q',ob',rfl,hq',hc'⟩:=hr' (by intro e;rw [e] at hlt;simp at hlt)
     have hme : els[j] ∈ els:=List.getElem_mem hlt
     have he4:=h4 _ hme
     have IH:=ih _ hme
     have hej:=List.getElem?_eq_getElem hlt
     generalize els[j] = e at *
     match e,he4 with
     | [y0,y1,y2,y3],_ =>
      obtain ⟨x0,g0,A0⟩:=hc j 0 _ y0 hej rfl
      obtain ⟨x1,g1,A1⟩:=hc j 1 _ y1 hej rfl
      obtain ⟨x2,g2,A2⟩:=hc j 2 _ y2 hej rfl
      obtain ⟨x3,g3,A3⟩:=hc j 3 _ y3 hej rfl
      obtain ⟨z0,k0,B0⟩:=hc' j 0 _ y0 hej rfl
      obtain ⟨z1,k1,B1⟩:=hc' j 1 _ y1 hej rfl
      obtain ⟨z2,k2,B2⟩:=hc' j 2 _ y2 hej rfl
      obtain ⟨z3,k3,B3⟩:=hc' j 3 _ y3 hej rfl
      rw [Nat.add_zero] at g0 k0
      have f : ∀ i,wr.cell? ⟨q,i,none⟩ = w.cell? ⟨q,i,none⟩:=fun i => hV.cell (p:=⟨q,i,none⟩) hq
      have f' : ∀ i,wr.cell? ⟨q',i,none⟩ = w.cell? ⟨q',i,none⟩:=fun i => hV.cell (p:=⟨q',i,none⟩) hq'
      rw [← f] at g0 g1 g2 g3
      rw [← f'] at k0 k1 k2 k3
      have U : Bts wr D [y0,y1,y2,y3] [x0,x1,x2,x3]:=(bts_mk A0 A1 A2 A3).under hV hD
      have U' : Bts wr D' [y0,y1,y2,y3] [z0,z1,z2,z3]:=(bts_mk B0 B1 B2 B3).under hV hD'
      have hsz:=hV.size
      have hz2 : w.heap.size + 2 ≤ wr.heap.size:=by have:=hB.size;omega
      have CALL : ∀ m,Calls Tryz.prog 69 #[.agg #[x0,x1,x2,x3],.agg #[z0,z1,z2,z3]] (wr.drewN m) fun e w' => e = .returned (.bool true) ∧ Below wr.heap.size wr w':=fun m =>
       (IH (wr.drewN m) D D' _ _ (fun k hk => Nat.lt_of_lt_of_le (hD k hk) hsz) (fun k hk => Nat.lt_of_lt_of_le (hD' k hk) hsz) (U.keep fun _ _ => rfl) (U'.keep fun _ _ => rfl)).mono fun e w' h => ⟨h.1,⟨h.2.os,h.2.tape,h.2.output,h.2.size,h.2.block⟩⟩
      clear f f' A0 A1 A2 A3 B0 B1 B2 B3 hc hc'
      go_wp2
      go_region_with (go_at_call 69;refine (CALL _).mono ?_;rintro e w1 ⟨rfl,hb1⟩)
      all_goals
       go_wp2
       go_roundw
       case rel => exact ⟨j + 1,by omega,by go_num,hB.trans (hb1.mono hz2)⟩
       case measure => simp [intOf];omega
    ·go_wp2
     go_ret
     exact ⟨rfl,hV⟩
theorem value_same {cs : List CT} (h : ValT cs) : SameP 69 cs:=by
 induction h with
 | mk k t els ns hn he h ih => exact value_step k t els ns (fun e he => (h e he).len) hn he ih
end Go.Proofs.YtgmlbjfgfmfliaaGreatDoor
