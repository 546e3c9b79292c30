/- Are two values the same? Trees that are values'. -/
import Derived.Test.YtgppemlciohjcaaGreatDoorB13
namespace Go.Proofs.YtgppemlciohjcaaGreatDoor
section
open Go Go.RowKit Go.Shelf
inductive ValT : List CT → Prop
 | mk (k : Int) (t : Bs) (els : List (List CT)) (ns : List Bs) (hn : ns.length ≤ 1099511627776) (he : els.length ≤ 1099511627776) (h : ∀ e ∈ els,ValT e) : ValT (valC k t els (ns.map fun s => [sC s]))
theorem ValT.len {cs : List CT} (h : ValT cs) : cs.length = 4:=by cases h;rfl
theorem valT_leaf (k : Int) (t : Bs) : ValT (valC k t [] []):=.mk k t [] [] (by simp) (by simp) (by simp)
theorem namedC_val (t : Bs) : ValT (namedC t):=by
 unfold namedC
 split
 ·exact valT_leaf _ _
 split
 ·exact valT_leaf _ _
 split
 ·exact valT_leaf _ _
 ·exact valT_leaf _ _
def Reads {α : Type} (p : α → Prop) (f : List Tok → Rs α) : Prop:=∀ l a m,l.length ≤ 1099511627776 → f l = .ok (a,m) → p a
theorem reads_true {α : Type} (f : List Tok → Rs α) : Reads (fun _ => True) f:=fun _ _ _ _ _ => trivial
theorem reads_ok {α : Type} {p : α → Prop} {x : α} (h : p x) : Reads p (fun l => .ok (x,l)):=fun l a m _ e => by cases e;exact h
theorem Reads.go {α β : Type} {p : α → Prop} {q : β → Prop} {f : List Tok → Rs α} {g : α → List Tok → Rs β} (hf : Reads p f) (hk : Keeps f) (hg : ∀ a,p a → Reads q (g a)) : Reads q (fun l => (f l).go g):=by
 intro l a m hl e
 obtain ⟨b,l1,h1,h2⟩:=go_ok_inv e
 exact hg b (hf l b l1 hl h1) l1 a m (Nat.le_trans (hk l b l1 h1) hl) h2
theorem reads_if {α : Type} {p : α → Prop} {c : List Tok → Bool} {f g : List Tok → Rs α} (hf : Reads p f) (hg : Reads p g) : Reads p (fun l => if c l then f l else g l):=by
 intro l a m hl e
 simp only at e
 split at e
 ·exact hf l a m hl e
 ·exact hg l a m hl e
theorem reads_tail {α : Type} {p : α → Prop} {f : List Tok → Rs α} (hf : Reads p f) : Reads p (fun l => f l.tail):=fun l a m hl e => hf l.tail a m (by rw [List.length_tail];omega) e
def RowP {α : Type} (p : α → Prop) (b : List α) : Prop:=b.length ≤ 1099511627776 ∧ ∀ x ∈ b,p x
theorem anyF_reads {α : Type} {f : List Tok → Rs α} {last : Bs} {p : α → Prop} (hk : Eats f) (hf : Reads p f) : ∀ (k : Nat) (l : List Tok) (b : List α) (m : List Tok),l.length ≤ 1099511627776 → anyF f last k l = .ok (b,m) → b.length ≤ l.length ∧ ∀ x ∈ b,p x
 | 0,_,_,_,_,h => by cases h
 | k + 1,l,b,m,hl,h => by
  unfold anyF at h
  split at h
  ·cases h;simp
  ·obtain ⟨a,l1,h1,h2⟩:=go_ok_inv h
   obtain ⟨c,l2,h3,h4⟩:=go_ok_inv h2
   cases h4
   have hlt:=hk _ _ _ h1
   obtain ⟨i1,i2⟩:=anyF_reads hk hf k _ _ _ (by omega) h3
   refine ⟨by rw [List.length_cons];omega,fun x hx => ?_⟩
   rcases List.mem_cons.1 hx with rfl | hx
   ·exact hf _ _ _ hl h1
   ·exact i2 x hx
theorem anyS_reads {α : Type} {f : List Tok → Rs α} {last : Bs} {p : α → Prop} (hk : Eats f) (hf : Reads p f) : Reads (RowP p) (anyS f last):=fun l b m hl h => by
 obtain ⟨h1,h2⟩:=anyF_reads hk hf _ _ _ _ hl h
 exact ⟨by omega,h2⟩
theorem someS_reads {α : Type} {f : List Tok → Rs α} {last : Bs} {p : α → Prop} (hk : Eats f) (hf : Reads p f) : Reads (RowP p) (someS f last):=fun l b m hl h => by
 obtain ⟨a,l1,h1,h2⟩:=go_ok_inv h
 obtain ⟨c,l2,h3,h4⟩:=go_ok_inv h2
 cases h4
 have hlt:=hk _ _ _ h1
 obtain ⟨i1,i2⟩:=anyF_reads hk hf _ _ _ _ (by omega) h3
 refine ⟨by rw [List.length_cons];omega,fun x hx => ?_⟩
 rcases List.mem_cons.1 hx with rfl | hx
 ·exact hf _ _ _ hl h1
 ·exact i2 x hx
theorem ledF_reads {α : Type} {f : List Tok → Rs α} {first : Bs} {p : α → Prop} (hk : Keeps f) (hf : Reads p f) : ∀ (k : Nat) (l : List Tok) (b : List α) (m : List Tok),l.length ≤ 1099511627776 → ledF f first k l = .ok (b,m) → b.length ≤ l.length ∧ ∀ x ∈ b,p x
 | 0,_,_,_,_,h => by cases h
 | k + 1,l,b,m,hl,h => by
  unfold ledF at h
  split at h
  ·rename_i hp
   obtain ⟨a,l1,h1,h2⟩:=go_ok_inv h
   obtain ⟨c,l2,h3,h4⟩:=go_ok_inv h2
   cases h4
   have h0 : 0 < l.length:=by
    cases l with
    | nil => cases hp
    | cons => simp
   have hlt:=hk _ _ _ h1
   rw [List.length_tail] at hlt
   obtain ⟨i1,i2⟩:=ledF_reads hk hf k _ _ _ (by omega) h3
   refine ⟨by rw [List.length_cons];omega,fun x hx => ?_⟩
   rcases List.mem_cons.1 hx with rfl | hx
   ·exact hf _ _ _ (by rw [List.length_tail];omega) h1
   ·exact i2 x hx
  ·cases h;simp
theorem ledS_reads {α : Type} {f : List Tok → Rs α} {first : Bs} {p : α → Prop} (hk : Keeps f) (hf : Reads p f) : Reads (RowP p) (ledS f first):=fun l b m hl h => by
 obtain ⟨h1,h2⟩:=ledF_reads hk hf _ _ _ _ hl h
 exact ⟨by omega,h2⟩
theorem memS_reads {f : List Tok → Rs (List CT)} {p : List CT → Prop} (hf : Reads p f) : Reads (fun x => p x.2) (memS f) :=
 (reads_true nameS).go nameS_eats.keeps fun _ _ => (reads_true (mustS _)).go (mustS_eats _).keeps fun _ _ => fun l a m hl e => by
  obtain ⟨v,l1,h1,h2⟩:=go_ok_inv e
  cases h2
  exact hf _ _ _ hl h1
theorem valG_reads {fx : Bool} {inner : Option (List Tok → Rs (List CT))} (hk : ∀ f,inner = some f → Eats f) (hi : ∀ f,inner = some f → Reads ValT f) : Reads ValT (valG fx inner):=by
 intro l a m hl h
 unfold valG at h
 split at h
 ·cases h;exact namedC_val _
 split at h
 ·cases h;exact valT_leaf _ _
 split at h
 ·cases h;exact valT_leaf _ _
 split at h
 ·cases h;exact valT_leaf _ _
 have ht : l.tail.length ≤ 1099511627776:=by rw [List.length_tail];omega
 unfold signS at h
 split at h
 ·cases inner with
  | none => cases h
  | some f =>
   rw [listS_some] at h
   obtain ⟨b,l1,h1,h2⟩:=go_ok_inv h
   cases h2
   obtain ⟨i1,i2⟩:=anyS_reads (hk f rfl) (hi f rfl) _ _ _ ht h1
   exact .mk 8 [] b [] (by simp) i1 i2
 split at h
 ·cases inner with
  | none => cases h
  | some f =>
   rw [objS_some] at h
   obtain ⟨b,l1,h1,h2⟩:=go_ok_inv h
   cases h2
   obtain ⟨i1,i2⟩:=anyS_reads (memS_eats (hk f rfl).keeps) (memS_reads (hi f rfl)) _ _ _ ht h1
   have:=ValT.mk 9 [] (b.map (·.2)) (b.map (·.1)) (by simpa using i1) (by simpa using i1) (by
    intro e he
    obtain ⟨x,hx,rfl⟩:=List.mem_map.1 he
    exact i2 x hx)
   rw [List.map_map] at this
   exact this
 split at h
 ·cases h
 ·obtain ⟨t,l1,h1,h2⟩:=go_ok_inv h
  cases h2
  exact valT_leaf _ _
theorem valF_reads (fx : Bool) : ∀ n,Reads ValT (valF fx n)
 | 0 => valG_reads (fun f h => by cases h) (fun f h => by cases h)
 | n + 1 => valG_reads (fun f h => by cases h;exact valF_eats fx n) (fun f h => by cases h;exact valF_reads fx n)
theorem flat_at {sz : Nat} : ∀ (els : List (List CT)),(∀ e ∈ els,e.length = sz) → ∀ (i j : Nat) (e : List CT) (y : CT),els[i]? = some e → e[j]? = some y → els.flatten[i * sz + j]? = some y
 | [],_,_,_,_,_,h,_ => by simp at h
 | a :: els,hl,0,j,e,y,h,hy => by
  simp at h
  subst h
  have hj : j < a.length:=(List.getElem?_eq_some_iff.1 hy).1
  rw [List.flatten_cons,Nat.zero_mul,Nat.zero_add,List.getElem?_append_left hj]
  exact hy
 | a :: els,hl,i + 1,j,e,y,h,hy => by
  have ih:=flat_at els (fun x hx => hl x (List.mem_cons_of_mem _ hx)) i j e y (by simpa using h) hy
  have ha : a.length = sz:=hl a (List.mem_cons_self ..)
  have e1 : (i + 1) * sz + j = sz + (i * sz + j):=by rw [Nat.add_mul];omega
  rw [List.flatten_cons,e1,List.getElem?_append_right (by omega),ha,Nat.add_sub_cancel_left]
  exact ih
theorem row_at {w : World} {D : Nat → Prop} {E sz : Nat} {els : List (List CT)} {u : Value} (h : At w D (rowC E sz els) u) (hl : ∀ e ∈ els,e.length = sz) : ∃ o cp,u = .slice o els.length cp ∧ (els ≠ [] → ∃ q,o = some ⟨q,0,none⟩ ∧ q < w.heap.size ∧ ∀ (i j : Nat) e y,els[i]? = some e → e[j]? = some y → ∃ x,w.cell? ⟨q,i * sz + j,none⟩ = some x ∧ At w D y x):=by
 obtain ⟨o,cp,rfl,hr⟩:=h.rowInv
 refine ⟨o,cp,rfl,fun hne => ?_⟩
 obtain ⟨q,cur,rfl,_,hb,_,_,_,hc⟩:=hr (List.length_pos_iff.2 hne)
 exact ⟨q,rfl,lt_of_block hb,fun i j e y he hy => hc _ y (flat_at els hl i j e y he hy)⟩
end
section
open Go Go.RowKit Go.Shelf
theorem ats4 {w : World} {D : Nat → Prop} {a b c d : CT} {us : List Value} (h : Ats w D [a,b,c,d] us) : ∃ x y z t,us = [x,y,z,t] ∧ At w D a x ∧ At w D b y ∧ At w D c z ∧ At w D d t:=by
 have hl:=h.len
 match us,hl with
 | [x,y,z,t],_ => exact ⟨x,y,z,t,rfl,h.all 0 _ _ rfl rfl,h.all 1 _ _ rfl rfl,h.all 2 _ _ rfl rfl,h.all 3 _ _ rfl rfl⟩
theorem ats_mk {w : World} {D : Nat → Prop} {a b c d : CT} {x y z t : Value} (h0 : At w D a x) (h1 : At w D b y) (h2 : At w D c z) (h3 : At w D d t) : Ats w D [a,b,c,d] [x,y,z,t]:=⟨rfl,fun i p q hp hq => by
 match i with
 | 0 => cases hp;cases hq;exact h0
 | 1 => cases hp;cases hq;exact h1
 | 2 => cases hp;cases hq;exact h2
 | 3 => cases hp;cases hq;exact h3
 | _ + 4 => simp at hp⟩
theorem At.under {w w' : World} {D : Nat → Prop} {y : CT} {u : Value} (h : At w D y u) (hb : Below w.heap.size w w') (hD : ∀ k,D k → k < w.heap.size) : At w' D y u:=h.keep (fun k hk => hb.block k (hD k hk))
theorem Ats.under {w w' : World} {D : Nat → Prop} {ys : List CT} {us : List Value} (h : Ats w D ys us) (hb : Below w.heap.size w w') (hD : ∀ k,D k → k < w.heap.size) : Ats w' D ys us:=h.keep (fun k hk => hb.block k (hD k hk))
abbrev boxV (k : Int) (t : ByteArray) (o : Option Addr) (n c : Nat) (o' : Option Addr) (n' c' : Nat) : Obj:=.cells #[.int .i64 k,.string t,.slice o n c,.slice o' n' c'] 70
def SameP (f : FuncId) (cs : List CT) : Prop:=∀ (w : World) (D D' : Nat → Prop) (us vs : List Value),(∀ k,D k → k < w.heap.size) → (∀ k,D' k → k < w.heap.size) → Ats w D cs us → Ats w D' cs vs → Calls Tryz.prog f #[.agg us.toArray,.agg vs.toArray] w fun e w' => e = .returned (.bool true) ∧ Below w.heap.size w w'
theorem two_fst (w : World) (c d : Array Value) (E F j n : Nat) (x : Value) (h : c[j]? = some x) : World.cell? (World.drewN ((w.alloc (.cells c E (0,0))).alloc (.cells d F (0,0))) n) ⟨w.heap.size,j,none⟩ = some x:=by
 have : (World.drewN ((w.alloc (.cells c E (0,0))).alloc (.cells d F (0,0))) n).heap[w.heap.size]? = some (.cells c E (0,0)):=by
  show ((w.heap.push _).push _)[w.heap.size]? = _
  rw [Array.getElem?_push,if_neg (by rw [Array.size_push];omega),Array.getElem?_push,if_pos rfl]
 unfold World.cell?
 rw [this]
 exact h
theorem two_snd (w : World) (c d : Array Value) (E F j n : Nat) (x : Value) (h : d[j]? = some x) : World.cell? (World.drewN ((w.alloc (.cells c E (0,0))).alloc (.cells d F (0,0))) n) ⟨w.heap.size + 1,j,none⟩ = some x:=by
 have : (World.drewN ((w.alloc (.cells c E (0,0))).alloc (.cells d F (0,0))) n).heap[w.heap.size + 1]? = some (.cells d F (0,0)):=by
  show ((w.heap.push _).push _)[w.heap.size + 1]? = _
  rw [Array.getElem?_push,if_pos (by rw [Array.size_push])]
 unfold World.cell?
 rw [this]
 exact h
theorem al2s (w : World) (o o' : Obj) : Below w.heap.size w ((w.alloc o).alloc o'):=(al1 w o).alloc (by simp) _
set_option maxRecDepth 100000 in
set_option maxHeartbeats 2000000 in
theorem value_step (k : Int) (t : Bs) (els : List (List CT)) (ns : List Bs) (h4 : ∀ e ∈ els,e.length = 4) (hn : ns.length ≤ 1099511627776) (he : els.length ≤ 1099511627776) (ih : ∀ e ∈ els,SameP 47 e) : SameP 47 (valC k t els (ns.map fun s => [sC s])):=by
 intro w D D' us vs hD hD' hu hv
 obtain ⟨_,_,_,_,rfl,a0,a1,a2,a3⟩:=ats4 hu
 obtain ⟨_,_,_,_,rfl,b0,b1,b2,b3⟩:=ats4 hv
 cases a0;cases a1;cases b0;cases b1
 obtain ⟨o,cp,rfl,hr⟩:=row_at a2 h4
 obtain ⟨o',cp',rfl,hr'⟩:=row_at b2 h4
 obtain ⟨p,dp,rfl,hs⟩:=row_at a3 (sz:=1) (by simp)
 obtain ⟨p',dp',rfl,hs'⟩:=row_at b3 (sz:=1) (by simp)
 have hml : (ns.map fun s => [sC s]).length = ns.length:=by simp
 rw [hml]
 go_enter Tryz.func47,Tryz.ntmps47
 have hW : Below w.heap.size w ((w.alloc (boxV k ⟨t.toArray⟩ o els.length cp p ns.length dp)).alloc (boxV k ⟨t.toArray⟩ o' els.length cp' p' ns.length dp')):=al2s _ _ _
 clear hu hv a2 b2 a3 b3
 go_wp2
 go_loopw [5] (fun i wr => ∃ j n : Nat,j ≤ ns.length ∧ i = .int .i64 j ∧ wr = World.drewN ((w.alloc (boxV k ⟨t.toArray⟩ o els.length cp p ns.length dp)).alloc (boxV k ⟨t.toArray⟩ o' els.length cp' p' ns.length dp')) n) (fun i _ => ns.length - (intOf i).toNat)
 case atStart => exact ⟨0,0,Nat.zero_le _,rfl,rfl⟩
 case round =>
  obtain ⟨j,n,hj,rfl,rfl⟩:=hrel
  by_cases hlt : j < ns.length
  ·obtain ⟨q,rfl,hq,hc⟩:=hs (by intro e;rw [List.map_eq_nil_iff.1 e] at hlt;simp at hlt)
   obtain ⟨q',rfl,hq',hc'⟩:=hs' (by intro e;rw [List.map_eq_nil_iff.1 e] at hlt;simp at hlt)
   obtain ⟨x,hx,hx'⟩:=hc j 0 [sC ns[j]] (sC ns[j]) (by simp [hlt]) rfl
   obtain ⟨y,hy,hy'⟩:=hc' j 0 [sC ns[j]] (sC ns[j]) (by simp [hlt]) rfl
   cases hx';cases hy'
   rw [Nat.mul_one,Nat.add_zero] at hx hy
   generalize ns[j] = s at *
   clear hc hc'
   have gx:=(hW.cell (p:=⟨q,j,none⟩) hq).trans hx
   have gy:=(hW.cell (p:=⟨q',j,none⟩) hq').trans hy
   go_wp2
   go_quiet (fail)
   go_wp2
   go_roundw
   case rel => exact ⟨j + 1,_,by omega,by go_num,rfl⟩
   case measure => simp [intOf];omega
  ·clear hs hs'
   go_wp2
   have hW1:=below_drewN hW n
   have c1 : World.cell? (World.drewN ((w.alloc (boxV k ⟨t.toArray⟩ o els.length cp p ns.length dp)).alloc (boxV k ⟨t.toArray⟩ o' els.length cp' p' ns.length dp')) n) ⟨w.heap.size,2,none⟩ = some (.slice o els.length cp):=two_fst _ _ _ _ _ _ _ _ rfl
   have c2 : World.cell? (World.drewN ((w.alloc (boxV k ⟨t.toArray⟩ o els.length cp p ns.length dp)).alloc (boxV k ⟨t.toArray⟩ o' els.length cp' p' ns.length dp')) n) ⟨w.heap.size + 1,2,none⟩ = some (.slice o' els.length cp'):=two_snd _ _ _ _ _ _ _ _ rfl
   have hz : (World.drewN ((w.alloc (boxV k ⟨t.toArray⟩ o els.length cp p ns.length dp)).alloc (boxV k ⟨t.toArray⟩ o' els.length cp' p' ns.length dp')) n).heap.size = w.heap.size + 2:=by simp
   generalize World.drewN ((w.alloc (boxV k ⟨t.toArray⟩ o els.length cp p ns.length dp)).alloc (boxV k ⟨t.toArray⟩ o' els.length cp' p' ns.length dp')) _ = V at *
   go_loopw [6] (fun i wr => ∃ j : Nat,j ≤ els.length ∧ i = .int .i64 j ∧ Below (w.heap.size + 2) V wr) (fun i _ => els.length - (intOf i).toNat)
   case atStart => exact ⟨0,Nat.zero_le _,rfl,Below.refl _ _⟩
   case round =>
    obtain ⟨j,hj,rfl,hB⟩:=hrel
    have d1:=(hB.cell (p:=⟨w.heap.size,2,none⟩) (by show w.heap.size < w.heap.size + 2;omega)).trans c1
    have d2:=(hB.cell (p:=⟨w.heap.size + 1,2,none⟩) (by show w.heap.size + 1 < w.heap.size + 2;omega)).trans c2
    have hV:=hW1.trans (hB.mono (by omega))
    by_cases hlt : j < els.length
    ·obtain ⟨q,rfl,hq,hc⟩:=hr (by intro e;rw [e] at hlt;simp at hlt)
     obtain ⟨q',rfl,hq',hc'⟩:=hr' (by intro e;rw [e] at hlt;simp at hlt)
     have hme : els[j] ∈ els:=List.getElem_mem hlt
     have he4:=h4 _ hme
     have IH:=ih _ hme
     have hej:=List.getElem?_eq_getElem hlt
     generalize els[j] = e at *
     match e,he4 with
     | [y0,y1,y2,y3],_ =>
      obtain ⟨x0,g0,A0⟩:=hc j 0 _ y0 hej rfl
      obtain ⟨x1,g1,A1⟩:=hc j 1 _ y1 hej rfl
      obtain ⟨x2,g2,A2⟩:=hc j 2 _ y2 hej rfl
      obtain ⟨x3,g3,A3⟩:=hc j 3 _ y3 hej rfl
      obtain ⟨z0,k0,B0⟩:=hc' j 0 _ y0 hej rfl
      obtain ⟨z1,k1,B1⟩:=hc' j 1 _ y1 hej rfl
      obtain ⟨z2,k2,B2⟩:=hc' j 2 _ y2 hej rfl
      obtain ⟨z3,k3,B3⟩:=hc' j 3 _ y3 hej rfl
      rw [Nat.add_zero] at g0 k0
      have f : ∀ i,wr.cell? ⟨q,i,none⟩ = w.cell? ⟨q,i,none⟩:=fun i => hV.cell (p:=⟨q,i,none⟩) hq
      have f' : ∀ i,wr.cell? ⟨q',i,none⟩ = w.cell? ⟨q',i,none⟩:=fun i => hV.cell (p:=⟨q',i,none⟩) hq'
      rw [← f] at g0 g1 g2 g3
      rw [← f'] at k0 k1 k2 k3
      have U : Ats wr D [y0,y1,y2,y3] [x0,x1,x2,x3]:=(ats_mk A0 A1 A2 A3).under hV hD
      have U' : Ats wr D' [y0,y1,y2,y3] [z0,z1,z2,z3]:=(ats_mk B0 B1 B2 B3).under hV hD'
      have hsz:=hV.size
      have hz2 : w.heap.size + 2 ≤ wr.heap.size:=by have:=hB.size;omega
      have CALL : ∀ m,Calls Tryz.prog 47 #[.agg #[x0,x1,x2,x3],.agg #[z0,z1,z2,z3]] (wr.drewN m) fun e w' => e = .returned (.bool true) ∧ Below wr.heap.size wr w':=fun m =>
       (IH (wr.drewN m) D D' _ _ (fun k hk => Nat.lt_of_lt_of_le (hD k hk) hsz) (fun k hk => Nat.lt_of_lt_of_le (hD' k hk) hsz) (U.keep fun _ _ => rfl) (U'.keep fun _ _ => rfl)).mono fun e w' h => ⟨h.1,⟨h.2.os,h.2.tape,h.2.output,h.2.size,h.2.block⟩⟩
      clear f f' A0 A1 A2 A3 B0 B1 B2 B3 hc hc'
      go_wp2
      go_region_with (go_at_call 47;refine (CALL _).mono ?_;rintro e w1 ⟨rfl,hb1⟩)
      all_goals
       go_wp2
       go_roundw
       case rel => exact ⟨j + 1,by omega,by go_num,hB.trans (hb1.mono hz2)⟩
       case measure => simp [intOf];omega
    ·go_wp2
     go_ret
     exact ⟨rfl,hV⟩
theorem value_same {cs : List CT} (h : ValT cs) : SameP 47 cs:=by
 induction h with
 | mk k t els ns hn he h ih => exact value_step k t els ns (fun e he => (h e he).len) hn he ih
end
section
open Go Go.RowKit Go.Shelf
def SameR (f : FuncId) (E sz : Nat) (els : List (List CT)) : Prop:=∀ (w : World) (D D' : Nat → Prop) (u v : Value),(∀ k,D k → k < w.heap.size) → (∀ k,D' k → k < w.heap.size) → At w D (rowC E sz els) u → At w D' (rowC E sz els) v → Calls Tryz.prog f #[u,v] w fun e w' => e = .returned (.bool true) ∧ Below w.heap.size w w'
def ArgT (cs : List CT) : Prop:=∃ t v,cs = sC t :: v ∧ ValT v
theorem ArgT.len {cs : List CT} (h : ArgT cs) : cs.length = 5:=by
 obtain ⟨t,v,rfl,hv⟩:=h
 rw [List.length_cons,hv.len]
theorem argS_reads (fx : Bool) : Reads ArgT (argS fx):=(memS_reads (valF_reads fx 32)).go (memS_eats (valF_eats fx 32).keeps).keeps fun _ hm => reads_ok ⟨_,_,rfl,hm⟩
set_option maxRecDepth 100000 in
set_option maxHeartbeats 2000000 in
theorem args_same {els : List (List CT)} (h : RowP ArgT els) : SameR 48 121 5 els:=by
 intro w D D' u v hD hD' hu hv
 obtain ⟨he,hall⟩:=h
 obtain ⟨o,cp,rfl,hr⟩:=row_at hu (fun e he => (hall e he).len)
 obtain ⟨o',cp',rfl,hr'⟩:=row_at hv (fun e he => (hall e he).len)
 clear hu hv
 go_enter Tryz.func48,Tryz.ntmps48
 go_wp2
 go_loopw [5] (fun i wr => ∃ j : Nat,j ≤ els.length ∧ i = .int .i64 j ∧ Below w.heap.size w wr) (fun i _ => els.length - (intOf i).toNat)
 case atStart => exact ⟨0,Nat.zero_le _,rfl,Below.refl _ _⟩
 case round =>
  obtain ⟨j,hj,rfl,hV⟩:=hrel
  by_cases hlt : j < els.length
  ·obtain ⟨q,rfl,hq,hc⟩:=hr (by intro e;rw [e] at hlt;simp at hlt)
   obtain ⟨q',rfl,hq',hc'⟩:=hr' (by intro e;rw [e] at hlt;simp at hlt)
   have hme : els[j] ∈ els:=List.getElem_mem hlt
   have hej:=List.getElem?_eq_getElem hlt
   obtain ⟨t,y,e1,hy⟩:=hall _ hme
   rw [e1] at hej
   clear e1 hme
   have IH:=value_same hy
   have he4:=hy.len
   clear hy
   match y,he4 with
   | [y0,y1,y2,y3],_ =>
    obtain ⟨_,n0,N0⟩:=hc j 0 _ (sC t) hej rfl
    obtain ⟨_,m0,M0⟩:=hc' j 0 _ (sC t) hej rfl
    cases N0;cases M0
    obtain ⟨x0,g0,A0⟩:=hc j 1 _ y0 hej rfl
    obtain ⟨x1,g1,A1⟩:=hc j 2 _ y1 hej rfl
    obtain ⟨x2,g2,A2⟩:=hc j 3 _ y2 hej rfl
    obtain ⟨x3,g3,A3⟩:=hc j 4 _ y3 hej rfl
    obtain ⟨z0,k0,B0⟩:=hc' j 1 _ y0 hej rfl
    obtain ⟨z1,k1,B1⟩:=hc' j 2 _ y1 hej rfl
    obtain ⟨z2,k2,B2⟩:=hc' j 3 _ y2 hej rfl
    obtain ⟨z3,k3,B3⟩:=hc' j 4 _ y3 hej rfl
    rw [Nat.add_zero] at n0 m0
    have f : ∀ i,wr.cell? ⟨q,i,none⟩ = w.cell? ⟨q,i,none⟩:=fun i => hV.cell (p:=⟨q,i,none⟩) hq
    have f' : ∀ i,wr.cell? ⟨q',i,none⟩ = w.cell? ⟨q',i,none⟩:=fun i => hV.cell (p:=⟨q',i,none⟩) hq'
    rw [← f] at g0 g1 g2 g3
    rw [← f'] at k0 k1 k2 k3
    have U : Ats wr D [y0,y1,y2,y3] [x0,x1,x2,x3]:=(ats_mk A0 A1 A2 A3).under hV hD
    have U' : Ats wr D' [y0,y1,y2,y3] [z0,z1,z2,z3]:=(ats_mk B0 B1 B2 B3).under hV hD'
    have hsz:=hV.size
    have CALL : ∀ m,Calls Tryz.prog 47 #[.agg #[x0,x1,x2,x3],.agg #[z0,z1,z2,z3]] (wr.drewN m) fun e w' => e = .returned (.bool true) ∧ Below wr.heap.size wr w':=fun m =>
     (IH (wr.drewN m) D D' _ _ (fun k hk => Nat.lt_of_lt_of_le (hD k hk) hsz) (fun k hk => Nat.lt_of_lt_of_le (hD' k hk) hsz) (U.keep fun _ _ => rfl) (U'.keep fun _ _ => rfl)).mono fun e w' h => ⟨h.1,⟨h.2.os,h.2.tape,h.2.output,h.2.size,h.2.block⟩⟩
    clear f f' A0 A1 A2 A3 B0 B1 B2 B3 hc hc'
    go_wp2
    go_region_with (go_at_call 47;refine (CALL _).mono ?_;rintro e w1 ⟨rfl,hb1⟩)
    all_goals
     have hV1:=hV.trans (hb1.mono hsz)
     have p0:=(hV1.cell (p:=⟨q,j * 5,none⟩) hq).trans n0
     have p1:=(hV1.cell (p:=⟨q',j * 5,none⟩) hq').trans m0
     go_wp2
     go_quiet (fail)
     go_wp2
     go_roundw
     case rel => exact ⟨j + 1,by omega,by go_num,below_drewN hV1 _⟩
     case measure => simp [intOf];omega
  ·go_wp2
   go_ret
   exact ⟨rfl,hV⟩
end
section
open Go Go.RowKit Go.Shelf
def DirT (cs : List CT) : Prop:=∃ t xs,cs = [sC t,rowC 121 5 xs] ∧ RowP ArgT xs
theorem DirT.len {cs : List CT} (h : DirT cs) : cs.length = 2:=by
 obtain ⟨t,v,rfl,_⟩:=h
 rfl
theorem rowP_nil {α : Type} (p : α → Prop) : RowP p []:=⟨by simp,by simp⟩
theorem argsS_reads (fx : Bool) : Reads (RowP ArgT) (argsS fx):=reads_if (reads_tail (someS_reads (argS_eats fx) (argS_reads fx))) (reads_ok (rowP_nil _))
theorem dirS_reads (fx : Bool) : Reads DirT (dirS fx):=(reads_true nameS).go nameS_eats.keeps fun _ _ => (argsS_reads fx).go (argsS_keeps fx) fun _ ha => reads_ok ⟨_,_,rfl,ha⟩
theorem dirsS_reads (fx : Bool) : Reads (RowP DirT) (dirsS fx):=ledS_reads (dirS_eats fx).keeps (dirS_reads fx)
theorem SameR.later {f : FuncId} {E sz : Nat} {els : List (List CT)} (h : SameR f E sz els) {w wr : World} {D D' : Nat → Prop} {u v : Value} (hD : ∀ k,D k → k < w.heap.size) (hD' : ∀ k,D' k → k < w.heap.size) (hu : At w D (rowC E sz els) u) (hv : At w D' (rowC E sz els) v) (hV : Below w.heap.size w wr) (m : Nat) : Calls Tryz.prog f #[u,v] (wr.drewN m) fun e w' => e = .returned (.bool true) ∧ Below wr.heap.size wr w' :=
 (h (wr.drewN m) D D' u v (fun k hk => Nat.lt_of_lt_of_le (hD k hk) hV.size) (fun k hk => Nat.lt_of_lt_of_le (hD' k hk) hV.size) ((hu.under hV hD).keep fun _ _ => rfl) ((hv.under hV hD').keep fun _ _ => rfl)).mono fun _ _ h => ⟨h.1,⟨h.2.os,h.2.tape,h.2.output,h.2.size,h.2.block⟩⟩
set_option maxRecDepth 100000 in
set_option maxHeartbeats 2000000 in
theorem dirs_same {els : List (List CT)} (h : RowP DirT els) : SameR 26 97 2 els:=by
 intro w D D' u v hD hD' hu hv
 obtain ⟨he,hall⟩:=h
 obtain ⟨o,cp,rfl,hr⟩:=row_at hu (fun e he => (hall e he).len)
 obtain ⟨o',cp',rfl,hr'⟩:=row_at hv (fun e he => (hall e he).len)
 clear hu hv
 go_enter Tryz.func26,Tryz.ntmps26
 go_wp2
 go_loopw [5] (fun i wr => ∃ j : Nat,j ≤ els.length ∧ i = .int .i64 j ∧ Below w.heap.size w wr) (fun i _ => els.length - (intOf i).toNat)
 case atStart => exact ⟨0,Nat.zero_le _,rfl,Below.refl _ _⟩
 case round =>
  obtain ⟨j,hj,rfl,hV⟩:=hrel
  by_cases hlt : j < els.length
  ·obtain ⟨q,rfl,hq,hc⟩:=hr (by intro e;rw [e] at hlt;simp at hlt)
   obtain ⟨q',rfl,hq',hc'⟩:=hr' (by intro e;rw [e] at hlt;simp at hlt)
   have hme : els[j] ∈ els:=List.getElem_mem hlt
   have hej:=List.getElem?_eq_getElem hlt
   obtain ⟨t,xs,e1,ha⟩:=hall _ hme
   rw [e1] at hej
   clear e1 hme
   have IH:=args_same ha
   obtain ⟨_,n0,N0⟩:=hc j 0 _ (sC t) hej rfl
   obtain ⟨_,m0,M0⟩:=hc' j 0 _ (sC t) hej rfl
   cases N0;cases M0
   obtain ⟨x,g,A⟩:=hc j 1 _ _ hej rfl
   obtain ⟨z,k,B⟩:=hc' j 1 _ _ hej rfl
   rw [Nat.add_zero] at n0 m0
   have g1:=(hV.cell (p:=⟨q,j * 2 + 1,none⟩) hq).trans g
   have k1:=(hV.cell (p:=⟨q',j * 2 + 1,none⟩) hq').trans k
   have hsz:=hV.size
   have CALL:=IH.later hD hD' A B hV
   clear hc hc' g k A B IH ha
   go_wp2
   go_region_with (go_at_call 48;refine (CALL _).mono ?_;rintro e w1 ⟨rfl,hb1⟩)
   all_goals
    have hV1:=hV.trans (hb1.mono hsz)
    have p0:=(hV1.cell (p:=⟨q,j * 2,none⟩) hq).trans n0
    have p1:=(hV1.cell (p:=⟨q',j * 2,none⟩) hq').trans m0
    go_wp2
    go_quiet (fail)
    go_wp2
    go_roundw
    case rel => exact ⟨j + 1,by omega,by go_num,below_drewN hV1 _⟩
    case measure => simp [intOf];omega
  ·go_wp2
   go_ret
   exact ⟨rfl,hV⟩
end
end Go.Proofs.YtgppemlciohjcaaGreatDoor
