/- What a raw text says, by the document: the walk. -/
import Derived.Test.YtlabcadpkdgjnaaGreatDoorLxG5
import Derived.Laws.Bits64b
import Derived.Test.YtlabcadpkdgjnaaGreatDoorLxO
import Derived.OwnWalk
import Derived.OneCell
import Derived.Laws.OwnMore
import Derived.Laws.IdiomStrings
import Derived.Lib.AppendStr
import Derived.Lib.UnsafeStr
import Derived.Test.YtlabcadpkdgjnaaGreatDoorLxT
import Derived.Test.YtlabcadpkdgjnaaGreatDoorLxV
namespace Go.Proofs.YtlabcadpkdgjnaaGreatDoor
section
open Go Go.RowKit Go.Lib
end
section
open Go Go.RowKit Go.Lib
end
section
open Go Go.RowKit
theorem u8_eq {a b : UInt8} (h : a.toNat = b.toNat) : a = b:=UInt8.toNat_inj.1 h
end
section
end
section
open Go Go.RowKit
theorem Tryz.infoByte : (Tryz.prog.info? 5).map (fun i => (i.zero,i.size,i.bytes)) = some (some (.int .u8 0),1,1):=by kernel_rfl
theorem own_ge {w : World} {B e sz n : Nat} {v : Value} {xs : List Value} (h : w.ownsRow B e sz v n xs) : ∀ k,v.ownBlock = some k → B ≤ k:=by
 intro k hk
 rcases h.2 with ⟨rfl,_⟩ | ⟨g,cap,cur,rfl,hg,_⟩
 ·simp [Value.ownBlock] at hk
 ·simp [Value.ownBlock] at hk
  omega
theorem conv_row {W : World} {B g cap : Nat} {l : List UInt8} (h : W.ownsRow B 5 1 (.slice (some ⟨g,0,none⟩) l.length cap) l.length (Lib.byteCells l)) :
  (convert 40 9 (.slice (some ⟨g,0,none⟩) l.length cap)).run Tryz.prog W = .ok (.string ⟨l.toArray⟩) W:=by
 refine run_convert_bytes_back (P:=Tryz.prog) W 40 9 5 ⟨g,0,none⟩ cap l Tryz.underlying40 Tryz.underlying5 Tryz.underlying9 ?_
 intro j hj
 rw [Addr.add_lit,Nat.zero_add,h.cellAt j (by omega)]
 simp [Lib.byteCells,hj]
abbrev Bytes (w : World) (B : Nat) (v : Value) (l : List UInt8) : Prop:=w.ownsRow B 5 1 v l.length (Lib.byteCells l)
end
section
open Go Go.RowKit
theorem at_suf0 {s : Bs} {c : UInt8} {r : Bs} (h : (c :: r) <:+ s) : ∀ hh,(ByteArray.mk s.toArray)[s.length - (c :: r).length]'hh = c:=by
 obtain ⟨p,rfl⟩:=h
 intro hh
 show (p ++ c :: r).toArray[(p ++ c :: r).length - (c :: r).length] = c
 simp
end
section
open Go Go.RowKit
theorem spanR_in (S : Bs) (c : UInt8) (l : Bs) (h : S.contains c = true) : spanR S (c :: l) = spanR S l:=by
 conv => lhs;unfold spanR
 rw [if_pos h]
theorem spanR_out (S : Bs) (c : UInt8) (l : Bs) (h : S.contains c = false) : spanR S (c :: l) = c :: l:=by
 unfold spanR
 rw [if_neg (by rw [h];decide)]
set_option maxHeartbeats 2000000 in
theorem xindent_any (s : Bs) (hs : s.length ≤ 4294967280) (w : World) : Calls Tryz.prog 92 #[.string ⟨s.toArray⟩] w fun e w' => e = .returned (.int .i64 ((indS s : Nat) : Int)) ∧ w = w':=by
 have hsz:=size_of s
 have hsI : (s.length : Int) ≤ 4294967280:=by omega
 generalize hD : (ByteArray.mk s.toArray) = D at *
 go_enter Tryz.func92,Tryz.ntmps92
 go_wp2
 go_loopw [3] (fun v wr => ∃ l,v = .int .i64 ((s.length - l.length : Nat) : Int) ∧ l <:+ s ∧ spanR [9,32] l = spanR [9,32] s ∧ wr = w) (fun v _ => s.length - (RowKit.intOf v).toNat)
 case atStart => exact ⟨s,by simp,List.suffix_refl _,rfl,rfl⟩
 case round =>
  obtain ⟨l,rfl,hsuf,hsp,hwr⟩:=hrel
  subst hwr
  cases l with
  | nil =>
   have HE : Hid (((s.length - ([] : Bs).length : Nat) : Int) = ((indS s : Nat) : Int)):=by
    show _ = _
    unfold indS
    rw [← hsp]
    rfl
   clear hsp hsuf
   go_wp2
   go_ret
   exact ⟨by rw [← HE.out];rfl,rfl⟩
  | cons c r =>
   have hle : (c :: r).length ≤ s.length:=hsuf.length_le
   have g0:=at_suf0 hsuf
   have gX : ∀ hh,(((ByteArray.mk s.toArray)[s.length - (c :: r).length]'hh).toNat : Int) = (c.toNat : Int):=fun hh => by rw [g0 hh]
   rw [hD] at gX
   have b1 : ((s.length - (c :: r).length : Nat) : Int) < (s.length : Int):=by simp only [List.length_cons] at hle ⊢;omega
   have b2 : (0 : Int) ≤ ((s.length - (c :: r).length : Nat) : Int):=by omega
   have b3 : (((s.length - (c :: r).length : Nat) : Int)).toNat = s.length - (c :: r).length:=by omega
   have HA : Hid (s.length - (c :: r).length + (c :: r).length = s.length):=by show _ = _;omega
   by_cases hc : [9,32].contains c = true
   ·have HR : Hid (r <:+ s ∧ spanR [9,32] r = spanR [9,32] s):=⟨(List.suffix_cons c r).trans hsuf,by rw [← hsp,spanR_in _ _ _ hc]⟩
    have HN : Hid (((s.length - (c :: r).length : Nat) : Int) + 1 = ((s.length - r.length : Nat) : Int)):=by
     show _ = _
     simp only [List.length_cons] at hle ⊢;omega
    have m3 : ((c.toNat : Int) == 9) = true ∨ (((c.toNat : Int) == 9) = false ∧ ((c.toNat : Int) == 32) = true):=by
     have : c = 9 ∨ c = 32:=by simpa using hc
     rcases this with rfl | rfl <;> decide
    clear hc hsp hsuf hle g0
    generalize hgA : s.length - (c :: r).length = A at *
    clear hgA
    generalize (c.toNat : Int) = X at *
    rcases m3 with m3 | ⟨m3,m4⟩
    all_goals
     go_wp2
     refine ⟨⟨r,congrArg (Value.int .i64) HN.out,HR.out.1,HR.out.2,by trivial⟩,?_⟩
     have h3:=HA.out
     simp [RowKit.intOf]
     simp at h3
     omega
   ·have hc' : [9,32].contains c = false:=Bool.eq_false_iff.2 hc
    have HE : Hid (((s.length - (c :: r).length : Nat) : Int) = ((indS s : Nat) : Int)):=by
     show _ = _
     unfold indS
     rw [← hsp,spanR_out _ _ _ hc']
    have hn : ¬ (c = 9 ∨ c = 32):=by simpa using hc
    have n9 : ¬ c.toNat = 9:=fun e => hn (Or.inl (u8_eq e))
    have n32 : ¬ c.toNat = 32:=fun e => hn (Or.inr (u8_eq e))
    have m3 : ((c.toNat : Int) == 9) = false:=beq_eq_false_iff_ne.2 (by omega)
    have m4 : ((c.toNat : Int) == 32) = false:=beq_eq_false_iff_ne.2 (by omega)
    clear hc hc' hsp hsuf hle g0 hn n9 n32
    generalize s.length - (c :: r).length = A at *
    generalize (c.toNat : Int) = X at *
    go_wp2
    go_ret
    exact ⟨by rw [← HE.out];rfl,rfl⟩
def linesC (cur rest : Bs) : List Bs:=match split10 (normS rest) with
 | [] => [cur]
 | x :: xs => (cur ++ x) :: xs
theorem linesC_start (s : Bs) : linesC [] s = linesS s:=by
 unfold linesC linesS
 cases h : split10 (normS s) with
 | nil => exact absurd h (split10_ne _)
 | cons x xs => simp
theorem linesC_nil (cur : Bs) : linesC cur [] = [cur]:=by
 unfold linesC
 simp [normS,split10]
theorem normS_out {c : UInt8} (h : c ≠ 13) (r : Bs) : normS (c :: r) = c :: normS r:=by
 cases r with
 | nil => simp [normS,h]
 | cons d r =>
   conv => lhs;unfold normS
   rw [if_neg h]
theorem split10_at (l : Bs) : split10 (10 :: l) = [] :: split10 l:=by rw [split10,if_pos rfl]
theorem split10_out {c : UInt8} (h : c ≠ 10) {l x : Bs} {xs : List Bs} (hx : split10 l = x :: xs) : split10 (c :: l) = (c :: x) :: xs:=by rw [split10,if_neg h,hx]
theorem linesC_eq {cur l x : Bs} {xs : List Bs} (h : split10 (normS l) = x :: xs) : linesC cur l = (cur ++ x) :: xs:=by
 unfold linesC
 rw [h]
theorem linesC_out {cur r : Bs} {c : UInt8} (h1 : c ≠ 10) (h2 : c ≠ 13) : linesC cur (c :: r) = linesC (cur ++ [c]) r:=by
 cases h : split10 (normS r) with
 | nil => exact absurd h (split10_ne _)
 | cons x xs =>
  rw [linesC_eq h,linesC_eq (x:=c :: x) (xs:=xs) (by rw [normS_out h2];exact split10_out h1 h)]
  simp
theorem linesC_end {cur r : Bs} {l : Bs} (h : normS l = 10 :: normS r) : linesC cur l = cur :: linesC [] r:=by
 cases hx : split10 (normS r) with
 | nil => exact absurd hx (split10_ne _)
 | cons x xs =>
  rw [linesC_eq hx,linesC_eq (x:=[]) (xs:=x :: xs) (by rw [h,split10_at,hx])]
  simp
theorem linesC_10 (cur r : Bs) : linesC cur (10 :: r) = cur :: linesC [] r:=linesC_end (normS_out (by decide) r)
theorem linesC_1310 (cur r : Bs) : linesC cur (13 :: 10 :: r) = cur :: linesC [] r:=linesC_end (by rw [normS,if_pos rfl,if_pos rfl])
theorem linesC_13 {cur r : Bs} (h : ∀ r',r ≠ 10 :: r') : linesC cur (13 :: r) = cur :: linesC [] r:=linesC_end (by
 cases r with
 | nil => rfl
 | cons d r => rw [normS,if_pos rfl,if_neg (fun e => h r (by rw [e]))])
theorem xat_any (s : Bs) (hs : s.length ≤ 4294967280) (k : Nat) (w : World) : Calls Tryz.prog 62 #[.string ⟨s.toArray⟩,.int .i64 (k : Int)] w fun e w' => e = .returned (.int .u8 ((s.getD k 0).toNat : Int)) ∧ w = w':=by
 have hsz:=size_of s
 have hsI : (s.length : Int) ≤ 4294967280:=by omega
 by_cases h : k < s.length
 ·have g0 : ∀ hh,(((ByteArray.mk s.toArray)[k]'hh).toNat : Int) = ((s.getD k 0).toNat : Int):=fun hh => by
   have e : (ByteArray.mk s.toArray)[k]'hh = s.getD k 0:=by
    show s.toArray[k] = _
    simp [List.getD,h]
   rw [e]
  have b1 : (k : Int) < (s.length : Int):=by omega
  have b2 : ¬ (s.length : Int) ≤ (k : Int):=by omega
  have b3:=decide_eq_false b2
  generalize (ByteArray.mk s.toArray) = D at *
  generalize ((s.getD k 0).toNat : Int) = X at *
  clear b2 h
  go_enter Tryz.func62,Tryz.ntmps62
  go_wp2
  go_ret
  exact ⟨rfl,rfl⟩
 ·have e : ((s.getD k 0).toNat : Int) = 0:=by
   have : s.getD k 0 = 0:=by simp [List.getD,List.getElem?_eq_none (Nat.le_of_not_lt h)]
   rw [this];rfl
  rw [e]
  have b2 : (s.length : Int) ≤ (k : Int):=by omega
  have b3:=decide_eq_true b2
  generalize (ByteArray.mk s.toArray) = D at *
  clear h e
  go_enter Tryz.func62,Tryz.ntmps62
  go_wp2
  go_ret
  exact ⟨rfl,rfl⟩
end
section
open Go Go.RowKit
theorem Tryz.infoStrX : (Tryz.prog.info? 9).map (fun i => (i.zero,i.size,i.bytes)) = some (some (.string ⟨#[]⟩),1,16):=by kernel_rfl
abbrev strCs (L : List Bs) : List Value:=L.map fun x => Value.string ⟨x.toArray⟩
abbrev StrOwn (w : World) (B : Nat) (v : Value) (L : List Bs) : Prop:=w.ownsRow B 9 1 v L.length (strCs L)
structure LnS (s : Bs) (w wr : World) (o : Value) (lb l : Bs) (L : List Bs) : Prop where
 lbs : lb <:+ s
 suf : l <:+ lb
 eq : L ++ linesC (ahead lb l) l = linesS s
 len : L.length + l.length ≤ s.length
 own : StrOwn wr w.heap.size o L
 bel : Below w.heap.size w wr
theorem ahead_self (l : Bs) : ahead l l = []:=by unfold ahead;simp
theorem ahead_snoc {lb r : Bs} {c : UInt8} (h : (c :: r) <:+ lb) : ahead lb r = ahead lb (c :: r) ++ [c]:=by
 obtain ⟨p,rfl⟩:=h
 unfold ahead
 have e1 : (p ++ c :: r).length - r.length = p.length + 1:=by simp;omega
 have e2 : (p ++ c :: r).length - (c :: r).length = p.length:=by simp
 rw [e1,e2,List.take_length_add_append]
 simp
theorem LnS.step {s : Bs} {w wr : World} {o : Value} {lb r : Bs} {c : UInt8} {L : List Bs} (h : LnS s w wr o lb (c :: r) L) (h1 : c ≠ 10) (h2 : c ≠ 13) : LnS s w wr o lb r L:=by
 refine ⟨h.lbs,(List.suffix_cons c r).trans h.suf,?_,?_,h.own,h.bel⟩
 ·rw [← h.eq,linesC_out h1 h2,ahead_snoc h.suf]
 ·have:=h.len
  simp at this
  omega
theorem LnS.line {s : Bs} {w wr w2 : World} {o v' : Value} {lb l r : Bs} {L : List Bs} {X : Obj} (h : LnS s w wr o lb l L) (hr : r <:+ l) (hlt : r.length < l.length) (he : linesC (ahead lb l) l = ahead lb l :: linesC [] r)
  (hown : w2.ownsRow w.heap.size 9 1 v' (L.length + 1) (strCs L ++ [.string ⟨(ahead lb l).toArray⟩])) (hg : (wr.alloc X).grownBy w2 o.ownBlock) : LnS s w w2 v' r r (L ++ [ahead lb l]):=by
 refine ⟨(hr.trans h.suf).trans h.lbs,List.suffix_refl _,?_,?_,?_,(h.bel.alloc h.bel.size _).grown hg (by simp;have:=h.bel.size;omega) (own_ge h.own)⟩
 ·rw [ahead_self,← h.eq,he,List.append_assoc]
  rfl
 ·have:=h.len
  rw [List.length_append,List.length_singleton]
  omega
 ·unfold StrOwn strCs
  rw [List.length_append,List.map_append]
  exact hown
theorem own_no (w : World) : (w.alloc (.cells #[] 9)).ownsRow w.heap.size 9 1 (.slice (some ⟨w.heap.size,0,none⟩) 0 0) 0 [] :=
 ⟨rfl,Or.inr ⟨w.heap.size,0,_,rfl,Nat.le_refl _,heap_alloc_new _ _,Nat.le_refl _,by decide,rfl,rfl⟩⟩
set_option maxRecDepth 100000 in
set_option maxHeartbeats 4000000 in
theorem xlines_any (s : Bs) (hs : s.length ≤ 1048576) (w : World) : Calls Tryz.prog 91 #[.string ⟨s.toArray⟩] w fun e w' => ∃ v,e = .returned v ∧ StrOwn w' w.heap.size v (linesS s) ∧ Below w.heap.size w w':=by
 obtain ⟨i1,hi1,hy0,hy1,hy2⟩:=info_parts Tryz.infoStrX
 have hsz:=size_of s
 have hsI : (s.length : Int) ≤ 1048576:=by omega
 have AT:=fun k w => xat_any s (by omega) k w
 generalize hD : (ByteArray.mk s.toArray) = D at *
 go_enter Tryz.func91,Tryz.ntmps91
 go_wp2
 go_loopw [3,4,5] (fun o f v wr => ∃ lb l L,f = .int .i64 ((s.length - lb.length : Nat) : Int) ∧ v = .int .i64 ((s.length - l.length : Nat) : Int) ∧ LnS s w wr o lb l L) (fun _ _ v _ => s.length - (RowKit.intOf v).toNat)
 case atStart =>
  refine ⟨s,s,[],by simp,by simp,List.suffix_refl _,List.suffix_refl _,?_,by simp,own_no w,(Below.refl _ _).alloc (Nat.le_refl _) _⟩
  rw [ahead_self]
  exact linesC_start s
 case round =>
  obtain ⟨lb,l,L,rfl,rfl,hQ⟩:=hrel
  have hor:=hQ.own
  have hbel:=hQ.bel
  have hz1:=hbel.size
  have hlen:=hQ.len
  have hll : L.length ≤ 1048576:=by omega
  have hcut:=cut_ahead hQ.lbs hQ.suf
  rw [hD] at hcut
  have hle:=hQ.suf.length_le
  have hle2:=hQ.lbs.length_le
  have f1 : ((s.length - lb.length : Nat) : Int) ≤ ((s.length - l.length : Nat) : Int):=by omega
  have f2 : (0 : Int) ≤ ((s.length - lb.length : Nat) : Int):=by omega
  have f3 : ((s.length - l.length : Nat) : Int) ≤ (s.length : Int):=by omega
  have f4 : (((s.length - l.length : Nat) : Int)).toNat = s.length - l.length:=by omega
  have f5 : (((s.length - lb.length : Nat) : Int)).toNat = s.length - lb.length:=by omega
  cases l with
  | nil =>
   have HE : Hid (L ++ [ahead lb []] = linesS s):=by
    show _ = _
    rw [← hQ.eq,linesC_nil]
   simp only [List.length_nil,Nat.sub_zero] at hcut f1 f3 f4
   clear hQ hle hle2 hlen AT
   generalize s.length - lb.length = A at *
   generalize hT : (ahead lb []).toArray = T at *
   go_wp2_with (first
    | (at_builtin;refine wpList_append_own _ rfl _ _ 41 rfl w.heap.size 9 i1 (.string ⟨#[]⟩) 1 16 Tryz.underlying41 hi1 hy0 hy1 hy2 rfl (by decide) _ _ _ rfl (hor.alloc _) ⟨wr.heap.size,0,none⟩ 1 1 [.string ⟨T⟩] rfl rfl ?c1 ?c2 ?c3 ?c4 ?c5 ?_)
    | fail)
   case c1 =>
    intro j u hj
    match j,hj with
    | 0,hj => simp at hj;subst hj;simp [Addr.add]
   case c2 => intro u hu;simp at hu;subst hu;rfl
   case c3 => unfold maxLen;first | omega | (simp;omega)
   case c4 => first | omega | (simp;omega)
   case c5 => first | omega | (simp;omega)
   intro v' w2 hown' hgrow' _
   have hown2 : StrOwn w2 w.heap.size v' (L ++ [ahead lb []]):=by
    unfold StrOwn strCs
    rw [List.length_append,List.map_append]
    subst hT
    exact hown'
   have hbr2 : Below w.heap.size w w2:=(hbel.alloc hz1 _).grown hgrow' (by simp;omega) (own_ge hor)
   rw [HE.out] at hown2
   clear hown' hgrow' hor HE
   go_wp2
   go_ret
   exact ⟨v',rfl,hown2,hbr2⟩
  | cons c r =>
   have g0:=at_suf0 (hQ.suf.trans hQ.lbs)
   have gX : ∀ hh,(((ByteArray.mk s.toArray)[s.length - (c :: r).length]'hh).toNat : Int) = (c.toNat : Int):=fun hh => by rw [g0 hh]
   rw [hD] at gX
   have b1 : ((s.length - (c :: r).length : Nat) : Int) < (s.length : Int):=by simp only [List.length_cons] at hle ⊢;omega
   have b2 : (0 : Int) ≤ ((s.length - (c :: r).length : Nat) : Int):=by omega
   have HA : Hid (s.length - (c :: r).length + (c :: r).length = s.length):=by show _ = _;omega
   have HN : Hid (((s.length - (c :: r).length : Nat) : Int) + 1 = ((s.length - r.length : Nat) : Int)):=by
    show _ = _
    simp only [List.length_cons] at hle ⊢;omega
   have HQ : Hid (LnS s w wr _ lb (c :: r) L):=hQ
   by_cases h10 : c = 10
   ·subst h10
    have gX : ∀ hh,((D[s.length - (10 :: r).length]'hh).toNat : Int) = 10:=gX
    clear hQ hle hle2 hlen AT g0
    generalize hgA : s.length - lb.length = A at *
    generalize hgB : s.length - (10 :: r).length = B at *
    clear hgB
    generalize hT : (ahead lb (10 :: r)).toArray = T at *
    go_wp2_with (first
     | (at_builtin;refine wpList_append_own _ rfl _ _ 41 rfl w.heap.size 9 i1 (.string ⟨#[]⟩) 1 16 Tryz.underlying41 hi1 hy0 hy1 hy2 rfl (by decide) _ _ _ rfl (hor.alloc _) ⟨wr.heap.size,0,none⟩ 1 1 [.string ⟨T⟩] rfl rfl ?c1 ?c2 ?c3 ?c4 ?c5 ?_)
     | fail)
    case c1 =>
     intro j u hj
     match j,hj with
     | 0,hj => simp at hj;subst hj;simp [Addr.add]
    case c2 => intro u hu;simp at hu;subst hu;rfl
    case c3 => unfold maxLen;first | omega | (simp;omega)
    case c4 => first | omega | (simp;omega)
    case c5 => first | omega | (simp;omega)
    intro v' w2 hown' hgrow' _
    have hq2 : LnS s w w2 v' r r (L ++ [ahead lb (10 :: r)]):=by
     subst hT
     exact HQ.out.line (List.suffix_cons _ _) (by simp) (linesC_10 _ _) hown' hgrow'
    clear hown' hgrow' hor
    go_wp2
    refine ⟨⟨r,r,_,congrArg (Value.int .i64) HN.out,congrArg (Value.int .i64) HN.out,hq2⟩,?_⟩
    have h3:=HA.out
    simp [RowKit.intOf]
    simp at h3
    omega
   ·by_cases h13 : c = 13
    ·subst h13
     have gX : ∀ hh,((D[s.length - (13 :: r).length]'hh).toNat : Int) = 13:=gX
     have e1 : ((s.length - (13 :: r).length : Nat) : Int) + 1 = ((s.length - (13 :: r).length + 1 : Nat) : Int):=by omega
     have AT:=AT (s.length - (13 :: r).length + 1)
     have hat : s.getD (s.length - (13 :: r).length + 1) 0 = r.getD 0 0:=by
      obtain ⟨p,hp⟩:=hQ.suf.trans hQ.lbs
      have e9 : s.length - (13 :: r).length + 1 = p.length + 1:=by rw [← hp];simp
      rw [e9,← hp]
      simp only [List.getD]
      rw [List.getElem?_append_right (by omega),show p.length + 1 - p.length = 1 by omega]
      rfl
     rw [hat] at AT
     have HM : Hid (((s.length - (13 :: r).length + 1 : Nat) : Int) = ((s.length - r.length : Nat) : Int)):=by
      show _ = _
      simp only [List.length_cons] at hle ⊢;omega
     have x1 : ((s.length - (13 :: r).length + 1 : Nat) : Int) ≤ 1048577:=by omega
     by_cases hr : ∃ r',r = 10 :: r'
     ·obtain ⟨r',rfl⟩:=hr
      have AT : ∀ w,Calls Tryz.prog 62 #[.string D,.int .i64 ((s.length - (13 :: 10 :: r').length + 1 : Nat) : Int)] w fun e w' => e = .returned (.int .u8 10) ∧ w = w':=AT
      have HM2 : Hid (((s.length - (13 :: 10 :: r').length + 1 : Nat) : Int) + 1 = ((s.length - r'.length : Nat) : Int)):=by
       show _ = _
       simp only [List.length_cons] at hle ⊢;omega
      clear hQ hle hle2 hlen g0 hat
      generalize hgC : s.length - (13 :: 10 :: r').length + 1 = C at *
      clear hgC
      generalize hgA : s.length - lb.length = A at *
      generalize hgB : s.length - (13 :: 10 :: r').length = B at *
      clear hgB
      generalize hT : (ahead lb (13 :: 10 :: r')).toArray = T at *
      go_wp2_with (first
       | (at_builtin;refine wpList_append_own _ rfl _ _ 41 rfl w.heap.size 9 i1 (.string ⟨#[]⟩) 1 16 Tryz.underlying41 hi1 hy0 hy1 hy2 rfl (by decide) _ _ _ rfl (hor.alloc _) ⟨wr.heap.size,0,none⟩ 1 1 [.string ⟨T⟩] rfl rfl ?c1 ?c2 ?c3 ?c4 ?c5 ?_)
       | fail)
      case c1 =>
       intro j u hj
       match j,hj with
       | 0,hj => simp at hj;subst hj;simp [Addr.add]
      case c2 => intro u hu;simp at hu;subst hu;rfl
      case c3 => unfold maxLen;first | omega | (simp;omega)
      case c4 => first | omega | (simp;omega)
      case c5 => first | omega | (simp;omega)
      intro v' w2 hown' hgrow' _
      have hq2 : LnS s w w2 v' r' r' (L ++ [ahead lb (13 :: 10 :: r')]):=by
       subst hT
       exact HQ.out.line ((List.suffix_cons _ _).trans (List.suffix_cons _ _)) (by simp;omega) (linesC_1310 _ _) hown' hgrow'
      clear hown' hgrow' hor
      go_wp2_with (go_at_call 62;refine (AT _).mono ?_;rintro e w7 ⟨rfl,rfl⟩)
      refine ⟨⟨r',r',_,congrArg (Value.int .i64) HM2.out,congrArg (Value.int .i64) HM2.out,hq2⟩,?_⟩
      have h3:=HA.out
      simp [RowKit.intOf]
      simp at h3
      omega
     ·have hr' : ∀ r',r ≠ 10 :: r':=fun r' e => hr ⟨r',e⟩
      have m1 : (((r.getD 0 0).toNat : Int) == 10) = false:=by
       rw [beq_eq_false_iff_ne]
       intro e
       cases r with
       | nil => cases e
       | cons d r =>
        have : d.toNat = 10:=by
         have e' : (d.toNat : Int) = 10:=e
         omega
        exact hr' r (by rw [show d = 10 from u8_eq this])
      have HL : Hid (linesC (ahead lb (13 :: r)) (13 :: r) = ahead lb (13 :: r) :: linesC [] r):=linesC_13 hr'
      clear hQ hle hle2 hlen g0 hat hr hr'
      generalize hgC : s.length - (13 :: r).length + 1 = C at *
      clear hgC
      generalize hgA : s.length - lb.length = A at *
      generalize hgB : s.length - (13 :: r).length = B at *
      clear hgB
      generalize ((r.getD 0 0).toNat : Int) = Y at *
      generalize hT : (ahead lb (13 :: r)).toArray = T at *
      go_wp2_with (first
       | (at_builtin;refine wpList_append_own _ rfl _ _ 41 rfl w.heap.size 9 i1 (.string ⟨#[]⟩) 1 16 Tryz.underlying41 hi1 hy0 hy1 hy2 rfl (by decide) _ _ _ rfl (hor.alloc _) ⟨wr.heap.size,0,none⟩ 1 1 [.string ⟨T⟩] rfl rfl ?c1 ?c2 ?c3 ?c4 ?c5 ?_)
       | fail)
      case c1 =>
       intro j u hj
       match j,hj with
       | 0,hj => simp at hj;subst hj;simp [Addr.add]
      case c2 => intro u hu;simp at hu;subst hu;rfl
      case c3 => unfold maxLen;first | omega | (simp;omega)
      case c4 => first | omega | (simp;omega)
      case c5 => first | omega | (simp;omega)
      intro v' w2 hown' hgrow' _
      have hq2 : LnS s w w2 v' r r (L ++ [ahead lb (13 :: r)]):=by
       subst hT
       exact HQ.out.line (List.suffix_cons _ _) (by simp) HL.out hown' hgrow'
      clear hown' hgrow' hor
      go_wp2_with (go_at_call 62;refine (AT _).mono ?_;rintro e w7 ⟨rfl,rfl⟩)
      refine ⟨⟨r,r,_,congrArg (Value.int .i64) HM.out,congrArg (Value.int .i64) HM.out,hq2⟩,?_⟩
      have h3:=HA.out
      simp [RowKit.intOf]
      simp at h3
      omega
    ·have hq2:=hQ.step h10 h13
     have n1 : ¬ c.toNat = 10:=fun e => h10 (u8_eq e)
     have n2 : ¬ c.toNat = 13:=fun e => h13 (u8_eq e)
     have m1 : ((c.toNat : Int) == 10) = false:=beq_eq_false_iff_ne.2 (by omega)
     have m2 : ((c.toNat : Int) == 13) = false:=beq_eq_false_iff_ne.2 (by omega)
     clear hQ hle hle2 hlen AT g0 n1 n2 h10 h13 HQ hcut
     generalize hgA : s.length - lb.length = A at *
     have HG : Hid (s.length - lb.length = A):=hgA
     clear hgA
     generalize hgB : s.length - (c :: r).length = B at *
     clear hgB
     generalize (c.toNat : Int) = X at *
     go_wp2
     refine ⟨⟨lb,r,L,by rw [HG.out],congrArg (Value.int .i64) HN.out,hq2⟩,?_⟩
     have h3:=HA.out
     simp [RowKit.intOf]
     simp at h3
     omega
end
section
open Go Go.RowKit
def RowC (w : World) (g cap : Nat) (L : List Bs) : Prop:=∃ cur,w.heap[g]? = some (.cells cur 9 (0,0)) ∧ L.length ≤ cap ∧ cur.size = cap ∧ cur.toList.take L.length = strCs L
theorem RowC.cell {w : World} {g cap : Nat} {L : List Bs} (h : RowC w g cap L) (i : Nat) (hi : i < L.length) : w.cell? ⟨g,i,none⟩ = some (.string ⟨L[i].toArray⟩):=by
 obtain ⟨cur,h1,h2,h3,h4⟩:=h
 unfold World.cell?
 rw [h1]
 have e : (cur.toList.take L.length)[i]? = (strCs L)[i]?:=by rw [h4]
 rw [List.getElem?_take,if_pos hi] at e
 have e2 : (strCs L)[i]? = some (.string ⟨L[i].toArray⟩):=by simp [hi]
 rw [e2] at e
 simpa using e
theorem RowC.free {w : World} {g cap : Nat} {L : List Bs} (h : RowC w g cap L) (i : Nat) : w.frozen? ⟨g,i,none⟩ = false:=by
 obtain ⟨cur,h1,_⟩:=h
 exact frozen_of_row w g i _ _ h1
theorem RowC.lt {w : World} {g cap : Nat} {L : List Bs} (h : RowC w g cap L) : g < w.heap.size:=by
 obtain ⟨cur,h1,_⟩:=h
 exact lt_of_block h1
theorem RowC.below {w w' : World} {g cap B : Nat} {L : List Bs} (h : RowC w g cap L) (hb : Below B w w') (hg : g < B) : RowC w' g cap L:=by
 obtain ⟨cur,h1,r⟩:=h
 exact ⟨cur,(hb.block g hg).trans h1,r⟩
theorem RowC.drewN {w : World} {g cap : Nat} {L : List Bs} (h : RowC w g cap L) (n : Nat) : RowC (w.drewN n) g cap L:=h
theorem RowC.set {w : World} {g cap : Nat} {L : List Bs} (h : RowC w g cap L) (i : Nat) (x : Bs) : RowC (w.setCell ⟨g,i,none⟩ (.string ⟨x.toArray⟩)) g cap (L.set i x):=by
 obtain ⟨cur,h1,h2,h3,h4⟩:=h
 refine ⟨_,heap_setCell_same w g i _ _ (.string ⟨x.toArray⟩) h1,by simpa using h2,by simpa using h3,?_⟩
 rw [Array.toList_setIfInBounds,List.length_set,List.take_set,h4]
 simp [List.map_set]
theorem RowC.of_own {w : World} {B : Nat} {v : Value} {L : List Bs} (h : StrOwn w B v L) (hL : L ≠ []) : ∃ g cap,v = .slice (some ⟨g,0,none⟩) L.length cap ∧ L.length ≤ cap ∧ B ≤ g ∧ RowC w g cap L:=by
 rcases h.2 with ⟨_,h0⟩ | ⟨g,cap,cur,hv,hB,hg,hn,_,hs,ht⟩
 ·exact absurd (List.length_eq_zero_iff.1 h0) hL
 ·exact ⟨g,cap,hv,hn,hB,cur,hg,hn,by omega,by simpa using ht⟩
theorem indS_le (x : Bs) : indS x ≤ x.length:=by unfold indS;omega
theorem blank_iff (x : Bs) : blankB x = false ↔ indS x < x.length:=by
 have:=indS_le x
 unfold blankB
 rw [beq_eq_false_iff_ne]
 omega
def comStep (a : Option Nat) (x : Bs) : Option Nat:=if blankB x then a else match a with
  | none => some (indS x)
  | some n => if indS x < n then some (indS x) else some n
theorem commonS_cons (x : Bs) (xs : List Bs) (a : Option Nat) : commonS (x :: xs) a = commonS xs (comStep a x):=rfl
inductive Mids (n : Nat) : List Bs → Int → Int → Prop
 | no (D : List Bs) (h : ∀ x ∈ D,blankB x = true) : Mids n D (n : Int) (-1)
 | yes (A M C : List Bs) (y z : Bs) (M1 : List Bs) (hA : ∀ x ∈ A,blankB x = true) (hC : ∀ x ∈ C,blankB x = true) (hy : blankB y = false) (hz : blankB z = false) (h1 : ∃ T,M = y :: T) (h2 : M = M1 ++ [z]) : Mids n (A ++ M ++ C) (A.length : Int) ((A.length + M.length : Nat) - 1 : Int)
theorem Mids.blank {n : Nat} {D : List Bs} {f l : Int} (h : Mids n D f l) {x : Bs} (hx : blankB x = true) : Mids n (D ++ [x]) f l:=by
 cases h with
 | no D h => exact .no _ (fun y hy => by
   rcases List.mem_append.1 hy with h' | h'
   ·exact h y h'
   ·rw [List.mem_singleton.1 h'];exact hx)
 | yes A M C y z M1 hA hC hy hz h1 h2 =>
  rw [List.append_assoc]
  exact .yes A M (C ++ [x]) y z M1 hA (fun y hy => by
   rcases List.mem_append.1 hy with h' | h'
   ·exact hC y h'
   ·rw [List.mem_singleton.1 h'];exact hx) hy hz h1 h2
theorem Mids.full {n : Nat} {D : List Bs} {f l : Int} (h : Mids n D f l) {x : Bs} (hx : blankB x = false) (hn : D.length ≤ n) : Mids n (D ++ [x]) (min f (D.length : Int)) (D.length : Int):=by
 cases h with
 | no D h =>
  have:=Mids.yes (n:=n) D [x] [] x x [] h (by simp) hx hx ⟨[],rfl⟩ rfl
  rw [List.append_nil] at this
  rw [show min (n : Int) (D.length : Int) = D.length by omega]
  have e : ((D.length + [x].length : Nat) - 1 : Int) = (D.length : Int):=by simp
  rw [e] at this
  exact this
 | yes A M C y z M1 hA hC hy hz h1 h2 =>
  obtain ⟨T,hT⟩:=h1
  have:=Mids.yes (n:=n) A (M ++ C ++ [x]) [] y x (M ++ C) hA (by simp) hy hx ⟨T ++ C ++ [x],by rw [hT];simp⟩ rfl
  rw [List.append_nil] at this
  have e1 : min (A.length : Int) ((A ++ M ++ C).length : Int) = (A.length : Int):=by simp;omega
  have e2 : ((A.length + (M ++ C ++ [x]).length : Nat) - 1 : Int) = ((A ++ M ++ C).length : Int):=by simp;omega
  rw [e1,← e2]
  have e3 : A ++ M ++ C ++ [x] = A ++ (M ++ C ++ [x]):=by simp
  rw [e3]
  exact this
theorem dropWhile_all {p : Bs → Bool} : ∀ {A : List Bs} {l : List Bs},(∀ x ∈ A,p x = true) → (A ++ l).dropWhile p = l.dropWhile p
 | [],_,_ => rfl
 | a :: A,l,h => by
  rw [List.cons_append,List.dropWhile_cons,if_pos (h a (by simp))]
  exact dropWhile_all fun x hx => h x (by simp [hx])
theorem Mids.trim {n : Nat} {R : List Bs} {f l : Int} (h : Mids n R f l) : (trimS R = [] ∧ f = n ∧ l = -1) ∨ ∃ A M C : List Bs,R = A ++ M ++ C ∧ trimS R = M ∧ M ≠ [] ∧ f = A.length ∧ l = ((A.length + M.length : Nat) - 1 : Int):=by
 cases h with
 | no D h =>
  left
  refine ⟨?_,rfl,rfl⟩
  unfold trimS
  have e : R.dropWhile blankB = []:=by
   have:=dropWhile_all (l:=[]) h
   rw [List.append_nil] at this
   rw [this];rfl
  rw [e]
  rfl
 | yes A M C y z M1 hA hC hy hz h1 h2 =>
  right
  obtain ⟨T,hT⟩:=h1
  refine ⟨A,M,C,rfl,?_,by rw [hT];simp,rfl,rfl⟩
  unfold trimS
  rw [List.append_assoc,dropWhile_all hA]
  have e1 : (M ++ C).dropWhile blankB = M ++ C:=by
   rw [hT,List.cons_append,List.dropWhile_cons,if_neg (by rw [hy];decide)]
  rw [e1,List.reverse_append,dropWhile_all (fun x hx => hC x (List.mem_reverse.1 hx)),h2,List.reverse_append]
  show (([z] ++ M1.reverse).dropWhile blankB).reverse = _
  rw [List.singleton_append,List.dropWhile_cons,if_neg (by rw [hz];decide)]
  simp
theorem joinS_snoc : ∀ (L : List Bs) (x : Bs),L ≠ [] → joinS (L ++ [x]) = joinS L ++ 10 :: x
 | [],_,h => absurd rfl h
 | [a],x,_ => rfl
 | a :: b :: L,x,_ => by
  have ih:=joinS_snoc (b :: L) x (by simp)
  show a ++ 10 :: joinS ((b :: L) ++ [x]) = (a ++ 10 :: joinS (b :: L)) ++ 10 :: x
  rw [ih]
  simp
def cutL (c : Nat) : List Bs → List Bs
 | [] => []
 | x :: xs => x :: xs.map (cutS c)
theorem cutL_len (c : Nat) (L : List Bs) : (cutL c L).length = L.length:=by cases L <;> simp [cutL]
theorem cutL_at (c : Nat) (L : List Bs) (i : Nat) (hi : i < L.length) : (cutL c L)[i]'(by rw [cutL_len];exact hi) = if i = 0 then L[i] else cutS c L[i]:=by
 cases L with
 | nil => simp at hi
 | cons x xs =>
  cases i with
  | zero => rfl
  | succ i => simp [cutL]
theorem blockS_cut (raw : Bs) : blockS raw = joinS (trimS (cutL ((commonS (linesS raw).tail none).getD 0) (linesS raw))):=by
 unfold blockS
 cases linesS raw with
 | nil => rfl
 | cons x xs => rfl
end
section
open Go Go.RowKit
theorem xindent_of (x : Bs) (hx : x.length ≤ 1048576) (w : World) : Calls Tryz.prog 92 #[.string ⟨x.toArray⟩] w fun e w' => e = .returned (.int .i64 ((indS x : Nat) : Int)) ∧ w' = w:=(xindent_any x (by omega) w).mono fun _ _ ⟨a,b⟩ => ⟨a,b.symm⟩
theorem mids_at {n : Nat} {R : List Bs} {f l : Int} (h : Mids n R f l) (hn : R.length ≤ n) : ∃ a : Nat,f = (a : Int) ∧ (∀ k : Nat,k ≤ (trimS R).length → ((a : Int) + (k : Int) ≤ l ↔ k < (trimS R).length)) ∧ (∀ k (hk : k < (trimS R).length),R[a + k]? = some (trimS R)[k]) ∧ a + (trimS R).length ≤ n:=by
 rcases h.trim with ⟨h1,h2,h3⟩ | ⟨A,M,C,h1,h2,h3,h4,h5⟩
 ·rw [h1]
  refine ⟨n,h2,fun k hk => ?_,fun k hk => by simp at hk,by simp⟩
  simp at hk
  subst hk
  rw [h3]
  simp
  omega
 ·rw [h2]
  have hM : 0 < M.length:=List.length_pos_iff.2 h3
  refine ⟨A.length,h4,fun k hk => by rw [h5];omega,fun k hk => ?_,by rw [h1] at hn;simp at hn;omega⟩
  rw [h1,List.append_assoc,List.getElem?_append_right (by omega),Nat.add_sub_cancel_left,List.getElem?_append_left hk,List.getElem?_eq_getElem hk]
theorem own_nob (w : World) : (w.alloc (.cells #[] 5)).ownsRow w.heap.size 5 1 (.slice (some ⟨w.heap.size,0,none⟩) 0 0) 0 (Lib.byteCells []) :=
 ⟨rfl,Or.inr ⟨w.heap.size,0,_,rfl,Nat.le_refl _,heap_alloc_new _ _,Nat.le_refl _,by decide,rfl,rfl⟩⟩
theorem take_next {R : List Bs} {j : Nat} (h : j < R.length) : R.take (j + 1) = R.take j ++ [R[j]]:=by rw [List.take_succ_eq_append_getElem h]
theorem row_next {R L : List Bs} {j : Nat} (h : j < L.length) (hR : R.length = L.length) : (R.take j ++ L.drop j).set j (R[j]'(by omega)) = R.take (j + 1) ++ L.drop (j + 1):=by
 rw [take_next (by omega),List.drop_eq_getElem_cons h,List.set_append_right _ _ (by rw [List.length_take];omega)]
 have e : j - (R.take j).length = 0:=by rw [List.length_take];omega
 rw [e,List.set_cons_zero,List.append_assoc]
 rfl
theorem row_first {R L : List Bs} (h1 : 0 < R.length) (h2 : 0 < L.length) (h : R[0] = L[0]) : R.take (0 + 1) ++ L.drop (0 + 1) = R.take 0 ++ L.drop 0:=by
 cases R with
 | nil => simp at h1
 | cons r R =>
  cases L with
  | nil => simp at h2
  | cons l L =>
   have e : r = l:=h
   subst e
   rfl
theorem not_none {w : World} {B e n : Nat} {v : Value} {xs : List Value} (h : w.ownsRow B e 1 v n xs) (hn : v ≠ .slice none 0 0) : ∃ g cap,v = .slice (some ⟨g,0,none⟩) n cap:=by
 rcases h.2 with ⟨h1,_⟩ | ⟨g,cap,cur,h1,_⟩
 ·exact absurd h1 hn
 ·exact ⟨g,cap,h1⟩
theorem join_next {M : List Bs} {k : Nat} (h : k < M.length) (hk : k ≠ 0) : joinS (M.take (k + 1)) = (joinS (M.take k) ++ [10]) ++ M[k]:=by
 rw [take_next h,joinS_snoc _ _ (fun e => hk (by have:=congrArg List.length e;rw [List.length_take,List.length_nil] at this;omega))]
 simp
theorem join_first {M : List Bs} (h : 0 < M.length) : joinS (M.take (0 + 1)) = joinS (M.take 0) ++ M[0]:=by
 cases M with
 | nil => simp at h
 | cons a M => rfl
theorem row_atV {R L : List Bs} {j : Nat} (h : j < L.length) (hR : R.length = L.length) (hh : j < (R.take j ++ L.drop j).length) : (R.take j ++ L.drop j)[j] = L[j]:=by
 rw [List.getElem_append_right (by rw [List.length_take];omega)]
 simp only [List.getElem_drop]
 congr 1
 rw [List.length_take]
 omega
theorem bel_n (w : World) (m : Nat) : Below w.heap.size w (w.drewN m):=⟨rfl,rfl,rfl,Nat.le_refl _,fun _ _ => rfl⟩
theorem bel_drewV {B : Nat} {w w' : World} (h : Below B w w') : Below B w w'.drew:=⟨h.os,h.tape,h.output,h.size,h.block⟩
def PostB (w : World) (T : Bs) (e : Ending) (w' : World) : Prop:=e = .returned (.string ⟨T.toArray⟩) ∧ Below w.heap.size w w'
set_option maxRecDepth 100000 in
set_option maxHeartbeats 8000000 in
theorem xblock_any (s : Bs) (hs : s.length ≤ 1048576) (w : World) : Calls Tryz.prog 66 #[.string ⟨s.toArray⟩] w (PostB w (blockS s)):=by
 obtain ⟨i1,hi1,hy0,hy1,hy2⟩:=info_parts Tryz.infoByte
 have LI:=xlines_any s hs w
 have hne : linesS s ≠ []:=split10_ne _
 obtain ⟨hn1,hn2⟩:=linesS_len s
 rw [blockS_cut]
 generalize linesS s = L at *
 have hLn : L.length ≤ 1048577:=by omega
 have hL0 : 1 ≤ L.length:=List.length_pos_iff.2 hne
 have hLx : ∀ x ∈ L,x.length ≤ 1048576:=fun x hx => Nat.le_trans (hn2 x hx) hs
 clear hn1 hn2 hs
 generalize hCM : (commonS L.tail none) = CM at *
 have HCM : Hid (commonS L.tail none = CM):=hCM
 clear hCM
 generalize (ByteArray.mk s.toArray) = D at *
 have hLI : (L.length : Int) ≤ 1048577:=by omega
 go_enter Tryz.func66,Tryz.ntmps66
 go_wp2_with (go_at_call 91;refine LI.mono ?_;rintro e w1 ⟨v,rfl,hown,hb1⟩;obtain ⟨g,cap,rfl,hcap,hB,hrow⟩:=RowC.of_own hown hne)
 clear LI hown
 go_loopw [4,5,6] (fun c a i wr => ∃ (j : Nat) (o : Option Nat),c = .int .i64 ((o.getD 0 : Nat) : Int) ∧ a = .bool o.isSome ∧ i = .int .i64 (j : Int) ∧ j ≤ L.length ∧ commonS (L.drop j) o = CM ∧ o.getD 0 ≤ 1048576 ∧ w1 = wr) (fun _ _ i _ => L.length - (RowKit.intOf i).toNat)
 case atStart => exact ⟨1,none,rfl,rfl,rfl,hL0,by rw [List.drop_one];exact HCM.out,by simp,rfl⟩
 case round =>
  obtain ⟨j,o,rfl,rfl,rfl,hj,hcm,ho,rfl⟩:=hrel
  by_cases hlt : j < L.length
  ·have hc:=hrow.cell j hlt
   have hxl:=hLx L[j] (List.getElem_mem hlt)
   have IN:=fun w => xindent_any L[j] (by omega) w
   have hsz:=size_of L[j]
   rw [List.drop_eq_getElem_cons hlt,commonS_cons] at hcm
   have hil:=indS_le L[j]
   have hbi:=blank_iff L[j]
   have hjI : (j : Int) < (L.length : Int):=by omega
   have HJ : Hid (j < L.length):=hlt
   generalize hX : L[j] = X at *
   clear hX hlt hj
   have HC : Hid (commonS (L.drop (j + 1)) (comStep o X) = CM):=hcm
   clear hcm
   have x1 : (X.length : Int) ≤ 1048576:=by omega
   have x2 : ((indS X : Nat) : Int) ≤ 1048576:=by omega
   unfold comStep at HC
   by_cases hbk : blankB X = true
   ·rw [if_pos hbk] at HC
    have n1 : ¬ ((indS X : Nat) : Int) < (X.length : Int):=by
     intro h
     have:=hbi.2 (by omega)
     rw [hbk] at this
     cases this
    have m1:=decide_eq_false n1
    have n0 : ¬ indS X < X.length:=by omega
    have m0:=decide_eq_false n0
    clear hbk hbi n1 hil
    generalize (ByteArray.mk X.toArray) = XB at *
    generalize indS X = N at *
    generalize hOS : o.isSome = OS at *
    generalize hOD : o.getD 0 = OD at *
    have HOS : Hid (o.isSome = OS ∧ o.getD 0 = OD):=⟨hOS,hOD⟩
    clear hOS hOD
    go_wp2_with (go_at_call 92;refine (IN _).mono ?_;rintro e w7 ⟨rfl,rfl⟩)
    refine ⟨⟨j + 1,o,by rw [HOS.out.2],by rw [HOS.out.1],by go_num,HJ.out,HC.out,by rw [HOS.out.2];exact ho,by trivial⟩,?_⟩
    have:=HJ.out
    simp [RowKit.intOf];omega
   ·rw [if_neg hbk] at HC
    have hbf : blankB X = false:=Bool.eq_false_iff.2 hbk
    have n0 : indS X < X.length:=hbi.1 hbf
    have n1 : ((indS X : Nat) : Int) < (X.length : Int):=by omega
    have m0:=decide_eq_true n0
    have m1:=decide_eq_true n1
    clear hbk hbi hil hbf
    generalize (ByteArray.mk X.toArray) = XB at *
    generalize indS X = N at *
    cases o with
    | none =>
     have HC : Hid (commonS (L.drop (j + 1)) (some N) = CM):=HC
     clear ho
     go_wp2_with (go_at_call 92;refine (IN _).mono ?_;rintro e w7 ⟨rfl,rfl⟩)
     refine ⟨⟨j + 1,some N,rfl,rfl,by go_num,HJ.out,HC.out,by show N ≤ 1048576;omega,by trivial⟩,?_⟩
     have:=HJ.out
     simp [RowKit.intOf];omega
    | some M =>
     have HC : Hid (commonS (L.drop (j + 1)) (if N < M then some N else some M) = CM):=HC
     have ho : M ≤ 1048576:=ho
     by_cases hNM : N < M
     ·rw [if_pos hNM] at HC
      have k0:=decide_eq_true hNM
      have k1 : (N : Int) < (M : Int):=by omega
      have k2:=decide_eq_true k1
      go_wp2_with (go_at_call 92;refine (IN _).mono ?_;rintro e w7 ⟨rfl,rfl⟩)
      refine ⟨⟨j + 1,some N,rfl,rfl,by go_num,HJ.out,HC.out,by show N ≤ 1048576;omega,by trivial⟩,?_⟩
      have:=HJ.out
      simp [RowKit.intOf];omega
     ·rw [if_neg hNM] at HC
      have k0:=decide_eq_false hNM
      have k1 : ¬ (N : Int) < (M : Int):=by omega
      have k2:=decide_eq_false k1
      go_wp2_with (go_at_call 92;refine (IN _).mono ?_;rintro e w7 ⟨rfl,rfl⟩)
      refine ⟨⟨j + 1,some M,rfl,rfl,by go_num,HJ.out,HC.out,ho,by trivial⟩,?_⟩
      have:=HJ.out
      simp [RowKit.intOf];omega
  ·obtain rfl : j = L.length:=by omega
   rw [List.drop_length] at hcm
   have hcm : o = CM:=hcm
   subst hcm
   clear hlt hj HCM
   generalize hC : o.getD 0 = C at *
   clear hC
   generalize hOS : o.isSome = OS at *
   clear hOS
   have hRl:=cutL_len C L
   have hRx : ∀ x ∈ cutL C L,x.length ≤ 1048576:=by
    intro x hx
    cases L with
    | nil => simp [cutL] at hx
    | cons a L' =>
     rcases List.mem_cons.1 hx with rfl | h
     ·exact hLx _ (by simp)
     ·obtain ⟨y,hy,rfl⟩:=List.mem_map.1 h
      have:=hLx y (by simp [hy])
      unfold cutS
      rw [List.length_drop];omega
   obtain ⟨R,hR,hRl,hRx,hRat⟩ : ∃ R,cutL C L = R ∧ R.length = L.length ∧ (∀ x ∈ R,x.length ≤ 1048576) ∧ (∀ j (h1 : j < L.length) (h2 : j < R.length),R[j]'h2 = if j = 0 then L[j] else cutS C L[j]):=⟨cutL C L,rfl,hRl,hRx,fun j h1 _ => cutL_at C L j h1⟩
   have HR : Hid (cutL C L = R):=hR
   clear hR
   go_wp2
   go_loopw [8,9,10] (fun f l i wr => ∃ (j : Nat) (F Z : Int),f = .int .i64 F ∧ l = .int .i64 Z ∧ i = .int .i64 (j : Int) ∧ j ≤ L.length ∧ Mids L.length (R.take j) F Z ∧ RowC wr g cap (R.take j ++ L.drop j) ∧ Below w.heap.size w wr) (fun _ _ i _ => L.length - (RowKit.intOf i).toNat)
   case atStart => exact ⟨0,_,_,rfl,rfl,rfl,Nat.zero_le _,Mids.no [] (by simp),hrow,hb1⟩
   case round =>
    obtain ⟨j,F,Z,rfl,rfl,rfl,hj,hM,hrw,hb⟩:=hrel
    clear hrow hb1
    by_cases hlt : j < L.length
    ·have hlt2 : j < R.length:=by omega
     have hx:=row_atV hlt hRl (by rw [List.length_append,List.length_take,List.length_drop];omega)
     have hc:=hrw.cell j (by rw [List.length_append,List.length_take,List.length_drop];omega)
     rw [hx] at hc
     have hf:=hrw.free j
     have hrn:=row_next hlt hRl
     have htn:=take_next hlt2
     have hyx:=hRat j hlt hlt2
     have hxl:=hLx L[j] (List.getElem_mem hlt)
     have hyl:=hRx R[j] (List.getElem_mem hlt2)
     have hjI : (j : Int) < (L.length : Int):=by omega
     have hj0 : (0 : Int) ≤ (j : Int):=by omega
     have HJ : Hid (j < L.length):=hlt
     have htl : (R.take j).length = j:=by rw [List.length_take];omega
     by_cases hz : j = 0
     ·subst hz
      rw [if_pos rfl] at hyx
      have hset : RowC wr g cap (R.take (0 + 1) ++ L.drop (0 + 1)):=by
       rw [row_first hlt2 hlt hyx]
       exact hrw
      have hsy:=size_of R[0]
      have IN:=fun w => xindent_of R[0] hyl w
      have hbi:=blank_iff R[0]
      have hmb:=fun (h : blankB R[0] = true) => hM.blank h
      have hmf:=fun (h : blankB R[0] = false) => hM.full h (by omega)
      rw [← htn,htl] at hmf
      rw [← htn] at hmb
      have x2 : (R[0].length : Int) ≤ 1048576:=by omega
      have hc3 : wr.cell? ⟨g,0,none⟩ = some (.string ⟨(R[0]).toArray⟩):=by rw [hyx];exact hc
      clear hrn htn hyx hx hM hrw hc
      generalize R[0] = Y at *
      clear hlt2 hj
      generalize (ByteArray.mk Y.toArray) = YB at *
      have hset2:=hset
      have hb2:=hb
      clear hset hb hf
      by_cases hbk : blankB Y = true
      ·have n0 : ¬ indS Y < Y.length:=fun h => by have:=hbi.2 h;rw [hbk] at this;cases this
       have m0:=decide_eq_false n0
       have n1 : ¬ ((indS Y : Nat) : Int) < (Y.length : Int):=by omega
       have m1:=decide_eq_false n1
       have hm2:=hmb hbk
       clear hmb hmf hbk hbi n0 n1
       go_wp2
       go_quiet ((go_at_call 92;exact Calls.quiet_of_same (IN _)))
       go_wp2
       refine ⟨⟨0 + 1,F,Z,rfl,rfl,by go_num,HJ.out,hm2,hset2.drewN nq,hb2.trans ((bel_n _ nq).mono hb2.size)⟩,?_⟩
       have:=HJ.out
       simp [RowKit.intOf];omega
      ·have hbf : blankB Y = false:=Bool.eq_false_iff.2 hbk
       have n0 : indS Y < Y.length:=hbi.1 hbf
       have m0:=decide_eq_true n0
       have n1 : ((indS Y : Nat) : Int) < (Y.length : Int):=by omega
       have m1:=decide_eq_true n1
       have hm2:=hmf hbf
       clear hmb hmf hbk hbi hbf
       go_wp2
       go_quiet ((go_at_call 92;exact Calls.quiet_of_same (IN _)))
       go_wp2
       refine ⟨⟨0 + 1,_,_,rfl,rfl,by go_num,HJ.out,hm2,hset2.drewN nq,hb2.trans ((bel_n _ nq).mono hb2.size)⟩,?_⟩
       have:=HJ.out
       simp [RowKit.intOf];omega
     ·rw [if_neg hz] at hyx
      have hj1 : (0 : Int) < (j : Int):=by omega
      have hset:=hrw.set j R[j]
      rw [hrn] at hset
      have hcut:=cut_bytes L[j] (min C L[j].length)
      have hcut' : (ByteArray.mk (L[j]).toArray).extract (min C L[j].length) L[j].length = ⟨(R[j]).toArray⟩:=by rw [hyx];exact hcut
      have hsz:=size_of L[j]
      have hmin : min (C : Int) (L[j].length : Int) = ((min C L[j].length : Nat) : Int):=by omega
      have hmI : ((min C L[j].length : Nat) : Int) ≤ (L[j].length : Int):=by omega
      have hm0 : (0 : Int) ≤ ((min C L[j].length : Nat) : Int):=by omega
      have hc2:=hset.cell j (by rw [List.length_append,List.length_take,List.length_drop];omega)
      have ey : (R.take (j + 1) ++ L.drop (j + 1))[j]'(by rw [List.length_append,List.length_take,List.length_drop];omega) = R[j]:=by
       rw [List.getElem_append_left (by rw [List.length_take];omega),List.getElem_take]
      rw [ey] at hc2
      have hsy:=size_of R[j]
      have IN:=fun w => xindent_of R[j] hyl w
      have hbi:=blank_iff R[j]
      have hmb:=fun (h : blankB R[j] = true) => hM.blank h
      have hmf:=fun (h : blankB R[j] = false) => hM.full h (by omega)
      rw [← htn,htl] at hmf
      rw [← htn] at hmb
      have x1 : (L[j].length : Int) ≤ 1048576:=by omega
      have x2 : (R[j].length : Int) ≤ 1048576:=by omega
      clear hrn htn hyx hcut hx hM hrw ey
      generalize min C L[j].length = M at *
      generalize R[j] = Y at *
      generalize L[j] = X at *
      clear hlt hlt2 hj
      generalize (ByteArray.mk X.toArray) = XB at *
      generalize (ByteArray.mk Y.toArray) = YB at *
      go_wp2
      go_region
      all_goals
       have hc3 : (wr.setCell ⟨g,j,none⟩ (.string YB)).drew.cell? ⟨g,j,none⟩ = some (.string YB):=hc2
       have hset2 : RowC ((wr.setCell ⟨g,j,none⟩ (.string YB)).drew) g cap (R.take (j + 1) ++ L.drop (j + 1)):=hset
       have hb2 : Below w.heap.size w ((wr.setCell ⟨g,j,none⟩ (.string YB)).drew):=bel_drewV (hb.setCell (p:=⟨g,j,none⟩) hB (.string YB))
       clear hset hc2 hc hf hb
       generalize (wr.setCell ⟨g,j,none⟩ (.string YB)).drew = W0 at *
       by_cases hbk : blankB Y = true
       ·have n0 : ¬ indS Y < Y.length:=fun h => by have:=hbi.2 h;rw [hbk] at this;cases this
        have m0:=decide_eq_false n0
        have n1 : ¬ ((indS Y : Nat) : Int) < (Y.length : Int):=by omega
        have m1:=decide_eq_false n1
        have hm2:=hmb hbk
        clear hmb hmf hbk hbi n0 n1
        go_wp2
        go_quiet ((go_at_call 92;exact Calls.quiet_of_same (IN _)))
        go_wp2
        refine ⟨⟨j + 1,F,Z,rfl,rfl,by go_num,HJ.out,hm2,hset2.drewN nq,hb2.trans ((bel_n _ nq).mono hb2.size)⟩,?_⟩
        have:=HJ.out
        simp [RowKit.intOf];omega
       ·have hbf : blankB Y = false:=Bool.eq_false_iff.2 hbk
        have n0 : indS Y < Y.length:=hbi.1 hbf
        have m0:=decide_eq_true n0
        have n1 : ((indS Y : Nat) : Int) < (Y.length : Int):=by omega
        have m1:=decide_eq_true n1
        have hm2:=hmf hbf
        clear hmb hmf hbk hbi hbf
        go_wp2
        go_quiet ((go_at_call 92;exact Calls.quiet_of_same (IN _)))
        go_wp2
        refine ⟨⟨j + 1,_,_,rfl,rfl,by go_num,HJ.out,hm2,hset2.drewN nq,hb2.trans ((bel_n _ nq).mono hb2.size)⟩,?_⟩
        have:=HJ.out
        simp [RowKit.intOf];omega
    ·obtain rfl : j = L.length:=by omega
     rw [List.take_of_length_le (by omega),List.drop_length,List.append_nil] at hrw
     rw [List.take_of_length_le (by omega)] at hM
     obtain ⟨a,rfl,hcond,hidx,han⟩:=mids_at hM (by omega)
     have HT : Hid (joinS (trimS (cutL C L)) = joinS (trimS R)):=by show _ = _;rw [HR.out]
     generalize trimS R = M at *
     have hMx : ∀ x ∈ M,x.length ≤ 1048576:=by
      intro x hx
      obtain ⟨k,hk,rfl⟩:=List.mem_iff_getElem.1 hx
      exact hRx _ (List.mem_of_getElem? (hidx k hk))
     have haI : (a : Int) ≤ 1048577:=by omega
     have hgl:=hrw.lt
     clear hM hlt hj hLx hRat
     generalize wr = wB at *
     go_wp2
     go_loopw [11,12] (fun o i wr3 => ∃ k : Nat,k ≤ M.length ∧ i = .int .i64 ((a + k : Nat) : Int) ∧ Bytes wr3 wB.heap.size o (joinS (M.take k)) ∧ o ≠ .slice none 0 0 ∧ Below wB.heap.size wB wr3) (fun _ i _ => a + M.length - (RowKit.intOf i).toNat)
     case atStart => exact ⟨0,Nat.zero_le _,rfl,own_nob wB,by simp,(Below.refl _ _).alloc (Nat.le_refl _) _⟩
     case round =>
      obtain ⟨k,hk,rfl,hor,hnn,hb3⟩:=hrel
      have hz3:=hb3.size
      have hcd:=hcond k hk
      have hjl:=joinS_len 1048576 (M.take k) (fun x hx => hMx x (List.mem_of_mem_take hx))
      rw [List.length_take] at hjl
      have hjl2 : (joinS (M.take k)).length ≤ 2000000000000:=by omega
      have e0 : (a : Int) + (k : Int) = ((a + k : Nat) : Int):=by omega
      rw [e0] at hcd
      by_cases hlt : k < M.length
      ·have hcd1:=hcd.2 hlt
       have hcd2:=decide_eq_true hcd1
       obtain ⟨hlr,hre⟩:=List.getElem?_eq_some_iff.1 (hidx k hlt)
       have hc:=(hrw.below hb3 hgl).cell (a + k) hlr
       rw [hre] at hc
       have hxl:=hMx M[k] (List.getElem_mem hlt)
       have hjn:=fun h => join_next hlt h
       have HF : Hid (∀ h : k = 0,joinS (M.take (k + 1)) = joinS (M.take k) ++ M[k]):=by
        intro h
        subst h
        exact join_first hlt
       have HN : Hid (∀ h : k ≠ 0,joinS (M.take (k + 1)) = (joinS (M.take k) ++ [10]) ++ M[k]):=fun h => hjn h
       have hsx:=size_of M[k]
       have HK : Hid (k < M.length):=hlt
       have q1 : ((a + k : Nat) : Int) < (L.length : Int):=by omega
       have q2 : (0 : Int) ≤ ((a + k : Nat) : Int):=by omega
       have q3 : ((a + k : Nat) : Int) ≤ 2000000:=by omega
       have HG : Hid (∀ w2,Below wB.heap.size wB w2 → w2.cell? ⟨g,a + k,none⟩ = some (.string ⟨(M[k]).toArray⟩)):=by
        intro w2 h2
        have h9:=(hrw.below h2 hgl).cell (a + k) hlr
        rw [hre] at h9
        exact h9
       clear hjn hre
       generalize M[k] = X at *
       clear hcd hlr hidx hcond
       by_cases hk0 : k = 0
       ·have f1 : ¬ ((a : Int) < ((a + k : Nat) : Int)):=by omega
        have f2:=decide_eq_false f1
        have f3 : ¬ a < a + k:=by omega
        have f4:=decide_eq_false f3
        have HX:=HF.out hk0
        clear HF HN hlt hk HG
        generalize hJ2 : joinS (M.take (k + 1)) = J2 at *
        have HJ2 : Hid (joinS (M.take (k + 1)) = J2):=hJ2
        clear hJ2
        generalize joinS (M.take k) = J at *
        have HX2 : Hid (J2 = J ++ X):=HX
        clear HX
        generalize hXB : (ByteArray.mk X.toArray) = XB at *
        generalize hak : a + k = K at *
        have HAK : Hid (a + k = K):=hak
        clear hak
        go_wp2_with (first
         | (at_builtin;refine Lib.wpList_append_own_string _ rfl _ _ 40 9 rfl wB.heap.size 5 i1 Tryz.underlying40 Tryz.underlying9 hi1 hy0 hy1 hy2 _ _ _ rfl hor XB rfl ?d1 ?d2 (by exact hz3) ?_)
         | fail)
        case d1 => unfold maxLen;omega
        case d2 => omega
        intro vb w2 hob2 hg2 hnil
        have hob3 : Bytes w2 wB.heap.size vb J2:=by
         unfold Bytes
         rw [HX2.out,cells_app,List.length_append,← strCells_eq X,hXB]
         exact hob2
        have hbr2 : Below wB.heap.size wB w2:=hb3.grown hg2 hz3 (own_ge hor)
        have hnn2 : vb ≠ .slice none 0 0:=by first | exact fun e => hnn (hnil.1 e).1 | exact hnil
        clear hob2 hg2 hnil hor
        go_wp2
        refine ⟨⟨k + 1,HK.out,congrArg (Value.int .i64) (by have:=HAK.out;omega),by rw [HJ2.out];exact hob3,hnn2,hbr2⟩,?_⟩
        have h5:=HAK.out
        have h6:=HK.out
        simp [RowKit.intOf]
        omega
       ·have f1 : ((a : Int) < ((a + k : Nat) : Int)):=by omega
        have f2:=decide_eq_true f1
        have f3 : a < a + k:=by omega
        have f4:=decide_eq_true f3
        have HX:=HN.out hk0
        clear HF HN hlt hk
        generalize hJ2 : joinS (M.take (k + 1)) = J2 at *
        have HJ2 : Hid (joinS (M.take (k + 1)) = J2):=hJ2
        clear hJ2
        generalize joinS (M.take k) = J at *
        have HX2 : Hid (J2 = (J ++ [10]) ++ X):=HX
        clear HX
        generalize hXB : (ByteArray.mk X.toArray) = XB at *
        generalize hak : a + k = K at *
        have HAK : Hid (a + k = K):=hak
        clear hak
        go_wp2_with (first
         | (at_builtin;refine wpList_append_own _ rfl _ _ 40 rfl wB.heap.size 5 i1 (.int .u8 0) 1 1 Tryz.underlying40 hi1 hy0 hy1 hy2 rfl (by decide) _ _ _ rfl (hor.alloc _) ⟨wr.heap.size,0,none⟩ 1 1 [.int .u8 10] rfl rfl ?c1 ?c2 ?c3 ?c4 ?c5 ?_)
         | fail)
        case c1 =>
         intro j u hj
         match j,hj with
         | 0,hj => simp at hj;subst hj;simp [Addr.add]
        case c2 => intro u hu;simp at hu;subst hu;rfl
        case c3 => unfold maxLen;first | omega | (simp;omega)
        case c4 => first | omega | (simp;omega)
        case c5 => first | omega | (simp;omega)
        intro v' w2 hown' hgrow' _
        have hor2 : Bytes w2 wB.heap.size v' (J ++ [10]):=by
         unfold Bytes
         rw [cells_app,List.length_append]
         exact hown'
        have hbr2 : Below wB.heap.size wB w2:=(hb3.alloc hz3 _).grown hgrow' (by simp;omega) (own_ge hor)
        have hnn2 : v' ≠ .slice none 0 0:=by
         intro e
         rcases hor2.2 with ⟨_,h0⟩ | ⟨g9,cap9,cur9,h9,_⟩
         ·simp at h0
         ·rw [h9] at e;cases e
        have hc2:=HG.out w2 hbr2
        have hz4:=hbr2.size
        have hJ2 : (J ++ [10]).length ≤ 2000000000001:=by rw [List.length_append,List.length_singleton];omega
        clear hown' hgrow' hor hnn HG hc
        generalize J ++ [10] = J3 at *
        go_wp2_with (first
         | (at_builtin;refine Lib.wpList_append_own_string _ rfl _ _ 40 9 rfl wB.heap.size 5 i1 Tryz.underlying40 Tryz.underlying9 hi1 hy0 hy1 hy2 _ _ _ rfl hor2 XB rfl ?e1 ?e2 (by exact hz4) ?_)
         | fail)
        case e1 => unfold maxLen;omega
        case e2 => omega
        intro vb w3 hob2 hg2 hnil
        have hob3 : Bytes w3 wB.heap.size vb J2:=by
         unfold Bytes
         rw [HX2.out,cells_app,List.length_append,← strCells_eq X,hXB]
         exact hob2
        have hbr3 : Below wB.heap.size wB w3:=hbr2.grown hg2 hz4 (own_ge hor2)
        have hnn3 : vb ≠ .slice none 0 0:=by first | exact fun e => hnn2 (hnil.1 e).1 | exact hnil
        clear hob2 hg2 hnil hor2
        go_wp2
        refine ⟨⟨k + 1,HK.out,congrArg (Value.int .i64) (by have:=HAK.out;omega),by rw [HJ2.out];exact hob3,hnn3,hbr3⟩,?_⟩
        have h5:=HAK.out
        have h6:=HK.out
        simp [RowKit.intOf]
        omega
      ·have hcd1 : ¬ ((a + k : Nat) : Int) ≤ Z:=fun h => hlt (hcd.1 h)
       have hcd2:=decide_eq_false hcd1
       rw [List.take_of_length_le (by omega)] at hor
       have HF : Hid ((ByteArray.mk (joinS M).toArray) = ⟨(joinS (trimS (cutL C L))).toArray⟩):=by show _ = _;rw [HT.out]
       obtain ⟨g9,cap9,rfl⟩:=not_none hor hnn
       have hcv:=conv_row hor
       generalize (joinS M).length = JL at *
       generalize (ByteArray.mk (joinS M).toArray) = E at *
       have hbz:=hb.size
       clear hcd hcond hidx hjl hjl2 hor hnn e0
       generalize a + k = K at *
       go_wp2
       go_ret
       exact ⟨by rw [← HF.out];rfl,hb.trans (hb3.mono hbz)⟩
end
end Go.Proofs.YtlabcadpkdgjnaaGreatDoor
