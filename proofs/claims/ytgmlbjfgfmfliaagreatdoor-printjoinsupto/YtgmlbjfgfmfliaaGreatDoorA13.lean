/- What a block string says: one line; all of them. -/
import Derived.Test.YtgmlbjfgfmfliaaGreatDoorA12
namespace Go.Proofs.YtgmlbjfgfmfliaaGreatDoor
open Go Go.RowKit
/-- The common indent as the loop keeps it: its number, and whether there is one. -/
def cmN (a : Option Nat) : Nat:=a.getD 0
theorem commonS_step (x : Bs) (xs : List Bs) (a : Option Nat) : commonS (x :: xs) a = commonS xs (if blankB x then a else match a with
  | none => some (indS x)
  | some n => if indS x < n then some (indS x) else some n):=rfl
set_option maxHeartbeats 2000000 in
theorem common_any (G o : Nat) (L : List Bs) (w : World) (h : StrRow w G L) (ho : o ≤ L.length) (hs : ∀ x ∈ L,x.length ≤ 4294967280) (hn : L.length ≤ 4294967281) :
  Calls Tryz.prog 207 #[.slice (some ⟨G,o,none⟩) (L.length - o) (L.length - o)] w fun e w' => e = .returned (.int .i64 ((cmN (commonS (L.drop o) none) : Nat) : Int)) ∧ Below w.heap.size w w':=by
 have hG:=h.lt
 have hlen : (L.drop o).length = L.length - o:=List.length_drop
 go_enter Tryz.func207,Tryz.ntmps207
 go_wp2
 go_loopw [3,4,10] (fun c f i wr => ∃ (j : Nat) (a : Option Nat),j ≤ L.length - o ∧ i = .int .i64 j ∧ c = .int .i64 ((cmN a : Nat) : Int) ∧ f = .bool a.isSome ∧ commonS ((L.drop o).drop j) a = commonS (L.drop o) none ∧ Below w.heap.size w wr) (fun _ _ i _ => L.length - o - (intOf i).toNat)
 case atStart => exact ⟨0,none,Nat.zero_le _,rfl,rfl,rfl,rfl,Below.refl _ _⟩
 case round =>
  obtain ⟨j,a,hj,rfl,rfl,rfl,hc,hb⟩:=hrel
  by_cases hlt : j < L.length - o
  ·have hx : (L.drop o).drop j = (L.drop o)[j] :: (L.drop o).drop (j + 1):=List.drop_eq_getElem_cons (by rw [hlen];exact hlt)
   have hcell:=(h.below hb hG).cell (o + j) (by omega)
   have hge : (L.drop o)[j] = L[o + j]:=List.getElem_drop
   have hxl : (L[o + j]).length ≤ 4294967280:=hs _ (List.getElem_mem _)
   rw [hx,hge,commonS_step] at hc
   have I:=fun w => indent_any (L[o + j]) hxl w
   have B:=fun w => blank_any (L[o + j]) hxl w
   have hI : (j : Int) < ((L.length - o : Nat) : Int):=by omega
   have HC:=hc
   clear hx hge hc
   generalize L[o + j] = x at *
   have HLT : Hid (j < L.length - o):=hlt
   clear hlt hj
   have hin : (0 : Int) ≤ ((indS x : Nat) : Int):=by omega
   by_cases hbl : blankB x = true
   ·rw [hbl] at B HC
    have HH : Hid (commonS ((L.drop o).drop (j + 1)) a = commonS (L.drop o) none):=HC
    clear HC hbl
    go_wp2_with (first
     | (go_at_call 208;refine (B _).mono ?_;rintro e w2 ⟨rfl,hb2⟩)
     | (go_at_call 220;refine (I _).mono ?_;rintro e w1 ⟨rfl,hb1⟩)
     | fail)
    refine ⟨⟨j + 1,a,HLT.out,by go_num,rfl,rfl,HH.out,(hb.trans (hb1.mono hb.size)).trans (hb2.mono (Nat.le_trans hb.size hb1.size))⟩,?_⟩
    have:=HLT.out
    simp [intOf];omega
   ·have hbl' : blankB x = false:=Bool.eq_false_iff.2 hbl
    rw [hbl'] at B HC
    cases a with
    | none =>
     have HH : Hid (commonS ((L.drop o).drop (j + 1)) (some (indS x)) = commonS (L.drop o) none):=HC
     clear HC hbl hbl'
     go_wp2_with (first
      | (go_at_call 208;refine (B _).mono ?_;rintro e w2 ⟨rfl,hb2⟩)
      | (go_at_call 220;refine (I _).mono ?_;rintro e w1 ⟨rfl,hb1⟩)
      | fail)
     refine ⟨⟨j + 1,some (indS x),HLT.out,by go_num,rfl,rfl,HH.out,(hb.trans (hb1.mono hb.size)).trans (hb2.mono (Nat.le_trans hb.size hb1.size))⟩,?_⟩
     have:=HLT.out
     simp [intOf];omega
    | some n =>
     by_cases hlt2 : indS x < n
     ·have HH : Hid (commonS ((L.drop o).drop (j + 1)) (some (indS x)) = commonS (L.drop o) none):=by
       show _ = _
       rw [← HC]
       simp [hlt2]
      have hd : ((indS x : Nat) : Int) < ((cmN (some n) : Nat) : Int):=by show ((indS x : Nat) : Int) < (n : Int);omega
      clear HC hbl hbl' hlt2
      go_wp2_with (first
       | (go_at_call 208;refine (B _).mono ?_;rintro e w2 ⟨rfl,hb2⟩)
       | (go_at_call 220;refine (I _).mono ?_;rintro e w1 ⟨rfl,hb1⟩)
       | fail)
      refine ⟨⟨j + 1,some (indS x),HLT.out,by go_num,rfl,rfl,HH.out,(hb.trans (hb1.mono hb.size)).trans (hb2.mono (Nat.le_trans hb.size hb1.size))⟩,?_⟩
      have:=HLT.out
      simp [intOf];omega
     ·have HH : Hid (commonS ((L.drop o).drop (j + 1)) (some n) = commonS (L.drop o) none):=by
       show _ = _
       rw [← HC]
       simp [hlt2]
      have hd : ¬ ((indS x : Nat) : Int) < ((cmN (some n) : Nat) : Int):=by show ¬ ((indS x : Nat) : Int) < (n : Int);omega
      clear HC hbl hbl' hlt2
      go_wp2_with (first
       | (go_at_call 208;refine (B _).mono ?_;rintro e w2 ⟨rfl,hb2⟩)
       | (go_at_call 220;refine (I _).mono ?_;rintro e w1 ⟨rfl,hb1⟩)
       | fail)
      refine ⟨⟨j + 1,some n,HLT.out,by go_num,rfl,rfl,HH.out,(hb.trans (hb1.mono hb.size)).trans (hb2.mono (Nat.le_trans hb.size hb1.size))⟩,?_⟩
      have:=HLT.out
      simp [intOf];omega
  ·obtain rfl : j = L.length - o:=by omega
   have HH : Hid (a = commonS (L.drop o) none):=by
    show _ = _
    rw [← hc,← hlen,List.drop_length];rfl
   clear hc
   go_wp2
   go_ret
   exact ⟨by rw [← HH.out];rfl,hb⟩
end Go.Proofs.YtgmlbjfgfmfliaaGreatDoor
namespace Go.Proofs.YtgmlbjfgfmfliaaGreatDoor
open Go Go.RowKit
theorem normS_len : ∀ (n : Nat) (l : Bs),l.length ≤ n → (normS l).length ≤ l.length
 | _,[],_ => by simp [normS]
 | _,[c],_ => by simp [normS]
 | 0,_ :: _ :: _,h => by simp at h
 | n + 1,c :: d :: l,h => by
  simp only [List.length_cons] at h
  have h1:=normS_len n l (by omega)
  have h2:=normS_len n (d :: l) (by simp;omega)
  unfold normS
  simp only [List.length_cons] at h2 ⊢
  repeat' split
  all_goals simp only [List.length_cons];omega
theorem split10_len : ∀ l : Bs,(split10 l).length ≤ l.length + 1 ∧ ∀ x ∈ split10 l,x.length ≤ l.length
 | [] => by simp [split10]
 | c :: l => by
  obtain ⟨h1,h2⟩:=split10_len l
  unfold split10
  split
  ·refine ⟨by simp;omega,?_⟩
   intro x hx
   rcases List.mem_cons.1 hx with rfl | hx
   ·simp
   ·have:=h2 x hx;simp;omega
  ·cases hs : split10 l with
   | nil => exact ⟨by simp,by simp⟩
   | cons y ys =>
    rw [hs] at h1 h2
    refine ⟨by simp at h1 ⊢;omega,?_⟩
    intro x hx
    rcases List.mem_cons.1 hx with rfl | hx
    ·have:=h2 y List.mem_cons_self;simp;omega
    ·have:=h2 x (List.mem_cons_of_mem _ hx);simp;omega
theorem linesS_len (l : Bs) : (linesS l).length ≤ l.length + 1 ∧ ∀ x ∈ linesS l,x.length ≤ l.length:=by
 obtain ⟨h1,h2⟩:=split10_len (normS l)
 have h3:=normS_len _ l (Nat.le_refl _)
 exact ⟨by show (split10 (normS l)).length ≤ _;omega,fun x hx => Nat.le_trans (h2 x hx) h3⟩
theorem joinS_len (k : Nat) : ∀ xs : List Bs,(∀ x ∈ xs,x.length ≤ k) → (joinS xs).length ≤ xs.length * (k + 1)
 | [],_ => by simp [joinS]
 | [x],h => by have:=h x List.mem_cons_self;simp [joinS];omega
 | x :: y :: xs,h => by
  have h1:=h x List.mem_cons_self
  have h2:=joinS_len k (y :: xs) (fun z hz => h z (List.mem_cons_of_mem _ hz))
  show (x ++ 10 :: joinS (y :: xs)).length ≤ _
  rw [List.length_append,List.length_cons]
  simp only [List.length_cons] at h2 ⊢
  rw [Nat.add_mul (xs.length + 1) 1 (k + 1)]
  omega
/-- Without the blank ones at the end. -/
def trimE (L : List Bs) : List Bs:=(L.reverse.dropWhile blankB).reverse
theorem trimE_snoc (L : List Bs) (x : Bs) : trimE (L ++ [x]) = if blankB x then trimE L else L ++ [x]:=by
 unfold trimE
 rw [List.reverse_append]
 show ((x :: L.reverse).dropWhile blankB).reverse = _
 rw [List.dropWhile_cons]
 split
 ·rfl
 ·simp
theorem trimS_eq (L : List Bs) : trimS L = trimE (L.dropWhile blankB):=rfl
theorem cut_bytes (x : Bs) (k : Nat) : (ByteArray.mk x.toArray).extract k x.length = ⟨(x.drop k).toArray⟩:=by
 apply ByteArray.ext;apply Array.toList_inj.1
 simp
 exact List.take_of_length_le (by simp)
/-- The lines when j of them are cut. -/
def doneL (C : Nat) (x : Bs) (xs : List Bs) (j : Nat) : List Bs:=x :: ((xs.take j).map (cutS C) ++ xs.drop j)
theorem doneL_len (C : Nat) (x : Bs) (xs : List Bs) (j : Nat) : (doneL C x xs j).length = xs.length + 1:=by
 unfold doneL;simp;omega
theorem doneL_at (C : Nat) (x : Bs) (xs : List Bs) (j : Nat) (h : j < xs.length) : ∀ h2,(doneL C x xs j)[1 + j]'h2 = xs[j]:=by
 intro h2
 unfold doneL
 simp only [Nat.add_comm 1 j,List.getElem_cons_succ]
 rw [List.getElem_append_right (by simp;omega)]
 simp [List.getElem_drop]
 congr 1
 omega
theorem doneL_set (C : Nat) (x : Bs) (xs : List Bs) (j : Nat) (h : j < xs.length) : (doneL C x xs j).set (1 + j) (cutS C xs[j]) = doneL C x xs (j + 1):=by
 unfold doneL
 rw [Nat.add_comm 1 j,List.set_cons_succ,List.set_append_right _ _ (by simp;omega)]
 congr 1
 have e : j - ((xs.take j).map (cutS C)).length = 0:=by simp;omega
 rw [e,List.drop_eq_getElem_cons h,List.set_cons_zero,List.take_succ_eq_append_getElem h,List.map_append]
 simp
theorem common_zero (p : Addr) (w : World) : Calls Tryz.prog 207 #[.slice (some p) 0 0] w fun e w' => e = .returned (.int .i64 0) ∧ Below w.heap.size w w':=by
 go_enter Tryz.func207,Tryz.ntmps207
 go_wp2
 go_loopw [3,10] (fun c i wr => c = .int .i64 0 ∧ i = .int .i64 0 ∧ wr = w) (fun _ _ _ => 0)
 case atStart => exact ⟨rfl,rfl,rfl⟩
 case round =>
  obtain ⟨rfl,rfl,rfl⟩:=hrel
  go_wp2
  go_ret
  exact ⟨rfl,Below.refl _ _⟩
theorem join_any (G o m k : Nat) (LL : List Bs) (w : World) (h : StrRow w G LL) (hk : o + k ≤ LL.length) (hkm : k ≤ m) (hs : ∀ y ∈ LL,y.length ≤ 1048576) (hn : LL.length ≤ 1048577) :
  Calls Tryz.prog 44 #[.slice (some ⟨G,o,none⟩) k m,.string ⟨#[10]⟩] w fun e w' => e = .returned (.string ⟨(joinS ((LL.drop o).take k)).toArray⟩) ∧ Below w.heap.size w w':=by
 have hlen : (((LL.drop o).take k).map fun x => ByteArray.mk x.toArray).length = k:=by simp;omega
 have hmap : ((((LL.drop o).take k).map fun x => ByteArray.mk x.toArray).map (·.data.toList)) = (LL.drop o).take k:=by
  rw [List.map_map]
  exact List.map_id'' (fun _ => rfl) _
 have hj:=joinS_len 1048576 ((LL.drop o).take k) (fun y hy => hs y (List.mem_of_mem_drop (List.mem_of_mem_take hy)))
 have hj2 : (joinS ((LL.drop o).take k)).length ≤ 1048577 * 1048577:=by
  have : ((LL.drop o).take k).length ≤ 1048577:=by simp;omega
  exact Nat.le_trans hj (Nat.mul_le_mul_right _ this)
 have J:=Tryz.strings_Join G o m (((LL.drop o).take k).map fun x => ByteArray.mk x.toArray) ⟨#[10]⟩ w (fun j x hx => by
  rw [List.getElem?_map] at hx
  cases hg : ((LL.drop o).take k)[j]? with
  | none => rw [hg] at hx;cases hx
  | some y =>
   rw [hg] at hx
   simp only [Option.map_some,Option.some.injEq] at hx
   subst hx
   obtain ⟨hj,hy⟩:=List.getElem?_eq_some_iff.1 hg
   simp at hj
   have hc:=h.cell (o + j) (by omega)
   rw [hc]
   have : LL[o + j] = y:=by rw [← hy];simp
   rw [this]) h.lt (by rw [hlen];omega) (by rw [hlen];exact hkm) (by
   rw [hmap,show (ByteArray.mk #[10]).data.toList = [10] from rfl,join_eq]
   omega)
 rw [hlen,hmap,show (ByteArray.mk #[10]).data.toList = [10] from rfl,join_eq] at J
 exact J
/-- What is left of the blank lines at the beginning: a slice from o on. -/
structure From (w : World) (G : Nat) (L : List Bs) (wr : World) (v : Value) (o p m : Nat) : Prop where
 row : StrRow wr G L
 bel : Below w.heap.size w wr
 val : v = .slice (some ⟨G,p,none⟩) m m
 len : m = L.length - o
 le : o ≤ L.length
 at0 : m ≠ 0 → p = o
 eq : (L.drop o).dropWhile blankB = L.dropWhile blankB
/-- .. and at the end. -/
structure Upto (w : World) (G : Nat) (L : List Bs) (wr : World) (v : Value) (o p m k : Nat) : Prop where
 row : StrRow wr G L
 bel : Below w.heap.size w wr
 val : v = .slice (some ⟨G,p,none⟩) k m
 le : k ≤ m
 eq : trimE ((L.drop o).take k) = trimE (L.drop o)
set_option maxHeartbeats 4000000 in
theorem block_walk (l : Bs) (x : Bs) (xs : List Bs) (hx : linesS l = x :: xs) (hl : l.length ≤ 1048576) (hxs : xs ≠ []) (T : Bs) (hT : joinS (trimS (doneL (cmN (commonS xs none)) x xs xs.length)) = T) (w : World) (g : Gl w) : Calls Tryz.prog 182 #[.string ⟨l.toArray⟩] w fun e w' => e = .returned (.string ⟨T.toArray⟩) ∧ Below w.heap.size w w':=by
 obtain ⟨hn,hs⟩:=linesS_len l
 have LO:=linesOf_any l (by omega) w g
 rw [hx] at LO hn hs
 have CO:=fun (G : Nat) (w1 : World) (h : StrRow w1 G (x :: xs)) => common_any G 1 (x :: xs) w1 h (by simp) (fun y hy => by have:=hs y hy;omega) (by omega)
 have CO' : ∀ (G : Nat) (w1 : World) (h : StrRow w1 G (x :: xs)),Calls Tryz.prog 207 #[.slice (some ⟨G,1,none⟩) xs.length xs.length] w1 fun e w' => e = .returned (.int .i64 ((cmN (commonS xs none) : Nat) : Int)) ∧ Below w1.heap.size w1 w':=CO
 clear CO
 generalize cmN (commonS xs none) = C at *
 have HT : Hid (joinS (trimS (doneL C x xs xs.length)) = T):=hT
 clear hT
 have hxl : xs.length ≤ 1048576:=by simp at hn;omega
 have hxI : (xs.length : Int) ≤ 1048576:=by omega
 have hlx : (x :: xs).length = xs.length + 1:=rfl
 rw [hlx] at LO
 have hsl : ∀ (i : Nat) (hi : i < xs.length),xs[i].length ≤ 1048576:=fun i hi => by have:=hs _ (List.mem_cons_of_mem _ (List.getElem_mem hi));omega
 have hsx : x.length ≤ 1048576:=by have:=hs x List.mem_cons_self;omega
 have HS : Hid (∀ y ∈ doneL C x xs xs.length,y.length ≤ 1048576):=by
  intro y hy
  unfold doneL at hy
  rw [List.take_length,List.drop_length,List.append_nil] at hy
  rcases List.mem_cons.1 hy with rfl | hy
  ·exact hsx
  ·obtain ⟨z,hz,rfl⟩:=List.mem_map.1 hy
   have:=hs z (List.mem_cons_of_mem _ hz)
   unfold cutS
   rw [List.length_drop];omega
 clear hx hlx hs hn hl g
 go_enter Tryz.func182,Tryz.ntmps182
 go_wp2_with (first
  | (go_at_call 207;refine (CO' G _ hrow).mono ?_;rintro e w2 ⟨rfl,hb2⟩)
  | (go_at_call 206;refine LO.mono ?_;rintro e w1 ⟨⟨G,hG,rfl,hrow⟩,hb1⟩)
  | fail)
 have hrow2:=hrow.below hb2 hrow.lt
 have hb12:=hb1.trans (hb2.mono hb1.size)
 clear LO CO' hrow hb1 hb2 w1
 go_loopw [15] (fun i wr => ∃ j : Nat,j ≤ xs.length ∧ i = .int .i64 j ∧ StrRow wr G (doneL C x xs j) ∧ Below w.heap.size w wr) (fun i _ => xs.length - (intOf i).toNat)
 case atStart => exact ⟨0,Nat.zero_le _,rfl,hrow2,hb12⟩
 case round =>
  obtain ⟨j,hj,rfl,hrow,hb⟩:=hrel
  clear hrow2 hb12
  by_cases hlt : j < xs.length
  ·have hjI : (j : Int) < (xs.length : Int):=by omega
   have hc:=hrow.cell (1 + j) (by rw [doneL_len];omega)
   rw [doneL_at C x xs j hlt] at hc
   have hf:=hrow.free (1 + j)
   have hyl:=hsl j hlt
   have hset:=hrow.set (1 + j) (cutS C xs[j])
   rw [doneL_set C x xs j hlt] at hset
   have hcut:=cut_bytes xs[j] (min C xs[j].length)
   have hcut' : (ByteArray.mk (xs[j]).toArray).extract (min C xs[j].length) xs[j].length = ⟨(cutS C xs[j]).toArray⟩:=hcut
   have hsz:=size_of xs[j]
   have hmin : min (C : Int) (xs[j].length : Int) = ((min C xs[j].length : Nat) : Int):=by omega
   have hmI : ((min C xs[j].length : Nat) : Int) ≤ (xs[j].length : Int):=by omega
   have hm0 : (0 : Int) ≤ ((min C xs[j].length : Nat) : Int):=by omega
   have e1 : (j : Int) + 1 = ((1 + j : Nat) : Int):=by omega
   have HST : Hid (StrRow (wr.setCell ⟨G,1 + j,none⟩ (.string ⟨(cutS C xs[j]).toArray⟩)) G (doneL C x xs (j + 1))):=hset
   clear hset hcut
   generalize min C xs[j].length = M at *
   generalize cutS C xs[j] = Y at *
   generalize xs[j] = X at *
   have HL : Hid (j < xs.length):=hlt
   clear hlt
   go_wp2
   refine ⟨⟨j + 1,HL.out,by go_num,HST.out,hb.setCell (p:=⟨G,1 + j,none⟩) hG _⟩,?_⟩
   have:=HL.out
   simp [intOf];omega
  ·obtain rfl : j = xs.length:=by omega
   clear hlt hj
   have hLL:=doneL_len C x xs xs.length
   obtain ⟨LL,hLL2⟩ : ∃ LL,doneL C x xs xs.length = LL:=⟨_,rfl⟩
   rw [hLL2] at hrow HS hLL HT
   clear hLL2 hsl hsx
   have hnI : (LL.length : Int) ≤ 1048577:=by omega
   go_wp2
   go_loopw [3] (fun v wr => ∃ o p m,From w G LL wr v o p m) (fun v _ => (match v with | .slice _ m _ => m | _ => 0))
   case atStart => exact ⟨0,0,LL.length,hrow,hb,by rw [hLL],rfl,Nat.zero_le _,fun _ => rfl,rfl⟩
   case round =>
    obtain ⟨o,p,m,hF⟩:=hrel
    clear hrow hb
    have hv:=hF.val
    subst hv
    have hrow:=hF.row
    have hb:=hF.bel
    have hmI : (m : Int) ≤ 1048577:=by have:=hF.len;omega
    have HF : Hid (From w G LL wr (.slice (some ⟨G,p,none⟩) m m) o p m):=hF
    by_cases hm : m = 0
    ·have HQ : Hid (T = []):=by
      show T = []
      rw [← HT.out,trimS_eq,← hF.eq]
      have : LL.drop o = []:=List.drop_eq_nil_iff.2 (by have:=hF.len;have:=hF.le;omega)
      rw [this];rfl
     clear hF HF
     subst hm
     go_wp2
     go_loopw [3] (fun v wr => v = .slice (some ⟨G,p,none⟩) 0 0 ∧ Below w.heap.size w wr) (fun _ _ => 0)
     case atStart => exact ⟨rfl,hb⟩
     case round =>
      obtain ⟨rfl,hb3⟩:=hrel
      have J:=fun w3 => Tryz.strings_Join_none (some ⟨G,p,none⟩) 0 ⟨#[10]⟩ w3
      go_wp2_with (go_at_call 44;refine (J _).mono ?_;rintro e w5 ⟨rfl,rfl⟩)
      go_ret
      exact ⟨by rw [HQ.out];rfl,hb3⟩
    ·have hp:=hF.at0 hm
     subst hp
     have hlen:=hF.len
     have hpl : p < LL.length:=by omega
     have hc:=hrow.cell p hpl
     have hyl : (LL[p]).length ≤ 4294967280:=by have:=HS.out _ (List.getElem_mem hpl);omega
     have B:=fun w => blank_any LL[p] hyl w
     have hcons : LL.drop p = LL[p] :: LL.drop (p + 1):=List.drop_eq_getElem_cons hpl
     by_cases hbl : blankB LL[p] = true
     ·rw [hbl] at B
      have heq : (LL.drop (p + 1)).dropWhile blankB = LL.dropWhile blankB:=by
       rw [← hF.eq,hcons,List.dropWhile_cons,if_pos hbl]
      have HE : Hid ((LL.drop (p + 1)).dropWhile blankB = LL.dropWhile blankB):=heq
      have HM : Hid (m = LL.length - p):=hlen
      have HP : Hid (p < LL.length):=hpl
      clear hcons heq hF hlen hbl HF
      generalize LL[p] = X at *
      clear hpl
      have hm0 : (0 : Int) < (m : Int):=by omega
      by_cases hm1 : m = 1
      ·subst hm1
       go_wp2_with (go_at_call 208;refine (B _).mono ?_;rintro e w1 ⟨rfl,hb1⟩)
       refine ⟨⟨p + 1,p,0,hrow.below hb1 hrow.lt,hb.trans (hb1.mono hb.size),rfl,by have:=HM.out;omega,HP.out,fun h => absurd rfl h,HE.out⟩,?_⟩
       show 0 < 1
       decide
      ·obtain ⟨q,rfl⟩ : ∃ q,m = q + 2:=⟨m - 2,by omega⟩
       have z1 : (0 : Int) < (q : Int) + 2:=by omega
       have z2 : (q : Int) + 2 ≤ 1048577:=by omega
       have z3 : (1 : Int) ≤ (q : Int) + 2:=by omega
       clear hm hm1 hm0 hmI
       go_wp2_with (go_at_call 208;refine (B _).mono ?_;rintro e w1 ⟨rfl,hb1⟩)
       refine ⟨⟨p + 1,p + 1,q + 1,hrow.below hb1 hrow.lt,hb.trans (hb1.mono hb.size),?_,by have:=HM.out;omega,HP.out,fun _ => rfl,HE.out⟩,?_⟩
       ·rfl
       ·show q + 1 < q + 2
        omega
     ·have hbl' : blankB LL[p] = false:=Bool.eq_false_iff.2 hbl
      rw [hbl'] at B
      have hD : LL.drop p = LL.dropWhile blankB:=by
       rw [← hF.eq,hcons,List.dropWhile_cons,if_neg hbl]
      clear hcons hF hlen hbl hbl'
      generalize LL[p] = X at *
      have hm0 : (0 : Int) < (m : Int):=by omega
      go_wp2_with (go_at_call 208;refine (B _).mono ?_;rintro e w1 ⟨rfl,hb1⟩)
      have hrow1:=hrow.below hb1 hrow.lt
      have hb2:=hb.trans (hb1.mono hb.size)
      have HT2 : Hid (joinS (trimE (LL.drop p)) = T):=by
       show _ = _
       rw [hD]
       exact HT.out
      have HML : Hid (m = LL.length - p):=HF.out.len
      clear hD HF hc hyl B hb hrow hmI hm hm0
      go_loopw [3] (fun v wr => ∃ k,Upto w G LL wr v p p m k) (fun v _ => (match v with | .slice _ m _ => m | _ => 0))
      case atStart => exact ⟨m,hrow1,hb2,rfl,Nat.le_refl _,by rw [List.take_of_length_le (by rw [List.length_drop,HML.out];exact Nat.le_refl _)]⟩
      case round =>
       clear hb2 hrow1 hb1
       obtain ⟨k,hU⟩:=hrel
       have hv:=hU.val
       subst hv
       have hrow3:=hU.row
       have hb3:=hU.bel
       have hkm:=hU.le
       by_cases hk : k = 0
       ·subst hk
        have HQ : Hid (T = []):=by
         show T = []
         rw [← HT2.out,← hU.eq]
         rfl
        have J:=fun w3 => Tryz.strings_Join_none (some ⟨G,p,none⟩) m ⟨#[10]⟩ w3
        clear hU
        go_wp2_with (go_at_call 44;refine (J _).mono ?_;rintro e w5 ⟨rfl,rfl⟩)
        go_ret
        exact ⟨by rw [HQ.out];rfl,hb3⟩
       ·obtain ⟨q,rfl⟩ : ∃ q,k = q + 1:=⟨k - 1,by omega⟩
        have hml:=HML.out
        have hidx : p + q < LL.length:=by omega
        have hc3:=hrow3.cell (p + q) hidx
        have hyl3 : (LL[p + q]).length ≤ 4294967280:=by have:=HS.out _ (List.getElem_mem hidx);omega
        have B3:=fun w => blank_any LL[p + q] hyl3 w
        have htake : (LL.drop p).take (q + 1) = (LL.drop p).take q ++ [LL[p + q]]:=by
         rw [List.take_succ_eq_append_getElem (by rw [List.length_drop];omega),List.getElem_drop]
        have kI3 : (q : Int) + 1 ≤ (m : Int):=by omega
        have kI4 : (q : Int) ≤ (m : Int):=by omega
        have kI5 : (m : Int) ≤ 1048577:=by omega
        have J:=fun w3 (h3 : StrRow w3 G LL) => join_any G p m (q + 1) LL w3 h3 (by omega) hkm HS.out (by omega)
        by_cases hbl3 : blankB LL[p + q] = true
        ·rw [hbl3] at B3
         have HE3 : Hid (trimE ((LL.drop p).take q) = trimE (LL.drop p)):=by
          show _ = _
          rw [← hU.eq,htake,trimE_snoc,if_pos hbl3]
         have HKM : Hid (q ≤ m):=by show _ ≤ _;omega
         clear hU htake hbl3 J hml hk
         generalize LL[p + q] = X at *
         clear hidx hkm
         go_wp2_with (go_at_call 208;refine (B3 _).mono ?_;rintro e w5 ⟨rfl,hb5⟩)
         refine ⟨⟨q,hrow3.below hb5 hrow3.lt,hb3.trans (hb5.mono hb3.size),rfl,HKM.out,HE3.out⟩,?_⟩
         show q < q + 1
         omega
        ·have hbl3' : blankB LL[p + q] = false:=Bool.eq_false_iff.2 hbl3
         rw [hbl3'] at B3
         have HQ : Hid (joinS ((LL.drop p).take (q + 1)) = T):=by
          show _ = T
          rw [← HT2.out,← hU.eq,htake,trimE_snoc,if_neg hbl3]
         rw [HQ.out] at J
         clear hU htake hbl3 hbl3' hml hk
         generalize LL[p + q] = X at *
         clear hidx hkm
         go_wp2_with (first
          | (go_at_call 44;refine (J _ hrow5).mono ?_;rintro e w6 ⟨rfl,hb6⟩)
          | (go_at_call 208;refine (B3 _).mono ?_;rintro e w5 ⟨rfl,hb5⟩;have hrow5:=hrow3.below hb5 hrow3.lt)
          | fail)
         go_ret
         exact ⟨rfl,(hb3.trans (hb5.mono hb3.size)).trans (hb6.mono (Nat.le_trans hb3.size hb5.size))⟩
end Go.Proofs.YtgmlbjfgfmfliaaGreatDoor
namespace Go.Proofs.YtgmlbjfgfmfliaaGreatDoor
open Go Go.RowKit
set_option maxHeartbeats 4000000 in
theorem block_one (l : Bs) (x : Bs) (hx : linesS l = [x]) (hl : l.length ≤ 1048576) (T : Bs) (hT : joinS (trimS [x]) = T) (w : World) (g : Gl w) : Calls Tryz.prog 182 #[.string ⟨l.toArray⟩] w fun e w' => e = .returned (.string ⟨T.toArray⟩) ∧ Below w.heap.size w w':=by
 obtain ⟨hn,hs⟩:=linesS_len l
 have LO:=linesOf_any l (by omega) w g
 rw [hx] at LO hn hs
 have hsx : x.length ≤ 1048576:=by have:=hs x List.mem_cons_self;omega
 have HT : Hid (T = if blankB x then [] else x):=by
  show T = _
  rw [← hT]
  show joinS (trimE ([x].dropWhile blankB)) = _
  rw [List.dropWhile_cons]
  by_cases hb : blankB x = true
  ·rw [if_pos hb,if_pos hb];rfl
  ·rw [if_neg hb,if_neg hb,show [x] = [] ++ [x] from rfl,trimE_snoc,if_neg hb]
   rfl
 have B:=fun w => blank_any x (by omega) w
 have CZ:=fun (G : Nat) w => common_zero ⟨G,0,none⟩ w
 have J0:=fun (G m : Nat) w3 => Tryz.strings_Join_none (some ⟨G,0,none⟩) m ⟨#[10]⟩ w3
 have J1:=fun (G : Nat) w3 (h3 : StrRow w3 G [x]) => join_any G 0 1 1 [x] w3 h3 (by simp) (Nat.le_refl _) (fun y hy => by rw [List.mem_singleton] at hy;subst hy;exact hsx) (by simp)
 have J1' : ∀ (G : Nat) w3 (h3 : StrRow w3 G [x]),Calls Tryz.prog 44 #[.slice (some ⟨G,0,none⟩) 1 1,.string ⟨#[10]⟩] w3 fun e w' => e = .returned (.string ⟨x.toArray⟩) ∧ Below w3.heap.size w3 w':=J1
 have LO' : Calls Tryz.prog 206 #[.string ⟨l.toArray⟩] w fun e w' => (∃ G,w.heap.size ≤ G ∧ e = .returned (.slice (some ⟨G,0,none⟩) 1 1) ∧ StrRow w' G [x]) ∧ Below w.heap.size w w':=LO
 clear hx hn hs hl g hT LO J1
 go_enter Tryz.func182,Tryz.ntmps182
 go_wp2_with (first
  | (go_at_call 207;refine (CZ G _).mono ?_;rintro e w2 ⟨rfl,hb2⟩)
  | (go_at_call 206;refine LO'.mono ?_;rintro e w1 ⟨⟨G,hG,rfl,hrow⟩,hb1⟩)
  | fail)
 have hrow2:=hrow.below hb2 hrow.lt
 have hb12:=hb1.trans (hb2.mono hb1.size)
 clear LO' CZ hrow hb1 hb2 w1
 go_loopw [15] (fun i wr => i = .int .i64 0 ∧ StrRow wr G [x] ∧ Below w.heap.size w wr) (fun _ _ => 0)
 case atStart => exact ⟨rfl,hrow2,hb12⟩
 case round =>
  clear hrow2 hb12
  obtain ⟨rfl,hrow,hb⟩:=hrel
  go_wp2
  by_cases hbl : blankB x = true
  ·rw [hbl] at B HT
   have HQ : Hid (T = []):=HT.out
   clear HT hbl J1'
   go_loopw [3] (fun v wr => (v = .slice (some ⟨G,0,none⟩) 1 1 ∨ v = .slice (some ⟨G,0,none⟩) 0 0) ∧ StrRow wr G [x] ∧ Below w.heap.size w wr) (fun v _ => (match v with | .slice _ m _ => m | _ => 0))
   case atStart => exact ⟨Or.inl rfl,hrow,hb⟩
   case round =>
    clear hrow hb
    obtain ⟨hv,hrow,hb⟩:=hrel
    rcases hv with rfl | rfl
    ·have hc : wr.cell? ⟨G,0,none⟩ = some (.string ⟨x.toArray⟩):=hrow.cell 0 (by simp)
     go_wp2_with (go_at_call 208;refine (B _).mono ?_;rintro e w1 ⟨rfl,hb1⟩)
     refine ⟨⟨Or.inr rfl,hrow.below hb1 hrow.lt,hb.trans (hb1.mono hb.size)⟩,?_⟩
     show 0 < 1
     decide
    ·go_wp2
     go_loopw [3] (fun v wr => v = .slice (some ⟨G,0,none⟩) 0 0 ∧ Below w.heap.size w wr) (fun _ _ => 0)
     case atStart => exact ⟨rfl,hb⟩
     case round =>
      obtain ⟨rfl,hb3⟩:=hrel
      have J:=J0 G 0
      go_wp2_with (go_at_call 44;refine (J _).mono ?_;rintro e w5 ⟨rfl,rfl⟩)
      go_ret
      exact ⟨by rw [HQ.out];rfl,hb3⟩
  ·have hbl' : blankB x = false:=Bool.eq_false_iff.2 hbl
   rw [hbl'] at B HT
   have HQ : Hid (T = x):=HT.out
   clear HT hbl hbl' J0
   go_loopw [3] (fun v wr => v = .slice (some ⟨G,0,none⟩) 1 1 ∧ StrRow wr G [x] ∧ Below w.heap.size w wr) (fun _ _ => 0)
   case atStart => exact ⟨rfl,hrow,hb⟩
   case round =>
    clear hrow hb
    obtain ⟨rfl,hrow,hb⟩:=hrel
    have hc : wr.cell? ⟨G,0,none⟩ = some (.string ⟨x.toArray⟩):=hrow.cell 0 (by simp)
    go_wp2_with (go_at_call 208;refine (B _).mono ?_;rintro e w1 ⟨rfl,hb1⟩)
    have hrow1:=hrow.below hb1 hrow.lt
    have hb2:=hb.trans (hb1.mono hb.size)
    clear hc hrow hb hb1
    go_loopw [3] (fun v wr => v = .slice (some ⟨G,0,none⟩) 1 1 ∧ StrRow wr G [x] ∧ Below w.heap.size w wr) (fun _ _ => 0)
    case atStart => exact ⟨rfl,hrow1,hb2⟩
    case round =>
     clear hrow1 hb2
     obtain ⟨rfl,hrow3,hb3⟩:=hrel
     have hc : wr.cell? ⟨G,0,none⟩ = some (.string ⟨x.toArray⟩):=hrow3.cell 0 (by simp)
     go_wp2_with (first
      | (go_at_call 44;refine (J1' G _ hrow5).mono ?_;rintro e w6 ⟨rfl,hb6⟩)
      | (go_at_call 208;refine (B _).mono ?_;rintro e w5 ⟨rfl,hb5⟩;have hrow5:=hrow3.below hb5 hrow3.lt)
      | fail)
     go_ret
     exact ⟨by rw [HQ.out];rfl,(hb3.trans (hb5.mono hb3.size)).trans (hb6.mono (Nat.le_trans hb3.size hb5.size))⟩
theorem block_any (l : Bs) (hl : l.length ≤ 1048576) (w : World) (g : Gl w) : Calls Tryz.prog 182 #[.string ⟨l.toArray⟩] w fun e w' => e = .returned (.string ⟨(blockS l).toArray⟩) ∧ Below w.heap.size w w':=by
 cases hx : linesS l with
 | nil => exact absurd hx (split10_ne _)
 | cons x xs =>
  have hb : blockS l = joinS (trimS (x :: xs.map (cutS ((commonS xs none).getD 0)))):=by unfold blockS;rw [hx]
  cases xs with
  | nil => exact block_one l x hx hl _ hb.symm w g
  | cons y ys =>
   refine block_walk l x (y :: ys) hx hl (by simp) _ ?_ w g
   rw [hb]
   unfold doneL
   rw [List.take_length,List.drop_length,List.append_nil]
   rfl
end Go.Proofs.YtgmlbjfgfmfliaaGreatDoor
