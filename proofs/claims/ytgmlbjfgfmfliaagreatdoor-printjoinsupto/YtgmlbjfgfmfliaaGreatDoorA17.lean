/- Rows that a call makes, whatever their elements, and what keeps them. -/
import Derived.Test.YtgmlbjfgfmfliaaGreatDoorA16
import Derived.Deep.AppendLies
namespace Go.Proofs.YtgmlbjfgfmfliaaGreatDoor
open Go Go.RowKit
/-! ### Trees -/
inductive Vl where
 | mk (k : Int) (t : Bs) (vs : List Vl) (ns : List Bs)
structure Ar where
 n : Bs
 v : Vl
structure Dr where
 n : Bs
 az : List Ar
inductive Se where
 | mk (k : Int) (a n o : Bs) (az : List Ar) (ds : List Dr) (ss : List Se)
structure Va where
 n : Bs
 t : Bs
 x : Bs
 h : Bool
 d : Vl
 ds : List Dr
structure Oq where
 k : Int
 n : Bs
 vs : List Va
 ds : List Dr
 ss : List Se
structure Fg where
 n : Bs
 o : Bs
 ds : List Dr
 ss : List Se
/-! ### Their cells -/
mutual
def ctV : Vl → List CT
 | .mk k t vs ns => valC k t (ctVs vs) (ns.map fun s => [sC s])
def ctVs : List Vl → List (List CT)
 | [] => []
 | v :: l => ctV v :: ctVs l
end
theorem ctVs_map : ∀ l,ctVs l = l.map ctV
 | [] => by simp [ctVs]
 | v :: l => by simp [ctVs,ctVs_map l]
def ctA (x : Ar) : List CT:=sC x.n :: ctV x.v
def ctD (x : Dr) : List CT:=[sC x.n,rowC 43 5 (x.az.map ctA)]
mutual
def ctS : Se → List CT
 | .mk k a n o az ds ss => selC k a n o (az.map ctA) (ds.map ctD) (ctSs ss)
def ctSs : List Se → List (List CT)
 | [] => []
 | x :: l => ctS x :: ctSs l
end
theorem ctSs_map : ∀ l,ctSs l = l.map ctS
 | [] => by simp [ctSs]
 | v :: l => by simp [ctSs,ctSs_map l]
def ctX (x : Va) : List CT:=[sC x.n,sC x.t,sC x.x,bC x.h] ++ ctV x.d ++ [rowC 102 2 (x.ds.map ctD)]
def ctO (x : Oq) : List CT:=opC x.k x.n (x.vs.map ctX) (x.ds.map ctD) (x.ss.map ctS)
def ctF (x : Fg) : List CT:=fragC x.n x.o (x.ds.map ctD) (x.ss.map ctS)
theorem ctV_len (v : Vl) : (ctV v).length = 4:=by cases v;simp [ctV]
theorem ctA_len (x : Ar) : (ctA x).length = 5:=by simp [ctA,ctV_len]
theorem ctD_len (x : Dr) : (ctD x).length = 2:=by simp [ctD]
theorem ctS_len (x : Se) : (ctS x).length = 7:=by cases x;simp [ctS]
theorem ctX_len (x : Va) : (ctX x).length = 9:=by simp [ctX,ctV_len]
theorem ctO_len (x : Oq) : (ctO x).length = 5:=by simp [ctO]
theorem ctF_len (x : Fg) : (ctF x).length = 4:=by simp [ctF]
/-! ### Their one text -/
def andW (x y : Option (List Bs)) : Option (List Bs):=match x with
 | none => none
 | some a => match y with
  | none => none
  | some b => some (a ++ b)
def rowW {α : Type} (g : α → Option (List Bs)) : List α → Option (List Bs)
 | [] => some []
 | x :: l => andW (g x) (rowW g l)
/-- What is between two signs. -/
def inW (c : Bs) (x : Option (List Bs)) (d : Bs) : Option (List Bs):=andW (some [c]) (andW x (some [d]))
def nameW (s : Bs) : Option (List Bs):=if nameK s then some [s] else none
/-- A name that is none of these. -/
def butW (bs : List Bs) (s : Bs) : Option (List Bs):=if nameK s && !bs.contains s then some [s] else none
abbrev nullB : Bs:=[110,117,108,108]
abbrev falseB : Bs:=[102,97,108,115,101]
abbrev trueB : Bs:=[116,114,117,101]
/-- Is a text, quoted, one token that says it? -/
def textK (s : Bs) : Bool:=match lexS (quoS s) with
 | .inr [t] => t.t == s
 | _ => false
def textW (s : Bs) : Option (List Bs):=if s.length ≤ 16384 ∧ textK s = true then some [quoS s] else none
def varW (s : Bs) : Option (List Bs):=andW (some [[36]]) (nameW s)
def leafW (fx : Bool) (k : Int) (t : Bs) : Option (List Bs) :=
 if k = 0 then (if t = [] then some [nullB] else none)
 else if k = 1 then (if t = [] then some [falseB] else none)
 else if k = 2 then (if t = [] then some [trueB] else none)
 else if k = 3 then (if fx then none else varW t)
 else if k = 4 then (if numK t = 2 then some [t] else none)
 else if k = 5 then (if numK t = 3 then some [t] else none)
 else if k = 6 then textW t
 else if k = 7 then butW [trueB,falseB,nullB] t
 else none
mutual
def valW (fx : Bool) : Vl → Option (List Bs)
 | .mk k t vs ns =>
  if k = 8 then (if t = [] ∧ ns = [] then inW [91] (valsW fx vs) [93] else none)
  else if k = 9 then (if t = [] ∧ ns.length = vs.length then inW [123] (memsW fx ns vs) [125] else none)
  else if vs.length = 0 ∧ ns.length = 0 then leafW fx k t else none
def valsW (fx : Bool) : List Vl → Option (List Bs)
 | [] => some []
 | v :: l => andW (valW fx v) (valsW fx l)
def memsW (fx : Bool) : List Bs → List Vl → Option (List Bs)
 | n :: ns,v :: vs => andW (andW (nameW n) (andW (some [[58]]) (valW fx v))) (memsW fx ns vs)
 | _,[] => some []
 | [],_ :: _ => some []
end
theorem valsW_row (fx : Bool) : ∀ l,valsW fx l = rowW (valW fx) l
 | [] => by simp [valsW,rowW]
 | x :: l => by simp [valsW,rowW,valsW_row fx l]
def argW (fx : Bool) (x : Ar) : Option (List Bs):=andW (nameW x.n) (andW (some [[58]]) (valW fx x.v))
theorem memsW_row (fx : Bool) : ∀ (ns : List Bs) (vs : List Vl),memsW fx ns vs = rowW (argW fx) ((ns.zip vs).map fun p => ⟨p.1,p.2⟩)
 | [],[] => by simp [memsW,rowW]
 | [],_ :: _ => by simp [memsW,rowW]
 | _ :: _,[] => by simp [memsW,rowW]
 | n :: ns,v :: vs => by simp [memsW,rowW,argW,memsW_row fx ns vs]
def argsW (fx : Bool) (l : List Ar) : Option (List Bs):=if l = [] then some [] else inW [40] (rowW (argW fx) l) [41]
def dirW (fx : Bool) (x : Dr) : Option (List Bs):=andW (some [[64]]) (andW (nameW x.n) (argsW fx x.az))
def dirsW (fx : Bool) (l : List Dr) : Option (List Bs):=rowW (dirW fx) l
def onW (o : Bs) : Option (List Bs):=andW (some [onB]) (nameW o)
def dotsB : Bs:=[46,46,46]
mutual
def selW : Se → Option (List Bs)
 | .mk k a n o az ds ss =>
  if k = 0 then (if o = [] then andW (if a = [] then some [] else andW (nameW a) (some [[58]])) (andW (nameW n) (andW (argsW false az) (andW (dirsW false ds) (if ss.length = 0 then some [] else inW [123] (selsW ss) [125])))) else none)
  else if k = 1 then (if (a = [] ∧ o = []) ∧ az.length = 0 ∧ ss.length = 0 then andW (some [dotsB]) (andW (butW [onB] n) (dirsW false ds)) else none)
  else if k = 2 then (if (a = [] ∧ n = []) ∧ az.length = 0 then andW (some [dotsB]) (andW (if o = [] then some [] else onW o) (andW (dirsW false ds) (if ss.length = 0 then none else inW [123] (selsW ss) [125]))) else none)
  else none
def selsW : List Se → Option (List Bs)
 | [] => some []
 | x :: l => andW (selW x) (selsW l)
end
theorem selsW_row : ∀ l,selsW l = rowW selW l
 | [] => by simp [selsW,rowW]
 | x :: l => by simp [selsW,rowW,selsW_row l]
def setW (l : List Se) : Option (List Bs):=if l = [] then none else inW [123] (rowW selW l) [125]
/-- A type: what its wraps, of which the last is the outermost, are around. -/
def refW (t : Bs) : Bs → Option (List Bs)
 | [] => nameW t
 | 91 :: r => inW [91] (refW t r) [93]
 | 33 :: r => if r.head? = some 33 then none else andW (refW t r) (some [[33]])
 | _ :: _ => none
def isZ : Vl → Bool
 | .mk k t vs ns => decide (k = 0) && (decide (t = []) && decide (vs.length = 0 ∧ ns.length = 0))
def defW (x : Va) : Option (List Bs):=if x.h then andW (some [[61]]) (valW true x.d) else if isZ x.d then some [] else none
def varDefW (x : Va) : Option (List Bs):=andW (varW x.n) (andW (some [[58]]) (andW (refW x.t x.x.reverse) (andW (defW x) (dirsW true x.ds))))
def varsW (l : List Va) : Option (List Bs):=if l = [] then some [] else inW [40] (rowW varDefW l) [41]
def kindW (k : Int) : Option (List Bs):=if k = 0 then some [[113,117,101,114,121]] else if k = 1 then some [[109,117,116,97,116,105,111,110]] else if k = 2 then some [[115,117,98,115,99,114,105,112,116,105,111,110]] else none
def opW (x : Oq) : Option (List Bs):=if x.k = 0 ∧ x.n = [] ∧ x.vs.length = 0 ∧ x.ds.length = 0 then setW x.ss else andW (kindW x.k) (andW (if x.n = [] then some [] else nameW x.n) (andW (varsW x.vs) (andW (dirsW false x.ds) (setW x.ss))))
def fragW (x : Fg) : Option (List Bs):=andW (some [fragB]) (andW (butW [onB] x.n) (andW (onW x.o) (andW (dirsW false x.ds) (setW x.ss))))
def docW (os : List Oq) (fs : List Fg) : Option (List Bs):=if os.length = 0 ∧ fs.length = 0 then none else andW (rowW opW os) (rowW fragW fs)
def joinW : List Bs → Bs
 | [] => []
 | [x] => x
 | x :: y :: l => x ++ 32 :: joinW (y :: l)
/-- How long tokens are, a blank behind each. -/
def szW : List Bs → Nat
 | [] => 0
 | x :: l => x.length + 1 + szW l
theorem szW_app : ∀ a b : List Bs,szW (a ++ b) = szW a + szW b
 | [],b => by simp [szW]
 | x :: a,b => by simp [szW,szW_app a b];omega
theorem joinW_len : ∀ us : List Bs,us ≠ [] → (joinW us).length + 1 = szW us
 | [],h => absurd rfl h
 | [x],_ => by simp [joinW,szW]
 | x :: y :: l,_ => by
  have:=joinW_len (y :: l) (by simp)
  simp only [joinW,List.length_append,List.length_cons]
  rw [szW]
  omega
theorem andW_some {x y : Option (List Bs)} {us : List Bs} (h : andW x y = some us) : ∃ a b,x = some a ∧ y = some b ∧ us = a ++ b:=by
 unfold andW at h
 split at h
 ·cases h
 ·split at h
  ·cases h
  ·cases h;exact ⟨_,_,rfl,rfl,rfl⟩
theorem andW_assoc (x y z : Option (List Bs)) : andW (andW x y) z = andW x (andW y z):=by
 cases x <;> cases y <;> cases z <;> simp [andW]
theorem andW_nil (y : Option (List Bs)) : andW (some []) y = y:=by cases y <;> simp [andW]
theorem andW_nilR (y : Option (List Bs)) : andW y (some []) = y:=by cases y <;> simp [andW]
/-- What is told of a text, by what is read with other bytes around it. -/
def takenP (ahead behind : Bs) (x : Option (List Bs)) : Option Bs:=match x with
 | none => none
 | some us => match parseS (ahead ++ joinW us ++ behind) with
  | .error _ => none
  | .ok _ => some (joinW us)
def printP (os : List Oq) (fs : List Fg) : Option Bs:=takenP [] [] (docW os fs)
def valueP (v : Vl) : Option Bs:=takenP [123,32,97,32,40,32,98,32,58,32] [32,41,32,125] (valW false v)
/-! ### What lengths may be, so that no sum goes round -/
abbrev txM : Nat:=140737488355328
abbrev rwM : Nat:=140737488355328
mutual
def VlL : Vl → Prop
 | .mk _ t vs ns => t.length ≤ txM ∧ vs.length ≤ rwM ∧ ns.length ≤ rwM ∧ (∀ n ∈ ns,n.length ≤ txM) ∧ VlsL vs
def VlsL : List Vl → Prop
 | [] => True
 | v :: l => VlL v ∧ VlsL l
end
theorem VlsL_all : ∀ {l : List Vl},VlsL l → ∀ v ∈ l,VlL v
 | [],_,_,h => by cases h
 | a :: l,hl,v,h => by
  rcases List.mem_cons.1 h with rfl | h
  ·exact hl.1
  ·exact VlsL_all hl.2 v h
def ArL (x : Ar) : Prop:=x.n.length ≤ txM ∧ VlL x.v
def ArsL (l : List Ar) : Prop:=l.length ≤ rwM ∧ ∀ x ∈ l,ArL x
def DrL (x : Dr) : Prop:=x.n.length ≤ txM ∧ ArsL x.az
def DrsL (l : List Dr) : Prop:=l.length ≤ rwM ∧ ∀ x ∈ l,DrL x
mutual
def SeL : Se → Prop
 | .mk _ a n o az ds ss => (a.length ≤ txM ∧ n.length ≤ txM ∧ o.length ≤ txM) ∧ ArsL az ∧ DrsL ds ∧ ss.length ≤ rwM ∧ SesL ss
def SesL : List Se → Prop
 | [] => True
 | v :: l => SeL v ∧ SesL l
end
theorem SesL_all : ∀ {l : List Se},SesL l → ∀ v ∈ l,SeL v
 | [],_,_,h => by cases h
 | a :: l,hl,v,h => by
  rcases List.mem_cons.1 h with rfl | h
  ·exact hl.1
  ·exact SesL_all hl.2 v h
def SeRL (l : List Se) : Prop:=l.length ≤ rwM ∧ ∀ x ∈ l,SeL x
def VaL (x : Va) : Prop:=(x.n.length ≤ txM ∧ x.t.length ≤ txM ∧ x.x.length ≤ txM) ∧ VlL x.d ∧ DrsL x.ds
def OqL (x : Oq) : Prop:=x.n.length ≤ txM ∧ (x.vs.length ≤ rwM ∧ ∀ y ∈ x.vs,VaL y) ∧ DrsL x.ds ∧ SeRL x.ss
def FgL (x : Fg) : Prop:=(x.n.length ≤ txM ∧ x.o.length ≤ txM) ∧ DrsL x.ds ∧ SeRL x.ss
end Go.Proofs.YtgmlbjfgfmfliaaGreatDoor
namespace Go.Proofs.YtgmlbjfgfmfliaaGreatDoor
open Go Go.RowKit Go.Shelf
/-- In this world, in these blocks, the value holds this cell of a tree; a row may begin anywhere in its block. -/
inductive Bt (w : World) (D : Nat → Prop) : CT → Value → Prop
 | lf (v : Value) : Bt w D (.lf v) v
 | row {E sz n b o cp : Nat} {a : Option Addr} {ys : List CT} (us : Nat → Value) (hn : n ≤ cp) (hl : ys.length = n * sz) (ha : n ≠ 0 → a = some ⟨b,o,none⟩ ∧ D b) (hc : ∀ j,j < n * sz → w.cell? ⟨b,o + j,none⟩ = some (us j))
   (hy : ∀ (j : Nat) y,ys[j]? = some y → Bt w D y (us j)) : Bt w D (.rw E sz n ys) (.slice a n cp)
theorem cell_keep {w w' : World} {b o : Nat} (h : w'.heap[b]? = w.heap[b]?) : w'.cell? ⟨b,o,none⟩ = w.cell? ⟨b,o,none⟩:=by
 unfold World.cell?
 simp only [h]
theorem Bt.keep {w w' : World} {D : Nat → Prop} {y : CT} {u : Value} (h : Bt w D y u) (hk : ∀ k,D k → w'.heap[k]? = w.heap[k]?) : Bt w' D y u:=by
 induction h with
 | lf v => exact .lf v
 | @row E sz n b o cp a ys us hn hl ha hc _ ih =>
  refine .row us hn hl ha (fun j hj => ?_) ih
  have h0 : n ≠ 0:=by rintro rfl;simp at hj
  rw [cell_keep (hk _ (ha h0).2)]
  exact hc j hj
theorem Bt.mono {w : World} {D D' : Nat → Prop} {y : CT} {u : Value} (h : Bt w D y u) (hk : ∀ k,D k → D' k) : Bt w D' y u:=by
 induction h with
 | lf v => exact .lf v
 | row us hn hl ha hc _ ih => exact .row us hn hl (fun h => ⟨(ha h).1,hk _ (ha h).2⟩) hc ih
theorem At.bt {w : World} {D : Nat → Prop} {y : CT} {u : Value} (h : At w D y u) : Bt w D y u:=by
 induction h with
 | lf v => exact .lf v
 | nil E sz => exact .row (b:=0) (o:=0) (fun _ => .bool true) (Nat.le_refl _) (by simp) (fun h => absurd rfl h) (fun j hj => by simp at hj) (fun j y h => by simp at h)
 | @row E sz n q cp ys cur hb hD hn hl hc _ ih =>
  refine .row (b:=q) (o:=0) (fun j => (cur[j]?).getD (.bool true)) hn hl (fun _ => ⟨rfl,hD⟩) (fun j hj => ?_) (fun j y hy => ?_)
  ·have hj2 : j < cur.size:=by omega
   unfold World.cell?
   simp [hb,hj2]
  ·have hj : j < ys.length:=(List.getElem?_eq_some_iff.1 hy).1
   have hj2 : j < cur.size:=by omega
   exact ih j y _ hy (by simp [hj2])
/-- The same, cell by cell. -/
structure Bts (w : World) (D : Nat → Prop) (ys : List CT) (us : List Value) : Prop where
 len : ys.length = us.length
 all : ∀ (j : Nat) y u,ys[j]? = some y → us[j]? = some u → Bt w D y u
theorem Ats.bts {w : World} {D : Nat → Prop} {ys : List CT} {us : List Value} (h : Ats w D ys us) : Bts w D ys us:=⟨h.len,fun j y u h1 h2 => (h.all j y u h1 h2).bt⟩
theorem Bts.keep {w w' : World} {D : Nat → Prop} {ys : List CT} {us : List Value} (h : Bts w D ys us) (hk : ∀ k,D k → w'.heap[k]? = w.heap[k]?) : Bts w' D ys us:=⟨h.len,fun j y u h1 h2 => (h.all j y u h1 h2).keep hk⟩
theorem Bts.mono {w : World} {D D' : Nat → Prop} {ys : List CT} {us : List Value} (h : Bts w D ys us) (hk : ∀ k,D k → D' k) : Bts w D' ys us:=⟨h.len,fun j y u h1 h2 => (h.all j y u h1 h2).mono hk⟩
theorem Bts.nil {w : World} {D : Nat → Prop} : Bts w D [] []:=⟨rfl,fun j y u h => by simp at h⟩
theorem Bts.cons {w : World} {D : Nat → Prop} {y : CT} {u : Value} {ys : List CT} {us : List Value} (h0 : Bt w D y u) (h : Bts w D ys us) : Bts w D (y :: ys) (u :: us):=by
 refine ⟨by simp [h.len],fun j x v h1 h2 => ?_⟩
 cases j with
 | zero => simp at h1 h2;subst h1 h2;exact h0
 | succ j => exact h.all j x v (by simpa using h1) (by simpa using h2)
theorem Bts.inv {w : World} {D : Nat → Prop} {y : CT} {ys : List CT} {us : List Value} (h : Bts w D (y :: ys) us) : ∃ u vs,us = u :: vs ∧ Bt w D y u ∧ Bts w D ys vs:=by
 have hl:=h.len
 cases us with
 | nil => simp at hl
 | cons u vs => exact ⟨u,vs,rfl,h.all 0 _ _ rfl rfl,by simpa using hl,fun j x v h1 h2 => h.all (j + 1) x v (by simpa using h1) (by simpa using h2)⟩
theorem Bts.inv0 {w : World} {D : Nat → Prop} {us : List Value} (h : Bts w D [] us) : us = []:=List.length_eq_zero_iff.1 h.len.symm
theorem Bt.inv_lf {w : World} {D : Nat → Prop} {v u : Value} (h : Bt w D (.lf v) u) : u = v:=by cases h;rfl
/-- A row of things in memory: the i-th one's cells. -/
theorem brow_at {α : Type} {w : World} {D : Nat → Prop} {E sz : Nat} {ct : α → List CT} {l : List α} {u : Value} (h : Bt w D (rowC E sz (l.map ct)) u) (hs : ∀ x,(ct x).length = sz) : ∃ a cp,u = .slice a l.length cp ∧ l.length ≤ cp ∧ ∀ (i : Nat) x,l[i]? = some x → ∃ b o us,a = some ⟨b,o,none⟩ ∧ D b ∧ us.length = sz ∧ Bts w D (ct x) us ∧ ∀ (j : Nat) y,us[j]? = some y → w.cell? ⟨b,o + (i * sz + j),none⟩ = some y:=by
 generalize hC : rowC E sz (l.map ct) = C at h
 cases h with
 | lf v => cases hC
 | @row E' sz' n b o cp a ys us hn hl ha hc hy =>
  simp only [rowC,CT.rw.injEq] at hC
  obtain ⟨_,rfl,rfl,rfl⟩:=hC
  have hll : (l.map ct).length = l.length:=by simp
  rw [hll] at hn ha hc hl
  refine ⟨a,cp,by rw [hll],hn,fun i x hx => ?_⟩
  have hi : i < l.length:=(List.getElem?_eq_some_iff.1 hx).1
  obtain ⟨ha1,ha2⟩:=ha (by omega)
  have hcl : ∀ j,j < sz → i * sz + j < l.length * sz:=fun j hj => by
   have h1 : i * sz + sz ≤ l.length * sz:=by
    rw [← Nat.succ_mul]
    exact Nat.mul_le_mul_right _ hi
   omega
  have hel : (l.map ct)[i]? = some (ct x):=by simp [hx]
  refine ⟨b,o,(List.range sz).map fun j => us (i * sz + j),ha1,ha2,by simp,⟨by simp [hs],fun j y u h1 h2 => ?_⟩,fun j y h1 => ?_⟩
  ·have hj : j < sz:=by
    have:=(List.getElem?_eq_some_iff.1 h1).1
    rw [hs] at this
    exact this
   have hu : u = us (i * sz + j):=by
    simp [hj] at h2
    exact h2.symm
   subst hu
   exact hy _ _ (flat_at (l.map ct) (fun e he => by obtain ⟨z,_,rfl⟩:=List.mem_map.1 he;exact hs z) i j _ y hel h1)
  ·have hj : j < sz:=by
    have:=(List.getElem?_eq_some_iff.1 h1).1
    simpa using this
   have hu : y = us (i * sz + j):=by
    simp [hj] at h1
    exact h1.symm
   subst hu
   exact hc _ (hcl j hj)
theorem names_row {w : World} {D : Nat → Prop} {E : Nat} {ns : List Bs} {u : Value} (h : Bt w D (rowC E 1 (ns.map fun s => [sC s])) u) : ∃ a cp,u = .slice a ns.length cp ∧ ns.length ≤ cp ∧ ∀ (i : Nat) x,ns[i]? = some x → ∃ b o,a = some ⟨b,o,none⟩ ∧ D b ∧ w.cell? ⟨b,o + i,none⟩ = some (.string ⟨x.toArray⟩):=by
 obtain ⟨a,cp,rfl,hl,hr⟩:=brow_at (ct:=fun s => [sC s]) h (fun _ => rfl)
 refine ⟨a,cp,rfl,hl,fun i x hx => ?_⟩
 obtain ⟨b,o,us,ha,hD,_,hB,hc⟩:=hr i x hx
 obtain ⟨u,vs,rfl,hu,hv⟩:=hB.inv
 have e:=hu.inv_lf
 subst e
 have:=hc 0 _ rfl
 simp only [Nat.mul_one,Nat.add_zero] at this
 exact ⟨b,o,ha,hD,this⟩
end Go.Proofs.YtgmlbjfgfmfliaaGreatDoor
namespace Go.Proofs.YtgmlbjfgfmfliaaGreatDoor
open Go Go.RowKit Go.Shelf
abbrev wrdC (x : Bs) : List Value:=[.string ⟨x.toArray⟩]
section
variable {α : Type} {f : α → List Value} {sz : Nat}
theorem flatR_len (hf : ∀ x,(f x).length = sz) : ∀ l : List α,(l.flatMap f).length = l.length * sz
 | [] => by simp
 | x :: l => by
  rw [List.flatMap_cons,List.length_append,flatR_len hf l,hf,List.length_cons,Nat.add_mul]
  omega
theorem flatR_at (hf : ∀ x,(f x).length = sz) : ∀ (l : List α) (i : Nat) (x : α),l[i]? = some x → ∀ j,j < sz → (l.flatMap f)[i * sz + j]? = (f x)[j]?
 | [],_,_,h,_,_ => by simp at h
 | y :: l,0,x,h,j,hj => by
  simp at h
  subst h
  rw [Nat.zero_mul,Nat.zero_add,List.flatMap_cons]
  exact List.getElem?_append_left (by rw [hf];exact hj)
 | y :: l,i + 1,x,h,j,hj => by
  have ih:=flatR_at hf l i x (by simpa using h) j hj
  rw [← ih,List.flatMap_cons]
  have e : (i + 1) * sz + j = sz + (i * sz + j):=by rw [Nat.add_mul];omega
  rw [e,List.getElem?_append_right (by rw [hf];omega),hf]
  congr 1
  omega
/-- A row of such elements that a call owns. -/
def RowO (w : World) (B E : Nat) (sz : Nat) (f : α → List Value) (v : Value) (l : List α) : Prop:=w.ownsRow B E sz v l.length (l.flatMap f)
theorem RowO.slice {w : World} {B E : Nat} {v : Value} {l : List α} (h : RowO w B E sz f v l) : ∃ a c,v = .slice a l.length c:=by
 rcases h.2 with ⟨h1,h2⟩ | ⟨g,cap,cur,hv,_⟩
 ·exact ⟨none,0,by rw [h1,h2]⟩
 ·exact ⟨_,_,hv⟩
theorem RowO.blk {w w' : World} {B E : Nat} {v : Value} {l : List α} (h : RowO w B E sz f v l) (hb : ∀ g cur,B ≤ g → w.heap[g]? = some (.cells cur E (0,0)) → w'.heap[g]? = some (.cells cur E (0,0))) : RowO w' B E sz f v l:=by
 refine ⟨h.1,?_⟩
 rcases h.2 with q | ⟨g,cap,cur,hv,hB,hg,h3⟩
 ·exact Or.inl q
 ·exact Or.inr ⟨g,cap,cur,hv,hB,hb g cur hB hg,h3⟩
theorem RowO.on {w w' : World} {B E : Nat} {v : Value} {l : List α} (h : RowO w B E sz f v l) (hb : Below w.heap.size w w') : RowO w' B E sz f v l:=h.blk fun g _ _ hg => (hb.block g (lt_of_block hg)).trans hg
theorem RowO.base {w : World} {B B' E : Nat} {v : Value} {l : List α} (h : RowO w B E sz f v l) (hb : B' ≤ B) : RowO w B' E sz f v l:=by
 refine ⟨h.1,?_⟩
 rcases h.2 with q | ⟨g,cap,cur,hv,hB,h3⟩
 ·exact Or.inl q
 ·exact Or.inr ⟨g,cap,cur,hv,Nat.le_trans hb hB,h3⟩
/-- Only one block, of another type, has changed. -/
theorem RowO.kp {w w' : World} {B E T E' : Nat} {c : Array Value} {v : Value} {l : List α} (h : RowO w B E sz f v l) (k : Kp (fun k => k = T) w w') (hT : w.heap[T]? = some (.cells c E' (0,0))) (hE : E ≠ E') : RowO w' B E sz f v l:=h.blk fun g cur _ hg => (k.block g (lt_of_block hg) (fun e => by
  have e' : g = T:=e
  subst e'
  rw [hT] at hg
  cases hg
  exact hE rfl)).trans hg
/-- A row of another type has grown. -/
theorem RowO.grown {w w' : World} {B B' E E' sz' n : Nat} {v u : Value} {xs : List Value} {l : List α} (h : RowO w B E sz f v l) (own : w.ownsRow B' E' sz' u n xs) (g : w.grownBy w' u.ownBlock) (hE : E ≠ E') : RowO w' B E sz f v l:=h.blk fun k cur _ hk => (g.block k (lt_of_block hk) (fun e => by
  rcases own.2 with ⟨rfl,_⟩ | ⟨q,cap,cr,hv,_,hq,_⟩
  ·cases e
  ·rw [hv] at e
   have e2 : k = q:=by simpa [Value.ownBlock] using e
   subst e2
   rw [hq] at hk
   cases hk
   exact hE rfl)).trans hk
end
theorem rowOld {S : Nat → Prop} {w w1 : World} {X : Nat} {o : Obj} (hb : w.heap[X]? = some o) (hk : Kp S w w1) (hS : ¬ S X) : w1.heap[X]? = some o:=(hk.block X (lt_of_block hb) hS).trans hb
/-- Of what was there only blocks of one type, from one number on, have changed. -/
structure Gt (B E : Nat) (w w' : World) : Prop where
 os : w'.os = w.os
 tape : w'.tape = w.tape
 output : w'.output = w.output
 size : w.heap.size ≤ w'.heap.size
 block : ∀ k o,w.heap[k]? = some o → (k < B ∨ ∀ cur,o ≠ .cells cur E (0,0)) → w'.heap[k]? = some o
theorem Gt.refl (B E : Nat) (w : World) : Gt B E w w:=⟨rfl,rfl,rfl,Nat.le_refl _,fun _ _ h _ => h⟩
theorem Gt.trans {B E : Nat} {w w' w'' : World} (h : Gt B E w w') (g : Gt B E w' w'') : Gt B E w w'':=⟨g.os.trans h.os,g.tape.trans h.tape,g.output.trans h.output,Nat.le_trans h.size g.size,fun k o hk hq => g.block k o (h.block k o hk hq) hq⟩
theorem gt_of {B E : Nat} {w w' : World} (h : Below w.heap.size w w') : Gt B E w w':=⟨h.os,h.tape,h.output,h.size,fun k _ hk _ => (h.block k (lt_of_block hk)).trans hk⟩
theorem Gt.below {B E : Nat} {w w' : World} (h : Gt B E w w') (hB : B ≤ w.heap.size) : Below B w w':=⟨h.os,h.tape,h.output,h.size,fun k hk => by
  have hlt : k < w.heap.size:=Nat.lt_of_lt_of_le hk hB
  have e : w.heap[k]? = some w.heap[k]:=Array.getElem?_eq_getElem hlt
  rw [e]
  exact h.block k _ e (Or.inl hk)⟩
theorem Gt.base {B B' E : Nat} {w w' : World} (h : Gt B E w w') (hB : B' ≤ B) : Gt B' E w w':=⟨h.os,h.tape,h.output,h.size,fun k o hk hq => h.block k o hk (hq.elim (fun q => Or.inl (Nat.lt_of_lt_of_le q hB)) Or.inr)⟩
theorem gt_grown {w w' : World} {B E sz n : Nat} {u : Value} {xs : List Value} (own : w.ownsRow B E sz u n xs) (g : w.grownBy w' u.ownBlock) : Gt B E w w':=⟨g.os,g.tape,g.output,g.size,fun k o hk hq => (g.block k (lt_of_block hk) (fun e => by
  rcases own.2 with ⟨rfl,_⟩ | ⟨q,cap,cr,hv,hB,hq2,_⟩
  ·cases e
  ·rw [hv] at e
   have e2 : k = q:=by simpa [Value.ownBlock] using e
   subst e2
   rw [hq2] at hk
   cases hk
   rcases hq with hq | hq
   ·omega
   ·exact hq _ rfl)).trans hk⟩
theorem Gt.cell {B E : Nat} {w w' : World} (h : Gt B E w w') {k j : Nat} {v : Value} (hk : w.cell? ⟨k,j,none⟩ = some v) (hB : k < B) : w'.cell? ⟨k,j,none⟩ = some v:=by
 have hlt:=World.block_lt_of_cell? w _ hk
 have e : w.heap[k]? = some w.heap[k]:=Array.getElem?_eq_getElem hlt
 have e2:=h.block k _ e (Or.inl hB)
 rw [← e] at e2
 exact (World.cell?_of_block (a:=⟨k,j,none⟩) e2).trans hk
section
variable {α : Type} {f : α → List Value} {sz : Nat}
theorem RowO.gt {w w' : World} {B B' E E' : Nat} {v : Value} {l : List α} (h : RowO w B E sz f v l) (g : Gt B' E' w w') (hE : E ≠ E') : RowO w' B E sz f v l:=h.blk fun _ _ _ hk => g.block _ _ hk (Or.inr fun _ e => by cases e;exact hE rfl)
/-- A row that is written out. -/
theorem RowO.lit {w : World} {B E g n : Nat} {l : List α} {cs : Array Value} (hf : ∀ x,(f x).length = sz) (hB : B ≤ g) (h : w.heap[g]? = some (.cells cs E (0,0))) (hc : cs.toList = l.flatMap f) (hn : l.length = n) (hm : n ≤ maxLen) : RowO w B E sz f (.slice (some ⟨g,0,none⟩) n n) l:=by
 have e : cs.toList.length = n * sz:=by rw [hc,flatR_len hf,hn]
 subst hn
 refine ⟨flatR_len hf l,Or.inr ⟨g,l.length,cs,rfl,hB,h,Nat.le_refl _,hm,by rw [← Array.length_toList,e],?_⟩⟩
 rw [← hc,List.take_of_length_le (by omega)]
theorem RowO.own {w : World} {B E n : Nat} {v : Value} {l : List α} (h : RowO w B E sz f v l) (hn : l.length = n) : w.ownsRow B E sz v n (l.flatMap f):=by
 subst hn
 exact h
theorem RowO.none {w : World} {B E : Nat} : RowO w B E sz f (.slice none 0 0) []:=⟨by simp,Or.inl ⟨rfl,rfl⟩⟩
theorem RowO.len {w : World} {B E : Nat} {v : Value} {l : List α} (h : RowO w B E sz f v l) : l.length ≤ maxLen:=by
 rcases h.2 with ⟨_,h2⟩ | ⟨g,cap,cur,_,_,_,hn,hm,_⟩
 ·omega
 ·omega
theorem RowO.cells {w : World} {B E : Nat} {v : Value} {l : List α} (h : RowO w B E sz f v l) (hl : l ≠ []) : ∃ g c,v = .slice (some ⟨g,0,.none⟩) l.length c ∧ B ≤ g ∧ g < w.heap.size ∧ l.length ≤ c ∧ c ≤ maxLen ∧ ∀ j u,(l.flatMap f)[j]? = some u → w.cell? ⟨g,j,.none⟩ = some u:=by
 rcases h.2 with ⟨h1,h2⟩ | ⟨g,cap,cur,hv,hB,hg,hn,hm,_,ht⟩
 ·exact absurd (List.length_eq_zero_iff.1 h2) hl
 ·refine ⟨g,cap,hv,hB,lt_of_block hg,hn,hm,fun j u hu => ?_⟩
  rw [← ht,List.getElem?_take] at hu
  split at hu
  ·unfold World.cell?
   rw [hg]
   simpa using hu
  ·cases hu
end
theorem row_slc {α : Type} {f : α → List Value} {sz : Nat} {w : World} {B E : Nat} {v : Value} {l : List α} (h : RowO w B E sz f v l) : ∃ p n m,v = .slice p n m:=by
 obtain ⟨p,m,e⟩:=h.slice
 exact ⟨p,_,m,e⟩
theorem RowO.pushL {α : Type} {f : α → List Value} {sz : Nat} {w : World} {B E n : Nat} {v : Value} {l m : List α} {xs : List Value} (h : w.ownsRow B E sz v n (l.flatMap f ++ xs)) (hn : n = l.length + m.length) (hx : m.flatMap f = xs) : RowO w B E sz f v (l ++ m):=by
 subst hn
 subst hx
 unfold RowO
 rw [List.length_append,List.flatMap_append]
 exact h
end Go.Proofs.YtgmlbjfgfmfliaaGreatDoor
