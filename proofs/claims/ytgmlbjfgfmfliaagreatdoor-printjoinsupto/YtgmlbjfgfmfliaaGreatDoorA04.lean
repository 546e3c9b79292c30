/- Values without others in them; a name and its value. -/
import Derived.Test.YtgmlbjfgfmfliaaGreatDoorA03
namespace Go.Proofs.YtgmlbjfgfmfliaaGreatDoor
open Go Go.RowKit
theorem own1 {w : World} (X : Nat) (u0 : Value) : Kp (Own1 X) w (w.setCell ⟨X,0,none⟩ u0):=Kp.own X 0 u0
theorem ownAt1 {w : World} (X o : Nat) (u0 : Value) : Kp (Own1 X) w (w.setCell ⟨X,o,none⟩ u0):=Kp.own X o u0
theorem row1 {w1 : World} {X : Nat} {v0 : Value} {E : TypeId} (hb : w1.heap[X]? = some (.cells #[v0] E (0,0))) : w1.cell? ⟨X,0,none⟩ = some v0 ∧ ∀ j,w1.frozen? ⟨X,j,none⟩ = false :=
 ⟨by simp [World.cell?,hb],fun j => frozen_of_row w1 _ j _ _ hb⟩
theorem own2 {w : World} (X : Nat) (u0 u1 : Value) : Kp (Own1 X) w ((w.setCell ⟨X,0,none⟩ u0).setCell ⟨X,1,none⟩ u1):=(Kp.own X 0 u0).set X 1 u1 (Or.inr rfl)
theorem ownAt2 {w : World} (X o : Nat) (u0 u1 : Value) : Kp (Own1 X) w ((w.setCell ⟨X,o,none⟩ u0).setCell ⟨X,o + 1,none⟩ u1):=(Kp.own X o u0).set X (o + 1) u1 (Or.inr rfl)
theorem row2 {w1 : World} {X : Nat} {v0 v1 : Value} {E : TypeId} (hb : w1.heap[X]? = some (.cells #[v0,v1] E (0,0))) : w1.cell? ⟨X,0,none⟩ = some v0 ∧ w1.cell? ⟨X,1,none⟩ = some v1 ∧ ∀ j,w1.frozen? ⟨X,j,none⟩ = false :=
 ⟨by simp [World.cell?,hb],by simp [World.cell?,hb],fun j => frozen_of_row w1 _ j _ _ hb⟩
theorem own4 {w : World} (X : Nat) (u0 u1 u2 u3 : Value) : Kp (Own1 X) w ((((w.setCell ⟨X,0,none⟩ u0).setCell ⟨X,1,none⟩ u1).setCell ⟨X,2,none⟩ u2).setCell ⟨X,3,none⟩ u3):=(((Kp.own X 0 u0).set X 1 u1 (Or.inr rfl)).set X 2 u2 (Or.inr rfl)).set X 3 u3 (Or.inr rfl)
theorem ownAt4 {w : World} (X o : Nat) (u0 u1 u2 u3 : Value) : Kp (Own1 X) w ((((w.setCell ⟨X,o,none⟩ u0).setCell ⟨X,o + 1,none⟩ u1).setCell ⟨X,o + 2,none⟩ u2).setCell ⟨X,o + 3,none⟩ u3):=(((Kp.own X o u0).set X (o + 1) u1 (Or.inr rfl)).set X (o + 2) u2 (Or.inr rfl)).set X (o + 3) u3 (Or.inr rfl)
theorem row4 {w1 : World} {X : Nat} {v0 v1 v2 v3 : Value} {E : TypeId} (hb : w1.heap[X]? = some (.cells #[v0,v1,v2,v3] E (0,0))) : w1.cell? ⟨X,0,none⟩ = some v0 ∧ w1.cell? ⟨X,1,none⟩ = some v1 ∧ w1.cell? ⟨X,2,none⟩ = some v2 ∧ w1.cell? ⟨X,3,none⟩ = some v3 ∧ ∀ j,w1.frozen? ⟨X,j,none⟩ = false :=
 ⟨by simp [World.cell?,hb],by simp [World.cell?,hb],by simp [World.cell?,hb],by simp [World.cell?,hb],fun j => frozen_of_row w1 _ j _ _ hb⟩
theorem own5 {w : World} (X : Nat) (u0 u1 u2 u3 u4 : Value) : Kp (Own1 X) w (((((w.setCell ⟨X,0,none⟩ u0).setCell ⟨X,1,none⟩ u1).setCell ⟨X,2,none⟩ u2).setCell ⟨X,3,none⟩ u3).setCell ⟨X,4,none⟩ u4):=((((Kp.own X 0 u0).set X 1 u1 (Or.inr rfl)).set X 2 u2 (Or.inr rfl)).set X 3 u3 (Or.inr rfl)).set X 4 u4 (Or.inr rfl)
theorem ownAt5 {w : World} (X o : Nat) (u0 u1 u2 u3 u4 : Value) : Kp (Own1 X) w (((((w.setCell ⟨X,o,none⟩ u0).setCell ⟨X,o + 1,none⟩ u1).setCell ⟨X,o + 2,none⟩ u2).setCell ⟨X,o + 3,none⟩ u3).setCell ⟨X,o + 4,none⟩ u4):=((((Kp.own X o u0).set X (o + 1) u1 (Or.inr rfl)).set X (o + 2) u2 (Or.inr rfl)).set X (o + 3) u3 (Or.inr rfl)).set X (o + 4) u4 (Or.inr rfl)
theorem row5 {w1 : World} {X : Nat} {v0 v1 v2 v3 v4 : Value} {E : TypeId} (hb : w1.heap[X]? = some (.cells #[v0,v1,v2,v3,v4] E (0,0))) : w1.cell? ⟨X,0,none⟩ = some v0 ∧ w1.cell? ⟨X,1,none⟩ = some v1 ∧ w1.cell? ⟨X,2,none⟩ = some v2 ∧ w1.cell? ⟨X,3,none⟩ = some v3 ∧ w1.cell? ⟨X,4,none⟩ = some v4 ∧ ∀ j,w1.frozen? ⟨X,j,none⟩ = false :=
 ⟨by simp [World.cell?,hb],by simp [World.cell?,hb],by simp [World.cell?,hb],by simp [World.cell?,hb],by simp [World.cell?,hb],fun j => frozen_of_row w1 _ j _ _ hb⟩
theorem own7 {w : World} (X : Nat) (u0 u1 u2 u3 u4 u5 u6 : Value) : Kp (Own1 X) w (((((((w.setCell ⟨X,0,none⟩ u0).setCell ⟨X,1,none⟩ u1).setCell ⟨X,2,none⟩ u2).setCell ⟨X,3,none⟩ u3).setCell ⟨X,4,none⟩ u4).setCell ⟨X,5,none⟩ u5).setCell ⟨X,6,none⟩ u6):=((((((Kp.own X 0 u0).set X 1 u1 (Or.inr rfl)).set X 2 u2 (Or.inr rfl)).set X 3 u3 (Or.inr rfl)).set X 4 u4 (Or.inr rfl)).set X 5 u5 (Or.inr rfl)).set X 6 u6 (Or.inr rfl)
theorem ownAt7 {w : World} (X o : Nat) (u0 u1 u2 u3 u4 u5 u6 : Value) : Kp (Own1 X) w (((((((w.setCell ⟨X,o,none⟩ u0).setCell ⟨X,o + 1,none⟩ u1).setCell ⟨X,o + 2,none⟩ u2).setCell ⟨X,o + 3,none⟩ u3).setCell ⟨X,o + 4,none⟩ u4).setCell ⟨X,o + 5,none⟩ u5).setCell ⟨X,o + 6,none⟩ u6):=((((((Kp.own X o u0).set X (o + 1) u1 (Or.inr rfl)).set X (o + 2) u2 (Or.inr rfl)).set X (o + 3) u3 (Or.inr rfl)).set X (o + 4) u4 (Or.inr rfl)).set X (o + 5) u5 (Or.inr rfl)).set X (o + 6) u6 (Or.inr rfl)
theorem row7 {w1 : World} {X : Nat} {v0 v1 v2 v3 v4 v5 v6 : Value} {E : TypeId} (hb : w1.heap[X]? = some (.cells #[v0,v1,v2,v3,v4,v5,v6] E (0,0))) : w1.cell? ⟨X,0,none⟩ = some v0 ∧ w1.cell? ⟨X,1,none⟩ = some v1 ∧ w1.cell? ⟨X,2,none⟩ = some v2 ∧ w1.cell? ⟨X,3,none⟩ = some v3 ∧ w1.cell? ⟨X,4,none⟩ = some v4 ∧ w1.cell? ⟨X,5,none⟩ = some v5 ∧ w1.cell? ⟨X,6,none⟩ = some v6 ∧ ∀ j,w1.frozen? ⟨X,j,none⟩ = false :=
 ⟨by simp [World.cell?,hb],by simp [World.cell?,hb],by simp [World.cell?,hb],by simp [World.cell?,hb],by simp [World.cell?,hb],by simp [World.cell?,hb],by simp [World.cell?,hb],fun j => frozen_of_row w1 _ j _ _ hb⟩
theorem own9 {w : World} (X : Nat) (u0 u1 u2 u3 u4 u5 u6 u7 u8 : Value) : Kp (Own1 X) w (((((((((w.setCell ⟨X,0,none⟩ u0).setCell ⟨X,1,none⟩ u1).setCell ⟨X,2,none⟩ u2).setCell ⟨X,3,none⟩ u3).setCell ⟨X,4,none⟩ u4).setCell ⟨X,5,none⟩ u5).setCell ⟨X,6,none⟩ u6).setCell ⟨X,7,none⟩ u7).setCell ⟨X,8,none⟩ u8):=((((((((Kp.own X 0 u0).set X 1 u1 (Or.inr rfl)).set X 2 u2 (Or.inr rfl)).set X 3 u3 (Or.inr rfl)).set X 4 u4 (Or.inr rfl)).set X 5 u5 (Or.inr rfl)).set X 6 u6 (Or.inr rfl)).set X 7 u7 (Or.inr rfl)).set X 8 u8 (Or.inr rfl)
theorem ownAt9 {w : World} (X o : Nat) (u0 u1 u2 u3 u4 u5 u6 u7 u8 : Value) : Kp (Own1 X) w (((((((((w.setCell ⟨X,o,none⟩ u0).setCell ⟨X,o + 1,none⟩ u1).setCell ⟨X,o + 2,none⟩ u2).setCell ⟨X,o + 3,none⟩ u3).setCell ⟨X,o + 4,none⟩ u4).setCell ⟨X,o + 5,none⟩ u5).setCell ⟨X,o + 6,none⟩ u6).setCell ⟨X,o + 7,none⟩ u7).setCell ⟨X,o + 8,none⟩ u8):=((((((((Kp.own X o u0).set X (o + 1) u1 (Or.inr rfl)).set X (o + 2) u2 (Or.inr rfl)).set X (o + 3) u3 (Or.inr rfl)).set X (o + 4) u4 (Or.inr rfl)).set X (o + 5) u5 (Or.inr rfl)).set X (o + 6) u6 (Or.inr rfl)).set X (o + 7) u7 (Or.inr rfl)).set X (o + 8) u8 (Or.inr rfl)
theorem row9 {w1 : World} {X : Nat} {v0 v1 v2 v3 v4 v5 v6 v7 v8 : Value} {E : TypeId} (hb : w1.heap[X]? = some (.cells #[v0,v1,v2,v3,v4,v5,v6,v7,v8] E (0,0))) : w1.cell? ⟨X,0,none⟩ = some v0 ∧ w1.cell? ⟨X,1,none⟩ = some v1 ∧ w1.cell? ⟨X,2,none⟩ = some v2 ∧ w1.cell? ⟨X,3,none⟩ = some v3 ∧ w1.cell? ⟨X,4,none⟩ = some v4 ∧ w1.cell? ⟨X,5,none⟩ = some v5 ∧ w1.cell? ⟨X,6,none⟩ = some v6 ∧ w1.cell? ⟨X,7,none⟩ = some v7 ∧ w1.cell? ⟨X,8,none⟩ = some v8 ∧ ∀ j,w1.frozen? ⟨X,j,none⟩ = false :=
 ⟨by simp [World.cell?,hb],by simp [World.cell?,hb],by simp [World.cell?,hb],by simp [World.cell?,hb],by simp [World.cell?,hb],by simp [World.cell?,hb],by simp [World.cell?,hb],by simp [World.cell?,hb],by simp [World.cell?,hb],fun j => frozen_of_row w1 _ j _ _ hb⟩
theorem set_comm (w : World) (x y : Addr) (u v : Value) (h : x.block ≠ y.block) : (w.setCell x u).setCell y v = (w.setCell y v).setCell x u:=by
 unfold World.setCell
 simp only
 congr 1
 apply Array.ext
 ·simp
 ·intro i h1 h2
  simp only [Array.getElem_modify]
  by_cases e1 : y.block = i
  ·have e2 : x.block ≠ i:=fun e => h (e.trans e1.symm)
   simp [e1,e2]
  ·simp [e1]
theorem swap4 {w : World} {V q : Nat} (h : ¬ V = q) (i k : Nat) (lv u0 u1 u2 u3 : Value) : (((((w.setCell ⟨V,i,none⟩ lv).setCell ⟨q,k,none⟩ u0).setCell ⟨q,k + 1,none⟩ u1).setCell ⟨q,k + 2,none⟩ u2).setCell ⟨q,k + 3,none⟩ u3) = ((((w.setCell ⟨q,k,none⟩ u0).setCell ⟨q,k + 1,none⟩ u1).setCell ⟨q,k + 2,none⟩ u2).setCell ⟨q,k + 3,none⟩ u3).setCell ⟨V,i,none⟩ lv:=by
 rw [set_comm _ ⟨V,i,none⟩ ⟨q,_,none⟩ lv u0 h,set_comm _ ⟨V,i,none⟩ ⟨q,_,none⟩ lv u1 h,set_comm _ ⟨V,i,none⟩ ⟨q,_,none⟩ lv u2 h,set_comm _ ⟨V,i,none⟩ ⟨q,_,none⟩ lv u3 h]
theorem swap7 {w : World} {V q : Nat} (h : ¬ V = q) (i k : Nat) (lv u0 u1 u2 u3 u4 u5 u6 : Value) : ((((((((w.setCell ⟨V,i,none⟩ lv).setCell ⟨q,k,none⟩ u0).setCell ⟨q,k + 1,none⟩ u1).setCell ⟨q,k + 2,none⟩ u2).setCell ⟨q,k + 3,none⟩ u3).setCell ⟨q,k + 4,none⟩ u4).setCell ⟨q,k + 5,none⟩ u5).setCell ⟨q,k + 6,none⟩ u6) = (((((((w.setCell ⟨q,k,none⟩ u0).setCell ⟨q,k + 1,none⟩ u1).setCell ⟨q,k + 2,none⟩ u2).setCell ⟨q,k + 3,none⟩ u3).setCell ⟨q,k + 4,none⟩ u4).setCell ⟨q,k + 5,none⟩ u5).setCell ⟨q,k + 6,none⟩ u6).setCell ⟨V,i,none⟩ lv:=by
 rw [set_comm _ ⟨V,i,none⟩ ⟨q,_,none⟩ lv u0 h,set_comm _ ⟨V,i,none⟩ ⟨q,_,none⟩ lv u1 h,set_comm _ ⟨V,i,none⟩ ⟨q,_,none⟩ lv u2 h,set_comm _ ⟨V,i,none⟩ ⟨q,_,none⟩ lv u3 h,set_comm _ ⟨V,i,none⟩ ⟨q,_,none⟩ lv u4 h,set_comm _ ⟨V,i,none⟩ ⟨q,_,none⟩ lv u5 h,set_comm _ ⟨V,i,none⟩ ⟨q,_,none⟩ lv u6 h]
theorem new_row {S : Nat → Prop} {w w1 : World} {cs : Array Value} {E : TypeId} (hk : Kp S (w.alloc (.cells cs E)) w1) (hS : ¬ S w.heap.size) : w1.heap[w.heap.size]? = some (.cells cs E (0,0)) :=
 (hk.block _ (by simp) hS).trans (heap_alloc_new _ _)
theorem old_row {S : Nat → Prop} {w w1 : World} {X : Nat} {o : Obj} (hb : w.heap[X]? = some o) (hk : Kp S w w1) (hS : ¬ S X) : w1.heap[X]? = some o:=(hk.block X (lt_of_block hb) hS).trans hb
/-- What reads an element and puts it behind the others. -/
def ItemR (R g cap : Nat) (T : List Tok) (fx : Bool) (a b c : Nat) (V P B : Nat) (cur : Array Value) (ty tp : TypeId) (i E sz : Nat) (K : Nat) (caps : Array Value) (f : List Tok → Rs (List CT)) : Prop :=
 ∀ els l w lv xs D,Js R V P B cur ty tp i E sz w els lv xs D → els.length + l.length ≤ 2049 → Sx R g cap T w l fx a b c → l ≠ [] →
  Calls Tryz.prog K caps w fun e w' => (∃ p,f l = .error p ∧ e = DiesY p ∧ Kp (Own1 R) w w') ∨ (∃ el m,f l = .ok (el,m) ∧ e = .returned (.tuple #[]) ∧ (∃ lv' xs' D',Js R V P B cur ty tp i E sz w' (els ++ [el]) lv' xs' D') ∧ Kp (fun k => k = R ∨ k = V ∨ lv.ownBlock = some k) w w' ∧ Sx R g cap T w' m fx a b c ∧ m ≠ [])
/-- The state between two elements. -/
def Jr (R V P B : Nat) (cur : Array Value) (ty tp : TypeId) (i E sz : Nat) (W0 : World) (els : List (List CT)) (l : List Tok) (w : World) : Prop :=
 (∃ lv xs D,Js R V P B cur ty tp i E sz w els lv xs D) ∧ els.length + l.length ≤ 2049 ∧ Kp (fun k => k = R ∨ k = V) W0 w
section
variable {R g cap : Nat} {T : List Tok} {fx : Bool} {a b c : Nat} {V P B : Nat} {cur : Array Value} {ty tp : TypeId} {i E sz : Nat} {K : Nat} {caps : Array Value} {f : List Tok → Rs (List CT)} {W0 : World}
theorem Jr.kp (pl : Pl R g V P B) : ∀ xs l m w w',Jr R V P B cur ty tp i E sz W0 xs l w → Kp (Own1 R) w w' → m.length ≤ l.length → Jr R V P B cur ty tp i E sz W0 xs m w':=by
 rintro xs l m w w' ⟨⟨lv,us,D,hj⟩,hn,hk⟩ k hm
 exact ⟨⟨lv,us,D,hj.kp pl k⟩,by omega,hk.trans (k.mono (fun _ _ e => Or.inl e))⟩
theorem oneR_of (hB : B = W0.heap.size) (hf : Eats f) (w0 : World) (hw0 : ∀ w',Kp (fun k => k = R ∨ k = V) W0 w' → Kp (Own1 R) w0 w') (it : ItemR R g cap T fx a b c V P B cur ty tp i E sz K caps f) :
  OneR R g cap T fx a b c K caps f (Jr R V P B cur ty tp i E sz W0) (Kp (Own1 R) w0):=by
 rintro els l w ⟨⟨lv,xs,D,hj⟩,hn,hk⟩ h hl
 refine (it els l w lv xs D hj hn h hl).mono ?_
 rintro e w' (⟨p,hp,rfl,k⟩ | ⟨el,m,hp,rfl,hj',k,h',n'⟩)
 ·exact Or.inl ⟨p,hp,rfl,hw0 _ (hk.trans (k.mono (fun _ _ e => Or.inl e)))⟩
 ·refine Or.inr ⟨el,m,hp,rfl,⟨hj',?_,hk.trans2 k (fun k hk e => ?_)⟩,h',n'⟩
  ·have:=hf _ _ _ hp
   rw [List.length_append]
   simp;omega
  ·rcases e with e | e | e
   ·exact Or.inl e
   ·exact Or.inr e
   ·have:=(own_block hj.own e).1
    omega
theorem set_in (A xs : List Value) (L j : Nat) (x : Value) (h : A.length = L) : (A ++ xs).set (L + j) x = A ++ xs.set j x:=by
 subst h
 rw [List.set_append_right _ _ (by omega),Nat.add_sub_cancel_left]
theorem laid4 {w : World} {q cp k : Nat} {xs : List Value} {z0 z1 z2 z3 : Value} (u0 u1 u2 u3 : Value) (h : w.ownsRow B E 4 (.slice (some ⟨q,0,none⟩) (k + 1) cp) (k + 1) (xs ++ [z0,z1,z2,z3])) (hl : xs.length = k * 4) :
  ((((w.setCell ⟨q,k * 4,none⟩ u0).setCell ⟨q,k * 4 + 1,none⟩ u1).setCell ⟨q,k * 4 + 2,none⟩ u2).setCell ⟨q,k * 4 + 3,none⟩ u3).ownsRow B E 4 (.slice (some ⟨q,0,none⟩) (k + 1) cp) (k + 1) (xs ++ [u0,u1,u2,u3]):=by
 have h0:=(h.stored (k * 4) u0).1
 have h1:=(h0.stored (k * 4 + 1) u1).1
 have h2:=(h1.stored (k * 4 + 2) u2).1
 have h3:=(h2.stored (k * 4 + 3) u3).1
 have e : (((((xs ++ [z0,z1,z2,z3]).set (k * 4) u0).set (k * 4 + 1) u1).set (k * 4 + 2) u2).set (k * 4 + 3) u3) = xs ++ [u0,u1,u2,u3]:=by
  have e0:=set_in xs [z0,z1,z2,z3] (k * 4) 0 u0 hl
  rw [Nat.add_zero] at e0
  rw [e0,set_in _ _ _ 1 _ hl,set_in _ _ _ 2 _ hl,set_in _ _ _ 3 _ hl]
  rfl
 rw [e] at h3
 exact h3
theorem item_end4 {w W w1 W2 w2 w4 : World} {l m : List Tok} {els : List (List CT)} {el : List CT} {lv : Value} {xs : List Value} {D : Nat → Prop} {q cp : Nat} {u0 u1 u2 u3 z0 z1 z2 z3 : Value} (hj : Js R V P B cur ty tp i E 4 w els lv xs D) (pl : Pl R g V P B) (hW : Kp Non w W) (hk : Kp (Own1 R) W w1)
  (hel : Ats w1 (Iv W.heap.size w1.heap.size) el [u0,u1,u2,u3]) (hW2 : Kp Non w1 W2) (hgr : W2.grownBy w2 lv.ownBlock) {H : Nat} (hH : W2.heap.size = H) (hat : lv.ownBlock = some q ∨ q = H) (own2 : w2.ownsRow B E 4 (.slice (some ⟨q,0,none⟩) (els.length + 1) cp) (els.length + 1) (xs ++ [z0,z1,z2,z3])) (hq : f l = .ok (el,m)) (h1 : Sx R g cap T w1 m fx a b c) (m1 : m ≠ [])
  (h4 : w4 = (((((w2.setCell ⟨q,els.length * 4,none⟩ u0).setCell ⟨q,els.length * 4 + 1,none⟩ u1).setCell ⟨q,els.length * 4 + 2,none⟩ u2).setCell ⟨q,els.length * 4 + 3,none⟩ u3).setCell ⟨V,i,none⟩ (.slice (some ⟨q,0,none⟩) (els.length + 1) cp)) ∨ w4 = (((((w2.setCell ⟨V,i,none⟩ (.slice (some ⟨q,0,none⟩) (els.length + 1) cp)).setCell ⟨q,els.length * 4,none⟩ u0).setCell ⟨q,els.length * 4 + 1,none⟩ u1).setCell ⟨q,els.length * 4 + 2,none⟩ u2).setCell ⟨q,els.length * 4 + 3,none⟩ u3)) :
  (∃ p,f l = .error p ∧ Ending.returned (.tuple #[]) = DiesY p ∧ Kp (Own1 R) w w4) ∨ (∃ el m,f l = .ok (el,m) ∧ Ending.returned (.tuple #[]) = Ending.returned (.tuple #[]) ∧ (∃ lv' xs' D',Js R V P B cur ty tp i E 4 w4 (els ++ [el]) lv' xs' D') ∧ Kp (fun k => k = R ∨ k = V ∨ lv.ownBlock = some k) w w4 ∧ Sx R g cap T w4 m fx a b c ∧ m ≠ []):=by
 have hv2:=hj.var2 pl hW hk hW2 hgr
 have hBq : B ≤ q:=(own_block own2 rfl).1
 have hxl : xs.length = els.length * 4:=hj.own.1
 have p1:=pl.bV;have p2:=pl.bg;have p3:=pl.bR
 have hVq : V ≠ q:=by omega
 have K4 : Kp (fun k => k = q ∨ k = V) w2 w4:=by
  rcases h4 with rfl | rfl
  ·exact ((ownAt4 q (els.length * 4) u0 u1 u2 u3).mono (fun _ _ e => Or.inl e)).set V i _ (Or.inr (Or.inr rfl))
  ·exact ((Kp.own V i _).mono (fun _ _ e => Or.inr e)).trans ((ownAt4 q (els.length * 4) u0 u1 u2 u3).mono (fun _ _ e => Or.inl e))
 have var4 : w4.heap[V]? = some (.cells (cur.setIfInBounds i (.slice (some ⟨q,0,none⟩) (els.length + 1) cp)) ty (0,0)):=by
  rcases h4 with rfl | rfl
  ·rw [heap_setCell_same _ V i _ _ _ (old_row hv2 (ownAt4 q (els.length * 4) u0 u1 u2 u3) hVq)]
   simp
  ·refine old_row ?_ (ownAt4 q (els.length * 4) u0 u1 u2 u3) hVq
   rw [heap_setCell_same _ V i _ _ _ hv2]
   simp
 have own4 : w4.ownsRow B E 4 (.slice (some ⟨q,0,none⟩) (els.length + 1) cp) (els.length + 1) (xs ++ [u0,u1,u2,u3]):=by
  rcases h4 with rfl | rfl
  ·exact ownsRow_setCell_below (laid4 u0 u1 u2 u3 own2 hxl) (a:=⟨V,i,none⟩) p1 _
  ·exact laid4 u0 u1 u2 u3 (ownsRow_setCell_below own2 (a:=⟨V,i,none⟩) p1 _) hxl
 obtain ⟨hj4,k4⟩:=hj.push pl hW hk hel hW2 hgr (by rcases hat with e | e;exact Or.inl e;exact Or.inr (by omega)) K4 var4 own4
 have KS : Kp (fun k => lv.ownBlock = some k ∨ k = q ∨ k = V) w1 w4:=(hW2.any.grew hgr (fun k e => Or.inr (Or.inl e))).trans (K4.mono (fun _ _ e => Or.inr e))
 refine Or.inr ⟨el,m,hq,rfl,⟨_,_,_,hj4⟩,k4,h1.kp KS ?_ ?_,m1⟩
 ·rintro (e | e | e)
  ·have:=(own_block hj.own e).1;omega
  ·omega
  ·exact pl.VR e.symm
 ·rintro (e | e | e)
  ·have:=(own_block hj.own e).1;omega
  ·omega
  ·exact pl.Vg e.symm
theorem laid7 {w : World} {q cp k : Nat} {xs : List Value} {z0 z1 z2 z3 z4 z5 z6 : Value} (u0 u1 u2 u3 u4 u5 u6 : Value) (h : w.ownsRow B E 7 (.slice (some ⟨q,0,none⟩) (k + 1) cp) (k + 1) (xs ++ [z0,z1,z2,z3,z4,z5,z6])) (hl : xs.length = k * 7) :
  (((((((w.setCell ⟨q,k * 7,none⟩ u0).setCell ⟨q,k * 7 + 1,none⟩ u1).setCell ⟨q,k * 7 + 2,none⟩ u2).setCell ⟨q,k * 7 + 3,none⟩ u3).setCell ⟨q,k * 7 + 4,none⟩ u4).setCell ⟨q,k * 7 + 5,none⟩ u5).setCell ⟨q,k * 7 + 6,none⟩ u6).ownsRow B E 7 (.slice (some ⟨q,0,none⟩) (k + 1) cp) (k + 1) (xs ++ [u0,u1,u2,u3,u4,u5,u6]):=by
 have h0:=(h.stored (k * 7) u0).1
 have h1:=(h0.stored (k * 7 + 1) u1).1
 have h2:=(h1.stored (k * 7 + 2) u2).1
 have h3:=(h2.stored (k * 7 + 3) u3).1
 have h4:=(h3.stored (k * 7 + 4) u4).1
 have h5:=(h4.stored (k * 7 + 5) u5).1
 have h6:=(h5.stored (k * 7 + 6) u6).1
 have e : ((((((((xs ++ [z0,z1,z2,z3,z4,z5,z6]).set (k * 7) u0).set (k * 7 + 1) u1).set (k * 7 + 2) u2).set (k * 7 + 3) u3).set (k * 7 + 4) u4).set (k * 7 + 5) u5).set (k * 7 + 6) u6) = xs ++ [u0,u1,u2,u3,u4,u5,u6]:=by
  have e0:=set_in xs [z0,z1,z2,z3,z4,z5,z6] (k * 7) 0 u0 hl
  rw [Nat.add_zero] at e0
  rw [e0,set_in _ _ _ 1 _ hl,set_in _ _ _ 2 _ hl,set_in _ _ _ 3 _ hl,set_in _ _ _ 4 _ hl,set_in _ _ _ 5 _ hl,set_in _ _ _ 6 _ hl]
  rfl
 rw [e] at h6
 exact h6
theorem item_end7 {w W w1 W2 w2 w4 : World} {l m : List Tok} {els : List (List CT)} {el : List CT} {lv : Value} {xs : List Value} {D : Nat → Prop} {q cp : Nat} {u0 u1 u2 u3 u4 u5 u6 z0 z1 z2 z3 z4 z5 z6 : Value} (hj : Js R V P B cur ty tp i E 7 w els lv xs D) (pl : Pl R g V P B) (hW : Kp Non w W) (hk : Kp (Own1 R) W w1)
  (hel : Ats w1 (Iv W.heap.size w1.heap.size) el [u0,u1,u2,u3,u4,u5,u6]) (hW2 : Kp Non w1 W2) (hgr : W2.grownBy w2 lv.ownBlock) {H : Nat} (hH : W2.heap.size = H) (hat : lv.ownBlock = some q ∨ q = H) (own2 : w2.ownsRow B E 7 (.slice (some ⟨q,0,none⟩) (els.length + 1) cp) (els.length + 1) (xs ++ [z0,z1,z2,z3,z4,z5,z6])) (hq : f l = .ok (el,m)) (h1 : Sx R g cap T w1 m fx a b c) (m1 : m ≠ [])
  (h4 : w4 = ((((((((w2.setCell ⟨q,els.length * 7,none⟩ u0).setCell ⟨q,els.length * 7 + 1,none⟩ u1).setCell ⟨q,els.length * 7 + 2,none⟩ u2).setCell ⟨q,els.length * 7 + 3,none⟩ u3).setCell ⟨q,els.length * 7 + 4,none⟩ u4).setCell ⟨q,els.length * 7 + 5,none⟩ u5).setCell ⟨q,els.length * 7 + 6,none⟩ u6).setCell ⟨V,i,none⟩ (.slice (some ⟨q,0,none⟩) (els.length + 1) cp)) ∨ w4 = ((((((((w2.setCell ⟨V,i,none⟩ (.slice (some ⟨q,0,none⟩) (els.length + 1) cp)).setCell ⟨q,els.length * 7,none⟩ u0).setCell ⟨q,els.length * 7 + 1,none⟩ u1).setCell ⟨q,els.length * 7 + 2,none⟩ u2).setCell ⟨q,els.length * 7 + 3,none⟩ u3).setCell ⟨q,els.length * 7 + 4,none⟩ u4).setCell ⟨q,els.length * 7 + 5,none⟩ u5).setCell ⟨q,els.length * 7 + 6,none⟩ u6)) :
  (∃ p,f l = .error p ∧ Ending.returned (.tuple #[]) = DiesY p ∧ Kp (Own1 R) w w4) ∨ (∃ el m,f l = .ok (el,m) ∧ Ending.returned (.tuple #[]) = Ending.returned (.tuple #[]) ∧ (∃ lv' xs' D',Js R V P B cur ty tp i E 7 w4 (els ++ [el]) lv' xs' D') ∧ Kp (fun k => k = R ∨ k = V ∨ lv.ownBlock = some k) w w4 ∧ Sx R g cap T w4 m fx a b c ∧ m ≠ []):=by
 have hv2:=hj.var2 pl hW hk hW2 hgr
 have hBq : B ≤ q:=(own_block own2 rfl).1
 have hxl : xs.length = els.length * 7:=hj.own.1
 have p1:=pl.bV;have p2:=pl.bg;have p3:=pl.bR
 have hVq : V ≠ q:=by omega
 have K4 : Kp (fun k => k = q ∨ k = V) w2 w4:=by
  rcases h4 with rfl | rfl
  ·exact ((ownAt7 q (els.length * 7) u0 u1 u2 u3 u4 u5 u6).mono (fun _ _ e => Or.inl e)).set V i _ (Or.inr (Or.inr rfl))
  ·exact ((Kp.own V i _).mono (fun _ _ e => Or.inr e)).trans ((ownAt7 q (els.length * 7) u0 u1 u2 u3 u4 u5 u6).mono (fun _ _ e => Or.inl e))
 have var4 : w4.heap[V]? = some (.cells (cur.setIfInBounds i (.slice (some ⟨q,0,none⟩) (els.length + 1) cp)) ty (0,0)):=by
  rcases h4 with rfl | rfl
  ·rw [heap_setCell_same _ V i _ _ _ (old_row hv2 (ownAt7 q (els.length * 7) u0 u1 u2 u3 u4 u5 u6) hVq)]
   simp
  ·refine old_row ?_ (ownAt7 q (els.length * 7) u0 u1 u2 u3 u4 u5 u6) hVq
   rw [heap_setCell_same _ V i _ _ _ hv2]
   simp
 have own4 : w4.ownsRow B E 7 (.slice (some ⟨q,0,none⟩) (els.length + 1) cp) (els.length + 1) (xs ++ [u0,u1,u2,u3,u4,u5,u6]):=by
  rcases h4 with rfl | rfl
  ·exact ownsRow_setCell_below (laid7 u0 u1 u2 u3 u4 u5 u6 own2 hxl) (a:=⟨V,i,none⟩) p1 _
  ·exact laid7 u0 u1 u2 u3 u4 u5 u6 (ownsRow_setCell_below own2 (a:=⟨V,i,none⟩) p1 _) hxl
 obtain ⟨hj4,k4⟩:=hj.push pl hW hk hel hW2 hgr (by rcases hat with e | e;exact Or.inl e;exact Or.inr (by omega)) K4 var4 own4
 have KS : Kp (fun k => lv.ownBlock = some k ∨ k = q ∨ k = V) w1 w4:=(hW2.any.grew hgr (fun k e => Or.inr (Or.inl e))).trans (K4.mono (fun _ _ e => Or.inr e))
 refine Or.inr ⟨el,m,hq,rfl,⟨_,_,_,hj4⟩,k4,h1.kp KS ?_ ?_,m1⟩
 ·rintro (e | e | e)
  ·have:=(own_block hj.own e).1;omega
  ·omega
  ·exact pl.VR e.symm
 ·rintro (e | e | e)
  ·have:=(own_block hj.own e).1;omega
  ·omega
  ·exact pl.Vg e.symm
end
end Go.Proofs.YtgmlbjfgfmfliaaGreatDoor
namespace Go.Proofs.YtgmlbjfgfmfliaaGreatDoor
open Go Go.RowKit
/-- What a value's reading tells. -/
def ValV (lo : Nat) (cs : List CT) (v : Value) (w : World) : Prop:=∃ (k : Int) (t : ByteArray) (o : Option Addr) (n z : Nat) (o' : Option Addr) (n' z' : Nat),v = .agg #[.int .i64 k,.string t,.slice o n z,.slice o' n' z'] ∧ Ats w (Iv lo w.heap.size) cs [.int .i64 k,.string t,.slice o n z,.slice o' n' z']
/-- A value is read from wherever the reader stands, n more within it. -/
def ValP (R g cap : Nat) (T : List Tok) (fx : Bool) (a b c n : Nat) : Prop:=∀ w l,Sx R g cap T w l fx a b c → l ≠ [] → Calls Tryz.prog 192 #[.pointer (some ⟨R,0,none⟩)] w (Out R g cap T w fx a b c (valF fx n l) (ValV w.heap.size))
theorem Tryz.infoVal : (Tryz.prog.info? 35).map (fun i => (i.zero,i.size,i.bytes)) = some (some (.agg #[.int .i64 0,.string ⟨#[]⟩,.slice none 0 0,.slice none 0 0]),4,72):=by kernel_rfl
abbrev zeroV : Obj:=.cells #[.int .i64 0,.string ⟨#[]⟩,.slice none 0 0,.slice none 0 0] 35
abbrev zerosV : List Value:=[.int .i64 0,.string ⟨#[]⟩,.slice none 0 0,.slice none 0 0]
theorem zerosV_one : ∀ u ∈ zerosV,u.oneCell' = true:=by intro u hu;simp [zerosV] at hu;rcases hu with rfl | rfl | rfl <;> rfl
section
variable {R g cap : Nat} {T : List Tok} {fx : Bool} {a b c : Nat} {V P B : Nat} {cur : Array Value} {ty tp : TypeId}
/-- What the row's variable and the box hold behind a step of the reader. -/
theorem js_facts {i E sz : Nat} {w w1 : World} {els : List (List CT)} {lv : Value} {xs : List Value} {D : Nat → Prop} (hj : Js R V P B cur ty tp i E sz w els lv xs D) (pl : Pl R g V P B) (hi : i < cur.size) (k : Kp (Own1 R) w w1) :
  w1.cell? ⟨V,i,none⟩ = some lv ∧ w1.frozen? ⟨V,i,none⟩ = false ∧ w1.cell? ⟨P,0,none⟩ = some (.pointer (some ⟨R,0,none⟩)) ∧ Hid (w1.ownsRow B E sz lv els.length xs) :=
 ⟨(hj.kp pl k).cell hi,(hj.kp pl k).free i,(hj.kp pl k).ptr,(hj.kp pl k).own⟩
/-- What one more place in the row leaves. -/
theorem place4 {i E : Nat} {w1 W2 w2 : World} {els : List (List CT)} {lv : Value} {xs : List Value} {q cp : Nat} {z0 z1 z2 z3 : Value} (cV : w1.cell? ⟨V,i,none⟩ = some lv) (fV : w1.frozen? ⟨V,i,none⟩ = false) (hV : V < B) (HO : w1.ownsRow B E 4 lv els.length xs) (hW2 : Below w1.heap.size w1 W2) (hgr : W2.grownBy w2 lv.ownBlock)
  (own : w2.ownsRow B E 4 (.slice (some ⟨q,0,none⟩) (els.length + 1) cp) (els.length + 1) (xs ++ [z0,z1,z2,z3])) :
  w2.cell? ⟨V,i,none⟩ = some lv ∧ w2.frozen? ⟨V,i,none⟩ = false ∧ w2.cell? ⟨q,els.length * 4,none⟩ = some z0 ∧ w2.cell? ⟨q,els.length * 4 + 1,none⟩ = some z1 ∧ w2.cell? ⟨q,els.length * 4 + 2,none⟩ = some z2 ∧ w2.cell? ⟨q,els.length * 4 + 3,none⟩ = some z3 ∧ (∀ j,w2.frozen? ⟨q,j,none⟩ = false) ∧ ¬ q = V ∧ ¬ V = q:=by
 have hBq : B ≤ q:=(own_block own rfl).1
 have hl:=HO.1
 have hb : w2.heap[V]? = w1.heap[V]?:=(hgr.block V (Nat.lt_of_lt_of_le (World.block_lt_of_cell? w1 _ cV) hW2.size) (fun e => by have:=(own_block HO e.symm).1;omega)).trans (hW2.block V (World.block_lt_of_cell? w1 _ cV))
 have hc : ∀ j,j < 4 → w2.cell? ⟨q,els.length * 4 + j,none⟩ = [z0,z1,z2,z3][j]?:=fun j hj => by
  rw [own.cellAt _ (by omega),List.getElem?_append_right (by omega),hl,Nat.add_sub_cancel_left]
 exact ⟨(by rw [← cV];simp only [World.cell?,hb]),(by rw [← fV];simp only [World.frozen?,hb]),hc 0 (by decide),hc 1 (by decide),hc 2 (by decide),hc 3 (by decide),fun j => own.frozenAt j,by omega,by omega⟩
end
end Go.Proofs.YtgmlbjfgfmfliaaGreatDoor
namespace Go.Proofs.YtgmlbjfgfmfliaaGreatDoor
open Go Go.RowKit
theorem leaf4 {w : World} {D : Nat → Prop} (k : Int) (x : ByteArray) : Ats w D [iC k,.lf (.string x),rowC 35 4 [],rowC 9 1 []] [.int .i64 k,.string x,.slice none 0 0,.slice none 0 0] :=
 (Ats.nil.cons (.nil _ _)).cons (.nil _ _) |>.cons (.lf _) |>.cons (.lf _)
theorem Kp.ret {X : Nat} {S : Nat → Prop} {w w1 w2 : World} (h : Kp S w w1) (h2 : Kp (Own1 X) w1 w2) (hX : w.heap.size ≤ X) : Kp S w w2:=h.trans2 h2 (fun k hk e => by have e' : k = X:=e;omega)
theorem named_any (t : Bs) (w : World) : Calls Tryz.prog 210 #[.string ⟨t.toArray⟩] w fun e w' => ∃ k x,e = .returned (.agg #[.int .i64 k,.string x,.slice none 0 0,.slice none 0 0]) ∧ namedC t = [iC k,.lf (.string x),rowC 35 4 [],rowC 9 1 []] ∧ Kp Non w w':=by
 unfold namedC
 by_cases h1 : t = [110,117,108,108]
 ·subst h1
  rw [if_pos rfl]
  go_enter Tryz.func210,Tryz.ntmps210
  go_wp2
  refine bodyPost_ret (v:=.agg #[.int .i64 0,.string ⟨#[]⟩,.slice none 0 0,.slice none 0 0]) (by simp [results,Tryz.results210,go_sem]) rfl ⟨0,⟨#[]⟩,rfl,rfl,?_⟩
  exact (Kp.refl Non w).alloc _
 ·rw [if_neg h1]
  have e1 : (t == [110,117,108,108]) = false:=by rw [beq_eq_false_iff_ne];exact h1
  by_cases h2 : t = [102,97,108,115,101]
  ·subst h2
   rw [if_pos rfl]
   go_enter Tryz.func210,Tryz.ntmps210
   go_wp2
   refine bodyPost_ret (v:=.agg #[.int .i64 1,.string ⟨#[]⟩,.slice none 0 0,.slice none 0 0]) (by simp [results,Tryz.results210,go_sem]) rfl ⟨1,⟨#[]⟩,rfl,rfl,?_⟩
   exact (Kp.refl Non w).alloc _
  ·rw [if_neg h2]
   have e2 : (t == [102,97,108,115,101]) = false:=by rw [beq_eq_false_iff_ne];exact h2
   by_cases h3 : t = [116,114,117,101]
   ·subst h3
    rw [if_pos rfl]
    go_enter Tryz.func210,Tryz.ntmps210
    go_wp2
    refine bodyPost_ret (v:=.agg #[.int .i64 2,.string ⟨#[]⟩,.slice none 0 0,.slice none 0 0]) (by simp [results,Tryz.results210,go_sem]) rfl ⟨2,⟨#[]⟩,rfl,rfl,?_⟩
    exact (Kp.refl Non w).alloc _
   ·rw [if_neg h3]
    have e3 : (t == [116,114,117,101]) = false:=by rw [beq_eq_false_iff_ne];exact h3
    clear h1 h2 h3
    go_enter Tryz.func210,Tryz.ntmps210
    go_wp2
    refine bodyPost_ret (v:=.agg #[.int .i64 7,.string ⟨t.toArray⟩,.slice none 0 0,.slice none 0 0]) (by simp [results,Tryz.results210,go_sem]) rfl ⟨7,⟨t.toArray⟩,rfl,rfl,?_⟩
    exact (Kp.refl Non w).alloc _
section
variable {R g cap : Nat} {T : List Tok} {fx : Bool} {a b c : Nat} {w w3 : World} {l m : List Tok} {o : Obj}
theorem ret1 (hk : Kp (Own1 R) (w.alloc o) w3) (hS : Sx R g cap T w3 m fx a b c) (hR : R < w.heap.size) (hg : g < w.heap.size) (u0 : Value) : Sx R g cap T (w3.setCell ⟨w.heap.size,0,none⟩ u0) m fx a b c ∧ Kp (Own1 R) w (w3.setCell ⟨w.heap.size,0,none⟩ u0) :=
 ⟨hS.kp (own1 w.heap.size u0) (fun e => by have e' : R = w.heap.size:=e;omega) (fun e => by have e' : g = w.heap.size:=e;omega),(((Kp.refl (Own1 R) w).alloc o).trans hk).ret (own1 w.heap.size u0) (Nat.le_refl _)⟩
theorem ret2 (hk : Kp (Own1 R) (w.alloc o) w3) (hS : Sx R g cap T w3 m fx a b c) (hR : R < w.heap.size) (hg : g < w.heap.size) (u0 u1 : Value) : Sx R g cap T ((w3.setCell ⟨w.heap.size,0,none⟩ u0).setCell ⟨w.heap.size,1,none⟩ u1) m fx a b c ∧ Kp (Own1 R) w ((w3.setCell ⟨w.heap.size,0,none⟩ u0).setCell ⟨w.heap.size,1,none⟩ u1) :=
 ⟨hS.kp (own2 w.heap.size u0 u1) (fun e => by have e' : R = w.heap.size:=e;omega) (fun e => by have e' : g = w.heap.size:=e;omega),(((Kp.refl (Own1 R) w).alloc o).trans hk).ret (own2 w.heap.size u0 u1) (Nat.le_refl _)⟩
theorem ret4 (hk : Kp (Own1 R) (w.alloc o) w3) (hS : Sx R g cap T w3 m fx a b c) (hR : R < w.heap.size) (hg : g < w.heap.size) (u0 u1 u2 u3 : Value) : Sx R g cap T ((((w3.setCell ⟨w.heap.size,0,none⟩ u0).setCell ⟨w.heap.size,1,none⟩ u1).setCell ⟨w.heap.size,2,none⟩ u2).setCell ⟨w.heap.size,3,none⟩ u3) m fx a b c ∧ Kp (Own1 R) w ((((w3.setCell ⟨w.heap.size,0,none⟩ u0).setCell ⟨w.heap.size,1,none⟩ u1).setCell ⟨w.heap.size,2,none⟩ u2).setCell ⟨w.heap.size,3,none⟩ u3) :=
 ⟨hS.kp (own4 w.heap.size u0 u1 u2 u3) (fun e => by have e' : R = w.heap.size:=e;omega) (fun e => by have e' : g = w.heap.size:=e;omega),(((Kp.refl (Own1 R) w).alloc o).trans hk).ret (own4 w.heap.size u0 u1 u2 u3) (Nat.le_refl _)⟩
theorem ret5 (hk : Kp (Own1 R) (w.alloc o) w3) (hS : Sx R g cap T w3 m fx a b c) (hR : R < w.heap.size) (hg : g < w.heap.size) (u0 u1 u2 u3 u4 : Value) : Sx R g cap T (((((w3.setCell ⟨w.heap.size,0,none⟩ u0).setCell ⟨w.heap.size,1,none⟩ u1).setCell ⟨w.heap.size,2,none⟩ u2).setCell ⟨w.heap.size,3,none⟩ u3).setCell ⟨w.heap.size,4,none⟩ u4) m fx a b c ∧ Kp (Own1 R) w (((((w3.setCell ⟨w.heap.size,0,none⟩ u0).setCell ⟨w.heap.size,1,none⟩ u1).setCell ⟨w.heap.size,2,none⟩ u2).setCell ⟨w.heap.size,3,none⟩ u3).setCell ⟨w.heap.size,4,none⟩ u4) :=
 ⟨hS.kp (own5 w.heap.size u0 u1 u2 u3 u4) (fun e => by have e' : R = w.heap.size:=e;omega) (fun e => by have e' : g = w.heap.size:=e;omega),(((Kp.refl (Own1 R) w).alloc o).trans hk).ret (own5 w.heap.size u0 u1 u2 u3 u4) (Nat.le_refl _)⟩
theorem ret7 (hk : Kp (Own1 R) (w.alloc o) w3) (hS : Sx R g cap T w3 m fx a b c) (hR : R < w.heap.size) (hg : g < w.heap.size) (u0 u1 u2 u3 u4 u5 u6 : Value) : Sx R g cap T (((((((w3.setCell ⟨w.heap.size,0,none⟩ u0).setCell ⟨w.heap.size,1,none⟩ u1).setCell ⟨w.heap.size,2,none⟩ u2).setCell ⟨w.heap.size,3,none⟩ u3).setCell ⟨w.heap.size,4,none⟩ u4).setCell ⟨w.heap.size,5,none⟩ u5).setCell ⟨w.heap.size,6,none⟩ u6) m fx a b c ∧ Kp (Own1 R) w (((((((w3.setCell ⟨w.heap.size,0,none⟩ u0).setCell ⟨w.heap.size,1,none⟩ u1).setCell ⟨w.heap.size,2,none⟩ u2).setCell ⟨w.heap.size,3,none⟩ u3).setCell ⟨w.heap.size,4,none⟩ u4).setCell ⟨w.heap.size,5,none⟩ u5).setCell ⟨w.heap.size,6,none⟩ u6) :=
 ⟨hS.kp (own7 w.heap.size u0 u1 u2 u3 u4 u5 u6) (fun e => by have e' : R = w.heap.size:=e;omega) (fun e => by have e' : g = w.heap.size:=e;omega),(((Kp.refl (Own1 R) w).alloc o).trans hk).ret (own7 w.heap.size u0 u1 u2 u3 u4 u5 u6) (Nat.le_refl _)⟩
theorem ret9 (hk : Kp (Own1 R) (w.alloc o) w3) (hS : Sx R g cap T w3 m fx a b c) (hR : R < w.heap.size) (hg : g < w.heap.size) (u0 u1 u2 u3 u4 u5 u6 u7 u8 : Value) : Sx R g cap T (((((((((w3.setCell ⟨w.heap.size,0,none⟩ u0).setCell ⟨w.heap.size,1,none⟩ u1).setCell ⟨w.heap.size,2,none⟩ u2).setCell ⟨w.heap.size,3,none⟩ u3).setCell ⟨w.heap.size,4,none⟩ u4).setCell ⟨w.heap.size,5,none⟩ u5).setCell ⟨w.heap.size,6,none⟩ u6).setCell ⟨w.heap.size,7,none⟩ u7).setCell ⟨w.heap.size,8,none⟩ u8) m fx a b c ∧ Kp (Own1 R) w (((((((((w3.setCell ⟨w.heap.size,0,none⟩ u0).setCell ⟨w.heap.size,1,none⟩ u1).setCell ⟨w.heap.size,2,none⟩ u2).setCell ⟨w.heap.size,3,none⟩ u3).setCell ⟨w.heap.size,4,none⟩ u4).setCell ⟨w.heap.size,5,none⟩ u5).setCell ⟨w.heap.size,6,none⟩ u6).setCell ⟨w.heap.size,7,none⟩ u7).setCell ⟨w.heap.size,8,none⟩ u8) :=
 ⟨hS.kp (own9 w.heap.size u0 u1 u2 u3 u4 u5 u6 u7 u8) (fun e => by have e' : R = w.heap.size:=e;omega) (fun e => by have e' : g = w.heap.size:=e;omega),(((Kp.refl (Own1 R) w).alloc o).trans hk).ret (own9 w.heap.size u0 u1 u2 u3 u4 u5 u6 u7 u8) (Nat.le_refl _)⟩
set_option maxHeartbeats 1000000 in
theorem value_2 (n : Nat) {t : Tok} {r : List Tok} (h : Sx R g cap T w (t :: r) fx a b c) (hk : t.k = 2) : Calls Tryz.prog 192 #[.pointer (some ⟨R,0,none⟩)] w (Out R g cap T w fx a b c (valF fx n (t :: r)) (ValV w.heap.size)):=by
 have HQ : Hid (valF fx n (t :: r) = .ok (valC 4 t.t [] [],r)):=by show _ = _;rw [valF_eq];unfold valG;simp [isK,hk,txT]
 have hne:=h.full.more h.suf (fun e => by have:=e.1;omega)
 have hR:=h.ltR
 have hg:=h.lt
 have F:=fld0 t
 obtain ⟨tk,tt,tb,te⟩:=t
 simp only at hk
 subst hk
 go_enter Tryz.func192,Tryz.ntmps192
 go_wp2_with (first
  | (go_at_call 149;refine (read_any ((h.alloc _).non k1)).mono ?_;rintro e w2 ⟨rfl,h2,k2⟩;have K2:=k1.any.trans k2;obtain ⟨c0,c1,c2,c3,cf⟩:=row4 (new_row K2 (fun e => by have e' : w.heap.size = R:=e;omega)))
  | (go_at_call 147;refine (ynext_any (h.alloc _)).mono ?_;rintro e w1 ⟨rfl,k1⟩))
 obtain ⟨r1,r2⟩:=ret4 K2 h2 hR hg (.int .i64 4) (.string ⟨tt.toArray⟩) (.slice none 0 0) (.slice none 0 0)
 refine bodyPost_ret (v:=.agg #[.int .i64 4,.string ⟨tt.toArray⟩,.slice none 0 0,.slice none 0 0]) (by simp [results,Tryz.results192,go_sem,c0,c1,c2,c3]) rfl (Or.inr ⟨_,_,_,HQ.out,rfl,⟨_,_,_,_,_,_,_,_,rfl,leaf4 _ _⟩,r1,hne,r2⟩)
set_option maxHeartbeats 1000000 in
theorem value_3 (n : Nat) {t : Tok} {r : List Tok} (h : Sx R g cap T w (t :: r) fx a b c) (hk : t.k = 3) : Calls Tryz.prog 192 #[.pointer (some ⟨R,0,none⟩)] w (Out R g cap T w fx a b c (valF fx n (t :: r)) (ValV w.heap.size)):=by
 have HQ : Hid (valF fx n (t :: r) = .ok (valC 5 t.t [] [],r)):=by show _ = _;rw [valF_eq];unfold valG;simp [isK,hk,txT]
 have hne:=h.full.more h.suf (fun e => by have:=e.1;omega)
 have hR:=h.ltR
 have hg:=h.lt
 have F:=fld0 t
 obtain ⟨tk,tt,tb,te⟩:=t
 simp only at hk
 subst hk
 go_enter Tryz.func192,Tryz.ntmps192
 go_wp2_with (first
  | (go_at_call 149;refine (read_any ((h.alloc _).non k1)).mono ?_;rintro e w2 ⟨rfl,h2,k2⟩;have K2:=k1.any.trans k2;obtain ⟨c0,c1,c2,c3,cf⟩:=row4 (new_row K2 (fun e => by have e' : w.heap.size = R:=e;omega)))
  | (go_at_call 147;refine (ynext_any (h.alloc _)).mono ?_;rintro e w1 ⟨rfl,k1⟩))
 obtain ⟨r1,r2⟩:=ret4 K2 h2 hR hg (.int .i64 5) (.string ⟨tt.toArray⟩) (.slice none 0 0) (.slice none 0 0)
 refine bodyPost_ret (v:=.agg #[.int .i64 5,.string ⟨tt.toArray⟩,.slice none 0 0,.slice none 0 0]) (by simp [results,Tryz.results192,go_sem,c0,c1,c2,c3]) rfl (Or.inr ⟨_,_,_,HQ.out,rfl,⟨_,_,_,_,_,_,_,_,rfl,leaf4 _ _⟩,r1,hne,r2⟩)
set_option maxHeartbeats 1000000 in
theorem value_4 (n : Nat) {t : Tok} {r : List Tok} (h : Sx R g cap T w (t :: r) fx a b c) (hk : t.k = 4) : Calls Tryz.prog 192 #[.pointer (some ⟨R,0,none⟩)] w (Out R g cap T w fx a b c (valF fx n (t :: r)) (ValV w.heap.size)):=by
 have HQ : Hid (valF fx n (t :: r) = .ok (valC 6 t.t [] [],r)):=by show _ = _;rw [valF_eq];unfold valG;simp [isK,hk,txT]
 have hne:=h.full.more h.suf (fun e => by have:=e.1;omega)
 have hR:=h.ltR
 have hg:=h.lt
 have F:=fld0 t
 obtain ⟨tk,tt,tb,te⟩:=t
 simp only at hk
 subst hk
 go_enter Tryz.func192,Tryz.ntmps192
 go_wp2_with (first
  | (go_at_call 149;refine (read_any ((h.alloc _).non k1)).mono ?_;rintro e w2 ⟨rfl,h2,k2⟩;have K2:=k1.any.trans k2;obtain ⟨c0,c1,c2,c3,cf⟩:=row4 (new_row K2 (fun e => by have e' : w.heap.size = R:=e;omega)))
  | (go_at_call 147;refine (ynext_any (h.alloc _)).mono ?_;rintro e w1 ⟨rfl,k1⟩))
 obtain ⟨r1,r2⟩:=ret4 K2 h2 hR hg (.int .i64 6) (.string ⟨tt.toArray⟩) (.slice none 0 0) (.slice none 0 0)
 refine bodyPost_ret (v:=.agg #[.int .i64 6,.string ⟨tt.toArray⟩,.slice none 0 0,.slice none 0 0]) (by simp [results,Tryz.results192,go_sem,c0,c1,c2,c3]) rfl (Or.inr ⟨_,_,_,HQ.out,rfl,⟨_,_,_,_,_,_,_,_,rfl,leaf4 _ _⟩,r1,hne,r2⟩)
set_option maxHeartbeats 1000000 in
theorem value_1 (n : Nat) {t : Tok} {r : List Tok} (h : Sx R g cap T w (t :: r) fx a b c) (hk : t.k = 1) : Calls Tryz.prog 192 #[.pointer (some ⟨R,0,none⟩)] w (Out R g cap T w fx a b c (valF fx n (t :: r)) (ValV w.heap.size)):=by
 have HQ : Hid (valF fx n (t :: r) = .ok (namedC t.t,r)):=by show _ = _;rw [valF_eq];unfold valG;simp [isK,hk,txT]
 have hne:=h.full.more h.suf (fun e => by have:=e.1;omega)
 have hR:=h.ltR
 have hg:=h.lt
 have F:=fld0 t
 obtain ⟨tk,tt,tb,te⟩:=t
 simp only at hk
 subst hk
 go_enter Tryz.func192,Tryz.ntmps192
 go_wp2_with (first
  | (go_at_call 210;refine (named_any _ _).mono ?_;rintro e w3 ⟨kk,xx,rfl,hnm,k3⟩;have K3:=K2.trans k3.any;obtain ⟨c0,c1,c2,c3,cf⟩:=row4 (new_row K3 (fun e => by have e' : w.heap.size = R:=e;omega)))
  | (go_at_call 149;refine (read_any ((h.alloc _).non k1)).mono ?_;rintro e w2 ⟨rfl,h2,k2⟩;have K2:=k1.any.trans k2)
  | (go_at_call 147;refine (ynext_any (h.alloc _)).mono ?_;rintro e w1 ⟨rfl,k1⟩))
 obtain ⟨r1,r2⟩:=ret4 K3 (h2.non k3) hR hg (.int .i64 kk) (.string xx) (.slice none 0 0) (.slice none 0 0)
 refine bodyPost_ret (v:=.agg #[.int .i64 kk,.string xx,.slice none 0 0,.slice none 0 0]) (by simp [results,Tryz.results192,go_sem,c0,c1,c2,c3]) rfl (Or.inr ⟨_,_,_,HQ.out,rfl,⟨_,_,_,_,_,_,_,_,rfl,?_⟩,r1,hne,r2⟩)
 rw [hnm]
 exact leaf4 _ _
/-- A value behind its result's block: what was told lies above, and stays. -/
theorem ats_up {cs : List CT} {us : List Value} {w1 w2 w4 : World} (hk : w.heap.size ≤ w1.heap.size) (h : Ats w2 (Iv w1.heap.size w2.heap.size) cs us) (h4 : Kp (Own1 w.heap.size) w2 w4) (h1 : w.heap.size < w1.heap.size) : Ats w4 (Iv w.heap.size w4.heap.size) cs us :=
 h.later h4 (Nat.le_refl _) (fun k h1 h2 e => by have e' : k = w.heap.size:=e;omega) hk h4.size
set_option maxHeartbeats 1000000 in
theorem value_0 (n : Nat) {t : Tok} {r : List Tok} (h : Sx R g cap T w (t :: r) fx a b c) (n1 : t.k ≠ 1) (n2 : t.k ≠ 2) (n3 : t.k ≠ 3) (n4 : t.k ≠ 4)
  (X : ∀ w l,Sx R g cap T w l fx a b c → l ≠ [] → Calls Tryz.prog 211 #[.pointer (some ⟨R,0,none⟩)] w (Out R g cap T w fx a b c (signS fx (inF fx n) l) (ValV w.heap.size))) :
  Calls Tryz.prog 192 #[.pointer (some ⟨R,0,none⟩)] w (Out R g cap T w fx a b c (valF fx n (t :: r)) (ValV w.heap.size)):=by
 have HQ : Hid (valF fx n (t :: r) = signS fx (inF fx n) (t :: r)):=by show _ = _;rw [valF_eq];unfold valG;simp [isK,n1,n2,n3,n4]
 have e1 : (t.k == 1) = false:=by simpa using n1
 have e2 : (t.k == 2) = false:=by simpa using n2
 have e3 : (t.k == 3) = false:=by simpa using n3
 have e4 : (t.k == 4) = false:=by simpa using n4
 have hR:=h.ltR
 have hg:=h.lt
 have F:=fld0 t
 clear n1 n2 n3 n4
 go_enter Tryz.func192,Tryz.ntmps192
 go_wp2_with (first
  | (go_at_call 211;refine (X _ _ ((h.alloc _).non k1) (by simp)).mono ?_;rintro e w2 (⟨p,hq,rfl,k2⟩ | ⟨cs,m,v,hq,rfl,⟨kk,tt,o1,n1,z1,o2,n2,z2,rfl,hat⟩,h2,m2,k2⟩);(exact ⟨rfl,Or.inl ⟨p,HQ.out.trans hq,rfl,((Kp.refl (Own1 R) w).alloc _).trans (k1.any.trans k2)⟩⟩);have K2:=k1.any.trans k2;obtain ⟨c0,c1,c2,c3,cf⟩:=row4 (new_row K2 (fun e => by have e' : w.heap.size = R:=e;omega)))
  | (go_at_call 147;refine (ynext_any (h.alloc _)).mono ?_;rintro e w1 ⟨rfl,k1⟩))
 obtain ⟨r1,r2⟩:=ret4 K2 h2 hR hg (.int .i64 kk) (.string tt) (.slice o1 n1 z1) (.slice o2 n2 z2)
 have hz : w.heap.size + 1 ≤ w1.heap.size:=by have:=k1.size;simpa using this
 refine bodyPost_ret (v:=.agg #[.int .i64 kk,.string tt,.slice o1 n1 z1,.slice o2 n2 z2]) (by simp [results,Tryz.results192,go_sem,c0,c1,c2,c3]) rfl (Or.inr ⟨_,_,_,HQ.out.trans hq,rfl,⟨_,_,_,_,_,_,_,_,rfl,?_⟩,r1,m2,r2⟩)
 exact ats_up (by omega) hat (own4 w.heap.size _ _ _ _) (by omega)
end
end Go.Proofs.YtgmlbjfgfmfliaaGreatDoor
