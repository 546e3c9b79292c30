/- The document's reader of schemas: Parse, walked. -/
import Derived.Test.YtlabcadpkdgjnaaGreatDoorD04
import Derived.Test.YtlabcadpkdgjnaaGreatDoorD03
import Derived.Test.YtlabcadpkdgjnaaGreatDoorE6
namespace Go.Proofs.YtlabcadpkdgjnaaGreatDoor
section
open Go Go.RowKit Go.Shelf
section
variable (ts : List Tok) (N : Nat)
def moreM {α : Type} (x : Sp × List α) : Bool:=decide (x.1.a < 0) && (x.2.isEmpty || !isM ts N 0 [125] x.1)
def rowM {α : Type} (f : Sp → α × Sp) : Nat → Sp × List α → Sp × List α
 | 0,x => x
 | k + 1,x => if moreM ts N x then rowM f k ((f x.1).2,x.2 ++ [(f x.1).1]) else x
def objM (s : Sp) : Ob × Sp:=(⟨(nameM ts N (incM s)).1,(rowM ts N (fieldM ts N) (ts.length + 2) (mustM ts N 0 [123] (nameM ts N (incM s)).2,[])).2⟩,(rowM ts N (fieldM ts N) (ts.length + 2) (mustM ts N 0 [123] (nameM ts N (incM s)).2,[])).1)
def enuM (s : Sp) : En × Sp:=(⟨(nameM ts N (mustM ts N 1 enumB s)).1,(rowM ts N (wordM ts N) (ts.length + 2) (mustM ts N 0 [123] (nameM ts N (mustM ts N 1 enumB s)).2,[])).2⟩,(rowM ts N (wordM ts N) (ts.length + 2) (mustM ts N 0 [123] (nameM ts N (mustM ts N 1 enumB s)).2,[])).1)
def defM (s : Sp) : (Ob ⊕ En) × Sp:=if isM ts N 1 typeB s then (.inl (objM ts N s).1,(objM ts N s).2) else (.inr (enuM ts N s).1,(enuM ts N s).2)
def pcondM (s : Sp) : Bool:=decide (s.a < 0) && (decide (s.i < ts.length) || s.i == 0)
def parM : Nat → Sp × List (Ob ⊕ En) → Sp × List (Ob ⊕ En)
 | 0,x => x
 | k + 1,x => if pcondM ts x.1 then parM k (mustM ts N 0 [125] (defM ts N x.1).2,x.2 ++ [(defM ts N x.1).1]) else x
end
section
variable {ts : List Tok} {N : Nat}
structure GoM {α : Type} (ts : List Tok) (f : Sp → α × Sp) : Prop where
 up : ∀ s,s.i + 1 ≤ (f s).2.i
 al : ∀ s,AliveM ts (f s).2
 hi : ∀ s,(f s).2.i ≤ max s.i (ts.length) + 60
theorem dirsM_facts : ∀ (k : Nat) (x : Sp × Bool × Bs),AliveM ts x.1 → x.1.i ≤ (dirsM ts N k x).1.i ∧ AliveM ts (dirsM ts N k x).1 ∧ (dirsM ts N k x).1.i ≤ max x.1.i (ts.length + 8)
 | 0,x,ha => ⟨Nat.le_refl _,ha,Nat.le_max_left _ _⟩
 | k + 1,x,ha => by
  unfold dirsM
  split
  ·rename_i hc
   have h1:=stepM_i (ts:=ts) (N:=N) x
   have ⟨a1,a2,a3⟩:=dirsM_facts k (stepM ts N x) (stepM_alive x)
   have h3 : x.1.i ≤ ts.length:=by
    unfold condM at hc
    simp only [Bool.and_eq_true,decide_eq_true_eq] at hc
    exact ha hc.1.1
   exact ⟨by omega,a2,by omega⟩
  ·exact ⟨Nat.le_refl _,ha,Nat.le_max_left _ _⟩
theorem go_field : GoM ts (fieldM ts N):=by
 refine ⟨fun s => ?_,fun s => ?_,fun s => ?_⟩
 ·have h1:=(dirsM_facts (N:=N) (ts.length + 2) ((refM ts N (mustM ts N 0 [58] (nameM ts N s).2)).2,false,[]) (refM_alive _)).1
  have h2:=(refM_i (ts:=ts) (N:=N) (mustM ts N 0 [58] (nameM ts N s).2)).2
  rw [mustM_i,nameM_i] at h2
  show s.i + 1 ≤ (dirsM ts N (ts.length + 2) ((refM ts N (mustM ts N 0 [58] (nameM ts N s).2)).2,false,[])).1.i
  have h3 : (refM ts N (mustM ts N 0 [58] (nameM ts N s).2)).2.i ≤ (dirsM ts N (ts.length + 2) ((refM ts N (mustM ts N 0 [58] (nameM ts N s).2)).2,false,[])).1.i:=h1
  omega
 ·exact (dirsM_facts (N:=N) (ts.length + 2) ((refM ts N (mustM ts N 0 [58] (nameM ts N s).2)).2,false,[]) (refM_alive _)).2.1
 ·have h1:=(dirsM_facts (N:=N) (ts.length + 2) ((refM ts N (mustM ts N 0 [58] (nameM ts N s).2)).2,false,[]) (refM_alive _)).2.2
  have h2:=(refM_i (ts:=ts) (N:=N) (mustM ts N 0 [58] (nameM ts N s).2)).1
  rw [mustM_i,nameM_i] at h2
  show (dirsM ts N (ts.length + 2) ((refM ts N (mustM ts N 0 [58] (nameM ts N s).2)).2,false,[])).1.i ≤ _
  have h3 : (dirsM ts N (ts.length + 2) ((refM ts N (mustM ts N 0 [58] (nameM ts N s).2)).2,false,[])).1.i ≤ max (refM ts N (mustM ts N 0 [58] (nameM ts N s).2)).2.i (ts.length + 8):=h1
  omega
theorem go_word : GoM ts (wordM ts N):=by
 refine ⟨fun s => ?_,fun s => nameM_alive _,fun s => ?_⟩
 ·unfold wordM
  rw [nameM_i]
  split
  ·rw [wrongM_i];omega
  ·omega
 ·unfold wordM
  rw [nameM_i]
  split
  ·rw [wrongM_i];omega
  ·omega
theorem rowM_left {α : Type} {f : Sp → α × Sp} (G : GoM ts f) {x : Sp × List α} (hc : moreM ts N x = true) (ha : AliveM ts x.1) : leftM ts (f x.1).2 < leftM ts x.1 ∧ x.1.i ≤ ts.length:=by
 unfold moreM at hc
 simp only [Bool.and_eq_true,decide_eq_true_eq] at hc
 have h1:=ha hc.1
 have h2:=G.up x.1
 unfold leftM
 rw [if_pos hc.1]
 refine ⟨?_,h1⟩
 split <;> omega
theorem rowM_enough {α : Type} {f : Sp → α × Sp} (G : GoM ts f) : ∀ (k j : Nat) (x : Sp × List α),AliveM ts x.1 → leftM ts x.1 < k → leftM ts x.1 < j → rowM ts N f k x = rowM ts N f j x
 | 0,_,_,_,h,_ => absurd h (Nat.not_lt_zero _)
 | _ + 1,0,_,_,_,h => absurd h (Nat.not_lt_zero _)
 | k + 1,j + 1,x,ha,h1,h2 => by
  unfold rowM
  split
  ·rename_i hc
   have:=(rowM_left G hc ha).1
   exact rowM_enough G k j _ (G.al _) (by show leftM ts (f x.1).2 < k;omega) (by show leftM ts (f x.1).2 < j;omega)
  ·rfl
theorem left_le (s : Sp) : leftM ts s ≤ ts.length + 1:=by unfold leftM;split <;> omega
theorem rowM_next {α : Type} {f : Sp → α × Sp} (G : GoM ts f) {x : Sp × List α} (hc : moreM ts N x = true) (ha : AliveM ts x.1) : rowM ts N f (ts.length + 2) x = rowM ts N f (ts.length + 2) ((f x.1).2,x.2 ++ [(f x.1).1]):=by
 have h1:=(rowM_left G hc ha).1
 have h2:=left_le (ts:=ts) x.1
 conv => lhs;unfold rowM
 rw [if_pos hc]
 exact rowM_enough G _ _ _ (G.al _) (by show leftM ts (f x.1).2 < _;omega) (by show leftM ts (f x.1).2 < _;omega)
theorem rowM_stop {α : Type} {f : Sp → α × Sp} {x : Sp × List α} (hc : moreM ts N x = false) : rowM ts N f (ts.length + 2) x = x:=by
 unfold rowM
 rw [if_neg (by rw [hc];simp)]
theorem rowM_facts {α : Type} {f : Sp → α × Sp} (G : GoM ts f) : ∀ (k : Nat) (x : Sp × List α),AliveM ts x.1 → x.1.i ≤ (rowM ts N f k x).1.i ∧ AliveM ts (rowM ts N f k x).1 ∧ (rowM ts N f k x).1.i ≤ max x.1.i (ts.length + 60)
 | 0,x,ha => ⟨Nat.le_refl _,ha,Nat.le_max_left _ _⟩
 | k + 1,x,ha => by
  unfold rowM
  split
  ·rename_i hc
   have h1:=G.up x.1
   have h2:=G.hi x.1
   have h3:=(rowM_left G hc ha).2
   have ⟨a1,a2,a3⟩:=rowM_facts G k ((f x.1).2,x.2 ++ [(f x.1).1]) (G.al _)
   have a1' : (f x.1).2.i ≤ (rowM ts N f k ((f x.1).2,x.2 ++ [(f x.1).1])).1.i:=a1
   have a3' : (rowM ts N f k ((f x.1).2,x.2 ++ [(f x.1).1])).1.i ≤ max (f x.1).2.i (ts.length + 60):=a3
   exact ⟨by omega,a2,by omega⟩
  ·exact ⟨Nat.le_refl _,ha,Nat.le_max_left _ _⟩
end
end
section
open Go Go.RowKit Go.Shelf
theorem obj_facts {ts : List Tok} {N : Nat} (s : Sp) : s.i + 1 ≤ (objM ts N s).2.i ∧ (objM ts N s).2.i ≤ max (s.i + 3) (ts.length + 60):=by
 have h:=rowM_facts (N:=N) (go_field (ts:=ts) (N:=N)) (ts.length + 2) (mustM ts N 0 [123] (nameM ts N (incM s)).2,[]) (mustM_alive (Or.inr (by decide)) _)
 have e : (mustM ts N 0 [123] (nameM ts N (incM s)).2).i = s.i + 3:=by rw [mustM_i,nameM_i];rfl
 obtain ⟨h1,_,h3⟩:=h
 rw [e] at h1 h3
 show s.i + 1 ≤ (rowM ts N (fieldM ts N) (ts.length + 2) (mustM ts N 0 [123] (nameM ts N (incM s)).2,[])).1.i ∧ (rowM ts N (fieldM ts N) (ts.length + 2) (mustM ts N 0 [123] (nameM ts N (incM s)).2,[])).1.i ≤ _
 exact ⟨by omega,h3⟩
theorem enu_facts {ts : List Tok} {N : Nat} (s : Sp) : s.i + 1 ≤ (enuM ts N s).2.i ∧ (enuM ts N s).2.i ≤ max (s.i + 3) (ts.length + 60):=by
 have h:=rowM_facts (N:=N) (go_word (ts:=ts) (N:=N)) (ts.length + 2) (mustM ts N 0 [123] (nameM ts N (mustM ts N 1 enumB s)).2,[]) (mustM_alive (Or.inr (by decide)) _)
 have e : (mustM ts N 0 [123] (nameM ts N (mustM ts N 1 enumB s)).2).i = s.i + 3:=by rw [mustM_i,nameM_i,mustM_i]
 obtain ⟨h1,_,h3⟩:=h
 rw [e] at h1 h3
 show s.i + 1 ≤ (rowM ts N (wordM ts N) (ts.length + 2) (mustM ts N 0 [123] (nameM ts N (mustM ts N 1 enumB s)).2,[])).1.i ∧ (rowM ts N (wordM ts N) (ts.length + 2) (mustM ts N 0 [123] (nameM ts N (mustM ts N 1 enumB s)).2,[])).1.i ≤ _
 exact ⟨by omega,h3⟩
theorem def_facts {ts : List Tok} {N : Nat} (s : Sp) (h : s.i ≤ ts.length) : s.i + 1 ≤ (defM ts N s).2.i ∧ (defM ts N s).2.i ≤ ts.length + 70:=by
 have h1:=obj_facts (ts:=ts) (N:=N) s
 have h2:=enu_facts (ts:=ts) (N:=N) s
 unfold defM
 split
 ·exact ⟨h1.1,by show (objM ts N s).2.i ≤ _;omega⟩
 ·exact ⟨h2.1,by show (enuM ts N s).2.i ≤ _;omega⟩
theorem par_left {ts : List Tok} {N : Nat} {x : Sp × List (Ob ⊕ En)} (hc : pcondM ts x.1 = true) (ha : AliveM ts x.1) : leftM ts (mustM ts N 0 [125] (defM ts N x.1).2) < leftM ts x.1 ∧ x.1.i ≤ ts.length:=by
 unfold pcondM at hc
 simp only [Bool.and_eq_true,decide_eq_true_eq] at hc
 have h1:=ha hc.1
 have h2:=(def_facts (N:=N) x.1 h1).1
 have h3:=mustM_i (ts:=ts) (N:=N) 0 [125] (defM ts N x.1).2
 unfold leftM
 rw [if_pos hc.1]
 refine ⟨?_,h1⟩
 split <;> omega
theorem par_al {ts : List Tok} {N : Nat} (s : Sp) : AliveM ts (mustM ts N 0 [125] s):=mustM_alive (Or.inr (by decide)) _
theorem parM_enough {ts : List Tok} {N : Nat} : ∀ (k j : Nat) (x : Sp × List (Ob ⊕ En)),AliveM ts x.1 → leftM ts x.1 < k → leftM ts x.1 < j → parM ts N k x = parM ts N j x
 | 0,_,_,_,h,_ => absurd h (Nat.not_lt_zero _)
 | _ + 1,0,_,_,_,h => absurd h (Nat.not_lt_zero _)
 | k + 1,j + 1,x,ha,h1,h2 => by
  unfold parM
  split
  ·rename_i hc
   have:=(par_left (N:=N) hc ha).1
   exact parM_enough k j _ (par_al _) (by show leftM ts (mustM ts N 0 [125] (defM ts N x.1).2) < k;omega) (by show leftM ts (mustM ts N 0 [125] (defM ts N x.1).2) < j;omega)
  ·rfl
theorem par_next {ts : List Tok} {N : Nat} {x : Sp × List (Ob ⊕ En)} (hc : pcondM ts x.1 = true) (ha : AliveM ts x.1) : parM ts N (ts.length + 2) x = parM ts N (ts.length + 2) (mustM ts N 0 [125] (defM ts N x.1).2,x.2 ++ [(defM ts N x.1).1]):=by
 have h1:=(par_left (N:=N) hc ha).1
 have h2:=left_le (ts:=ts) x.1
 conv => lhs;unfold parM
 rw [if_pos hc]
 exact parM_enough _ _ _ (par_al _) (by show leftM ts (mustM ts N 0 [125] (defM ts N x.1).2) < _;omega) (by show leftM ts (mustM ts N 0 [125] (defM ts N x.1).2) < _;omega)
section
variable {ts : List Tok} {N : Nat}
abbrev dropT (ts : List Tok) (N : Nat) (s : Sp) : List Tok:=(ts ++ [eofT N]).drop s.i
def NoE (ts : List Tok) : Prop:=∀ t ∈ ts,¬ (t.k = 0 ∧ t.t = [])
def Ag (ts : List Tok) (N : Nat) {α : Type} (r : Rs α) (y : α × Sp) : Prop:=match r with
 | .error p => p.2 = 80 ∧ y.2.a = (p.1 : Int)
 | .ok p => y.1 = p.1 ∧ y.2.a < 0 ∧ y.2.i ≤ ts.length ∧ p.2 = dropT ts N y.2
structure Agr {α : Type} (ts : List Tok) (N : Nat) (F : List Tok → Rs α) (f : Sp → α × Sp) : Prop where
 dead : ∀ s,0 ≤ s.a → (f s).2.a = s.a
 live : ∀ s,s.a < 0 → s.i ≤ ts.length → Ag ts N (F (dropT ts N s)) (f s)
theorem drop_cons {s : Sp} (h : s.i ≤ ts.length) : dropT ts N s = nxM ts N s :: dropT ts N (incM s):=by
 unfold dropT nxM
 have h1 : s.i < (ts ++ [eofT N]).length:=by simp;omega
 rw [List.drop_eq_getElem_cons h1]
 congr 1
 rcases Nat.lt_or_ge s.i ts.length with q | q
 ·rw [List.getElem_append_left q,List.getElem?_eq_getElem q];rfl
 ·rw [List.getElem_append_right q,List.getElem?_eq_none q]
  simp
theorem isP_M {s : Sp} (h : s.i ≤ ts.length) (t : Bs) : isP t (dropT ts N s) = isM ts N 0 t s:=by rw [drop_cons h];rfl
theorem isW_M {s : Sp} (h : s.i ≤ ts.length) (t : Bs) : isW t (dropT ts N s) = isM ts N 1 t s:=by rw [drop_cons h];rfl
theorem isK_M {s : Sp} (h : s.i ≤ ts.length) (k : Int) : isK k (dropT ts N s) = ((nxM ts N s).k == k):=by rw [drop_cons h];rfl
theorem atT_M {s : Sp} (h : s.i ≤ ts.length) : atT (dropT ts N s) = (nxM ts N s).b:=by rw [drop_cons h];rfl
theorem txT_M {s : Sp} (h : s.i ≤ ts.length) : txT (dropT ts N s) = (nxM ts N s).t:=by rw [drop_cons h];rfl
theorem tail_M {s : Sp} (h : s.i ≤ ts.length) : (dropT ts N s).tail = dropT ts N (incM s):=by rw [drop_cons h];rfl
theorem wrongM_dead {s : Sp} (h : 0 ≤ s.a) : wrongM ts N s = s:=by unfold wrongM;rw [if_neg (by omega)]
theorem wrongM_live {s : Sp} (h : s.a < 0) : (wrongM ts N s).a = ((nxM ts N s).b : Int):=by unfold wrongM;rw [if_pos h]
theorem mustM_dead {s : Sp} (h : 0 ≤ s.a) (k : Int) (t : Bs) : (mustM ts N k t s).a = s.a:=by
 unfold mustM incM
 dsimp only
 split
 ·rfl
 ·rw [wrongM_dead h]
theorem nameM_dead {s : Sp} (h : 0 ≤ s.a) : (nameM ts N s).2.a = s.a:=by
 unfold nameM incM
 dsimp only
 split
 ·rfl
 ·rw [wrongM_dead h]
theorem ag_name : Agr ts N nameD (nameM ts N):=by
 refine ⟨fun s h => nameM_dead h,fun s ha hi => ?_⟩
 unfold nameD
 rw [isK_M hi,atT_M hi,txT_M hi,tail_M hi]
 unfold nameM
 cases hk : ((nxM ts N s).k == 1) with
 | true =>
  have:=nx_lt (by simpa using hk)
  exact ⟨rfl,ha,this,rfl⟩
 | false => exact ⟨rfl,wrongM_live ha⟩
theorem ag_sign (t : Bs) (ht : t ≠ []) : Agr ts N (signD t) (fun s => ((),mustM ts N 0 t s)):=by
 refine ⟨fun s h => mustM_dead h _ _,fun s ha hi => ?_⟩
 unfold signD
 rw [isP_M hi,atT_M hi,tail_M hi]
 show Ag ts N _ ((),mustM ts N 0 t s)
 unfold mustM
 cases hk : isM ts N 0 t s with
 | true => exact ⟨rfl,ha,is_lt hk (Or.inr ht),rfl⟩
 | false => exact ⟨rfl,wrongM_live ha⟩
theorem ag_must (t : Bs) : Agr ts N (mustD t) (fun s => ((),mustM ts N 1 t s)):=by
 refine ⟨fun s h => mustM_dead h _ _,fun s ha hi => ?_⟩
 unfold mustD
 rw [isW_M hi,atT_M hi,tail_M hi]
 show Ag ts N _ ((),mustM ts N 1 t s)
 unfold mustM
 cases hk : isM ts N 1 t s with
 | true => exact ⟨rfl,ha,is_lt hk (Or.inl (by decide)),rfl⟩
 | false => exact ⟨rfl,wrongM_live ha⟩
theorem Agr.go {α β : Type} {F : List Tok → Rs α} {f : Sp → α × Sp} {G : α → List Tok → Rs β} {g : α → Sp → β × Sp} (hf : Agr ts N F f) (hg : ∀ a,Agr ts N (G a) (g a)) : Agr ts N (fun l => (F l).go (G)) (fun s => g (f s).1 (f s).2):=by
 refine ⟨fun s h => ?_,fun s ha hi => ?_⟩
 ·have h1:=hf.dead s h
  show (g (f s).1 (f s).2).2.a = s.a
  rw [(hg _).dead _ (by omega),h1]
 ·have h1:=hf.live s ha hi
  show Ag ts N ((F (dropT ts N s)).go G) (g (f s).1 (f s).2)
  cases hF : F (dropT ts N s) with
  | error p =>
   rw [hF] at h1
   obtain ⟨h2,h3⟩:=h1
   refine ⟨h2,?_⟩
   rw [(hg _).dead _ (by omega),h3]
  | ok p =>
   rw [hF] at h1
   obtain ⟨h2,h3,h4,h5⟩:=h1
   obtain ⟨x,m⟩:=p
   subst h2
   simp only at h5
   subst h5
   exact (hg _).live _ h3 h4
theorem ag_ok {α : Type} (a : α) : Agr ts N (fun l => .ok (a,l)) (fun s => (a,s)):=⟨fun _ _ => rfl,fun _ ha hi => ⟨rfl,ha,hi,rfl⟩⟩
theorem ag_bang : Agr ts N bangD (fun s => if isM ts N 0 [33] s then ([33],incM s) else ([],s)):=by
 refine ⟨fun s h => by split <;> rfl,fun s ha hi => ?_⟩
 unfold bangD
 rw [isP_M hi,tail_M hi]
 cases hk : isM ts N 0 [33] s with
 | true => exact ⟨rfl,ha,is_lt hk (Or.inr (by decide)),rfl⟩
 | false => exact ⟨rfl,ha,hi,rfl⟩
theorem Agr.ite {α : Type} {F G : List Tok → Rs α} {f g : Sp → α × Sp} (c : List Tok → Bool) (d : Sp → Bool) (hcd : ∀ s : Sp,s.i ≤ ts.length → c (dropT ts N s) = d s) (hd : ∀ s,d s = true → s.i < ts.length) (hf : Agr ts N F f) (hg : Agr ts N G g) : Agr ts N (fun l => if c l then F l.tail else G l) (fun s => if d s then f (incM s) else g s):=by
 refine ⟨fun s h => ?_,fun s ha hi => ?_⟩
 ·split
  ·exact hf.dead (incM s) h
  ·exact hg.dead s h
 ·rw [hcd s hi,tail_M hi]
  cases hk : d s with
  | true => exact hf.live (incM s) ha (hd s hk)
  | false => exact hg.live s ha hi
theorem Agr.eq {α : Type} {F : List Tok → Rs α} {f g : Sp → α × Sp} (h : Agr ts N F f) (e : ∀ s,f s = g s) : Agr ts N F g:=by
 have : f = g:=funext e
 rw [← this];exact h
theorem ag_ref1 : Agr ts N refD1 (fun s => (((nameM ts N s).1,(if isM ts N 0 [33] (nameM ts N s).2 then (([33] : Bs),incM (nameM ts N s).2) else ([],(nameM ts N s).2)).1),(if isM ts N 0 [33] (nameM ts N s).2 then (([33] : Bs),incM (nameM ts N s).2) else ([],(nameM ts N s).2)).2)) :=
 ag_name.go fun t => ag_bang.go fun b => ag_ok (t,b)
theorem ag_ref : Agr ts N refD (refM ts N):=by
 have h:=Agr.ite (ts:=ts) (N:=N) (isP [91]) (isM ts N 0 [91]) (fun s hi => isP_M hi _) (fun s h => is_lt h (Or.inr (by decide))) (ag_ref1.go fun x => (ag_sign [93] (by decide)).go fun _ => ag_bang.go fun c => ag_ok (x.1,x.2 ++ 91 :: c)) ag_ref1
 refine h.eq fun s => ?_
 unfold refM
 dsimp only
 repeat' split
 all_goals first | rfl | simp_all
theorem ag_inv : Agr ts N inverseD (inverM ts N):=(ag_sign [40] (by decide)).go fun _ => (ag_must fieldB).go fun _ => (ag_sign [58] (by decide)).go fun _ => ag_name.go fun n => (ag_sign [41] (by decide)).go fun _ => ag_ok n
theorem dirsM_stop {k : Nat} {x : Sp × Bool × Bs} (h : condM ts N x = false) : dirsM ts N k x = x:=by
 cases k with
 | zero => rfl
 | succ k => unfold dirsM;rw [if_neg (by rw [h];simp)]
theorem dirsM_dead {k : Nat} {x : Sp × Bool × Bs} (h : 0 ≤ x.1.a) : dirsM ts N k x = x:=dirsM_stop (by
 have e : decide (x.1.a < 0) = false:=by simpa using h
 unfold condM
 rw [e]
 rfl)
theorem ag_dirs : ∀ (k : Nat) (x : Sp × Bool × Bs),x.1.a < 0 → x.1.i ≤ ts.length → leftM ts x.1 < k → Ag ts N (dirsD x.2 (dropT ts N x.1)) ((dirsM ts N k x).2,(dirsM ts N k x).1)
 | 0,_,_,_,h => absurd h (Nat.not_lt_zero _)
 | k + 1,x,ha,hi,hk => by
  rw [dirsD_eq,isP_M hi,tail_M hi]
  have hc : condM ts N x = (((!x.2.1 || x.2.2 == []) && isM ts N 0 [64] x.1)):=by
   unfold condM
   have : decide (x.1.a < 0) = true:=by simpa using ha
   rw [this,Bool.true_and,Bool.and_comm]
  rw [← hc]
  unfold dirsM
  cases hcc : condM ts N x with
  | false => exact ⟨rfl,ha,hi,rfl⟩
  | true =>
   rw [if_pos rfl,if_pos rfl]
   have hl:=step_left hcc (fun _ => hi)
   rw [hcc] at hc
   have hc2:=hc.symm
   simp only [Bool.and_eq_true] at hc2
   have hi1 : (incM x.1).i ≤ ts.length:=is_lt hc2.2 (Or.inr (by decide))
   have ha1 : (incM x.1).a < 0:=ha
   have hs : Ag ts N (directiveD x.2 (dropT ts N (incM x.1))) ((stepM ts N x).2,(stepM ts N x).1):=by
    unfold directiveD stepM
    rw [isW_M hi1,isW_M hi1,tail_M hi1,atT_M hi1,Bool.and_comm (!x.2.1),Bool.and_comm (x.2.2 == [])]
    split
    ·rename_i q
     simp only [Bool.and_eq_true] at q
     exact ⟨rfl,ha,is_lt q.1 (Or.inl (by decide)),rfl⟩
    ·split
     ·rename_i q
      simp only [Bool.and_eq_true] at q
      have h2:=(ag_inv (ts:=ts) (N:=N)).live (incM (incM x.1)) ha (is_lt q.1 (Or.inl (by decide)))
      cases hF : inverseD (dropT ts N (incM (incM x.1))) with
      | error p => rw [hF] at h2;exact h2
      | ok p =>
       rw [hF] at h2
       obtain ⟨h3,h4,h5,h6⟩:=h2
       exact ⟨by show ((x.2.1,(inverM ts N (incM (incM x.1))).1) : Bool × Bs) = (x.2.1,p.1);rw [h3],h4,h5,h6⟩
     ·exact ⟨rfl,wrongM_live ha1⟩
   cases hF : directiveD x.2 (dropT ts N (incM x.1)) with
   | error p =>
    rw [hF] at hs
    obtain ⟨h1,h2⟩:=hs
    have h2' : (stepM ts N x).1.a = (p.1 : Int):=h2
    rw [dirsM_dead (by omega)]
    exact ⟨h1,h2⟩
   | ok p =>
    rw [hF] at hs
    obtain ⟨h1,h2,h3,h4⟩:=hs
    obtain ⟨y,m⟩:=p
    simp only at h1 h4
    subst h1
    subst h4
    exact ag_dirs k (stepM ts N x) h2 h3 (by omega)
theorem ag_field : Agr ts N fieldD (fieldM ts N):=by
 have hd : ∀ t : Bs × Bs,Agr ts N (dirsD (false,[])) (fun s => ((dirsM ts N (ts.length + 2) (s,false,[])).2,(dirsM ts N (ts.length + 2) (s,false,[])).1)):=fun _ =>
  ⟨fun s h => by rw [dirsM_dead h],fun s ha hi => ag_dirs (ts.length + 2) (s,false,[]) ha hi (by have:=left_le (ts:=ts) s;show leftM ts s < _;omega)⟩
 exact ag_name.go fun n => (ag_sign [58] (by decide)).go fun _ => ag_ref.go fun t => (hd t).go fun x => ag_ok (⟨n,t.1,t.2,x.1,x.2⟩ : Fld)
theorem ag_word : Agr ts N wordD (wordM ts N):=by
 refine ⟨fun s h => ?_,fun s ha hi => ?_⟩
 ·unfold wordM
  rw [nameM_dead (by split <;> first | (rw [wrongM_dead h];exact h) | exact h)]
  split
  ·rw [wrongM_dead h]
  ·rfl
 ·unfold wordD
  rw [txT_M hi,atT_M hi]
  have hn:=(ag_name (ts:=ts) (N:=N)).live s ha hi
  unfold wordM
  cases hb : wordB ts N s with
  | true =>
   have h1 : notW.contains (nxM ts N s).t = true:=by
    unfold wordB isM at hb
    simp only [Bool.or_eq_true,Bool.and_eq_true,beq_iff_eq] at hb
    rcases hb with (⟨_,q⟩ | ⟨_,q⟩) | ⟨_,q⟩ <;> rw [q] <;> decide
   rw [h1,if_pos rfl,if_pos rfl]
   refine ⟨rfl,?_⟩
   have:=wrongM_a (ts:=ts) (N:=N) s
   rw [nameM_dead this,wrongM_live ha]
  | false =>
   rw [if_neg (by simp : ¬ (false = true))]
   split
   ·rename_i hc
    have hk : ((nxM ts N s).k == 1) = false:=by
     cases hk : ((nxM ts N s).k == 1) with
     | false => rfl
     | true =>
      exfalso
      unfold wordB isM at hb
      rw [hk] at hb
      simp only [Bool.true_and,Bool.or_eq_false_iff] at hb
      simp only [List.contains_cons,List.contains_nil,hb.1.1,hb.1.2,hb.2,Bool.or_self] at hc
      cases hc
    refine ⟨rfl,?_⟩
    unfold nameM
    rw [hk]
    exact wrongM_live ha
   ·exact hn
end
section
variable {ts : List Tok} {N : Nat}
theorem ag_rest {α : Type} {F : List Tok → Rs α} {f : Sp → α × Sp} (G : GoM ts f) (hF : Eats F) (h : Agr ts N F f) : ∀ (k : Nat) (s : Sp) (xs : List α),s.a < 0 → s.i ≤ ts.length → xs ≠ [] → leftM ts s < k →
  match anyS F [125] (dropT ts N s) with
  | .error p => p.2 = 80 ∧ (mustM ts N 0 [125] (rowM ts N f k (s,xs)).1).a = (p.1 : Int)
  | .ok p => (rowM ts N f k (s,xs)).2 = xs ++ p.1 ∧ (mustM ts N 0 [125] (rowM ts N f k (s,xs)).1).a < 0 ∧ (mustM ts N 0 [125] (rowM ts N f k (s,xs)).1).i ≤ ts.length ∧ p.2 = dropT ts N (mustM ts N 0 [125] (rowM ts N f k (s,xs)).1)
 | 0,_,_,_,_,_,h => absurd h (Nat.not_lt_zero _)
 | k + 1,s,xs,ha,hi,hx,hk => by
  rw [anyS_eq hF,isP_M hi]
  have hm : moreM ts N (s,xs) = !isM ts N 0 [125] s:=by
   unfold moreM
   have e : decide (s.a < 0) = true:=by simpa using ha
   have e2 : xs.isEmpty = false:=by cases xs <;> simp_all
   show (decide (s.a < 0) && (xs.isEmpty || !isM ts N 0 [125] s)) = _
   rw [e,e2];rfl
  unfold rowM
  rw [hm]
  cases hp : isM ts N 0 [125] s with
  | true =>
   rw [if_pos rfl,if_neg (by simp)]
   have hl:=is_lt hp (Or.inr (by decide))
   have hmu : mustM ts N 0 [125] s = incM s:=by unfold mustM;rw [hp,if_pos rfl]
   refine ⟨(List.append_nil _).symm,?_,?_,?_⟩
   ·show (mustM ts N 0 [125] s).a < 0
    rw [hmu];exact ha
   ·show (mustM ts N 0 [125] s).i ≤ _
    rw [hmu];exact hl
   ·show (dropT ts N s).tail = dropT ts N (mustM ts N 0 [125] s)
    rw [hmu,tail_M hi]
  | false =>
   rw [if_neg (by simp),if_pos (by simp)]
   have hs:=h.live s ha hi
   have hl:=(rowM_left (N:=N) G (x:=(s,xs)) (by rw [hm,hp];rfl) (fun _ => hi)).1
   cases hq : F (dropT ts N s) with
   | error p =>
    rw [hq] at hs
    obtain ⟨h1,h2⟩:=hs
    refine ⟨h1,?_⟩
    have hr : ∀ k,rowM ts N f k ((f s).2,xs ++ [(f s).1]) = ((f s).2,xs ++ [(f s).1]):=fun k => by
     cases k with
     | zero => rfl
     | succ k =>
      unfold rowM
      rw [if_neg]
      unfold moreM
      have e : decide ((f s).2.a < 0) = false:=by simp;omega
      show ¬ (decide ((f s).2.a < 0) && _) = true
      rw [e];simp
    rw [hr]
    show (mustM ts N 0 [125] (f s).2).a = _
    rw [mustM_dead (by omega),h2]
   | ok p =>
    rw [hq] at hs
    obtain ⟨h1,h2,h3,h4⟩:=hs
    obtain ⟨x,m⟩:=p
    simp only at h1 h4
    subst h1
    subst h4
    have r:=ag_rest G hF h k (f s).2 (xs ++ [(f s).1]) h2 h3 (by simp) (by have hl' : leftM ts (f s).2 < leftM ts s:=hl;show leftM ts (f s).2 < k;omega)
    show match (anyS F [125] (dropT ts N (f s).2)).go fun b l2 => .ok ((f s).1 :: b,l2) with
     | .error p => _
     | .ok p => _
    cases hy : anyS F [125] (dropT ts N (f s).2) with
    | error p => rw [hy] at r;exact r
    | ok p =>
     rw [hy] at r
     obtain ⟨r1,r2,r3,r4⟩:=r
     refine ⟨?_,r2,r3,r4⟩
     show (rowM ts N f k ((f s).2,xs ++ [(f s).1])).2 = xs ++ (f s).1 :: p.1
     rw [r1,List.append_assoc];rfl
theorem ag_row {α : Type} {F : List Tok → Rs α} {f : Sp → α × Sp} (G : GoM ts f) (hF : Eats F) (h : Agr ts N F f) : Agr ts N (someS F [125]) (fun s => ((rowM ts N f (ts.length + 2) (s,[])).2,mustM ts N 0 [125] (rowM ts N f (ts.length + 2) (s,[])).1)):=by
 have hdead : ∀ (s : Sp) (xs : List α) k,0 ≤ s.a → rowM ts N f k (s,xs) = (s,xs):=fun s xs k hs => by
  cases k with
  | zero => rfl
  | succ k =>
   unfold rowM
   rw [if_neg]
   unfold moreM
   have e : decide (s.a < 0) = false:=by simpa using hs
   show ¬ (decide (s.a < 0) && _) = true
   rw [e];simp
 refine ⟨fun s hs => ?_,fun s ha hi => ?_⟩
 ·show (mustM ts N 0 [125] (rowM ts N f (ts.length + 2) (s,[])).1).a = s.a
  rw [hdead s [] _ hs,mustM_dead hs]
 ·have hm : moreM ts N (s,([] : List α)) = true:=by
   unfold moreM
   have e : decide (s.a < 0) = true:=by simpa using ha
   show (decide (s.a < 0) && (true || _)) = true
   rw [e];rfl
  have hl:=(rowM_left (N:=N) G (x:=(s,[])) hm (fun _ => hi)).1
  have hle:=left_le (ts:=ts) s
  have hs:=h.live s ha hi
  unfold someS
  show Ag ts N _ ((rowM ts N f (ts.length + 1 + 1) (s,[])).2,mustM ts N 0 [125] (rowM ts N f (ts.length + 1 + 1) (s,[])).1)
  unfold rowM
  rw [if_pos hm]
  show Ag ts N _ ((rowM ts N f (ts.length + 1) ((f s).2,[(f s).1])).2,mustM ts N 0 [125] (rowM ts N f (ts.length + 1) ((f s).2,[(f s).1])).1)
  cases hq : F (dropT ts N s) with
  | error p =>
   rw [hq] at hs
   obtain ⟨h1,h2⟩:=hs
   rw [hdead _ _ _ (by omega)]
   refine ⟨h1,?_⟩
   show (mustM ts N 0 [125] (f s).2).a = _
   rw [mustM_dead (by omega),h2]
  | ok p =>
   rw [hq] at hs
   obtain ⟨h1,h2,h3,h4⟩:=hs
   obtain ⟨x,m⟩:=p
   simp only at h1 h4
   subst h1
   subst h4
   have r:=ag_rest G hF h (ts.length + 1) (f s).2 [(f s).1] h2 h3 (by simp) (by have hl' : leftM ts (f s).2 < leftM ts s:=hl;omega)
   show Ag ts N ((anyS F [125] (dropT ts N (f s).2)).go fun b l2 => .ok ((f s).1 :: b,l2)) _
   cases hy : anyS F [125] (dropT ts N (f s).2) with
   | error p => rw [hy] at r;exact r
   | ok p =>
    rw [hy] at r
    obtain ⟨r1,r2,r3,r4⟩:=r
    exact ⟨r1,r2,r3,r4⟩
def defN (ts : List Tok) (N : Nat) (s : Sp) : (Ob ⊕ En) × Sp:=((defM ts N s).1,mustM ts N 0 [125] (defM ts N s).2)
theorem ag_obj : Agr ts N (fun l => (nameD l).go fun n l1 => (withinD fieldD l1).go fun fs l2 => .ok ((.inl ⟨n,fs⟩ : Ob ⊕ En),l2)) (fun s => ((.inl ⟨(nameM ts N s).1,(rowM ts N (fieldM ts N) (ts.length + 2) (mustM ts N 0 [123] (nameM ts N s).2,[])).2⟩ : Ob ⊕ En),mustM ts N 0 [125] (rowM ts N (fieldM ts N) (ts.length + 2) (mustM ts N 0 [123] (nameM ts N s).2,[])).1)) :=
 ag_name.go fun n => ((ag_sign [123] (by decide)).go fun _ => ag_row go_field fieldD_eats ag_field).go fun fs => ag_ok (.inl ⟨n,fs⟩ : Ob ⊕ En)
theorem ag_enu : Agr ts N (fun l => (nameD l).go fun n l1 => (withinD wordD l1).go fun ws l2 => .ok ((.inr ⟨n,ws⟩ : Ob ⊕ En),l2)) (fun s => ((.inr ⟨(nameM ts N s).1,(rowM ts N (wordM ts N) (ts.length + 2) (mustM ts N 0 [123] (nameM ts N s).2,[])).2⟩ : Ob ⊕ En),mustM ts N 0 [125] (rowM ts N (wordM ts N) (ts.length + 2) (mustM ts N 0 [123] (nameM ts N s).2,[])).1)) :=
 ag_name.go fun n => ((ag_sign [123] (by decide)).go fun _ => ag_row go_word wordD_eats ag_word).go fun ws => ag_ok (.inr ⟨n,ws⟩ : Ob ⊕ En)
theorem ag_define : Agr ts N defineD (defN ts N):=by
 have h2 : Agr ts N (fun l => (mustD enumB l).go fun _ l0 => (nameD l0).go fun n l1 => (withinD wordD l1).go fun ws l2 => .ok ((.inr ⟨n,ws⟩ : Ob ⊕ En),l2)) _:=(ag_must enumB).go fun _ => ag_enu
 have h:=Agr.ite (ts:=ts) (N:=N) (isW typeB) (isM ts N 1 typeB) (fun s hi => isW_M hi _) (fun s h => is_lt h (Or.inl (by decide))) ag_obj h2
 have e : defineD = fun l => if isW typeB l then (nameD l.tail).go fun n l1 => (withinD fieldD l1).go fun fs l2 => .ok ((.inl ⟨n,fs⟩ : Ob ⊕ En),l2) else (mustD enumB l).go fun _ l0 => (nameD l0).go fun n l1 => (withinD wordD l1).go fun ws l2 => .ok ((.inr ⟨n,ws⟩ : Ob ⊕ En),l2):=by
  funext l
  unfold defineD mustD
  split
  ·rfl
  ·split <;> rfl
 rw [e]
 refine h.eq fun s => ?_
 unfold defN defM
 split <;> rfl
theorem nx_end {s : Sp} (he : NoE ts) (hi : s.i ≤ ts.length) : isM ts N 0 [] s = decide (s.i = ts.length):=by
 unfold isM nxM
 rcases Nat.lt_or_ge s.i ts.length with q | q
 ·rw [List.getElem?_eq_getElem q]
  have:=he _ (List.getElem_mem q)
  have e : decide (s.i = ts.length) = false:=by simp;omega
  rw [e]
  show ((ts[s.i].k == 0) && (ts[s.i].t == [])) = false
  rcases hk : (ts[s.i].k == 0) with _ | _
  ·rfl
  ·rcases ht : (ts[s.i].t == []) with _ | _
   ·rfl
   ·exact absurd ⟨by simpa using hk,by simpa using ht⟩ this
 ·rw [List.getElem?_eq_none q]
  have e : decide (s.i = ts.length) = true:=by simp;omega
  rw [e];rfl
theorem parM_dead {s : Sp} {xs : List (Ob ⊕ En)} (k : Nat) (h : 0 ≤ s.a) : parM ts N k (s,xs) = (s,xs):=by
 cases k with
 | zero => rfl
 | succ k =>
  unfold parM
  rw [if_neg]
  unfold pcondM
  have e : decide (s.a < 0) = false:=by simpa using h
  show ¬ (decide (s.a < 0) && _) = true
  rw [e];simp
theorem ag_defs (he : NoE ts) : ∀ (k : Nat) (s : Sp) (xs : List (Ob ⊕ En)),s.a < 0 → s.i ≤ ts.length → 1 ≤ s.i → leftM ts s < k →
  match anyS defineD [] (dropT ts N s) with
  | .error p => p.2 = 80 ∧ (parM ts N k (s,xs)).1.a = (p.1 : Int)
  | .ok p => (parM ts N k (s,xs)).2 = xs ++ p.1 ∧ (parM ts N k (s,xs)).1.a < 0
 | 0,_,_,_,_,_,h => absurd h (Nat.not_lt_zero _)
 | k + 1,s,xs,ha,hi,h1,hk => by
  rw [anyS_eq defineD_eats,isP_M hi,nx_end he hi]
  have hda : decide (s.a < 0) = true:=by simpa using ha
  have h0 : (s.i == 0) = false:=by simp;omega
  have hm : pcondM ts s = !decide (s.i = ts.length):=by
   unfold pcondM
   rw [hda,h0]
   by_cases q : s.i = ts.length
   ·rw [q];simp
   ·have : s.i < ts.length:=by omega
    simp [q,this]
  unfold parM
  have e0 : (if pcondM ts (s,xs).1 = true then parM ts N k (mustM ts N 0 [125] (defM ts N (s,xs).1).2,(s,xs).2 ++ [(defM ts N (s,xs).1).1]) else (s,xs)) = (if pcondM ts s = true then parM ts N k ((defN ts N s).2,xs ++ [(defN ts N s).1]) else (s,xs)):=rfl
  rw [e0]
  rw [hm]
  cases hp : decide (s.i = ts.length) with
  | true =>
   rw [if_pos rfl,if_neg (by simp)]
   exact ⟨(List.append_nil _).symm,ha⟩
  | false =>
   rw [if_neg (by simp),if_pos (by simp)]
   have hs:=(ag_define (ts:=ts) (N:=N)).live s ha hi
   have hc : pcondM ts s = true:=by rw [hm,hp];rfl
   have hl:=(par_left (N:=N) (x:=(s,xs)) hc (fun _ => hi)).1
   have hl' : leftM ts (defN ts N s).2 < leftM ts s:=hl
   have hup : 1 ≤ (defN ts N s).2.i:=by
    show 1 ≤ (mustM ts N 0 [125] (defM ts N s).2).i
    rw [mustM_i];omega
   show match (defineD (dropT ts N s)).go (fun a l1 => (anyS defineD [] l1).go fun b l2 => .ok (a :: b,l2)) with
    | .error p => p.2 = 80 ∧ (parM ts N k ((defN ts N s).2,xs ++ [(defN ts N s).1])).1.a = (p.1 : Int)
    | .ok p => (parM ts N k ((defN ts N s).2,xs ++ [(defN ts N s).1])).2 = xs ++ p.1 ∧ (parM ts N k ((defN ts N s).2,xs ++ [(defN ts N s).1])).1.a < 0
   cases hq : defineD (dropT ts N s) with
   | error p =>
    rw [hq] at hs
    obtain ⟨h2,h3⟩:=hs
    rw [parM_dead _ (by omega)]
    exact ⟨h2,h3⟩
   | ok p =>
    rw [hq] at hs
    obtain ⟨h2,h3,h4,h5⟩:=hs
    obtain ⟨x,m⟩:=p
    simp only at h2 h5
    subst h2
    subst h5
    have r:=ag_defs he k (defN ts N s).2 (xs ++ [(defN ts N s).1]) h3 h4 hup (by omega)
    show match (anyS defineD [] (dropT ts N (defN ts N s).2)).go (fun b l2 => .ok ((defN ts N s).1 :: b,l2)) with
     | .error p => p.2 = 80 ∧ (parM ts N k ((defN ts N s).2,xs ++ [(defN ts N s).1])).1.a = (p.1 : Int)
     | .ok p => (parM ts N k ((defN ts N s).2,xs ++ [(defN ts N s).1])).2 = xs ++ p.1 ∧ (parM ts N k ((defN ts N s).2,xs ++ [(defN ts N s).1])).1.a < 0
    cases hy : anyS defineD [] (dropT ts N (defN ts N s).2) with
    | error p => rw [hy] at r;exact r
    | ok p =>
     rw [hy] at r
     obtain ⟨r1,r2⟩:=r
     refine ⟨?_,r2⟩
     rw [r1,List.append_assoc];rfl
theorem ag_schema (he : NoE ts) : match schemaD (ts ++ [eofT N]) with
  | .error p => p.2 = 80 ∧ (parM ts N (ts.length + 2) (⟨0,-1⟩,[])).1.a = (p.1 : Int)
  | .ok p => schOf (parM ts N (ts.length + 2) (⟨0,-1⟩,[])).2 = p.1 ∧ (parM ts N (ts.length + 2) (⟨0,-1⟩,[])).1.a < 0:=by
 obtain ⟨s,hs⟩ : ∃ s : Sp,s = ⟨0,-1⟩:=⟨_,rfl⟩
 have ha : s.a < 0:=by rw [hs];decide
 have hi : s.i ≤ ts.length:=by rw [hs];exact Nat.zero_le _
 have hd : ts ++ [eofT N] = dropT ts N s:=by rw [hs];rfl
 have hc : pcondM ts s = true:=by rw [hs];unfold pcondM;simp
 rw [hd,← hs]
 clear hd hs
 have hl:=(par_left (N:=N) (x:=(s,[])) hc (fun _ => hi)).1
 have hl' : leftM ts (defN ts N s).2 < leftM ts s:=hl
 have hle:=left_le (ts:=ts) s
 have hup : 1 ≤ (defN ts N s).2.i:=by
  show 1 ≤ (mustM ts N 0 [125] (defM ts N s).2).i
  rw [mustM_i];omega
 have hg:=(ag_define (ts:=ts) (N:=N)).live s ha hi
 have e : parM ts N (ts.length + 2) (s,[]) = parM ts N (ts.length + 1) ((defN ts N s).2,[(defN ts N s).1]):=by
  show parM ts N (ts.length + 1 + 1) (s,[]) = _
  conv => lhs;unfold parM
  rw [if_pos hc];rfl
 rw [e]
 unfold schemaD someS
 cases hq : defineD (dropT ts N s) with
 | error p =>
  rw [hq] at hg
  obtain ⟨h2,h3⟩:=hg
  rw [parM_dead _ (by omega)]
  exact ⟨h2,h3⟩
 | ok p =>
  rw [hq] at hg
  obtain ⟨h2,h3,h4,h5⟩:=hg
  obtain ⟨x,m⟩:=p
  simp only at h2 h5
  subst h2
  subst h5
  have r:=ag_defs (N:=N) he (ts.length + 1) (defN ts N s).2 [(defN ts N s).1] h3 h4 hup (by omega)
  simp only [go_ok]
  cases hy : anyS defineD [] (dropT ts N (defN ts N s).2) with
  | error p => rw [hy] at r;exact r
  | ok p =>
   rw [hy] at r
   obtain ⟨r1,r2⟩:=r
   refine ⟨?_,r2⟩
   rw [r1];rfl
end
end
section
open Go Go.RowKit Go.Shelf
theorem blz {w0 w1 w2 : World} (h : Below w0.heap.size w0 w1) (hb : Below w1.heap.size w1 w2) : Below w0.heap.size w0 w2:=h.trans (hb.mono h.size)
theorem zp_start {w : World} {B N : Nat} {v : Value} {ts : List Tok} (h : Toks w B v ts) (h1 : ts.length ≤ 2048) (h2 : N ≤ 16384) : ∃ g cap,v = .slice g ts.length cap ∧ (∀ b o,g = some ⟨b,o,none⟩ → b < w.heap.size) ∧ Zp ts N (w.alloc (.cells #[.slice g ts.length cap,.int .i64 0,.int .i64 (N : Int),.int .i64 (-1)] 53)) w.heap.size g cap ⟨0,-1⟩:=by
 rcases h.2 with ⟨rfl,h0⟩ | ⟨g,cap,cur,hv,hb,hg,hn,_,_,ht⟩
 ·have e : ts = []:=List.length_eq_zero_iff.1 h0
  subst e
  exact ⟨none,0,rfl,fun b o e => (by cases e),⟨heap_alloc_new w _,Nat.le_refl _,fun i t hi => (by simp at hi),h1,h2⟩⟩
 ·refine ⟨_,cap,hv,fun b o e => (by cases e;exact lt_of_block hg),⟨heap_alloc_new w _,hn,fun i t hi => ?_,h1,h2⟩⟩
  have hc:=cellsT_get ts i t hi
  have f : ∀ j x,(cellsT ts)[j]? = some x → (w.alloc (.cells #[.slice (some ⟨g,0,none⟩) ts.length cap,.int .i64 0,.int .i64 (N : Int),.int .i64 (-1)] 53)).cell? ⟨g,0 + j,none⟩ = some x:=fun j x hj => by
   refine cell_on (al1 w _) ?_
   rw [← ht,List.getElem?_take] at hj
   rw [Nat.zero_add]
   split at hj
   ·unfold World.cell?
    rw [hg]
    simpa using hj
   ·cases hj
  have hlt:=lt_of_block hg
  exact ⟨g,0,rfl,by omega,by simp;omega,f _ _ hc.1,by rw [Nat.add_assoc];exact f _ _ hc.2.1,by rw [Nat.add_assoc];exact f _ _ hc.2.2.1,by rw [Nat.add_assoc];exact f _ _ hc.2.2.2⟩
def ParsM (w : World) (s : Bs) (ts : List Tok) (e : Ending) (w' : World) : Prop :=
 if 0 ≤ (parM ts s.length (ts.length + 2) (⟨0,-1⟩,[])).1.a then e = .returned (.tuple #[.agg #[.slice none 0 0,.slice none 0 0],.int .i64 (parM ts s.length (ts.length + 2) (⟨0,-1⟩,[])).1.a,.int .i64 80]) ∧ Below w.heap.size w w'
 else ∃ p1 n1 m1 p2 n2 m2,e = .returned (.tuple #[.agg #[.slice p1 n1 m1,.slice p2 n2 m2],.int .i64 0,.int .i64 0]) ∧ SchAt w' (.slice p1 n1 m1) (.slice p2 n2 m2) (schOf (parM ts s.length (ts.length + 2) (⟨0,-1⟩,[])).2) ∧ Below w.heap.size w w'
set_option maxRecDepth 100000 in
set_option maxHeartbeats 4000000 in
theorem zparse_lex (s : Bs) (p : Nat × Int) (hs : lexS s = .inl p) (w : World) : Calls Tryz.prog 9 #[.string ⟨s.toArray⟩] w fun e w' => e = .returned (.tuple #[.agg #[.slice none 0 0,.slice none 0 0],.int .i64 (p.1 : Int),.int .i64 p.2]) ∧ Below w.heap.size w w':=by
 have hp0:=lexS_bad hs
 have T:=fun W => xtokens_any s W
 rw [hs] at T
 have x1 : (p.2 == 0) = false:=by simpa using hp0
 have x2 : (p.2 != 0) = true:=by simp only [bne,x1];rfl
 obtain ⟨w0,hw0⟩ : ∃ w0,w0 = w.alloc (.cells #[.slice none 0 0,.slice none 0 0] 25):=⟨_,rfl⟩
 have b0 : Below w.heap.size w w0:=by rw [hw0];exact al1 w _
 have Q0 : w0.heap[w.heap.size]? = some (.cells #[.slice none 0 0,.slice none 0 0] 25 (0,0)):=by rw [hw0];exact heap_alloc_new w _
 clear hs hp0
 go_enter Tryz.func9,Tryz.ntmps9
 go_wp2_with (first
  | (go_at_call 18;rw [← hw0];refine (T w0).mono ?_;rintro e w1 ⟨rfl,b1⟩;have R1:=(b1.block _ (lt_of_block Q0)).trans Q0;obtain ⟨c0,c1,cf⟩:=row2 R1)
  | fail)
 refine bodyPost_ret (v:=.tuple #[.agg #[.slice none 0 0,.slice none 0 0],.int .i64 (p.1 : Int),.int .i64 p.2]) (by simp [results,Tryz.results9,go_sem,c0,c1]) rfl ⟨rfl,?_⟩
 exact ((blz b0 b1).setCell (p:=⟨w.heap.size,0,none⟩) (Nat.le_refl _) _).setCell (p:=⟨w.heap.size,1,none⟩) (Nat.le_refl _) _
theorem kp_ge {O : Nat} {X W8 : World} {ov v8 : Value} (gr : X.grownBy W8 ov.ownBlock) (hob : ∀ k,ov.ownBlock = some k → O + 1 ≤ k) : Kp (fun k => O ≤ k) X (W8.setCell ⟨O,1,none⟩ v8) :=
 ((Kp.grewN gr).mono (fun k _ e => by have:=hob _ e;omega)).trans ((Kp.own O 1 v8).mono fun k _ e => by have e' : k = O:=e;omega)
theorem row_end {α : Type} {f : α → List Value} {sz E TO O P n' cap N : Nat} {ts : List Tok} {g : Option Addr} {s : Sp} {X W8 : World} {nm ov v8 : Value} {l : List α} {x : α} (hO : X.heap[O]? = some (.cells #[nm,ov] TO (0,0)))
  (hob : ∀ k,ov.ownBlock = some k → O + 1 ≤ k) (gr : X.grownBy W8 ov.ownBlock) (own : W8.ownsRow (O + 1) E sz v8 n' (l.flatMap f ++ f x)) (hn : n' = l.length + 1) (z : Zp ts N X P g cap s) (hP : P < O) (hg : ∀ b o,g = some ⟨b,o,none⟩ → b < O) :
  Zp ts N (W8.setCell ⟨O,1,none⟩ v8) P g cap s ∧ (W8.setCell ⟨O,1,none⟩ v8).heap[O]? = some (.cells #[nm,v8] TO (0,0)) ∧ RowO (W8.setCell ⟨O,1,none⟩ v8) (O + 1) E sz f v8 (l ++ [x]) ∧ Kp (fun k => O ≤ k) X (W8.setCell ⟨O,1,none⟩ v8) ∧ O + 1 ≤ (W8.setCell ⟨O,1,none⟩ v8).heap.size:=by
 have O8:=rowOld hO (Kp.grewN gr) (fun e => by have:=hob _ e;omega)
 have KW:=kp_ge (v8:=v8) gr hob
 have OW : (W8.setCell ⟨O,1,none⟩ v8).heap[O]? = some (.cells #[nm,v8] TO (0,0)):=heap_setCell_same W8 O 1 _ _ _ O8
 refine ⟨z.kp KW (by omega) (fun b o e => by have:=hg b o e;omega),OW,?_,KW,lt_of_block OW⟩
 refine RowO.blk (RowO.pushL (m:=[x]) own (by rw [hn];rfl) (by simp)) (fun q cur hq hb => rowOld hb (Kp.own O 1 v8) (fun e => by have e' : q = O:=e;omega))
theorem SchR.go {P O : Nat} {w w' : World} {ov ev : Value} {s : Sch} (h : SchR w (P + 2) (P + 1) ov ev s) (k : Kp (SF P O) w w') (hO : w.heap.size ≤ O) (_hP : P + 2 ≤ O) : SchR w' (P + 2) (P + 1) ov ev s :=
 h.kp (S:=fun k => k = P) (k.mono fun q hq e => by rcases e with e | e <;> omega) (fun q e => by omega) (by omega)
set_option maxRecDepth 100000 in
set_option maxHeartbeats 40000000 in
theorem zparse_toks (s : Bs) (ts : List Tok) (hs : lexS s = .inr ts) (w : World) : Calls Tryz.prog 9 #[.string ⟨s.toArray⟩] w (ParsM w s ts):=by
 have T:=fun W => xtokens_any s W
 rw [hs] at T
 obtain ⟨hn1,hn2,_⟩:=lexS_full hs
 have hsz:=size_of s
 obtain ⟨ti,hti,hy0,hy1,hy2⟩:=info_parts Tryz.infoFld
 obtain ⟨si,hsi,sy0,sy1,sy2⟩:=info_parts Tryz.infoStr
 obtain ⟨tO,htO,hO0,hO1,hO2⟩:=info_parts Tryz.infoObj
 obtain ⟨tE,htE,hE0,hE1,hE2⟩:=info_parts Tryz.infoEn
 obtain ⟨w0,hw0⟩ : ∃ w0,w0 = w.alloc (.cells #[.slice none 0 0,.slice none 0 0] 25):=⟨_,rfl⟩
 have b0 : Below w.heap.size w w0:=by rw [hw0];exact al1 w _
 have Q0 : w0.heap[w.heap.size]? = some (.cells #[.slice none 0 0,.slice none 0 0] 25 (0,0)):=by rw [hw0];exact heap_alloc_new w _
 clear hs
 go_enter Tryz.func9,Tryz.ntmps9
 go_wp2_with (first
  | (go_at_call 18;rw [← hw0];refine (T w0).mono ?_;rintro e w1 ⟨⟨v,rfl,ht⟩,b1⟩;have R1:=(b1.block _ (lt_of_block Q0)).trans Q0;obtain ⟨c0,c1,cf⟩:=row2 R1;obtain ⟨g,cap,rfl,hne,Z0⟩:=zp_start (N:=s.length) ht hn1 hn2)
  | fail)
 obtain ⟨wS,hwS⟩ : ∃ wS,wS = (w1.alloc (.cells #[.slice g ts.length cap,.int .i64 0,.int .i64 (s.length : Int),.int .i64 (-1)] 53)).alloc (.cells #[.slice none 0 0,.slice none 0 0] 25):=⟨_,rfl⟩
 have kS : Kp Non w1 wS:=by rw [hwS];exact ((Kp.refl Non w1).alloc _).alloc _
 have ZS : Zp ts s.length wS w1.heap.size g cap ⟨0,-1⟩:=by rw [hwS];exact Z0.non ((Kp.refl Non _).alloc _)
 have QS : wS.heap[w1.heap.size + 1]? = some (.cells #[.slice none 0 0,.slice none 0 0] 25):=by
  rw [hwS]
  have:=heap_alloc_new (w1.alloc (.cells #[.slice g ts.length cap,.int .i64 0,.int .i64 (s.length : Int),.int .i64 (-1)] 53)) (.cells #[.slice none 0 0,.slice none 0 0] 25)
  rw [World.size_alloc] at this
  exact this
 have SS0 : SchR wS (w1.heap.size + 2) (w1.heap.size + 1) (.slice none 0 0) (.slice none 0 0) (schOf []):=⟨QS,ObR.none,EnR.none⟩
 have RS:=rowOld R1 kS (fun e => e)
 have BS : Below w.heap.size w wS:=blz (blz b0 b1) kS.bel
 have hszS : w1.heap.size + 2 ≤ wS.heap.size:=lt_of_block QS
 have hwP : w.heap.size < w1.heap.size:=Nat.lt_of_lt_of_le (lt_of_block Q0) b1.size
 rw [← hwS]
 clear hwS T hw0 b0 Q0 ht Z0 R1 c0 c1 cf QS kS b1
 have hneP : ∀ b o,g = some ⟨b,o,none⟩ → b < w1.heap.size:=hne
 clear hne
 generalize w1.heap.size = P at *
 go_loopw [] (fun wr => ∃ (sx : Sp) (xs : List (Ob ⊕ En)) (ov ev : Value),Zp ts s.length wr P g cap sx ∧ SchR wr (P + 2) (P + 1) ov ev (schOf xs) ∧ wr.heap[w.heap.size]? = some (.cells #[.slice none 0 0,.slice none 0 0] 25 (0,0)) ∧ AliveM ts sx ∧ sx.i ≤ 3000 ∧ xs.length ≤ sx.i ∧ parM ts s.length (ts.length + 2) (⟨0,-1⟩,[]) = parM ts s.length (ts.length + 2) (sx,xs) ∧ Below w.heap.size w wr ∧ P + 2 ≤ wr.heap.size) (fun wr => leftZ ts.length wr P)
 case atStart => exact ⟨⟨0,-1⟩,[],_,_,ZS,SS0,RS,fun _ => Nat.zero_le _,by decide,Nat.zero_le _,rfl,BS,hszS⟩
 case round =>
  obtain ⟨sx,xs,ov,ev,hz,hS,hR,hal,hib,hxl,hpm,hB,hsw⟩:=hrel
  have HD : Hid (parM ts s.length (ts.length + 2) (⟨0,-1⟩,[]) = parM ts s.length (ts.length + 2) (sx,xs)):=hpm
  have lz:=leftZ_eq hz
  clear hpm ZS SS0 RS BS
  obtain ⟨a0,c0,d0,f0,g0⟩:=rowZ4 hz.row
  obtain ⟨m0,m1,mf⟩:=row2 hR
  obtain ⟨n0,n1,nf⟩:=row2 hS.row
  have b6 : sx.i ≤ 1000000:=by omega
  by_cases ha : sx.a < 0
  ·have hsl:=hal ha
   have hda : decide (sx.a < 0) = true:=by simpa using ha
   have hnn : ¬ (sx.a ≥ 0):=by omega
   have hnn2 : decide (0 ≤ sx.a) = false:=by simp;omega
   by_cases hin : sx.i < ts.length ∨ sx.i = 0
   ·have hc : pcondM ts sx = true:=by unfold pcondM;rw [hda];rcases hin with q | q <;> simp [q]
    have b7 : (incM sx).i ≤ 1000000:=by show sx.i + 1 ≤ _;omega
    have CT:=zis_any hz b6 1 typeB
    have hO : parM ts s.length (ts.length + 2) (sx,xs) = parM ts s.length (ts.length + 2) (mustM ts s.length 0 [125] (defM ts s.length sx).2,xs ++ [(defM ts s.length sx).1]):=par_next hc hal
    have HO : Hid (parM ts s.length (ts.length + 2) (⟨0,-1⟩,[]) = parM ts s.length (ts.length + 2) (mustM ts s.length 0 [125] (defM ts s.length sx).2,xs ++ [(defM ts s.length sx).1])):=HD.out.trans hO
    have hdf:=def_facts (N:=s.length) sx hsl
    have hpl:=(par_left (N:=s.length) (x:=(sx,xs)) hc hal).1
    clear hO HD
    cases eT : isM ts s.length 1 typeB sx with
    | true =>
     rw [eT] at CT
     have hq:=is_lt eT (Or.inl (by decide))
     have h1 : decide (((sx.i : Nat) : Int) < (ts.length : Int)) = true:=by simp;omega
     have hdef : defM ts s.length sx = (.inl (objM ts s.length sx).1,(objM ts s.length sx).2):=by unfold defM;rw [if_pos eT]
     clear eT
     have CN:=fun {W : World} (z : Zp ts s.length W P g cap (incM sx)) => zname_st z b7
     have b8 : (nameM ts s.length (incM sx)).2.i ≤ 1000000:=by rw [nameM_i];show sx.i + 1 + 1 ≤ _;omega
     have CM:=fun {W : World} (z : Zp ts s.length W P g cap (nameM ts s.length (incM sx)).2) => zmust_any z b8 0 [123]
     obtain ⟨n,hn⟩ : ∃ n,(nameM ts s.length (incM sx)).1 = n:=⟨_,rfl⟩
     obtain ⟨s1,hs1⟩ : ∃ s1,(nameM ts s.length (incM sx)).2 = s1:=⟨_,rfl⟩
     obtain ⟨s2,hs2⟩ : ∃ s2,mustM ts s.length 0 [123] s1 = s2:=⟨_,rfl⟩
     have hi2 : s2.i = sx.i + 3:=by rw [← hs2,mustM_i,← hs1,nameM_i];rfl
     have al2 : AliveM ts s2:=by rw [← hs2];exact mustM_alive (Or.inr (by decide)) _
     have hob0 : objM ts s.length sx = (⟨n,(rowM ts s.length (fieldM ts s.length) (ts.length + 2) (s2,[])).2⟩,(rowM ts s.length (fieldM ts s.length) (ts.length + 2) (s2,[])).1):=by unfold objM;rw [hn,hs1,hs2]
     rw [hn,hs1] at CN
     rw [hs1,hs2] at CM
     clear hn hs1 hs2 b8
     go_wp2_with (first
      | (go_at_call 21;(with_reducible refine (CM z2').mono ?_);rintro e y3 ⟨rfl,z3,k3⟩)
      | (go_at_call 20;(with_reducible refine (CN (z1.incr _ rfl)).mono ?_);rintro e y2 ⟨rfl,z2,k2⟩;have z2':=z2.non ((Kp.refl Non y2).alloc (.cells #[.string ⟨n.toArray⟩,.slice none 0 0] 58)))
      | (go_at_call 19;(with_reducible refine CT.mono ?_);rintro e y1 ⟨rfl,z1,k1⟩;obtain ⟨a1,c1,d1,f1,g1⟩:=rowZ4 z1.row)
      | fail)
     have O0:=heap_alloc_new y2 (.cells #[.string ⟨n.toArray⟩,.slice none 0 0] 58)
     have O3 : y3.heap[y2.heap.size]? = some (.cells #[.string ⟨n.toArray⟩,.slice none 0 0] 58):=rowOld O0 k3 (fun e => by have e' : y2.heap.size = P:=e;have:=z2.lt;omega)
     have hPO : P + 2 ≤ y2.heap.size:=by have e1:=k1.size;have e2:=k2.size;rw [World.size_setCell] at e2;omega
     have hOw : wr.heap.size ≤ y2.heap.size:=by have e1:=k1.size;have e2:=k2.size;rw [World.size_setCell] at e2;omega
     have K3 : Kp (SF P y2.heap.size) wr y3:=((((k1.any.set P 1 _ (Or.inr (Or.inl rfl))).trans (kp_sf k2)).alloc _).trans (kp_sf k3))
     have hO3 : y2.heap.size + 1 ≤ y3.heap.size:=lt_of_block O3
     clear CT CN CM z1 z2 z2' k1 k2 k3 O0 a1 c1 d1 f1 g1
     generalize y2.heap.size = O at *
     obtain ⟨wB,hwB⟩ : ∃ wB,wB = wr:=⟨_,rfl⟩
     rw [← hwB] at hS hR hB hOw K3
     clear hwB
     go_loopw [] (fun yr => ∃ (sy : Sp) (fs : List Fld) (fv : Value),Zp ts s.length yr P g cap sy ∧ yr.heap[O]? = some (.cells #[.string ⟨n.toArray⟩,fv] 58) ∧ RowO yr (O + 1) 63 5 fldC fv fs ∧ AliveM ts sy ∧ (sy.i ≤ 2800 ∧ fs.length ≤ 2049) ∧ fs.length ≤ sy.i ∧ rowM ts s.length (fieldM ts s.length) (ts.length + 2) (s2,[]) = rowM ts s.length (fieldM ts s.length) (ts.length + 2) (sy,fs) ∧ Kp (SF P O) wB yr ∧ O + 1 ≤ yr.heap.size) (fun yr => leftZ ts.length yr P)
     case atStart => exact ⟨s2,[],_,z3,O3,RowO.none,al2,⟨by omega,Nat.zero_le _⟩,Nat.zero_le _,rfl,K3,hO3⟩
     case round =>
      obtain ⟨sy,fs,fv,hy,hOb,hRw,hla,⟨hyb,hfk⟩,hfl,hrm,hKy,hsy⟩:=hrel
      have HR : Hid (rowM ts s.length (fieldM ts s.length) (ts.length + 2) (s2,[]) = rowM ts s.length (fieldM ts s.length) (ts.length + 2) (sy,fs)):=hrm
      have ly:=leftZ_eq hy
      have hby : sy.i ≤ 1000000:=by omega
      have CF:=fun {W : World} (z : Zp ts s.length W P g cap sy) (hW : P ≤ W.heap.size) => zfield_any z (fun b o e => Nat.lt_of_lt_of_le (hneP b o e) hW) (by omega)
      clear hrm z3 O3 K3 hO3
      obtain ⟨a1,c1,d1,f1,g1⟩:=rowZ4 hy.row
      obtain ⟨p0,p1,pf⟩:=row2 hOb
      obtain ⟨q1,q2,rfl⟩:=hRw.slice
      by_cases hya : sy.a < 0
      ·have hyl:=hla hya
       have hyd : decide (sy.a < 0) = true:=by simpa using hya
       rcases Nat.eq_zero_or_pos fs.length with hf0 | hf0
       ·have hfe : fs = []:=List.length_eq_zero_iff.1 hf0
        have hcm : moreM ts s.length (sy,fs) = true:=by unfold moreM;rw [hyd,hfe];rfl
        have hf1 : (((fs.length : Nat) : Int) == 0) = true:=by simp;exact hfe
        clear hf0 hfe
        have HY : P ≤ wr.heap.size:=by omega
        have HYO : O + 1 ≤ wr.heap.size:=hsy
        have OBY:=hOb
        have RWY:=hRw
        obtain ⟨x6,hx6⟩ : ∃ x6,(fieldM ts s.length sy).1 = x6:=⟨_,rfl⟩
        rw [hx6] at CF
        have HX6 : Hid ((fieldM ts s.length sy).1 = x6):=hx6
        clear hx6
        go_wp2_with (first
         | (at_builtin;refine wpList_append_lies _ rfl (.tmp 85) (.tmp 87) 56 rfl (O + 1) 63 ti _ 5 72 Tryz.underlying56 hti hy0 hy1 hy2 rfl (by decide) (.slice q1 fs.length q2) fs.length (fs.flatMap fldC) rfl O6 ⟨y6.heap.size + 1,0,none⟩ 1 1 (fldC x6) rfl rfl N6 (by intro u hu;simp at hu;rcases hu with rfl | rfl | rfl | rfl | rfl <;> rfl) (by decide) (by unfold maxLen;omega) (by omega) S6 (y6.heap.size + 2) (by simp) ?_;intro g8 cp8 w8 own8 gr8 _ _;have hob : ∀ k,(Value.slice q1 fs.length q2).ownBlock = some k → O + 1 ≤ k:=(fun k e => (ownBlk O6 e).1);have OBX:=rowOld OB6 ((Kp.refl Non (y6.alloc (.cells #[.string ⟨x6.n.toArray⟩,.string ⟨x6.t.toArray⟩,.string ⟨x6.w.toArray⟩,.bool x6.s,.string ⟨x6.i.toArray⟩] 63))).alloc (.cells #[.string ⟨x6.n.toArray⟩,.string ⟨x6.t.toArray⟩,.string ⟨x6.w.toArray⟩,.bool x6.s,.string ⟨x6.i.toArray⟩] 63)) (fun e => e);have OB8:=rowOld OBX (Kp.grewN gr8) (fun e => by have:=hob _ e;omega);obtain ⟨i0,i1,jf⟩:=row2 OB8)
         | (go_at_call 22;(with_reducible refine (CF hy HY).mono ?_);rintro e y6 ⟨rfl,z6,k6⟩;have OB6:=rowOld (rowOld OBY (kp_sf (P:=P) (B:=wr.heap.size) k6) (fun e => by rcases e with e' | e' <;> omega)) ((Kp.refl Non y6).alloc (.cells #[.string ⟨x6.n.toArray⟩,.string ⟨x6.t.toArray⟩,.string ⟨x6.w.toArray⟩,.bool x6.s,.string ⟨x6.i.toArray⟩] 63)) (fun e => e);obtain ⟨b0,b1,bf⟩:=row2 OB6;obtain ⟨e0,e1,e2,e3,e4,ef⟩:=rowZ5 (heap_alloc_new y6 (.cells #[.string ⟨x6.n.toArray⟩,.string ⟨x6.t.toArray⟩,.string ⟨x6.w.toArray⟩,.bool x6.s,.string ⟨x6.i.toArray⟩] 63));have O6:=(((RWY.blk fun q cur hq hb => rowOld hb (kp_sf (P:=P) (B:=wr.heap.size) k6) (fun e => by have:=lt_of_block hb;rcases e with e' | e' <;> omega)).own rfl).alloc (.cells #[.string ⟨x6.n.toArray⟩,.string ⟨x6.t.toArray⟩,.string ⟨x6.w.toArray⟩,.bool x6.s,.string ⟨x6.i.toArray⟩] 63)).alloc (.cells #[.string ⟨x6.n.toArray⟩,.string ⟨x6.t.toArray⟩,.string ⟨x6.w.toArray⟩,.bool x6.s,.string ⟨x6.i.toArray⟩] 63);have S6 : O + 1 ≤ ((y6.alloc (.cells #[.string ⟨x6.n.toArray⟩,.string ⟨x6.t.toArray⟩,.string ⟨x6.w.toArray⟩,.bool x6.s,.string ⟨x6.i.toArray⟩] 63)).alloc (.cells #[.string ⟨x6.n.toArray⟩,.string ⟨x6.t.toArray⟩,.string ⟨x6.w.toArray⟩,.bool x6.s,.string ⟨x6.i.toArray⟩] 63)).heap.size:=(by have:=k6.size;simp;omega);have B6 : ((y6.alloc (.cells #[.string ⟨x6.n.toArray⟩,.string ⟨x6.t.toArray⟩,.string ⟨x6.w.toArray⟩,.bool x6.s,.string ⟨x6.i.toArray⟩] 63)).alloc (.cells #[.string ⟨x6.n.toArray⟩,.string ⟨x6.t.toArray⟩,.string ⟨x6.w.toArray⟩,.bool x6.s,.string ⟨x6.i.toArray⟩] 63)).heap[y6.heap.size + 1]? = some (.cells #[.string ⟨x6.n.toArray⟩,.string ⟨x6.t.toArray⟩,.string ⟨x6.w.toArray⟩,.bool x6.s,.string ⟨x6.i.toArray⟩] 63):=(by have:=heap_alloc_new (y6.alloc (.cells #[.string ⟨x6.n.toArray⟩,.string ⟨x6.t.toArray⟩,.string ⟨x6.w.toArray⟩,.bool x6.s,.string ⟨x6.i.toArray⟩] 63)) (.cells #[.string ⟨x6.n.toArray⟩,.string ⟨x6.t.toArray⟩,.string ⟨x6.w.toArray⟩,.bool x6.s,.string ⟨x6.i.toArray⟩] 63);rw [World.size_alloc] at this;exact this);have N6:=World.news_of_block B6)
         | fail)
        obtain ⟨Z9,O9,R9,K9,S9⟩:=row_end (f:=fldC) (x:=x6) OBX hob gr8 own8 rfl ((z6.non ((Kp.refl Non y6).alloc (.cells #[.string ⟨x6.n.toArray⟩,.string ⟨x6.t.toArray⟩,.string ⟨x6.w.toArray⟩,.bool x6.s,.string ⟨x6.i.toArray⟩] 63))).non ((Kp.refl Non (y6.alloc (.cells #[.string ⟨x6.n.toArray⟩,.string ⟨x6.t.toArray⟩,.string ⟨x6.w.toArray⟩,.bool x6.s,.string ⟨x6.i.toArray⟩] 63))).alloc (.cells #[.string ⟨x6.n.toArray⟩,.string ⟨x6.t.toArray⟩,.string ⟨x6.w.toArray⟩,.bool x6.s,.string ⟨x6.i.toArray⟩] 63))) (by omega) (fun b o e => by have:=hneP b o e;omega)
        have hlf:=(rowM_left (N:=s.length) (go_field (ts:=ts) (N:=s.length)) (x:=(sy,fs)) hcm hla).1
        have hnx:=rowM_next (N:=s.length) (go_field (ts:=ts) (N:=s.length)) (x:=(sy,fs)) hcm hla
        have hup:=(go_field (ts:=ts) (N:=s.length)).up sy
        have hhi:=(go_field (ts:=ts) (N:=s.length)).hi sy
        rw [show (((sy,fs) : Sp × List _).2 ++ [(fieldM ts s.length ((sy,fs) : Sp × List _).1).1]) = fs ++ [x6] from by rw [← HX6.out]] at hnx
        refine ⟨⟨(fieldM ts s.length sy).2,fs ++ [x6],_,Z9,O9,R9,(go_field (ts:=ts) (N:=s.length)).al sy,⟨by omega,by rw [List.length_append];show fs.length + 1 ≤ _;omega⟩,by rw [List.length_append];show fs.length + 1 ≤ _;omega,HR.out.trans hnx,hKy.trans (((((kp_sf k6).alloc (.cells #[.string ⟨x6.n.toArray⟩,.string ⟨x6.t.toArray⟩,.string ⟨x6.w.toArray⟩,.bool x6.s,.string ⟨x6.i.toArray⟩] 63)).alloc (.cells #[.string ⟨x6.n.toArray⟩,.string ⟨x6.t.toArray⟩,.string ⟨x6.w.toArray⟩,.bool x6.s,.string ⟨x6.i.toArray⟩] 63))).trans (K9.mono fun _ _ e => Or.inr e)),S9⟩,?_⟩
        rw [leftZ_eq Z9,ly]
        exact hlf
       ·have hf1 : (((fs.length : Nat) : Int) == 0) = false:=by simp;intro e;rw [e] at hf0;simp at hf0
        have hfe2 : fs.isEmpty = false:=by cases fs <;> simp_all
        clear hf0
        have CI:=zis_any hy hby 0 [125]
        cases eI : isM ts s.length 0 [125] sy with
        | false =>
         rw [eI] at CI
         have hcm : moreM ts s.length (sy,fs) = true:=by unfold moreM;rw [hyd,hfe2,eI];rfl
         clear eI hfe2
         obtain ⟨x6,hx6⟩ : ∃ x6,(fieldM ts s.length sy).1 = x6:=⟨_,rfl⟩
         rw [hx6] at CF
         have HX6 : Hid ((fieldM ts s.length sy).1 = x6):=hx6
         clear hx6
         go_wp2_with (first
          | (at_builtin;refine wpList_append_lies _ rfl (.tmp 85) (.tmp 87) 56 rfl (O + 1) 63 ti _ 5 72 Tryz.underlying56 hti hy0 hy1 hy2 rfl (by decide) (.slice q1 fs.length q2) fs.length (fs.flatMap fldC) rfl O6 ⟨y6.heap.size + 1,0,none⟩ 1 1 (fldC x6) rfl rfl N6 (by intro u hu;simp at hu;rcases hu with rfl | rfl | rfl | rfl | rfl <;> rfl) (by decide) (by unfold maxLen;omega) (by omega) S6 (y6.heap.size + 2) (by simp) ?_;intro g8 cp8 w8 own8 gr8 _ _;have hob : ∀ k,(Value.slice q1 fs.length q2).ownBlock = some k → O + 1 ≤ k:=(fun k e => (ownBlk O6 e).1);have OBX:=rowOld OB6 ((Kp.refl Non (y6.alloc (.cells #[.string ⟨x6.n.toArray⟩,.string ⟨x6.t.toArray⟩,.string ⟨x6.w.toArray⟩,.bool x6.s,.string ⟨x6.i.toArray⟩] 63))).alloc (.cells #[.string ⟨x6.n.toArray⟩,.string ⟨x6.t.toArray⟩,.string ⟨x6.w.toArray⟩,.bool x6.s,.string ⟨x6.i.toArray⟩] 63)) (fun e => e);have OB8:=rowOld OBX (Kp.grewN gr8) (fun e => by have:=hob _ e;omega);obtain ⟨i0,i1,jf⟩:=row2 OB8)
          | (go_at_call 22;(with_reducible refine (CF z5 HY).mono ?_);rintro e y6 ⟨rfl,z6,k6⟩;have OB6:=rowOld (rowOld OBY (kp_sf (P:=P) (B:=y5.heap.size) k6) (fun e => by rcases e with e' | e' <;> omega)) ((Kp.refl Non y6).alloc (.cells #[.string ⟨x6.n.toArray⟩,.string ⟨x6.t.toArray⟩,.string ⟨x6.w.toArray⟩,.bool x6.s,.string ⟨x6.i.toArray⟩] 63)) (fun e => e);obtain ⟨b0,b1,bf⟩:=row2 OB6;obtain ⟨e0,e1,e2,e3,e4,ef⟩:=rowZ5 (heap_alloc_new y6 (.cells #[.string ⟨x6.n.toArray⟩,.string ⟨x6.t.toArray⟩,.string ⟨x6.w.toArray⟩,.bool x6.s,.string ⟨x6.i.toArray⟩] 63));have O6:=(((RWY.blk fun q cur hq hb => rowOld hb (kp_sf (P:=P) (B:=y5.heap.size) k6) (fun e => by have:=lt_of_block hb;rcases e with e' | e' <;> omega)).own rfl).alloc (.cells #[.string ⟨x6.n.toArray⟩,.string ⟨x6.t.toArray⟩,.string ⟨x6.w.toArray⟩,.bool x6.s,.string ⟨x6.i.toArray⟩] 63)).alloc (.cells #[.string ⟨x6.n.toArray⟩,.string ⟨x6.t.toArray⟩,.string ⟨x6.w.toArray⟩,.bool x6.s,.string ⟨x6.i.toArray⟩] 63);have S6 : O + 1 ≤ ((y6.alloc (.cells #[.string ⟨x6.n.toArray⟩,.string ⟨x6.t.toArray⟩,.string ⟨x6.w.toArray⟩,.bool x6.s,.string ⟨x6.i.toArray⟩] 63)).alloc (.cells #[.string ⟨x6.n.toArray⟩,.string ⟨x6.t.toArray⟩,.string ⟨x6.w.toArray⟩,.bool x6.s,.string ⟨x6.i.toArray⟩] 63)).heap.size:=(by have:=k6.size;simp;omega);have B6 : ((y6.alloc (.cells #[.string ⟨x6.n.toArray⟩,.string ⟨x6.t.toArray⟩,.string ⟨x6.w.toArray⟩,.bool x6.s,.string ⟨x6.i.toArray⟩] 63)).alloc (.cells #[.string ⟨x6.n.toArray⟩,.string ⟨x6.t.toArray⟩,.string ⟨x6.w.toArray⟩,.bool x6.s,.string ⟨x6.i.toArray⟩] 63)).heap[y6.heap.size + 1]? = some (.cells #[.string ⟨x6.n.toArray⟩,.string ⟨x6.t.toArray⟩,.string ⟨x6.w.toArray⟩,.bool x6.s,.string ⟨x6.i.toArray⟩] 63):=(by have:=heap_alloc_new (y6.alloc (.cells #[.string ⟨x6.n.toArray⟩,.string ⟨x6.t.toArray⟩,.string ⟨x6.w.toArray⟩,.bool x6.s,.string ⟨x6.i.toArray⟩] 63)) (.cells #[.string ⟨x6.n.toArray⟩,.string ⟨x6.t.toArray⟩,.string ⟨x6.w.toArray⟩,.bool x6.s,.string ⟨x6.i.toArray⟩] 63);rw [World.size_alloc] at this;exact this);have N6:=World.news_of_block B6)
          | (go_at_call 19;(with_reducible refine CI.mono ?_);rintro e y5 ⟨rfl,z5,k5⟩;have HY : P ≤ y5.heap.size:=(by have:=k5.size;omega);have HYO : O + 1 ≤ y5.heap.size:=(by have:=k5.size;omega);have OBY:=rowOld hOb k5 (fun e => e);have RWY:=hRw.blk (fun q cur hq hb => rowOld hb k5 (fun e => e)))
          | fail)
         obtain ⟨Z9,O9,R9,K9,S9⟩:=row_end (f:=fldC) (x:=x6) OBX hob gr8 own8 rfl ((z6.non ((Kp.refl Non y6).alloc (.cells #[.string ⟨x6.n.toArray⟩,.string ⟨x6.t.toArray⟩,.string ⟨x6.w.toArray⟩,.bool x6.s,.string ⟨x6.i.toArray⟩] 63))).non ((Kp.refl Non (y6.alloc (.cells #[.string ⟨x6.n.toArray⟩,.string ⟨x6.t.toArray⟩,.string ⟨x6.w.toArray⟩,.bool x6.s,.string ⟨x6.i.toArray⟩] 63))).alloc (.cells #[.string ⟨x6.n.toArray⟩,.string ⟨x6.t.toArray⟩,.string ⟨x6.w.toArray⟩,.bool x6.s,.string ⟨x6.i.toArray⟩] 63))) (by omega) (fun b o e => by have:=hneP b o e;omega)
         have hlf:=(rowM_left (N:=s.length) (go_field (ts:=ts) (N:=s.length)) (x:=(sy,fs)) hcm hla).1
         have hnx:=rowM_next (N:=s.length) (go_field (ts:=ts) (N:=s.length)) (x:=(sy,fs)) hcm hla
         have hup:=(go_field (ts:=ts) (N:=s.length)).up sy
         have hhi:=(go_field (ts:=ts) (N:=s.length)).hi sy
         rw [show (((sy,fs) : Sp × List _).2 ++ [(fieldM ts s.length ((sy,fs) : Sp × List _).1).1]) = fs ++ [x6] from by rw [← HX6.out]] at hnx
         refine ⟨⟨(fieldM ts s.length sy).2,fs ++ [x6],_,Z9,O9,R9,(go_field (ts:=ts) (N:=s.length)).al sy,⟨by omega,by rw [List.length_append];show fs.length + 1 ≤ _;omega⟩,by rw [List.length_append];show fs.length + 1 ≤ _;omega,HR.out.trans hnx,(hKy.trans k5.any).trans (((((kp_sf k6).alloc (.cells #[.string ⟨x6.n.toArray⟩,.string ⟨x6.t.toArray⟩,.string ⟨x6.w.toArray⟩,.bool x6.s,.string ⟨x6.i.toArray⟩] 63)).alloc (.cells #[.string ⟨x6.n.toArray⟩,.string ⟨x6.t.toArray⟩,.string ⟨x6.w.toArray⟩,.bool x6.s,.string ⟨x6.i.toArray⟩] 63))).trans (K9.mono fun _ _ e => Or.inr e)),S9⟩,?_⟩
         rw [leftZ_eq Z9,ly]
         exact hlf
        | true =>
         rw [eI] at CI
         have hcm : moreM ts s.length (sy,fs) = false:=by unfold moreM;rw [hyd,hfe2,eI];rfl
         clear eI hfe2
         have HST : Hid (rowM ts s.length (fieldM ts s.length) (ts.length + 2) (s2,[]) = (sy,fs)):=HR.out.trans (rowM_stop hcm)
         have hfa:=(rowM_facts (N:=s.length) (go_field (ts:=ts) (N:=s.length)) (ts.length + 2) (s2,[]) al2).1
         have hfi : s2.i ≤ sy.i:=by rw [HST.out] at hfa;exact hfa
         have hD : defM ts s.length sx = (.inl ⟨n,fs⟩,sy):=by rw [hdef,hob0,HST.out]
         have HD2 : Hid (parM ts s.length (ts.length + 2) (⟨0,-1⟩,[]) = parM ts s.length (ts.length + 2) (mustM ts s.length 0 [125] sy,xs ++ [.inl ⟨n,fs⟩])):=by have h:=HO.out;rw [hD] at h;exact h
         have HPL : Hid (leftM ts (mustM ts s.length 0 [125] sy) < leftM ts sx):=by have h:=hpl;rw [hD] at h;exact h
         clear hD hfa
         go_wp2_with (first
          | (go_at_call 21;(with_reducible refine (zmust_any zW9 hby 0 [125]).mono ?_);rintro e y10 ⟨rfl,z10,k10⟩)
          | (at_builtin;refine wpList_append_lies _ rfl (.tmp 91) (.tmp 93) 22 rfl (P + 2) 58 tO _ 2 40 Tryz.underlying22 htO hO0 hO1 hO2 rfl (by decide) ov lp.length (lp.flatMap obC) rfl ((hOO.own rfl).alloc _) ⟨y5.heap.size,0,none⟩ 1 1 [.string ⟨n.toArray⟩,.slice q1 fs.length q2] rfl rfl (World.news_of_block (heap_alloc_new _ _)) (by intro u hu;simp at hu;rcases hu with rfl | rfl <;> rfl) (by decide) (by unfold maxLen;omega) (by omega) (by simp;omega) (y5.heap.size + 1) (by simp) ?_;intro g9 cp9 w9 own9 gr9 _ _;obtain ⟨SR9,KB9,R9'⟩:=sch_endT (fs:=fs) hlp hF hOO hSY.row hSY.es (RWY.base (by omega)) (by omega) gr9 rfl own9 (by omega) (by omega);obtain ⟨e0,e1,ef⟩:=row2 R9';have zW9:=(z5.kp KB9 (by omega) (fun b o e => by have:=hneP b o e;omega)).kp (Kp.own (P + 1) 0 (.slice (some ⟨g9,0,none⟩) (lp.length + 1) cp9)) (by intro e;have e' : P = P + 1:=e;omega) (fun b o e q => by have:=hneP b o e;have q' : b = P + 1:=q;omega))
          | (go_at_call 19;(with_reducible refine CI.mono ?_);rintro e y5 ⟨rfl,z5,k5⟩;have HYO : O + 1 ≤ y5.heap.size:=(by have:=k5.size;omega);have OBY:=rowOld hOb k5 (fun e => e);have RWY:=hRw.blk (fun q cur hq hb => rowOld hb k5 (fun e => e));have KYo : Kp (SF P O) wB y5:=hKy.trans k5.any;have hSY:=hS.go KYo hOw hPO;obtain ⟨n0',n1',nf'⟩:=row2 hSY.row;obtain ⟨p0',p1',pf'⟩:=row2 OBY;obtain ⟨lp,hlp,hOO,hF⟩:=hSY.os;have hlen : lp.length ≤ xs.length:=(by have e:=congrArg List.length hlp;rw [List.length_map] at e;rw [e];exact List.length_filterMap_le _ _);have hzY : P + 2 ≤ y5.heap.size:=(by omega))
          | fail)
         have hmi:=mustM_i (ts:=ts) (N:=s.length) 0 [125] sy
         have KF : Kp (fun k => P ≤ k) y5 y10:=((KB9.mono fun _ _ e => by omega).trans ((Kp.own (P + 1) 0 (.slice (some ⟨g9,0,none⟩) (lp.length + 1) cp9)).mono fun k _ e => by have e' : k = P + 1:=e;omega)).trans (k10.mono fun k _ e => by have e' : k = P:=e;omega)
         have KFo : Kp (fun k => P ≤ k) wB y10:=(KYo.mono fun k _ e => by rcases e with e | e <;> omega).trans KF
         have SR10:=SR9.kp (S:=fun k => k = P) (k10.mono fun _ _ e => e) (fun q e => by omega) (by omega)
         have R10:=rowOld hR KFo (fun e => by omega)
         have B10 : Below w.heap.size w y10:=hB.trans ⟨KFo.os,KFo.tape,KFo.output,KFo.size,fun q hq => KFo.block q (Nat.lt_of_lt_of_le hq hB.size) (by omega)⟩
         have Z10:=KF.size
         refine ⟨⟨mustM ts s.length 0 [125] sy,xs ++ [.inl ⟨n,fs⟩],_,_,z10,SR10,R10,par_al sy,by omega,by rw [List.length_append];show xs.length + 1 ≤ _;omega,HD2.out,B10,by omega⟩,?_⟩
         rw [leftZ_eq z10,lz]
         exact HPL.out
      ·have hyd : decide (sy.a < 0) = false:=by simpa using hya
       have hcm : moreM ts s.length (sy,fs) = false:=by unfold moreM;rw [hyd];rfl
       have HST : Hid (rowM ts s.length (fieldM ts s.length) (ts.length + 2) (s2,[]) = (sy,fs)):=HR.out.trans (rowM_stop hcm)
       have hfa:=(rowM_facts (N:=s.length) (go_field (ts:=ts) (N:=s.length)) (ts.length + 2) (s2,[]) al2).1
       have hfi : s2.i ≤ sy.i:=by rw [HST.out] at hfa;exact hfa
       have hD : defM ts s.length sx = (.inl ⟨n,fs⟩,sy):=by rw [hdef,hob0,HST.out]
       have HD2 : Hid (parM ts s.length (ts.length + 2) (⟨0,-1⟩,[]) = parM ts s.length (ts.length + 2) (mustM ts s.length 0 [125] sy,xs ++ [.inl ⟨n,fs⟩])):=by have h:=HO.out;rw [hD] at h;exact h
       have HPL : Hid (leftM ts (mustM ts s.length 0 [125] sy) < leftM ts sx):=by have h:=hpl;rw [hD] at h;exact h
       clear hD hfa
       have HYO : O + 1 ≤ wr.heap.size:=hsy
       have OBY:=hOb
       have RWY:=hRw
       have KYo : Kp (SF P O) wB wr:=hKy
       have hSY:=hS.go KYo hOw hPO
       obtain ⟨n0',n1',nf'⟩:=row2 hSY.row
       obtain ⟨p0',p1',pf'⟩:=row2 OBY
       obtain ⟨lp,hlp,hOO,hF⟩:=hSY.os
       have hlen : lp.length ≤ xs.length:=by
        have e:=congrArg List.length hlp
        rw [List.length_map] at e
        rw [e]
        exact List.length_filterMap_le _ _
       have hzY : P + 2 ≤ wr.heap.size:=by omega
       go_wp2_with (first
        | (go_at_call 21;(with_reducible refine (zmust_any zW9 hby 0 [125]).mono ?_);rintro e y10 ⟨rfl,z10,k10⟩)
        | (at_builtin;refine wpList_append_lies _ rfl (.tmp 91) (.tmp 93) 22 rfl (P + 2) 58 tO _ 2 40 Tryz.underlying22 htO hO0 hO1 hO2 rfl (by decide) ov lp.length (lp.flatMap obC) rfl ((hOO.own rfl).alloc _) ⟨wr.heap.size,0,none⟩ 1 1 [.string ⟨n.toArray⟩,.slice q1 fs.length q2] rfl rfl (World.news_of_block (heap_alloc_new _ _)) (by intro u hu;simp at hu;rcases hu with rfl | rfl <;> rfl) (by decide) (by unfold maxLen;omega) (by omega) (by simp;omega) (wr.heap.size + 1) (by simp) ?_;intro g9 cp9 w9 own9 gr9 _ _;obtain ⟨SR9,KB9,R9'⟩:=sch_endT (fs:=fs) hlp hF hOO hSY.row hSY.es (RWY.base (by omega)) (by omega) gr9 rfl own9 (by omega) (by omega);obtain ⟨e0,e1,ef⟩:=row2 R9';have zW9:=(hy.kp KB9 (by omega) (fun b o e => by have:=hneP b o e;omega)).kp (Kp.own (P + 1) 0 (.slice (some ⟨g9,0,none⟩) (lp.length + 1) cp9)) (by intro e;have e' : P = P + 1:=e;omega) (fun b o e q => by have:=hneP b o e;have q' : b = P + 1:=q;omega))
        | fail)
       have hmi:=mustM_i (ts:=ts) (N:=s.length) 0 [125] sy
       have KF : Kp (fun k => P ≤ k) wr y10:=((KB9.mono fun _ _ e => by omega).trans ((Kp.own (P + 1) 0 (.slice (some ⟨g9,0,none⟩) (lp.length + 1) cp9)).mono fun k _ e => by have e' : k = P + 1:=e;omega)).trans (k10.mono fun k _ e => by have e' : k = P:=e;omega)
       have KFo : Kp (fun k => P ≤ k) wB y10:=(KYo.mono fun k _ e => by rcases e with e | e <;> omega).trans KF
       have SR10:=SR9.kp (S:=fun k => k = P) (k10.mono fun _ _ e => e) (fun q e => by omega) (by omega)
       have R10:=rowOld hR KFo (fun e => by omega)
       have B10 : Below w.heap.size w y10:=hB.trans ⟨KFo.os,KFo.tape,KFo.output,KFo.size,fun q hq => KFo.block q (Nat.lt_of_lt_of_le hq hB.size) (by omega)⟩
       have Z10:=KF.size
       refine ⟨⟨mustM ts s.length 0 [125] sy,xs ++ [.inl ⟨n,fs⟩],_,_,z10,SR10,R10,par_al sy,by omega,by rw [List.length_append];show xs.length + 1 ≤ _;omega,HD2.out,B10,by omega⟩,?_⟩
       rw [leftZ_eq z10,lz]
       exact HPL.out
    | false =>
     rcases Nat.lt_or_ge sx.i ts.length with hil | hil
     ·have h1 : decide (((sx.i : Nat) : Int) < (ts.length : Int)) = true:=by simp;omega
      rw [eT] at CT
      have hdef : defM ts s.length sx = (.inr (enuM ts s.length sx).1,(enuM ts s.length sx).2):=by unfold defM;rw [if_neg (by rw [eT];simp)]
      clear eT
      have CU:=fun {W : World} (z : Zp ts s.length W P g cap sx) => zmust_any z b6 1 enumB
      obtain ⟨s0,hs0⟩ : ∃ s0,mustM ts s.length 1 enumB sx = s0:=⟨_,rfl⟩
      have hi0 : s0.i = sx.i + 1:=by rw [← hs0,mustM_i]
      rw [hs0] at CU
      have b7 : s0.i ≤ 1000000:=by omega
      have CN:=fun {W : World} (z : Zp ts s.length W P g cap s0) => zname_st z b7
      have b8 : (nameM ts s.length s0).2.i ≤ 1000000:=by rw [nameM_i];omega
      have CM:=fun {W : World} (z : Zp ts s.length W P g cap (nameM ts s.length s0).2) => zmust_any z b8 0 [123]
      obtain ⟨n,hn⟩ : ∃ n,(nameM ts s.length s0).1 = n:=⟨_,rfl⟩
      obtain ⟨s1,hs1⟩ : ∃ s1,(nameM ts s.length s0).2 = s1:=⟨_,rfl⟩
      obtain ⟨s2,hs2⟩ : ∃ s2,mustM ts s.length 0 [123] s1 = s2:=⟨_,rfl⟩
      have hi2 : s2.i = sx.i + 3:=by rw [← hs2,mustM_i,← hs1,nameM_i];omega
      have al2 : AliveM ts s2:=by rw [← hs2];exact mustM_alive (Or.inr (by decide)) _
      have hob0 : enuM ts s.length sx = (⟨n,(rowM ts s.length (wordM ts s.length) (ts.length + 2) (s2,[])).2⟩,(rowM ts s.length (wordM ts s.length) (ts.length + 2) (s2,[])).1):=by unfold enuM;rw [hs0,hn,hs1,hs2]
      rw [hn,hs1] at CN
      rw [hs1,hs2] at CM
      clear hn hs1 hs2 hs0 b8
      go_wp2_with (first
       | (go_at_call 21;(with_reducible refine (CM z2').mono ?_);rintro e y3 ⟨rfl,z3,k3⟩)
       | (go_at_call 20;(with_reducible refine (CN z0).mono ?_);rintro e y2 ⟨rfl,z2,k2⟩;have z2':=z2.non ((Kp.refl Non y2).alloc (.cells #[.string ⟨n.toArray⟩,.slice none 0 0] 66)))
       | (go_at_call 21;(with_reducible refine (CU z1).mono ?_);rintro e y0 ⟨rfl,z0,k0⟩)
       | (go_at_call 19;(with_reducible refine CT.mono ?_);rintro e y1 ⟨rfl,z1,k1⟩;obtain ⟨a1,c1,d1,f1,g1⟩:=rowZ4 z1.row)
       | fail)
      have O0:=heap_alloc_new y2 (.cells #[.string ⟨n.toArray⟩,.slice none 0 0] 66)
      have O3 : y3.heap[y2.heap.size]? = some (.cells #[.string ⟨n.toArray⟩,.slice none 0 0] 66):=rowOld O0 k3 (fun e => by have e' : y2.heap.size = P:=e;have:=z2.lt;omega)
      have hPO : P + 2 ≤ y2.heap.size:=by have e1:=k1.size;have e2:=k2.size;have e3:=k0.size;omega
      have hOw : wr.heap.size ≤ y2.heap.size:=by have e1:=k1.size;have e2:=k2.size;have e3:=k0.size;omega
      have K3 : Kp (SF P y2.heap.size) wr y3:=((((k1.any.trans (kp_sf k0)).trans (kp_sf k2)).alloc _).trans (kp_sf k3))
      have hO3 : y2.heap.size + 1 ≤ y3.heap.size:=lt_of_block O3
      clear CT CN CM CU z0 z1 z2 z2' k0 k1 k2 k3 O0 a1 c1 d1 f1 g1
      generalize y2.heap.size = O at *
      obtain ⟨wB,hwB⟩ : ∃ wB,wB = wr:=⟨_,rfl⟩
      rw [← hwB] at hS hR hB hOw K3
      clear hwB
      go_loopw [] (fun yr => ∃ (sy : Sp) (fs : List Bs) (fv : Value),Zp ts s.length yr P g cap sy ∧ yr.heap[O]? = some (.cells #[.string ⟨n.toArray⟩,fv] 66) ∧ RowO yr (O + 1) 9 1 wrdC fv fs ∧ AliveM ts sy ∧ (sy.i ≤ 2800 ∧ fs.length ≤ 2049) ∧ fs.length ≤ sy.i ∧ rowM ts s.length (wordM ts s.length) (ts.length + 2) (s2,[]) = rowM ts s.length (wordM ts s.length) (ts.length + 2) (sy,fs) ∧ Kp (SF P O) wB yr ∧ O + 1 ≤ yr.heap.size) (fun yr => leftZ ts.length yr P)
      case atStart => exact ⟨s2,[],_,z3,O3,RowO.none,al2,⟨by omega,Nat.zero_le _⟩,Nat.zero_le _,rfl,K3,hO3⟩
      case round =>
       obtain ⟨sy,fs,fv,hy,hOb,hRw,hla,⟨hyb,hfk⟩,hfl,hrm,hKy,hsy⟩:=hrel
       have HR : Hid (rowM ts s.length (wordM ts s.length) (ts.length + 2) (s2,[]) = rowM ts s.length (wordM ts s.length) (ts.length + 2) (sy,fs)):=hrm
       have ly:=leftZ_eq hy
       have hby : sy.i ≤ 1000000:=by omega
       have CF:=fun {W : World} (z : Zp ts s.length W P g cap sy) (hW : P ≤ W.heap.size) => zword_any z (by omega)
       clear hrm z3 O3 K3 hO3
       obtain ⟨a1,c1,d1,f1,g1⟩:=rowZ4 hy.row
       obtain ⟨p0,p1,pf⟩:=row2 hOb
       obtain ⟨q1,q2,rfl⟩:=hRw.slice
       by_cases hya : sy.a < 0
       ·have hyl:=hla hya
        have hyd : decide (sy.a < 0) = true:=by simpa using hya
        rcases Nat.eq_zero_or_pos fs.length with hf0 | hf0
        ·have hfe : fs = []:=List.length_eq_zero_iff.1 hf0
         have hcm : moreM ts s.length (sy,fs) = true:=by unfold moreM;rw [hyd,hfe];rfl
         have hf1 : (((fs.length : Nat) : Int) == 0) = true:=by simp;exact hfe
         clear hf0 hfe
         have HY : P ≤ wr.heap.size:=by omega
         have HYO : O + 1 ≤ wr.heap.size:=hsy
         have OBY:=hOb
         have RWY:=hRw
         obtain ⟨x6,hx6⟩ : ∃ x6,(wordM ts s.length sy).1 = x6:=⟨_,rfl⟩
         rw [hx6] at CF
         have HX6 : Hid ((wordM ts s.length sy).1 = x6):=hx6
         clear hx6
         go_wp2_with (first
          | (at_builtin;refine wpList_append_lies _ rfl (.tmp 122) (.tmp 124) 41 rfl (O + 1) 9 si _ 1 16 Tryz.underlying41 hsi sy0 sy1 sy2 rfl (by decide) (.slice q1 fs.length q2) fs.length (fs.flatMap wrdC) rfl O6 ⟨y6.heap.size,0,none⟩ 1 1 (wrdC x6) rfl rfl N6 (by intro u hu;simp at hu;subst hu;rfl) (by decide) (by unfold maxLen;omega) (by omega) S6 (y6.heap.size + 1) (by simp) ?_;intro g8 cp8 w8 own8 gr8 _ _;have hob : ∀ k,(Value.slice q1 fs.length q2).ownBlock = some k → O + 1 ≤ k:=(fun k e => (ownBlk O6 e).1);have OBX:=rowOld OB6 ((Kp.refl Non y6).alloc (.cells #[.string ⟨x6.toArray⟩] 9)) (fun e => e);have OB8:=rowOld OBX (Kp.grewN gr8) (fun e => by have:=hob _ e;omega);obtain ⟨i0,i1,jf⟩:=row2 OB8)
          | (go_at_call 23;(with_reducible refine (CF hy HY).mono ?_);rintro e y6 ⟨rfl,z6,k6⟩;have OB6:=rowOld OBY (kp_sf (P:=P) (B:=wr.heap.size) k6) (fun e => by rcases e with e' | e' <;> omega);obtain ⟨b0,b1,bf⟩:=row2 OB6;have O6:=((RWY.blk fun q cur hq hb => rowOld hb (kp_sf (P:=P) (B:=wr.heap.size) k6) (fun e => by have:=lt_of_block hb;rcases e with e' | e' <;> omega)).own rfl).alloc (.cells #[.string ⟨x6.toArray⟩] 9);have S6 : O + 1 ≤ (y6.alloc (.cells #[.string ⟨x6.toArray⟩] 9)).heap.size:=(by have:=k6.size;simp;omega);have N6:=World.news_of_block (heap_alloc_new y6 (.cells #[.string ⟨x6.toArray⟩] 9)))
          | fail)
         obtain ⟨Z9,O9,R9,K9,S9⟩:=row_end (f:=wrdC) (x:=x6) OBX hob gr8 own8 rfl (z6.non ((Kp.refl Non y6).alloc (.cells #[.string ⟨x6.toArray⟩] 9))) (by omega) (fun b o e => by have:=hneP b o e;omega)
         have hlf:=(rowM_left (N:=s.length) (go_word (ts:=ts) (N:=s.length)) (x:=(sy,fs)) hcm hla).1
         have hnx:=rowM_next (N:=s.length) (go_word (ts:=ts) (N:=s.length)) (x:=(sy,fs)) hcm hla
         have hup:=(go_word (ts:=ts) (N:=s.length)).up sy
         have hhi:=(go_word (ts:=ts) (N:=s.length)).hi sy
         rw [show (((sy,fs) : Sp × List _).2 ++ [(wordM ts s.length ((sy,fs) : Sp × List _).1).1]) = fs ++ [x6] from by rw [← HX6.out]] at hnx
         refine ⟨⟨(wordM ts s.length sy).2,fs ++ [x6],_,Z9,O9,R9,(go_word (ts:=ts) (N:=s.length)).al sy,⟨by omega,by rw [List.length_append];show fs.length + 1 ≤ _;omega⟩,by rw [List.length_append];show fs.length + 1 ≤ _;omega,HR.out.trans hnx,hKy.trans ((((kp_sf k6).alloc (.cells #[.string ⟨x6.toArray⟩] 9))).trans (K9.mono fun _ _ e => Or.inr e)),S9⟩,?_⟩
         rw [leftZ_eq Z9,ly]
         exact hlf
        ·have hf1 : (((fs.length : Nat) : Int) == 0) = false:=by simp;intro e;rw [e] at hf0;simp at hf0
         have hfe2 : fs.isEmpty = false:=by cases fs <;> simp_all
         clear hf0
         have CI:=zis_any hy hby 0 [125]
         cases eI : isM ts s.length 0 [125] sy with
         | false =>
          rw [eI] at CI
          have hcm : moreM ts s.length (sy,fs) = true:=by unfold moreM;rw [hyd,hfe2,eI];rfl
          clear eI hfe2
          obtain ⟨x6,hx6⟩ : ∃ x6,(wordM ts s.length sy).1 = x6:=⟨_,rfl⟩
          rw [hx6] at CF
          have HX6 : Hid ((wordM ts s.length sy).1 = x6):=hx6
          clear hx6
          go_wp2_with (first
           | (at_builtin;refine wpList_append_lies _ rfl (.tmp 122) (.tmp 124) 41 rfl (O + 1) 9 si _ 1 16 Tryz.underlying41 hsi sy0 sy1 sy2 rfl (by decide) (.slice q1 fs.length q2) fs.length (fs.flatMap wrdC) rfl O6 ⟨y6.heap.size,0,none⟩ 1 1 (wrdC x6) rfl rfl N6 (by intro u hu;simp at hu;subst hu;rfl) (by decide) (by unfold maxLen;omega) (by omega) S6 (y6.heap.size + 1) (by simp) ?_;intro g8 cp8 w8 own8 gr8 _ _;have hob : ∀ k,(Value.slice q1 fs.length q2).ownBlock = some k → O + 1 ≤ k:=(fun k e => (ownBlk O6 e).1);have OBX:=rowOld OB6 ((Kp.refl Non y6).alloc (.cells #[.string ⟨x6.toArray⟩] 9)) (fun e => e);have OB8:=rowOld OBX (Kp.grewN gr8) (fun e => by have:=hob _ e;omega);obtain ⟨i0,i1,jf⟩:=row2 OB8)
           | (go_at_call 23;(with_reducible refine (CF z5 HY).mono ?_);rintro e y6 ⟨rfl,z6,k6⟩;have OB6:=rowOld OBY (kp_sf (P:=P) (B:=y5.heap.size) k6) (fun e => by rcases e with e' | e' <;> omega);obtain ⟨b0,b1,bf⟩:=row2 OB6;have O6:=((RWY.blk fun q cur hq hb => rowOld hb (kp_sf (P:=P) (B:=y5.heap.size) k6) (fun e => by have:=lt_of_block hb;rcases e with e' | e' <;> omega)).own rfl).alloc (.cells #[.string ⟨x6.toArray⟩] 9);have S6 : O + 1 ≤ (y6.alloc (.cells #[.string ⟨x6.toArray⟩] 9)).heap.size:=(by have:=k6.size;simp;omega);have N6:=World.news_of_block (heap_alloc_new y6 (.cells #[.string ⟨x6.toArray⟩] 9)))
           | (go_at_call 19;(with_reducible refine CI.mono ?_);rintro e y5 ⟨rfl,z5,k5⟩;have HY : P ≤ y5.heap.size:=(by have:=k5.size;omega);have HYO : O + 1 ≤ y5.heap.size:=(by have:=k5.size;omega);have OBY:=rowOld hOb k5 (fun e => e);have RWY:=hRw.blk (fun q cur hq hb => rowOld hb k5 (fun e => e)))
           | fail)
          obtain ⟨Z9,O9,R9,K9,S9⟩:=row_end (f:=wrdC) (x:=x6) OBX hob gr8 own8 rfl (z6.non ((Kp.refl Non y6).alloc (.cells #[.string ⟨x6.toArray⟩] 9))) (by omega) (fun b o e => by have:=hneP b o e;omega)
          have hlf:=(rowM_left (N:=s.length) (go_word (ts:=ts) (N:=s.length)) (x:=(sy,fs)) hcm hla).1
          have hnx:=rowM_next (N:=s.length) (go_word (ts:=ts) (N:=s.length)) (x:=(sy,fs)) hcm hla
          have hup:=(go_word (ts:=ts) (N:=s.length)).up sy
          have hhi:=(go_word (ts:=ts) (N:=s.length)).hi sy
          rw [show (((sy,fs) : Sp × List _).2 ++ [(wordM ts s.length ((sy,fs) : Sp × List _).1).1]) = fs ++ [x6] from by rw [← HX6.out]] at hnx
          refine ⟨⟨(wordM ts s.length sy).2,fs ++ [x6],_,Z9,O9,R9,(go_word (ts:=ts) (N:=s.length)).al sy,⟨by omega,by rw [List.length_append];show fs.length + 1 ≤ _;omega⟩,by rw [List.length_append];show fs.length + 1 ≤ _;omega,HR.out.trans hnx,(hKy.trans k5.any).trans ((((kp_sf k6).alloc (.cells #[.string ⟨x6.toArray⟩] 9))).trans (K9.mono fun _ _ e => Or.inr e)),S9⟩,?_⟩
          rw [leftZ_eq Z9,ly]
          exact hlf
         | true =>
          rw [eI] at CI
          have hcm : moreM ts s.length (sy,fs) = false:=by unfold moreM;rw [hyd,hfe2,eI];rfl
          clear eI hfe2
          have HST : Hid (rowM ts s.length (wordM ts s.length) (ts.length + 2) (s2,[]) = (sy,fs)):=HR.out.trans (rowM_stop hcm)
          have hfa:=(rowM_facts (N:=s.length) (go_word (ts:=ts) (N:=s.length)) (ts.length + 2) (s2,[]) al2).1
          have hfi : s2.i ≤ sy.i:=by rw [HST.out] at hfa;exact hfa
          have hD : defM ts s.length sx = (.inr ⟨n,fs⟩,sy):=by rw [hdef,hob0,HST.out]
          have HD2 : Hid (parM ts s.length (ts.length + 2) (⟨0,-1⟩,[]) = parM ts s.length (ts.length + 2) (mustM ts s.length 0 [125] sy,xs ++ [.inr ⟨n,fs⟩])):=by have h:=HO.out;rw [hD] at h;exact h
          have HPL : Hid (leftM ts (mustM ts s.length 0 [125] sy) < leftM ts sx):=by have h:=hpl;rw [hD] at h;exact h
          clear hD hfa
          go_wp2_with (first
           | (go_at_call 21;(with_reducible refine (zmust_any zW9 hby 0 [125]).mono ?_);rintro e y10 ⟨rfl,z10,k10⟩)
           | (at_builtin;refine wpList_append_lies _ rfl (.tmp 128) (.tmp 130) 23 rfl (P + 2) 66 tE _ 2 40 Tryz.underlying23 htE hE0 hE1 hE2 rfl (by decide) ev lp.length (lp.flatMap enC) rfl ((hOO.own rfl).alloc _) ⟨y5.heap.size,0,none⟩ 1 1 [.string ⟨n.toArray⟩,.slice q1 fs.length q2] rfl rfl (World.news_of_block (heap_alloc_new _ _)) (by intro u hu;simp at hu;rcases hu with rfl | rfl <;> rfl) (by decide) (by unfold maxLen;omega) (by omega) (by simp;omega) (y5.heap.size + 1) (by simp) ?_;intro g9 cp9 w9 own9 gr9 _ _;obtain ⟨SR9,KB9,R9'⟩:=sch_endE (fs:=fs) hlp hF hOO hSY.row hSY.os (RWY.base (by omega)) (by omega) gr9 rfl own9 (by omega) (by omega);obtain ⟨e0,e1,ef⟩:=row2 R9';have zW9:=(z5.kp KB9 (by omega) (fun b o e => by have:=hneP b o e;omega)).kp (Kp.own (P + 1) 1 (.slice (some ⟨g9,0,none⟩) (lp.length + 1) cp9)) (by intro e;have e' : P = P + 1:=e;omega) (fun b o e q => by have:=hneP b o e;have q' : b = P + 1:=q;omega))
           | (go_at_call 19;(with_reducible refine CI.mono ?_);rintro e y5 ⟨rfl,z5,k5⟩;have HYO : O + 1 ≤ y5.heap.size:=(by have:=k5.size;omega);have OBY:=rowOld hOb k5 (fun e => e);have RWY:=hRw.blk (fun q cur hq hb => rowOld hb k5 (fun e => e));have KYo : Kp (SF P O) wB y5:=hKy.trans k5.any;have hSY:=hS.go KYo hOw hPO;obtain ⟨n0',n1',nf'⟩:=row2 hSY.row;obtain ⟨p0',p1',pf'⟩:=row2 OBY;obtain ⟨lp,hlp,hOO,hF⟩:=hSY.es;have hlen : lp.length ≤ xs.length:=(by have e:=congrArg List.length hlp;rw [List.length_map] at e;rw [e];exact List.length_filterMap_le _ _);have hzY : P + 2 ≤ y5.heap.size:=(by omega))
           | fail)
          have hmi:=mustM_i (ts:=ts) (N:=s.length) 0 [125] sy
          have KF : Kp (fun k => P ≤ k) y5 y10:=((KB9.mono fun _ _ e => by omega).trans ((Kp.own (P + 1) 1 (.slice (some ⟨g9,0,none⟩) (lp.length + 1) cp9)).mono fun k _ e => by have e' : k = P + 1:=e;omega)).trans (k10.mono fun k _ e => by have e' : k = P:=e;omega)
          have KFo : Kp (fun k => P ≤ k) wB y10:=(KYo.mono fun k _ e => by rcases e with e | e <;> omega).trans KF
          have SR10:=SR9.kp (S:=fun k => k = P) (k10.mono fun _ _ e => e) (fun q e => by omega) (by omega)
          have R10:=rowOld hR KFo (fun e => by omega)
          have B10 : Below w.heap.size w y10:=hB.trans ⟨KFo.os,KFo.tape,KFo.output,KFo.size,fun q hq => KFo.block q (Nat.lt_of_lt_of_le hq hB.size) (by omega)⟩
          have Z10:=KF.size
          refine ⟨⟨mustM ts s.length 0 [125] sy,xs ++ [.inr ⟨n,fs⟩],_,_,z10,SR10,R10,par_al sy,by omega,by rw [List.length_append];show xs.length + 1 ≤ _;omega,HD2.out,B10,by omega⟩,?_⟩
          rw [leftZ_eq z10,lz]
          exact HPL.out
       ·have hyd : decide (sy.a < 0) = false:=by simpa using hya
        have hcm : moreM ts s.length (sy,fs) = false:=by unfold moreM;rw [hyd];rfl
        have HST : Hid (rowM ts s.length (wordM ts s.length) (ts.length + 2) (s2,[]) = (sy,fs)):=HR.out.trans (rowM_stop hcm)
        have hfa:=(rowM_facts (N:=s.length) (go_word (ts:=ts) (N:=s.length)) (ts.length + 2) (s2,[]) al2).1
        have hfi : s2.i ≤ sy.i:=by rw [HST.out] at hfa;exact hfa
        have hD : defM ts s.length sx = (.inr ⟨n,fs⟩,sy):=by rw [hdef,hob0,HST.out]
        have HD2 : Hid (parM ts s.length (ts.length + 2) (⟨0,-1⟩,[]) = parM ts s.length (ts.length + 2) (mustM ts s.length 0 [125] sy,xs ++ [.inr ⟨n,fs⟩])):=by have h:=HO.out;rw [hD] at h;exact h
        have HPL : Hid (leftM ts (mustM ts s.length 0 [125] sy) < leftM ts sx):=by have h:=hpl;rw [hD] at h;exact h
        clear hD hfa
        have HYO : O + 1 ≤ wr.heap.size:=hsy
        have OBY:=hOb
        have RWY:=hRw
        have KYo : Kp (SF P O) wB wr:=hKy
        have hSY:=hS.go KYo hOw hPO
        obtain ⟨n0',n1',nf'⟩:=row2 hSY.row
        obtain ⟨p0',p1',pf'⟩:=row2 OBY
        obtain ⟨lp,hlp,hOO,hF⟩:=hSY.es
        have hlen : lp.length ≤ xs.length:=by
         have e:=congrArg List.length hlp
         rw [List.length_map] at e
         rw [e]
         exact List.length_filterMap_le _ _
        have hzY : P + 2 ≤ wr.heap.size:=by omega
        go_wp2_with (first
         | (go_at_call 21;(with_reducible refine (zmust_any zW9 hby 0 [125]).mono ?_);rintro e y10 ⟨rfl,z10,k10⟩)
         | (at_builtin;refine wpList_append_lies _ rfl (.tmp 128) (.tmp 130) 23 rfl (P + 2) 66 tE _ 2 40 Tryz.underlying23 htE hE0 hE1 hE2 rfl (by decide) ev lp.length (lp.flatMap enC) rfl ((hOO.own rfl).alloc _) ⟨wr.heap.size,0,none⟩ 1 1 [.string ⟨n.toArray⟩,.slice q1 fs.length q2] rfl rfl (World.news_of_block (heap_alloc_new _ _)) (by intro u hu;simp at hu;rcases hu with rfl | rfl <;> rfl) (by decide) (by unfold maxLen;omega) (by omega) (by simp;omega) (wr.heap.size + 1) (by simp) ?_;intro g9 cp9 w9 own9 gr9 _ _;obtain ⟨SR9,KB9,R9'⟩:=sch_endE (fs:=fs) hlp hF hOO hSY.row hSY.os (RWY.base (by omega)) (by omega) gr9 rfl own9 (by omega) (by omega);obtain ⟨e0,e1,ef⟩:=row2 R9';have zW9:=(hy.kp KB9 (by omega) (fun b o e => by have:=hneP b o e;omega)).kp (Kp.own (P + 1) 1 (.slice (some ⟨g9,0,none⟩) (lp.length + 1) cp9)) (by intro e;have e' : P = P + 1:=e;omega) (fun b o e q => by have:=hneP b o e;have q' : b = P + 1:=q;omega))
         | fail)
        have hmi:=mustM_i (ts:=ts) (N:=s.length) 0 [125] sy
        have KF : Kp (fun k => P ≤ k) wr y10:=((KB9.mono fun _ _ e => by omega).trans ((Kp.own (P + 1) 1 (.slice (some ⟨g9,0,none⟩) (lp.length + 1) cp9)).mono fun k _ e => by have e' : k = P + 1:=e;omega)).trans (k10.mono fun k _ e => by have e' : k = P:=e;omega)
        have KFo : Kp (fun k => P ≤ k) wB y10:=(KYo.mono fun k _ e => by rcases e with e | e <;> omega).trans KF
        have SR10:=SR9.kp (S:=fun k => k = P) (k10.mono fun _ _ e => e) (fun q e => by omega) (by omega)
        have R10:=rowOld hR KFo (fun e => by omega)
        have B10 : Below w.heap.size w y10:=hB.trans ⟨KFo.os,KFo.tape,KFo.output,KFo.size,fun q hq => KFo.block q (Nat.lt_of_lt_of_le hq hB.size) (by omega)⟩
        have Z10:=KF.size
        refine ⟨⟨mustM ts s.length 0 [125] sy,xs ++ [.inr ⟨n,fs⟩],_,_,z10,SR10,R10,par_al sy,by omega,by rw [List.length_append];show xs.length + 1 ≤ _;omega,HD2.out,B10,by omega⟩,?_⟩
        rw [leftZ_eq z10,lz]
        exact HPL.out
     ·have h1 : decide (((sx.i : Nat) : Int) < (ts.length : Int)) = false:=by simp;omega
      have h1b : decide (sx.i < ts.length) = false:=by simp;omega
      have h1c : (((sx.i : Nat) : Int) == 0) = true:=by simp;omega
      rw [eT] at CT
      have hdef : defM ts s.length sx = (.inr (enuM ts s.length sx).1,(enuM ts s.length sx).2):=by unfold defM;rw [if_neg (by rw [eT];simp)]
      clear eT
      have CU:=fun {W : World} (z : Zp ts s.length W P g cap sx) => zmust_any z b6 1 enumB
      obtain ⟨s0,hs0⟩ : ∃ s0,mustM ts s.length 1 enumB sx = s0:=⟨_,rfl⟩
      have hi0 : s0.i = sx.i + 1:=by rw [← hs0,mustM_i]
      rw [hs0] at CU
      have b7 : s0.i ≤ 1000000:=by omega
      have CN:=fun {W : World} (z : Zp ts s.length W P g cap s0) => zname_st z b7
      have b8 : (nameM ts s.length s0).2.i ≤ 1000000:=by rw [nameM_i];omega
      have CM:=fun {W : World} (z : Zp ts s.length W P g cap (nameM ts s.length s0).2) => zmust_any z b8 0 [123]
      obtain ⟨n,hn⟩ : ∃ n,(nameM ts s.length s0).1 = n:=⟨_,rfl⟩
      obtain ⟨s1,hs1⟩ : ∃ s1,(nameM ts s.length s0).2 = s1:=⟨_,rfl⟩
      obtain ⟨s2,hs2⟩ : ∃ s2,mustM ts s.length 0 [123] s1 = s2:=⟨_,rfl⟩
      have hi2 : s2.i = sx.i + 3:=by rw [← hs2,mustM_i,← hs1,nameM_i];omega
      have al2 : AliveM ts s2:=by rw [← hs2];exact mustM_alive (Or.inr (by decide)) _
      have hob0 : enuM ts s.length sx = (⟨n,(rowM ts s.length (wordM ts s.length) (ts.length + 2) (s2,[])).2⟩,(rowM ts s.length (wordM ts s.length) (ts.length + 2) (s2,[])).1):=by unfold enuM;rw [hs0,hn,hs1,hs2]
      rw [hn,hs1] at CN
      rw [hs1,hs2] at CM
      clear hn hs1 hs2 hs0 b8
      go_wp2_with (first
       | (go_at_call 21;(with_reducible refine (CM z2').mono ?_);rintro e y3 ⟨rfl,z3,k3⟩)
       | (go_at_call 20;(with_reducible refine (CN z0).mono ?_);rintro e y2 ⟨rfl,z2,k2⟩;have z2':=z2.non ((Kp.refl Non y2).alloc (.cells #[.string ⟨n.toArray⟩,.slice none 0 0] 66)))
       | (go_at_call 21;(with_reducible refine (CU z1).mono ?_);rintro e y0 ⟨rfl,z0,k0⟩)
       | (go_at_call 19;(with_reducible refine CT.mono ?_);rintro e y1 ⟨rfl,z1,k1⟩;obtain ⟨a1,c1,d1,f1,g1⟩:=rowZ4 z1.row)
       | fail)
      have O0:=heap_alloc_new y2 (.cells #[.string ⟨n.toArray⟩,.slice none 0 0] 66)
      have O3 : y3.heap[y2.heap.size]? = some (.cells #[.string ⟨n.toArray⟩,.slice none 0 0] 66):=rowOld O0 k3 (fun e => by have e' : y2.heap.size = P:=e;have:=z2.lt;omega)
      have hPO : P + 2 ≤ y2.heap.size:=by have e1:=k1.size;have e2:=k2.size;have e3:=k0.size;omega
      have hOw : wr.heap.size ≤ y2.heap.size:=by have e1:=k1.size;have e2:=k2.size;have e3:=k0.size;omega
      have K3 : Kp (SF P y2.heap.size) wr y3:=((((k1.any.trans (kp_sf k0)).trans (kp_sf k2)).alloc _).trans (kp_sf k3))
      have hO3 : y2.heap.size + 1 ≤ y3.heap.size:=lt_of_block O3
      clear CT CN CM CU z0 z1 z2 z2' k0 k1 k2 k3 O0 a1 c1 d1 f1 g1
      generalize y2.heap.size = O at *
      obtain ⟨wB,hwB⟩ : ∃ wB,wB = wr:=⟨_,rfl⟩
      rw [← hwB] at hS hR hB hOw K3
      clear hwB
      go_loopw [] (fun yr => ∃ (sy : Sp) (fs : List Bs) (fv : Value),Zp ts s.length yr P g cap sy ∧ yr.heap[O]? = some (.cells #[.string ⟨n.toArray⟩,fv] 66) ∧ RowO yr (O + 1) 9 1 wrdC fv fs ∧ AliveM ts sy ∧ (sy.i ≤ 2800 ∧ fs.length ≤ 2049) ∧ fs.length ≤ sy.i ∧ rowM ts s.length (wordM ts s.length) (ts.length + 2) (s2,[]) = rowM ts s.length (wordM ts s.length) (ts.length + 2) (sy,fs) ∧ Kp (SF P O) wB yr ∧ O + 1 ≤ yr.heap.size) (fun yr => leftZ ts.length yr P)
      case atStart => exact ⟨s2,[],_,z3,O3,RowO.none,al2,⟨by omega,Nat.zero_le _⟩,Nat.zero_le _,rfl,K3,hO3⟩
      case round =>
       obtain ⟨sy,fs,fv,hy,hOb,hRw,hla,⟨hyb,hfk⟩,hfl,hrm,hKy,hsy⟩:=hrel
       have HR : Hid (rowM ts s.length (wordM ts s.length) (ts.length + 2) (s2,[]) = rowM ts s.length (wordM ts s.length) (ts.length + 2) (sy,fs)):=hrm
       have ly:=leftZ_eq hy
       have hby : sy.i ≤ 1000000:=by omega
       have CF:=fun {W : World} (z : Zp ts s.length W P g cap sy) (hW : P ≤ W.heap.size) => zword_any z (by omega)
       clear hrm z3 O3 K3 hO3
       obtain ⟨a1,c1,d1,f1,g1⟩:=rowZ4 hy.row
       obtain ⟨p0,p1,pf⟩:=row2 hOb
       obtain ⟨q1,q2,rfl⟩:=hRw.slice
       by_cases hya : sy.a < 0
       ·have hyl:=hla hya
        have hyd : decide (sy.a < 0) = true:=by simpa using hya
        rcases Nat.eq_zero_or_pos fs.length with hf0 | hf0
        ·have hfe : fs = []:=List.length_eq_zero_iff.1 hf0
         have hcm : moreM ts s.length (sy,fs) = true:=by unfold moreM;rw [hyd,hfe];rfl
         have hf1 : (((fs.length : Nat) : Int) == 0) = true:=by simp;exact hfe
         clear hf0 hfe
         have HY : P ≤ wr.heap.size:=by omega
         have HYO : O + 1 ≤ wr.heap.size:=hsy
         have OBY:=hOb
         have RWY:=hRw
         obtain ⟨x6,hx6⟩ : ∃ x6,(wordM ts s.length sy).1 = x6:=⟨_,rfl⟩
         rw [hx6] at CF
         have HX6 : Hid ((wordM ts s.length sy).1 = x6):=hx6
         clear hx6
         go_wp2_with (first
          | (at_builtin;refine wpList_append_lies _ rfl (.tmp 122) (.tmp 124) 41 rfl (O + 1) 9 si _ 1 16 Tryz.underlying41 hsi sy0 sy1 sy2 rfl (by decide) (.slice q1 fs.length q2) fs.length (fs.flatMap wrdC) rfl O6 ⟨y6.heap.size,0,none⟩ 1 1 (wrdC x6) rfl rfl N6 (by intro u hu;simp at hu;subst hu;rfl) (by decide) (by unfold maxLen;omega) (by omega) S6 (y6.heap.size + 1) (by simp) ?_;intro g8 cp8 w8 own8 gr8 _ _;have hob : ∀ k,(Value.slice q1 fs.length q2).ownBlock = some k → O + 1 ≤ k:=(fun k e => (ownBlk O6 e).1);have OBX:=rowOld OB6 ((Kp.refl Non y6).alloc (.cells #[.string ⟨x6.toArray⟩] 9)) (fun e => e);have OB8:=rowOld OBX (Kp.grewN gr8) (fun e => by have:=hob _ e;omega);obtain ⟨i0,i1,jf⟩:=row2 OB8)
          | (go_at_call 23;(with_reducible refine (CF hy HY).mono ?_);rintro e y6 ⟨rfl,z6,k6⟩;have OB6:=rowOld OBY (kp_sf (P:=P) (B:=wr.heap.size) k6) (fun e => by rcases e with e' | e' <;> omega);obtain ⟨b0,b1,bf⟩:=row2 OB6;have O6:=((RWY.blk fun q cur hq hb => rowOld hb (kp_sf (P:=P) (B:=wr.heap.size) k6) (fun e => by have:=lt_of_block hb;rcases e with e' | e' <;> omega)).own rfl).alloc (.cells #[.string ⟨x6.toArray⟩] 9);have S6 : O + 1 ≤ (y6.alloc (.cells #[.string ⟨x6.toArray⟩] 9)).heap.size:=(by have:=k6.size;simp;omega);have N6:=World.news_of_block (heap_alloc_new y6 (.cells #[.string ⟨x6.toArray⟩] 9)))
          | fail)
         obtain ⟨Z9,O9,R9,K9,S9⟩:=row_end (f:=wrdC) (x:=x6) OBX hob gr8 own8 rfl (z6.non ((Kp.refl Non y6).alloc (.cells #[.string ⟨x6.toArray⟩] 9))) (by omega) (fun b o e => by have:=hneP b o e;omega)
         have hlf:=(rowM_left (N:=s.length) (go_word (ts:=ts) (N:=s.length)) (x:=(sy,fs)) hcm hla).1
         have hnx:=rowM_next (N:=s.length) (go_word (ts:=ts) (N:=s.length)) (x:=(sy,fs)) hcm hla
         have hup:=(go_word (ts:=ts) (N:=s.length)).up sy
         have hhi:=(go_word (ts:=ts) (N:=s.length)).hi sy
         rw [show (((sy,fs) : Sp × List _).2 ++ [(wordM ts s.length ((sy,fs) : Sp × List _).1).1]) = fs ++ [x6] from by rw [← HX6.out]] at hnx
         refine ⟨⟨(wordM ts s.length sy).2,fs ++ [x6],_,Z9,O9,R9,(go_word (ts:=ts) (N:=s.length)).al sy,⟨by omega,by rw [List.length_append];show fs.length + 1 ≤ _;omega⟩,by rw [List.length_append];show fs.length + 1 ≤ _;omega,HR.out.trans hnx,hKy.trans ((((kp_sf k6).alloc (.cells #[.string ⟨x6.toArray⟩] 9))).trans (K9.mono fun _ _ e => Or.inr e)),S9⟩,?_⟩
         rw [leftZ_eq Z9,ly]
         exact hlf
        ·have hf1 : (((fs.length : Nat) : Int) == 0) = false:=by simp;intro e;rw [e] at hf0;simp at hf0
         have hfe2 : fs.isEmpty = false:=by cases fs <;> simp_all
         clear hf0
         have CI:=zis_any hy hby 0 [125]
         cases eI : isM ts s.length 0 [125] sy with
         | false =>
          rw [eI] at CI
          have hcm : moreM ts s.length (sy,fs) = true:=by unfold moreM;rw [hyd,hfe2,eI];rfl
          clear eI hfe2
          obtain ⟨x6,hx6⟩ : ∃ x6,(wordM ts s.length sy).1 = x6:=⟨_,rfl⟩
          rw [hx6] at CF
          have HX6 : Hid ((wordM ts s.length sy).1 = x6):=hx6
          clear hx6
          go_wp2_with (first
           | (at_builtin;refine wpList_append_lies _ rfl (.tmp 122) (.tmp 124) 41 rfl (O + 1) 9 si _ 1 16 Tryz.underlying41 hsi sy0 sy1 sy2 rfl (by decide) (.slice q1 fs.length q2) fs.length (fs.flatMap wrdC) rfl O6 ⟨y6.heap.size,0,none⟩ 1 1 (wrdC x6) rfl rfl N6 (by intro u hu;simp at hu;subst hu;rfl) (by decide) (by unfold maxLen;omega) (by omega) S6 (y6.heap.size + 1) (by simp) ?_;intro g8 cp8 w8 own8 gr8 _ _;have hob : ∀ k,(Value.slice q1 fs.length q2).ownBlock = some k → O + 1 ≤ k:=(fun k e => (ownBlk O6 e).1);have OBX:=rowOld OB6 ((Kp.refl Non y6).alloc (.cells #[.string ⟨x6.toArray⟩] 9)) (fun e => e);have OB8:=rowOld OBX (Kp.grewN gr8) (fun e => by have:=hob _ e;omega);obtain ⟨i0,i1,jf⟩:=row2 OB8)
           | (go_at_call 23;(with_reducible refine (CF z5 HY).mono ?_);rintro e y6 ⟨rfl,z6,k6⟩;have OB6:=rowOld OBY (kp_sf (P:=P) (B:=y5.heap.size) k6) (fun e => by rcases e with e' | e' <;> omega);obtain ⟨b0,b1,bf⟩:=row2 OB6;have O6:=((RWY.blk fun q cur hq hb => rowOld hb (kp_sf (P:=P) (B:=y5.heap.size) k6) (fun e => by have:=lt_of_block hb;rcases e with e' | e' <;> omega)).own rfl).alloc (.cells #[.string ⟨x6.toArray⟩] 9);have S6 : O + 1 ≤ (y6.alloc (.cells #[.string ⟨x6.toArray⟩] 9)).heap.size:=(by have:=k6.size;simp;omega);have N6:=World.news_of_block (heap_alloc_new y6 (.cells #[.string ⟨x6.toArray⟩] 9)))
           | (go_at_call 19;(with_reducible refine CI.mono ?_);rintro e y5 ⟨rfl,z5,k5⟩;have HY : P ≤ y5.heap.size:=(by have:=k5.size;omega);have HYO : O + 1 ≤ y5.heap.size:=(by have:=k5.size;omega);have OBY:=rowOld hOb k5 (fun e => e);have RWY:=hRw.blk (fun q cur hq hb => rowOld hb k5 (fun e => e)))
           | fail)
          obtain ⟨Z9,O9,R9,K9,S9⟩:=row_end (f:=wrdC) (x:=x6) OBX hob gr8 own8 rfl (z6.non ((Kp.refl Non y6).alloc (.cells #[.string ⟨x6.toArray⟩] 9))) (by omega) (fun b o e => by have:=hneP b o e;omega)
          have hlf:=(rowM_left (N:=s.length) (go_word (ts:=ts) (N:=s.length)) (x:=(sy,fs)) hcm hla).1
          have hnx:=rowM_next (N:=s.length) (go_word (ts:=ts) (N:=s.length)) (x:=(sy,fs)) hcm hla
          have hup:=(go_word (ts:=ts) (N:=s.length)).up sy
          have hhi:=(go_word (ts:=ts) (N:=s.length)).hi sy
          rw [show (((sy,fs) : Sp × List _).2 ++ [(wordM ts s.length ((sy,fs) : Sp × List _).1).1]) = fs ++ [x6] from by rw [← HX6.out]] at hnx
          refine ⟨⟨(wordM ts s.length sy).2,fs ++ [x6],_,Z9,O9,R9,(go_word (ts:=ts) (N:=s.length)).al sy,⟨by omega,by rw [List.length_append];show fs.length + 1 ≤ _;omega⟩,by rw [List.length_append];show fs.length + 1 ≤ _;omega,HR.out.trans hnx,(hKy.trans k5.any).trans ((((kp_sf k6).alloc (.cells #[.string ⟨x6.toArray⟩] 9))).trans (K9.mono fun _ _ e => Or.inr e)),S9⟩,?_⟩
          rw [leftZ_eq Z9,ly]
          exact hlf
         | true =>
          rw [eI] at CI
          have hcm : moreM ts s.length (sy,fs) = false:=by unfold moreM;rw [hyd,hfe2,eI];rfl
          clear eI hfe2
          have HST : Hid (rowM ts s.length (wordM ts s.length) (ts.length + 2) (s2,[]) = (sy,fs)):=HR.out.trans (rowM_stop hcm)
          have hfa:=(rowM_facts (N:=s.length) (go_word (ts:=ts) (N:=s.length)) (ts.length + 2) (s2,[]) al2).1
          have hfi : s2.i ≤ sy.i:=by rw [HST.out] at hfa;exact hfa
          exfalso
          omega
       ·have hyd : decide (sy.a < 0) = false:=by simpa using hya
        have hcm : moreM ts s.length (sy,fs) = false:=by unfold moreM;rw [hyd];rfl
        have HST : Hid (rowM ts s.length (wordM ts s.length) (ts.length + 2) (s2,[]) = (sy,fs)):=HR.out.trans (rowM_stop hcm)
        have hfa:=(rowM_facts (N:=s.length) (go_word (ts:=ts) (N:=s.length)) (ts.length + 2) (s2,[]) al2).1
        have hfi : s2.i ≤ sy.i:=by rw [HST.out] at hfa;exact hfa
        have hD : defM ts s.length sx = (.inr ⟨n,fs⟩,sy):=by rw [hdef,hob0,HST.out]
        have HD2 : Hid (parM ts s.length (ts.length + 2) (⟨0,-1⟩,[]) = parM ts s.length (ts.length + 2) (mustM ts s.length 0 [125] sy,xs ++ [.inr ⟨n,fs⟩])):=by have h:=HO.out;rw [hD] at h;exact h
        have HPL : Hid (leftM ts (mustM ts s.length 0 [125] sy) < leftM ts sx):=by have h:=hpl;rw [hD] at h;exact h
        clear hD hfa
        have HYO : O + 1 ≤ wr.heap.size:=hsy
        have OBY:=hOb
        have RWY:=hRw
        have KYo : Kp (SF P O) wB wr:=hKy
        have hSY:=hS.go KYo hOw hPO
        obtain ⟨n0',n1',nf'⟩:=row2 hSY.row
        obtain ⟨p0',p1',pf'⟩:=row2 OBY
        obtain ⟨lp,hlp,hOO,hF⟩:=hSY.es
        have hlen : lp.length ≤ xs.length:=by
         have e:=congrArg List.length hlp
         rw [List.length_map] at e
         rw [e]
         exact List.length_filterMap_le _ _
        have hzY : P + 2 ≤ wr.heap.size:=by omega
        go_wp2_with (first
         | (go_at_call 21;(with_reducible refine (zmust_any zW9 hby 0 [125]).mono ?_);rintro e y10 ⟨rfl,z10,k10⟩)
         | (at_builtin;refine wpList_append_lies _ rfl (.tmp 128) (.tmp 130) 23 rfl (P + 2) 66 tE _ 2 40 Tryz.underlying23 htE hE0 hE1 hE2 rfl (by decide) ev lp.length (lp.flatMap enC) rfl ((hOO.own rfl).alloc _) ⟨wr.heap.size,0,none⟩ 1 1 [.string ⟨n.toArray⟩,.slice q1 fs.length q2] rfl rfl (World.news_of_block (heap_alloc_new _ _)) (by intro u hu;simp at hu;rcases hu with rfl | rfl <;> rfl) (by decide) (by unfold maxLen;omega) (by omega) (by simp;omega) (wr.heap.size + 1) (by simp) ?_;intro g9 cp9 w9 own9 gr9 _ _;obtain ⟨SR9,KB9,R9'⟩:=sch_endE (fs:=fs) hlp hF hOO hSY.row hSY.os (RWY.base (by omega)) (by omega) gr9 rfl own9 (by omega) (by omega);obtain ⟨e0,e1,ef⟩:=row2 R9';have zW9:=(hy.kp KB9 (by omega) (fun b o e => by have:=hneP b o e;omega)).kp (Kp.own (P + 1) 1 (.slice (some ⟨g9,0,none⟩) (lp.length + 1) cp9)) (by intro e;have e' : P = P + 1:=e;omega) (fun b o e q => by have:=hneP b o e;have q' : b = P + 1:=q;omega))
         | fail)
        have hmi:=mustM_i (ts:=ts) (N:=s.length) 0 [125] sy
        have KF : Kp (fun k => P ≤ k) wr y10:=((KB9.mono fun _ _ e => by omega).trans ((Kp.own (P + 1) 1 (.slice (some ⟨g9,0,none⟩) (lp.length + 1) cp9)).mono fun k _ e => by have e' : k = P + 1:=e;omega)).trans (k10.mono fun k _ e => by have e' : k = P:=e;omega)
        have KFo : Kp (fun k => P ≤ k) wB y10:=(KYo.mono fun k _ e => by rcases e with e | e <;> omega).trans KF
        have SR10:=SR9.kp (S:=fun k => k = P) (k10.mono fun _ _ e => e) (fun q e => by omega) (by omega)
        have R10:=rowOld hR KFo (fun e => by omega)
        have B10 : Below w.heap.size w y10:=hB.trans ⟨KFo.os,KFo.tape,KFo.output,KFo.size,fun q hq => KFo.block q (Nat.lt_of_lt_of_le hq hB.size) (by omega)⟩
        have Z10:=KF.size
        refine ⟨⟨mustM ts s.length 0 [125] sy,xs ++ [.inr ⟨n,fs⟩],_,_,z10,SR10,R10,par_al sy,by omega,by rw [List.length_append];show xs.length + 1 ≤ _;omega,HD2.out,B10,by omega⟩,?_⟩
        rw [leftZ_eq z10,lz]
        exact HPL.out
   ·have h1 : decide (((sx.i : Nat) : Int) < (ts.length : Int)) = false:=by simp;omega
    have h2 : decide (sx.i < ts.length) = false:=by simp;omega
    have h3 : (((sx.i : Nat) : Int) == 0) = false:=by simp;omega
    have hc : pcondM ts sx = false:=by unfold pcondM;rw [hda,h2];simp;omega
    have hst : parM ts s.length (ts.length + 2) (⟨0,-1⟩,[]) = (sx,xs):=by rw [HD.out];unfold parM;rw [if_neg (by rw [hc];simp)]
    obtain ⟨o1,o2,o3,rfl⟩:=hS.os.slc
    obtain ⟨e1,e2,e3,rfl⟩:=hS.es.slc
    go_wp2
    refine bodyPost_ret (v:=.tuple #[.agg #[.slice o1 o2 o3,.slice e1 e2 e3],.int .i64 0,.int .i64 0]) (by simp [results,Tryz.results9,go_sem,m0,m1]) rfl ?_
    have KS : Kp (Own1 w.heap.size) wr ((wr.setCell ⟨w.heap.size,0,none⟩ (.slice o1 o2 o3)).setCell ⟨w.heap.size,1,none⟩ (.slice e1 e2 e3)):=(Kp.own w.heap.size 0 (.slice o1 o2 o3)).set w.heap.size 1 (.slice e1 e2 e3) (Or.inr rfl)
    have bk:=kp_blk (B:=P + 2) KS (fun q e => by have e' : q = w.heap.size:=e;omega)
    have hl1:=obs_len xs
    have hl2:=ens_len xs
    unfold ParsM
    rw [hst,if_neg (by show ¬ (0 ≤ sx.a);omega)]
    exact ⟨o1,o2,o3,e1,e2,e3,rfl,⟨(hS.os.blk bk).at (by show (obsOf xs).length ≤ 2049;omega),(hS.es.blk bk).at (by show (ensOf xs).length ≤ 2049;omega)⟩,(hB.setCell (p:=⟨w.heap.size,0,none⟩) (Nat.le_refl _) _).setCell (p:=⟨w.heap.size,1,none⟩) (Nat.le_refl _) _⟩
  ·have hda : decide (sx.a < 0) = false:=by simpa using ha
   have hc : pcondM ts sx = false:=by unfold pcondM;rw [hda];rfl
   have hst : parM ts s.length (ts.length + 2) (⟨0,-1⟩,[]) = (sx,xs):=by rw [HD.out];unfold parM;rw [if_neg (by rw [hc];simp)]
   have hge : sx.a ≥ 0:=by omega
   have hge2 : decide (0 ≤ sx.a) = true:=by simp;omega
   have KS : Kp (Own1 w.heap.size) wr ((wr.setCell ⟨w.heap.size,0,none⟩ (.slice none 0 0)).setCell ⟨w.heap.size,1,none⟩ (.slice none 0 0)):=(Kp.own w.heap.size 0 (.slice none 0 0)).set w.heap.size 1 (.slice none 0 0) (Or.inr rfl)
   have f1:=(rowZ4 (rowOld hz.row KS (fun e => by have e' : P = w.heap.size:=e;omega))).2.2.2.1
   have hPR : ¬ P = w.heap.size:=by omega
   have hRP : ¬ w.heap.size = P:=by omega
   go_wp2
   go_region
   go_wp2
   refine bodyPost_ret (v:=.tuple #[.agg #[.slice none 0 0,.slice none 0 0],.int .i64 sx.a,.int .i64 80]) (by simp [results,Tryz.results9,go_sem,m0,m1]) rfl ?_
   unfold ParsM
   rw [hst,if_pos (by show 0 ≤ sx.a;omega)]
   exact ⟨rfl,((hB.setCell (p:=⟨w.heap.size,0,none⟩) (Nat.le_refl _) _).setCell (p:=⟨w.heap.size,1,none⟩) (Nat.le_refl _) _).drew⟩
end
end Go.Proofs.YtlabcadpkdgjnaaGreatDoor
