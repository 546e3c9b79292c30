/- The fixed calls of layer 7's laws. -/
import Derived.Test.YtgmlbjfgfmfliaaGreatDoorA02
import Derived.Test.YtgmlbjfgfmfliaaGreatDoorA19
import Derived.Test.YtgmlbjfgfmfliaaGreatDoorA16
import Derived.Test.YtgmlbjfgfmfliaaGreatDoorA26
import Derived.Laws.EntriesVeiled
namespace Go.Proofs.YtgmlbjfgfmfliaaGreatDoor
open Go
/-! ### What a plain function looks at -/
def Eofish (x : Tok) : Prop:=x.k = 0 ∧ x.t = []
/-- What is left of l: nothing that ends a document has been read. -/
def Sf (k l : List Tok) : Prop:=∃ c,l = c ++ k ∧ ∀ x ∈ c,¬ Eofish x
theorem Sf.refl (l : List Tok) : Sf l l:=⟨[],rfl,fun x h => by cases h⟩
theorem Sf.trans {a b c : List Tok} (h : Sf a b) (g : Sf b c) : Sf a c:=by
 obtain ⟨x,rfl,hx⟩:=h
 obtain ⟨y,rfl,hy⟩:=g
 exact ⟨y ++ x,by simp,fun z hz => (List.mem_append.1 hz).elim (hy z) (hx z)⟩
theorem Sf.len {k l : List Tok} (h : Sf k l) : k.length ≤ l.length:=by
 obtain ⟨c,rfl,_⟩:=h;simp
theorem Sf.cons {k l : List Tok} {x : Tok} (hx : ¬ Eofish x) (h : Sf k l) : Sf k (x :: l):=by
 obtain ⟨c,rfl,hc⟩:=h
 refine ⟨x :: c,rfl,fun y hy => ?_⟩
 rcases List.mem_cons.1 hy with rfl | hy
 ·exact hx
 ·exact hc y hy
theorem Sf.app {k l : List Tok} (h : Sf k l) (m : List Tok) : Sf (k ++ m) (l ++ m):=by
 obtain ⟨c,rfl,hc⟩:=h
 exact ⟨c,by simp,hc⟩
theorem Sf.nil_join {q m k : List Tok} (h : Sf [] q) (g : Sf k m) : Sf k (q ++ m):=by
 have:=h.app m
 rw [List.nil_append] at this
 exact g.trans this
def Err (k : List Tok) (e : Int) : Prop:=e = 60 ∨ (e = 61 ∧ (isP [91] k = true ∨ isP [123] k = true))
/-- What comes of it where all is left to m; b: a token of m has been read. -/
def Late {α : Type} (b : Bool) (m : List Tok) (r : Rs α) : Prop:=(∃ a k,r = .ok (a,k) ∧ Sf k m ∧ (b = true → k.length < m.length)) ∨ ∃ e k,r = .error (atT k,e) ∧ Sf k m ∧ Err k e
def saysK (ts : List Tok) : List (Int × Bs):=ts.map fun x => (x.k,x.t)
inductive Rel {α : Type} (b : Bool) (q m q' m' : List Tok) (r r' : Rs α) : Prop
 | ok (a : α) (k k' : List Tok) (h : r = .ok (a,k ++ m)) (h' : r' = .ok (a,k' ++ m')) (e : saysK k = saysK k') (s : Sf k q) (s' : Sf k' q')
 | err (e : Int) (k k' : List Tok) (h : r = .error (atT k,e)) (h' : r' = .error (atT k',e)) (e : saysK k = saysK k') (n : k ≠ []) (s : Sf k q) (s' : Sf k' q')
 | late (h : Late b m r) (h' : Late b m' r') (s : Sf [] q) (s' : Sf [] q')
structure Loc {α : Type} (b : Bool) (P : List Tok → Prop) (f : List Tok → Rs α) : Prop where
 late : ∀ m,P m → Late b m (f m)
 rel : ∀ q m q' m',q ≠ [] → saysK q = saysK q' → P (q ++ m) → P (q' ++ m') → Rel b q m q' m' (f (q ++ m)) (f (q' ++ m'))
abbrev TT : List Tok → Prop:=fun _ => True
/-- A test of the first token alone. -/
def HO {β : Type} (c : List Tok → β) : Prop:=∀ x x' r r',(x.k,x.t) = (x'.k,x'.t) → c (x :: r) = c (x' :: r')
theorem ho_isP (s : Bs) : HO (isP s):=fun x x' r r' h => by
 injection h with h1 h2;simp [isP,h1,h2]
theorem ho_isW (s : Bs) : HO (isW s):=fun x x' r r' h => by
 injection h with h1 h2;simp [isW,h1,h2]
theorem ho_isK (k : Int) : HO (isK k):=fun x x' r r' h => by
 injection h with h1 h2;simp [isK,h1]
theorem ho_tx : HO txT:=fun x x' r r' h => by
 injection h with h1 h2
theorem ho_const {β : Type} (a : β) : HO (fun _ => a):=fun _ _ _ _ _ => rfl
theorem HO.app {β γ : Type} {c : List Tok → β} (g : β → γ) (h : HO c) : HO (fun l => g (c l)):=fun x x' r r' e => congrArg g (h x x' r r' e)
theorem HO.eq {β : Type} {c : List Tok → β} (h : HO c) {q q' : List Tok} (hq : q ≠ []) (e : saysK q = saysK q') (m m' : List Tok) : c (q ++ m) = c (q' ++ m'):=by
 cases q with
 | nil => exact absurd rfl hq
 | cons x q =>
  cases q' with
  | nil => cases e
  | cons x' q' =>
   simp only [saysK,List.map_cons,List.cons.injEq] at e
   exact h _ _ _ _ e.1
def NE (l : List Tok) : Prop:=∃ x r,l = x :: r ∧ ¬ Eofish x
theorem ne_P {s : Bs} (hs : s ≠ []) {l : List Tok} (h : isP s l = true) : NE l:=by
 cases l with
 | nil => cases h
 | cons x r =>
  refine ⟨x,r,rfl,fun e => ?_⟩
  simp only [isP,Bool.and_eq_true,beq_iff_eq] at h
  exact hs (h.2.symm.trans e.2)
theorem ne_K {k : Int} (hk : k ≠ 0) {l : List Tok} (h : isK k l = true) : NE l:=by
 cases l with
 | nil => cases h
 | cons x r =>
  refine ⟨x,r,rfl,fun e => ?_⟩
  simp only [isK,beq_iff_eq] at h
  exact hk (h.symm.trans e.1)
theorem ne_W {s : Bs} {l : List Tok} (h : isW s l = true) : NE l:=by
 cases l with
 | nil => cases h
 | cons x r =>
  refine ⟨x,r,rfl,fun e => ?_⟩
  simp only [isW,Bool.and_eq_true,beq_iff_eq] at h
  have:=h.1.symm.trans e.1
  cases this
theorem Late.weak {α : Type} {b : Bool} {m : List Tok} {r : Rs α} (h : Late b m r) : Late false m r:=by
 rcases h with ⟨a,k,h1,h2,_⟩ | h
 ·exact .inl ⟨a,k,h1,h2,fun h => by cases h⟩
 ·exact .inr h
theorem Late.sub {α : Type} {b : Bool} {k m : List Tok} {r : Rs α} (h : Late b k r) (s : Sf k m) : Late b m r:=by
 rcases h with ⟨a,j,h1,h2,h3⟩ | ⟨e,j,h1,h2,h3⟩
 ·exact .inl ⟨a,j,h1,h2.trans s,fun hb => Nat.lt_of_lt_of_le (h3 hb) s.len⟩
 ·exact .inr ⟨e,j,h1,h2.trans s,h3⟩
theorem Rel.weak {α : Type} {b : Bool} {q m q' m' : List Tok} {r r' : Rs α} (h : Rel b q m q' m' r r') : Rel false q m q' m' r r':=by
 rcases h with ⟨a,k,k',h,h',e,s,s'⟩ | ⟨e,k,k',h,h',e,n,s,s'⟩ | ⟨h,h',s,s'⟩
 ·exact .ok a k k' h h' e s s'
 ·exact .err _ k k' h h' e n s s'
 ·exact .late h.weak h'.weak s s'
theorem Loc.weak {α : Type} {b : Bool} {P : List Tok → Prop} {f : List Tok → Rs α} (h : Loc b P f) : Loc false P f :=
 ⟨fun m hm => (h.late m hm).weak,fun q m q' m' hq e hp hp' => (h.rel q m q' m' hq e hp hp').weak⟩
theorem Loc.on {α : Type} {b : Bool} {P Q : List Tok → Prop} {f : List Tok → Rs α} (h : Loc b P f) (hpq : ∀ l,Q l → P l) : Loc b Q f :=
 ⟨fun m hm => h.late m (hpq _ hm),fun q m q' m' hq e hp hp' => h.rel q m q' m' hq e (hpq _ hp) (hpq _ hp')⟩
theorem loc_ok {α : Type} (P : List Tok → Prop) (a : α) : Loc false P (fun l => (.ok (a,l) : Rs α)) :=
 ⟨fun m _ => .inl ⟨a,m,rfl,.refl m,fun h => by cases h⟩,fun q m q' m' _ e _ _ => .ok a q q' rfl rfl e (.refl _) (.refl _)⟩
theorem saysK_ne {q q' : List Tok} (e : saysK q = saysK q') (h : q ≠ []) : q' ≠ []:=by
 rintro rfl
 cases q with
 | nil => exact h rfl
 | cons x q => cases e
theorem atT_app {k : List Tok} (h : k ≠ []) (m : List Tok) : atT (k ++ m) = atT k:=by
 cases k with
 | nil => exact absurd rfl h
 | cons x k => rfl
theorem loc_err {α : Type} (P : List Tok → Prop) (b : Bool) : Loc b P (fun l => (.error (atT l,60) : Rs α)) :=
 ⟨fun m _ => .inr ⟨60,m,rfl,.refl m,.inl rfl⟩,fun q m q' m' hq e _ _ => .err 60 q q' (by rw [atT_app hq]) (by rw [atT_app (saysK_ne e hq)]) e hq (.refl _) (.refl _)⟩
theorem loc_deep {α : Type} {P : List Tok → Prop} (b : Bool) (hP : ∀ l,P l → isP [91] l = true ∨ isP [123] l = true) : Loc b P (fun l => (.error (atT l,61) : Rs α)) :=
 ⟨fun m hm => .inr ⟨61,m,rfl,.refl m,.inr ⟨rfl,hP m hm⟩⟩,fun q m q' m' hq e _ _ => .err 61 q q' (by rw [atT_app hq]) (by rw [atT_app (saysK_ne e hq)]) e hq (.refl _) (.refl _)⟩
theorem loc_if {α : Type} {b : Bool} {P : List Tok → Prop} {c : List Tok → Bool} (hc : HO c) {f g : List Tok → Rs α} (hf : Loc b (fun l => P l ∧ c l = true) f) (hg : Loc b (fun l => P l ∧ c l = false) g) : Loc b P (fun l => if c l then f l else g l):=by
 refine ⟨fun m hm => ?_,fun q m q' m' hq e hp hp' => ?_⟩
 ·show Late b m (if c m then f m else g m)
  cases h : c m with
  | true => exact hf.late m ⟨hm,h⟩
  | false => exact hg.late m ⟨hm,h⟩
 ·show Rel b q m q' m' (if c (q ++ m) then f (q ++ m) else g (q ++ m)) (if c (q' ++ m') then f (q' ++ m') else g (q' ++ m'))
  have he:=hc.eq hq e m m'
  rw [← he]
  cases h : c (q ++ m) with
  | true => exact hf.rel q m q' m' hq e ⟨hp,h⟩ ⟨hp',he ▸ h⟩
  | false => exact hg.rel q m q' m' hq e ⟨hp,h⟩ ⟨hp',he ▸ h⟩
theorem saysK_cons {x x' : Tok} {q q' : List Tok} (e : saysK (x :: q) = saysK (x' :: q')) : saysK q = saysK q':=by
 simp only [saysK,List.map_cons,List.cons.injEq] at e
 exact e.2
theorem Rel.cons {α : Type} {b : Bool} {q m q' m' : List Tok} {r r' : Rs α} {x x' : Tok} (hx : ¬ Eofish x) (hx' : ¬ Eofish x') (h : Rel b q m q' m' r r') : Rel b (x :: q) m (x' :: q') m' r r':=by
 rcases h with ⟨a,k,k',h,h',e,s,s'⟩ | ⟨e,k,k',h,h',e,n,s,s'⟩ | ⟨h,h',s,s'⟩
 ·exact .ok a k k' h h' e (s.cons hx) (s'.cons hx')
 ·exact .err _ k k' h h' e n (s.cons hx) (s'.cons hx')
 ·exact .late h h' (s.cons hx) (s'.cons hx')
theorem Rel.sub {α : Type} {b : Bool} {j q m j' q' m' : List Tok} {r r' : Rs α} (hs : Sf j q) (hs' : Sf j' q') (h : Rel b j m j' m' r r') : Rel b q m q' m' r r':=by
 rcases h with ⟨a,k,k',h,h',e,s,s'⟩ | ⟨e,k,k',h,h',e,n,s,s'⟩ | ⟨h,h',s,s'⟩
 ·exact .ok a k k' h h' e (s.trans hs) (s'.trans hs')
 ·exact .err _ k k' h h' e n (s.trans hs) (s'.trans hs')
 ·exact .late h h' (s.trans hs) (s'.trans hs')
/-- Also where nothing is left of q. -/
theorem Loc.any {α : Type} {b : Bool} {f : List Tok → Rs α} (h : Loc b TT f) (q m q' m' : List Tok) (e : saysK q = saysK q') : Rel b q m q' m' (f (q ++ m)) (f (q' ++ m')):=by
 by_cases hq : q = []
 ·subst hq
  cases q' with
  | nil => exact .late (h.late m trivial) (h.late m' trivial) (.refl _) (.refl _)
  | cons x q' => cases e
 ·exact h.rel q m q' m' hq e trivial trivial
theorem ne_app {x : Tok} {r : List Tok} (h : NE (x :: r)) : ¬ Eofish x:=by
 obtain ⟨y,s,e,hy⟩:=h
 cases e;exact hy
theorem loc_tail {α : Type} {b : Bool} {P : List Tok → Prop} {f : List Tok → Rs α} (hP : ∀ l,P l → NE l) (hf : Loc b TT f) : Loc b P (fun l => f l.tail):=by
 refine ⟨fun m hm => ?_,fun q m q' m' hq e hp hp' => ?_⟩
 ·obtain ⟨x,r,rfl,hx⟩:=hP m hm
  exact (hf.late r trivial).sub ((Sf.refl r).cons hx)
 ·cases q with
  | nil => exact absurd rfl hq
  | cons x q =>
   cases q' with
   | nil => cases e
   | cons x' q' =>
    exact (hf.any q m q' m' (saysK_cons e)).cons (ne_app (hP _ hp)) (ne_app (hP _ hp'))
theorem loc_eat {α : Type} {b : Bool} {P : List Tok → Prop} {v : List Tok → α} (hv : HO v) (hP : ∀ l,P l → NE l) : Loc b P (fun l => (.ok (v l,l.tail) : Rs α)):=by
 refine ⟨fun m hm => ?_,fun q m q' m' hq e hp hp' => ?_⟩
 ·obtain ⟨x,r,rfl,hx⟩:=hP m hm
  exact .inl ⟨_,r,rfl,(Sf.refl r).cons hx,fun _ => by simp⟩
 ·have hv:=hv.eq hq e m m'
  cases q with
  | nil => exact absurd rfl hq
  | cons x q =>
   cases q' with
   | nil => cases e
   | cons x' q' =>
    exact .ok _ q q' rfl (by rw [hv];rfl) (saysK_cons e) ((Sf.refl _).cons (ne_app (hP _ hp))) ((Sf.refl _).cons (ne_app (hP _ hp')))
theorem Late.go {α β : Type} {b b' : Bool} {m : List Tok} {r : Rs α} {g : α → List Tok → Rs β} (h : Late b' m r) (hg : ∀ a,Loc b TT (g a)) : Late b m (r.go g):=by
 rcases h with ⟨a,k,rfl,s,_⟩ | ⟨e,k,rfl,s,he⟩
 ·exact ((hg a).late k trivial).sub s
 ·exact .inr ⟨e,k,rfl,s,he⟩
theorem loc_go {α β : Type} {b b' : Bool} {P : List Tok → Prop} {f : List Tok → Rs α} {g : α → List Tok → Rs β} (hf : Loc b' P f) (hg : ∀ a,Loc b TT (g a)) : Loc b P (fun l => (f l).go g):=by
 refine ⟨fun m hm => (hf.late m hm).go hg,fun q m q' m' hq e hp hp' => ?_⟩
 show Rel b q m q' m' ((f (q ++ m)).go g) ((f (q' ++ m')).go g)
 rcases hf.rel q m q' m' hq e hp hp' with ⟨a,k,k',h,h',e,s,s'⟩ | ⟨e,k,k',h,h',e,n,s,s'⟩ | ⟨h,h',s,s'⟩
 ·rw [h,h']
  exact ((hg a).any k m k' m' e).sub s s'
 ·rw [h,h']
  exact .err _ k k' rfl rfl e n s s'
 ·exact .late (h.go hg) (h'.go hg) s s'
theorem loc_map {α β : Type} {b : Bool} {P : List Tok → Prop} {f : List Tok → Rs α} (g : α → β) (hf : Loc b P f) : Loc b P (fun l => (f l).go fun a l1 => .ok (g a,l1)):=by
 have late : ∀ {m : List Tok} {r : Rs α},Late b m r → Late b m (r.go fun a l1 => (.ok (g a,l1) : Rs β)):=by
  intro m r h
  rcases h with ⟨a,k,rfl,s,hb⟩ | ⟨e,k,rfl,s,he⟩
  ·exact .inl ⟨_,k,rfl,s,hb⟩
  ·exact .inr ⟨e,k,rfl,s,he⟩
 refine ⟨fun m hm => late (hf.late m hm),fun q m q' m' hq e hp hp' => ?_⟩
 show Rel b q m q' m' ((f (q ++ m)).go _) ((f (q' ++ m')).go _)
 rcases hf.rel q m q' m' hq e hp hp' with ⟨a,k,k',h,h',e,s,s'⟩ | ⟨e,k,k',h,h',e,n,s,s'⟩ | ⟨h,h',s,s'⟩
 ·rw [h,h']
  exact .ok _ k k' rfl rfl e s s'
 ·rw [h,h']
  exact .err _ k k' rfl rfl e n s s'
 ·exact .late (late h) (late h') s s'
theorem loc_any {α : Type} {b : Bool} {f : List Tok → Rs α} (he : Eats f) (hf : Loc b TT f) {last : Bs} (hl : last ≠ []) : Loc true TT (anyS f last):=by
 have hlate : ∀ (n : Nat) (m : List Tok),m.length ≤ n → Late true m (anyS f last m):=by
  intro n
  induction n with
  | zero =>
   intro m hm
   obtain rfl : m = []:=List.length_eq_zero_iff.1 (by omega)
   rw [anyS_eq he]
   rcases hf.late [] trivial with ⟨a,k,h,s,_⟩ | ⟨e,k,h,s,g⟩
   ·have:=he _ _ _ h
    simp at this
   ·rw [h]
    exact .inr ⟨e,k,rfl,s,g⟩
  | succ n ih =>
   intro m hm
   rw [anyS_eq he]
   by_cases hp : isP last m = true
   ·rw [if_pos hp]
    obtain ⟨x,r,rfl,hx⟩:=ne_P hl hp
    exact .inl ⟨_,r,rfl,(Sf.refl r).cons hx,fun _ => by simp⟩
   ·rw [if_neg hp]
    rcases hf.late m trivial with ⟨a,k,h,s,_⟩ | ⟨e,k,h,s,g⟩
    ·have h1:=he _ _ _ h
     rw [h]
     simp only [go_ok]
     rcases ih k (by omega) with ⟨a2,k2,h2,s2,b2⟩ | ⟨e2,k2,h2,s2,g2⟩
     ·rw [h2]
      exact .inl ⟨_,k2,rfl,s2.trans s,fun _ => Nat.lt_of_lt_of_le (b2 rfl) s.len⟩
     ·rw [h2]
      exact .inr ⟨e2,k2,rfl,s2.trans s,g2⟩
    ·rw [h]
     exact .inr ⟨e,k,rfl,s,g⟩
 have hgo : ∀ {a : α} {k m : List Tok},Sf k m → Late true m ((anyS f last k).go fun b l2 => (.ok (a :: b,l2) : Rs (List α))):=by
  intro a k m s
  rcases hlate k.length k (Nat.le_refl _) with ⟨a2,k2,h2,s2,b2⟩ | ⟨e2,k2,h2,s2,g2⟩
  ·rw [h2]
   exact .inl ⟨_,k2,rfl,s2.trans s,fun _ => Nat.lt_of_lt_of_le (b2 rfl) s.len⟩
  ·rw [h2]
   exact .inr ⟨e2,k2,rfl,s2.trans s,g2⟩
 refine ⟨fun m _ => hlate m.length m (Nat.le_refl _),?_⟩
 have hrel : ∀ (n : Nat) (q m q' m' : List Tok),q.length ≤ n → saysK q = saysK q' → Rel true q m q' m' (anyS f last (q ++ m)) (anyS f last (q' ++ m')):=by
  intro n
  induction n with
  | zero =>
   intro q m q' m' hn e
   obtain rfl : q = []:=List.length_eq_zero_iff.1 (by omega)
   cases q' with
   | cons x q' => cases e
   | nil => exact .late (hlate _ m (Nat.le_refl _)) (hlate _ m' (Nat.le_refl _)) (.refl _) (.refl _)
  | succ n ih =>
   intro q m q' m' hn e
   by_cases hq : q = []
   ·subst hq
    cases q' with
    | cons x q' => cases e
    | nil => exact .late (hlate _ m (Nat.le_refl _)) (hlate _ m' (Nat.le_refl _)) (.refl _) (.refl _)
   ·rw [anyS_eq he,anyS_eq he,← (ho_isP last).eq hq e m m']
    by_cases hp : isP last (q ++ m) = true
    ·rw [if_pos hp,if_pos hp]
     have hp':=hp
     rw [(ho_isP last).eq hq e m m'] at hp'
     cases q with
     | nil => exact absurd rfl hq
     | cons x q =>
      cases q' with
      | nil => cases e
      | cons x' q' =>
       exact .ok _ q q' rfl rfl (saysK_cons e) ((Sf.refl _).cons (ne_app (ne_P hl hp))) ((Sf.refl _).cons (ne_app (ne_P hl hp')))
    ·rw [if_neg hp,if_neg hp]
     rcases hf.rel q m q' m' hq e trivial trivial with ⟨a,k,k',h,h',e,s,s'⟩ | ⟨e,k,k',h,h',e,nn,s,s'⟩ | ⟨h,h',s,s'⟩
     ·have h1:=he _ _ _ h
      rw [h,h']
      simp only [go_ok]
      simp only [List.length_append] at h1
      rcases ih k m k' m' (by omega) e with ⟨a,j,j',h,h',e,t,t'⟩ | ⟨e,j,j',h,h',e,nn,t,t'⟩ | ⟨_,_,t,t'⟩
      ·rw [h,h']
       exact .ok _ j j' rfl rfl e (t.trans s) (t'.trans s')
      ·rw [h,h']
       exact .err _ j j' rfl rfl e nn (t.trans s) (t'.trans s')
      ·rename_i g g'
       refine .late ?_ ?_ (t.trans s) (t'.trans s')
       ·rcases g with ⟨a2,k2,h2,s2,b2⟩ | ⟨e2,k2,h2,s2,g2⟩
        ·rw [h2];exact .inl ⟨_,k2,rfl,s2,b2⟩
        ·rw [h2];exact .inr ⟨e2,k2,rfl,s2,g2⟩
       ·rcases g' with ⟨a2,k2,h2,s2,b2⟩ | ⟨e2,k2,h2,s2,g2⟩
        ·rw [h2];exact .inl ⟨_,k2,rfl,s2,b2⟩
        ·rw [h2];exact .inr ⟨e2,k2,rfl,s2,g2⟩
     ·rw [h,h']
      exact .err _ k k' rfl rfl e nn s s'
     ·refine .late ?_ ?_ s s'
      ·rcases h with ⟨a,k,h,s,_⟩ | ⟨e,k,h,s,g⟩
       ·rw [h];exact hgo s
       ·rw [h];exact .inr ⟨e,k,rfl,s,g⟩
      ·rcases h' with ⟨a,k,h,s,_⟩ | ⟨e,k,h,s,g⟩
       ·rw [h];exact hgo s
       ·rw [h];exact .inr ⟨e,k,rfl,s,g⟩
 exact fun q m q' m' _ e _ _ => hrel q.length q m q' m' (Nat.le_refl _) e
theorem loc_led {α : Type} {b : Bool} {f : List Tok → Rs α} (he : Keeps f) (hf : Loc b TT f) {first : Bs} (hl : first ≠ []) : Loc false TT (ledS f first):=by
 have hmap : ∀ {a : α} {m : List Tok} {r : Rs (List α)},Late false m r → Late false m (r.go fun b l2 => (.ok (a :: b,l2) : Rs (List α))):=by
  intro a m r h
  rcases h with ⟨a2,k2,h2,s2,b2⟩ | ⟨e2,k2,h2,s2,g2⟩
  ·rw [h2];exact .inl ⟨_,k2,rfl,s2,b2⟩
  ·rw [h2];exact .inr ⟨e2,k2,rfl,s2,g2⟩
 have hlate : ∀ (n : Nat) (m : List Tok),m.length ≤ n → Late false m (ledS f first m):=by
  intro n
  induction n with
  | zero =>
   intro m hm
   obtain rfl : m = []:=List.length_eq_zero_iff.1 (by omega)
   rw [ledS_eq he]
   exact .inl ⟨[],[],rfl,.refl _,fun h => by cases h⟩
  | succ n ih =>
   intro m hm
   rw [ledS_eq he]
   by_cases hp : isP first m = true
   ·rw [if_pos hp]
    obtain ⟨x,r,rfl,hx⟩:=ne_P hl hp
    rcases hf.late r trivial with ⟨a,k,h,s,_⟩ | ⟨e,k,h,s,g⟩
    ·have h1:=he _ _ _ h
     simp only [List.tail_cons,h,go_ok]
     simp only [List.length_cons] at hm
     exact (hmap (ih k (by omega))).sub (s.cons hx)
    ·simp only [List.tail_cons,h]
     exact .inr ⟨e,k,rfl,s.cons hx,g⟩
   ·rw [if_neg hp]
    exact .inl ⟨[],m,rfl,.refl _,fun h => by cases h⟩
 refine ⟨fun m _ => hlate m.length m (Nat.le_refl _),?_⟩
 have hrel : ∀ (n : Nat) (q m q' m' : List Tok),q.length ≤ n → saysK q = saysK q' → Rel false q m q' m' (ledS f first (q ++ m)) (ledS f first (q' ++ m')):=by
  intro n
  induction n with
  | zero =>
   intro q m q' m' hn e
   obtain rfl : q = []:=List.length_eq_zero_iff.1 (by omega)
   cases q' with
   | cons x q' => cases e
   | nil => exact .late (hlate _ m (Nat.le_refl _)) (hlate _ m' (Nat.le_refl _)) (.refl _) (.refl _)
  | succ n ih =>
   intro q m q' m' hn e
   by_cases hq : q = []
   ·subst hq
    cases q' with
    | cons x q' => cases e
    | nil => exact .late (hlate _ m (Nat.le_refl _)) (hlate _ m' (Nat.le_refl _)) (.refl _) (.refl _)
   ·rw [ledS_eq he,ledS_eq he,← (ho_isP first).eq hq e m m']
    by_cases hp : isP first (q ++ m) = true
    ·rw [if_pos hp,if_pos hp]
     have hp':=hp
     rw [(ho_isP first).eq hq e m m'] at hp'
     cases q with
     | nil => exact absurd rfl hq
     | cons x q =>
      cases q' with
      | nil => cases e
      | cons x' q' =>
       have hx:=ne_app (ne_P hl hp)
       have hx':=ne_app (ne_P hl hp')
       refine Rel.cons hx hx' ?_
       show Rel false q m q' m' ((f (q ++ m)).go _) ((f (q' ++ m')).go _)
       rcases hf.any q m q' m' (saysK_cons e) with ⟨a,k,k',h,h',e,s,s'⟩ | ⟨e,k,k',h,h',e,nn,s,s'⟩ | ⟨h,h',s,s'⟩
       ·have h1:=he _ _ _ h
        rw [h,h']
        simp only [go_ok]
        simp only [List.length_append,List.length_cons] at h1 hn
        rcases ih k m k' m' (by omega) e with ⟨a,j,j',h,h',e,t,t'⟩ | ⟨e,j,j',h,h',e,nn,t,t'⟩ | ⟨g,g',t,t'⟩
        ·rw [h,h']
         exact .ok _ j j' rfl rfl e (t.trans s) (t'.trans s')
        ·rw [h,h']
         exact .err _ j j' rfl rfl e nn (t.trans s) (t'.trans s')
        ·exact .late (hmap g) (hmap g') (t.trans s) (t'.trans s')
       ·rw [h,h']
        exact .err _ k k' rfl rfl e nn s s'
       ·refine .late ?_ ?_ s s'
        ·rcases h with ⟨a,k,h,s,_⟩ | ⟨e,k,h,s,g⟩
         ·rw [h];exact (hmap (hlate _ k (Nat.le_refl _))).sub s
         ·rw [h];exact .inr ⟨e,k,rfl,s,g⟩
        ·rcases h' with ⟨a,k,h,s,_⟩ | ⟨e,k,h,s,g⟩
         ·rw [h];exact (hmap (hlate _ k (Nat.le_refl _))).sub s
         ·rw [h];exact .inr ⟨e,k,rfl,s,g⟩
    ·rw [if_neg hp,if_neg hp]
     exact .ok _ q q' rfl rfl e (.refl _) (.refl _)
 exact fun q m q' m' _ e _ _ => hrel q.length q m q' m' (Nat.le_refl _) e
/-! ### Each plain function -/
theorem loc_name : Loc true TT nameS:=loc_if (ho_isK 1) (loc_eat ho_tx fun _ h => ne_K (by decide) h.2) (loc_err _ _)
theorem loc_must {s : Bs} (hs : s ≠ []) : Loc true TT (mustS s):=loc_if (ho_isP s) (loc_eat (ho_const ()) fun _ h => ne_P hs h.2) (loc_err _ _)
theorem loc_mustW (s : Bs) : Loc true TT (mustW s):=loc_if (ho_isW s) (loc_eat (ho_const ()) fun _ h => ne_W h.2) (loc_err _ _)
theorem loc_var : Loc true TT varS:=loc_go (loc_must (by decide)) fun _ => loc_name
theorem loc_some {α : Type} {b : Bool} {f : List Tok → Rs α} (he : Eats f) (hf : Loc b TT f) {last : Bs} (hl : last ≠ []) : Loc true TT (someS f last):=loc_go hf fun a => loc_map (fun b => a :: b) (loc_any he hf hl)
theorem loc_mem {b : Bool} {f : List Tok → Rs (List CT)} (hf : Loc b TT f) : Loc b TT (memS f):=loc_go loc_name fun t => loc_go (loc_must (by decide)) fun _ => loc_map (fun v => (t,v)) hf
theorem loc_list {inner : Option (List Tok → Rs (List CT))} (hi : ∀ f,inner = some f → Eats f ∧ Loc true TT f) : Loc true (fun l => isP [91] l = true) (listS inner):=by
 cases inner with
 | none => exact loc_deep _ fun _ h => .inl h
 | some f => exact loc_tail (fun _ h => ne_P (by decide) h) (loc_map (fun vs => valC 8 [] vs []) (loc_any (hi f rfl).1 (hi f rfl).2 (by decide)))
theorem loc_obj {inner : Option (List Tok → Rs (List CT))} (hi : ∀ f,inner = some f → Eats f ∧ Loc true TT f) : Loc true (fun l => isP [123] l = true) (objS inner):=by
 cases inner with
 | none => exact loc_deep _ fun _ h => .inr h
 | some f => exact loc_tail (f:=fun l => (anyS (memS f) [125] l).go fun ms l1 => .ok (valC 9 [] (ms.map (·.2)) (ms.map fun m => [sC m.1]),l1)) (fun _ h => ne_P (s:=[123]) (by decide) h) (loc_map (fun ms : List (Bs × List CT) => valC 9 [] (ms.map (·.2)) (ms.map fun m => [sC m.1])) (loc_any (memS_eats (hi f rfl).1.keeps) (loc_mem (hi f rfl).2) (by decide)))
theorem loc_sign (fx : Bool) {inner : Option (List Tok → Rs (List CT))} (hi : ∀ f,inner = some f → Eats f ∧ Loc true TT f) : Loc true TT (signS fx inner) :=
 loc_if (ho_isP _) ((loc_list hi).on fun _ h => h.2) (loc_if (ho_isP _) ((loc_obj hi).on fun _ h => h.2) (loc_if (c:=fun _ => fx) (ho_const fx) (loc_err _ _) ((loc_map (fun t => valC 3 t [] []) loc_var).on fun _ _ => trivial)))
theorem loc_valG (fx : Bool) {inner : Option (List Tok → Rs (List CT))} (hi : ∀ f,inner = some f → Eats f ∧ Loc true TT f) : Loc true TT (valG fx inner) :=
 loc_if (ho_isK 1) (loc_eat (ho_tx.app namedC) fun _ h => ne_K (by decide) h.2) (loc_if (ho_isK 2) (loc_eat (ho_tx.app fun t => valC 4 t [] []) fun _ h => ne_K (by decide) h.2) (loc_if (ho_isK 3) (loc_eat (ho_tx.app fun t => valC 5 t [] []) fun _ h => ne_K (by decide) h.2) (loc_if (ho_isK 4) (loc_eat (ho_tx.app fun t => valC 6 t [] []) fun _ h => ne_K (by decide) h.2) ((loc_sign fx hi).on fun _ _ => trivial))))
theorem loc_val (fx : Bool) : ∀ n,Loc true TT (valF fx n)
 | 0 => loc_valG fx fun f h => by cases h
 | n + 1 => loc_valG fx fun f h => by cases h;exact ⟨valF_eats fx n,loc_val fx n⟩
theorem loc_arg (fx : Bool) : Loc true TT (argS fx):=loc_map (fun m : Bs × List CT => sC m.1 :: m.2) (loc_mem (loc_val fx 32))
theorem loc_args (fx : Bool) : Loc false TT (argsS fx):=loc_if (ho_isP _) (loc_tail (fun _ h => ne_P (by decide) h.2) (loc_some (argS_eats fx) (loc_arg fx) (by decide)).weak) (loc_ok _ _)
theorem loc_dir (fx : Bool) : Loc false TT (dirS fx):=loc_go loc_name fun t => loc_map (fun a => [sC t,rowC _ 5 a]) (loc_args fx)
theorem loc_dirs (fx : Bool) : Loc false TT (dirsS fx):=loc_led (dirS_eats fx).keeps (loc_dir fx) (by decide)
theorem loc_refB (x : Bs × Bs) : Loc false TT (refB x):=loc_if (ho_isP _) (loc_eat (ho_const _) fun _ h => ne_P (by decide) h.2) (loc_ok _ _)
theorem loc_refG {inner : Option (List Tok → Rs (Bs × Bs))} (hi : ∀ f,inner = some f → Loc false TT f) : Loc false TT (refG inner):=by
 refine loc_go (f:=fun l => if isP [91] l then (match inner with
  | none => .error (atT l,61)
  | some f => (f l.tail).go fun x l1 => (mustS [93] l1).go fun _ l2 => .ok ((x.1,x.2 ++ [91]),l2)) else (nameS l).go fun t l1 => .ok ((t,[]),l1)) (b':=false) (loc_if (ho_isP _) ?_ ((loc_map (fun t => (t,[])) loc_name).weak.on fun _ _ => trivial)) loc_refB
 cases inner with
 | none => exact loc_deep _ fun _ h => .inl h.2
 | some f => exact loc_tail (f:=fun l => (f l).go fun x l1 => (mustS [93] l1).go fun _ l2 => .ok ((x.1,x.2 ++ [91]),l2)) (fun _ h => ne_P (by decide) h.2) (loc_go (hi f rfl) fun x => loc_map (fun _ => (x.1,x.2 ++ [91])) (loc_must (by decide)).weak)
theorem loc_ref : ∀ n,Loc false TT (refF n)
 | 0 => loc_refG fun f h => by cases h
 | n + 1 => loc_refG fun f h => by cases h;exact loc_ref n
theorem loc_def : Loc false TT defS:=loc_if (ho_isP _) (loc_tail (f:=fun l => (valF true 32 l).go fun v l1 => .ok ((true,v),l1)) (fun _ h => ne_P (by decide) h.2) (loc_map (fun v => (true,v)) (loc_val true 32)).weak) (loc_ok _ _)
theorem loc_varDef : Loc false TT varDefS:=loc_go loc_var fun t => loc_go (loc_must (by decide)) fun _ => loc_go (loc_ref 32) fun x => loc_go loc_def fun d => loc_map (fun ds => [sC t,sC x.1,sC x.2,bC d.1] ++ d.2 ++ [rowC _ 2 ds]) (loc_dirs true)
theorem loc_vars : Loc false TT varsS:=loc_if (ho_isP _) (loc_tail (fun _ h => ne_P (by decide) h.2) (loc_some varDefS_eats loc_varDef (by decide)).weak) (loc_ok _ _)
theorem loc_nick : Loc false TT nickS:=loc_go loc_name fun t => loc_if (ho_isP _) (loc_tail (f:=fun l => (nameS l).go fun u l2 => .ok ((t,u),l2)) (fun _ h => ne_P (by decide) h.2) (loc_map (fun u => (t,u)) loc_name).weak) (loc_ok _ _)
theorem loc_with {b : Bool} {st : List Tok → Rs (List (List CT))} (h : Loc b TT st) : Loc false TT (withS st):=loc_if (ho_isP _) (h.weak.on fun _ _ => trivial) (loc_ok _ _)
theorem loc_field {b : Bool} {st : List Tok → Rs (List (List CT))} (h : Loc b TT st) : Loc false TT (fieldS st):=loc_go loc_nick fun p => loc_go (loc_args false) fun a => loc_go (loc_dirs false) fun ds => loc_map (fun ss => selC 0 p.1 p.2 [] a ds ss) (loc_with h)
theorem loc_spread : Loc false TT spreadS:=loc_go loc_name fun t => loc_map (fun ds => selC 1 [] t [] [] ds []) (loc_dirs false)
theorem loc_on : Loc false TT onS:=loc_if (ho_isW _) (loc_tail (fun _ h => ne_W h.2) loc_name.weak) (loc_ok _ _)
theorem loc_inline {b : Bool} {st : List Tok → Rs (List (List CT))} (h : Loc b TT st) : Loc b TT (inlineS st):=loc_go loc_on fun t => loc_go (loc_dirs false) fun ds => loc_map (fun ss => selC 2 [] [] t [] ds ss) h
theorem loc_sel {b : Bool} {st : List Tok → Rs (List (List CT))} (h : Loc b TT st) : Loc false TT (selS st) :=
 loc_if (ho_isP _) (loc_tail (f:=fun l => if isK 1 l && !isW onB l then spreadS l else inlineS st l) (fun _ h => ne_P (by decide) h.2) (loc_if (c:=fun l => isK 1 l && !isW onB l) (fun x x' r r' e => by show (isK 1 (x :: r) && !isW onB (x :: r)) = (isK 1 (x' :: r') && !isW onB (x' :: r'));rw [ho_isK 1 x x' r r' e,ho_isW onB x x' r r' e]) (loc_spread.on fun _ _ => trivial) ((loc_inline h).weak.on fun _ _ => trivial))) ((loc_field h).on fun _ _ => trivial)
theorem loc_setG {inner : Option (List Tok → Rs (List (List CT)))} (hi : ∀ f,inner = some f → Eats f ∧ Loc true TT f) : Loc true TT (setG inner):=by
 refine loc_if (ho_isP _) ?_ (loc_err _ _)
 cases inner with
 | none => exact loc_deep _ fun _ h => .inr h.2
 | some f => exact loc_tail (fun _ h => ne_P (by decide) h.2) (loc_some (selS_eats (hi f rfl).1.keeps) (loc_sel (hi f rfl).2) (by decide))
theorem loc_set : ∀ n,Loc true TT (setF n)
 | 0 => loc_setG fun f h => by cases h
 | n + 1 => loc_setG fun f h => by cases h;exact ⟨setF_eats n,loc_set n⟩
theorem loc_kind : Loc true TT kindS:=loc_if (ho_isW _) (loc_eat (ho_const _) fun _ h => ne_W h.2) (loc_if (ho_isW _) (loc_eat (ho_const _) fun _ h => ne_W h.2) (loc_if (ho_isW _) (loc_eat (ho_const _) fun _ h => ne_W h.2) (loc_err _ _)))
theorem loc_title : Loc false TT titleS:=loc_if (ho_isK 1) (loc_name.weak.on fun _ _ => trivial) (loc_ok _ _)
theorem loc_op : Loc true TT opS:=loc_if (ho_isP _) ((loc_map (fun ss => opC 0 [] [] [] ss) (loc_set 32)).on fun _ _ => trivial) ((loc_go loc_kind fun k => loc_go loc_title fun t => loc_go loc_vars fun vs => loc_go (loc_dirs false) fun ds => loc_map (fun ss => opC k t vs ds ss) (loc_set 32)).on fun _ _ => trivial)
theorem loc_notOn : Loc false TT notOn:=loc_if (ho_isW _) (loc_err _ _) (loc_ok _ _)
theorem loc_frag : Loc true TT fragS:=loc_go loc_notOn fun _ => loc_go loc_name fun t => loc_go (loc_mustW _) fun _ => loc_go loc_name fun u => loc_go (loc_dirs false) fun ds => loc_map (fun ss => fragC t u ds ss) (loc_set 32)
theorem loc_item : Loc true TT itemS:=loc_if (ho_isW _) (loc_tail (f:=fun l => (fragS l).go fun x l1 => .ok ((true,x),l1)) (fun _ h => ne_W h.2) (loc_map (fun x => (true,x)) loc_frag)) ((loc_map (fun x => (false,x)) loc_op).on fun _ _ => trivial)
end Go.Proofs.YtgmlbjfgfmfliaaGreatDoor
namespace Go.Proofs.YtgmlbjfgfmfliaaGreatDoor
open Go
/-! ### The document -/
abbrev itsS (l : List Tok) : Rs (List (Bool × List CT)):=anyS itemS [] l
theorem its_eq (l : List Tok) : itsS l = if isP [] l then .ok ([],l.tail) else (itemS l).go fun a l1 => (itsS l1).go fun b l2 => .ok (a :: b,l2):=anyS_eq itemS_eats [] l
def NoE (ts : List Tok) : Prop:=∀ x ∈ ts,¬ Eofish x
theorem NoE.sf {ts : List Tok} (h : NoE ts) : Sf [] ts:=⟨ts,by simp,h⟩
theorem NoE.sub {k ts : List Tok} (h : NoE ts) (s : Sf k ts) : NoE k:=by
 obtain ⟨c,rfl,_⟩:=s
 exact fun x hx => h x (List.mem_append_right _ hx)
theorem NoE.take {ts : List Tok} (h : NoE ts) (i : Nat) : NoE (ts.take i):=fun x hx => h x (List.mem_of_mem_take hx)
theorem noE_says {q q' : List Tok} (e : saysK q = saysK q') (h : NoE q) : NoE q':=by
 intro x hx he
 have : (x.k,x.t) ∈ saysK q:=by rw [e];exact List.mem_map_of_mem hx
 obtain ⟨y,hy,e2⟩:=List.mem_map.1 this
 injection e2 with e3 e4
 exact h y hy ⟨e3.trans he.1,e4.trans he.2⟩
theorem isP_nil_no {q m : List Tok} (hq : q ≠ []) (h : NoE q) : isP [] (q ++ m) = false:=by
 cases q with
 | nil => exact absurd rfl hq
 | cons x q =>
  have:=h x List.mem_cons_self
  rw [Bool.eq_false_iff]
  intro e
  simp only [List.cons_append,isP,Bool.and_eq_true,beq_iff_eq] at e
  exact this e
theorem eof_ish (N : Nat) : Eofish (eofT N):=⟨rfl,rfl⟩
theorem its_eof (N : Nat) : itsS [eofT N] = .ok ([],[]):=by
 rw [its_eq];rfl
theorem item_eof (N : Nat) : itemS [eofT N] = .error (N,60):=rfl
theorem sf_eof {k : List Tok} {N : Nat} (h : Sf k [eofT N]) : k = [eofT N]:=by
 obtain ⟨c,hc,hn⟩:=h
 cases c with
 | nil => exact hc.symm
 | cons x c =>
  injection hc with h1 h2
  exact absurd (h1 ▸ eof_ish N) (hn x List.mem_cons_self)
theorem late_eof {α : Type} {N : Nat} {r : Rs α} (h : Late true [eofT N] r) : r = .error (N,60):=by
 rcases h with ⟨a,k,h,s,b⟩ | ⟨e,k,h,s,g⟩
 ·rw [sf_eof s] at b
  exact absurd (b rfl) (Nat.lt_irrefl _)
 ·rw [sf_eof s] at h g
  rcases g with rfl | ⟨_,g | g⟩
  ·exact h
  ·cases g
  ·cases g
abbrev putL (xs : List (Bool × List CT)) (r : Rs (List (Bool × List CT))) : Rs (List (Bool × List CT)):=r.go fun ys l => .ok (xs ++ ys,l)
theorem putL_nil (r : Rs (List (Bool × List CT))) : putL [] r = r:=by
 cases r <;> rfl
theorem putL_cons (a : Bool × List CT) (xs : List (Bool × List CT)) (r : Rs (List (Bool × List CT))) : ((putL xs r).go fun b l2 => .ok (a :: b,l2)) = putL (a :: xs) r:=by
 cases r <;> rfl
/-- Two documents that begin alike. -/
theorem its_rel (m m' : List Tok) : ∀ (n : Nat) (q q' : List Tok),q.length ≤ n → saysK q = saysK q' → NoE q →
  (∃ e k k',itsS (q ++ m) = .error (atT k,e) ∧ itsS (q' ++ m') = .error (atT k',e) ∧ saysK k = saysK k' ∧ k ≠ [] ∧ Sf k q ∧ Sf k' q') ∨
  (∃ xs k k',saysK k = saysK k' ∧ Sf k q ∧ Sf k' q' ∧ itsS (q ++ m) = putL xs (itsS (k ++ m)) ∧ itsS (q' ++ m') = putL xs (itsS (k' ++ m')) ∧ (k = [] ∨ (k ≠ [] ∧ Late true m (itemS (k ++ m)) ∧ Late true m' (itemS (k' ++ m'))))):=by
 intro n
 induction n with
 | zero =>
  intro q q' hn e hq
  obtain rfl : q = []:=List.length_eq_zero_iff.1 (by omega)
  exact .inr ⟨[],[],q',e,.refl _,.refl _,(putL_nil _).symm,(putL_nil _).symm,.inl rfl⟩
 | succ n ih =>
  intro q q' hn e hq
  by_cases h0 : q = []
  ·subst h0
   exact .inr ⟨[],[],q',e,.refl _,.refl _,(putL_nil _).symm,(putL_nil _).symm,.inl rfl⟩
  ·have hq':=noE_says e hq
   have h0':=saysK_ne e h0
   rcases loc_item.rel q m q' m' h0 e trivial trivial with ⟨a,k,k',h,h',ek,s,s'⟩ | ⟨e',k,k',h,h',ek,nn,s,s'⟩ | ⟨h,h',s,s'⟩
   ·have h1:=itemS_eats _ _ _ h
    simp only [List.length_append] at h1
    have e1 : itsS (q ++ m) = (itsS (k ++ m)).go fun b l2 => .ok (a :: b,l2):=by
     rw [its_eq,isP_nil_no h0 hq,h];rfl
    have e2 : itsS (q' ++ m') = (itsS (k' ++ m')).go fun b l2 => .ok (a :: b,l2):=by
     rw [its_eq,isP_nil_no h0' hq',h'];rfl
    rcases ih k k' (by omega) ek (hq.sub s) with ⟨f,j,j',g,g',ej,nn,t,t'⟩ | ⟨xs,j,j',ej,t,t',g,g',hj⟩
    ·left
     exact ⟨f,j,j',by rw [e1,g];rfl,by rw [e2,g'];rfl,ej,nn,t.trans s,t'.trans s'⟩
    ·right
     exact ⟨a :: xs,j,j',ej,t.trans s,t'.trans s',by rw [e1,g,putL_cons],by rw [e2,g',putL_cons],hj⟩
   ·left
    exact ⟨e',k,k',by rw [its_eq,isP_nil_no h0 hq,h];rfl,by rw [its_eq,isP_nil_no h0' hq',h'];rfl,ek,nn,s,s'⟩
   ·right
    exact ⟨[],q,q',e,.refl _,.refl _,(putL_nil _).symm,(putL_nil _).symm,.inr ⟨h0,h,h'⟩⟩
/-- What comes of it: all is read, or it is wrong where a token stands, or the end. -/
theorem its_late (N : Nat) : ∀ (n : Nat) (ts : List Tok),ts.length ≤ n → NoE ts → (∃ xs,itsS (ts ++ [eofT N]) = .ok (xs,[])) ∨ ∃ e k,itsS (ts ++ [eofT N]) = .error (atT k,e) ∧ Sf k (ts ++ [eofT N]) ∧ Err k e:=by
 intro n
 induction n with
 | zero =>
  intro ts hn _
  obtain rfl : ts = []:=List.length_eq_zero_iff.1 (by omega)
  exact .inl ⟨[],its_eof N⟩
 | succ n ih =>
  intro ts hn hq
  by_cases h0 : ts = []
  ·subst h0
   exact .inl ⟨[],its_eof N⟩
  ·rw [its_eq,isP_nil_no h0 hq]
   rcases loc_item.late (ts ++ [eofT N]) trivial with ⟨a,k,h,s,b⟩ | ⟨e,k,h,s,g⟩
   ·have hb:=b rfl
    rw [h]
    simp only [go_ok,Bool.false_eq_true,if_false]
    obtain ⟨c,hc,hcn⟩:=s
    rcases List.eq_nil_or_concat k with rfl | ⟨k1,x,rfl⟩
    ·rw [List.append_nil] at hc
     exact absurd (eof_ish N) (hcn _ (hc ▸ List.mem_append_right _ List.mem_cons_self))
    ·rw [List.concat_eq_append,← List.append_assoc] at hc
     obtain ⟨h1,h2⟩:=List.append_inj' hc rfl
     cases h2
     rw [List.concat_eq_append]
     rw [List.concat_eq_append] at hb
     simp only [List.length_append,List.length_cons,List.length_nil] at hb
     have hs : Sf (k1 ++ [eofT N]) (ts ++ [eofT N]):=⟨c,by rw [h1,List.append_assoc],hcn⟩
     rcases ih k1 (by omega) (fun y hy => hq y (by rw [h1];exact List.mem_append_right _ hy)) with ⟨xs,hx⟩ | ⟨e,j,hx,t,g⟩
     ·exact .inl ⟨a :: xs,by rw [hx];rfl⟩
     ·exact .inr ⟨e,j,by rw [hx];rfl,t.trans hs,g⟩
   ·rw [h]
    exact .inr ⟨e,k,rfl,s,g⟩
theorem some_its {l : List Tok} (h : isP [] l = false) : someS itemS [] l = itsS l:=by
 rw [its_eq,h];rfl
theorem doc_its {ts : List Tok} (h0 : ts ≠ []) (h : NoE ts) (m : List Tok) : docS (ts ++ m) = (itsS (ts ++ m)).go fun xs l1 => .ok (docC xs,l1):=by
 unfold docS
 rw [some_its (isP_nil_no h0 h)]
theorem doc_eof (N : Nat) : docS [eofT N] = .error (N,60):=rfl
/-- Where kinds and texts are the same, so are the documents, and what is wrong. -/
theorem doc_says {ts ts' : List Tok} (N N' : Nat) (e : saysK ts = saysK ts') (h : NoE ts) :
  (∃ d,docS (ts ++ [eofT N]) = .ok (d,[]) ∧ docS (ts' ++ [eofT N']) = .ok (d,[])) ∨ ∃ c p p',docS (ts ++ [eofT N]) = .error (p,c) ∧ docS (ts' ++ [eofT N']) = .error (p',c):=by
 by_cases h0 : ts = []
 ·subst h0
  cases ts' with
  | cons x q => cases e
  | nil => exact .inr ⟨60,N,N',rfl,rfl⟩
 ·rw [doc_its h0 h,doc_its (saysK_ne e h0) (noE_says e h)]
  rcases its_rel [eofT N] [eofT N'] _ ts ts' (Nat.le_refl _) e h with ⟨c,k,k',g,g',_⟩ | ⟨xs,k,k',ek,s,s',g,g',hk⟩
  ·exact .inr ⟨c,_,_,by rw [g];rfl,by rw [g'];rfl⟩
  ·rcases hk with rfl | ⟨hk,l,l'⟩
   ·cases k' with
    | cons x q => cases ek
    | nil =>
     rw [List.nil_append,its_eof] at g g'
     exact .inl ⟨docC (xs ++ []),by rw [g];rfl,by rw [g'];rfl⟩
   ·have hn:=h.sub s
    rw [its_eq (k ++ _),isP_nil_no hk hn,late_eof l] at g
    rw [its_eq (k' ++ _),isP_nil_no (saysK_ne ek hk) (noE_says ek hn),late_eof l'] at g'
    exact .inr ⟨60,N,N',by rw [g];rfl,by rw [g'];rfl⟩
theorem sf_drop {k ts : List Tok} {N : Nat} (s : Sf k (ts ++ [eofT N])) : ∃ i,i ≤ ts.length ∧ k = ts.drop i ++ [eofT N]:=by
 obtain ⟨c,hc,hcn⟩:=s
 rcases List.eq_nil_or_concat k with rfl | ⟨k1,x,rfl⟩
 ·rw [List.append_nil] at hc
  exact absurd (eof_ish N) (hcn _ (hc ▸ List.mem_append_right _ List.mem_cons_self))
 ·rw [List.concat_eq_append,← List.append_assoc] at hc
  obtain ⟨h1,h2⟩:=List.append_inj' hc rfl
  cases h2
  refine ⟨c.length,by rw [h1];simp,?_⟩
  rw [List.concat_eq_append,h1,List.drop_left' rfl]
/-- Where a document is wrong: what stands ahead by itself. -/
theorem doc_places {ts : List Tok} {N : Nat} (h : NoE ts) (hi : List.Pairwise (fun x y : Tok => x.b < y.b) (ts ++ [eofT N])) {p : Nat} {e : Int} (hd : docS (ts ++ [eofT N]) = .error (p,e)) :
  (e = 60 ∨ e = 61) ∧ ∃ i,i ≤ ts.length ∧ p = atT (ts.drop i ++ [eofT N]) ∧ ∀ M,(∃ xs,xs ≠ [] ∧ docS (ts.take i ++ [eofT M]) = .ok (docC xs,[])) ∨ docS (ts.take i ++ [eofT M]) = .error (M,60):=by
 by_cases h0 : ts = []
 ·subst h0
  cases hd
  exact ⟨.inl rfl,0,Nat.le_refl _,rfl,fun M => .inr rfl⟩
 ·rw [doc_its h0 h] at hd
  rcases its_late N _ ts (Nat.le_refl _) h with ⟨xs,hx⟩ | ⟨c,k,hx,s,g⟩
  ·rw [hx] at hd;cases hd
  ·rw [hx] at hd
   obtain ⟨rfl,rfl⟩ : atT k = p ∧ c = e:=by cases hd;exact ⟨rfl,rfl⟩
   obtain ⟨i,hl,rfl⟩:=sf_drop s
   refine ⟨g.elim .inl fun g => .inr g.1,i,hl,rfl,fun M => ?_⟩
   by_cases hz : ts.take i = []
   ·rw [hz];exact .inr rfl
   ·have hn:=h.take i
    have ecat : ts ++ [eofT N] = ts.take i ++ (ts.drop i ++ [eofT N]):=by rw [← List.append_assoc,List.take_append_drop]
    rw [doc_its hz hn]
    rw [ecat] at hx hi
    rcases its_rel (ts.drop i ++ [eofT N]) [eofT M] _ (ts.take i) (ts.take i) (Nat.le_refl _) rfl hn with ⟨c',k,k',g,g',_,nn,s,_⟩ | ⟨xs,k,k',ek,s,s',g,g',hk⟩
    ·rw [hx] at g
     exfalso
     have h1 : atT (ts.drop i ++ [eofT N]) = atT k:=by injection g with g;injection g
     obtain ⟨y,r,hk⟩:=List.exists_cons_of_ne_nil nn
     have hy : y ∈ ts.take i:=by
      obtain ⟨cc,hc,_⟩:=s
      rw [hc,hk];exact List.mem_append_right _ List.mem_cons_self
     obtain ⟨z,r',hz'⟩:=List.exists_cons_of_ne_nil (l:=ts.drop i ++ [eofT N]) (by simp)
     have:=(List.pairwise_append.1 hi).2.2 y hy z (by rw [hz'];exact List.mem_cons_self)
     rw [hz',hk] at h1
     simp only [atT] at h1
     omega
    ·rcases hk with rfl | ⟨hk,l,l'⟩
     ·cases k' with
      | cons x q => cases ek
      | nil =>
       rw [List.nil_append,its_eof] at g'
       left
       refine ⟨xs,?_,by rw [g'];simp [go_ok,putL]⟩
       rintro rfl
       rw [its_eq,isP_nil_no hz hn] at g'
       cases hit : itemS (ts.take i ++ [eofT M]) with
       | error p => rw [hit] at g';cases g'
       | ok p =>
        rw [hit] at g'
        cases hb : itsS p.2 with
        | error p' => simp only [Rs.go,hb] at g';cases g'
        | ok p' => simp only [Rs.go,hb] at g';cases g'
     ·right
      rw [its_eq (k' ++ _),isP_nil_no (saysK_ne ek hk) (noE_says ek (hn.sub s)),late_eof l'] at g'
      rw [g'];rfl
/-- A document that is right, with something behind it. -/
theorem its_join {ts ts' R : List Tok} {N : Nat} {xs : List (Bool × List CT)} {l : List Tok} (e : saysK ts = saysK ts') (h : NoE ts) (hd : itsS (ts ++ [eofT N]) = .ok (xs,l)) : itsS (ts' ++ R) = putL xs (itsS R):=by
 rcases its_rel [eofT N] R _ ts ts' (Nat.le_refl _) e h with ⟨c,k,k',g,g',_⟩ | ⟨ys,k,k',ek,s,s',g,g',hk⟩
 ·rw [g] at hd;cases hd
 ·rcases hk with rfl | ⟨hk,lt,_⟩
  ·cases k' with
   | cons x q => cases ek
   | nil =>
    rw [List.nil_append,its_eof] at g
    rw [List.nil_append] at g'
    rw [g] at hd
    have : ys = xs:=by
     simp only [putL,go_ok,List.append_nil] at hd
     injection hd with hd;injection hd
    rw [g',this]
  ·rw [its_eq (k ++ _),isP_nil_no hk (h.sub s),late_eof lt] at g
   rw [g] at hd;cases hd
theorem doc_ok_its {ts : List Tok} {N : Nat} {d l : _} (h : NoE ts) (hd : docS (ts ++ [eofT N]) = .ok (d,l)) : ∃ xs,ts ≠ [] ∧ itsS (ts ++ [eofT N]) = .ok (xs,l) ∧ d = docC xs:=by
 by_cases h0 : ts = []
 ·subst h0;cases hd
 ·rw [doc_its h0 h] at hd
  obtain ⟨xs,l1,h1,h2⟩:=go_ok_inv hd
  cases h2
  exact ⟨xs,h0,h1,rfl⟩
/-- Two documents, one behind the other. -/
theorem doc_join {ts ts' us us' : List Tok} {N M K : Nat} {xs ys : List (Bool × List CT)} {l l' : List Tok} (e : saysK ts = saysK ts') (f : saysK us = saysK us') (h : NoE ts) (h' : NoE us) (hd : docS (ts ++ [eofT N]) = .ok (docC xs,l)) (hx : itsS (ts ++ [eofT N]) = .ok (xs,l)) (hy : itsS (us ++ [eofT M]) = .ok (ys,l')) : docS (ts' ++ us' ++ [eofT K]) = .ok (docC (xs ++ ys),[]):=by
 obtain ⟨_,h0,_⟩:=doc_ok_its h hd
 rw [List.append_assoc,doc_its (saysK_ne e h0) (noE_says e h),its_join e h hx,its_join f h' hy,its_eof]
 simp [putL,go_ok]
/-- A document that is right, with one behind it that is wrong. -/
theorem doc_join_bad {ts ts' us us' : List Tok} {N M K : Nat} {xs : List (Bool × List CT)} {l : List Tok} {p : Nat} {c : Int} (e : saysK ts = saysK ts') (f : saysK us = saysK us') (h : NoE ts) (h' : NoE us) (h0 : ts ≠ []) (hx : itsS (ts ++ [eofT N]) = .ok (xs,l)) (hu : us ≠ []) (hy : docS (us ++ [eofT M]) = .error (p,c)) :
  ∃ i,i ≤ us'.length ∧ docS (ts' ++ us' ++ [eofT K]) = .error (atT (us'.drop i ++ [eofT K]),c):=by
 rw [doc_its hu h'] at hy
 rw [List.append_assoc,doc_its (saysK_ne e h0) (noE_says e h),its_join e h hx]
 have hyy : itsS (us ++ [eofT M]) = .error (p,c):=by
  cases hb : itsS (us ++ [eofT M]) with
  | error q => rw [hb] at hy;cases hy;rfl
  | ok q => rw [hb] at hy;cases hy
 have key : ∃ k,itsS (us' ++ [eofT K]) = .error (atT k,c) ∧ Sf k (us' ++ [eofT K]):=by
  rcases its_late K _ us' (Nat.le_refl _) (noE_says f h') with ⟨zs,hz⟩ | ⟨c',k,hz,s,_⟩
  ·have:=its_join (R:=[eofT M]) f.symm (noE_says f h') hz
   rw [this,its_eof] at hyy
   cases hyy
  ·refine ⟨k,?_,s⟩
   rcases its_rel [eofT M] [eofT K] _ us us' (Nat.le_refl _) f h' with ⟨d,j,j',g,g',_⟩ | ⟨zs,j,j',ej,t,t',g,g',hj⟩
   ·rw [hyy] at g;rw [hz] at g'
    have e1 : c = d:=by injection g with g;injection g
    have e2 : c' = d:=by injection g' with g';injection g'
    rw [hz,e1,e2]
   ·rcases hj with rfl | ⟨hj,lt,lt'⟩
    ·rw [List.nil_append,its_eof] at g
     rw [g] at hyy;cases hyy
    ·rw [its_eq (j ++ _),isP_nil_no hj (h'.sub t),late_eof lt] at g
     rw [its_eq (j' ++ _),isP_nil_no (saysK_ne ej hj) (noE_says ej (h'.sub t)),late_eof lt'] at g'
     rw [hyy] at g;rw [hz] at g'
     have e1 : c = 60:=by injection g with g;injection g
     have e2 : c' = 60:=by injection g' with g';injection g'
     rw [hz,e1,e2]
 obtain ⟨k,h1,h2⟩:=key
 obtain ⟨i,hi,rfl⟩:=sf_drop h2
 exact ⟨i,hi,by rw [h1];rfl⟩
end Go.Proofs.YtgmlbjfgfmfliaaGreatDoor
namespace Go.Proofs.YtgmlbjfgfmfliaaGreatDoor
open Go Go.RowKit
theorem lexS_codes {s : Bs} {b : Nat} {e : Int} (h : lexS s = .inl (b,e)) : b ≤ s.length ∧ 50 ≤ e ∧ e ≤ 54:=by
 unfold lexS at h
 by_cases hl : 16384 < s.length
 ·rw [if_pos hl] at h
  cases h
  exact ⟨Nat.zero_le _,by decide,by decide⟩
 ·rw [if_neg hl] at h
  have h' : lexG s.length 0 s = .inl (b,e):=h
  obtain ⟨ps,tl,e1,e2,e3,e4⟩:=lex_dec s.length 0 s (Nat.le_refl _) (by omega)
  have ee:=lexG_cat (N:=s.length) ps tl 0 e2 e3
  rw [← e1,h'] at ee
  rcases e4 with hf | ⟨k,hf⟩ | ⟨x,l1,hf,hx⟩
  ·rw [lexG_end hf] at ee;cases ee
  ·rw [lexG_wrong hf] at ee
   simp only [withL,Sum.inl.injEq,Prod.mk.injEq] at ee
   obtain ⟨rfl,rfl⟩:=ee
   exact ⟨by omega,by decide,by decide⟩
  ·by_cases h8 : 0 + ps.length = 2048
   ·rw [lexG_many hf h8] at ee
    simp only [withL,Sum.inl.injEq,Prod.mk.injEq] at ee
    obtain ⟨rfl,rfl⟩:=ee
    exact ⟨by omega,by decide,by decide⟩
   ·rcases hx with h8' | ⟨y,hy⟩
    ·exact absurd h8' h8
    ·rw [lexG_bad hf h8 hy] at ee
     simp only [withL,Sum.inl.injEq,Prod.mk.injEq] at ee
     have:=bad_codes hy
     obtain ⟨rfl,rfl⟩:=ee
     exact ⟨by omega,by omega,by omega⟩
theorem catP_len (ps : List Pc) (x : Bs) : (catP ps x).length = (catP ps []).length + x.length:=by
 rw [catP_head ps x,List.length_append]
theorem toksP_shift : ∀ (ps : List Pc) (x y : Bs) (N M : Nat),N + y.length = M + x.length → (catP ps x).length ≤ N → toksP N ps x = toksP M ps y
 | [],_,_,_,_,_,_ => rfl
 | a :: az,x,y,N,M,h,hN => by
  have l0 : (catP (a :: az) x).length = a.g.length + (a.p.length + (catP az x).length):=by
   show (a.g ++ (a.p ++ catP az x)).length = _
   rw [List.length_append,List.length_append]
  have l1:=catP_len az x
  have l2:=catP_len az y
  show (⟨a.k,a.t,N - (a.p ++ catP az x).length,N - (catP az x).length⟩ : Tok) :: toksP N az x = ⟨a.k,a.t,M - (a.p ++ catP az y).length,M - (catP az y).length⟩ :: toksP M az y
  rw [toksP_shift az x y N M h (by omega)]
  simp only [List.length_append]
  congr 2 <;> omega
theorem toksP_rise : ∀ (ps : List Pc) (tl : Bs) (N : Nat),AllOk ps tl → (catP ps tl).length ≤ N → List.Pairwise (fun x y : Tok => x.b < y.b) (toksP N ps tl ++ [eofT N]) ∧ ∀ x ∈ toksP N ps tl ++ [eofT N],N - (catP ps tl).length ≤ x.b
 | [],tl,N,_,_ => ⟨by simp [toksP],fun x hx => by
   have : x = eofT N:=by simpa [toksP] using hx
   rw [this];exact Nat.sub_le _ _⟩
 | a :: az,tl,N,⟨_,h2,_,h4⟩,hN => by
  have l0 : (catP (a :: az) tl).length = a.g.length + (a.p.length + (catP az tl).length):=by
   show (a.g ++ (a.p ++ catP az tl)).length = _
   rw [List.length_append,List.length_append]
  have hp : 0 < a.p.length:=List.length_pos_iff.2 (tok_ne h2)
  obtain ⟨g1,g2⟩:=toksP_rise az tl N h4 (by omega)
  have l1 : (a.p ++ catP az tl).length = a.p.length + (catP az tl).length:=List.length_append
  refine ⟨List.pairwise_cons.2 ⟨fun y hy => ?_,g1⟩,fun x hx => ?_⟩
  ·have:=g2 y hy
   show N - (a.p ++ catP az tl).length < y.b
   omega
  ·rcases List.mem_cons.1 hx with rfl | hx
   ·show _ ≤ N - (a.p ++ catP az tl).length
    omega
   ·have:=g2 x hx
    omega
/-- What stands ahead of a token, by itself. -/
theorem right_take {s : Bs} {az bs : List Pc} {a : Pc} {tl : Bs} (h : Right s (az ++ a :: bs) tl) : Right (s.take (preLx az + a.g.length)) az a.g ∧ (s.take (preLx az + a.g.length)).length = preLx az + a.g.length:=by
 obtain ⟨_,h1,_,h3,_⟩:=piece_at h
 obtain ⟨o1,o2,_⟩:=AllOk.split az (a :: bs) tl h.ok
 have hl : (s.take (preLx az + a.g.length)).length = preLx az + a.g.length:=by rw [List.length_take];omega
 have hs:=h.short
 have hf:=h.few
 rw [List.length_append] at hf
 refine ⟨⟨h1,AllOk.change ?_ az o1,by omega,?_,by omega⟩,hl⟩
 ·show HeadC (a.g ++ (a.p ++ catP bs tl)) a.g
  cases hg : a.g with
  | nil => exact HeadC.nil _
  | cons c q => exact fun d k e _ => by cases e;exact ⟨_,rfl⟩
 ·have:=o2 []
  rw [List.append_nil] at this
  rw [this,skip_nil]
/-- A document's error that is no token's. -/
theorem parse_places {s : Bs} {ts : List Tok} {p : Nat} {e : Int} (hs : lexS s = .inr ts) (hd : docS (ts ++ [eofT s.length]) = .error (p,e)) :
  (e = 60 ∨ e = 61) ∧ p ≤ s.length ∧ (∃ us,lexS (s.take p) = .inr us) ∧ ((∃ xs,xs ≠ [] ∧ parseS (s.take p) = .ok (docC xs)) ∨ parseS (s.take p) = .error (p,60)):=by
 obtain ⟨ps,tl,hr,rfl⟩:=right_of hs
 have hne : NoE (toksP s.length ps tl):=(lexS_full hs).2.2
 have hcl : (catP ps tl).length ≤ s.length:=by rw [← hr.cat];exact Nat.le_refl _
 obtain ⟨hi,_⟩:=toksP_rise ps tl s.length hr.ok hcl
 obtain ⟨he,i,hil,hp,hM⟩:=doc_places hne hi hd
 refine ⟨he,?_⟩
 rw [toksP_len] at hil
 rcases Nat.lt_or_ge i ps.length with hlt | hge
 ·obtain ⟨az,a,bs,hps,haz⟩ : ∃ az a bs,ps = az ++ a :: bs ∧ az.length = i:=⟨ps.take i,ps[i],ps.drop (i + 1),by simp,by simp;omega⟩
  subst hps
  obtain ⟨hR,hl⟩:=right_take hr
  obtain ⟨_,_,_,hle,_⟩:=piece_at hr
  have hcat : (catP (a :: bs) tl).length = a.g.length + (a.p ++ catP bs tl).length:=List.length_append
  have hlen : s.length = preLx az + a.g.length + (a.p ++ catP bs tl).length:=by
   have:=congrArg List.length hr.cat
   rw [catP_app,catP_len az,hcat] at this
   unfold preLx
   omega
  have e1 : toksP s.length (az ++ a :: bs) tl = toksP s.length az (catP (a :: bs) tl) ++ toksP s.length (a :: bs) tl:=toksP_app _ _ _ _
  have hz : (toksP s.length az (catP (a :: bs) tl)).length = i:=by rw [toksP_len];exact haz
  have hp' : p = preLx az + a.g.length:=by
   rw [hp,e1,List.drop_left' hz]
   show s.length - (a.p ++ catP bs tl).length = _
   omega
  rw [← hp'] at hR hl
  have e2 : toksP p az a.g = toksP s.length az (catP (a :: bs) tl):=by
   refine (toksP_shift az _ _ _ _ ?_ ?_).symm
   ·rw [hcat];omega
   ·rw [catP_len,hcat];unfold preLx at hlen;omega
  have hL:=lexS_right hR
  rw [hl,e2] at hL
  refine ⟨by omega,⟨_,hL⟩,?_⟩
  have hm:=hM p
  rw [e1,List.take_left' hz] at hm
  unfold parseS
  rw [hL]
  simp only [hl]
  rcases hm with ⟨xs,h1,h2⟩ | h2
  ·exact .inl ⟨xs,h1,by rw [h2]⟩
  ·exact .inr (by rw [h2])
 ·have hps : (toksP s.length ps tl).length ≤ i:=by rw [toksP_len];exact hge
  rw [List.drop_eq_nil_of_le hps] at hp
  obtain rfl : p = s.length:=hp
  rw [List.take_length]
  refine ⟨Nat.le_refl _,⟨_,hs⟩,?_⟩
  have hm:=hM s.length
  rw [List.take_of_length_le hps] at hm
  unfold parseS
  rw [hs]
  simp only
  rcases hm with ⟨xs,h1,h2⟩ | h2
  ·exact .inl ⟨xs,h1,by rw [h2]⟩
  ·exact .inr (by rw [h2])
theorem any_few {α : Type} {f : List Tok → Rs α} (he : Eats f) (last : Bs) : ∀ (n : Nat) (l m : List Tok) (xs : List α),l.length ≤ n → anyS f last l = .ok (xs,m) → xs.length + m.length ≤ l.length:=by
 intro n
 induction n with
 | zero =>
  intro l m xs hl h
  have:=anyS_eats he last _ _ _ h
  omega
 | succ n ih =>
  intro l m xs hl h
  rw [anyS_eq he] at h
  split at h
  ·cases h
   simp
  ·obtain ⟨a,l1,h1,h2⟩:=go_ok_inv h
   obtain ⟨ys,l2,h3,h4⟩:=go_ok_inv h2
   cases h4
   have:=he _ _ _ h1
   have:=ih l1 m ys (by omega) h3
   simp only [List.length_cons]
   omega
theorem opsFrags_len : ∀ xs : List (Bool × List CT),(opsOf xs).length + (fragsOf xs).length = xs.length
 | [] => rfl
 | (true,x) :: xs => by
  have:=opsFrags_len xs
  simp only [opsOf,fragsOf,List.length_map] at this ⊢
  simp
  omega
 | (false,x) :: xs => by
  have:=opsFrags_len xs
  simp only [opsOf,fragsOf,List.length_map] at this ⊢
  simp
  omega
theorem parse_items {s : Bs} {d : List CT} (h : parseS s = .ok d) : ∃ ts xs,lexS s = .inr ts ∧ NoE ts ∧ ts ≠ [] ∧ xs ≠ [] ∧ xs.length ≤ 2049 ∧ d = docC xs ∧ itsS (ts ++ [eofT s.length]) = .ok (xs,[]) ∧ docS (ts ++ [eofT s.length]) = .ok (docC xs,[]):=by
 unfold parseS at h
 cases hs : lexS s with
 | inl p => rw [hs] at h;cases h
 | inr ts =>
  rw [hs] at h
  simp only at h
  have hne : NoE ts:=(lexS_full hs).2.2
  cases hd : docS (ts ++ [eofT s.length]) with
  | error p => rw [hd] at h;cases h
  | ok p =>
   rw [hd] at h
   obtain ⟨d',l⟩:=p
   simp only [Except.ok.injEq] at h
   subst h
   obtain ⟨xs,h0,h1,rfl⟩:=doc_ok_its hne hd
   have hl : l = []:=by
    rcases its_late s.length _ ts (Nat.le_refl _) hne with ⟨ys,hy⟩ | ⟨e,k,hy,_⟩
    ·rw [hy] at h1;cases h1;rfl
    ·rw [hy] at h1;cases h1
   subst hl
   have hcount:=any_few itemS_eats [] _ _ _ _ (Nat.le_refl _) h1
   have hts:=(lexS_full hs).1
   simp only [List.length_append,List.length_cons,List.length_nil] at hcount
   refine ⟨ts,xs,rfl,hne,h0,?_,by omega,rfl,h1,hd⟩
   rintro rfl
   rw [its_eq,isP_nil_no h0 hne] at h1
   cases hit : itemS (ts ++ [eofT s.length]) with
   | error p => rw [hit] at h1;cases h1
   | ok p =>
    rw [hit] at h1
    cases hb : itsS p.2 with
    | error p' => simp only [Rs.go,hb] at h1;cases h1
    | ok p' => simp only [Rs.go,hb] at h1;cases h1
end Go.Proofs.YtgmlbjfgfmfliaaGreatDoor
namespace Go.Proofs.YtgmlbjfgfmfliaaGreatDoor
open Go Go.RowKit Go.Shelf
theorem joinW_eq : ∀ us : List Bs,Lib.join us [32] = joinW us
 | [] => rfl
 | [x] => Lib.join_one x [32]
 | x :: y :: l => by
  have ih:=joinW_eq (y :: l)
  unfold joinW
  rw [← ih]
  simp [Lib.join,List.intercalate,List.intersperse]
theorem wjoin_any {w : World} {B : Nat} {lv : Value} {us : List Bs} (h : RowO w B 9 1 wrdC lv us) (hs : szW us ≤ 16385) : Calls Tryz.prog 44 #[lv,.string ⟨#[32]⟩] w fun e w' => e = .returned (.string ⟨(joinW us).toArray⟩) ∧ Below w.heap.size w w':=by
 by_cases hu : us = []
 ·subst hu
  obtain ⟨a,c,rfl⟩:=h.slice
  refine (Tryz.strings_Join_none a c ⟨#[32]⟩ w).mono ?_
  rintro e w' ⟨rfl,rfl⟩
  exact ⟨rfl,Below.refl _ _⟩
 ·obtain ⟨g,c,rfl,hB,hg,hc,hm,hcell⟩:=h.cells hu
  have hl : us.length ≤ 16385:=Nat.le_trans (szW_len us) hs
  have hj:=joinW_len us hu
  have hmap : ((us.map fun x => ByteArray.mk x.toArray).map (·.data.toList)) = us:=by
   rw [List.map_map]
   exact List.map_id'' (fun _ => rfl) _
  have hlen : (us.map fun x => ByteArray.mk x.toArray).length = us.length:=List.length_map _
  have J:=Tryz.strings_Join g 0 c (us.map fun x => ByteArray.mk x.toArray) ⟨#[32]⟩ w (fun j x hx => by
   rw [List.getElem?_map] at hx
   obtain ⟨y,hy,rfl⟩:=Option.map_eq_some_iff.1 hx
   rw [Nat.zero_add]
   refine hcell j _ ?_
   have:=flatR_at (f:=wrdC) (sz:=1) (fun _ => rfl) us j y hy 0 (by decide)
   rw [Nat.mul_one,Nat.add_zero] at this
   rw [this]
   rfl) hg (by rw [hlen];omega) (by rw [hlen];exact hc) (by
   rw [hmap,show (ByteArray.mk #[32]).data.toList = [32] from rfl,joinW_eq]
   omega)
  rw [hlen,hmap,show (ByteArray.mk #[32]).data.toList = [32] from rfl,joinW_eq] at J
  exact J
set_option maxRecDepth 100000 in
theorem rtext_any {V : Nat} {w : World} {us : List Bs} (h : Wk V w us) : Calls Tryz.prog 21 #[.pointer (some ⟨V,0,none⟩)] w fun e w' => e = .returned (.string ⟨(joinW us).toArray⟩) ∧ Below w.heap.size w w':=by
 obtain ⟨lv,hW⟩:=h.wr
 have J:=wjoin_any hW.own hW.few
 obtain ⟨c0,c1,_⟩:=row2 hW.row
 obtain ⟨a,c,rfl⟩:=hW.own.slice
 clear hW h
 go_enter Tryz.func21,Tryz.ntmps21
 go_wp2_with (first
  | (go_at_call 44;(with_reducible refine J.mono ?_);rintro e w1 ⟨rfl,hb⟩)
  | fail)
 go_ret
 exact ⟨rfl,hb⟩
theorem parse_bad {s : Bs} {p : Nat × Int} (h : parseS s = .error p) : p.2 ≠ 0:=by
 unfold parseS at h
 split at h
 ·rename_i q e
  injection h with h
  subst h
  exact lexS_bad e
 ·rename_i ts e
  split at h
  ·rename_i q e2
   injection h with h
   subst h
   obtain ⟨a,b⟩:=q
   obtain ⟨h1,_⟩:=parse_places e e2
   rcases h1 with rfl | rfl
   ·exact (by decide : (60 : Int) ≠ 0)
   ·exact (by decide : (61 : Int) ≠ 0)
  ·cases h
/-- What is told: a text, or that there is none. -/
def PrntP (w : World) (r : Option Bs) (e : Ending) (w' : World) : Prop:=(match r with
 | none => e = .returned (.tuple #[.string ⟨#[]⟩,.int .i64 70])
 | some t => e = .returned (.tuple #[.string ⟨t.toArray⟩,.int .i64 0])) ∧ Below w.heap.size w w'
set_option maxRecDepth 100000 in
set_option maxHeartbeats 4000000 in
theorem taken_any (a b : Bs) (us : List Bs) (w : World) (gl : Gl w) (ha : a.length ≤ 64) (hb : b.length ≤ 64) (ht : (joinW us).length ≤ 16384) : Calls Tryz.prog 20 #[.string ⟨a.toArray⟩,.string ⟨(joinW us).toArray⟩,.string ⟨b.toArray⟩] w (PrntP w (takenP a b (some us))):=by
 have PA:=parse_any (a ++ joinW us ++ b) w gl
 unfold takenP
 simp only
 generalize joinW us = t at *
 have s1 : (⟨a.toArray⟩ : ByteArray) ++ ⟨t.toArray⟩ = ⟨(a ++ t).toArray⟩:=cat_mk a t
 have s2 : (⟨(a ++ t).toArray⟩ : ByteArray) ++ ⟨b.toArray⟩ = ⟨(a ++ t ++ b).toArray⟩:=cat_mk (a ++ t) b
 rw [← s2,← s1] at PA
 clear s1 s2
 have n1 : ¬ 9223372036854775807 < List.length a + List.length t:=by omega
 have n2 : ¬ 9223372036854775807 < List.length (a ++ t) + List.length b:=by rw [List.length_append];omega
 have n3 : ¬ 9223372036854775807 < List.length a + List.length t + List.length b:=by omega
 cases hp : parseS (a ++ t ++ b) with
 | error p =>
  rw [hp] at PA
  have hp0:=parse_bad hp
  obtain ⟨x,y⟩:=p
  have hp2 : (y == 0) = false:=by simpa using hp0
  have hp3 : (y != 0) = true:=by simpa using hp0
  clear hp hp0
  go_enter Tryz.func20,Tryz.ntmps20
  go_wp2_with (first
   | (go_at_call 15;(with_reducible refine PA.mono ?_);rintro e w1 ⟨rfl,hb1⟩)
   | fail)
  go_ret2
  exact ⟨rfl,hb1.trans ((al1 _ _).mono hb1.size)⟩
 | ok cs =>
  rw [hp] at PA
  clear hp
  go_enter Tryz.func20,Tryz.ntmps20
  go_wp2_with (first
   | (go_at_call 15;(with_reducible refine PA.mono ?_);rintro e w1 ⟨⟨v,rfl,o1,m1,z1,o2,m2,z2,rfl,_⟩,hb1⟩)
   | fail)
  go_ret2
  exact ⟨rfl,hb1.trans ((al1 _ _).mono hb1.size)⟩
end Go.Proofs.YtgmlbjfgfmfliaaGreatDoor
namespace Go.Proofs.YtgmlbjfgfmfliaaGreatDoor
open Go Go.RowKit Go.Shelf
theorem Tz.lt {w : World} (h : Tz w) : gT < w.heap.size:=World.block_lt_of_cell? w _ h
theorem printP_no {x : Option (List Bs)} {a b : Bs} (hne : ∀ us,x = some us → us ≠ []) (h : ∀ us,x = some us → 16385 < szW us) : takenP a b x = none:=by
 unfold takenP
 cases x with
 | none => rfl
 | some us =>
  simp only
  have h1:=h us rfl
  have h2:=joinW_len us (hne us rfl)
  cases hp : parseS (a ++ joinW us ++ b) with
  | error p => rfl
  | ok cs =>
   exfalso
   unfold parseS at hp
   split at hp
   ·cases hp
   ·rename_i ts e
    have:=lex_short e
    simp only [List.length_append] at this
    omega
/-- Where a tree is put ahead of writing, its row, the writer. -/
abbrev preP (w : World) (cs : Array Value) (T : Nat) : World:=((w.alloc (.cells cs T)).alloc (.cells #[.slice none 0 0,.int .i64 0] 54)).alloc (boxW (w.heap.size + 1) false)
theorem preP_facts {w : World} {cs : Array Value} {T : Nat} (gl : Gl w) (tz : Tz w) : Wk (w.heap.size + 1) (preP w cs T) [] ∧ (preP w cs T).heap[w.heap.size]? = some (.cells cs T (0,0)) ∧ (preP w cs T).heap[w.heap.size + 1 + 1]? = some (.cells #[putV (w.heap.size + 1),.bool false] 56 (0,0)) ∧ Below w.heap.size w (preP w cs T):=by
 have e1 : (w.alloc (.cells cs T)).heap.size = w.heap.size + 1:=World.size_alloc _ _
 have e2 : ((w.alloc (.cells cs T)).alloc (.cells #[.slice none 0 0,.int .i64 0] 54)).heap.size = w.heap.size + 1 + 1:=by rw [World.size_alloc,e1]
 have h0:=heap_alloc_new w (.cells cs T)
 have h1:=heap_alloc_new (w.alloc (.cells cs T)) (.cells #[.slice none 0 0,.int .i64 0] 54)
 have h2:=heap_alloc_new ((w.alloc (.cells cs T)).alloc (.cells #[.slice none 0 0,.int .i64 0] 54)) (boxW (w.heap.size + 1) false)
 rw [e1] at h1
 rw [e2] at h2
 have hb : Below w.heap.size w (preP w cs T):=((((Kp.refl Non w).alloc _).alloc _).alloc _).bel
 have m1:=gl.ltM
 have m2:=gl.ltE
 have m3:=tz.lt
 exact ⟨⟨⟨.slice none 0 0,rowOld h1 ((Kp.refl Non _).alloc _) (fun e => e),RowO.none,by decide⟩,gl.below hb (Nat.le_refl _),tz.below hb (Nat.le_refl _),by omega,by omega,by omega⟩,rowOld h0 (((Kp.refl Non _).alloc _).alloc _) (fun e => e),h2,hb⟩
theorem Bt.up {w w' : World} {D' : Nat → Prop} {y : CT} {u : Value} (h : Bt w (fun k => k < w.heap.size) y u) (hb : Below w.heap.size w w') (hD : ∀ k,k < w.heap.size → D' k) : Bt w' D' y u:=(h.keep fun k hk => hb.block k hk).mono hD
theorem Bts.up {w w' : World} {D' : Nat → Prop} {y : List CT} {u : List Value} (h : Bts w (fun k => k < w.heap.size) y u) (hb : Below w.heap.size w w') (hD : ∀ k,k < w.heap.size → D' k) : Bts w' D' y u:=(h.keep fun k hk => hb.block k hk).mono hD
theorem prnt_no {w w' : World} {r : Option Bs} (h : r = none) (hb : Below w.heap.size w w') : PrntP w r (.returned (.tuple #[.string ⟨#[]⟩,.int .i64 70])) w':=by
 rw [h]
 exact ⟨rfl,hb⟩
theorem bel_low {B : Nat} {w w' : World} (h : Below (B + 1) w w') : Below B w w':=h.mono (Nat.le_succ B)
theorem PrntP.two {w : World} {r : Option Bs} {e : Ending} {w' : World} (h : PrntP w r e w') : (e = .returned (.tuple #[.string ⟨#[]⟩,.int .i64 70]) ∧ Hid (r = none) ∧ Below w.heap.size w w') ∨ ∃ t : Bs,e = .returned (.tuple #[.string ⟨t.toArray⟩,.int .i64 0]) ∧ Hid (r = some t) ∧ Below w.heap.size w w':=by
 obtain ⟨h1,h2⟩:=h
 cases r with
 | none => exact Or.inl ⟨h1,rfl,h2⟩
 | some t => exact Or.inr ⟨t,h1,rfl,h2⟩
theorem PrntP.mk {w0 w w' : World} {r : Option Bs} {e : Ending} (h : PrntP w r e w') (hb : Below w0.heap.size w0 w) : PrntP w0 r e w':=⟨h.1,hb.trans (h.2.mono hb.size)⟩
theorem docW_ne {os : List Oq} {fs : List Fg} : ∀ us,docW os fs = some us → us ≠ []:=by
 intro us h e
 subst e
 obtain ⟨h0,h1⟩:=docW_row h
 cases hl : (os.map Sum.inl ++ fs.map Sum.inr : List (Oq ⊕ Fg)) with
 | nil => exact h0 hl
 | cons x xs =>
  rw [hl] at h1
  obtain ⟨a,b,h2,h3,h4⟩:=andW_some h1
  have ha : a = []:=(List.append_eq_nil_iff.1 h4.symm).1
  subst ha
  have:=item_first x [] [eofT 0] [eofT 0] h2 ⟨[],rfl,rfl⟩
  simp [isP] at this
theorem valW_ne (fx : Bool) : ∀ (v : Vl) us,valW fx v = some us → us ≠ []:=by
 intro v us h e
 subst e
 have h2:=val_first (l:=[⟨0,[9],0,0⟩]) (m:=[⟨0,[9],0,0⟩]) h ⟨[],rfl,rfl⟩
 have:=h2 [9] (by decide) (by decide) (by decide)
 simp [isP] at this
theorem small_of {V : Nat} {w : World} {us : List Bs} (h : Wk V w ([] ++ us)) (hn : us ≠ []) : (joinW us).length ≤ 16384:=by
 have h1 : szW us ≤ 16385:=h.few
 have:=joinW_len us hn
 omega
set_option maxRecDepth 100000 in
set_option maxHeartbeats 8000000 in
theorem print_any {w : World} (os : List Oq) (fs : List Fg) (p1 p2 : Option Addr) (n1 c1 n2 c2 : Nat) (hO : OsAt w (fun k => k < w.heap.size) (.slice p1 n1 c1) os) (hF : FsAt w (fun k => k < w.heap.size) (.slice p2 n2 c2) fs) (L : DcL os fs) (gl : Gl w) (tz : Tz w) : Calls Tryz.prog 9 #[.agg #[.slice p1 n1 c1,.slice p2 n2 c2]] w (PrntP w (takenP [] [] (docW os fs))):=by
 obtain ⟨w0,hw0⟩ : ∃ w0,w0 = preP w #[.slice p1 n1 c1,.slice p2 n2 c2] 25:=⟨_,rfl⟩
 obtain ⟨h0,p0,r0,b0⟩:=preP_facts (cs:=#[.slice p1 n1 c1,.slice p2 n2 c2]) (T:=25) gl tz
 rw [← hw0] at h0 p0 r0 b0
 have C0:=wdoc_any os fs _ _ h0 L (hO.up b0 fun k hk => Nat.lt_succ_of_lt hk) (hF.up b0 fun k hk => Nat.lt_succ_of_lt hk)
 obtain ⟨x0,x1,_⟩:=row2 p0
 obtain ⟨y0,y1,_⟩:=row2 r0
 have HN:=docW_ne (os:=os) (fs:=fs)
 have hw1 : w0 = ((w.alloc (.cells #[.slice p1 n1 c1,.slice p2 n2 c2] 25)).alloc (.cells #[.slice none 0 0,.int .i64 0] 54)).alloc (.cells #[putV (w.heap.size + 1),.bool false] 56):=hw0
 clear hw0
 have hz0 : w.heap.size + 1 ≤ w0.heap.size:=Nat.le_of_lt h0.lt
 go_enter Tryz.func9,Tryz.ntmps9
 go_wp2_with (first
  | (go_at_call 20;(with_reducible refine TK.mono ?_);rintro e w3 hP;have HP : Hid (PrntP w2 (takenP [] [] (some us)) e w3):=hP;rcases hP.two with ⟨rfl,_,_⟩ | ⟨t,rfl,_,_⟩)
  | (go_at_call 21;(with_reducible refine (rtext_any h1).mono ?_);rintro e w2 ⟨rfl,hb2⟩;have h2:=h1.on hb2;have TK:=taken_any [] [] us w2 h2.gl (by decide) (by decide) SM)
  | (go_at_call 19;rw [← hw1];(with_reducible refine C0.mono ?_);rintro e w1 (⟨hq,rfl,f1⟩ | ⟨us,hq,rfl,h1,f1⟩);(focus (go_wp2;go_ret2;exact prnt_no (printP_no HN hq) (b0.trans (bel_low (f1.below hz0)))));have SM:=small_of h1 (HN us hq.out))
  | fail)
 all_goals go_ret2
 all_goals
  have HB : Below w.heap.size w w2:=b0.trans ((bel_low (f1.below hz0)).trans (hb2.mono (Nat.le_trans b0.size f1.size)))
  have:=HP.out.mk HB
  rw [← hq.out] at this
  exact this
set_option maxRecDepth 100000 in
set_option maxHeartbeats 8000000 in
theorem value_of {w : World} (v : Vl) (k : Int) (t0 : ByteArray) (p1 p2 : Option Addr) (n1 c1 n2 c2 : Nat) (hB : Bts w (fun k => k < w.heap.size) (ctV v) [.int .i64 k,.string t0,.slice p1 n1 c1,.slice p2 n2 c2]) (L : VlL v) (gl : Gl w) (tz : Tz w) : Calls Tryz.prog 13 #[.agg #[.int .i64 k,.string t0,.slice p1 n1 c1,.slice p2 n2 c2]] w (PrntP w (takenP [123,32,97,32,40,32,98,32,58,32] [32,41,32,125] (valW false v))):=by
 obtain ⟨w0,hw0⟩ : ∃ w0,w0 = preP w #[.int .i64 k,.string t0,.slice p1 n1 c1,.slice p2 n2 c2] 35:=⟨_,rfl⟩
 obtain ⟨h0,p0,r0,b0⟩:=preP_facts (cs:=#[.int .i64 k,.string t0,.slice p1 n1 c1,.slice p2 n2 c2]) (T:=35) gl tz
 rw [← hw0] at h0 p0 r0 b0
 have C0:=wvalue_any false v L w0 [] _ h0 (hB.up b0 fun k hk => Nat.lt_succ_of_lt hk)
 obtain ⟨x0,x1,x2,x3,_⟩:=row4 p0
 obtain ⟨y0,y1,_⟩:=row2 r0
 have HN:=valW_ne false v
 have hw1 : w0 = ((w.alloc (.cells #[.int .i64 k,.string t0,.slice p1 n1 c1,.slice p2 n2 c2] 35)).alloc (.cells #[.slice none 0 0,.int .i64 0] 54)).alloc (.cells #[putV (w.heap.size + 1),.bool false] 56):=hw0
 clear hw0
 have hz0 : w.heap.size + 1 ≤ w0.heap.size:=Nat.le_of_lt h0.lt
 go_enter Tryz.func13,Tryz.ntmps13
 go_wp2_with (first
  | (go_at_call 20;(with_reducible refine TK.mono ?_);rintro e w3 hP;have HP : Hid (PrntP w2 (takenP [123,32,97,32,40,32,98,32,58,32] [32,41,32,125] (some us)) e w3):=hP;rcases hP.two with ⟨rfl,_,_⟩ | ⟨t,rfl,_,_⟩)
  | (go_at_call 21;(with_reducible refine (rtext_any h1).mono ?_);rintro e w2 ⟨rfl,hb2⟩;have h2:=h1.on hb2;have TK:=taken_any [123,32,97,32,40,32,98,32,58,32] [32,41,32,125] us w2 h2.gl (by decide) (by decide) SM)
  | (go_at_call 29;rw [← hw1];(with_reducible refine C0.mono ?_);rintro e w1 (⟨hq,rfl,f1⟩ | ⟨us,hq,rfl,h1,f1⟩);(focus (go_wp2;go_ret2;exact prnt_no (printP_no HN hq) (b0.trans (bel_low (f1.below hz0)))));have SM:=small_of h1 (HN us hq.out))
  | fail)
 all_goals go_ret2
 all_goals
  have HB : Below w.heap.size w w2:=b0.trans ((bel_low (f1.below hz0)).trans (hb2.mono (Nat.le_trans b0.size f1.size)))
  have:=HP.out.mk HB
  rw [← hq.out] at this
  exact this
theorem value_any {w : World} (v : Vl) (us : List Value) (hB : Bts w (fun k => k < w.heap.size) (ctV v) us) (L : VlL v) (gl : Gl w) (tz : Tz w) : Calls Tryz.prog 13 #[.agg us.toArray] w (PrntP w (valueP v)):=by
 obtain ⟨z0,s1,a2,n2,m2,a3,n3,m3,rfl⟩:=cells_Value hB
 exact value_of v z0 s1 a2 a3 n2 m2 n3 m3 hB L gl tz
set_option maxRecDepth 100000 in
set_option maxHeartbeats 4000000 in
theorem check_any {w : World} (os : List Oq) (fs : List Fg) (p1 p2 : Option Addr) (n1 c1 n2 c2 : Nat) (hO : OsAt w (fun k => k < w.heap.size) (.slice p1 n1 c1) os) (hF : FsAt w (fun k => k < w.heap.size) (.slice p2 n2 c2) fs) (L : DcL os fs) (gl : Gl w) (tz : Tz w) : Calls Tryz.prog 12 #[.agg #[.slice p1 n1 c1,.slice p2 n2 c2]] w fun e w' => e = .returned (.int .i64 (if (printP os fs).isSome then 0 else 70)) ∧ Below w.heap.size w w':=by
 have b0:=al1 w (.cells #[.slice p1 n1 c1,.slice p2 n2 c2] 25)
 have P:=print_any (w:=w.alloc (.cells #[.slice p1 n1 c1,.slice p2 n2 c2] 25)) os fs p1 p2 n1 c1 n2 c2 (hO.up b0 fun k hk => Nat.lt_of_lt_of_le hk b0.size) (hF.up b0 fun k hk => Nat.lt_of_lt_of_le hk b0.size) L (gl.below b0 (Nat.le_refl _)) (tz.below b0 (Nat.le_refl _))
 have e : takenP [] [] (docW os fs) = printP os fs:=rfl
 rw [e] at P
 cases hp : printP os fs with
 | none =>
  rw [hp] at P
  go_enter Tryz.func12,Tryz.ntmps12
  go_wp2_with (first
   | (go_at_call 9;(with_reducible refine P.mono ?_);rintro e w3 ⟨rfl,hb⟩)
   | fail)
  go_ret
  exact ⟨rfl,b0.trans (hb.mono b0.size)⟩
 | some t =>
  rw [hp] at P
  go_enter Tryz.func12,Tryz.ntmps12
  go_wp2_with (first
   | (go_at_call 9;(with_reducible refine P.mono ?_);rintro e w3 ⟨rfl,hb⟩)
   | fail)
  go_ret
  exact ⟨rfl,b0.trans (hb.mono b0.size)⟩
end Go.Proofs.YtgmlbjfgfmfliaaGreatDoor
namespace Go.Proofs.YtgmlbjfgfmfliaaGreatDoor
open Go Go.RowKit Go.Shelf
def fxS : Bs:=[113,117,101,114,121,123,97,58,98,40,99,58,49,44,100,58,34,195,169,92,110,34,41,44,46,46,46,101,125]
def fxO : List Oq:=[⟨0,[],[],[],[.mk 0 [97] [98] [] [⟨[99],.mk 4 [49] [] []⟩,⟨[100],.mk 6 [195,169,10] [] []⟩] [] [],.mk 1 [] [101] [] [] [] []]⟩]
def fxU : List Bs:=[[123],[97],[58],[98],[40],[99],[58],[49],[100],[58],[34,195,169,92,117,48,48,48,97,34],[41],[46,46,46],[101],[125]]
def fxV : Vl:=.mk 8 [] [.mk 3 [120] [] [],.mk 0 [] [] []] []
def fxE : Vl:=.mk 7 [116,114,117,101] [] []
theorem fx_parse : parseS fxS = .ok (ctDoc fxO []):=by kernel_rfl
theorem fx_doc : docW fxO [] = some fxU:=by kernel_rfl
theorem fx_print : printP fxO [] = some (joinW fxU):=printP_some.2 ⟨fxU,fx_doc,⟨by decide,by decide⟩,by kernel_rfl,rfl⟩
theorem fx_value : valueP fxV = some [91,32,36,32,120,32,110,117,108,108,32,93]:=by kernel_rfl
theorem fx_enum : valueP fxE = none:=by kernel_rfl
theorem fx_none : printP [] [] = none:=rfl
theorem fx_small : DcL fxO []:=by
 refine ⟨by decide,by decide,fun x hx => ?_,fun x hx => by cases hx⟩
 simp only [fxO,List.mem_singleton] at hx
 subst hx
 simp [OqL,DrsL,SeRL,SeL,ArsL,ArL,VlL,VlsL,SesL,rwM,txM]
theorem fx_smallV : VlL fxV:=by simp [fxV,VlL,VlsL,rwM,txM]
theorem fx_smallE : VlL fxE:=by simp [fxE,VlL,VlsL,rwM,txM]
theorem none_at {α : Type} (w : World) (D : Nat → Prop) (E sz : Nat) (ct : α → List CT) (c : Nat) (a : Option Addr) : Bt w D (rowC E sz (([] : List α).map ct)) (.slice a 0 c):=.row (b:=0) (o:=0) (fun _ => .bool true) (Nat.zero_le _) (by simp) (fun h => absurd rfl h) (fun j hj => by simp at hj) (fun j y h => by simp at h)
theorem doc_at {w : World} {lo : Nat} {os : List Oq} {fs : List Fg} {v : Value} (h : DocV lo (ctDoc os fs) v w) : ∃ (o1 : Option Addr) (n1 z1 : Nat) (o2 : Option Addr) (n2 z2 : Nat),v = .agg #[.slice o1 n1 z1,.slice o2 n2 z2] ∧ OsAt w (fun k => k < w.heap.size) (.slice o1 n1 z1) os ∧ FsAt w (fun k => k < w.heap.size) (.slice o2 n2 z2) fs:=by
 obtain ⟨o1,n1,z1,o2,n2,z2,rfl,ha⟩:=h
 obtain ⟨_,_,e,h1,g⟩:=Bts.inv ha.bts
 obtain ⟨_,_,e2,h2,_⟩:=Bts.inv g
 cases e
 cases e2
 exact ⟨o1,n1,z1,o2,n2,z2,rfl,h1.mono fun k hk => hk.2,h2.mono fun k hk => hk.2⟩
/-- What a call leaves for the next one. -/
structure Ok7 (w0 w : World) : Prop where
 bel : Below w0.heap.size w0 w
 gl : Gl w
 tz : Tz w
theorem Ok7.next {w0 w w' : World} (h : Ok7 w0 w) (hb : Below w.heap.size w w') : Ok7 w0 w':=⟨h.bel.trans (hb.mono h.bel.size),h.gl.below hb (Nat.le_refl _),h.tz.below hb (Nat.le_refl _)⟩
theorem Ok7.alloc {w0 w : World} (h : Ok7 w0 w) (o : Obj) : Ok7 w0 (w.alloc o):=h.next (al1 w o)
theorem Bt.next {w w' : World} {y : CT} {v : Value} (h : Bt w (fun k => k < w.heap.size) y v) (hb : Below w.heap.size w w') : Bt w' (fun k => k < w'.heap.size) y v:=Bt.up h hb fun _ hk => Nat.lt_of_lt_of_le hk hb.size
theorem OsAt.next {w w' : World} {v : Value} {l : List Oq} (h : OsAt w (fun k => k < w.heap.size) v l) (hb : Below w.heap.size w w') : OsAt w' (fun k => k < w'.heap.size) v l:=Bt.up h hb fun _ hk => Nat.lt_of_lt_of_le hk hb.size
theorem FsAt.next {w w' : World} {v : Value} {l : List Fg} (h : FsAt w (fun k => k < w.heap.size) v l) (hb : Below w.heap.size w w') : FsAt w' (fun k => k < w'.heap.size) v l:=Bt.up h hb fun _ hk => Nat.lt_of_lt_of_le hk hb.size
theorem fxp1 {w : World} (gl : Gl w) : Calls Tryz.prog 15 #[.string ⟨#[113,117,101,114,121,123,97,58,98,40,99,58,49,44,100,58,34,195,169,92,110,34,41,44,46,46,46,101,125]⟩] w fun e w' => ∃ (o1 : Option Addr) (n1 z1 : Nat) (o2 : Option Addr) (n2 z2 : Nat),e = .returned (.tuple #[.agg #[.slice o1 n1 z1,.slice o2 n2 z2],.int .i64 0,.int .i64 0]) ∧ Hid (OsAt w' (fun k => k < w'.heap.size) (.slice o1 n1 z1) fxO) ∧ Hid (FsAt w' (fun k => k < w'.heap.size) (.slice o2 n2 z2) []) ∧ Below w.heap.size w w':=by
 have P:=parse_any fxS w gl
 rw [fx_parse] at P
 refine P.mono ?_
 rintro e w' ⟨⟨v,rfl,hd⟩,hb⟩
 obtain ⟨o1,n1,z1,o2,n2,z2,rfl,hO,hF⟩:=doc_at hd
 exact ⟨o1,n1,z1,o2,n2,z2,rfl,hO,hF,hb⟩
theorem fxp2 {w : World} {o1 : Option Addr} {n1 z1 : Nat} {o2 : Option Addr} {n2 z2 : Nat} (hO : OsAt w (fun k => k < w.heap.size) (.slice o1 n1 z1) fxO) (hF : FsAt w (fun k => k < w.heap.size) (.slice o2 n2 z2) []) (gl : Gl w) (tz : Tz w) : Calls Tryz.prog 9 #[.agg #[.slice o1 n1 z1,.slice o2 n2 z2]] w fun e w' => e = .returned (.tuple #[.string ⟨#[123,32,97,32,58,32,98,32,40,32,99,32,58,32,49,32,100,32,58,32,34,195,169,92,117,48,48,48,97,34,32,41,32,46,46,46,32,101,32,125]⟩,.int .i64 0]) ∧ Below w.heap.size w w':=by
 have P:=print_any fxO [] o1 o2 n1 z1 n2 z2 hO hF fx_small gl tz
 rw [show takenP [] [] (docW fxO []) = some (joinW fxU) from fx_print] at P
 exact P
theorem fxp3 {w : World} (gl : Gl w) (tz : Tz w) : Calls Tryz.prog 9 #[.agg #[.slice none 0 0,.slice none 0 0]] w fun e w' => e = .returned (.tuple #[.string ⟨#[]⟩,.int .i64 70]) ∧ Below w.heap.size w w':=by
 have P:=print_any (w:=w) [] [] none none 0 0 0 0 (none_at ..) (none_at ..) ⟨by decide,by decide,fun x hx => (by cases hx),fun x hx => (by cases hx)⟩ gl tz
 rw [show takenP [] [] (docW [] []) = none from fx_none] at P
 exact P
theorem fxp4 {w : World} (g : Nat) (hg : w.heap[g]? = some (.cells #[.int .i64 3,.string ⟨#[120]⟩,.slice none 0 0,.slice none 0 0,.int .i64 0,.string ⟨#[]⟩,.slice none 0 0,.slice none 0 0] 35 (0,0))) (gl : Gl w) (tz : Tz w) : Calls Tryz.prog 13 #[.agg #[.int .i64 8,.string ⟨#[]⟩,.slice (some ⟨g,0,none⟩) 2 2,.slice none 0 0]] w fun e w' => e = .returned (.tuple #[.string ⟨#[91,32,36,32,120,32,110,117,108,108,32,93]⟩,.int .i64 0]) ∧ Below w.heap.size w w':=by
 have hgl:=lt_of_block hg
 have hN : ∀ c a,Bt w (fun k => k < w.heap.size) (rowC 9 1 (([] : List Bs).map fun s => [sC s])) (.slice a 0 c):=fun c a => none_at ..
 have hV : ∀ c a,Bt w (fun k => k < w.heap.size) (rowC 35 4 (([] : List Vl).map ctV)) (.slice a 0 c):=fun c a => none_at ..
 have hR : VsAt w (fun k => k < w.heap.size) (.slice (some ⟨g,0,none⟩) 2 2) [.mk 3 [120] [] [],.mk 0 [] [] []]:=by
  have leaf : ∀ (k : Int) (t : Bs),ctV (.mk k t [] []) = [iC k,sC t,rowC 35 4 (([] : List Vl).map ctV),rowC 9 1 (([] : List Bs).map fun s => [sC s])]:=fun k t => by rw [ctV,ctVs_map]
  refine .row (b:=g) (o:=0) (fun j => (#[.int .i64 3,.string ⟨#[120]⟩,.slice none 0 0,.slice none 0 0,.int .i64 0,.string ⟨#[]⟩,.slice none 0 0,.slice none 0 0] : Array Value).getD j (.bool true)) (Nat.le_refl _) (by simp [leaf]) (fun _ => ⟨rfl,hgl⟩) (fun j hj => ?_) (fun j y hy => ?_)
  ·unfold World.cell?
   rw [hg]
   have hj8 : j < 8:=by simpa using hj
   simp [hj8]
  ·simp only [List.map_cons,List.map_nil,leaf,List.flatten_cons,List.flatten_nil,List.append_nil,List.cons_append,List.nil_append] at hy
   match j,hy with
   | 0,hy => cases hy;exact .lf _
   | 1,hy => cases hy;exact .lf _
   | 2,hy => cases hy;exact hV _ _
   | 3,hy => cases hy;exact hN _ _
   | 4,hy => cases hy;exact .lf _
   | 5,hy => cases hy;exact .lf _
   | 6,hy => cases hy;exact hV _ _
   | 7,hy => cases hy;exact hN _ _
   | _ + 8,hy => simp at hy
 have P:=value_any fxV [.int .i64 8,.string ⟨#[]⟩,.slice (some ⟨g,0,none⟩) 2 2,.slice none 0 0] (by
  unfold fxV
  rw [ctV,ctVs_map]
  exact Bts.cons (.lf _) (Bts.cons (.lf _) (Bts.cons hR (Bts.cons (hN _ _) Bts.nil)))) fx_smallV gl tz
 rw [fx_value] at P
 exact P
theorem fxp5 {w : World} (gl : Gl w) (tz : Tz w) : Calls Tryz.prog 13 #[.agg #[.int .i64 7,.string ⟨#[116,114,117,101]⟩,.slice none 0 0,.slice none 0 0]] w fun e w' => e = .returned (.tuple #[.string ⟨#[]⟩,.int .i64 70]) ∧ Below w.heap.size w w':=by
 have P:=value_any (w:=w) fxE [.int .i64 7,.string ⟨#[116,114,117,101]⟩,.slice none 0 0,.slice none 0 0] (by
  unfold fxE
  rw [ctV,ctVs_map]
  exact Bts.cons (.lf _) (Bts.cons (.lf _) (Bts.cons (none_at ..) (Bts.cons (none_at ..) Bts.nil)))) fx_smallE gl tz
 rw [fx_enum] at P
 exact P
theorem fxp6 {w : World} {o1 : Option Addr} {n1 z1 : Nat} {o2 : Option Addr} {n2 z2 : Nat} (hO : OsAt w (fun k => k < w.heap.size) (.slice o1 n1 z1) fxO) (hF : FsAt w (fun k => k < w.heap.size) (.slice o2 n2 z2) []) (gl : Gl w) (tz : Tz w) : Calls Tryz.prog 12 #[.agg #[.slice o1 n1 z1,.slice o2 n2 z2]] w fun e w' => e = .returned (.int .i64 0) ∧ Below w.heap.size w w':=by
 have P:=check_any fxO [] o1 o2 n1 z1 n2 z2 hO hF fx_small gl tz
 rw [fx_print] at P
 exact P
set_option maxRecDepth 100000 in
set_option maxHeartbeats 8000000 in
theorem fixed_any (w : World) (gl : Gl w) (tz : Tz w) : Calls Tryz.prog 11 #[] w fun e w' => e = .returned (.bool true) ∧ Below w.heap.size w w':=by
 have ok : Ok7 w w:=⟨Below.refl _ _,gl,tz⟩
 clear gl tz
 go_enter Tryz.func11,Tryz.ntmps11
 go_wp2_with (first
  | (go_at_call 12;(with_reducible refine (fxp6 HO5.out HF5.out ok5.gl ok5.tz).mono ?_);rintro e w6 ⟨rfl,b6⟩;have ok6:=ok5.next b6)
  | (go_at_call 13;(with_reducible refine (fxp5 ok4.gl ok4.tz).mono ?_);rintro e w5 ⟨rfl,b5⟩;have ok5:=ok4.next b5;have HO5 : Hid _:=HO4.out.next b5;have HF5 : Hid _:=HF4.out.next b5;have x5:=cell_on b5 x4;have y5:=cell_on b5 y4)
  | (go_at_call 13;(with_reducible refine (fxp4 (w:=w3.alloc (.cells #[.int .i64 3,.string ⟨#[120]⟩,.slice none 0 0,.slice none 0 0,.int .i64 0,.string ⟨#[]⟩,.slice none 0 0,.slice none 0 0] 35)) w3.heap.size (heap_alloc_new w3 (.cells #[.int .i64 3,.string ⟨#[120]⟩,.slice none 0 0,.slice none 0 0,.int .i64 0,.string ⟨#[]⟩,.slice none 0 0,.slice none 0 0] 35)) (ok3.alloc (.cells #[.int .i64 3,.string ⟨#[120]⟩,.slice none 0 0,.slice none 0 0,.int .i64 0,.string ⟨#[]⟩,.slice none 0 0,.slice none 0 0] 35)).gl (ok3.alloc (.cells #[.int .i64 3,.string ⟨#[120]⟩,.slice none 0 0,.slice none 0 0,.int .i64 0,.string ⟨#[]⟩,.slice none 0 0,.slice none 0 0] 35)).tz).mono ?_);rintro e w4 ⟨rfl,b4⟩;have ok4:=(ok3.alloc (.cells #[.int .i64 3,.string ⟨#[120]⟩,.slice none 0 0,.slice none 0 0,.int .i64 0,.string ⟨#[]⟩,.slice none 0 0,.slice none 0 0] 35)).next b4;have HO4 : Hid _:=(HO3.out.next (al1 w3 (.cells #[.int .i64 3,.string ⟨#[120]⟩,.slice none 0 0,.slice none 0 0,.int .i64 0,.string ⟨#[]⟩,.slice none 0 0,.slice none 0 0] 35))).next b4;have HF4 : Hid _:=(HF3.out.next (al1 w3 (.cells #[.int .i64 3,.string ⟨#[120]⟩,.slice none 0 0,.slice none 0 0,.int .i64 0,.string ⟨#[]⟩,.slice none 0 0,.slice none 0 0] 35))).next b4;have x4:=cell_on b4 (cell_on (al1 w3 (.cells #[.int .i64 3,.string ⟨#[120]⟩,.slice none 0 0,.slice none 0 0,.int .i64 0,.string ⟨#[]⟩,.slice none 0 0,.slice none 0 0] 35)) x3);have y4:=cell_on b4 (cell_on (al1 w3 (.cells #[.int .i64 3,.string ⟨#[120]⟩,.slice none 0 0,.slice none 0 0,.int .i64 0,.string ⟨#[]⟩,.slice none 0 0,.slice none 0 0] 35)) y3))
  | (go_at_call 9;(with_reducible refine (fxp3 ok2.gl ok2.tz).mono ?_);rintro e w3 ⟨rfl,b3⟩;have ok3:=ok2.next b3;have HO3 : Hid _:=HO2.out.next b3;have HF3 : Hid _:=HF2.out.next b3;have x3:=cell_on b3 x2;have y3:=cell_on b3 y2)
  | (go_at_call 9;(with_reducible refine (fxp2 (w:=w1.alloc (.cells #[.slice o1 n1 z1,.slice o2 n2 z2] 25)) (HO1.out.next (al1 w1 (.cells #[.slice o1 n1 z1,.slice o2 n2 z2] 25))) (HF1.out.next (al1 w1 (.cells #[.slice o1 n1 z1,.slice o2 n2 z2] 25))) (ok1.alloc (.cells #[.slice o1 n1 z1,.slice o2 n2 z2] 25)).gl (ok1.alloc (.cells #[.slice o1 n1 z1,.slice o2 n2 z2] 25)).tz).mono ?_);rintro e w2 ⟨rfl,b2⟩;have ok2:=(ok1.alloc (.cells #[.slice o1 n1 z1,.slice o2 n2 z2] 25)).next b2;have HO2 : Hid _:=(HO1.out.next (al1 w1 (.cells #[.slice o1 n1 z1,.slice o2 n2 z2] 25))).next b2;have HF2 : Hid _:=(HF1.out.next (al1 w1 (.cells #[.slice o1 n1 z1,.slice o2 n2 z2] 25))).next b2;obtain ⟨x1,y1,_⟩:=row2 (heap_alloc_new w1 (.cells #[.slice o1 n1 z1,.slice o2 n2 z2] 25));have x2:=cell_on b2 x1;have y2:=cell_on b2 y1)
  | (go_at_call 15;(with_reducible refine (fxp1 ok.gl).mono ?_);rintro e w1 ⟨o1,n1,z1,o2,n2,z2,rfl,HO1,HF1,b1⟩;have ok1:=ok.next b1)
  | fail)
 go_ret
 exact ⟨rfl,ok6.bel⟩
end Go.Proofs.YtgmlbjfgfmfliaaGreatDoor
