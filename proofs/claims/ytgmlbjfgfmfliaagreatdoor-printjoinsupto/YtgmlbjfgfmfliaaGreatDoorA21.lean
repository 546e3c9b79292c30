/- Documents written: each piece is one token; what is small and good is read back. -/
import Derived.Test.YtgmlbjfgfmfliaaGreatDoorA20
namespace Go.Proofs.YtgmlbjfgfmfliaaGreatDoor
open Go Go.RowKit
def Vl.k : Vl → Int | .mk k _ _ _ => k
def Vl.t : Vl → Bs | .mk _ t _ _ => t
def Vl.vs : Vl → List Vl | .mk _ _ vs _ => vs
def Vl.ns : Vl → List Bs | .mk _ _ _ ns => ns
def Se.az : Se → List Ar | .mk _ _ _ _ az _ _ => az
def Se.ds : Se → List Dr | .mk _ _ _ _ _ ds _ => ds
def Se.ss : Se → List Se | .mk _ _ _ _ _ _ ss => ss
/-- What is read: this, if it is good. -/
def Bk {β : Type} (g : Bool) (r : Rs β) (b : β) (m : List Tok) : Prop:=if g = true then r = .ok (b,m) else ∃ p,r = .error p
theorem Bk.ok {β : Type} {b : β} {m : List Tok} : Bk true (.ok (b,m)) b m:=rfl
theorem Bk.yes {β : Type} {g : Bool} {r : Rs β} {b : β} {m : List Tok} (h : Bk g r b m) (hg : g = true) : r = .ok (b,m):=by
 unfold Bk at h
 rw [if_pos hg] at h
 exact h
theorem Bk.no {β : Type} {g : Bool} {r : Rs β} {b : β} {m : List Tok} (h : Bk g r b m) (hg : g = false) : ∃ p,r = .error p:=by
 unfold Bk at h
 rw [if_neg (by rw [hg];simp)] at h
 exact h
theorem Bk.eq {β : Type} {g g' : Bool} {r : Rs β} {b : β} {m : List Tok} (h : g = g') (h2 : Bk g' r b m) : Bk g r b m:=by rw [h];exact h2
theorem bk_error {β : Type} {p : Nat × Int} {b : β} {m : List Tok} : Bk false (.error p) b m:=⟨p,rfl⟩
theorem Bk.go {α β : Type} {g1 g2 : Bool} {r : Rs α} {f : α → List Tok → Rs β} {a : α} {b : β} {l1 m : List Tok} (h : Bk g1 r a l1) (h2 : Bk g2 (f a l1) b m) : Bk (g1 && g2) (r.go f) b m:=by
 cases hg : g1 with
 | true => rw [h.yes hg,go_ok,Bool.true_and];exact h2
 | false =>
  obtain ⟨p,e⟩:=h.no hg
  rw [e,go_error]
  exact bk_error
theorem bk_go {α β : Type} {g : Bool} {r : Rs α} {f : α → List Tok → Rs β} {a : α} {b : β} {l1 m : List Tok} (h : r = .ok (a,l1)) (h2 : Bk g (f a l1) b m) : Bk g (r.go f) b m:=by rw [h,go_ok];exact h2
theorem Bk.end {α β : Type} {g : Bool} {r : Rs α} {f : α → List Tok → Rs β} {a : α} {b : β} {l1 m : List Tok} (h : Bk g r a l1) (h2 : f a l1 = .ok (b,m)) : Bk g (r.go f) b m:=by
 have:=h.go (f:=f) (g2:=true) (b:=b) (m:=m) (by rw [h2];exact Bk.ok)
 rwa [Bool.and_true] at this
theorem anyS_pos {α : Type} {f : List Tok → Rs α} (hf : Eats f) {last : Bs} {l : List Tok} (h : isP last l = true) : anyS f last l = .ok ([],l.tail):=by rw [anyS_eq hf,h];rfl
theorem anyS_neg {α : Type} {f : List Tok → Rs α} (hf : Eats f) {last : Bs} {l : List Tok} (h : isP last l = false) : anyS f last l = (f l).go fun a l1 => (anyS f last l1).go fun b l2 => .ok (a :: b,l2):=by
 rw [anyS_eq hf,h];rfl
/-- One of these is written, and read back; nx: what may come behind it, and what each of them is itself. -/
structure BackE {α β : Type} (nx : List Tok → Prop) (wr : α → Option (List Bs)) (ct : α → β) (rd : List Tok → Rs β) (good : α → Bool) : Prop where
 eats : Eats rd
 step : ∀ x us l m,wr x = some us → Sy us l m → nx m → Bk (good x) (rd l) (ct x) m
 first : ∀ x us l m,wr x = some us → Sy us l m → nx l
theorem back_any {α β : Type} {nx : List Tok → Prop} {wr : α → Option (List Bs)} {ct : α → β} {rd : List Tok → Rs β} {good : α → Bool} (B : BackE nx wr ct rd good) {last : Bs} {z : Tok} {m : List Tok} (hz : isP last (z :: m) = true) (hn : nx (z :: m)) (hx : ∀ x us l m,wr x = some us → Sy us l m → isP last l = false) : ∀ (xs : List α) (us : List Bs) (l : List Tok),rowW wr xs = some us → Sy us l (z :: m) → Bk (xs.all good) (anyS rd last l) (xs.map ct) m
 | [],us,l,h,hs => by
  cases h
  have:=hs.nil
  subst this
  rw [anyS_pos B.eats hz]
  exact Bk.ok
 | x :: xs,us,l,h,hs => by
  obtain ⟨a,b,h1,h2,rfl⟩:=andW_some h
  obtain ⟨r,s1,s2⟩:=hs.app
  have hl:=hx _ _ _ _ h1 s1
  have nr : nx r:=by
   cases xs with
   | nil =>
    cases h2
    have:=s2.nil
    subst this
    exact hn
   | cons y ys =>
    obtain ⟨a',b',h3,h4,rfl⟩:=andW_some h2
    obtain ⟨r',s3,s4⟩:=s2.app
    exact B.first _ _ _ _ h3 s3
  rw [anyS_neg B.eats hl,List.all_cons]
  exact (B.step _ _ _ _ h1 s1 nr).go ((back_any B hz hn hx xs b r h2 s2).end rfl)
theorem back_some {α β : Type} {nx : List Tok → Prop} {wr : α → Option (List Bs)} {ct : α → β} {rd : List Tok → Rs β} {good : α → Bool} (B : BackE nx wr ct rd good) {last : Bs} {z : Tok} {m : List Tok} (hz : isP last (z :: m) = true) (hn : nx (z :: m)) (hx : ∀ x us l m,wr x = some us → Sy us l m → isP last l = false) (xs : List α) (h0 : xs ≠ []) (us : List Bs) (l : List Tok) (h : rowW wr xs = some us) (hs : Sy us l (z :: m)) : Bk (xs.all good) (someS rd last l) (xs.map ct) m:=by
 cases xs with
 | nil => exact absurd rfl h0
 | cons x xs =>
  have A:=back_any B hz hn hx (x :: xs) us l h hs
  obtain ⟨a,b,h1,h2,rfl⟩:=andW_some h
  obtain ⟨r,s1,s2⟩:=hs.app
  rw [anyS_neg B.eats (hx _ _ _ _ h1 s1)] at A
  exact A
/-- The same between two signs. -/
theorem back_in {α β : Type} {nx : List Tok → Prop} {wr : α → Option (List Bs)} {ct : α → β} {rd : List Tok → Rs β} {good : α → Bool} (B : BackE nx wr ct rd good) {c d : Bs} (hc : kt c = (0,c)) (hd : kt d = (0,d)) (hn : ∀ l,(∀ s,isP s l = (d == s)) → (∀ s,isW s l = false) → nx l) (hx : ∀ x us l m,wr x = some us → Sy us l m → isP d l = false) (xs : List α) (us : List Bs) (l m : List Tok) (h : inW c (rowW wr xs) d = some us) (hs : Sy us l m) : (∀ s,isP s l = (c == s)) ∧ (∀ s,isW s l = false) ∧ (∀ k,isK k l = (0 == k)) ∧ Bk (xs.all good) (anyS rd d l.tail) (xs.map ct) m ∧ (xs ≠ [] → Bk (xs.all good) (someS rd d l.tail) (xs.map ct) m):=by
 obtain ⟨a,b,h1,h2,rfl⟩:=andW_some h
 cases h1
 obtain ⟨a,b',h1,h3,rfl⟩:=andW_some h2
 cases h3
 obtain ⟨r,_,rfl,s1,p1,p2,p3⟩:=back_sign (us:=a ++ [d]) hc hs
 obtain ⟨r2,s2,s3⟩:=s1.app
 obtain ⟨r3,_,q2,s4,q3,q4,_⟩:=back_sign hd s3
 have:=s4.nil
 subst this
 obtain ⟨z,r4,rfl,_⟩:=s3.one
 have e : r4 = r3:=q2
 subst e
 have hz : isP d (z :: r4) = true:=by rw [q3];simp
 exact ⟨p1,p2,p3,back_any B hz (hn _ q3 q4) hx xs a _ h1 s2,fun h0 => back_some B hz (hn _ q3 q4) hx xs h0 a _ h1 s2⟩
theorem back_led {α β : Type} {nx : List Tok → Prop} {wr : α → Option (List Bs)} {ct : α → β} {rd : List Tok → Rs β} {good : α → Bool} {fst : Bs} (hk : Keeps rd) (hf : kt fst = (0,fst)) (hn : ∀ l,(∀ s,isP s l = (fst == s)) → nx l) (step : ∀ x us l m,wr x = some us → Sy us l m → nx m → Bk (good x) (rd l) (ct x) m) : ∀ (xs : List α) (us : List Bs) (l m : List Tok),rowW (fun x => andW (some [fst]) (wr x)) xs = some us → Sy us l m → nx m → isP fst m = false → Bk (xs.all good) (ledS rd fst l) (xs.map ct) m
 | [],us,l,m,h,hs,_,hm => by
  cases h
  have:=hs.nil
  subst this
  rw [ledS_eq hk,if_neg (by rw [hm];simp)]
  exact Bk.ok
 | x :: xs,us,l,m,h,hs,hx,hm => by
  obtain ⟨a,b,h1,h2,rfl⟩:=andW_some h
  obtain ⟨a1,a2,g1,g2,rfl⟩:=andW_some h1
  cases g1
  obtain ⟨r0,s1,s2⟩:=hs.app
  obtain ⟨r,_,rfl,s3,p1,_,_⟩:=back_sign hf s1
  have nr : nx r0:=by
   cases xs with
   | nil =>
    cases h2
    have:=s2.nil
    subst this
    exact hx
   | cons y ys =>
    obtain ⟨a',b',h3,h4,rfl⟩:=andW_some h2
    obtain ⟨a3,a4,g3,g4,rfl⟩:=andW_some h3
    cases g3
    obtain ⟨r',s4,s5⟩:=s2.app
    obtain ⟨_,_,_,_,q1,_,_⟩:=back_sign hf s4
    exact hn _ q1
  rw [ledS_eq hk,if_pos (by rw [p1];simp),List.all_cons]
  exact (step _ _ _ _ g2 s3 nr).go ((back_led hk hf hn step xs b r0 m h2 s2 hx hm).end rfl)
/-! ### Values -/
def goodV : Nat → Vl → Bool
 | 0,v => !(v.k == 8 || v.k == 9)
 | n + 1,v => !(v.k == 8 || v.k == 9) || v.vs.all (goodV n)
theorem kw_null : kt nullB = (1,nullB):=by rfl
theorem kw_false : kt falseB = (1,falseB):=by rfl
theorem kw_true : kt trueB = (1,trueB):=by rfl
theorem kw_on : kt onB = (1,onB):=by rfl
theorem kw_frag : kt fragB = (1,fragB):=by rfl
theorem sg (c : UInt8) (h : punL.contains c = true) : kt [c] = (0,[c]):=(okU_sign h).2
/-- A value begins so: no sign but its own. -/
def NxV (l : List Tok) : Prop:=∀ s,s ≠ [91] → s ≠ [123] → s ≠ [36] → isP s l = false
theorem nxv_sign {l : List Tok} {c : Bs} (hc : c = [91] ∨ c = [123] ∨ c = [36]) (h : ∀ s,isP s l = (c == s)) : NxV l:=fun s h1 h2 h3 => by
 rw [h]
 rcases hc with rfl | rfl | rfl
 ·simpa using fun e => h1 e.symm
 ·simpa using fun e => h2 e.symm
 ·simpa using fun e => h3 e.symm
theorem back_var {t : Bs} {us : List Bs} {l m : List Tok} (h : varW t = some us) (hs : Sy us l m) : varS l = .ok (t,m) ∧ (∀ s,isP s l = ([36] == s)) ∧ (∀ k,isK k l = (0 == k)):=by
 obtain ⟨a,b,h1,h2,rfl⟩:=andW_some h
 cases h1
 obtain ⟨r,e1,_,s1,p1,_,p3⟩:=back_sign (sg 36 rfl) hs
 obtain ⟨e2,_⟩:=back_name h2 s1
 refine ⟨?_,p1,p3⟩
 unfold varS
 rw [e1,go_ok,e2]
theorem back_leaf (fx : Bool) (inner : Option (List Tok → Rs (List CT))) {k : Int} {t : Bs} {us : List Bs} {l m : List Tok} (h : leafW fx k t = some us) (hs : Sy us l m) : valG fx inner l = .ok (valC k t [] [],m) ∧ NxV l:=by
 have nm : ∀ u,us = [u] → kt u = (1,u) → namedC u = valC k t [] [] → valG fx inner l = .ok (valC k t [] [],m) ∧ NxV l:=by
  rintro u rfl hu hc
  obtain ⟨s1,e1,e2,e3⟩:=back_tok hu hs
  have e:=s1.nil
  refine ⟨?_,fun s _ _ _ => e3 (by decide) s⟩
  unfold valG
  rw [if_pos (by rw [e2];rfl),e1,hc,e]
 have ot : ∀ u q,us = [u] → kt u = (q,t) → (q = 2 ∧ k = 4 ∨ q = 3 ∧ k = 5 ∨ q = 4 ∧ k = 6) → valG fx inner l = .ok (valC k t [] [],m) ∧ NxV l:=by
  rintro u q rfl hu hq
  obtain ⟨s1,e1,e2,e3⟩:=back_tok hu hs
  have e:=s1.nil
  refine ⟨?_,fun s _ _ _ => e3 (by rcases hq with ⟨rfl,_⟩ | ⟨rfl,_⟩ | ⟨rfl,_⟩ <;> decide) s⟩
  unfold valG
  rcases hq with ⟨rfl,rfl⟩ | ⟨rfl,rfl⟩ | ⟨rfl,rfl⟩
  ·rw [if_neg (by rw [e2];decide),if_pos (by rw [e2];rfl),e1,e]
  ·rw [if_neg (by rw [e2];decide),if_neg (by rw [e2];decide),if_pos (by rw [e2];rfl),e1,e]
  ·rw [if_neg (by rw [e2];decide),if_neg (by rw [e2];decide),if_neg (by rw [e2];decide),if_pos (by rw [e2];rfl),e1,e]
 unfold leafW at h
 split at h
 ·rename_i hk
  split at h
  ·rename_i ht
   cases h
   exact nm _ rfl kw_null (by rw [hk,ht];rfl)
  ·cases h
 split at h
 ·rename_i hk
  split at h
  ·rename_i ht
   cases h
   exact nm _ rfl kw_false (by rw [hk,ht];rfl)
  ·cases h
 split at h
 ·rename_i hk
  split at h
  ·rename_i ht
   cases h
   exact nm _ rfl kw_true (by rw [hk,ht];rfl)
  ·cases h
 split at h
 ·rename_i hk
  cases fx with
  | true => cases h
  | false =>
   rw [if_neg (by simp)] at h
   obtain ⟨e1,p1,p3⟩:=back_var h hs
   refine ⟨?_,nxv_sign (c:=[36]) (by simp) p1⟩
   unfold valG
   rw [if_neg (by rw [p3];decide),if_neg (by rw [p3];decide),if_neg (by rw [p3];decide),if_neg (by rw [p3];decide)]
   unfold signS
   rw [if_neg (by rw [p1];decide),if_neg (by rw [p1];decide),if_neg (by simp),e1,go_ok,hk]
 split at h
 ·rename_i hk
  split at h
  ·rename_i hn
   cases h
   exact ot _ 2 rfl (okU_num hn (Or.inl rfl)).2 (Or.inl ⟨rfl,hk⟩)
  ·cases h
 split at h
 ·rename_i hk
  split at h
  ·rename_i hn
   cases h
   exact ot _ 3 rfl (okU_num hn (Or.inr rfl)).2 (Or.inr (Or.inl ⟨rfl,hk⟩))
  ·cases h
 split at h
 ·rename_i hk
  unfold textW at h
  split at h
  ·rename_i hn
   cases h
   exact ot _ 4 rfl (okU_quo hn.2).2 (Or.inr (Or.inr ⟨rfl,hk⟩))
  ·cases h
 split at h
 ·rename_i hk
  unfold butW at h
  split at h
  ·rename_i hn
   cases h
   rw [Bool.and_eq_true] at hn
   have h2:=hn.2
   simp only [Bool.not_eq_true',List.contains_eq_mem,List.mem_cons,List.not_mem_nil,or_false,decide_eq_false_iff_not,not_or] at h2
   refine nm _ rfl (okU_name hn.1).2 ?_
   unfold namedC
   rw [if_neg h2.2.2,if_neg h2.2.1,if_neg h2.1,hk]
  ·cases h
 ·cases h
theorem listS_bk {fx : Bool} {inner : Option (List Tok → Rs (List CT))} {l m : List Tok} {vs : List Vl} {g : Bool} (hg : inner = none → g = false) (h : ∀ f,inner = some f → Bk g (anyS f [93] l.tail) (vs.map ctV) m) (p1 : ∀ s,isP s l = ([91] == s)) (p3 : ∀ k,isK k l = (0 == k)) : Bk g (valG fx inner l) (valC 8 [] (vs.map ctV) []) m:=by
 unfold valG
 rw [if_neg (by rw [p3];decide),if_neg (by rw [p3];decide),if_neg (by rw [p3];decide),if_neg (by rw [p3];decide)]
 unfold signS
 rw [if_pos (by rw [p1];rfl)]
 cases inner with
 | none =>
  rw [hg rfl]
  exact ⟨_,rfl⟩
 | some f =>
  rw [listS_some]
  exact (h f rfl).end rfl
theorem objS_bk {fx : Bool} {inner : Option (List Tok → Rs (List CT))} {l m : List Tok} {az : List Ar} {g : Bool} (hg : inner = none → g = false) (h : ∀ f,inner = some f → Bk g (anyS (memS f) [125] l.tail) (az.map fun x => (x.n,ctV x.v)) m) (p1 : ∀ s,isP s l = ([123] == s)) (p3 : ∀ k,isK k l = (0 == k)) : Bk g (valG fx inner l) (valC 9 [] (az.map fun x => ctV x.v) (az.map fun x => [sC x.n])) m:=by
 unfold valG
 rw [if_neg (by rw [p3];decide),if_neg (by rw [p3];decide),if_neg (by rw [p3];decide),if_neg (by rw [p3];decide)]
 unfold signS
 rw [if_neg (by rw [p1];decide),if_pos (by rw [p1];rfl)]
 cases inner with
 | none =>
  rw [hg rfl]
  exact ⟨_,rfl⟩
 | some f =>
  rw [objS_some]
  refine (h f rfl).end ?_
  simp [List.map_map,Function.comp_def]
theorem inW_first {c d : Bs} {x : Option (List Bs)} {us : List Bs} {l m : List Tok} (hc : kt c = (0,c)) (h : inW c x d = some us) (hs : Sy us l m) : (∀ s,isP s l = (c == s)) ∧ (∀ s,isW s l = false) ∧ ∀ k,isK k l = (0 == k):=by
 obtain ⟨a,b,h1,h2,rfl⟩:=andW_some h
 cases h1
 obtain ⟨r,_,_,_,p1,p2,p3⟩:=back_sign (us:=b) hc hs
 exact ⟨p1,p2,p3⟩
theorem val_first {fx : Bool} {v : Vl} {us : List Bs} {l m : List Tok} (h : valW fx v = some us) (hs : Sy us l m) : NxV l:=by
 obtain ⟨k,t,vs,ns⟩:=v
 rw [valW] at h
 split at h
 ·split at h
  ·exact nxv_sign (c:=[91]) (by simp) (inW_first (sg 91 rfl) h hs).1
  ·cases h
 split at h
 ·split at h
  ·exact nxv_sign (c:=[123]) (by simp) (inW_first (sg 123 rfl) h hs).1
  ·cases h
 split at h
 ·exact (back_leaf fx none h hs).2
 ·cases h
theorem back_mem {fx : Bool} {rd : List Tok → Rs (List CT)} {g : Vl → Bool} (step : ∀ v us l m,valW fx v = some us → Sy us l m → Bk (g v) (rd l) (ctV v) m) (x : Ar) (us : List Bs) (l m : List Tok) (h : argW fx x = some us) (hs : Sy us l m) : Bk (g x.v) (memS rd l) (x.n,ctV x.v) m ∧ ∀ s,isP s l = false:=by
 obtain ⟨a,b,h1,h2,rfl⟩:=andW_some h
 obtain ⟨a2,b2,h3,h4,rfl⟩:=andW_some h2
 cases h3
 obtain ⟨r,s1,s2⟩:=hs.app
 obtain ⟨e1,q,_⟩:=back_name h1 s1
 obtain ⟨r2,e2,_,s3,_⟩:=back_sign (us:=b2) (sg 58 rfl) s2
 refine ⟨?_,q⟩
 unfold memS
 exact bk_go e1 (bk_go e2 ((step _ _ _ _ h4 s3).end rfl))
theorem zip_vs : ∀ (ns : List Bs) (vs : List Vl),ns.length = vs.length → ((ns.zip vs).map fun p => (⟨p.1,p.2⟩ : Ar)).map (fun x => x.v) = vs ∧ ((ns.zip vs).map fun p => (⟨p.1,p.2⟩ : Ar)).map (fun x => x.n) = ns
 | [],[],_ => ⟨rfl,rfl⟩
 | [],_ :: _,h => by simp at h
 | _ :: _,[],h => by simp at h
 | n :: ns,v :: vs,h => by
  obtain ⟨h1,h2⟩:=zip_vs ns vs (by simpa using h)
  exact ⟨by simp only [List.zip_cons_cons,List.map_cons,h1],by simp only [List.zip_cons_cons,List.map_cons,h2]⟩
theorem back_valG (fx : Bool) (inner : Option (List Tok → Rs (List CT))) (g : Vl → Bool) (n : Nat) (h0 : inner = none → n = 0) (h1 : ∀ f,inner = some f → (n = 0 → False) ∧ Eats f ∧ ∀ v us l m,valW fx v = some us → Sy us l m → Bk (g v) (f l) (ctV v) m) (v : Vl) (us : List Bs) (l m : List Tok) (h : valW fx v = some us) (hs : Sy us l m) : Bk (!(v.k == 8 || v.k == 9) || (!(n == 0) && v.vs.all g)) (valG fx inner l) (ctV v) m:=by
 obtain ⟨k,t,vs,ns⟩:=v
 rw [valW] at h
 simp only [Vl.k,Vl.vs]
 split at h
 ·rename_i hk
  split at h
  ·rename_i ht
   obtain ⟨ht,hns⟩:=ht
   subst hk ht hns
   rw [valsW_row] at h
   have hct : ctV (.mk 8 [] vs []) = valC 8 [] (vs.map ctV) []:=by rw [ctV,ctVs_map];rfl
   rw [hct]
   obtain ⟨p1,_,p3⟩:=inW_first (sg 91 rfl) h hs
   refine listS_bk (fun e => by rw [h0 e];rfl) (fun f hf => ?_) p1 p3
   obtain ⟨e1,e2,e3⟩:=h1 f hf
   have hn : (n == 0) = false:=by simpa using e1
   rw [hn]
   simp only [beq_self_eq_true,Bool.true_or,Bool.not_true,Bool.not_false,Bool.true_and,Bool.false_or]
   have B : BackE (fun _ => True) (valW fx) ctV f g:=⟨e2,fun x us l m a b _ => e3 x us l m a b,fun _ _ _ _ _ _ => trivial⟩
   exact (back_in B (c:=[91]) (d:=[93]) (sg 91 rfl) (sg 93 rfl) (fun _ _ _ => trivial) (fun x us l m a b => val_first a b [93] (by decide) (by decide) (by decide)) vs us l m h hs).2.2.2.1
  ·cases h
 split at h
 ·rename_i hk
  split at h
  ·rename_i ht
   obtain ⟨ht,hns⟩:=ht
   subst hk ht
   rw [memsW_row] at h
   obtain ⟨z1,z2⟩:=zip_vs ns vs hns
   generalize ((ns.zip vs).map fun p => (⟨p.1,p.2⟩ : Ar)) = az at h z1 z2
   have hct : ctV (.mk 9 [] vs ns) = valC 9 [] (az.map fun x => ctV x.v) (az.map fun x => [sC x.n]):=by
    rw [ctV,ctVs_map,← z1,← z2]
    simp [List.map_map,Function.comp_def]
   rw [hct]
   obtain ⟨p1,_,p3⟩:=inW_first (sg 123 rfl) h hs
   refine objS_bk (fun e => by rw [h0 e];rfl) (fun f hf => ?_) p1 p3
   obtain ⟨e1,e2,e3⟩:=h1 f hf
   have hn : (n == 0) = false:=by simpa using e1
   rw [hn,← z1]
   have B : BackE (fun _ => True) (argW fx) (fun x => (x.n,ctV x.v)) (memS f) (fun x => g x.v):=⟨memS_eats e2.keeps,fun x us l m a b _ => (back_mem e3 x us l m a b).1,fun _ _ _ _ _ _ => trivial⟩
   have:=(back_in B (c:=[123]) (d:=[125]) (sg 123 rfl) (sg 125 rfl) (fun _ _ _ => trivial) (fun x us l m a b => (back_mem e3 x us l m a b).2 _) az us l m h hs).2.2.2.1
   simpa [List.all_map,Function.comp_def] using this
  ·cases h
 split at h
 ·rename_i hk8 hk9 hz
  obtain ⟨z1,z2⟩:=hz
  have e1 : vs = []:=List.length_eq_zero_iff.1 z1
  have e2 : ns = []:=List.length_eq_zero_iff.1 z2
  subst e1 e2
  have hg : (!(k == 8 || k == 9) || (!(n == 0) && ([] : List Vl).all g)) = true:=by simp [hk8,hk9]
  rw [hg]
  have hct : ctV (.mk k t [] []) = valC k t [] []:=by rw [ctV];rfl
  rw [hct]
  exact (back_leaf fx inner h hs).1
 ·cases h
theorem back_val (fx : Bool) : ∀ (n : Nat) (v : Vl) (us : List Bs) (l m : List Tok),valW fx v = some us → Sy us l m → Bk (goodV n v) (valF fx n l) (ctV v) m
 | 0,v,us,l,m,h,hs => by
  have:=back_valG fx none (fun _ => true) 0 (fun _ => rfl) (fun f e => by cases e) v us l m h hs
  simpa [goodV,valF] using this
 | n + 1,v,us,l,m,h,hs => by
  have:=back_valG fx (some (valF fx n)) (goodV n) (n + 1) (fun e => by cases e) (fun f e => by cases e;exact ⟨by simp,valF_eats fx n,fun v us l m a b => back_val fx n v us l m a b⟩) v us l m h hs
  simpa [goodV,valF] using this
/-! ### Arguments, directives -/
def goodA (x : Ar) : Bool:=goodV 32 x.v
def goodD (x : Dr) : Bool:=x.az.all goodA
theorem back_arg (fx : Bool) : BackE (fun _ => True) (argW fx) ctA (argS fx) goodA:=by
 refine ⟨argS_eats fx,fun x us l m h hs _ => ?_,fun _ _ _ _ _ _ => trivial⟩
 have:=(back_mem (fun v us l m a b => back_val fx 32 v us l m a b) x us l m h hs).1
 unfold argS
 exact this.end rfl
theorem arg_first {fx : Bool} {x : Ar} {us : List Bs} {l m : List Tok} (h : argW fx x = some us) (hs : Sy us l m) (s : Bs) : isP s l = false:=(back_mem (fun v us l m a b => back_val fx 32 v us l m a b) x us l m h hs).2 s
theorem back_args {fx : Bool} {az : List Ar} {us : List Bs} {l m : List Tok} (h : argsW fx az = some us) (hs : Sy us l m) (hm : isP [40] m = false) : Bk (az.all goodA) (argsS fx l) (az.map ctA) m ∧ (l = m ∨ ∀ s,isP s l = ([40] == s)):=by
 unfold argsW at h
 split at h
 ·rename_i h0
  cases h
  have:=hs.nil
  subst this h0
  refine ⟨?_,Or.inl rfl⟩
  unfold argsS
  rw [if_neg (by rw [hm];simp)]
  exact Bk.ok
 ·rename_i h0
  obtain ⟨p1,_,_,_,A⟩:=back_in (back_arg fx) (c:=[40]) (d:=[41]) (sg 40 rfl) (sg 41 rfl) (fun _ _ _ => trivial) (fun x us l m a b => arg_first a b _) az us l m h hs
  refine ⟨?_,Or.inr p1⟩
  unfold argsS
  rw [if_pos (by rw [p1];rfl)]
  exact A h0
/-- What may come behind a directive. -/
def NxD (l : List Tok) : Prop:=isP [40] l = false
theorem back_dirs {fx : Bool} {ds : List Dr} {us : List Bs} {l m : List Tok} (h : dirsW fx ds = some us) (hs : Sy us l m) (hm : isP [40] m = false) (hm2 : isP [64] m = false) : Bk (ds.all goodD) (dirsS fx l) (ds.map ctD) m ∧ (l = m ∨ ∀ s,isP s l = ([64] == s)):=by
 refine ⟨?_,?_⟩
 ·exact back_led (nx:=NxD) (wr:=fun x : Dr => andW (nameW x.n) (argsW fx x.az)) (ct:=ctD) (rd:=dirS fx) (good:=goodD) (dirS_eats fx).keeps (sg 64 rfl) (fun l hl => by unfold NxD;rw [hl];rfl) (fun x us l m h hs hn => by
   obtain ⟨a,b,h1,h2,rfl⟩:=andW_some h
   obtain ⟨r,s1,s2⟩:=hs.app
   obtain ⟨e1,_⟩:=back_name h1 s1
   unfold dirS
   exact bk_go e1 ((back_args h2 s2 hn).1.end rfl)) ds us l m h hs hm hm2
 ·cases ds with
  | nil => cases h;exact Or.inl hs.nil
  | cons x ds =>
   obtain ⟨a,b,h1,h2,rfl⟩:=andW_some h
   obtain ⟨a1,a2,g1,g2,rfl⟩:=andW_some h1
   cases g1
   obtain ⟨r,s1,s2⟩:=hs.app
   obtain ⟨_,_,_,_,p1,_⟩:=back_sign (us:=a2) (sg 64 rfl) s1
   exact Or.inr p1
end Go.Proofs.YtgmlbjfgfmfliaaGreatDoor
namespace Go.Proofs.YtgmlbjfgfmfliaaGreatDoor
open Go Go.RowKit
/-! ### Types -/
/-- How many brackets a type has. -/
def brs : Bs → Nat
 | [] => 0
 | c :: r => (if c = 91 then 1 else 0) + brs r
/-- A type without its last sign. -/
def baseS (inner : Option (List Tok → Rs (Bs × Bs))) (l : List Tok) : Rs (Bs × Bs):=if isP [91] l then (match inner with
  | none => .error (atT l,61)
  | some f => (f l.tail).go fun x l1 => (mustS [93] l1).go fun _ l2 => .ok ((x.1,x.2 ++ [91]),l2)) else (nameS l).go fun t l1 => .ok ((t,[]),l1)
theorem refG_base (inner : Option (List Tok → Rs (Bs × Bs))) (l : List Tok) : refG inner l = (baseS inner l).go refB:=rfl
def inR : Nat → Option (List Tok → Rs (Bs × Bs))
 | 0 => none
 | n + 1 => some (refF n)
theorem refF_base (n : Nat) (l : List Tok) : refF n l = (baseS (inR n) l).go refB:=by cases n <;> rfl
theorem refB_no {x : Bs × Bs} {l : List Tok} (h : isP [33] l = false) : refB x l = .ok (x,l):=by
 unfold refB
 rw [if_neg (by rw [h];simp)]
theorem refW_cons (t : Bs) (c : UInt8) (r : Bs) : refW t (c :: r) = if c = 91 then inW [91] (refW t r) [93] else if c = 33 then (if r.head? = some 33 then none else andW (refW t r) (some [[33]])) else none:=by
 by_cases h1 : c = 91
 ·subst h1
  rw [if_pos rfl,refW]
 ·by_cases h2 : c = 33
  ·subst h2
   rw [if_neg (by decide),if_pos rfl,refW]
  ·rw [if_neg h1,if_neg h2]
   rw [refW]
   ·exact fun e => h1 e
   ·exact fun e => h2 e
theorem back_ref (t : Bs) : ∀ (r : Bs),(r.head? ≠ some 33 → ∀ n us l m,refW t r = some us → Sy us l m → Bk (decide (brs r ≤ n)) (baseS (inR n) l) (t,r.reverse) m) ∧ (∀ n us l m,refW t r = some us → Sy us l m → isP [33] m = false → Bk (decide (brs r ≤ n)) (refF n l) (t,r.reverse) m) ∧ ∀ us l m,refW t r = some us → Sy us l m → ∀ s,s ≠ [91] → isP s l = false
 | [] => by
  have A : ∀ n us l m,refW t [] = some us → Sy us l m → Bk (decide (brs [] ≤ n)) (baseS (inR n) l) (t,([] : Bs).reverse) m:=by
   intro n us l m h hs
   have h' : nameW t = some us:=h
   obtain ⟨e1,e2,_⟩:=back_name h' hs
   have hd : decide (brs [] ≤ n) = true:=by simp [brs]
   rw [hd]
   unfold baseS
   rw [if_neg (by rw [e2];simp),e1,go_ok]
   exact Bk.ok
  refine ⟨fun _ => A,fun n us l m h hs hm => ?_,fun us l m h hs s _ => ?_⟩
  ·rw [refF_base]
   exact (A n us l m h hs).end (refB_no hm)
  ·have h' : nameW t = some us:=h
   exact (back_name h' hs).2.1 s
 | c :: r => by
  obtain ⟨ih1,ih2,ih3⟩:=back_ref t r
  by_cases h91 : c = 91
  ·subst h91
   have e : refW t (91 :: r) = inW [91] (refW t r) [93]:=by rw [refW_cons,if_pos rfl]
   have A : ∀ n us l m,refW t (91 :: r) = some us → Sy us l m → Bk (decide (brs (91 :: r) ≤ n)) (baseS (inR n) l) (t,(91 :: r : Bs).reverse) m:=by
    intro n us l m h hs
    rw [e] at h
    obtain ⟨p1,_,_⟩:=inW_first (sg 91 rfl) h hs
    obtain ⟨a,b,h1,h2,rfl⟩:=andW_some h
    cases h1
    obtain ⟨a,b',h1,h3,rfl⟩:=andW_some h2
    cases h3
    obtain ⟨r0,_,rfl,s1,_,_,_⟩:=back_sign (us:=a ++ [[93]]) (sg 91 rfl) hs
    obtain ⟨r2,s2,s3⟩:=s1.app
    obtain ⟨r3,f3,_,s4,q3,_,_⟩:=back_sign (sg 93 rfl) s3
    have:=s4.nil
    subst this
    unfold baseS
    rw [if_pos (by rw [p1];rfl)]
    cases n with
    | zero =>
     have hd : decide (brs (91 :: r) ≤ 0) = false:=by simp [brs]
     rw [hd]
     exact ⟨_,rfl⟩
    | succ n =>
     have hd : decide (brs (91 :: r) ≤ n + 1) = decide (brs r ≤ n):=by simp [brs];omega
     rw [hd]
     exact (ih2 n a _ _ h1 s2 (by rw [q3];rfl)).end (by rw [f3,go_ok];simp)
   refine ⟨fun _ => A,fun n us l m h hs hm => ?_,fun us l m h hs s hse => ?_⟩
   ·rw [refF_base]
    exact (A n us l m h hs).end (refB_no hm)
   ·rw [e] at h
    rw [(inW_first (sg 91 rfl) h hs).1]
    simpa using fun x => hse x.symm
  ·by_cases h33 : c = 33
   ·subst h33
    have e : refW t (33 :: r) = if r.head? = some 33 then none else andW (refW t r) (some [[33]]):=by rw [refW_cons,if_neg (by decide),if_pos rfl]
    have hd : brs (33 :: r) = brs r:=by simp [brs]
    refine ⟨fun h => absurd rfl h,fun n us l m h hs hm => ?_,fun us l m h hs s hse => ?_⟩
    ·rw [e] at h
     split at h
     ·cases h
     ·rename_i hr
      obtain ⟨a,b,h1,h2,rfl⟩:=andW_some h
      cases h2
      obtain ⟨r1,s1,s2⟩:=hs.app
      obtain ⟨r2,_,q2,s3,q3,_,_⟩:=back_sign (sg 33 rfl) s2
      have:=s3.nil
      subst this
      rw [refF_base,hd]
      refine (ih1 hr n a l r1 h1 s1).end ?_
      unfold refB
      rw [if_pos (by rw [q3];rfl),q2]
      simp
    ·rw [e] at h
     split at h
     ·cases h
     ·obtain ⟨a,b,h1,h2,rfl⟩:=andW_some h
      obtain ⟨r1,s1,_⟩:=hs.app
      exact ih3 a l r1 h1 s1 s hse
   ·have e : refW t (c :: r) = none:=by rw [refW_cons,if_neg h91,if_neg h33]
    exact ⟨fun _ _ _ _ _ h => (by rw [e] at h;cases h),fun _ _ _ _ h => (by rw [e] at h;cases h),fun _ _ _ h => (by rw [e] at h;cases h)⟩
theorem brs_rev : ∀ (a b : Bs),brs (a ++ b) = brs a + brs b
 | [],b => by simp [brs]
 | c :: a,b => by simp only [List.cons_append,brs,brs_rev a b];omega
/-! ### Variables -/
def goodX (x : Va) : Bool:=decide (brs x.x.reverse ≤ 32) && ((if x.h then goodV 32 x.d else true) && x.ds.all goodD)
theorem isZ_ct {d : Vl} (h : isZ d = true) : ctV d = valC 0 [] [] []:=by
 obtain ⟨k,t,vs,ns⟩:=d
 unfold isZ at h
 simp only [Bool.and_eq_true,decide_eq_true_eq] at h
 obtain ⟨h1,h2,h3,h4⟩:=h
 have e1 : vs = []:=List.length_eq_zero_iff.1 h3
 have e2 : ns = []:=List.length_eq_zero_iff.1 h4
 subst h1 h2 e1 e2
 rw [ctV];rfl
/-- What begins so. -/
abbrev Sgn (c : Bs) (l : List Tok) : Prop:=∀ s,isP s l = (c == s)
theorem back_def {x : Va} {us : List Bs} {l m : List Tok} (h : defW x = some us) (hs : Sy us l m) (hm : isP [61] m = false) : Bk (if x.h then goodV 32 x.d else true) (defS l) (x.h,ctV x.d) m ∧ (l = m ∨ Sgn [61] l):=by
 unfold defW at h
 cases hh : x.h with
 | true =>
  rw [hh,if_pos rfl] at h
  obtain ⟨a,b,h1,h2,rfl⟩:=andW_some h
  cases h1
  obtain ⟨r,_,rfl,s1,p1,_,_⟩:=back_sign (us:=b) (sg 61 rfl) hs
  refine ⟨?_,Or.inr p1⟩
  unfold defS
  rw [if_pos rfl,if_pos (by rw [p1];rfl)]
  exact (back_val true 32 _ _ _ _ h2 s1).end rfl
 | false =>
  rw [hh,if_neg (by simp)] at h
  split at h
  ·rename_i hz
   cases h
   have:=hs.nil
   subst this
   refine ⟨?_,Or.inl rfl⟩
   unfold defS
   rw [if_neg (by simp),if_neg (by rw [hm];simp),isZ_ct hz]
   exact Bk.ok
  ·cases h
/-- What may come behind a variable. -/
def NxX (l : List Tok) : Prop:=Sgn [36] l ∨ Sgn [41] l
theorem NxX.no {l : List Tok} (h : NxX l) {s : Bs} (h1 : ([36] : Bs) ≠ s) (h2 : ([41] : Bs) ≠ s) : isP s l = false:=by
 rcases h with h | h
 ·rw [h];simpa using h1
 ·rw [h];simpa using h2
theorem sgn_no {c : Bs} {l : List Tok} (h : Sgn c l) {s : Bs} (h1 : c ≠ s) : isP s l = false:=by rw [h];simpa using h1
theorem back_varDef : BackE NxX varDefW ctX varDefS goodX:=by
 refine ⟨varDefS_eats,fun x us l m h hs hm => ?_,fun x us l m h hs => ?_⟩
 ·obtain ⟨a1,b1,h1,g1,rfl⟩:=andW_some h
  obtain ⟨a2,b2,h2,g2,rfl⟩:=andW_some g1
  cases h2
  obtain ⟨a3,b3,h3,g3,rfl⟩:=andW_some g2
  obtain ⟨a4,a5,h4,h5,rfl⟩:=andW_some g3
  obtain ⟨r1,s1,t1⟩:=hs.app
  obtain ⟨e1,_⟩:=back_var h1 s1
  obtain ⟨r2,e2,_,t2,_⟩:=back_sign (us:=a3 ++ (a4 ++ a5)) (sg 58 rfl) t1
  obtain ⟨r3,s3,t3⟩:=t2.app
  obtain ⟨r4,s4,s5⟩:=t3.app
  obtain ⟨d1,d2⟩:=back_dirs h5 s5 (hm.no (by decide) (by decide)) (hm.no (by decide) (by decide))
  have n61 : isP [61] r4 = false:=by
   rcases d2 with rfl | d2
   ·exact hm.no (by decide) (by decide)
   ·exact sgn_no d2 (by decide)
  have n33 : isP [33] r4 = false:=by
   rcases d2 with rfl | d2
   ·exact hm.no (by decide) (by decide)
   ·exact sgn_no d2 (by decide)
  obtain ⟨f1,f2⟩:=back_def h4 s4 n61
  have n33' : isP [33] r3 = false:=by
   rcases f2 with rfl | f2
   ·exact n33
   ·exact sgn_no f2 (by decide)
  have f3:=(back_ref x.t x.x.reverse).2.1 32 a3 r2 r3 h3 s3 n33'
  rw [List.reverse_reverse] at f3
  unfold varDefS goodX
  exact bk_go e1 (bk_go e2 (f3.go (f1.go (d1.end rfl))))
 ·obtain ⟨a1,b1,h1,g1,rfl⟩:=andW_some h
  obtain ⟨r1,s1,t1⟩:=hs.app
  exact Or.inl (back_var h1 s1).2.1
theorem back_vars {vs : List Va} {us : List Bs} {l m : List Tok} (h : varsW vs = some us) (hs : Sy us l m) (hm : isP [40] m = false) : Bk (vs.all goodX) (varsS l) (vs.map ctX) m ∧ (l = m ∨ Sgn [40] l):=by
 unfold varsW at h
 split at h
 ·rename_i h0
  cases h
  have:=hs.nil
  subst this h0
  refine ⟨?_,Or.inl rfl⟩
  unfold varsS
  rw [if_neg (by rw [hm];simp)]
  exact Bk.ok
 ·rename_i h0
  obtain ⟨p1,_,_,_,A⟩:=back_in back_varDef (c:=[40]) (d:=[41]) (sg 40 rfl) (sg 41 rfl) (fun l h _ => Or.inr h) (fun x us l m a b => by
   obtain ⟨a1,b1,h1,g1,rfl⟩:=andW_some a
   obtain ⟨r1,s1,t1⟩:=b.app
   exact sgn_no (back_var h1 s1).2.1 (by decide)) vs us l m h hs
  refine ⟨?_,Or.inr p1⟩
  unfold varsS
  rw [if_pos (by rw [p1];rfl)]
  exact A h0
/-! ### Selections -/
def goodS (g : List Se → Bool) (x : Se) : Bool:=x.az.all goodA && (x.ds.all goodD && (decide (x.ss.length = 0) || g x.ss))
def goodSet : Nat → List Se → Bool
 | 0,_ => false
 | n + 1,l => l.all (goodS (goodSet n))
/-- What may come behind a selection: a name, three dots, a closing brace. -/
def NxS (l : List Tok) : Prop:=(∀ s,isP s l = false) ∨ Sgn dotsB l ∨ Sgn [125] l
theorem NxS.no {l : List Tok} (h : NxS l) {s : Bs} (h1 : dotsB ≠ s) (h2 : ([125] : Bs) ≠ s) : isP s l = false:=by
 rcases h with h | h | h
 ·exact h s
 ·exact sgn_no h h1
 ·exact sgn_no h h2
theorem sg_dots : kt dotsB = (0,dotsB):=okU_dots.2
theorem back_but {bs : List Bs} {n : Bs} {us : List Bs} {l m : List Tok} (h : butW bs n = some us) (_hs : Sy us l m) : nameW n = some us ∧ n ∉ bs:=by
 unfold butW at h
 split at h
 ·rename_i hn
  rw [Bool.and_eq_true] at hn
  unfold nameW
  rw [if_pos hn.1]
  exact ⟨h,by simpa using hn.2⟩
 ·cases h
/-- A set that may be left out. -/
theorem back_with {st : List Tok → Rs (List (List CT))} {g : List Se → Bool} (hst : ∀ ss us l m,setW ss = some us → Sy us l m → Bk (g ss) (st l) (ss.map ctS) m) {ss : List Se} {us : List Bs} {l m : List Tok} (h : (if ss.length = 0 then some [] else inW [123] (selsW ss) [125]) = some us) (hs : Sy us l m) (hm : isP [123] m = false) : Bk (decide (ss.length = 0) || g ss) (withS st l) (ss.map ctS) m ∧ (l = m ∨ Sgn [123] l):=by
 split at h
 ·rename_i h0
  have e1 : ss = []:=List.length_eq_zero_iff.1 h0
  subst e1
  cases h
  have:=hs.nil
  subst this
  refine ⟨?_,Or.inl rfl⟩
  unfold withS
  rw [if_neg (by rw [hm];simp)]
  exact Bk.ok
 ·rename_i h0
  have hne : ss ≠ []:=fun e => h0 (by rw [e];rfl)
  rw [selsW_row] at h
  have h' : setW ss = some us:=by unfold setW;rw [if_neg hne];exact h
  have p1:=(inW_first (sg 123 rfl) h hs).1
  refine ⟨?_,Or.inr p1⟩
  unfold withS
  rw [if_pos (by rw [p1];rfl),decide_eq_false h0,Bool.false_or]
  exact hst _ _ _ _ h' hs
theorem ctSs_eq (ss : List Se) : ctSs ss = ss.map ctS:=ctSs_map ss
theorem selW_first (x : Se) (us : List Bs) (l m : List Tok) (h : selW x = some us) (hs : Sy us l m) : (∀ s,isP s l = false) ∨ Sgn dotsB l:=by
 obtain ⟨k,a,n,o,az,ds,ss⟩:=x
 rw [selW] at h
 split at h
 ·split at h
  ·obtain ⟨a1,b1,h1,g1,rfl⟩:=andW_some h
   obtain ⟨r1,s1,t1⟩:=hs.app
   split at h1
   ·cases h1
    have:=s1.nil
    subst this
    obtain ⟨a2,b2,h2,g2,rfl⟩:=andW_some g1
    obtain ⟨r2,s2,_⟩:=t1.app
    exact Or.inl (back_name h2 s2).2.1
   ·obtain ⟨a2,b2,h2,g2,rfl⟩:=andW_some h1
    obtain ⟨r2,s2,_⟩:=s1.app
    exact Or.inl (back_name h2 s2).2.1
  ·cases h
 split at h
 ·split at h
  ·obtain ⟨a1,b1,h1,g1,rfl⟩:=andW_some h
   cases h1
   obtain ⟨_,_,_,_,p1,_⟩:=back_sign (us:=b1) sg_dots hs
   exact Or.inr p1
  ·cases h
 split at h
 ·split at h
  ·obtain ⟨a1,b1,h1,g1,rfl⟩:=andW_some h
   cases h1
   obtain ⟨_,_,_,_,p1,_⟩:=back_sign (us:=b1) sg_dots hs
   exact Or.inr p1
  ·cases h
 ·cases h
theorem back_sel {st : List Tok → Rs (List (List CT))} {g : List Se → Bool} (hk : Keeps st) (hst : ∀ ss us l m,setW ss = some us → Sy us l m → Bk (g ss) (st l) (ss.map ctS) m) : BackE NxS selW ctS (selS st) (goodS g):=by
 refine ⟨selS_eats hk,fun x us l m h hs hm => ?_,fun x us l m h hs => (selW_first x us l m h hs).elim Or.inl fun h => Or.inr (Or.inl h)⟩
 obtain ⟨k,a,n,o,az,ds,ss⟩:=x
 rw [selW] at h
 simp only [goodS,Se.az,Se.ds,Se.ss]
 rw [ctS,ctSs_eq]
 split at h
 ·rename_i hk0
  split at h
  ·rename_i ho
   subst hk0 ho
   obtain ⟨a1,b1,h1,g1,rfl⟩:=andW_some h
   obtain ⟨a2,b2,h2,g2,rfl⟩:=andW_some g1
   obtain ⟨a3,b3,h3,g3,rfl⟩:=andW_some g2
   obtain ⟨a4,a5,h4,h5,rfl⟩:=andW_some g3
   obtain ⟨r1,s1,t1⟩:=hs.app
   obtain ⟨r2,s2,t2⟩:=t1.app
   obtain ⟨r3,s3,t3⟩:=t2.app
   obtain ⟨r4,s4,s5⟩:=t3.app
   obtain ⟨w1,w2⟩:=back_with hst h5 s5 (hm.no (by decide) (by decide))
   have nr4 : ∀ s,s ≠ [123] → dotsB ≠ s → ([125] : Bs) ≠ s → isP s r4 = false:=fun s x y z => by
    rcases w2 with rfl | w2
    ·exact hm.no y z
    ·exact sgn_no w2 x.symm
   obtain ⟨d1,d2⟩:=back_dirs h4 s4 (nr4 _ (by decide) (by decide) (by decide)) (nr4 _ (by decide) (by decide) (by decide))
   have nr3 : ∀ s,s ≠ [123] → s ≠ [64] → dotsB ≠ s → ([125] : Bs) ≠ s → isP s r3 = false:=fun s x x2 y z => by
    rcases d2 with rfl | d2
    ·exact nr4 s x y z
    ·exact sgn_no d2 x2.symm
   obtain ⟨q1,q2⟩:=back_args h3 s3 (nr3 _ (by decide) (by decide) (by decide) (by decide))
   have n58 : isP [58] r2 = false:=by
    rcases q2 with rfl | q2
    ·exact nr3 _ (by decide) (by decide) (by decide) (by decide)
    ·exact sgn_no q2 (by decide)
   obtain ⟨e2,p2,_⟩:=back_name h2 s2
   have hl : ∀ s,isP s l = false:=by
    split at h1
    ·cases h1
     have:=s1.nil
     subst this
     exact p2
    ·obtain ⟨a6,b6,h6,g6,rfl⟩:=andW_some h1
     obtain ⟨r6,s6,_⟩:=s1.app
     exact (back_name h6 s6).2.1
   have hn : nickS l = .ok ((a,n),r2):=by
    unfold nickS
    split at h1
    ·rename_i ha
     cases h1
     have:=s1.nil
     subst this
     rw [e2,go_ok,if_neg (by rw [n58];simp),ha]
    ·obtain ⟨a6,b6,h6,g6,rfl⟩:=andW_some h1
     cases g6
     obtain ⟨r6,s6,t6⟩:=s1.app
     obtain ⟨e6,_⟩:=back_name h6 s6
     obtain ⟨r7,_,rfl,s7,p7,_⟩:=back_sign (us:=[]) (sg 58 rfl) t6
     have:=s7.nil
     subst this
     rw [e6,go_ok,if_pos (by rw [p7];rfl),e2,go_ok]
   unfold selS
   rw [if_neg (by rw [hl];simp)]
   unfold fieldS
   exact bk_go hn (q1.go (d1.go (w1.end rfl)))
  ·cases h
 split at h
 ·rename_i hk1
  split at h
  ·rename_i ho
   obtain ⟨⟨ha,ho⟩,hz,hss⟩:=ho
   have e1 : az = []:=List.length_eq_zero_iff.1 hz
   have e2 : ss = []:=List.length_eq_zero_iff.1 hss
   subst hk1 ha ho e1 e2
   obtain ⟨a1,b1,h1,g1,rfl⟩:=andW_some h
   cases h1
   obtain ⟨a2,b2,h2,g2,rfl⟩:=andW_some g1
   obtain ⟨r1,_,rfl,t1,p1,_⟩:=back_sign (us:=a2 ++ b2) sg_dots hs
   obtain ⟨r2,s2,s3⟩:=t1.app
   obtain ⟨b1,b2⟩:=back_but h2 s2
   obtain ⟨e1,_,w1,k1⟩:=back_name b1 s2
   obtain ⟨d1,_⟩:=back_dirs g2 s3 (hm.no (by decide) (by decide)) (hm.no (by decide) (by decide))
   unfold selS
   rw [if_pos (by rw [p1];rfl),if_pos (by
    rw [k1,w1]
    have : (n == onB) = false:=by simpa using b2
    rw [this];rfl)]
   unfold spreadS
   have : (([] : List Ar).all goodA && (ds.all goodD && (decide (([] : List Se).length = 0) || g []))) = ds.all goodD:=by simp
   exact Bk.eq this (bk_go e1 (d1.end rfl))
  ·cases h
 split at h
 ·rename_i hk2
  split at h
  ·rename_i ho
   obtain ⟨⟨ha,hn⟩,hz⟩:=ho
   have e1 : az = []:=List.length_eq_zero_iff.1 hz
   subst hk2 ha hn e1
   obtain ⟨a1,b1,h1,g1,rfl⟩:=andW_some h
   cases h1
   obtain ⟨a2,b2,h2,g2,rfl⟩:=andW_some g1
   obtain ⟨a3,a4,h3,h4,rfl⟩:=andW_some g2
   obtain ⟨r1,_,rfl,t1,p1,_⟩:=back_sign (us:=a2 ++ (a3 ++ a4)) sg_dots hs
   obtain ⟨r2,s2,t2⟩:=t1.app
   obtain ⟨r3,s3,s4⟩:=t2.app
   split at h4
   ·cases h4
   rename_i h0
   have hne : ss ≠ []:=fun e => h0 (by rw [e];rfl)
   rw [selsW_row] at h4
   have h4' : setW ss = some a4:=by unfold setW;rw [if_neg hne];exact h4
   obtain ⟨q4,w4,k4⟩:=inW_first (sg 123 rfl) h4 s4
   obtain ⟨d1,d2⟩:=back_dirs h3 s3 (by rw [q4];decide) (by rw [q4];decide)
   have nr2 : isW onB r2 = false ∧ isK 1 r2 = false:=by
    rcases d2 with rfl | d2
    ·exact ⟨w4 _,by rw [k4];decide⟩
    ·cases ds with
     | nil =>
      cases h3
      have:=s3.nil
      subst this
      exact ⟨w4 _,by rw [k4];decide⟩
     | cons y ys =>
      obtain ⟨a5,b5,h5,g5,rfl⟩:=andW_some h3
      obtain ⟨a6,b6,h6,g6,rfl⟩:=andW_some h5
      cases h6
      obtain ⟨r6,s6,_⟩:=s3.app
      obtain ⟨_,_,_,_,_,p6,p7⟩:=back_sign (us:=b6) (sg 64 rfl) s6
      exact ⟨p6 _,by rw [p7];decide⟩
   have ho : onS l.tail = .ok (o,r2) ∧ (isK 1 l.tail && !isW onB l.tail) = false:=by
    unfold onS
    split at h2
    ·rename_i ho
     cases h2
     have:=s2.nil
     rw [this,nr2.1,nr2.2,if_neg (by simp),ho]
     exact ⟨rfl,rfl⟩
    ·obtain ⟨a5,b5,h5,g5,rfl⟩:=andW_some h2
     cases h5
     obtain ⟨r5,_,_,q5,s5,p5,_⟩:=back_word (us:=b5) kw_on s2
     rw [p5,if_pos (by rfl),q5]
     exact ⟨(back_name g5 s5).1,by simp⟩
   unfold selS
   rw [if_pos (by rw [p1];rfl),if_neg (by rw [ho.2];simp)]
   unfold inlineS
   have e0 : (([] : List Ar).all goodA && (ds.all goodD && (decide (ss.length = 0) || g ss))) = (ds.all goodD && g ss):=by simp [hne]
   exact Bk.eq e0 (bk_go ho.1 (d1.go ((hst _ _ _ _ h4' s4).end rfl)))
  ·cases h
 ·cases h
theorem sel_first {x : Se} {us : List Bs} {l m : List Tok} (h : selW x = some us) (hs : Sy us l m) : isP [125] l = false:=by
 rcases selW_first x us l m h hs with q | q
 ·exact q _
 ·exact sgn_no q (by decide)
theorem back_set : ∀ (n : Nat) (ss : List Se) (us : List Bs) (l m : List Tok),setW ss = some us → Sy us l m → Bk (goodSet n ss) (setF n l) (ss.map ctS) m
 | 0,ss,us,l,m,h,hs => by
  unfold setW at h
  split at h
  ·cases h
  ·have p1:=(inW_first (sg 123 rfl) h hs).1
   show Bk false (setG none l) _ _
   unfold setG
   rw [if_pos (by rw [p1];rfl)]
   exact ⟨_,rfl⟩
 | n + 1,ss,us,l,m,h,hs => by
  unfold setW at h
  split at h
  ·cases h
  ·rename_i h0
   obtain ⟨p1,_,_,_,A⟩:=back_in (back_sel (setF_eats n).keeps (fun ss us l m a b => back_set n ss us l m a b)) (c:=[123]) (d:=[125]) (sg 123 rfl) (sg 125 rfl) (fun l h _ => Or.inr (Or.inr h)) (fun x us l m a b => sel_first a b) ss us l m h hs
   show Bk (ss.all (goodS (goodSet n))) (setG (some (setF n)) l) _ _
   unfold setG
   rw [if_pos (by rw [p1];rfl)]
   exact A h0
theorem set_first {ss : List Se} {us : List Bs} {l m : List Tok} (h : setW ss = some us) (hs : Sy us l m) : Sgn [123] l ∧ (∀ s,isW s l = false) ∧ ∀ k,isK k l = (0 == k):=by
 unfold setW at h
 split at h
 ·cases h
 ·exact inW_first (sg 123 rfl) h hs
/-! ### Operations, fragments -/
def goodO (x : Oq) : Bool:=x.vs.all goodX && (x.ds.all goodD && goodSet 32 x.ss)
def goodF (x : Fg) : Bool:=x.ds.all goodD && goodSet 32 x.ss
theorem dirs_next {fx : Bool} {ds : List Dr} {us : List Bs} {l m : List Tok} (h : dirsW fx ds = some us) (hs : Sy us l m) (hm : Sgn [123] m ∧ (∀ s,isW s m = false) ∧ ∀ k,isK k m = (0 == k)) : (Sgn [123] l ∨ Sgn [64] l) ∧ (∀ s,isW s l = false) ∧ ∀ k,isK k l = (0 == k):=by
 cases ds with
 | nil =>
  cases h
  have:=hs.nil
  subst this
  exact ⟨Or.inl hm.1,hm.2⟩
 | cons y ys =>
  obtain ⟨a5,b5,h5,g5,rfl⟩:=andW_some h
  obtain ⟨a6,b6,h6,g6,rfl⟩:=andW_some h5
  cases h6
  obtain ⟨r6,s6,_⟩:=hs.app
  obtain ⟨_,_,_,_,q,p6,p7⟩:=back_sign (us:=b6) (sg 64 rfl) s6
  exact ⟨Or.inr q,p6,p7⟩
theorem kw_query : kt [113,117,101,114,121] = (1,[113,117,101,114,121]):=by rfl
theorem kw_mut : kt [109,117,116,97,116,105,111,110] = (1,[109,117,116,97,116,105,111,110]):=by rfl
theorem kw_sub : kt [115,117,98,115,99,114,105,112,116,105,111,110] = (1,[115,117,98,115,99,114,105,112,116,105,111,110]):=by rfl
theorem back_kind {k : Int} {us : List Bs} {l m : List Tok} (h : kindW k = some us) (hs : Sy us l m) : kindS l = .ok (k,m) ∧ (∀ s,isP s l = false) ∧ isW fragB l = false:=by
 unfold kindW at h
 split at h
 ·rename_i hk
  cases h
  obtain ⟨r,_,_,q,s1,w,p,_⟩:=back_word kw_query hs
  have:=s1.nil
  subst this
  refine ⟨?_,p,by rw [w];decide⟩
  unfold kindS
  rw [if_pos (by rw [w];rfl),q,hk]
 split at h
 ·rename_i hk
  cases h
  obtain ⟨r,_,_,q,s1,w,p,_⟩:=back_word kw_mut hs
  have:=s1.nil
  subst this
  refine ⟨?_,p,by rw [w];decide⟩
  unfold kindS
  rw [if_neg (by rw [w];decide),if_pos (by rw [w];rfl),q,hk]
 split at h
 ·rename_i hk
  cases h
  obtain ⟨r,_,_,q,s1,w,p,_⟩:=back_word kw_sub hs
  have:=s1.nil
  subst this
  refine ⟨?_,p,by rw [w];decide⟩
  unfold kindS
  rw [if_neg (by rw [w];decide),if_neg (by rw [w];decide),if_pos (by rw [w];rfl),q,hk]
 ·cases h
theorem back_op {x : Oq} {us : List Bs} {l m : List Tok} (h : opW x = some us) (hs : Sy us l m) : Bk (goodO x) (opS l) (ctO x) m ∧ isW fragB l = false ∧ isP [] l = false:=by
 obtain ⟨k,n,vs,ds,ss⟩:=x
 unfold opW at h
 dsimp only at h
 split at h
 ·rename_i h0
  obtain ⟨h1,h2,h3,h4⟩:=h0
  have e1 : vs = []:=List.length_eq_zero_iff.1 h3
  have e2 : ds = []:=List.length_eq_zero_iff.1 h4
  subst h1 h2 e1 e2
  obtain ⟨p1,w1,_⟩:=set_first h hs
  refine ⟨?_,w1 _,sgn_no p1 (by decide)⟩
  unfold opS
  rw [if_pos (by rw [p1];rfl)]
  refine Bk.eq (g':=goodSet 32 ss) (by simp [goodO]) ((back_set 32 ss us l m h hs).end ?_)
  simp [ctO]
 ·obtain ⟨a1,b1,h1,g1,rfl⟩:=andW_some h
  obtain ⟨a2,b2,h2,g2,rfl⟩:=andW_some g1
  obtain ⟨a3,b3,h3,g3,rfl⟩:=andW_some g2
  obtain ⟨a4,a5,h4,h5,rfl⟩:=andW_some g3
  obtain ⟨r1,s1,t1⟩:=hs.app
  obtain ⟨r2,s2,t2⟩:=t1.app
  obtain ⟨r3,s3,t3⟩:=t2.app
  obtain ⟨r4,s4,s5⟩:=t3.app
  obtain ⟨e1,p1,f1⟩:=back_kind h1 s1
  have n4:=set_first h5 s5
  obtain ⟨n3,w3,k3⟩:=dirs_next h4 s4 n4
  obtain ⟨d1,_⟩:=back_dirs h4 s4 (sgn_no n4.1 (by decide)) (sgn_no n4.1 (by decide))
  obtain ⟨v1,v2⟩:=back_vars h3 s3 (by rcases n3 with q | q <;> exact sgn_no q (by decide))
  have k2 : ∀ k,isK k r2 = (0 == k):=by
   rcases v2 with rfl | _
   ·exact k3
   ·unfold varsW at h3
    split at h3
    ·cases h3
     have:=s3.nil
     subst this
     exact k3
    ·exact (inW_first (sg 40 rfl) h3 s3).2.2
  have e2 : titleS r1 = .ok (n,r2):=by
   unfold titleS
   split at h2
   ·rename_i hn
    cases h2
    have:=s2.nil
    subst this
    rw [if_neg (by rw [k2];decide),hn]
   ·obtain ⟨q1,_,_,q4⟩:=back_name h2 s2
    rw [if_pos (by rw [q4];rfl),q1]
  refine ⟨?_,f1,p1 _⟩
  unfold opS
  rw [if_neg (by rw [p1];simp)]
  unfold goodO
  exact bk_go e1 (bk_go e2 (v1.go (d1.go ((back_set 32 ss _ _ _ h5 s5).end rfl))))
theorem back_frag {x : Fg} {us : List Bs} {l m : List Tok} (h : fragW x = some us) (hs : Sy us l m) : Bk (goodF x) (fragS l.tail) (ctF x) m ∧ isW fragB l = true ∧ isP [] l = false:=by
 obtain ⟨n,o,ds,ss⟩:=x
 unfold fragW at h
 dsimp only at h
 obtain ⟨a1,b1,h1,g1,rfl⟩:=andW_some h
 cases h1
 obtain ⟨a2,b2,h2,g2,rfl⟩:=andW_some g1
 obtain ⟨a3,b3,h3,g3,rfl⟩:=andW_some g2
 obtain ⟨a4,a5,h4,h5,rfl⟩:=andW_some g3
 obtain ⟨a6,b6,h6,g6,rfl⟩:=andW_some h3
 cases h6
 obtain ⟨r1,_,_,rfl,t1,w1,p1,_⟩:=back_word (us:=a2 ++ (([onB] ++ b6) ++ (a4 ++ a5))) kw_frag hs
 obtain ⟨r2,s2,t2⟩:=t1.app
 obtain ⟨r3,s3,t3⟩:=t2.app
 obtain ⟨r4,s4,s5⟩:=t3.app
 obtain ⟨q2,q3⟩:=back_but h2 s2
 obtain ⟨e2,_,w2,_⟩:=back_name q2 s2
 obtain ⟨r6,e6,_,_,s6,_⟩:=back_word (us:=b6) kw_on s3
 obtain ⟨e3,_⟩:=back_name g6 s6
 have n4:=set_first h5 s5
 obtain ⟨d1,_⟩:=back_dirs h4 s4 (sgn_no n4.1 (by decide)) (sgn_no n4.1 (by decide))
 refine ⟨?_,by rw [w1];rfl,p1 _⟩
 have e0 : notOn l.tail = .ok ((),l.tail):=by
  unfold notOn
  rw [if_neg (by
   rw [w2]
   have : n ≠ onB:=by simpa using q3
   simpa using this)]
 unfold fragS goodF
 exact bk_go e0 (bk_go e2 (bk_go e6 (bk_go e3 (d1.go ((back_set 32 ss _ _ _ h5 s5).end rfl)))))
/-! ### The whole -/
def itemW : Oq ⊕ Fg → Option (List Bs)
 | .inl x => opW x
 | .inr x => fragW x
def ctI : Oq ⊕ Fg → Bool × List CT
 | .inl x => (false,ctO x)
 | .inr x => (true,ctF x)
def goodI : Oq ⊕ Fg → Bool
 | .inl x => goodO x
 | .inr x => goodF x
theorem item_first (x : Oq ⊕ Fg) (us : List Bs) (l m : List Tok) (h : itemW x = some us) (hs : Sy us l m) : isP [] l = false:=by
 cases x with
 | inl x => exact (back_op h hs).2.2
 | inr x => exact (back_frag h hs).2.2
theorem back_item : BackE (fun _ => True) itemW ctI itemS goodI:=by
 refine ⟨itemS_eats,fun x us l m h hs _ => ?_,fun _ _ _ _ _ _ => trivial⟩
 cases x with
 | inl x =>
  obtain ⟨h1,h2,_⟩:=back_op h hs
  unfold itemS
  rw [if_neg (by rw [h2];simp)]
  exact h1.end rfl
 | inr x =>
  obtain ⟨h1,h2,_⟩:=back_frag h hs
  unfold itemS
  rw [if_pos h2]
  exact h1.end rfl
theorem rowW_app {α : Type} (g : α → Option (List Bs)) : ∀ (a b : List α),rowW g (a ++ b) = andW (rowW g a) (rowW g b)
 | [],b => by rw [List.nil_append,rowW,andW_nil]
 | x :: a,b => by rw [List.cons_append,rowW,rowW,rowW_app g a b,andW_assoc]
theorem rowW_map {α β : Type} (g : β → Option (List Bs)) (f : α → β) : ∀ (a : List α),rowW g (a.map f) = rowW (fun x => g (f x)) a
 | [] => rfl
 | x :: a => by rw [List.map_cons,rowW,rowW,rowW_map g f a]
def goodDoc (os : List Oq) (fs : List Fg) : Bool:=os.all goodO && fs.all goodF
abbrev ctDoc (os : List Oq) (fs : List Fg) : List CT:=[rowC 51 5 (os.map ctO),rowC 65 4 (fs.map ctF)]
theorem opsOf_ops (os : List Oq) (fs : List Fg) : opsOf ((os.map Sum.inl ++ fs.map Sum.inr).map ctI) = os.map ctO ∧ fragsOf ((os.map Sum.inl ++ fs.map Sum.inr).map ctI) = fs.map ctF:=by
 have f1 : ((os.map Sum.inl).map ctI).filter (fun x => !x.1) = (os.map Sum.inl).map ctI:=List.filter_eq_self.2 fun x hx => by
  simp only [List.map_map,List.mem_map,Function.comp_apply] at hx
  obtain ⟨y,_,rfl⟩:=hx
  rfl
 have f2 : ((fs.map Sum.inr).map ctI).filter (fun x => !x.1) = []:=List.filter_eq_nil_iff.2 fun x hx => by
  simp only [List.map_map,List.mem_map,Function.comp_apply] at hx
  obtain ⟨y,_,rfl⟩:=hx
  simp [ctI]
 have f3 : ((os.map Sum.inl).map ctI).filter (fun x => x.1) = []:=List.filter_eq_nil_iff.2 fun x hx => by
  simp only [List.map_map,List.mem_map,Function.comp_apply] at hx
  obtain ⟨y,_,rfl⟩:=hx
  simp [ctI]
 have f4 : ((fs.map Sum.inr).map ctI).filter (fun x => x.1) = (fs.map Sum.inr).map ctI:=List.filter_eq_self.2 fun x hx => by
  simp only [List.map_map,List.mem_map,Function.comp_apply] at hx
  obtain ⟨y,_,rfl⟩:=hx
  rfl
 unfold opsOf fragsOf
 rw [List.map_append,List.filter_append,List.filter_append,f1,f2,f3,f4]
 simp [List.map_map,Function.comp_def,ctI]
theorem docW_row {os : List Oq} {fs : List Fg} {us : List Bs} (h : docW os fs = some us) : os.map Sum.inl ++ fs.map Sum.inr ≠ ([] : List (Oq ⊕ Fg)) ∧ rowW itemW (os.map Sum.inl ++ fs.map Sum.inr) = some us:=by
 unfold docW at h
 split at h
 ·cases h
 ·rename_i h0
  refine ⟨fun e => h0 ?_,?_⟩
  ·rw [List.append_eq_nil_iff,List.map_eq_nil_iff,List.map_eq_nil_iff] at e
   rw [e.1,e.2]
   exact ⟨rfl,rfl⟩
  ·rw [rowW_app,rowW_map,rowW_map]
   exact h
theorem back_doc {os : List Oq} {fs : List Fg} {us : List Bs} {l : List Tok} {N : Nat} (h : docW os fs = some us) (hs : Sy us l [eofT N]) : Bk (goodDoc os fs) (docS l) (ctDoc os fs) []:=by
 obtain ⟨h0,h1⟩:=docW_row h
 have A:=back_some back_item (last:=[]) (z:=eofT N) (m:=[]) (by rfl) trivial item_first _ h0 us l h1 hs
 obtain ⟨o1,o2⟩:=opsOf_ops os fs
 have hg : (os.map Sum.inl ++ fs.map Sum.inr : List (Oq ⊕ Fg)).all goodI = goodDoc os fs:=by simp [goodDoc,List.all_append,List.all_map,Function.comp_def,goodI]
 rw [hg] at A
 unfold docS
 refine A.end ?_
 show (Except.ok ([rowC 51 5 (opsOf _),rowC 65 4 (fragsOf _)],[]) : Rs (List CT)) = _
 rw [o1,o2]
/-- What is written is read back, if it is short enough and nowhere too deep. -/
theorem parse_back {os : List Oq} {fs : List Fg} {us : List Bs} (h : docW os fs = some us) (hk : ∀ u ∈ us,OkU u) (h1 : us.length ≤ 2048) (h2 : (joinW us).length ≤ 16384) : if goodDoc os fs = true then parseS (joinW us) = .ok (ctDoc os fs) else ∃ p,parseS (joinW us) = .error p:=by
 obtain ⟨ts,e,hs⟩:=lex_join hk h1 h2
 have B:=back_doc (N:=(joinW us).length) (l:=ts ++ [eofT (joinW us).length]) h ⟨ts,rfl,hs⟩
 unfold parseS
 rw [e]
 cases hg : goodDoc os fs with
 | true =>
  rw [if_pos rfl]
  simp only [B.yes hg]
 | false =>
  rw [if_neg (by simp)]
  obtain ⟨p,ep⟩:=B.no hg
  exact ⟨p,by simp only [ep]⟩
end Go.Proofs.YtgmlbjfgfmfliaaGreatDoor
namespace Go.Proofs.YtgmlbjfgfmfliaaGreatDoor
open Go Go.RowKit
/-- All that is written are tokens. -/
def AllU (x : Option (List Bs)) : Prop:=∀ us,x = some us → ∀ u ∈ us,OkU u
theorem allU_none : AllU none:=fun _ h => by cases h
theorem allU_nil : AllU (some []):=fun _ h u hu => by cases h;cases hu
theorem allU_one {u : Bs} (h : OkU u) : AllU (some [u]):=fun _ e v hv => by
 cases e
 simp at hv
 rw [hv];exact h
theorem AllU.and {x y : Option (List Bs)} (hx : AllU x) (hy : AllU y) : AllU (andW x y):=fun us h u hu => by
 obtain ⟨a,b,h1,h2,rfl⟩:=andW_some h
 rcases List.mem_append.1 hu with hu | hu
 ·exact hx a h1 u hu
 ·exact hy b h2 u hu
theorem AllU.ite {c : Prop} [Decidable c] {x y : Option (List Bs)} (hx : AllU x) (hy : AllU y) : AllU (if c then x else y):=by
 split
 ·exact hx
 ·exact hy
theorem sgU (c : UInt8) (h : punL.contains c = true) : AllU (some [[c]]):=allU_one (okU_sign h).1
theorem AllU.within {x : Option (List Bs)} (h : AllU x) (c d : UInt8) (hc : punL.contains c = true) (hd : punL.contains d = true) : AllU (inW [c] x [d]):=(sgU c hc).and (h.and (sgU d hd))
theorem nameU (s : Bs) : AllU (nameW s):=by
 unfold nameW
 split
 ·rename_i h
  exact allU_one (okU_name h).1
 ·exact allU_none
theorem butU (bs : List Bs) (s : Bs) : AllU (butW bs s):=by
 unfold butW
 split
 ·rename_i h
  exact allU_one (okU_name (Bool.and_eq_true _ _ ▸ h : nameK s = true ∧ _).1).1
 ·exact allU_none
theorem varU (s : Bs) : AllU (varW s):=(sgU 36 rfl).and (nameU s)
theorem wordU {u : Bs} (h : kt u = (1,u)) (h2 : tokS u = .ok 1 u []) : AllU (some [u]):=allU_one (by unfold OkU;rw [h];exact h2)
theorem leafU (fx : Bool) (k : Int) (t : Bs) : AllU (leafW fx k t):=by
 unfold leafW
 refine AllU.ite (AllU.ite (wordU kw_null rfl) allU_none) (AllU.ite (AllU.ite (wordU kw_false rfl) allU_none) (AllU.ite (AllU.ite (wordU kw_true rfl) allU_none) (AllU.ite (AllU.ite allU_none (varU t)) (AllU.ite ?_ (AllU.ite ?_ (AllU.ite ?_ (AllU.ite (butU _ _) allU_none)))))))
 ·split
  ·rename_i h;exact allU_one (okU_num h (Or.inl rfl)).1
  ·exact allU_none
 ·split
  ·rename_i h;exact allU_one (okU_num h (Or.inr rfl)).1
  ·exact allU_none
 ·unfold textW
  split
  ·rename_i h;exact allU_one (okU_quo h.2).1
  ·exact allU_none
mutual
theorem valU (fx : Bool) : ∀ v : Vl,AllU (valW fx v)
 | .mk k t vs ns => by
  rw [valW]
  exact AllU.ite (AllU.ite ((valsU fx vs).within 91 93 rfl rfl) allU_none) (AllU.ite (AllU.ite ((memsU fx ns vs).within 123 125 rfl rfl) allU_none) (AllU.ite (leafU fx k t) allU_none))
theorem valsU (fx : Bool) : ∀ l : List Vl,AllU (valsW fx l)
 | [] => by rw [valsW];exact allU_nil
 | v :: l => by rw [valsW];exact (valU fx v).and (valsU fx l)
theorem memsU (fx : Bool) : ∀ (ns : List Bs) (l : List Vl),AllU (memsW fx ns l)
 | n :: ns,v :: l => by rw [memsW];exact ((nameU n).and ((sgU 58 rfl).and (valU fx v))).and (memsU fx ns l)
 | [],[] => by rw [memsW];exact allU_nil
 | _ :: _,[] => by rw [memsW];exact allU_nil
 | [],_ :: _ => by rw [memsW];exact allU_nil
end
theorem rowU {α : Type} {g : α → Option (List Bs)} (h : ∀ x,AllU (g x)) : ∀ l : List α,AllU (rowW g l)
 | [] => allU_nil
 | x :: l => (h x).and (rowU h l)
theorem argU (fx : Bool) (x : Ar) : AllU (argW fx x):=(nameU _).and ((sgU 58 rfl).and (valU fx _))
theorem argsU (fx : Bool) (l : List Ar) : AllU (argsW fx l):=AllU.ite allU_nil ((rowU (argU fx) l).within 40 41 rfl rfl)
theorem dirU (fx : Bool) (x : Dr) : AllU (dirW fx x):=(sgU 64 rfl).and ((nameU _).and (argsU fx _))
theorem dirsU (fx : Bool) (l : List Dr) : AllU (dirsW fx l):=rowU (dirU fx) l
theorem onU (o : Bs) : AllU (onW o):=(wordU kw_on rfl).and (nameU o)
theorem dotsU : AllU (some [dotsB]):=allU_one okU_dots.1
mutual
theorem selU : ∀ x : Se,AllU (selW x)
 | .mk k a n o az ds ss => by
  rw [selW]
  exact AllU.ite (AllU.ite ((AllU.ite allU_nil ((nameU a).and (sgU 58 rfl))).and ((nameU n).and ((argsU _ _).and ((dirsU _ _).and (AllU.ite allU_nil ((selsU ss).within 123 125 rfl rfl)))))) allU_none)
   (AllU.ite (AllU.ite (dotsU.and ((butU _ _).and (dirsU _ _))) allU_none)
   (AllU.ite (AllU.ite (dotsU.and ((AllU.ite allU_nil (onU o)).and ((dirsU _ _).and (AllU.ite allU_none ((selsU ss).within 123 125 rfl rfl))))) allU_none) allU_none))
theorem selsU : ∀ l : List Se,AllU (selsW l)
 | [] => by rw [selsW];exact allU_nil
 | x :: l => by rw [selsW];exact (selU x).and (selsU l)
end
theorem setU (l : List Se) : AllU (setW l):=AllU.ite allU_none ((rowU selU l).within 123 125 rfl rfl)
theorem refU (t : Bs) : ∀ r : Bs,AllU (refW t r)
 | [] => nameU t
 | c :: r => by
  rw [refW_cons]
  exact AllU.ite ((refU t r).within 91 93 rfl rfl) (AllU.ite (AllU.ite allU_none ((refU t r).and (sgU 33 rfl))) allU_none)
theorem varDefU (x : Va) : AllU (varDefW x):=(varU _).and ((sgU 58 rfl).and ((refU _ _).and ((AllU.ite ((sgU 61 rfl).and (valU _ _)) (AllU.ite allU_nil allU_none)).and (dirsU _ _))))
theorem varsU (l : List Va) : AllU (varsW l):=AllU.ite allU_nil ((rowU varDefU l).within 40 41 rfl rfl)
theorem kindU (k : Int) : AllU (kindW k):=AllU.ite (wordU kw_query rfl) (AllU.ite (wordU kw_mut rfl) (AllU.ite (wordU kw_sub rfl) allU_none))
theorem opU (x : Oq) : AllU (opW x):=AllU.ite (setU _) ((kindU _).and ((AllU.ite allU_nil (nameU _)).and ((varsU _).and ((dirsU _ _).and (setU _)))))
theorem fragU (x : Fg) : AllU (fragW x):=(wordU kw_frag rfl).and ((butU _ _).and ((onU _).and ((dirsU _ _).and (setU _))))
theorem docU (os : List Oq) (fs : List Fg) : AllU (docW os fs):=AllU.ite allU_none ((rowU opU os).and (rowU fragU fs))
/-! ### What is told of a document -/
/-- Is what is written short enough to be read? -/
def Short (us : List Bs) : Prop:=us.length ≤ 2048 ∧ (joinW us).length ≤ 16384
theorem lex_short {s : Bs} {ts : List Tok} (h : lexS s = .inr ts) : s.length ≤ 16384:=(lexS_full h).2.1
theorem parse_yes {os : List Oq} {fs : List Fg} {us : List Bs} (h : docW os fs = some us) (h1 : Short us) (h2 : goodDoc os fs = true) : parseS (joinW us) = .ok (ctDoc os fs):=by
 have:=parse_back h (docU os fs us h) h1.1 h1.2
 rw [if_pos h2] at this
 exact this
theorem parse_inv {os : List Oq} {fs : List Fg} {us : List Bs} {x : List CT} (h : docW os fs = some us) (hp : parseS (joinW us) = .ok x) : Short us ∧ goodDoc os fs = true ∧ x = ctDoc os fs:=by
 have hU:=docU os fs us h
 have hl : ∃ ts,lexS (joinW us) = .inr ts:=by
  unfold parseS at hp
  split at hp
  ·cases hp
  ·rename_i ts e
   exact ⟨ts,e⟩
 obtain ⟨ts,e⟩:=hl
 have hS : Short us:=by
  refine ⟨?_,lex_short e⟩
  refine Nat.le_of_not_lt fun hlt => ?_
  obtain ⟨p,e2⟩:=lex_many hU hlt
  rw [e] at e2
  cases e2
 have:=parse_back h hU hS.1 hS.2
 split at this
 ·rename_i hg
  rw [hp] at this
  injection this with this
  exact ⟨hS,hg,this⟩
 ·obtain ⟨p,e3⟩:=this
  rw [hp] at e3
  cases e3
/-- What Print tells, put another way. -/
theorem printP_some {os : List Oq} {fs : List Fg} {s : Bs} : printP os fs = some s ↔ ∃ us,docW os fs = some us ∧ Short us ∧ goodDoc os fs = true ∧ s = joinW us:=by
 unfold printP takenP
 constructor
 ·intro h
  split at h
  ·cases h
  ·rename_i us hd
   rw [List.nil_append,List.append_nil] at h
   split at h
   ·cases h
   ·rename_i x hp
    injection h with h
    obtain ⟨h1,h2,_⟩:=parse_inv hd hp
    exact ⟨us,hd,h1,h2,h.symm⟩
 ·rintro ⟨us,hd,h1,h2,rfl⟩
  rw [hd]
  simp only [List.nil_append,List.append_nil]
  rw [parse_yes hd h1 h2]
theorem print_parse {os : List Oq} {fs : List Fg} {s : Bs} (h : printP os fs = some s) : parseS s = .ok (ctDoc os fs):=by
 obtain ⟨us,hd,h1,h2,rfl⟩:=printP_some.1 h
 exact parse_yes hd h1 h2
end Go.Proofs.YtgmlbjfgfmfliaaGreatDoor
