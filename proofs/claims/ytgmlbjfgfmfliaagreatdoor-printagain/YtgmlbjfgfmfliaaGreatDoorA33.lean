/- Documents that are read can be written: plain mathematics. -/
import Derived.Test.YtgmlbjfgfmfliaaGreatDoorA20
import Derived.Test.YtgmlbjfgfmfliaaGreatDoorA21
import Derived.Test.YtgmlbjfgfmfliaaGreatDoorA27
namespace Go.Proofs.YtgmlbjfgfmfliaaGreatDoor
open Go Go.RowKit Go.Lib
attribute [local irreducible] srcB unitS halfS
set_option maxRecDepth 100000 in
set_option maxHeartbeats 4000000 in
/-- What is decoded has these bytes; the sum that the document takes of them is it. -/
theorem decN_enc (m b0 b1 b2 b3 : Nat) (h0 : b0 < 256) (h : decodeN m b0 b1 b2 b3 ≠ (65533,1)) :
    (encL (decodeN m b0 b1 b2 b3).1).length = (decodeN m b0 b1 b2 b3).2 ∧
    (∀ i x,(encL (decodeN m b0 b1 b2 b3).1)[i]? = some x → x = (if i = 0 then b0 else if i = 1 then b1 else if i = 2 then b2 else b3)):=by
  revert h
  unfold decodeN
  repeat' split
  all_goals first
    | (intro h;exact absurd rfl h)
    | (intro _
       unfold encL
       dsimp only
       repeat' split
       all_goals first
         | (exfalso;omega)
         | (refine ⟨rfl,?_⟩
            intro i x hx
            match i,hx with
            | 0,hx => simp at hx;simp;omega
            | 1,hx => simp at hx;try (simp;omega)
            | 2,hx => simp at hx;try (simp;omega)
            | 3,hx => simp at hx;try (simp;omega)
            | _ + 4,hx => simp at hx))
theorem enc_of_dec (s : ByteArray) (p : Nat) (hp : p < s.size) (h : Utf8.decode s p ≠ (65533,1)) :
  charB ((Utf8.decode s p).1 : Int) = true ∧ (Utf8.encode ((Utf8.decode s p).1 : Int)).size = (Utf8.decode s p).2 ∧ s.extract p (p + (Utf8.decode s p).2) = Utf8.encode ((Utf8.decode s p).1 : Int):=by
 have hc : charB ((Utf8.decode s p).1 : Int) = true:=((dec_len s p).resolve_left h).2
 have hs:=encode_size _ hc
 have hw:=dec_w s p hp
 unfold stW at hw
 have hd:=decode_at s p
 rw [hd] at h
 have hk:=decN_enc _ _ _ _ _ (byte_lt _) h
 rw [← hd] at hk
 refine ⟨hc,by omega,?_⟩
 have hz:=size_cut s p (p + (Utf8.decode s p).2) (by omega)
 refine ext_get (by omega) fun i hi => ?_
 have hi2 : i < (encL (Utf8.decode s p).1).length:=by omega
 rw [get_cut s p _ i (by omega) (by omega)]
 apply UInt8.toNat_inj.1
 rw [encode_get _ hc i hi2,hk.2 i _ (List.getElem?_eq_getElem hi2),idx4 s p i (by omega)]
theorem sF_tail_iff (s t : ByteArray) : ∀ (n q : Nat),t.size - q ≤ n → (sF (s ++ t) (s.size + q) = (0,0) ↔ sF t q = (0,0)):=by
 intro n
 induction n with
 | zero =>
  intro q hq
  rw [sF_end _ _ (by rw [ByteArray.size_append];omega),sF_end t q (by omega)]
 | succ n ih =>
  intro q hq
  by_cases hlt : q < t.size
  ·have hw:=dec_w t q hlt
   obtain ⟨e1,e2⟩:=stC_eq (dec_app2 s t q)
   rw [sF_step t q hlt,sF_step _ _ (by rw [ByteArray.size_append];omega),e1,e2]
   by_cases hc : sourceB (stC t q) = true
   ·rw [if_pos hc,if_pos hc,Nat.add_assoc]
    exact ih _ (by omega)
   ·rw [if_neg hc,if_neg hc]
    constructor
    ·intro h;exact absurd (congrArg Prod.snd h) (by simp)
    ·intro h;exact absurd (congrArg Prod.snd h) (by simp)
  ·rw [sF_end _ _ (by rw [ByteArray.size_append];omega),sF_end t q hlt]
theorem src_iff (x : Bs) : srcB x = none ↔ sF ⟨x.toArray⟩ 0 = (0,0):=⟨sF_none,src_of⟩
theorem mk_app (x y : Bs) : (ByteArray.mk (x ++ y).toArray) = ByteArray.mk x.toArray ++ ByteArray.mk y.toArray:=by
 apply ByteArray.ext;simp
theorem mk_size (x : Bs) : (ByteArray.mk x.toArray).size = x.length:=by
 show x.toArray.size = _
 simp
/-- The source character at the head: how many bytes it has. -/
def srcH (l : Bs) : Option Nat:=if l ≠ [] ∧ sourceB (stC ⟨l.toArray⟩ 0) = true then some (stW ⟨l.toArray⟩ 0) else none
theorem srcH_facts {l : Bs} {k : Nat} (h : srcH l = some k) : 1 ≤ k ∧ k ≤ l.length ∧ sourceB (stC ⟨l.toArray⟩ 0) = true ∧ stW ⟨l.toArray⟩ 0 = k:=by
 unfold srcH at h
 split at h
 ·rename_i hc
  have hk : stW ⟨l.toArray⟩ 0 = k:=by simpa using h
  have:=dec_w ⟨l.toArray⟩ 0 (by rw [mk_size];exact List.length_pos_iff.2 hc.1)
  rw [mk_size,hk] at this
  exact ⟨this.1,by omega,hc.2,hk⟩
 ·cases h
/-- A source character ahead: what is behind it decides. -/
theorem src_head {l : Bs} {k : Nat} (h : srcH l = some k) : srcB l = none ↔ srcB (l.drop k) = none:=by
 obtain ⟨h1,h2,h3,h4⟩:=srcH_facts h
 rw [src_iff,src_iff,sF_step _ _ (by rw [mk_size];omega),if_pos h3,h4,Nat.zero_add]
 have e:=mk_app (l.take k) (l.drop k)
 rw [List.take_append_drop] at e
 rw [e]
 have hs : (ByteArray.mk (l.take k).toArray).size = k:=by rw [mk_size,List.length_take];omega
 have ht:=sF_tail_iff ⟨(l.take k).toArray⟩ ⟨(l.drop k).toArray⟩ _ 0 (Nat.le_refl _)
 rw [hs,Nat.add_zero] at ht
 exact ht
/-- Source characters alone: the first one is there. -/
theorem src_first {x : Bs} (hx : x ≠ []) (h : srcB x = none) : ∃ k,srcH x = some k:=by
 rw [src_iff,sF_step _ _ (by rw [mk_size];exact List.length_pos_iff.2 hx)] at h
 by_cases hc : sourceB (stC ⟨x.toArray⟩ 0) = true
 ·exact ⟨_,if_pos ⟨hx,hc⟩⟩
 ·rw [if_neg hc] at h;cases h
theorem src_ge {c : Int} (h : sourceB c = true) : c ≤ 65535:=by
 unfold sourceB at h
 simp only [Bool.or_eq_true,beq_iff_eq,Bool.and_eq_true,decide_eq_true_eq] at h
 omega
/-- The source character at the head is a number's bytes. -/
theorem srcH_unit {l : Bs} {k : Nat} (h : srcH l = some k) : ∃ n,n < 65536 ∧ l.take k = unitS n:=by
 obtain ⟨h1,h2,h3,h4⟩:=srcH_facts h
 have hne : Utf8.decode ⟨l.toArray⟩ 0 ≠ (65533,1):=source_dec h3
 obtain ⟨g1,g2,g3⟩:=enc_of_dec ⟨l.toArray⟩ 0 (by rw [mk_size];omega) hne
 have hst : stC ⟨l.toArray⟩ 0 = ((Utf8.decode ⟨l.toArray⟩ 0).1 : Int):=by unfold stC;rw [if_neg hne]
 have hk : (Utf8.decode ⟨l.toArray⟩ 0).2 = k:=h4
 rw [hk,Nat.zero_add,take_mk] at g3
 have hg:=src_ge h3
 rw [hst] at hg
 generalize (Utf8.decode ⟨l.toArray⟩ 0).1 = n at *
 have hv:=(valid_char n g1).2.2
 refine ⟨n,by omega,?_⟩
 rw [unitS_else n (by omega),← g3]
/-- Characters, one behind the other: of numbers below 65536, halves too. -/
inductive Ch : Bs → Prop
 | nil : Ch []
 | cons (n : Nat) (h : n < 65536) {s : Bs} (hs : Ch s) : Ch (unitS n ++ s)
theorem Ch.app {a b : Bs} (ha : Ch a) (hb : Ch b) : Ch (a ++ b):=by
 induction ha with
 | nil => exact hb
 | cons n h _ ih => rw [List.append_assoc];exact .cons n h ih
theorem Ch.qd {s : Bs} (h : Ch s) : ∃ q,Qd s q:=by
 induction h with
 | nil => exact ⟨[],Qd.nil⟩
 | cons n h _ ih =>
  obtain ⟨q,hq⟩:=ih
  obtain ⟨p,hp⟩:=Qd.unit n h
  exact ⟨p ++ q,hp.app hq⟩
theorem Ch.unit {n : Nat} (h : n < 65536) : Ch (unitS n):=by
 have:=Ch.cons n h .nil
 rwa [List.append_nil] at this
theorem Ch.one {c : UInt8} (h : c.toNat < 128) : Ch [c]:=by
 have:=Ch.unit (n:=c.toNat) (by omega)
 rwa [unit_ascii _ h,UInt8.ofNat_toNat] at this
theorem unit_hi {n : Nat} (h1 : ¬ n < 128) (h2 : n < 65536) : (unitS n).length ≤ 3 ∧ ∀ c ∈ unitS n,128 ≤ c.toNat:=by
 by_cases hs : 55296 ≤ n ∧ n ≤ 57343
 ·have e : unitS n = [(224 + n / 4096).toUInt8,(128 + n / 64 % 64).toUInt8,(128 + n % 64).toUInt8]:=by
   have e : unitS n = halfS n:=by
    unfold unitS
    rw [if_pos hs]
   rw [e]
   unfold halfS
   rfl
  rw [e]
  refine ⟨by simp,fun c hc => ?_⟩
  simp only [List.mem_cons,List.not_mem_nil,or_false] at hc
  rcases hc with rfl | rfl | rfl <;> simp [Nat.toUInt8] <;> omega
 ·have hl : unitS n = (encL n).map UInt8.ofNat:=by rw [unitS_else n hs,encode_list n (charB_small _ (by omega) (by omega) (by omega))]
  rw [hl]
  unfold encL
  rw [if_neg h1]
  split
  ·refine ⟨by simp,fun c hc => ?_⟩
   simp only [List.map_cons,List.map_nil,List.mem_cons,List.not_mem_nil,or_false] at hc
   rcases hc with rfl | rfl <;> simp <;> omega
  ·refine ⟨by simp,fun c hc => ?_⟩
   simp only [List.map_cons,List.map_nil,List.mem_cons,List.not_mem_nil,or_false] at hc
   rcases hc with rfl | rfl | rfl <;> simp <;> omega
theorem unit_len {n : Nat} (h2 : n < 65536) : (unitS n).length ≤ 3:=by
 by_cases h1 : n < 128
 ·rw [unit_ascii n h1];simp
 ·exact (unit_hi h1 h2).1
/-- A text of characters, cut at a byte below 128. -/
theorem Ch.cut {c : UInt8} (hc : c.toNat < 128) {b : Bs} : ∀ {s : Bs},Ch s → ∀ a,s = a ++ c :: b → Ch a ∧ Ch b:=by
 intro s h
 induction h with
 | nil => intro a e;simp at e
 | @cons n hn s' hs ih =>
  intro a e
  by_cases h1 : n < 128
  ·rw [unit_ascii n h1] at e
   cases a with
   | nil =>
    simp only [List.cons_append,List.nil_append,List.cons.injEq] at e
    exact ⟨.nil,by rw [← e.2];exact hs⟩
   | cons x a' =>
    simp only [List.cons_append,List.nil_append,List.cons.injEq] at e
    obtain ⟨i1,i2⟩:=ih a' e.2
    refine ⟨?_,i2⟩
    have:=Ch.cons n hn i1
    rw [unit_ascii n h1,e.1] at this
    exact this
  ·obtain ⟨_,u2⟩:=unit_hi h1 hn
   rcases List.append_eq_append_iff.1 e with ⟨a',h2,h3⟩ | ⟨c',h2,h3⟩
   ·obtain ⟨i1,i2⟩:=ih a' h3
    rw [h2]
    exact ⟨.cons n hn i1,i2⟩
   ·cases c' with
    | nil =>
     rw [List.append_nil] at h2
     rw [List.nil_append] at h3
     obtain ⟨_,i2⟩:=ih [] h3.symm
     rw [← h2]
     exact ⟨.unit hn,i2⟩
    | cons y c'' =>
     exfalso
     simp only [List.cons_append,List.cons.injEq] at h3
     have : y ∈ unitS n:=by rw [h2];simp
     have:=u2 y this
     rw [← h3.1] at this
     omega
theorem Ch.drops : ∀ (a : Bs) {b : Bs},(∀ x ∈ a,x.toNat < 128) → Ch (a ++ b) → Ch b
 | [],_,_,h => h
 | x :: a,_,ha,h => Ch.drops a (fun y hy => ha y (.tail _ hy)) (Ch.cut (ha x (.head _)) h [] rfl).2
theorem ch_src : ∀ (n : Nat) (x : Bs),x.length ≤ n → srcB x = none → Ch x
 | 0,x,hn,_ => by
  cases x with
  | nil => exact .nil
  | cons c r => simp at hn
 | n + 1,x,hn,h => by
  by_cases hx : x = []
  ·subst hx;exact .nil
  ·obtain ⟨k,hk⟩:=src_first hx h
   obtain ⟨h1,h2,_,_⟩:=srcH_facts hk
   obtain ⟨m,hm,e⟩:=srcH_unit hk
   have:=ch_src n (x.drop k) (by rw [List.length_drop];omega) ((src_head hk).1 h)
   have:=Ch.cons m hm this
   rw [← e,List.take_append_drop] at this
   exact this
/-! ### Strings on a line -/
theorem hexV_16 {c : UInt8} {x : Nat} (h : hexV c = some x) : x < 16:=by
 unfold hexV at h
 split at h
 ·cases h;omega
 ·split at h
  ·cases h;omega
  ·split at h
   ·cases h;omega
   ·cases h
theorem hexQ_facts {a b c d : UInt8} {V : Nat} (h : hexQ a b c d = some V) : V < 65536 ∧ a.toNat < 128 ∧ b.toNat < 128 ∧ c.toNat < 128 ∧ d.toNat < 128:=by
 unfold hexQ at h
 obtain ⟨x,hx,h⟩:=Option.bind_eq_some_iff.1 h
 obtain ⟨y,hy,h⟩:=Option.bind_eq_some_iff.1 h
 obtain ⟨z,hz,h⟩:=Option.bind_eq_some_iff.1 h
 obtain ⟨t,ht,h⟩:=Option.bind_eq_some_iff.1 h
 cases h
 have:=hexV_16 hx
 have:=hexV_16 hy
 have:=hexV_16 hz
 have:=hexV_16 ht
 exact ⟨by omega,(hexV_bd hx).2,(hexV_bd hy).2,(hexV_bd hz).2,(hexV_bd ht).2⟩
theorem pre_cons {a : UInt8} {l : Bs} (h : List.isPrefixOf [a] l = true) : ∃ r,l = a :: r:=by
 obtain ⟨r,e⟩:=List.isPrefixOf_iff_prefix.1 h
 exact ⟨r,e.symm⟩
theorem said_low : ∀ (c : UInt8),escL.contains c = true → c.toNat < 128 ∧ (saidL.getD (escL.idxOf c) 0).toNat < 128:=by
 intro c h
 have : c = 34 ∨ c = 92 ∨ c = 47 ∨ c = 98 ∨ c = 102 ∨ c = 110 ∨ c = 114 ∨ c = 116:=by simpa [escL] using h
 rcases this with rfl | rfl | rfl | rfl | rfl | rfl | rfl | rfl <;> decide
theorem ch_esc {l x r : Bs} (h : escS l = some (x,r)) : Ch x ∧ ∃ e,l = e ++ r ∧ (∀ b ∈ e,b.toNat < 128) ∧ x.length ≤ e.length:=by
 unfold escS at h
 split at h
 ·rename_i hu
  obtain ⟨l',rfl⟩:=pre_cons hu
  simp only [List.drop_succ_cons,List.drop_zero] at h
  match l',h with
  | a :: b :: c :: d :: r',h =>
   rw [nmbS_four] at h
   cases hq : hexQ a b c d with
   | none => rw [hq] at h;cases h
   | some V =>
    rw [hq] at h
    simp only [Option.map_some,Option.some.injEq,Prod.mk.injEq] at h
    obtain ⟨rfl,rfl⟩:=h
    obtain ⟨f0,f1,f2,f3,f4⟩:=hexQ_facts hq
    refine ⟨.unit f0,[117,a,b,c,d],rfl,fun y hy => ?_,?_⟩
    ·simp only [List.mem_cons,List.not_mem_nil,or_false] at hy
     rcases hy with rfl | rfl | rfl | rfl | rfl
     ·decide
     all_goals assumption
    ·have:=unit_len f0
     simp only [List.length_cons,List.length_nil]
     omega
 ·match l,h with
  | [],h => cases h
  | c :: r',h =>
   simp only at h
   split at h
   ·rename_i hc
    simp only [Option.some.injEq,Prod.mk.injEq] at h
    obtain ⟨rfl,rfl⟩:=h
    obtain ⟨s1,s2⟩:=said_low c hc
    exact ⟨.one s2,[c],rfl,fun y hy => by simp only [List.mem_singleton] at hy;subst hy;exact s1,by simp⟩
   ·cases h
theorem ch_line : ∀ (n : Nat) (l v r : Bs),lineF n l = some (v,r) → ∃ c,l = c ++ r ∧ v.length + 1 ≤ c.length ∧ ∀ p,Ch (p ++ c) → Ch (p ++ v)
 | 0,_,_,_,h => by cases h
 | n + 1,l,v,r,h => by
  unfold lineF at h
  split at h
  ·rename_i h1
   obtain ⟨l',rfl⟩:=pre_cons h1
   cases h
   refine ⟨[34],rfl,by simp,fun p hp => ?_⟩
   have:=(Ch.cut (c:=34) (by decide) hp p rfl).1
   rwa [List.append_nil]
  ·split at h
   ·rename_i _ h2
    obtain ⟨l',rfl⟩:=pre_cons h2
    simp only [List.drop_succ_cons,List.drop_zero] at h
    obtain ⟨⟨x,r1⟩,he,h⟩:=Option.bind_eq_some_iff.1 h
    obtain ⟨⟨v1,r2⟩,hf,h⟩:=Option.map_eq_some_iff.1 h
    simp only [Prod.mk.injEq] at h
    obtain ⟨rfl,rfl⟩:=h
    obtain ⟨hx,e,rfl,he2,he3⟩:=ch_esc he
    obtain ⟨c,hc1,hc2,hc3⟩:=ch_line n r1 v1 r2 hf
    refine ⟨92 :: (e ++ c),by rw [hc1];simp,by simp only [List.length_cons,List.length_append];omega,fun p hp => ?_⟩
    obtain ⟨q1,q2⟩:=Ch.cut (c:=92) (by decide) hp p rfl
    exact q1.app (hx.app (hc3 [] (Ch.drops e he2 q2)))
   ·match l,h with
    | [],h => cases h
    | b :: r0,h =>
     simp only at h
     split at h
     ·cases h
     ·obtain ⟨⟨v1,r2⟩,hf,h⟩:=Option.map_eq_some_iff.1 h
      simp only [Prod.mk.injEq] at h
      obtain ⟨rfl,rfl⟩:=h
      obtain ⟨c,hc1,hc2,hc3⟩:=ch_line n r0 v1 r2 hf
      refine ⟨b :: c,by rw [hc1];rfl,by simp only [List.length_cons];omega,fun p hp => ?_⟩
      have:=hc3 (p ++ [b]) (by simpa using hp)
      simpa using this
/-! ### Block strings -/
theorem ch_raw : ∀ (n : Nat) (l v r : Bs),rawF n l = some (v,r) → ∃ c,l = c ++ r ∧ v.length + 3 ≤ c.length ∧ ∀ p,Ch (p ++ c) → Ch (p ++ v)
 | 0,_,_,_,h => by cases h
 | n + 1,l,v,r,h => by
  unfold rawF at h
  split at h
  ·rename_i h1
   obtain ⟨l',e⟩:=List.isPrefixOf_iff_prefix.1 h1
   subst e
   cases h
   refine ⟨[34,34,34],rfl,by simp,fun p hp => ?_⟩
   have:=(Ch.cut (c:=34) (b:=[34,34]) (by decide) hp p rfl).1
   rwa [List.append_nil]
  ·split at h
   ·rename_i _ h2
    obtain ⟨l',e⟩:=List.isPrefixOf_iff_prefix.1 h2
    subst e
    simp only [List.cons_append,List.nil_append,List.drop_succ_cons,List.drop_zero] at h
    obtain ⟨⟨v1,r2⟩,hf,h⟩:=Option.map_eq_some_iff.1 h
    simp only [Prod.mk.injEq] at h
    obtain ⟨rfl,rfl⟩:=h
    obtain ⟨c,hc1,hc2,hc3⟩:=ch_raw n l' v1 r2 hf
    refine ⟨92 :: 34 :: 34 :: 34 :: c,by rw [hc1];rfl,by simp only [List.length_cons];omega,fun p hp => ?_⟩
    obtain ⟨q1,q2⟩:=Ch.cut (c:=92) (by decide) hp p rfl
    have q3:=hc3 [] (Ch.drops [34,34,34] (by decide) q2)
    exact q1.app ((Ch.one (c:=34) (by decide)).app ((Ch.one (c:=34) (by decide)).app ((Ch.one (c:=34) (by decide)).app q3)))
   ·match l,h with
    | [],h => cases h
    | b :: r0,h =>
     simp only at h
     obtain ⟨⟨v1,r2⟩,hf,h⟩:=Option.map_eq_some_iff.1 h
     simp only [Prod.mk.injEq] at h
     obtain ⟨rfl,rfl⟩:=h
     obtain ⟨c,hc1,hc2,hc3⟩:=ch_raw n r0 v1 r2 hf
     refine ⟨b :: c,by rw [hc1];rfl,by simp only [List.length_cons];omega,fun p hp => ?_⟩
     have:=hc3 (p ++ [b]) (by simpa using hp)
     simpa using this
theorem ch_norm : ∀ (n : Nat) (l : Bs),l.length ≤ n → (normS l).length ≤ l.length ∧ ∀ p,Ch (p ++ l) → Ch (p ++ normS l)
 | _,[],_ => ⟨by simp [normS],fun p h => by simpa [normS] using h⟩
 | _,[c],_ => by
  refine ⟨by simp [normS],fun p h => ?_⟩
  unfold normS
  split
  ·rename_i e
   subst e
   exact (Ch.cut (c:=13) (by decide) h p rfl).1.app (.one (by decide))
  ·exact h
 | 0,_ :: _ :: _,h => by simp at h
 | n + 1,c :: d :: l,hn => by
  unfold normS
  simp only [List.length_cons] at hn
  split
  ·rename_i e
   subst e
   split
   ·rename_i e
    subst e
    obtain ⟨i1,i2⟩:=ch_norm n l (by omega)
    refine ⟨by simp only [List.length_cons];omega,fun p h => ?_⟩
    obtain ⟨q1,q2⟩:=Ch.cut (c:=13) (by decide) h p rfl
    have q3:=i2 [] (Ch.cut (c:=10) (by decide) q2 [] rfl).2
    exact q1.app ((Ch.one (c:=10) (by decide)).app q3)
   ·obtain ⟨i1,i2⟩:=ch_norm n (d :: l) (by simp only [List.length_cons];omega)
    refine ⟨by simp only [List.length_cons] at *;omega,fun p h => ?_⟩
    obtain ⟨q1,q2⟩:=Ch.cut (c:=13) (by decide) h p rfl
    exact q1.app ((Ch.one (c:=10) (by decide)).app (i2 [] q2))
  ·obtain ⟨i1,i2⟩:=ch_norm n (d :: l) (by simp only [List.length_cons];omega)
   refine ⟨by simp only [List.length_cons] at *;omega,fun p h => ?_⟩
   have:=i2 (p ++ [c]) (by simpa using h)
   simpa using this
/-- How long lines are, an end behind each. -/
def jl : List Bs → Nat
 | [] => 0
 | x :: l => x.length + 1 + jl l
theorem ch_split : ∀ (l : Bs),∃ x xs,split10 l = x :: xs ∧ jl (split10 l) = l.length + 1 ∧ ∀ p,Ch (p ++ l) → Ch (p ++ x) ∧ ∀ y ∈ xs,Ch y
 | [] => ⟨[],[],rfl,rfl,fun p h => ⟨h,fun y hy => by cases hy⟩⟩
 | c :: l => by
  obtain ⟨x,xs,e,e2,ih⟩:=ch_split l
  unfold split10
  split
  ·rename_i hc
   subst hc
   refine ⟨[],split10 l,rfl,?_,fun p h => ?_⟩
   ·simp only [jl,List.length_nil,List.length_cons]
    omega
   ·obtain ⟨q1,q2⟩:=Ch.cut (c:=10) (by decide) h p rfl
    obtain ⟨i1,i2⟩:=ih [] q2
    refine ⟨by rwa [List.append_nil],fun y hy => ?_⟩
    rw [e] at hy
    rcases List.mem_cons.1 hy with rfl | hy
    ·exact i1
    ·exact i2 y hy
  ·rw [e] at e2 ⊢
   simp only
   refine ⟨c :: x,xs,rfl,?_,fun p h => ?_⟩
   ·simp only [jl,List.length_cons] at e2 ⊢
    omega
   ·obtain ⟨i1,i2⟩:=ih (p ++ [c]) (by simpa using h)
    exact ⟨by simpa using i1,i2⟩
theorem ch_join : ∀ (l : List Bs),(∀ x ∈ l,Ch x) → Ch (joinS l) ∧ (joinS l).length ≤ jl l - 1
 | [],_ => ⟨.nil,by simp [joinS]⟩
 | [x],h => ⟨h x (.head _),by simp [joinS,jl]⟩
 | x :: y :: l,h => by
  obtain ⟨i1,i2⟩:=ch_join (y :: l) fun z hz => h z (.tail _ hz)
  refine ⟨(h x (.head _)).app ((Ch.one (c:=10) (by decide)).app i1),?_⟩
  have e : joinS (x :: y :: l) = x ++ 10 :: joinS (y :: l):=rfl
  rw [e]
  simp only [jl,List.length_append,List.length_cons] at *
  omega
theorem ind_ws (x : Bs) : ∀ b ∈ x.take (indS x),b.toNat < 128:=by
 have : ∀ (S : Bs),(∀ b ∈ S,b.toNat < 128) → ∀ x : Bs,(spanR S x).length ≤ x.length ∧ ∀ b ∈ x.take (x.length - (spanR S x).length),b.toNat < 128:=by
  intro S hS x
  induction x with
  | nil => exact ⟨Nat.le_refl _,fun b hb => by simp at hb⟩
  | cons c l ih =>
   unfold spanR
   split
   ·rename_i hc
    obtain ⟨i1,i2⟩:=ih
    refine ⟨by simp only [List.length_cons];omega,fun b hb => ?_⟩
    rw [show (c :: l).length - (spanR S l).length = (l.length - (spanR S l).length) + 1 by simp only [List.length_cons];omega,List.take_succ_cons] at hb
    rcases List.mem_cons.1 hb with rfl | hb
    ·exact hS _ (List.contains_iff_mem.1 hc)
    ·exact i2 b hb
   ·exact ⟨Nat.le_refl _,fun b hb => by simp at hb⟩
 exact (this [9,32] (by decide) x).2
theorem ch_take {x : Bs} {n : Nat} (h : Ch x) (hn : n ≤ indS x) : Ch (x.drop n):=by
 refine Ch.drops (x.take n) (fun b hb => ind_ws x b ?_) (by rw [List.take_append_drop];exact h)
 have : x.take n = (x.take (indS x)).take n:=by rw [List.take_take,Nat.min_eq_left hn]
 rw [this] at hb
 exact List.mem_of_mem_take hb
theorem common_le : ∀ (xs : List Bs) (a : Option Nat) (m : Nat),commonS xs a = some m → (∀ x ∈ xs,blankB x = false → m ≤ indS x) ∧ ∀ k,a = some k → m ≤ k
 | [],a,m,h => by
  refine ⟨fun x hx => (by cases hx),fun k hk => ?_⟩
  have h' : a = some m:=h
  rw [hk] at h'
  cases h'
  exact Nat.le_refl _
 | x :: xs,a,m,h => by
  unfold commonS at h
  obtain ⟨i1,i2⟩:=common_le xs _ m h
  cases hb : blankB x with
  | true =>
   rw [hb] at i2
   refine ⟨fun y hy he => ?_,fun k hk => i2 k (by simpa using hk)⟩
   rcases List.mem_cons.1 hy with rfl | hy
   ·rw [hb] at he;cases he
   ·exact i1 y hy he
  | false =>
   rw [hb] at i2
   have key : m ≤ indS x ∧ ∀ k,a = some k → m ≤ k:=by
    cases a with
    | none => exact ⟨i2 _ (by simp),fun k hk => by cases hk⟩
    | some j =>
     by_cases hj : indS x < j
     ·have:=i2 (indS x) (by simp [hj])
      exact ⟨this,fun k hk => by cases hk;omega⟩
     ·have:=i2 j (by simp [hj])
      exact ⟨by omega,fun k hk => by cases hk;exact this⟩
   refine ⟨fun y hy he => ?_,key.2⟩
   rcases List.mem_cons.1 hy with rfl | hy
   ·exact key.1
   ·exact i1 y hy he
theorem drop_mem {p : Bs → Bool} {l : List Bs} {y : Bs} (h : y ∈ l.dropWhile p) : y ∈ l:=(List.dropWhile_suffix p).subset h
theorem trim_mem {l : List Bs} {y : Bs} (h : y ∈ trimS l) : y ∈ l:=by
 unfold trimS at h
 exact drop_mem (List.mem_reverse.1 (drop_mem (List.mem_reverse.1 h)))
theorem jl_app : ∀ a b : List Bs,jl (a ++ b) = jl a + jl b
 | [],b => by simp [jl]
 | x :: a,b => by simp only [List.cons_append,jl,jl_app a b];omega
theorem jl_rev : ∀ a : List Bs,jl a.reverse = jl a
 | [] => rfl
 | x :: a => by rw [List.reverse_cons,jl_app,jl_rev a];simp only [jl];omega
theorem jl_drop (p : Bs → Bool) : ∀ a : List Bs,jl (a.dropWhile p) ≤ jl a
 | [] => Nat.le_refl _
 | x :: a => by
  rw [List.dropWhile_cons]
  split
  ·have:=jl_drop p a
   simp only [jl]
   omega
  ·exact Nat.le_refl _
theorem jl_trim (l : List Bs) : jl (trimS l) ≤ jl l:=by
 unfold trimS
 rw [jl_rev]
 have h1:=jl_drop blankB (l.dropWhile blankB).reverse
 rw [jl_rev] at h1
 have h2:=jl_drop blankB l
 omega
theorem jl_cut (n : Nat) : ∀ l : List Bs,jl (l.map (cutS n)) ≤ jl l
 | [] => Nat.le_refl _
 | x :: l => by
  have:=jl_cut n l
  simp only [List.map_cons,jl,cutS,List.length_drop]
  omega
theorem ch_block {raw : Bs} (h : Ch raw) : Ch (blockS raw) ∧ (blockS raw).length ≤ raw.length:=by
 obtain ⟨n1,n2⟩:=ch_norm _ raw (Nat.le_refl _)
 obtain ⟨x,xs,e,e2,hs⟩:=ch_split (normS raw)
 obtain ⟨h1,h2⟩:=hs [] (n2 [] h)
 have hl : linesS raw = x :: xs:=e
 have eb : blockS raw = joinS (trimS (x :: xs.map (cutS ((commonS xs none).getD 0)))):=by
  unfold blockS
  rw [hl]
 have hc : ∀ y ∈ x :: xs.map (cutS ((commonS xs none).getD 0)),Ch y:=by
  intro y hy
  rcases List.mem_cons.1 hy with rfl | hy
  ·exact h1
  ·obtain ⟨z,hz,rfl⟩:=List.mem_map.1 hy
   have hzc:=h2 z hz
   unfold cutS
   refine ch_take hzc ?_
   cases hb : blankB z with
   | true =>
    have : indS z = z.length:=by simpa [blankB] using hb
    omega
   | false =>
    cases hm : commonS xs none with
    | none => simp
    | some m =>
     have:=(common_le xs none m hm).1 z hz hb
     simp only [Option.getD_some]
     omega
 obtain ⟨j1,j2⟩:=ch_join _ fun y hy => hc y (trim_mem hy)
 rw [eb]
 refine ⟨j1,?_⟩
 have t1:=jl_trim (x :: xs.map (cutS ((commonS xs none).getD 0)))
 have t2:=jl_cut ((commonS xs none).getD 0) xs
 rw [e] at e2
 simp only [jl] at t1 e2
 omega
/-! ### The token -/
theorem numS_kinds {l : Bs} {p : Int × Bs} (h : numS l = some p) : p.1 = 2 ∨ p.1 = 3:=by
 unfold numS at h
 obtain ⟨l1,h1,h⟩:=Option.bind_eq_some_iff.1 h
 obtain ⟨q,h2,h⟩:=Option.bind_eq_some_iff.1 h
 obtain ⟨t,h3,h⟩:=Option.bind_eq_some_iff.1 h
 unfold numD at h
 split at h
 ·cases h
 ·cases h
  have hq : q.1 = 2 ∨ q.1 = 3:=by
   unfold numB at h2
   split at h2
   ·obtain ⟨_,_,rfl⟩:=Option.map_eq_some_iff.1 h2
    exact Or.inr rfl
   ·cases h2;exact Or.inl rfl
  unfold numC at h3
  split at h3
  ·obtain ⟨_,_,rfl⟩:=Option.map_eq_some_iff.1 h3
   exact Or.inr rfl
  ·cases h3;exact hq
theorem tok_text {u t r : Bs} (h : tokS u = .ok 4 t r) : ∃ l,u = 34 :: l ∧ textS u = some (t,r):=by
 unfold tokS wrt at h
 split at h
 ·injection h with h1;cases h1
 ·split at h
  ·injection h with h1;cases h1
  ·split at h
   ·injection h with h1;cases h1
   ·split at h
    ·split at h
     ·cases h
     ·rename_i p hp
      injection h with h1
      rcases numS_kinds hp with e | e <;> rw [e] at h1 <;> cases h1
    ·split at h
     ·rename_i hh
      split at h
      ·cases h
      ·rename_i p hp
       injection h with _ h2 h3
       subst h2 h3
       cases u with
       | nil => cases hh
       | cons c l =>
        have : c = 34:=by simpa [headIn] using hh
        subst this
        exact ⟨l,rfl,hp⟩
     ·cases h
theorem ch_tok {p t : Bs} (h : tokS p = .ok 4 t []) : Ch t ∧ t.length + 2 ≤ p.length:=by
 obtain ⟨l,rfl,ht⟩:=tok_text h
 unfold textS at ht
 obtain ⟨⟨v,r⟩,hr,ht⟩:=Option.bind_eq_some_iff.1 ht
 simp only at ht
 split at ht
 ·cases ht
 ·rename_i hsrc
  simp only [Option.some.injEq,Prod.mk.injEq] at ht
  obtain ⟨rfl,rfl⟩:=ht
  rw [ahead_nil] at hsrc
  have hs : srcB (34 :: l) = none:=by simpa using hsrc
  have hC:=ch_src _ _ (Nat.le_refl _) hs
  unfold textR at hr
  split at hr
  ·rename_i hb
   obtain ⟨⟨w,r'⟩,hw,hr⟩:=Option.map_eq_some_iff.1 hr
   simp only [Prod.mk.injEq] at hr
   obtain ⟨rfl,rfl⟩:=hr
   obtain ⟨l',e⟩:=List.isPrefixOf_iff_prefix.1 hb
   have e' : l = 34 :: 34 :: l':=by
    have : 34 :: 34 :: 34 :: l' = 34 :: l:=e
    exact (List.cons.inj this).2.symm
   subst e'
   simp only [List.drop_succ_cons,List.drop_zero] at hw
   obtain ⟨c,hc1,hc2,hc3⟩:=ch_raw _ _ _ _ hw
   rw [List.append_nil] at hc1
   subst hc1
   have:=hc3 [] (Ch.drops [34,34,34] (by decide) hC)
   rw [List.nil_append] at this
   obtain ⟨b1,b2⟩:=ch_block this
   exact ⟨b1,by simp only [List.length_cons];omega⟩
  ·simp only [List.drop_succ_cons,List.drop_zero] at hr
   obtain ⟨c,hc1,hc2,hc3⟩:=ch_line _ _ _ _ hr
   rw [List.append_nil] at hc1
   subst hc1
   exact ⟨hc3 [] (Ch.drops [34] (by decide) hC),by simp only [List.length_cons];omega⟩
/-- What a string token says is quoted in at most six times as many bytes, and read back where that is short enough. -/
theorem said_quo {p t : Bs} (h : tokS p = .ok 4 t []) : (quoS t).length + 1 ≤ 6 * p.length ∧ (t.length ≤ 2703 → textK t = true):=by
 obtain ⟨hc,hl⟩:=ch_tok h
 obtain ⟨q,hq⟩:=hc.qd
 have e : quoL t = q:=by
  have:=hq.quo []
  rw [List.append_nil] at this
  rw [this]
  show q ++ quoL [] = q
  rw [show quoL [] = [] from rfl,List.append_nil]
 refine ⟨?_,fun h2 => ?_⟩
 ·have e2 : quoS t = 34 :: (q ++ [34]):=by
   rw [← e]
   rfl
  have:=hq.len
  rw [e2]
  simp only [List.length_cons,List.length_append,List.length_nil]
  omega
 ·unfold textK
  rw [lexS_quo hq h2]
  simp
end Go.Proofs.YtgmlbjfgfmfliaaGreatDoor
namespace Go.Proofs.YtgmlbjfgfmfliaaGreatDoor
open Go Go.RowKit
attribute [local irreducible] srcB unitS halfS
/-- Six times as many bytes as tokens have, and one each. -/
def tw : List Tok → Nat
 | [] => 0
 | t :: l => 6 * (t.e - t.b) + 1 + tw l
/-- What is so of each token that is read. P: it is a short text's. -/
structure TkOk (P : Prop) (t : Tok) : Prop where
 nm : t.k = 1 → nameK t.t = true
 nu : t.k = 2 ∨ t.k = 3 → numK t.t = t.k
 ln : t.k ≠ 4 → t.t.length ≤ 6 * (t.e - t.b)
 st : t.k = 4 → (quoS t.t).length ≤ 6 * (t.e - t.b) ∧ (P → textK t.t = true)
 ls : t.t.length ≤ 16384
def NK (P : Prop) (l : List Tok) : Prop:=l.length ≤ 4096 ∧ ∀ t ∈ l,TkOk P t
theorem NK.tail {P : Prop} {t : Tok} {l : List Tok} (h : NK P (t :: l)) : NK P l:=⟨by have:=h.1;simp only [List.length_cons] at this;omega,fun x hx => h.2 x (by simp [hx])⟩
/-- From here to there: what is written of it is no longer than six times as long. -/
structure Wr (P : Prop) (x : Option (List Bs)) (l m : List Tok) : Prop where
 nk : NK P m
 le : m.length ≤ l.length
 wr : P → ∃ us,x = some us ∧ szW us + tw m ≤ tw l ∧ us.length + m.length ≤ l.length
section
variable {P : Prop}
theorem andW_ok {x y : Option (List Bs)} {a b : List Bs} (hx : x = some a) (hy : y = some b) : andW x y = some (a ++ b):=by subst hx;subst hy;rfl
theorem Wr.nil {l : List Tok} (h : NK P l) : Wr P (some []) l l:=⟨h,Nat.le_refl _,fun _ => ⟨[],rfl,by simp [szW],by simp⟩⟩
theorem Wr.and {x y : Option (List Bs)} {l l1 m : List Tok} (h : Wr P x l l1) (g : Wr P y l1 m) : Wr P (andW x y) l m:=by
 refine ⟨g.nk,Nat.le_trans g.le h.le,fun p => ?_⟩
 obtain ⟨u,a1,a2,a3⟩:=h.wr p
 obtain ⟨v,b1,b2,b3⟩:=g.wr p
 refine ⟨u ++ v,andW_ok a1 b1,?_,?_⟩
 ·rw [szW_app];omega
 ·rw [List.length_append];omega
theorem Wr.eq {x y : Option (List Bs)} {l m : List Tok} (h : Wr P x l m) (e : y = x) : Wr P y l m:=by rw [e];exact h
theorem wr_tok {t : Tok} {r : List Tok} {u : Bs} (h : NK P (t :: r)) (hu : u.length ≤ 6 * (t.e - t.b)) : Wr P (some [u]) (t :: r) r:=⟨h.tail,by simp,fun _ => ⟨[u],rfl,by simp only [szW,tw];omega,by simp;omega⟩⟩
theorem wr_skip {t : Tok} {r : List Tok} (h : NK P (t :: r)) : Wr P (some []) (t :: r) r:=⟨h.tail,by simp,fun _ => ⟨[],rfl,by simp only [szW,tw];omega,by simp⟩⟩
theorem isP_con {s : Bs} {l : List Tok} (h : isP s l = true) : ∃ t r,l = t :: r ∧ t.k = 0 ∧ t.t = s:=by
 cases l with
 | nil => cases h
 | cons t r =>
  have : t.k = 0 ∧ t.t = s:=by simpa [isP] using h
  exact ⟨t,r,rfl,this.1,this.2⟩
theorem isW_con {s : Bs} {l : List Tok} (h : isW s l = true) : ∃ t r,l = t :: r ∧ t.k = 1 ∧ t.t = s:=by
 cases l with
 | nil => cases h
 | cons t r =>
  have : t.k = 1 ∧ t.t = s:=by simpa [isW] using h
  exact ⟨t,r,rfl,this.1,this.2⟩
theorem isK_con {k : Int} {l : List Tok} (h : isK k l = true) : ∃ t r,l = t :: r ∧ t.k = k:=by
 cases l with
 | nil => cases h
 | cons t r => exact ⟨t,r,rfl,by simpa [isK] using h⟩
theorem wr_sign {s : Bs} {l : List Tok} (hl : NK P l) (h : isP s l = true) : Wr P (some [s]) l l.tail:=by
 obtain ⟨t,r,rfl,h0,rfl⟩:=isP_con h
 exact wr_tok hl ((hl.2 t (by simp)).ln (by omega))
theorem wr_word {s : Bs} {l : List Tok} (hl : NK P l) (h : isW s l = true) : Wr P (some [s]) l l.tail:=by
 obtain ⟨t,r,rfl,h0,rfl⟩:=isW_con h
 exact wr_tok hl ((hl.2 t (by simp)).ln (by omega))
theorem wr_drop {l : List Tok} (hl : NK P l) (h : l ≠ []) : Wr P (some []) l l.tail:=by
 cases l with
 | nil => exact absurd rfl h
 | cons t r => exact wr_skip hl
theorem rd_name {l m : List Tok} {b : Bs} (hl : NK P l) (h : nameS l = .ok (b,m)) : Wr P (nameW b) l m ∧ b.length ≤ 16384 ∧ b ≠ [] ∧ nameK b = true ∧ ∀ s,isW s l = (b == s):=by
 unfold nameS at h
 split at h
 ·rename_i hk
  cases h
  obtain ⟨t,r,rfl,h1⟩:=isK_con hk
  have T:=hl.2 t (by simp)
  have hn:=T.nm h1
  have hne:=(name_tok hn).2
  refine ⟨?_,T.ls,hne,hn,fun s => ?_⟩
  ·show Wr P (nameW t.t) _ r
   unfold nameW
   rw [if_pos hn]
   exact wr_tok hl (T.ln (by omega))
  ·show (t.k == 1 && t.t == s) = (t.t == s)
   rw [h1]
   rfl
 ·cases h
theorem rd_must {s : Bs} {l m : List Tok} {u : Unit} (hl : NK P l) (h : mustS s l = .ok (u,m)) : Wr P (some [s]) l m:=by
 unfold mustS at h
 split at h
 ·rename_i hk
  cases h
  exact wr_sign hl hk
 ·cases h
theorem rd_mustW {s : Bs} {l m : List Tok} {u : Unit} (hl : NK P l) (h : mustW s l = .ok (u,m)) : Wr P (some [s]) l m:=by
 unfold mustW at h
 split at h
 ·rename_i hk
  cases h
  exact wr_word hl hk
 ·cases h
theorem rd_var {l m : List Tok} {b : Bs} (hl : NK P l) (h : varS l = .ok (b,m)) : Wr P (varW b) l m ∧ b.length ≤ 16384:=by
 unfold varS at h
 obtain ⟨_,l1,h1,h⟩:=go_ok_inv h
 have w1:=rd_must hl h1
 obtain ⟨w2,h2,_⟩:=rd_name w1.nk h
 exact ⟨w1.and w2,h2⟩
/-- A reader of trees: what it reads is a tree, which can be written. -/
def RdW (P : Prop) {α β : Type} (f : List Tok → Rs β) (ct : α → β) (wr : α → Option (List Bs)) (ok : α → Prop) : Prop:=∀ l b m,NK P l → f l = .ok (b,m) → ∃ x,b = ct x ∧ ok x ∧ Wr P (wr x) l m
section
variable {α β : Type} {f : List Tok → Rs β} {ct : α → β} {wr : α → Option (List Bs)} {ok : α → Prop}
theorem rd_anyF (R : RdW P f ct wr ok) (hk : Eats f) (last : Bs) : ∀ (k : Nat) (l : List Tok) (b : List β) (m : List Tok),NK P l → anyF f last k l = .ok (b,m) → ∃ xs : List α,b = xs.map ct ∧ (xs.length ≤ l.length ∧ ∀ x ∈ xs,ok x) ∧ Wr P (andW (rowW wr xs) (some [last])) l m
 | 0,_,_,_,_,h => by cases h
 | k + 1,l,b,m,hl,h => by
  unfold anyF at h
  split at h
  ·rename_i hp
   cases h
   exact ⟨[],rfl,⟨by simp,fun x hx => by cases hx⟩,(wr_sign hl hp).eq rfl⟩
  ·obtain ⟨a,l1,h1,h⟩:=go_ok_inv h
   obtain ⟨c,l2,h2,h⟩:=go_ok_inv h
   cases h
   have hlt:=hk _ _ _ h1
   obtain ⟨x,rfl,o1,w1⟩:=R _ _ _ hl h1
   obtain ⟨xs,rfl,⟨n2,o2⟩,w2⟩:=rd_anyF R hk last k _ _ _ w1.nk h2
   refine ⟨x :: xs,rfl,⟨by simp only [List.length_cons];omega,fun y hy => ?_⟩,(w1.and w2).eq (by rw [rowW,andW_assoc])⟩
   rcases List.mem_cons.1 hy with rfl | hy
   ·exact o1
   ·exact o2 y hy
theorem rd_any (R : RdW P f ct wr ok) (hk : Eats f) (last : Bs) : RdW P (anyS f last) (List.map ct) (fun xs => andW (rowW wr xs) (some [last])) (fun xs => xs.length ≤ 4096 ∧ ∀ x ∈ xs,ok x):=fun l b m hl h => by
 obtain ⟨xs,e,⟨n,o⟩,w⟩:=rd_anyF R hk last _ _ _ _ hl h
 exact ⟨xs,e,⟨Nat.le_trans n hl.1,o⟩,w⟩
theorem rd_some (R : RdW P f ct wr ok) (hk : Eats f) (last : Bs) : RdW P (someS f last) (List.map ct) (fun xs => andW (rowW wr xs) (some [last])) (fun xs => xs ≠ [] ∧ xs.length ≤ 4096 ∧ ∀ x ∈ xs,ok x):=fun l b m hl h => by
 unfold someS at h
 obtain ⟨a,l1,h1,h⟩:=go_ok_inv h
 obtain ⟨c,l2,h2,h⟩:=go_ok_inv h
 cases h
 have hlt:=hk _ _ _ h1
 obtain ⟨x,rfl,o1,w1⟩:=R _ _ _ hl h1
 obtain ⟨xs,rfl,⟨n2,o2⟩,w2⟩:=rd_anyF R hk last _ _ _ _ w1.nk h2
 have hl1:=hl.1
 refine ⟨x :: xs,rfl,⟨by simp,by simp only [List.length_cons];omega,fun y hy => ?_⟩,(w1.and w2).eq (by show andW (andW (wr x) (rowW wr xs)) _ = _;rw [andW_assoc])⟩
 rcases List.mem_cons.1 hy with rfl | hy
 ·exact o1
 ·exact o2 y hy
theorem rd_led (R : RdW P f ct wr ok) (hk : Keeps f) {first : Bs} : ∀ (k : Nat) (l : List Tok) (b : List β) (m : List Tok),NK P l → ledF f first k l = .ok (b,m) → ∃ xs : List α,b = xs.map ct ∧ (xs.length ≤ l.length ∧ ∀ x ∈ xs,ok x) ∧ Wr P (rowW (fun x => andW (some [first]) (wr x)) xs) l m
 | 0,_,_,_,_,h => by cases h
 | k + 1,l,b,m,hl,h => by
  unfold ledF at h
  split at h
  ·rename_i hp
   obtain ⟨a,l1,h1,h⟩:=go_ok_inv h
   obtain ⟨c,l2,h2,h⟩:=go_ok_inv h
   cases h
   have w0:=wr_sign hl hp
   have hlt:=hk _ _ _ h1
   have hpos:=isP_pos hp
   rw [List.length_tail] at hlt
   obtain ⟨x,rfl,o1,w1⟩:=R _ _ _ w0.nk h1
   obtain ⟨xs,rfl,⟨n2,o2⟩,w2⟩:=rd_led R hk k _ _ _ w1.nk h2
   refine ⟨x :: xs,rfl,⟨by simp only [List.length_cons];omega,fun y hy => ?_⟩,((w0.and w1).and w2).eq rfl⟩
   rcases List.mem_cons.1 hy with rfl | hy
   ·exact o1
   ·exact o2 y hy
  ·cases h
   exact ⟨[],rfl,⟨by simp,fun x hx => by cases hx⟩,(Wr.nil hl).eq rfl⟩
theorem rd_within (R : RdW P f ct wr ok) (hk : Eats f) {c d : Bs} {l m : List Tok} {b : List β} (hl : NK P l) (hp : isP c l = true) (h : someS f d l.tail = .ok (b,m)) : ∃ xs : List α,b = xs.map ct ∧ (xs ≠ [] ∧ xs.length ≤ 4096 ∧ ∀ x ∈ xs,ok x) ∧ Wr P (inW c (rowW wr xs) d) l m:=by
 have w0:=wr_sign hl hp
 obtain ⟨xs,e,o,w⟩:=rd_some R hk d _ _ _ w0.nk h
 exact ⟨xs,e,o,w0.and w⟩
end
/-! ### Values -/
def OkV (n : Nat) (v : Vl) : Prop:=goodV n v = true ∧ VlL v
theorem VlsL_of2 : ∀ {l : List Vl},(∀ v ∈ l,VlL v) → VlsL l
 | [],_ => trivial
 | a :: _,h => ⟨h a (.head _),VlsL_of2 fun v hv => h v (.tail _ hv)⟩
theorem tx_of {n : Nat} (h : n ≤ 16384) : n ≤ txM:=Nat.le_trans h (by decide)
theorem rw_of {n : Nat} (h : n ≤ 4096) : n ≤ rwM:=Nat.le_trans h (by decide)
theorem rd_leaf {fx : Bool} {n : Nat} {l m : List Tok} {k : Int} {t : Bs} (h8 : k ≠ 8) (h9 : k ≠ 9) (ht : t.length ≤ 16384) (w : Wr P (leafW fx k t) l m) : ∃ v,valC k t [] [] = ctV v ∧ OkV n v ∧ Wr P (valW fx v) l m:=by
 refine ⟨.mk k t [] [],by rw [ctV];simp [ctVs],⟨?_,tx_of ht,by simp,by simp,by simp,trivial⟩,w.eq ?_⟩
 ·cases n <;> simp [goodV,Vl.k,h8,h9]
 ·unfold valW
  simp [h8,h9]
theorem zip_az : ∀ az : List Ar,(((az.map fun x => x.n).zip (az.map fun x => x.v)).map fun p => (⟨p.1,p.2⟩ : Ar)) = az
 | [] => rfl
 | x :: az => by simp only [List.map_cons,List.zip_cons_cons,zip_az az]
theorem rd_mem {fx : Bool} {f : List Tok → Rs (List CT)} {ok : Vl → Prop} (R : RdW P f ctV (valW fx) ok) : RdW P (memS f) (fun x : Ar => (x.n,ctV x.v)) (argW fx) (fun x => x.n.length ≤ 16384 ∧ ok x.v):=fun l b m hl h => by
 unfold memS at h
 obtain ⟨t,l1,h1,h⟩:=go_ok_inv h
 obtain ⟨_,l2,h2,h⟩:=go_ok_inv h
 obtain ⟨c,l3,h3,h⟩:=go_ok_inv h
 cases h
 obtain ⟨w1,n1,_⟩:=rd_name hl h1
 have w2:=rd_must w1.nk h2
 obtain ⟨v,rfl,o3,w3⟩:=R _ _ _ w2.nk h3
 exact ⟨⟨t,v⟩,rfl,⟨n1,o3⟩,w1.and (w2.and w3)⟩
theorem rd_valG {fx : Bool} {inner : Option (List Tok → Rs (List CT))} {n : Nat} (hi : ∀ f,inner = some f → ∃ k,n = k + 1 ∧ Eats f ∧ RdW P f ctV (valW fx) (OkV k)) : RdW P (valG fx inner) ctV (valW fx) (OkV n):=fun l b m hl h => by
 unfold valG at h
 split at h
 ·rename_i hk
  cases h
  obtain ⟨t,r,rfl,h1⟩:=isK_con hk
  have T:=hl.2 t (by simp)
  have hn:=T.nm h1
  have hne:=(name_tok hn).2
  have hlen:=T.ln (by omega)
  show ∃ v,namedC t.t = ctV v ∧ _ ∧ Wr P _ _ r
  unfold namedC
  split
  ·rename_i e
   refine rd_leaf (by decide) (by decide) (by simp) ((wr_tok hl hlen).eq ?_)
   rw [e];rfl
  ·split
   ·rename_i e
    refine rd_leaf (by decide) (by decide) (by simp) ((wr_tok hl hlen).eq ?_)
    rw [e];rfl
   ·split
    ·rename_i e
     refine rd_leaf (by decide) (by decide) (by simp) ((wr_tok hl hlen).eq ?_)
     rw [e];rfl
    ·rename_i e1 e2 e3
     refine rd_leaf (by decide) (by decide) T.ls ((wr_tok hl hlen).eq ?_)
     show butW [trueB,falseB,nullB] t.t = _
     unfold butW
     rw [if_pos]
     rw [hn,Bool.true_and,Bool.not_eq_true',Bool.eq_false_iff]
     intro hc
     have : t.t = trueB ∨ t.t = falseB ∨ t.t = nullB:=by simpa using hc
     rcases this with e | e | e
     ·exact e3 e
     ·exact e2 e
     ·exact e1 e
 split at h
 ·rename_i hk
  cases h
  obtain ⟨t,r,rfl,h1⟩:=isK_con hk
  have T:=hl.2 t (by simp)
  have hn:=T.nu (Or.inl h1)
  rw [h1] at hn
  have hne : t.t ≠ []:=(num_tok hn (Or.inl rfl)).2
  refine rd_leaf (by decide) (by decide) T.ls ((wr_tok hl (T.ln (by omega))).eq ?_)
  show (if numK t.t = 2 then some [t.t] else none) = _
  rw [if_pos hn]
 split at h
 ·rename_i hk
  cases h
  obtain ⟨t,r,rfl,h1⟩:=isK_con hk
  have T:=hl.2 t (by simp)
  have hn:=T.nu (Or.inr h1)
  rw [h1] at hn
  have hne : t.t ≠ []:=(num_tok hn (Or.inr rfl)).2
  refine rd_leaf (by decide) (by decide) T.ls ((wr_tok hl (T.ln (by omega))).eq ?_)
  show (if numK t.t = 3 then some [t.t] else none) = _
  rw [if_pos hn]
 split at h
 ·rename_i hk
  cases h
  obtain ⟨t,r,rfl,h1⟩:=isK_con hk
  have T:=hl.2 t (by simp)
  obtain ⟨s1,s2⟩:=T.st h1
  refine rd_leaf (by decide) (by decide) T.ls ⟨hl.tail,by simp,fun p => ?_⟩
  obtain ⟨us,e,q1,q2⟩:=(wr_tok hl s1).wr p
  refine ⟨us,?_,q1,q2⟩
  show textW t.t = _
  unfold textW
  rw [if_pos ⟨T.ls,s2 p⟩]
  exact e
 unfold signS at h
 split at h
 ·rename_i hp
  cases inner with
  | none => cases h
  | some f =>
   rw [listS_some] at h
   obtain ⟨c,l1,h1,h⟩:=go_ok_inv h
   cases h
   obtain ⟨k,rfl,he,R⟩:=hi f rfl
   have w0:=wr_sign hl hp
   obtain ⟨vs,rfl,⟨n1,o1⟩,w1⟩:=rd_any R he [93] _ _ _ w0.nk h1
   refine ⟨.mk 8 [] vs [],by rw [ctV,ctVs_map];rfl,⟨?_,by simp,rw_of n1,by simp,by simp,VlsL_of2 fun v hv => (o1 v hv).2⟩,(w0.and w1).eq ?_⟩
   ·simp only [goodV,Vl.k,Vl.vs,Bool.or_eq_true,List.all_eq_true]
    exact Or.inr fun v hv => (o1 v hv).1
   ·unfold valW
    rw [if_pos rfl,if_pos ⟨rfl,rfl⟩,valsW_row]
    rfl
 split at h
 ·rename_i hp
  cases inner with
  | none => cases h
  | some f =>
   rw [objS_some] at h
   obtain ⟨c,l1,h1,h⟩:=go_ok_inv h
   cases h
   obtain ⟨k,rfl,he,R⟩:=hi f rfl
   have w0:=wr_sign hl hp
   obtain ⟨az,rfl,⟨n1,o1⟩,w1⟩:=rd_any (rd_mem R) (memS_eats he.keeps) [125] _ _ _ w0.nk h1
   refine ⟨.mk 9 [] (az.map fun x => x.v) (az.map fun x => x.n),?_,⟨?_,by simp,by rw [List.length_map];exact rw_of n1,by rw [List.length_map];exact rw_of n1,fun s hs => ?_,VlsL_of2 fun v hv => ?_⟩,(w0.and w1).eq ?_⟩
   ·rw [ctV,ctVs_map]
    simp only [List.map_map,Function.comp_def]
   ·simp only [goodV,Vl.k,Vl.vs,Bool.or_eq_true,List.all_eq_true]
    refine Or.inr fun v hv => ?_
    obtain ⟨x,hx,rfl⟩:=List.mem_map.1 hv
    exact (o1 x hx).2.1
   ·obtain ⟨x,hx,rfl⟩:=List.mem_map.1 hs
    exact tx_of (o1 x hx).1
   ·obtain ⟨x,hx,rfl⟩:=List.mem_map.1 hv
    exact (o1 x hx).2.2
   ·unfold valW
    rw [if_neg (by decide),if_pos rfl,if_pos ⟨rfl,by simp⟩,memsW_row,zip_az]
    rfl
 split at h
 ·cases h
 ·rename_i hfx
  obtain ⟨t,l1,h1,h⟩:=go_ok_inv h
  cases h
  obtain ⟨w1,n1⟩:=rd_var hl h1
  refine rd_leaf (by decide) (by decide) n1 (w1.eq ?_)
  show (if fx then none else varW t) = _
  rw [if_neg hfx]
theorem rd_val (fx : Bool) : ∀ n,RdW P (valF fx n) ctV (valW fx) (OkV n)
 | 0 => rd_valG (inner:=none) fun f h => by cases h
 | n + 1 => rd_valG (inner:=some (valF fx n)) fun f h => by cases h;exact ⟨n,rfl,valF_eats fx n,rd_val fx n⟩
/-! ### Arguments, directives -/
def OkA (x : Ar) : Prop:=goodA x = true ∧ ArL x
def OkD (x : Dr) : Prop:=goodD x = true ∧ DrL x
theorem rd_arg (fx : Bool) : RdW P (argS fx) ctA (argW fx) OkA:=fun l b m hl h => by
 unfold argS at h
 obtain ⟨c,l1,h1,h⟩:=go_ok_inv h
 cases h
 obtain ⟨x,rfl,⟨n1,o1,o2⟩,w⟩:=rd_mem (rd_val fx 32) _ _ _ hl h1
 exact ⟨x,rfl,⟨o1,tx_of n1,o2⟩,w⟩
def OkAs (az : List Ar) : Prop:=az.all goodA = true ∧ ArsL az
def OkDs (ds : List Dr) : Prop:=ds.all goodD = true ∧ DrsL ds
theorem okAs_of {az : List Ar} (n : az.length ≤ 4096) (h : ∀ x ∈ az,OkA x) : OkAs az:=⟨List.all_eq_true.2 fun x hx => (h x hx).1,rw_of n,fun x hx => (h x hx).2⟩
theorem okDs_of {ds : List Dr} (n : ds.length ≤ 4096) (h : ∀ x ∈ ds,OkD x) : OkDs ds:=⟨List.all_eq_true.2 fun x hx => (h x hx).1,rw_of n,fun x hx => (h x hx).2⟩
theorem rd_args (fx : Bool) : RdW P (argsS fx) (List.map ctA) (argsW fx) OkAs:=fun l b m hl h => by
 unfold argsS at h
 split at h
 ·rename_i hp
  obtain ⟨az,e,⟨n0,n1,o⟩,w⟩:=rd_within (rd_arg fx) (argS_eats fx) hl hp h
  refine ⟨az,e,okAs_of n1 o,w.eq ?_⟩
  unfold argsW
  rw [if_neg n0]
 ·cases h
  exact ⟨[],rfl,okAs_of (by simp) (fun x hx => by cases hx),(Wr.nil hl).eq rfl⟩
theorem rd_dir (fx : Bool) : RdW P (dirS fx) ctD (fun x => andW (nameW x.n) (argsW fx x.az)) OkD:=fun l b m hl h => by
 unfold dirS at h
 obtain ⟨t,l1,h1,h⟩:=go_ok_inv h
 obtain ⟨a,l2,h2,h⟩:=go_ok_inv h
 cases h
 obtain ⟨w1,n1,_⟩:=rd_name hl h1
 obtain ⟨az,rfl,⟨o1,o2⟩,w2⟩:=rd_args fx _ _ _ w1.nk h2
 exact ⟨⟨t,az⟩,rfl,⟨o1,tx_of n1,o2⟩,w1.and w2⟩
theorem rd_dirs (fx : Bool) : RdW P (dirsS fx) (List.map ctD) (dirsW fx) OkDs:=fun l b m hl h => by
 unfold dirsS ledS at h
 obtain ⟨ds,e,⟨n,o⟩,w⟩:=rd_led (rd_dir fx) (dirS_eats fx).keeps (first:=[64]) _ _ _ _ hl h
 exact ⟨ds,e,okDs_of (Nat.le_trans n hl.1) o,w.eq rfl⟩
end
end Go.Proofs.YtgmlbjfgfmfliaaGreatDoor
namespace Go.Proofs.YtgmlbjfgfmfliaaGreatDoor
open Go Go.RowKit
attribute [local irreducible] srcB unitS halfS
section
variable {P : Prop}
/-! ### Types -/
theorem rd_ref : ∀ (n : Nat) (l : List Tok) (x : Bs × Bs) (m : List Tok),NK P l → refF n l = .ok (x,m) → (x.1.length ≤ 16384 ∧ x.2.length ≤ 2 * n + 1 ∧ brs x.2.reverse ≤ n) ∧ Wr P (refW x.1 x.2.reverse) l m:=by
 have step : ∀ (n : Nat),(∀ k,n = k + 1 → ∀ (l : List Tok) (x : Bs × Bs) (m : List Tok),NK P l → refF k l = .ok (x,m) → (x.1.length ≤ 16384 ∧ x.2.length ≤ 2 * k + 1 ∧ brs x.2.reverse ≤ k) ∧ Wr P (refW x.1 x.2.reverse) l m) →
   ∀ (l : List Tok) (x : Bs × Bs) (m : List Tok),NK P l → refF n l = .ok (x,m) → (x.1.length ≤ 16384 ∧ x.2.length ≤ 2 * n + 1 ∧ brs x.2.reverse ≤ n) ∧ Wr P (refW x.1 x.2.reverse) l m:=by
  intro n ih l x m hl h
  rw [refF_base] at h
  obtain ⟨y,l1,h1,h⟩:=go_ok_inv h
  have base : (y.1.length ≤ 16384 ∧ y.2.length ≤ 2 * n ∧ brs y.2.reverse ≤ n ∧ y.2.reverse.head? ≠ some 33) ∧ Wr P (refW y.1 y.2.reverse) l l1:=by
   unfold baseS at h1
   split at h1
   ·rename_i hp
    cases n with
    | zero => cases h1
    | succ k =>
     have h1' : ((refF k l.tail).go fun x l1 => (mustS [93] l1).go fun _ l2 => .ok ((x.1,x.2 ++ [91]),l2)) = .ok (y,l1):=h1
     obtain ⟨z,l2,h2,h1'⟩:=go_ok_inv h1'
     obtain ⟨_,l3,h3,h1'⟩:=go_ok_inv h1'
     cases h1'
     have w0:=wr_sign hl hp
     obtain ⟨⟨a1,a2,a3⟩,w1⟩:=ih k rfl _ _ _ w0.nk h2
     have w2:=rd_must w1.nk h3
     refine ⟨⟨a1,by simp only [List.length_append,List.length_cons,List.length_nil];omega,?_,?_⟩,(w0.and (w1.and w2)).eq ?_⟩
     ·simp only [List.reverse_append,List.reverse_cons,List.reverse_nil,List.nil_append,List.cons_append,brs,if_true]
      omega
     ·simp
     ·simp only [List.reverse_append,List.reverse_cons,List.reverse_nil,List.nil_append,List.cons_append]
      rw [refW]
      rfl
   ·obtain ⟨t,l2,h2,h1⟩:=go_ok_inv h1
    cases h1
    obtain ⟨w,n1,_⟩:=rd_name hl h2
    refine ⟨⟨n1,by simp,by simp [brs],by simp⟩,w.eq ?_⟩
    simp only [List.reverse_nil]
    rw [refW]
  obtain ⟨⟨b1,b2,b3,b4⟩,w⟩:=base
  unfold refB at h
  split at h
  ·rename_i hp
   cases h
   have w2:=wr_sign w.nk hp
   refine ⟨⟨b1,by simp only [List.length_append,List.length_cons,List.length_nil];omega,?_⟩,(w.and w2).eq ?_⟩
   ·simp only [List.reverse_append,List.reverse_cons,List.reverse_nil,List.nil_append,List.cons_append,brs]
    simpa using b3
   ·simp only [List.reverse_append,List.reverse_cons,List.reverse_nil,List.nil_append,List.cons_append]
    rw [refW,if_neg b4]
  ·cases h
   exact ⟨⟨b1,by omega,b3⟩,w⟩
 intro n
 induction n with
 | zero => exact step 0 fun k h => by omega
 | succ n ih =>
  refine step (n + 1) fun k h => ?_
  obtain rfl : n = k:=by omega
  exact ih
/-! ### Variables -/
theorem rd_def {l m : List Tok} {x : Bool × List CT} (hl : NK P l) (h : defS l = .ok (x,m)) : ∃ v,x.2 = ctV v ∧ ((if x.1 then goodV 32 v else true) = true ∧ VlL v) ∧ Wr P (if x.1 then andW (some [[61]]) (valW true v) else if isZ v then some [] else none) l m:=by
 unfold defS at h
 split at h
 ·rename_i hp
  obtain ⟨c,l1,h1,h⟩:=go_ok_inv h
  cases h
  have w0:=wr_sign hl hp
  obtain ⟨v,rfl,⟨o1,o2⟩,w1⟩:=rd_val true 32 _ _ _ w0.nk h1
  exact ⟨v,rfl,⟨by simpa using o1,o2⟩,(w0.and w1).eq rfl⟩
 ·cases h
  refine ⟨.mk 0 [] [] [],by rw [ctV];simp [ctVs],⟨rfl,by simp,by simp,by simp,by simp,trivial⟩,(Wr.nil hl).eq ?_⟩
  rfl
def OkX (x : Va) : Prop:=goodX x = true ∧ VaL x
theorem rd_varDef : RdW P varDefS ctX varDefW OkX:=fun l b m hl h => by
 unfold varDefS at h
 obtain ⟨t,l1,h1,h⟩:=go_ok_inv h
 obtain ⟨_,l2,h2,h⟩:=go_ok_inv h
 obtain ⟨x,l3,h3,h⟩:=go_ok_inv h
 obtain ⟨d,l4,h4,h⟩:=go_ok_inv h
 obtain ⟨c,l5,h5,h⟩:=go_ok_inv h
 cases h
 obtain ⟨w1,n1⟩:=rd_var hl h1
 have w2:=rd_must w1.nk h2
 obtain ⟨⟨a1,a2,a3⟩,w3⟩:=rd_ref 32 _ _ _ w2.nk h3
 obtain ⟨v,e,⟨v1,v2⟩,w4⟩:=rd_def w3.nk h4
 obtain ⟨ds,rfl,⟨d1,d2⟩,w5⟩:=rd_dirs true _ _ _ w4.nk h5
 refine ⟨⟨t,x.1,x.2,d.1,v,ds⟩,?_,⟨?_,⟨tx_of n1,tx_of a1,tx_of (show x.2.length ≤ 16384 by omega)⟩,v2,d2⟩,w1.and (w2.and (w3.and (w4.and w5)))⟩
 ·rw [e]
  rfl
 ·unfold goodX
  simp only [Bool.and_eq_true,decide_eq_true_eq]
  exact ⟨a3,v1,d1⟩
theorem rd_vars : RdW P varsS (List.map ctX) varsW (fun xs => xs.length ≤ 4096 ∧ ∀ x ∈ xs,OkX x):=fun l b m hl h => by
 unfold varsS at h
 split at h
 ·rename_i hp
  obtain ⟨xs,e,⟨n0,n1,o⟩,w⟩:=rd_within rd_varDef varDefS_eats hl hp h
  refine ⟨xs,e,⟨n1,o⟩,w.eq ?_⟩
  unfold varsW
  rw [if_neg n0]
 ·cases h
  exact ⟨[],rfl,⟨by simp,fun x hx => by cases hx⟩,(Wr.nil hl).eq rfl⟩
/-! ### Selections -/
theorem SesL_of2 : ∀ {l : List Se},(∀ v ∈ l,SeL v) → SesL l
 | [],_ => trivial
 | a :: _,h => ⟨h a (.head _),SesL_of2 fun v hv => h v (.tail _ hv)⟩
theorem rd_nick {l m : List Tok} {x : Bs × Bs} (hl : NK P l) (h : nickS l = .ok (x,m)) : (x.1.length ≤ 16384 ∧ x.2.length ≤ 16384) ∧ Wr P (andW (if x.1 = [] then some [] else andW (nameW x.1) (some [[58]])) (nameW x.2)) l m:=by
 unfold nickS at h
 obtain ⟨t,l1,h1,h⟩:=go_ok_inv h
 obtain ⟨w1,n1,e1,_⟩:=rd_name hl h1
 split at h
 ·rename_i hp
  obtain ⟨u,l2,h2,h⟩:=go_ok_inv h
  cases h
  have w2:=wr_sign w1.nk hp
  obtain ⟨w3,n3,_⟩:=rd_name w2.nk h2
  refine ⟨⟨n1,n3⟩,((w1.and w2).and w3).eq ?_⟩
  simp only
  rw [if_neg e1]
 ·cases h
  refine ⟨⟨by simp,n1⟩,w1.eq ?_⟩
  show andW (if ([] : Bs) = [] then some [] else _) (nameW t) = nameW t
  rw [if_pos rfl,andW_nil]
/-- A reader of sets of selections. -/
def RdSet (P : Prop) (st : List Tok → Rs (List (List CT))) (g : List Se → Bool) : Prop:=RdW P st (List.map ctS) setW (fun ss => ss ≠ [] ∧ g ss = true ∧ SeRL ss)
def setO (ss : List Se) : Option (List Bs):=if ss.length = 0 then some [] else inW [123] (selsW ss) [125]
theorem setO_ne {ss : List Se} (h : ss ≠ []) : setO ss = setW ss:=by
 unfold setO setW
 rw [if_neg (fun e => h (List.length_eq_zero_iff.1 e)),if_neg h,selsW_row]
theorem rd_with {st : List Tok → Rs (List (List CT))} {g : List Se → Bool} (R : RdSet P st g) : RdW P (withS st) (List.map ctS) setO (fun ss => (decide (ss.length = 0) || g ss) = true ∧ SeRL ss):=fun l b m hl h => by
 unfold withS at h
 split at h
 ·obtain ⟨ss,e,⟨h0,o1,o2⟩,w⟩:=R _ _ _ hl h
  exact ⟨ss,e,⟨by simp [o1],o2⟩,w.eq (setO_ne h0)⟩
 ·cases h
  exact ⟨[],rfl,⟨rfl,by simp,fun x hx => by cases hx⟩,(Wr.nil hl).eq rfl⟩
theorem rd_on {l m : List Tok} {o : Bs} (hl : NK P l) (h : onS l = .ok (o,m)) : o.length ≤ 16384 ∧ Wr P (if o = [] then some [] else onW o) l m:=by
 unfold onS at h
 split at h
 ·rename_i hp
  have w0:=wr_word hl hp
  obtain ⟨w1,n1,e1,_⟩:=rd_name w0.nk h
  exact ⟨n1,(w0.and w1).eq (by rw [if_neg e1];rfl)⟩
 ·cases h
  exact ⟨by simp,(Wr.nil hl).eq rfl⟩
def OkS (g : List Se → Bool) (x : Se) : Prop:=goodS g x = true ∧ SeL x
theorem rd_sel {st : List Tok → Rs (List (List CT))} {g : List Se → Bool} (R : RdSet P st g) : RdW P (selS st) ctS selW (OkS g):=fun l b m hl h => by
 unfold selS at h
 split at h
 ·rename_i hp
  have w0:=wr_sign hl hp
  split at h
  ·rename_i hk
   simp only [Bool.and_eq_true,Bool.not_eq_true'] at hk
   unfold spreadS at h
   obtain ⟨t,l1,h1,h⟩:=go_ok_inv h
   obtain ⟨c,l2,h2,h⟩:=go_ok_inv h
   cases h
   obtain ⟨w1,n1,_,hn,hw⟩:=rd_name w0.nk h1
   obtain ⟨ds,rfl,⟨d1,d2⟩,w2⟩:=rd_dirs false _ _ _ w1.nk h2
   have hb : butW [onB] t = nameW t:=by
    unfold butW nameW
    rw [hn,if_pos rfl,if_pos]
    have : (t == onB) = false:=by rw [← hw];exact hk.2
    simpa using this
   refine ⟨.mk 1 [] t [] [] ds [],by rw [ctS];simp [ctSs],⟨?_,⟨by simp,tx_of n1,by simp⟩,⟨by simp,fun x hx => by cases hx⟩,d2,by simp,trivial⟩,(w0.and (w1.and w2)).eq ?_⟩
   ·simp only [goodS,Se.az,Se.ds,Se.ss,List.all_nil,List.length_nil,decide_true,Bool.true_or,Bool.and_true,Bool.true_and]
    exact d1
   ·unfold selW
    simp only [if_neg (show ¬ (1 : Int) = 0 by decide),if_pos,List.length_nil,and_self,hb]
    rfl
  ·unfold inlineS at h
   obtain ⟨t,l1,h1,h⟩:=go_ok_inv h
   obtain ⟨c,l2,h2,h⟩:=go_ok_inv h
   obtain ⟨d,l3,h3,h⟩:=go_ok_inv h
   cases h
   obtain ⟨n1,w1⟩:=rd_on w0.nk h1
   obtain ⟨ds,rfl,⟨d1,d2⟩,w2⟩:=rd_dirs false _ _ _ w1.nk h2
   obtain ⟨ss,rfl,⟨s0,s1,s2⟩,w3⟩:=R _ _ _ w2.nk h3
   refine ⟨.mk 2 [] [] t [] ds ss,by rw [ctS,ctSs_map];rfl,⟨?_,⟨by simp,by simp,tx_of n1⟩,⟨by simp,fun x hx => by cases hx⟩,d2,s2.1,SesL_of2 s2.2⟩,(w0.and (w1.and (w2.and w3))).eq ?_⟩
   ·simp only [goodS,Se.az,Se.ds,Se.ss,List.all_nil,Bool.true_and,Bool.and_eq_true,Bool.or_eq_true]
    exact ⟨d1,Or.inr s1⟩
   ·unfold selW
    have hs : setW ss = (if ss.length = 0 then none else inW [123] (selsW ss) [125]):=by
     unfold setW
     rw [if_neg s0,if_neg (fun e => s0 (List.length_eq_zero_iff.1 e)),selsW_row]
    simp only [if_neg (show ¬ (2 : Int) = 0 by decide),if_neg (show ¬ (2 : Int) = 1 by decide),if_pos,List.length_nil,and_self,hs]
    rfl
 ·unfold fieldS at h
  obtain ⟨x,l1,h1,h⟩:=go_ok_inv h
  obtain ⟨a,l2,h2,h⟩:=go_ok_inv h
  obtain ⟨c,l3,h3,h⟩:=go_ok_inv h
  obtain ⟨d,l4,h4,h⟩:=go_ok_inv h
  cases h
  obtain ⟨⟨n1,n2⟩,w1⟩:=rd_nick hl h1
  obtain ⟨az,rfl,⟨a1,a2⟩,w2⟩:=rd_args false _ _ _ w1.nk h2
  obtain ⟨ds,rfl,⟨d1,d2⟩,w3⟩:=rd_dirs false _ _ _ w2.nk h3
  obtain ⟨ss,rfl,⟨s1,s2⟩,w4⟩:=rd_with R _ _ _ w3.nk h4
  refine ⟨.mk 0 x.1 x.2 [] az ds ss,by rw [ctS,ctSs_map],⟨?_,⟨tx_of n1,tx_of n2,by simp⟩,a2,d2,s2.1,SesL_of2 s2.2⟩,(w1.and (w2.and (w3.and w4))).eq ?_⟩
  ·simp only [goodS,Se.az,Se.ds,Se.ss,Bool.and_eq_true]
   exact ⟨a1,d1,s1⟩
  ·unfold selW
   simp only [if_pos,andW_assoc]
   rfl
theorem rd_set : ∀ n,RdSet P (setF n) (goodSet n)
 | 0 => fun l b m _ h => by
  have h' : setG none l = .ok (b,m):=h
  unfold setG at h'
  split at h'
  ·cases h'
  ·cases h'
 | n + 1 => fun l b m hl h => by
  have h' : setG (some (setF n)) l = .ok (b,m):=h
  unfold setG at h'
  split at h'
  ·rename_i hp
   obtain ⟨ss,e,⟨s0,n1,o⟩,w⟩:=rd_within (rd_sel (rd_set n)) (selS_eats (setF_eats n).keeps) hl hp h'
   refine ⟨ss,e,⟨s0,List.all_eq_true.2 fun x hx => (o x hx).1,rw_of n1,fun x hx => (o x hx).2⟩,w.eq ?_⟩
   unfold setW
   rw [if_neg s0]
  ·cases h'
/-! ### Operations, fragments -/
def OkO (x : Oq) : Prop:=goodO x = true ∧ OqL x
def OkF (x : Fg) : Prop:=goodF x = true ∧ FgL x
theorem rd_kind {l m : List Tok} {k : Int} (hl : NK P l) (h : kindS l = .ok (k,m)) : Wr P (kindW k) l m:=by
 unfold kindS at h
 split at h
 ·rename_i hp
  cases h
  exact (wr_word hl hp).eq rfl
 ·split at h
  ·rename_i hp
   cases h
   exact (wr_word hl hp).eq rfl
  ·split at h
   ·rename_i hp
    cases h
    exact (wr_word hl hp).eq rfl
   ·cases h
theorem Wr.less {u : Bs} {y : Option (List Bs)} {l l1 m : List Tok} (h : Wr P (some [u]) l l1) (g : Wr P y l1 m) : Wr P y l m:=by
 refine ⟨g.nk,Nat.le_trans g.le h.le,fun p => ?_⟩
 obtain ⟨a,a1,a2,a3⟩:=h.wr p
 obtain ⟨v,b1,b2,b3⟩:=g.wr p
 exact ⟨v,b1,by omega,by omega⟩
theorem kindW_some {k : Int} {l m : List Tok} (h : Wr P (kindW k) l m) {y : Option (List Bs)} {n : List Tok} (g : Wr P y m n) : Wr P y l n:=by
 refine ⟨g.nk,Nat.le_trans g.le h.le,fun p => ?_⟩
 obtain ⟨a,a1,a2,a3⟩:=h.wr p
 obtain ⟨v,b1,b2,b3⟩:=g.wr p
 exact ⟨v,b1,by omega,by omega⟩
theorem rd_title {l m : List Tok} {t : Bs} (hl : NK P l) (h : titleS l = .ok (t,m)) : t.length ≤ 16384 ∧ Wr P (if t = [] then some [] else nameW t) l m:=by
 unfold titleS at h
 split at h
 ·obtain ⟨w,n,e,_⟩:=rd_name hl h
  exact ⟨n,w.eq (by rw [if_neg e])⟩
 ·cases h
  exact ⟨by simp,(Wr.nil hl).eq rfl⟩
theorem rd_op : RdW P opS ctO opW OkO:=fun l b m hl h => by
 unfold opS at h
 split at h
 ·obtain ⟨c,l1,h1,h⟩:=go_ok_inv h
  cases h
  obtain ⟨ss,rfl,⟨s0,s1,s2⟩,w⟩:=rd_set 32 _ _ _ hl h1
  refine ⟨⟨0,[],[],[],ss⟩,rfl,⟨?_,by simp,⟨by simp,fun x hx => by cases hx⟩,⟨by simp,fun x hx => by cases hx⟩,s2⟩,w.eq ?_⟩
  ·simp only [goodO,List.all_nil,Bool.true_and]
   exact s1
  ·unfold opW
   rw [if_pos ⟨rfl,rfl,rfl,rfl⟩]
 ·obtain ⟨k,l1,h1,h⟩:=go_ok_inv h
  obtain ⟨t,l2,h2,h⟩:=go_ok_inv h
  obtain ⟨c,l3,h3,h⟩:=go_ok_inv h
  obtain ⟨d,l4,h4,h⟩:=go_ok_inv h
  obtain ⟨e,l5,h5,h⟩:=go_ok_inv h
  cases h
  have w1:=rd_kind hl h1
  obtain ⟨n2,w2⟩:=rd_title w1.nk h2
  obtain ⟨vs,rfl,⟨v1,v2⟩,w3⟩:=rd_vars _ _ _ w2.nk h3
  obtain ⟨ds,rfl,⟨d1,d2⟩,w4⟩:=rd_dirs false _ _ _ w3.nk h4
  obtain ⟨ss,rfl,⟨s0,s1,s2⟩,w5⟩:=rd_set 32 _ _ _ w4.nk h5
  refine ⟨⟨k,t,vs,ds,ss⟩,rfl,⟨?_,tx_of n2,⟨rw_of v1,fun y hy => (v2 y hy).2⟩,d2,s2⟩,?_⟩
  ·simp only [goodO,Bool.and_eq_true,List.all_eq_true]
   exact ⟨fun y hy => (v2 y hy).1,List.all_eq_true.1 d1,s1⟩
  ·unfold opW
   simp only
   split
   ·rename_i hc
    obtain ⟨_,rfl,hv,hd⟩:=hc
    obtain rfl:=List.length_eq_zero_iff.1 hv
    obtain rfl:=List.length_eq_zero_iff.1 hd
    have w:=w2.and (w3.and (w4.and w5))
    have e : andW (if ([] : Bs) = [] then some [] else nameW []) (andW (varsW []) (andW (dirsW false []) (setW ss))) = setW ss:=by
     rw [if_pos rfl,andW_nil,show varsW [] = some [] from rfl,andW_nil,show dirsW false [] = some [] from rfl,andW_nil]
    exact kindW_some w1 (w.eq e.symm)
   ·exact w1.and (w2.and (w3.and (w4.and w5)))
theorem rd_frag {l m : List Tok} {b : List CT} (hl : NK P l) (hp : isW fragB l = true) (h : fragS l.tail = .ok (b,m)) : ∃ x,b = ctF x ∧ OkF x ∧ Wr P (fragW x) l m:=by
 have w0:=wr_word hl hp
 unfold fragS at h
 obtain ⟨_,l0,h0,h⟩:=go_ok_inv h
 obtain ⟨t,l1,h1,h⟩:=go_ok_inv h
 obtain ⟨_,l2,h2,h⟩:=go_ok_inv h
 obtain ⟨u,l3,h3,h⟩:=go_ok_inv h
 obtain ⟨d,l4,h4,h⟩:=go_ok_inv h
 obtain ⟨e,l5,h5,h⟩:=go_ok_inv h
 cases h
 unfold notOn at h0
 split at h0
 ·cases h0
 ·rename_i hon
  cases h0
  obtain ⟨w1,n1,_,hn,hw⟩:=rd_name w0.nk h1
  have w2:=rd_mustW w1.nk h2
  obtain ⟨w3,n3,_⟩:=rd_name w2.nk h3
  obtain ⟨ds,rfl,⟨d1,d2⟩,w4⟩:=rd_dirs false _ _ _ w3.nk h4
  obtain ⟨ss,rfl,⟨s0,s1,s2⟩,w5⟩:=rd_set 32 _ _ _ w4.nk h5
  have hb : butW [onB] t = nameW t:=by
   unfold butW nameW
   rw [hn,if_pos rfl,if_pos]
   have : (t == onB) = false:=by rw [← hw];simpa using hon
   simpa using this
  refine ⟨⟨t,u,ds,ss⟩,rfl,⟨?_,⟨tx_of n1,tx_of n3⟩,d2,s2⟩,(w0.and (w1.and ((w2.and w3).and (w4.and w5)))).eq ?_⟩
  ·simp only [goodF,Bool.and_eq_true]
   exact ⟨d1,s1⟩
  ·show andW (some [fragB]) (andW (butW [onB] t) (andW (onW u) (andW (dirsW false ds) (setW ss)))) = _
   rw [hb]
   rfl
def OkI : Oq ⊕ Fg → Prop
 | .inl x => OkO x
 | .inr x => OkF x
theorem rd_item : RdW P itemS ctI itemW OkI:=fun l b m hl h => by
 unfold itemS at h
 split at h
 ·rename_i hp
  obtain ⟨c,l1,h1,h⟩:=go_ok_inv h
  cases h
  obtain ⟨x,rfl,o,w⟩:=rd_frag hl hp h1
  exact ⟨.inr x,rfl,o,w⟩
 ·obtain ⟨c,l1,h1,h⟩:=go_ok_inv h
  cases h
  obtain ⟨x,rfl,o,w⟩:=rd_op _ _ _ hl h1
  exact ⟨.inl x,rfl,o,w⟩
end
/-! ### Documents -/
def osOf (xs : List (Oq ⊕ Fg)) : List Oq:=xs.filterMap fun | .inl x => some x | .inr _ => none
def fsOf (xs : List (Oq ⊕ Fg)) : List Fg:=xs.filterMap fun | .inl _ => none | .inr x => some x
theorem ops_of : ∀ xs : List (Oq ⊕ Fg),opsOf (xs.map ctI) = (osOf xs).map ctO ∧ fragsOf (xs.map ctI) = (fsOf xs).map ctF
 | [] => ⟨rfl,rfl⟩
 | .inl x :: xs => by
  obtain ⟨h1,h2⟩:=ops_of xs
  constructor
  ·show ctO x :: opsOf (xs.map ctI) = _
   rw [h1]
   rfl
  ·show fragsOf (xs.map ctI) = _
   rw [h2]
   rfl
 | .inr x :: xs => by
  obtain ⟨h1,h2⟩:=ops_of xs
  constructor
  ·show opsOf (xs.map ctI) = _
   rw [h1]
   rfl
  ·show ctF x :: fragsOf (xs.map ctI) = _
   rw [h2]
   rfl
/-- Operations ahead of fragments. -/
theorem item_row : ∀ (xs : List (Oq ⊕ Fg)) (us : List Bs),rowW itemW xs = some us → ∃ a b,rowW opW (osOf xs) = some a ∧ rowW fragW (fsOf xs) = some b ∧ szW a + szW b = szW us ∧ a.length + b.length = us.length
 | [],us,h => by
  cases h
  exact ⟨[],[],rfl,rfl,rfl,rfl⟩
 | .inl x :: xs,us,h => by
  obtain ⟨p,q,h1,h2,rfl⟩:=andW_some h
  obtain ⟨a,b,e1,e2,e3,e4⟩:=item_row xs q h2
  refine ⟨p ++ a,b,andW_ok h1 e1,e2,?_,?_⟩
  ·rw [szW_app,szW_app];omega
  ·rw [List.length_append,List.length_append];omega
 | .inr x :: xs,us,h => by
  obtain ⟨p,q,h1,h2,rfl⟩:=andW_some h
  obtain ⟨a,b,e1,e2,e3,e4⟩:=item_row xs q h2
  refine ⟨a,p ++ b,e1,andW_ok h1 e2,?_,?_⟩
  ·rw [szW_app,szW_app];omega
  ·rw [List.length_append,List.length_append];omega
theorem mem_os {xs : List (Oq ⊕ Fg)} {x : Oq} (h : x ∈ osOf xs) : .inl x ∈ xs:=by
 simp only [osOf,List.mem_filterMap] at h
 obtain ⟨y,hy,e⟩:=h
 cases y with
 | inl z => simp at e;subst e;exact hy
 | inr z => simp at e
theorem mem_fs {xs : List (Oq ⊕ Fg)} {x : Fg} (h : x ∈ fsOf xs) : .inr x ∈ xs:=by
 simp only [fsOf,List.mem_filterMap] at h
 obtain ⟨y,hy,e⟩:=h
 cases y with
 | inl z => simp at e
 | inr z => simp at e;subst e;exact hy
theorem os_len (xs : List (Oq ⊕ Fg)) : (osOf xs).length + (fsOf xs).length = xs.length:=by
 induction xs with
 | nil => rfl
 | cons x xs ih =>
  cases x with
  | inl y =>
   show (y :: osOf xs).length + (fsOf xs).length = _
   simp only [List.length_cons]
   omega
  | inr y =>
   show (osOf xs).length + (y :: fsOf xs).length = _
   simp only [List.length_cons]
   omega
/-- What is read: a tree; of a short text one that can be written. -/
theorem rd_doc {P : Prop} {l m : List Tok} {b : List CT} (hl : NK P l) (h : docS l = .ok (b,m)) : ∃ os fs,b = ctDoc os fs ∧ goodDoc os fs = true ∧ DcL os fs ∧ (P → ∃ us,docW os fs = some us ∧ szW us + 1 ≤ tw l ∧ us.length + 1 ≤ l.length):=by
 unfold docS at h
 obtain ⟨c,l1,h1,h⟩:=go_ok_inv h
 cases h
 obtain ⟨xs,rfl,⟨n0,n1,o⟩,w⟩:=rd_some rd_item itemS_eats [] _ _ _ hl h1
 obtain ⟨e1,e2⟩:=ops_of xs
 have hn:=os_len xs
 refine ⟨osOf xs,fsOf xs,?_,?_,⟨rw_of (by omega),rw_of (by omega),fun x hx => (o _ (mem_os hx)).2,fun x hx => (o _ (mem_fs hx)).2⟩,fun p => ?_⟩
 ·show [rowC _ 5 (opsOf _),rowC _ 4 (fragsOf _)] = _
  rw [e1,e2]
 ·simp only [goodDoc,Bool.and_eq_true,List.all_eq_true]
  exact ⟨fun x hx => (o _ (mem_os hx)).1,fun x hx => (o _ (mem_fs hx)).1⟩
 ·obtain ⟨us,hu,s1,s2⟩:=w.wr p
  obtain ⟨a,b,ha,hb,rfl⟩:=andW_some hu
  cases hb
  obtain ⟨a1,a2,q1,q2,q3,q4⟩:=item_row xs a ha
  refine ⟨a1 ++ a2,?_,?_,?_⟩
  ·unfold docW
   rw [if_neg,q1,q2]
   ·rfl
   ·rintro ⟨z1,z2⟩
    exact n0 (List.length_eq_zero_iff.1 (by omega))
  ·rw [szW_app] at s1 ⊢
   simp only [szW,List.length_nil] at s1
   omega
  ·rw [List.length_append] at s2 ⊢
   simp only [List.length_cons,List.length_nil] at s2
   omega
/-! ### The tokens of a text -/
theorem one_of {p : Bs} {k : Int} (h : tokS p = .ok k p []) (hl : p.length ≤ 16384) : oneK p = k:=by
 unfold oneK
 rw [lexS_one h hl]
 simp
theorem toks_nk {P : Prop} {N : Nat} (hN : N ≤ 16384) (hP : P → N ≤ 2000) (tl : Bs) : ∀ ps : List Pc,AllOk ps tl → (catP ps tl).length ≤ N → (∀ t ∈ toksP N ps tl,TkOk P t) ∧ tw (toksP N ps tl) ≤ 6 * (catP ps tl).length + ps.length
 | [],_,_ => ⟨fun t ht => (by cases ht),by simp [toksP,tw]⟩
 | a :: az,⟨_,h2,_,h4⟩,hl => by
  have hl' : a.g.length + (a.p.length + (catP az tl).length) ≤ N:=by
   have : (catP (a :: az) tl).length = a.g.length + (a.p.length + (catP az tl).length):=by simp [catP]
   omega
  obtain ⟨i1,i2⟩:=toks_nk hN hP tl az h4 (by omega)
  have hw : N - (catP az tl).length - (N - (a.p ++ catP az tl).length) = a.p.length:=by
   rw [List.length_append]
   omega
  refine ⟨fun t ht => ?_,?_⟩
  ·rcases List.mem_cons.1 ht with rfl | ht
   ·have said : a.k ≠ 4 → a.t = a.p:=fun hk => by
     have e:=tok_kind h2 hk
     rwa [ahead_nil] at e
    refine ⟨fun hk => ?_,fun hk => ?_,fun hk => ?_,fun hk => ?_,?_⟩
    ·have hk' : a.k = 1:=hk
     have e:=said (by omega)
     show nameK a.t = true
     rw [hk',e] at h2
     rw [e]
     unfold nameK
     rw [one_of h2 (by omega)]
     rfl
    ·have hk' : a.k = 2 ∨ a.k = 3:=hk
     have e:=said (by omega)
     show numK a.t = a.k
     rw [e] at h2 ⊢
     unfold numK
     rw [one_of h2 (by omega),if_pos hk']
    ·have e:=said hk
     show a.t.length ≤ 6 * (N - (catP az tl).length - (N - (a.p ++ catP az tl).length))
     rw [hw,e]
     omega
    ·have hk' : a.k = 4:=hk
     rw [hk'] at h2
     obtain ⟨q1,q2⟩:=said_quo h2
     have q3:=(ch_tok h2).2
     show (quoS a.t).length ≤ 6 * (N - (catP az tl).length - (N - (a.p ++ catP az tl).length)) ∧ (P → textK a.t = true)
     rw [hw]
     refine ⟨by omega,fun p => q2 ?_⟩
     have:=hP p
     omega
    ·show a.t.length ≤ 16384
     by_cases hk : a.k = 4
     ·rw [hk] at h2
      have:=(ch_tok h2).2
      omega
     ·rw [said hk]
      omega
   ·exact i1 t ht
  ·show 6 * (N - (catP az tl).length - (N - (a.p ++ catP az tl).length)) + 1 + tw (toksP N az tl) ≤ 6 * (a.g ++ (a.p ++ catP az tl)).length + (az.length + 1)
   rw [hw]
   simp only [List.length_append]
   omega
theorem tw_app : ∀ a b : List Tok,tw (a ++ b) = tw a + tw b
 | [],b => by simp [tw]
 | x :: a,b => by simp [tw,tw_app a b];omega
/-- Whatever is read: of a text of at most 2000 bytes the tree can be written. -/
theorem read_again {s : Bs} {b : List CT} (h : parseS s = .ok b) : ∃ os fs,b = ctDoc os fs ∧ DcL os fs ∧ (s.length ≤ 2000 → ∃ t,printP os fs = some t):=by
 unfold parseS at h
 split at h
 ·cases h
 ·rename_i ts hts
  split at h
  ·cases h
  ·rename_i p hp
   cases h
   obtain ⟨ps,tl,hr,e⟩:=right_of hts
   have hsh:=hr.short
   obtain ⟨k1,k2⟩:=toks_nk (P:=s.length ≤ 2000) hsh (fun p => p) tl ps hr.ok (by rw [← hr.cat];exact Nat.le_refl _)
   rw [← hr.cat] at k2
   rw [← e] at k1 k2
   have hf:=(lexS_full hts).1
   have hnk : NK (s.length ≤ 2000) (ts ++ [eofT s.length]):=by
    refine ⟨by rw [List.length_append];simp only [List.length_cons,List.length_nil];omega,fun x hx => ?_⟩
    rcases List.mem_append.1 hx with hx | hx
    ·exact k1 x hx
    ·rw [List.mem_singleton] at hx
     subst hx
     exact ⟨fun e => (by cases e),fun e => (by rcases e with e | e <;> cases e),fun _ => by simp,fun e => (by cases e),by simp⟩
   obtain ⟨os,fs,hb,hg,hL,hW⟩:=rd_doc hnk hp
   refine ⟨os,fs,hb,hL,fun hl => ?_⟩
   obtain ⟨us,hd,s1,s2⟩:=hW hl
   rw [tw_app] at s1
   have ht1 : tw [eofT s.length] = 1:=by simp [tw]
   have hfew:=hr.few
   rw [List.length_append] at s2
   simp only [List.length_cons,List.length_nil] at s2
   have hj:=joinW_len us (docW_ne _ hd)
   exact ⟨_,printP_some.2 ⟨us,hd,⟨by omega,by omega⟩,hg,rfl⟩⟩
end Go.Proofs.YtgmlbjfgfmfliaaGreatDoor
