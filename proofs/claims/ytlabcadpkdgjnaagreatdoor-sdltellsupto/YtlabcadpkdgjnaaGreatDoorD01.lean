/- The document's own Rune at every place; its Points, Valid and Source. -/
import Derived.Test.YtlabcadpkdgjnaaGreatDoorLxF1
import Derived.Test.YtlabcadpkdgjnaaGreatDoorLxC
import Derived.Test.YtlabcadpkdgjnaaGreatDoorLxI
import Derived.Test.YtlabcadpkdgjnaaGreatDoorLxJ
import Derived.Deep.QuietTactic
import Derived.BigQuiet
namespace Go.Proofs.YtlabcadpkdgjnaaGreatDoor
section
open Go Go.RowKit
theorem dec_ascii (S : ByteArray) (p : Nat) (h : (S.get! p).toNat < 128) : Utf8.decode S p = ((S.get! p).toNat,1):=by
 unfold Utf8.decode
 simp only [Nat.add_zero]
 rw [if_pos h]
theorem stC_ascii (S : ByteArray) (p : Nat) (h : (S.get! p).toNat < 128) : stC S p = ((S.get! p).toNat : Int):=by
 unfold stC
 rw [dec_ascii S p h,if_neg]
 intro e
 have:=(Prod.mk.inj e).1
 omega
theorem get_mk (x : Bs) (p : Nat) (hp : p < x.length) : (ByteArray.mk x.toArray).get! p = x[p]:=by
 show x.toArray[p]! = _
 simp [hp]
theorem src_plain (x : Bs) (h : ∀ c ∈ x,32 ≤ c.toNat ∧ c.toNat < 128) : srcB x = none:=by
 have hw : ∀ n p,walkF ⟨x.toArray⟩ (sourceStep ⟨x.toArray⟩) n p (0,0) = (0,0):=by
  intro n
  induction n with
  | zero => intro p;rfl
  | succ n ih =>
   intro p
   unfold walkF
   by_cases hp : p < (ByteArray.mk x.toArray).size
   ·rw [if_pos hp]
    have hp' : p < x.length:=hp
    have hx:=h x[p] (List.getElem_mem hp')
    have hg:=get_mk x p hp'
    have hc : sourceB (stC ⟨x.toArray⟩ p) = true:=by
     rw [stC_ascii _ _ (by rw [hg];exact hx.2),hg]
     unfold sourceB
     simp
     omega
    have e : sourceStep ⟨x.toArray⟩ (0,0) p = ((0,0),true):=if_pos hc
    rw [e]
    exact ih _
   ·rw [if_neg hp]
 unfold srcB sourceS walk
 rw [hw]
 rfl
attribute [local irreducible] srcB unitS
theorem hexV_bd {x : UInt8} {d : Nat} (h : hexV x = some d) : 32 ≤ x.toNat ∧ x.toNat < 128:=by
 unfold hexV at h
 split at h
 ·omega
 ·split at h
  ·omega
  ·split at h
   ·omega
   ·cases h
end
section
open Go Go.RowKit
def encL (n : Nat) : List Nat :=
 if n < 128 then [n] else if n < 2048 then [192 + n / 64,128 + n % 64] else if n < 65536 then [224 + n / 4096,128 + n / 64 % 64,128 + n % 64] else [240 + n / 262144,128 + n / 4096 % 64,128 + n / 64 % 64,128 + n % 64]
theorem valid_char (n : Nat) (h : charB (n : Int) = true) : Utf8.valid (n : Int) = true ∧ n ≤ 1114111 ∧ (n < 55296 ∨ 57343 < n):=by
 unfold charB validB at h
 unfold Utf8.valid
 simp only [Bool.and_eq_true,Bool.or_eq_true,decide_eq_true_eq] at h ⊢
 omega
theorem encode_list (n : Nat) (h : charB (n : Int) = true) : Utf8.encode (n : Int) = ⟨((encL n).map UInt8.ofNat).toArray⟩:=by
 have hv:=(valid_char n h).1
 unfold Utf8.encode encL
 simp only [hv,if_true,Int.toNat_natCast]
 repeat' split
 all_goals first | rfl | (exfalso;omega)
set_option maxHeartbeats 400000 in
theorem ris_any (c : Int) (w : World) : Calls Tryz.prog 109 #[.int .i64 c] w fun e w' => e = .returned (.bool (charB c)) ∧ w' = w:=by
 go_enter Tryz.func109,Tryz.ntmps109
 go_wp2
 all_goals (go_ret;refine ⟨ret_bool ?_,rfl⟩;go_light;unfold charB validB;first | (symm;simp;omega) | (rw [Bool.eq_iff_iff];simp;omega))
theorem u8_cellO (x : Nat) (y : Int) (hx : x < 256) (hy : y = x) : Value.int .u8 y = .int .u8 ((UInt8.ofNat x).toNat : Int):=by
 rw [hy]
 simp
 omega
theorem rconv_1 (c : Int) (w : World) (hc : charB c = true) (h0 : 0 ≤ c) (h1 : c < 128) :
  (convert 40 9 (.slice (some ⟨w.heap.size,0,none⟩) 1 1)).run Tryz.prog (w.alloc (.cells #[.int .u8 (c)] 5)) = .ok (.string (Utf8.encode c)) (w.alloc (.cells #[.int .u8 (c)] 5)):=by
 obtain ⟨n,rfl⟩ : ∃ n : Nat,c = n:=⟨c.toNat,by omega⟩
 have hl : encL n = [n]:=by unfold encL;rw [if_pos (by omega)]
 have hcv:=run_convert_bytes_back (P:=Tryz.prog) (w.alloc (.cells #[.int .u8 ((n : Int))] 5)) 40 9 5 ⟨w.heap.size,0,none⟩ 1 ((encL n).map UInt8.ofNat) Tryz.underlying40 Tryz.underlying5 Tryz.underlying9 (by
   rw [hl]
   intro j hj
   match j,hj with
   | 0,_ => exact (cell_new w _ _ _).trans (congrArg some (u8_cellO _ _ (by omega) (by omega)))
   | _ + 1,hj => simp at hj <;> omega)
 rw [← encode_list n hc,List.length_map,hl] at hcv
 exact hcv
set_option maxRecDepth 100000 in
set_option maxHeartbeats 400000 in
theorem rbytes_1 (c : Int) (w : World) (hc : charB c = true) (h0 : 0 ≤ c) (h1 : c < 128) : Calls Tryz.prog 110 #[.int .i64 c] w fun e w' => e = .returned (.string (Utf8.encode c)) ∧ Below w.heap.size w w':=by
 have hcv:=rconv_1 c w hc h0 h1
 clear hc
 go_enter Tryz.func110,Tryz.ntmps110
 go_wp2
 go_ret
 exact ⟨rfl,(Below.refl _ _).alloc (Nat.le_refl _) _⟩
theorem rconv_2 (c : Int) (w : World) (hc : charB c = true) (h0 : 128 ≤ c) (h1 : c < 2048) :
  (convert 40 9 (.slice (some ⟨w.heap.size,0,none⟩) 2 2)).run Tryz.prog (w.alloc (.cells #[.int .u8 (192 + c / 64),.int .u8 (128 + c % 64)] 5)) = .ok (.string (Utf8.encode c)) (w.alloc (.cells #[.int .u8 (192 + c / 64),.int .u8 (128 + c % 64)] 5)):=by
 obtain ⟨n,rfl⟩ : ∃ n : Nat,c = n:=⟨c.toNat,by omega⟩
 have hl : encL n = [192 + n / 64,128 + n % 64]:=by unfold encL;rw [if_neg (by omega),if_pos (by omega)]
 have hcv:=run_convert_bytes_back (P:=Tryz.prog) (w.alloc (.cells #[.int .u8 (192 + (n : Int) / 64),.int .u8 (128 + (n : Int) % 64)] 5)) 40 9 5 ⟨w.heap.size,0,none⟩ 2 ((encL n).map UInt8.ofNat) Tryz.underlying40 Tryz.underlying5 Tryz.underlying9 (by
   rw [hl]
   intro j hj
   match j,hj with
   | 0,_ => exact (cell_new w _ _ _).trans (congrArg some (u8_cellO _ _ (by omega) (by omega)))
   | 1,_ => exact (cell_new w _ _ _).trans (congrArg some (u8_cellO _ _ (by omega) (by omega)))
   | _ + 2,hj => simp at hj <;> omega)
 rw [← encode_list n hc,List.length_map,hl] at hcv
 exact hcv
set_option maxRecDepth 100000 in
set_option maxHeartbeats 400000 in
theorem rbytes_2 (c : Int) (w : World) (hc : charB c = true) (h0 : 128 ≤ c) (h1 : c < 2048) : Calls Tryz.prog 110 #[.int .i64 c] w fun e w' => e = .returned (.string (Utf8.encode c)) ∧ Below w.heap.size w w':=by
 have hcv:=rconv_2 c w hc h0 h1
 clear hc
 go_enter Tryz.func110,Tryz.ntmps110
 go_wp2
 go_ret
 exact ⟨rfl,(Below.refl _ _).alloc (Nat.le_refl _) _⟩
theorem rconv_3 (c : Int) (w : World) (hc : charB c = true) (h0 : 2048 ≤ c) (h1 : c < 65536) :
  (convert 40 9 (.slice (some ⟨w.heap.size,0,none⟩) 3 3)).run Tryz.prog (w.alloc (.cells #[.int .u8 (224 + c / 4096),.int .u8 (128 + c / 64 % 64),.int .u8 (128 + c % 64)] 5)) = .ok (.string (Utf8.encode c)) (w.alloc (.cells #[.int .u8 (224 + c / 4096),.int .u8 (128 + c / 64 % 64),.int .u8 (128 + c % 64)] 5)):=by
 obtain ⟨n,rfl⟩ : ∃ n : Nat,c = n:=⟨c.toNat,by omega⟩
 have hl : encL n = [224 + n / 4096,128 + n / 64 % 64,128 + n % 64]:=by unfold encL;rw [if_neg (by omega),if_neg (by omega),if_pos (by omega)]
 have hcv:=run_convert_bytes_back (P:=Tryz.prog) (w.alloc (.cells #[.int .u8 (224 + (n : Int) / 4096),.int .u8 (128 + (n : Int) / 64 % 64),.int .u8 (128 + (n : Int) % 64)] 5)) 40 9 5 ⟨w.heap.size,0,none⟩ 3 ((encL n).map UInt8.ofNat) Tryz.underlying40 Tryz.underlying5 Tryz.underlying9 (by
   rw [hl]
   intro j hj
   match j,hj with
   | 0,_ => exact (cell_new w _ _ _).trans (congrArg some (u8_cellO _ _ (by omega) (by omega)))
   | 1,_ => exact (cell_new w _ _ _).trans (congrArg some (u8_cellO _ _ (by omega) (by omega)))
   | 2,_ => exact (cell_new w _ _ _).trans (congrArg some (u8_cellO _ _ (by omega) (by omega)))
   | _ + 3,hj => simp at hj <;> omega)
 rw [← encode_list n hc,List.length_map,hl] at hcv
 exact hcv
set_option maxRecDepth 100000 in
set_option maxHeartbeats 400000 in
theorem rbytes_3 (c : Int) (w : World) (hc : charB c = true) (h0 : 2048 ≤ c) (h1 : c < 65536) : Calls Tryz.prog 110 #[.int .i64 c] w fun e w' => e = .returned (.string (Utf8.encode c)) ∧ Below w.heap.size w w':=by
 have hcv:=rconv_3 c w hc h0 h1
 clear hc
 go_enter Tryz.func110,Tryz.ntmps110
 go_wp2
 go_ret
 exact ⟨rfl,(Below.refl _ _).alloc (Nat.le_refl _) _⟩
theorem rbytes_any (c : Int) (w : World) (hc : charB c = true) (h3 : c < 65536) : Calls Tryz.prog 110 #[.int .i64 c] w fun e w' => e = .returned (.string (Utf8.encode c)) ∧ Below w.heap.size w w':=by
 have hd:=charB_bd hc
 by_cases h1 : c < 128
 ·exact rbytes_1 c w hc hd.1 h1
 ·by_cases h2 : c < 2048
  ·exact rbytes_2 c w hc (by omega) h2
  ·exact rbytes_3 c w hc (by omega) h3
set_option maxRecDepth 100000 in
set_option maxHeartbeats 1000000 in
theorem unit_any (n : Nat) (hn : n < 65536) (w : World) : Calls Tryz.prog 112 #[.int .i64 (n : Int)] w fun e w' => e = .returned (.string ⟨(unitS n).toArray⟩) ∧ Below w.heap.size w w':=by
 have I:=ris_any (n : Int) w
 by_cases hh : 55296 ≤ n ∧ n ≤ 57343
 ·rw [show unitS n = halfS n from if_pos hh]
  have hf : charB (n : Int) = false:=by
   unfold charB validB
   simp
   omega
  rw [hf] at I
  have hcv:=hconv n w (by omega) hn
  have h0' : 2048 ≤ (n : Int):=by omega
  have h1' : (n : Int) < 65536:=by omega
  clear hh hf hn
  generalize halfS n = H at *
  generalize (n : Int) = c at *
  go_enter Tryz.func112,Tryz.ntmps112
  go_wp2_with (go_at_call 109;refine I.mono ?_;rintro e w1 ⟨rfl,rfl⟩)
  go_ret
  exact ⟨rfl,(Below.refl _ _).alloc (Nat.le_refl _) _⟩
 ·rw [unitS_else n hh,mk_toList]
  have hf : charB (n : Int) = true:=charB_small _ (by omega) (by omega) (by omega)
  rw [hf] at I
  have Y:=rbytes_any (n : Int) w hf (by omega)
  clear hh hf hn
  generalize Utf8.encode (n : Int) = H at *
  generalize (n : Int) = c at *
  go_enter Tryz.func112,Tryz.ntmps112
  go_wp2_with (first
   | (go_at_call 109;refine I.mono ?_;rintro e w1 ⟨rfl,rfl⟩)
   | (go_at_call 110;refine Y.mono ?_;rintro e w1 ⟨rfl,hb⟩)
   | fail)
  go_ret
  exact ⟨rfl,hb⟩
end
section
open Go Go.RowKit
def sF (s : ByteArray) (p : Nat) : Int × Int:=walk s (sourceStep s) p (0,0)
theorem sF_end (s : ByteArray) (p : Nat) (h : ¬ p < s.size) : sF s p = (0,0):=walk_end h
theorem sF_step (s : ByteArray) (p : Nat) (h : p < s.size) : sF s p = if sourceB (stC s p) then sF s (p + stW s p) else ((p : Int),10):=by
 unfold sF
 rw [walk_step h]
 cases hc : sourceB (stC s p) <;> simp [sourceStep,hc]
theorem stC_eq {s t : ByteArray} {p q : Nat} (h : Utf8.decode s p = Utf8.decode t q) : stC s p = stC t q ∧ stW s p = stW t q:=by
 unfold stC stW
 rw [h]
 exact ⟨rfl,rfl⟩
theorem source_dec {s : ByteArray} {p : Nat} (h : sourceB (stC s p) = true) : Utf8.decode s p ≠ (65533,1):=by
 intro e
 unfold stC at h
 rw [if_pos e] at h
 exact absurd h (by decide)
theorem take_mk (l : Bs) (q : Nat) : (ByteArray.mk l.toArray).extract 0 q = ⟨(l.take q).toArray⟩:=by
 apply ByteArray.ext;apply Array.toList_inj.1
 simp
theorem src_of {x : Bs} (h : sF ⟨x.toArray⟩ 0 = (0,0)) : srcB x = none:=by
 have h' : sourceS ⟨x.toArray⟩ = (0,0):=h
 unfold srcB
 rw [h']
 rfl
end
section
open Go.RowKit Go.Lib
theorem encL_lt (n : Nat) (h : n ≤ 1114111) : ∀ x ∈ encL n,x < 256:=by
 unfold encL
 repeat' split
 all_goals (intro x hx;simp at hx;omega)
theorem encode_size (n : Nat) (h : charB (n : Int) = true) : (Utf8.encode (n : Int)).size = (encL n).length:=by
 rw [encode_list n h]
 show (((encL n).map UInt8.ofNat).toArray).size = _
 simp
theorem encode_get (n : Nat) (h : charB (n : Int) = true) (i : Nat) (hi : i < (encL n).length) : ((Utf8.encode (n : Int)).get! i).toNat = (encL n)[i]:=by
 have hz:=encode_size n h
 rw [get_bang _ _ (by omega)]
 have hl:=encL_lt n (valid_char n h).2.1 ((encL n)[i]) (List.getElem_mem hi)
 have : (Utf8.encode (n : Int))[i]'(by omega) = UInt8.ofNat (encL n)[i]:=by
  have e:=encode_list n h
  have : ∀ (b : ByteArray) (hb : i < b.size),b = ⟨((encL n).map UInt8.ofNat).toArray⟩ → b[i] = UInt8.ofNat (encL n)[i]:=by
   intro b hb e
   subst e
   show (((encL n).map UInt8.ofNat).toArray)[i] = _
   simp
  exact this _ (by omega) e
 rw [this]
 simp
 omega
set_option maxRecDepth 100000 in
set_option maxHeartbeats 4000000 in
theorem encN_dec (n m b0 b1 b2 b3 : Nat) (hv : n ≤ 1114111 ∧ (n < 55296 ∨ 57343 < n)) (hm : (encL n).length ≤ m)
  (hb : ∀ i x,(encL n)[i]? = some x → x = (if i = 0 then b0 else if i = 1 then b1 else if i = 2 then b2 else b3)) : decodeN m b0 b1 b2 b3 = (n,(encL n).length):=by
 unfold encL at hm hb ⊢
 by_cases h1 : n < 128
 ·simp only [if_pos h1] at hm hb ⊢
  have e0:=hb 0 _ rfl
  simp at e0 hm
  subst e0
  unfold decodeN
  rw [if_pos h1]
  rfl
 ·by_cases h2 : n < 2048
  ·simp only [if_neg h1,if_pos h2] at hm hb ⊢
   have e0:=hb 0 _ rfl
   have e1:=hb 1 _ rfl
   simp at e0 e1 hm
   subst e0 e1
   unfold decodeN
   repeat' split
   all_goals first | (exfalso;omega) | (apply Prod.ext <;> simp only [List.length_cons,List.length_nil] <;> omega)
  ·by_cases h3 : n < 65536
   ·simp only [if_neg h1,if_neg h2,if_pos h3] at hm hb ⊢
    have e0:=hb 0 _ rfl
    have e1:=hb 1 _ rfl
    have e2:=hb 2 _ rfl
    simp at e0 e1 e2 hm
    subst e0 e1 e2
    unfold decodeN
    repeat' split
    all_goals first | (exfalso;omega) | (apply Prod.ext <;> simp only [List.length_cons,List.length_nil] <;> omega)
   ·simp only [if_neg h1,if_neg h2,if_neg h3] at hm hb ⊢
    have e0:=hb 0 _ rfl
    have e1:=hb 1 _ rfl
    have e2:=hb 2 _ rfl
    have e3:=hb 3 _ rfl
    simp at e0 e1 e2 e3 hm
    subst e0 e1 e2 e3
    unfold decodeN
    repeat' split
    all_goals first | (exfalso;omega) | (apply Prod.ext <;> simp only [List.length_cons,List.length_nil] <;> omega)
theorem encL_le (n : Nat) : 1 ≤ (encL n).length ∧ (encL n).length ≤ 4:=by
 unfold encL
 repeat' split
 all_goals simp
theorem idx4 (s : ByteArray) (p i : Nat) (hi : i < 4) : (if i = 0 then (s.get! p).toNat else if i = 1 then (s.get! (p + 1)).toNat else if i = 2 then (s.get! (p + 2)).toNat else (s.get! (p + 3)).toNat) = (s.get! (p + i)).toNat:=by
 match i,hi with
 | 0,_ => rfl
 | 1,_ => rfl
 | 2,_ => rfl
 | 3,_ => rfl
theorem dec_of_enc (s : ByteArray) (p n : Nat) (hc : charB (n : Int) = true) (hz : p + (Utf8.encode (n : Int)).size ≤ s.size) (he : s.extract p (p + (Utf8.encode (n : Int)).size) = Utf8.encode (n : Int)) :
  Utf8.decode s p = (n,(Utf8.encode (n : Int)).size):=by
 have hs:=encode_size n hc
 have hl:=encL_le n
 rw [decode_at,hs]
 refine encN_dec _ _ _ _ _ _ (valid_char n hc).2 (by omega) ?_
 intro i x hx
 obtain ⟨hi,rfl⟩:=List.getElem?_eq_some_iff.1 hx
 rw [idx4 s p i (by omega),← encode_get n hc i hi]
 have hg:=get_cut s p (p + (Utf8.encode (n : Int)).size) i hz (by omega)
 rw [he] at hg
 rw [hg]
theorem sF_none {x : Bs} (h : srcB x = none) : sF ⟨x.toArray⟩ 0 = (0,0):=by
 rcases sourceS_cases x with ⟨_,_⟩ | ⟨k,_,h2,_⟩
 ·rcases walkF_source ⟨x.toArray⟩ ((ByteArray.mk x.toArray).size - 0) 0 with h' | ⟨q,hq,h'⟩
  ·exact h'
  ·exfalso
   have h2 : sourceS ⟨x.toArray⟩ = ((q : Int),10):=h'
   unfold srcB at h
   rw [h2] at h
   cases h
 ·rw [h2] at h;cases h
end
section
open Go.RowKit Go.Lib
set_option maxRecDepth 100000 in
set_option maxHeartbeats 4000000 in
theorem decN_enc (m b0 b1 b2 b3 : Nat) (h0 : b0 < 256) (h : decodeN m b0 b1 b2 b3 ≠ (65533,1)) :
    (encL (decodeN m b0 b1 b2 b3).1).length = (decodeN m b0 b1 b2 b3).2 ∧
    (∀ i x,(encL (decodeN m b0 b1 b2 b3).1)[i]? = some x → x = (if i = 0 then b0 else if i = 1 then b1 else if i = 2 then b2 else b3)):=by
  revert h
  unfold decodeN
  repeat' split
  all_goals first
    | (intro h;exact absurd rfl h)
    | (intro _
       unfold encL
       dsimp only
       repeat' split
       all_goals first
         | (exfalso;omega)
         | (refine ⟨rfl,?_⟩
            intro i x hx
            match i,hx with
            | 0,hx => simp at hx;simp;omega
            | 1,hx => simp at hx;try (simp;omega)
            | 2,hx => simp at hx;try (simp;omega)
            | 3,hx => simp at hx;try (simp;omega)
            | _ + 4,hx => simp at hx))
theorem enc_of_dec (s : ByteArray) (p : Nat) (hp : p < s.size) (h : Utf8.decode s p ≠ (65533,1)) :
  charB ((Utf8.decode s p).1 : Int) = true ∧ (Utf8.encode ((Utf8.decode s p).1 : Int)).size = (Utf8.decode s p).2 ∧ s.extract p (p + (Utf8.decode s p).2) = Utf8.encode ((Utf8.decode s p).1 : Int):=by
 have hc : charB ((Utf8.decode s p).1 : Int) = true:=((dec_len s p).resolve_left h).2
 have hs:=encode_size _ hc
 have hw:=dec_w s p hp
 unfold stW at hw
 have hd:=decode_at s p
 rw [hd] at h
 have hk:=decN_enc _ _ _ _ _ (byte_lt _) h
 rw [← hd] at hk
 refine ⟨hc,by omega,?_⟩
 have hz:=size_cut s p (p + (Utf8.decode s p).2) (by omega)
 refine ext_get (by omega) fun i hi => ?_
 have hi2 : i < (encL (Utf8.decode s p).1).length:=by omega
 rw [get_cut s p _ i (by omega) (by omega)]
 apply UInt8.toNat_inj.1
 rw [encode_get _ hc i hi2,hk.2 i _ (List.getElem?_eq_getElem hi2),idx4 s p i (by omega)]
def refN (b0 b1 b2 b3 : Int) : Int :=
 if b0 < 128 then b0 else if b0 < 224 then (b0 - 192) * 64 + b1 - 128 else if b0 < 240 then (b0 - 224) * 4096 + (b1 - 128) * 64 + b2 - 128 else (b0 - 240) * 262144 + (b1 - 128) * 4096 + (b2 - 128) * 64 + b3 - 128
set_option maxRecDepth 100000 in
set_option maxHeartbeats 4000000 in
theorem decN_refN (m b0 b1 b2 b3 : Nat) (h0 : b0 < 256) (h : decodeN m b0 b1 b2 b3 ≠ (65533,1)) :
    refN b0 (if 1 < m then b1 else -1) (if 2 < m then b2 else -1) (if 3 < m then b3 else -1) = ((decodeN m b0 b1 b2 b3).1 : Int):=by
  revert h
  unfold decodeN
  repeat' split
  all_goals first
    | (intro h;exact absurd rfl h)
    | (intro _;unfold refN;repeat' split
       all_goals omega)
def gB (s : ByteArray) (q : Nat) : Int:=if q < s.size then ((s.get! q).toNat : Int) else -1
def refC (s : ByteArray) (p : Nat) : Int:=refN (gB s p) (gB s (p + 1)) (gB s (p + 2)) (gB s (p + 3))
def refRune (s : ByteArray) (p : Nat) : Int × Int :=
 if charB (refC s p) = false then (0,0) else if p + (Utf8.encode (refC s p)).size ≤ s.size ∧ s.extract p (p + (Utf8.encode (refC s p)).size) = Utf8.encode (refC s p) then (refC s p,((Utf8.encode (refC s p)).size : Int)) else (0,0)
theorem refC_dec (s : ByteArray) (p : Nat) (hp : p < s.size) (h : Utf8.decode s p ≠ (65533,1)) : refC s p = ((Utf8.decode s p).1 : Int):=by
 have hd:=decode_at s p
 rw [hd] at h
 have hr:=decN_refN _ _ _ _ _ (byte_lt _) h
 rw [← hd] at hr
 rw [← hr]
 unfold refC gB
 rw [if_pos hp]
 have c1 : (p + 1 < s.size) = (1 < s.size - p):=propext ⟨fun h => by omega,fun h => by omega⟩
 have c2 : (p + 2 < s.size) = (2 < s.size - p):=propext ⟨fun h => by omega,fun h => by omega⟩
 have c3 : (p + 3 < s.size) = (3 < s.size - p):=propext ⟨fun h => by omega,fun h => by omega⟩
 simp only [c1,c2,c3]
theorem refRune_eq (s : ByteArray) (p : Nat) (hp : p < s.size) : refRune s p = runeS s p:=by
 by_cases h : Utf8.decode s p = (65533,1)
 ·have e1 : runeS s p = (0,0):=by unfold runeS stC;rw [if_pos h,if_pos rfl]
  rw [e1]
  unfold refRune
  split
  ·rfl
  ·rename_i hc
   split
   ·rename_i hz
    exfalso
    have hc' : charB (refC s p) = true:=by simpa using hc
    obtain ⟨n,hn⟩ : ∃ n : Nat,refC s p = n:=⟨(refC s p).toNat,by have:=charB_bd hc';omega⟩
    rw [hn] at hz hc'
    have hd:=dec_of_enc s p n hc' hz.1 hz.2
    rw [h] at hd
    have e2:=congrArg Prod.fst hd
    have e3:=congrArg Prod.snd hd
    simp only at e2 e3
    have hs:=encode_size n hc'
    rw [← e2] at hs e3
    rw [hs] at e3
    exact absurd e3 (by decide)
   ·rfl
 ·obtain ⟨h1,h2,h3⟩:=enc_of_dec s p hp h
  have hr:=refC_dec s p hp h
  have hw:=dec_w s p hp
  unfold stW at hw
  unfold refRune runeS stC stW
  rw [hr,if_neg (by rw [h1];decide),h2,if_pos ⟨hw.2.2,h3⟩,if_neg h,if_neg (by omega)]
theorem rconv_4 (c : Int) (w : World) (hc : charB c = true) (h0 : 65536 ≤ c) (h1 : c ≤ 1114111) :
  (convert 40 9 (.slice (some ⟨w.heap.size,0,none⟩) 4 4)).run Tryz.prog (w.alloc (.cells #[.int .u8 (240 + c / 262144),.int .u8 (128 + c / 4096 % 64),.int .u8 (128 + c / 64 % 64),.int .u8 (128 + c % 64)] 5)) = .ok (.string (Utf8.encode c)) (w.alloc (.cells #[.int .u8 (240 + c / 262144),.int .u8 (128 + c / 4096 % 64),.int .u8 (128 + c / 64 % 64),.int .u8 (128 + c % 64)] 5)):=by
 obtain ⟨n,rfl⟩ : ∃ n : Nat,c = n:=⟨c.toNat,by omega⟩
 have hl : encL n = [240 + n / 262144,128 + n / 4096 % 64,128 + n / 64 % 64,128 + n % 64]:=by unfold encL;rw [if_neg (by omega),if_neg (by omega),if_neg (by omega)]
 have hcv:=run_convert_bytes_back (P:=Tryz.prog) (w.alloc (.cells #[.int .u8 (240 + (n : Int) / 262144),.int .u8 (128 + (n : Int) / 4096 % 64),.int .u8 (128 + (n : Int) / 64 % 64),.int .u8 (128 + (n : Int) % 64)] 5)) 40 9 5 ⟨w.heap.size,0,none⟩ 4 ((encL n).map UInt8.ofNat) Tryz.underlying40 Tryz.underlying5 Tryz.underlying9 (by
   rw [hl]
   intro j hj
   match j,hj with
   | 0,_ => exact (cell_new w _ _ _).trans (congrArg some (u8_cellO _ _ (by omega) (by omega)))
   | 1,_ => exact (cell_new w _ _ _).trans (congrArg some (u8_cellO _ _ (by omega) (by omega)))
   | 2,_ => exact (cell_new w _ _ _).trans (congrArg some (u8_cellO _ _ (by omega) (by omega)))
   | 3,_ => exact (cell_new w _ _ _).trans (congrArg some (u8_cellO _ _ (by omega) (by omega)))
   | _ + 4,hj => simp at hj <;> omega)
 rw [← encode_list n hc,List.length_map,hl] at hcv
 exact hcv
set_option maxRecDepth 100000 in
set_option maxHeartbeats 400000 in
theorem rbytes_4 (c : Int) (w : World) (hc : charB c = true) (h0 : 65536 ≤ c) (h1 : c ≤ 1114111) : Calls Tryz.prog 110 #[.int .i64 c] w fun e w' => e = .returned (.string (Utf8.encode c)) ∧ Below w.heap.size w w':=by
 have hcv:=rconv_4 c w hc h0 h1
 clear hc
 go_enter Tryz.func110,Tryz.ntmps110
 go_wp2
 go_ret
 exact ⟨rfl,(Below.refl _ _).alloc (Nat.le_refl _) _⟩
theorem rbytes_all (c : Int) (w : World) (hc : charB c = true) : Calls Tryz.prog 110 #[.int .i64 c] w fun e w' => e = .returned (.string (Utf8.encode c)) ∧ Below w.heap.size w w':=by
 have hd:=charB_bd hc
 by_cases h1 : c < 128
 ·exact rbytes_1 c w hc hd.1 h1
 ·by_cases h2 : c < 2048
  ·exact rbytes_2 c w hc (by omega) h2
  ·by_cases h3 : c < 65536
   ·exact rbytes_3 c w hc (by omega) h3
   ·exact rbytes_4 c w hc (by omega) hd.2
theorem enc_small (c : Int) (h : charB c = true) : (Utf8.encode c).size ≤ 4:=by
 have hd:=charB_bd h
 obtain ⟨n,rfl⟩ : ∃ n : Nat,c = n:=⟨c.toNat,by omega⟩
 rw [encode_size n h]
 exact (encL_le n).2
end
section
open Go.RowKit Go.Lib
set_option maxHeartbeats 400000 in
theorem rrune_out (s : ByteArray) (k : Int) (w : World) (hk : k < 0 ∨ (s.size : Int) ≤ k) :
  Calls Tryz.prog 89 #[.string s,.int .i64 k] w fun e w' => e = .returned (.tuple #[.int .i64 0,.int .i64 0]) ∧ w' = w:=by
 rcases hk with h | h
 ·go_enter Tryz.func89,Tryz.ntmps89
  go_wp2
  go_ret2
  exact ⟨rfl,rfl⟩
 ·have h' : 0 ≤ k:=by omega
  go_enter Tryz.func89,Tryz.ntmps89
  go_wp2
  go_ret2
  exact ⟨rfl,rfl⟩
def four (s : ByteArray) (p j : Nat) : Array Value:=#[.int .i64 (gB s p),.int .i64 (if 1 < j then gB s (p + 1) else -1),.int .i64 (if 2 < j then gB s (p + 2) else -1),.int .i64 (if 3 < j then gB s (p + 3) else -1)]
theorem below_drewN1 {B : Nat} {W W' : World} (h : Below B W W') (n : Nat) : Below B W (W'.drewN n):=⟨h.os,h.tape,h.output,h.size,h.block⟩
theorem gB_bd (s : ByteArray) (q : Nat) : -1 ≤ gB s q ∧ gB s q ≤ 255:=by
 unfold gB
 have:=byte_lt (s.get! q)
 split <;> omega
theorem gB_in (s : ByteArray) (q : Nat) (h : q < s.size) : gB s q = ((s[q]'h).toNat : Int):=by
 unfold gB
 rw [if_pos h,get_bang s q h]
theorem gB_out (s : ByteArray) (q : Nat) (h : ¬ q < s.size) : gB s q = -1:=if_neg h
theorem four_end (s : ByteArray) (p j : Nat) (h1 : 1 ≤ j) (h2 : j ≤ 4) (h : ¬ (j < 4 ∧ p + j < s.size)) : four s p j = #[.int .i64 (gB s p),.int .i64 (gB s (p + 1)),.int .i64 (gB s (p + 2)),.int .i64 (gB s (p + 3))]:=by
 have e : ∀ i,1 ≤ i → i < 4 → (if i < j then gB s (p + i) else -1) = gB s (p + i):=by
  intro i h3 h4
  split
  ·rfl
  ·rw [gB_out s (p + i) (by omega)]
 unfold four
 rw [e 1 (by omega) (by omega),e 2 (by omega) (by omega),e 3 (by omega) (by omega)]
theorem refRune_no {s : ByteArray} {p : Nat} {n : Int} (hC : refC s p = n) (h : charB n = false) : refRune s p = (0,0):=by
 unfold refRune
 rw [hC,if_pos h]
theorem refRune_other {s : ByteArray} {p : Nat} {n : Int} (hC : refC s p = n) (h : charB n = true) (hz : ¬ (p + (Utf8.encode n).size ≤ s.size ∧ s.extract p (p + (Utf8.encode n).size) = Utf8.encode n)) : refRune s p = (0,0):=by
 unfold refRune
 rw [hC,if_neg (by rw [h];decide),if_neg hz]
theorem refRune_yes {s : ByteArray} {p : Nat} {n : Int} (hC : refC s p = n) (h : charB n = true) (h1 : p + (Utf8.encode n).size ≤ s.size) (h2 : s.extract p (p + (Utf8.encode n).size) = Utf8.encode n) : refRune s p = (n,((Utf8.encode n).size : Int)):=by
 unfold refRune
 rw [hC,if_neg (by rw [h];decide),if_pos ⟨h1,h2⟩]
end
section
open Go.RowKit Go.Lib
set_option maxRecDepth 100000 in
set_option maxHeartbeats 8000000 in
theorem rrune_r1 (s : ByteArray) (p : Nat) (w : World) (hs : s.size ≤ 1125899906842624) (hp : p < s.size) (hg : gB s p < 128) :
  Calls Tryz.prog 89 #[.string s,.int .i64 p] w fun e w' => e = .returned (.tuple #[.int .i64 (refRune s p).1,.int .i64 (refRune s p).2]) ∧ Below w.heap.size w w':=by
 have hb0:=byte_lt (s[p]'hp)
 have hp1 : ¬ s.size ≤ p:=by omega
 have hp2 : ¬ (p : Int) < 0:=by omega
 go_enter Tryz.func89,Tryz.ntmps89
 go_wp2
 go_loopw [7] (fun i wr => ∃ j : Nat,1 ≤ j ∧ j ≤ 4 ∧ p + j ≤ s.size ∧ i = .int .i64 j ∧ wr = w.alloc (.cells (four s p j) 3)) (fun i _ => 4 - (RowKit.intOf i).toNat)
 case atStart =>
  refine ⟨1,by omega,by omega,by omega,rfl,?_⟩
  unfold four
  rw [gB_in s p hp]
  rfl
 case round =>
  obtain ⟨j,h1,h2,h3,rfl,rfl⟩:=hrel
  by_cases hj : j < 4 ∧ p + j < s.size
  ·obtain ⟨hj1,hj2⟩:=hj
   have hbj:=byte_lt (s[p + j]'hj2)
   rcases (by omega : j = 1 ∨ j = 2 ∨ j = 3) with rfl | rfl | rfl
   ·have e1 : four s p 1 = #[.int .i64 (gB s p),.int .i64 (-1),.int .i64 (-1),.int .i64 (-1)]:=rfl
    rw [e1]
    clear e1
    go_wp2
    go_roundw
    case rel =>
     refine ⟨2,by omega,by omega,by omega,rfl,?_⟩
     have e2 : four s p 2 = #[.int .i64 (gB s p),.int .i64 (gB s (p + 1)),.int .i64 (-1),.int .i64 (-1)]:=rfl
     rw [e2,gB_in s (p + 1) hj2]
    case measure => simp [RowKit.intOf]
   ·have e1 : four s p 2 = #[.int .i64 (gB s p),.int .i64 (gB s (p + 1)),.int .i64 (-1),.int .i64 (-1)]:=rfl
    rw [e1]
    clear e1
    go_wp2
    go_roundw
    case rel =>
     refine ⟨3,by omega,by omega,by omega,rfl,?_⟩
     have e2 : four s p 3 = #[.int .i64 (gB s p),.int .i64 (gB s (p + 1)),.int .i64 (gB s (p + 2)),.int .i64 (-1)]:=rfl
     rw [e2,gB_in s (p + 2) hj2]
    case measure => simp [RowKit.intOf]
   ·have e1 : four s p 3 = #[.int .i64 (gB s p),.int .i64 (gB s (p + 1)),.int .i64 (gB s (p + 2)),.int .i64 (-1)]:=rfl
    rw [e1]
    clear e1
    go_wp2
    go_roundw
    case rel =>
     refine ⟨4,by omega,by omega,by omega,rfl,?_⟩
     have e2 : four s p 4 = #[.int .i64 (gB s p),.int .i64 (gB s (p + 1)),.int .i64 (gB s (p + 2)),.int .i64 (gB s (p + 3))]:=rfl
     rw [e2,gB_in s (p + 3) hj2]
    case measure => simp [RowKit.intOf]
  ·rw [four_end s p j h1 h2 hj]
   have d0:=gB_bd s p
   have d1:=gB_bd s (p + 1)
   have d2:=gB_bd s (p + 2)
   have d3:=gB_bd s (p + 3)
   have hj' : j < 4 → ¬ ((p : Int) + j < s.size):=fun h => by omega
   obtain ⟨g0,e0⟩ : ∃ g,gB s p = g:=⟨_,rfl⟩
   obtain ⟨g1,e1⟩ : ∃ g,gB s (p + 1) = g:=⟨_,rfl⟩
   obtain ⟨g2,e2⟩ : ∃ g,gB s (p + 2) = g:=⟨_,rfl⟩
   obtain ⟨g3,e3⟩ : ∃ g,gB s (p + 3) = g:=⟨_,rfl⟩
   have hC0 : refC s p = refN g0 g1 g2 g3:=by unfold refC;rw [e0,e1,e2,e3]
   rw [e0] at d0 hg
   rw [e1] at d1
   rw [e2] at d2
   rw [e3] at d3
   rw [e0,e1,e2,e3]
   clear e0 e1 e2 e3
   have hC : refC s p = g0:=by rw [hC0];unfold refN;rw [if_pos hg]
   clear hC0
   obtain ⟨d01,d02⟩:=d0
   obtain ⟨d11,d12⟩:=d1
   obtain ⟨d21,d22⟩:=d2
   obtain ⟨d31,d32⟩:=d3
   by_cases hc : charB g0 = true
   ·have hz:=enc_small g0 hc
    by_cases hl : p + (Utf8.encode g0).size ≤ s.size
    ·by_cases he : s.extract p (p + (Utf8.encode g0).size) = Utf8.encode g0
     ·have hR:=refRune_yes hC hc hl he
      by_cases h4 : j < 4
      ·have h5 : ¬ (p : Int) + j < s.size:=by omega
       go_wp2_with (first | (go_at_call 109;refine (ris_any _ _).mono ?_;rintro e w' ⟨rfl,rfl⟩) | (go_at_call 110;refine (rbytes_all _ _ hc).mono ?_;rintro e w1 ⟨rfl,hb⟩))
       all_goals (go_ret2;exact ⟨by rw [hR] <;> rfl,by first | exact ((Below.refl _ w).alloc (Nat.le_refl _) _).trans (hb.mono (by simp)) | exact (below_drewN1 ((Below.refl _ w).alloc (Nat.le_refl _) _) _).trans (hb.mono (by simp))⟩)
      ·go_wp2_with (first | (go_at_call 109;refine (ris_any _ _).mono ?_;rintro e w' ⟨rfl,rfl⟩) | (go_at_call 110;refine (rbytes_all _ _ hc).mono ?_;rintro e w1 ⟨rfl,hb⟩))
       all_goals (go_ret2;exact ⟨by rw [hR] <;> rfl,by first | exact ((Below.refl _ w).alloc (Nat.le_refl _) _).trans (hb.mono (by simp)) | exact (below_drewN1 ((Below.refl _ w).alloc (Nat.le_refl _) _) _).trans (hb.mono (by simp))⟩)
     ·have hR:=refRune_other hC hc (fun h => he h.2)
      have he' : ((s.extract p (p + (Utf8.encode g0).size)).toList == (Utf8.encode g0).toList) = false:=by rw [beq_eq_false_iff_ne];exact fun h => he (toList_inj.1 h)
      by_cases h4 : j < 4
      ·have h5 : ¬ (p : Int) + j < s.size:=by omega
       go_wp2_with (first | (go_at_call 109;refine (ris_any _ _).mono ?_;rintro e w' ⟨rfl,rfl⟩) | (go_at_call 110;refine (rbytes_all _ _ hc).mono ?_;rintro e w1 ⟨rfl,hb⟩))
       all_goals (go_ret2;exact ⟨by rw [hR] <;> rfl,by first | exact ((Below.refl _ w).alloc (Nat.le_refl _) _).trans (hb.mono (by simp)) | exact (below_drewN1 ((Below.refl _ w).alloc (Nat.le_refl _) _) _).trans (hb.mono (by simp))⟩)
      ·go_wp2_with (first | (go_at_call 109;refine (ris_any _ _).mono ?_;rintro e w' ⟨rfl,rfl⟩) | (go_at_call 110;refine (rbytes_all _ _ hc).mono ?_;rintro e w1 ⟨rfl,hb⟩))
       all_goals (go_ret2;exact ⟨by rw [hR] <;> rfl,by first | exact ((Below.refl _ w).alloc (Nat.le_refl _) _).trans (hb.mono (by simp)) | exact (below_drewN1 ((Below.refl _ w).alloc (Nat.le_refl _) _) _).trans (hb.mono (by simp))⟩)
    ·have hR:=refRune_other hC hc (fun h => hl h.1)
     have hl' : (s.size : Int) - p < (Utf8.encode g0).size:=by omega
     by_cases h4 : j < 4
     ·have h5 : ¬ (p : Int) + j < s.size:=by omega
      go_wp2_with (first | (go_at_call 109;refine (ris_any _ _).mono ?_;rintro e w' ⟨rfl,rfl⟩) | (go_at_call 110;refine (rbytes_all _ _ hc).mono ?_;rintro e w1 ⟨rfl,hb⟩))
      all_goals (go_ret2;exact ⟨by rw [hR] <;> rfl,by first | exact ((Below.refl _ w).alloc (Nat.le_refl _) _).trans (hb.mono (by simp)) | exact (below_drewN1 ((Below.refl _ w).alloc (Nat.le_refl _) _) _).trans (hb.mono (by simp))⟩)
     ·exfalso
      omega
   ·have hc' : charB g0 = false:=by simpa using hc
    have hR:=refRune_no hC hc'
    clear hc
    by_cases h4 : j < 4
    ·have h5 : ¬ (p : Int) + j < s.size:=by omega
     go_wp2_with (go_at_call 109;refine (ris_any _ _).mono ?_;rintro e w' ⟨rfl,rfl⟩)
     all_goals (go_ret2;exact ⟨by rw [hR] <;> rfl,by first | exact (Below.refl _ w).alloc (Nat.le_refl _) _ | exact below_drewN1 ((Below.refl _ w).alloc (Nat.le_refl _) _) _⟩)
    ·go_wp2_with (go_at_call 109;refine (ris_any _ _).mono ?_;rintro e w' ⟨rfl,rfl⟩)
     all_goals (go_ret2;exact ⟨by rw [hR] <;> rfl,by first | exact (Below.refl _ w).alloc (Nat.le_refl _) _ | exact below_drewN1 ((Below.refl _ w).alloc (Nat.le_refl _) _) _⟩)
end
section
open Go.RowKit Go.Lib
set_option maxRecDepth 100000 in
set_option maxHeartbeats 8000000 in
theorem rrune_r2 (s : ByteArray) (p : Nat) (w : World) (hs : s.size ≤ 1125899906842624) (hp : p < s.size) (hg : 128 ≤ gB s p ∧ gB s p < 224) :
  Calls Tryz.prog 89 #[.string s,.int .i64 p] w fun e w' => e = .returned (.tuple #[.int .i64 (refRune s p).1,.int .i64 (refRune s p).2]) ∧ Below w.heap.size w w':=by
 have hb0:=byte_lt (s[p]'hp)
 have hp1 : ¬ s.size ≤ p:=by omega
 have hp2 : ¬ (p : Int) < 0:=by omega
 go_enter Tryz.func89,Tryz.ntmps89
 go_wp2
 go_loopw [7] (fun i wr => ∃ j : Nat,1 ≤ j ∧ j ≤ 4 ∧ p + j ≤ s.size ∧ i = .int .i64 j ∧ wr = w.alloc (.cells (four s p j) 3)) (fun i _ => 4 - (RowKit.intOf i).toNat)
 case atStart =>
  refine ⟨1,by omega,by omega,by omega,rfl,?_⟩
  unfold four
  rw [gB_in s p hp]
  rfl
 case round =>
  obtain ⟨j,h1,h2,h3,rfl,rfl⟩:=hrel
  by_cases hj : j < 4 ∧ p + j < s.size
  ·obtain ⟨hj1,hj2⟩:=hj
   have hbj:=byte_lt (s[p + j]'hj2)
   rcases (by omega : j = 1 ∨ j = 2 ∨ j = 3) with rfl | rfl | rfl
   ·have e1 : four s p 1 = #[.int .i64 (gB s p),.int .i64 (-1),.int .i64 (-1),.int .i64 (-1)]:=rfl
    rw [e1]
    clear e1
    go_wp2
    go_roundw
    case rel =>
     refine ⟨2,by omega,by omega,by omega,rfl,?_⟩
     have e2 : four s p 2 = #[.int .i64 (gB s p),.int .i64 (gB s (p + 1)),.int .i64 (-1),.int .i64 (-1)]:=rfl
     rw [e2,gB_in s (p + 1) hj2]
    case measure => simp [RowKit.intOf]
   ·have e1 : four s p 2 = #[.int .i64 (gB s p),.int .i64 (gB s (p + 1)),.int .i64 (-1),.int .i64 (-1)]:=rfl
    rw [e1]
    clear e1
    go_wp2
    go_roundw
    case rel =>
     refine ⟨3,by omega,by omega,by omega,rfl,?_⟩
     have e2 : four s p 3 = #[.int .i64 (gB s p),.int .i64 (gB s (p + 1)),.int .i64 (gB s (p + 2)),.int .i64 (-1)]:=rfl
     rw [e2,gB_in s (p + 2) hj2]
    case measure => simp [RowKit.intOf]
   ·have e1 : four s p 3 = #[.int .i64 (gB s p),.int .i64 (gB s (p + 1)),.int .i64 (gB s (p + 2)),.int .i64 (-1)]:=rfl
    rw [e1]
    clear e1
    go_wp2
    go_roundw
    case rel =>
     refine ⟨4,by omega,by omega,by omega,rfl,?_⟩
     have e2 : four s p 4 = #[.int .i64 (gB s p),.int .i64 (gB s (p + 1)),.int .i64 (gB s (p + 2)),.int .i64 (gB s (p + 3))]:=rfl
     rw [e2,gB_in s (p + 3) hj2]
    case measure => simp [RowKit.intOf]
  ·rw [four_end s p j h1 h2 hj]
   have d0:=gB_bd s p
   have d1:=gB_bd s (p + 1)
   have d2:=gB_bd s (p + 2)
   have d3:=gB_bd s (p + 3)
   have hj' : j < 4 → ¬ ((p : Int) + j < s.size):=fun h => by omega
   obtain ⟨g0,e0⟩ : ∃ g,gB s p = g:=⟨_,rfl⟩
   obtain ⟨g1,e1⟩ : ∃ g,gB s (p + 1) = g:=⟨_,rfl⟩
   obtain ⟨g2,e2⟩ : ∃ g,gB s (p + 2) = g:=⟨_,rfl⟩
   obtain ⟨g3,e3⟩ : ∃ g,gB s (p + 3) = g:=⟨_,rfl⟩
   have hC0 : refC s p = refN g0 g1 g2 g3:=by unfold refC;rw [e0,e1,e2,e3]
   rw [e0] at d0 hg
   rw [e1] at d1
   rw [e2] at d2
   rw [e3] at d3
   rw [e0,e1,e2,e3]
   clear e0 e1 e2 e3
   obtain ⟨n,hn⟩ : ∃ n,(g0 - 192) * 64 + g1 - 128 = n:=⟨_,rfl⟩
   have hC : refC s p = n:=by rw [hC0,← hn];unfold refN;rw [if_neg (by omega),if_pos (by omega)]
   clear hC0
   obtain ⟨hg1,hg2⟩:=hg
   obtain ⟨d01,d02⟩:=d0
   obtain ⟨d11,d12⟩:=d1
   obtain ⟨d21,d22⟩:=d2
   obtain ⟨d31,d32⟩:=d3
   by_cases hc : charB n = true
   ·have hz:=enc_small n hc
    by_cases hl : p + (Utf8.encode n).size ≤ s.size
    ·by_cases he : s.extract p (p + (Utf8.encode n).size) = Utf8.encode n
     ·have hR:=refRune_yes hC hc hl he
      by_cases h4 : j < 4
      ·have h5 : ¬ (p : Int) + j < s.size:=by omega
       go_wp2
       go_quiet (fail)
       go_wp2_with (first | (go_at_call 109;refine (ris_any _ _).mono ?_;rintro e w' ⟨rfl,rfl⟩) | (go_at_call 110;refine (rbytes_all _ _ hc).mono ?_;rintro e w1 ⟨rfl,hb⟩))
       all_goals (go_ret2;exact ⟨by rw [hR] <;> rfl,by first | exact ((Below.refl _ w).alloc (Nat.le_refl _) _).trans (hb.mono (by simp)) | exact (below_drewN1 ((Below.refl _ w).alloc (Nat.le_refl _) _) _).trans (hb.mono (by simp))⟩)
      ·go_wp2
       go_quiet (fail)
       go_wp2_with (first | (go_at_call 109;refine (ris_any _ _).mono ?_;rintro e w' ⟨rfl,rfl⟩) | (go_at_call 110;refine (rbytes_all _ _ hc).mono ?_;rintro e w1 ⟨rfl,hb⟩))
       all_goals (go_ret2;exact ⟨by rw [hR] <;> rfl,by first | exact ((Below.refl _ w).alloc (Nat.le_refl _) _).trans (hb.mono (by simp)) | exact (below_drewN1 ((Below.refl _ w).alloc (Nat.le_refl _) _) _).trans (hb.mono (by simp))⟩)
     ·have hR:=refRune_other hC hc (fun h => he h.2)
      have he' : ((s.extract p (p + (Utf8.encode n).size)).toList == (Utf8.encode n).toList) = false:=by rw [beq_eq_false_iff_ne];exact fun h => he (toList_inj.1 h)
      by_cases h4 : j < 4
      ·have h5 : ¬ (p : Int) + j < s.size:=by omega
       go_wp2
       go_quiet (fail)
       go_wp2_with (first | (go_at_call 109;refine (ris_any _ _).mono ?_;rintro e w' ⟨rfl,rfl⟩) | (go_at_call 110;refine (rbytes_all _ _ hc).mono ?_;rintro e w1 ⟨rfl,hb⟩))
       all_goals (go_ret2;exact ⟨by rw [hR] <;> rfl,by first | exact ((Below.refl _ w).alloc (Nat.le_refl _) _).trans (hb.mono (by simp)) | exact (below_drewN1 ((Below.refl _ w).alloc (Nat.le_refl _) _) _).trans (hb.mono (by simp))⟩)
      ·go_wp2
       go_quiet (fail)
       go_wp2_with (first | (go_at_call 109;refine (ris_any _ _).mono ?_;rintro e w' ⟨rfl,rfl⟩) | (go_at_call 110;refine (rbytes_all _ _ hc).mono ?_;rintro e w1 ⟨rfl,hb⟩))
       all_goals (go_ret2;exact ⟨by rw [hR] <;> rfl,by first | exact ((Below.refl _ w).alloc (Nat.le_refl _) _).trans (hb.mono (by simp)) | exact (below_drewN1 ((Below.refl _ w).alloc (Nat.le_refl _) _) _).trans (hb.mono (by simp))⟩)
    ·have hR:=refRune_other hC hc (fun h => hl h.1)
     have hl' : (s.size : Int) - p < (Utf8.encode n).size:=by omega
     by_cases h4 : j < 4
     ·have h5 : ¬ (p : Int) + j < s.size:=by omega
      go_wp2
      go_quiet (fail)
      go_wp2_with (first | (go_at_call 109;refine (ris_any _ _).mono ?_;rintro e w' ⟨rfl,rfl⟩) | (go_at_call 110;refine (rbytes_all _ _ hc).mono ?_;rintro e w1 ⟨rfl,hb⟩))
      all_goals (go_ret2;exact ⟨by rw [hR] <;> rfl,by first | exact ((Below.refl _ w).alloc (Nat.le_refl _) _).trans (hb.mono (by simp)) | exact (below_drewN1 ((Below.refl _ w).alloc (Nat.le_refl _) _) _).trans (hb.mono (by simp))⟩)
     ·exfalso
      omega
   ·have hc' : charB n = false:=by simpa using hc
    have hR:=refRune_no hC hc'
    clear hc
    by_cases h4 : j < 4
    ·have h5 : ¬ (p : Int) + j < s.size:=by omega
     go_wp2
     go_quiet (fail)
     go_wp2_with (go_at_call 109;refine (ris_any _ _).mono ?_;rintro e w' ⟨rfl,rfl⟩)
     all_goals (go_ret2;exact ⟨by rw [hR] <;> rfl,by first | exact (Below.refl _ w).alloc (Nat.le_refl _) _ | exact below_drewN1 ((Below.refl _ w).alloc (Nat.le_refl _) _) _⟩)
    ·go_wp2
     go_quiet (fail)
     go_wp2_with (go_at_call 109;refine (ris_any _ _).mono ?_;rintro e w' ⟨rfl,rfl⟩)
     all_goals (go_ret2;exact ⟨by rw [hR] <;> rfl,by first | exact (Below.refl _ w).alloc (Nat.le_refl _) _ | exact below_drewN1 ((Below.refl _ w).alloc (Nat.le_refl _) _) _⟩)
end
section
open Go.RowKit Go.Lib
set_option maxRecDepth 100000 in
set_option maxHeartbeats 8000000 in
theorem rrune_r3 (s : ByteArray) (p : Nat) (w : World) (hs : s.size ≤ 1125899906842624) (hp : p < s.size) (hg : 224 ≤ gB s p ∧ gB s p < 240) :
  Calls Tryz.prog 89 #[.string s,.int .i64 p] w fun e w' => e = .returned (.tuple #[.int .i64 (refRune s p).1,.int .i64 (refRune s p).2]) ∧ Below w.heap.size w w':=by
 have hb0:=byte_lt (s[p]'hp)
 have hp1 : ¬ s.size ≤ p:=by omega
 have hp2 : ¬ (p : Int) < 0:=by omega
 go_enter Tryz.func89,Tryz.ntmps89
 go_wp2
 go_loopw [7] (fun i wr => ∃ j : Nat,1 ≤ j ∧ j ≤ 4 ∧ p + j ≤ s.size ∧ i = .int .i64 j ∧ wr = w.alloc (.cells (four s p j) 3)) (fun i _ => 4 - (RowKit.intOf i).toNat)
 case atStart =>
  refine ⟨1,by omega,by omega,by omega,rfl,?_⟩
  unfold four
  rw [gB_in s p hp]
  rfl
 case round =>
  obtain ⟨j,h1,h2,h3,rfl,rfl⟩:=hrel
  by_cases hj : j < 4 ∧ p + j < s.size
  ·obtain ⟨hj1,hj2⟩:=hj
   have hbj:=byte_lt (s[p + j]'hj2)
   rcases (by omega : j = 1 ∨ j = 2 ∨ j = 3) with rfl | rfl | rfl
   ·have e1 : four s p 1 = #[.int .i64 (gB s p),.int .i64 (-1),.int .i64 (-1),.int .i64 (-1)]:=rfl
    rw [e1]
    clear e1
    go_wp2
    go_roundw
    case rel =>
     refine ⟨2,by omega,by omega,by omega,rfl,?_⟩
     have e2 : four s p 2 = #[.int .i64 (gB s p),.int .i64 (gB s (p + 1)),.int .i64 (-1),.int .i64 (-1)]:=rfl
     rw [e2,gB_in s (p + 1) hj2]
    case measure => simp [RowKit.intOf]
   ·have e1 : four s p 2 = #[.int .i64 (gB s p),.int .i64 (gB s (p + 1)),.int .i64 (-1),.int .i64 (-1)]:=rfl
    rw [e1]
    clear e1
    go_wp2
    go_roundw
    case rel =>
     refine ⟨3,by omega,by omega,by omega,rfl,?_⟩
     have e2 : four s p 3 = #[.int .i64 (gB s p),.int .i64 (gB s (p + 1)),.int .i64 (gB s (p + 2)),.int .i64 (-1)]:=rfl
     rw [e2,gB_in s (p + 2) hj2]
    case measure => simp [RowKit.intOf]
   ·have e1 : four s p 3 = #[.int .i64 (gB s p),.int .i64 (gB s (p + 1)),.int .i64 (gB s (p + 2)),.int .i64 (-1)]:=rfl
    rw [e1]
    clear e1
    go_wp2
    go_roundw
    case rel =>
     refine ⟨4,by omega,by omega,by omega,rfl,?_⟩
     have e2 : four s p 4 = #[.int .i64 (gB s p),.int .i64 (gB s (p + 1)),.int .i64 (gB s (p + 2)),.int .i64 (gB s (p + 3))]:=rfl
     rw [e2,gB_in s (p + 3) hj2]
    case measure => simp [RowKit.intOf]
  ·rw [four_end s p j h1 h2 hj]
   have d0:=gB_bd s p
   have d1:=gB_bd s (p + 1)
   have d2:=gB_bd s (p + 2)
   have d3:=gB_bd s (p + 3)
   have hj' : j < 4 → ¬ ((p : Int) + j < s.size):=fun h => by omega
   obtain ⟨g0,e0⟩ : ∃ g,gB s p = g:=⟨_,rfl⟩
   obtain ⟨g1,e1⟩ : ∃ g,gB s (p + 1) = g:=⟨_,rfl⟩
   obtain ⟨g2,e2⟩ : ∃ g,gB s (p + 2) = g:=⟨_,rfl⟩
   obtain ⟨g3,e3⟩ : ∃ g,gB s (p + 3) = g:=⟨_,rfl⟩
   have hC0 : refC s p = refN g0 g1 g2 g3:=by unfold refC;rw [e0,e1,e2,e3]
   rw [e0] at d0 hg
   rw [e1] at d1
   rw [e2] at d2
   rw [e3] at d3
   rw [e0,e1,e2,e3]
   clear e0 e1 e2 e3
   obtain ⟨n,hn⟩ : ∃ n,(g0 - 224) * 4096 + (g1 - 128) * 64 + g2 - 128 = n:=⟨_,rfl⟩
   have hC : refC s p = n:=by rw [hC0,← hn];unfold refN;rw [if_neg (by omega),if_neg (by omega),if_pos (by omega)]
   clear hC0
   obtain ⟨hg1,hg2⟩:=hg
   obtain ⟨d01,d02⟩:=d0
   obtain ⟨d11,d12⟩:=d1
   obtain ⟨d21,d22⟩:=d2
   obtain ⟨d31,d32⟩:=d3
   by_cases hc : charB n = true
   ·have hz:=enc_small n hc
    by_cases hl : p + (Utf8.encode n).size ≤ s.size
    ·by_cases he : s.extract p (p + (Utf8.encode n).size) = Utf8.encode n
     ·have hR:=refRune_yes hC hc hl he
      by_cases h4 : j < 4
      ·have h5 : ¬ (p : Int) + j < s.size:=by omega
       go_wp2
       go_quiet (fail)
       go_wp2_with (first | (go_at_call 109;refine (ris_any _ _).mono ?_;rintro e w' ⟨rfl,rfl⟩) | (go_at_call 110;refine (rbytes_all _ _ hc).mono ?_;rintro e w1 ⟨rfl,hb⟩))
       all_goals (go_ret2;exact ⟨by rw [hR] <;> rfl,by first | exact ((Below.refl _ w).alloc (Nat.le_refl _) _).trans (hb.mono (by simp)) | exact (below_drewN1 ((Below.refl _ w).alloc (Nat.le_refl _) _) _).trans (hb.mono (by simp))⟩)
      ·go_wp2
       go_quiet (fail)
       go_wp2_with (first | (go_at_call 109;refine (ris_any _ _).mono ?_;rintro e w' ⟨rfl,rfl⟩) | (go_at_call 110;refine (rbytes_all _ _ hc).mono ?_;rintro e w1 ⟨rfl,hb⟩))
       all_goals (go_ret2;exact ⟨by rw [hR] <;> rfl,by first | exact ((Below.refl _ w).alloc (Nat.le_refl _) _).trans (hb.mono (by simp)) | exact (below_drewN1 ((Below.refl _ w).alloc (Nat.le_refl _) _) _).trans (hb.mono (by simp))⟩)
     ·have hR:=refRune_other hC hc (fun h => he h.2)
      have he' : ((s.extract p (p + (Utf8.encode n).size)).toList == (Utf8.encode n).toList) = false:=by rw [beq_eq_false_iff_ne];exact fun h => he (toList_inj.1 h)
      by_cases h4 : j < 4
      ·have h5 : ¬ (p : Int) + j < s.size:=by omega
       go_wp2
       go_quiet (fail)
       go_wp2_with (first | (go_at_call 109;refine (ris_any _ _).mono ?_;rintro e w' ⟨rfl,rfl⟩) | (go_at_call 110;refine (rbytes_all _ _ hc).mono ?_;rintro e w1 ⟨rfl,hb⟩))
       all_goals (go_ret2;exact ⟨by rw [hR] <;> rfl,by first | exact ((Below.refl _ w).alloc (Nat.le_refl _) _).trans (hb.mono (by simp)) | exact (below_drewN1 ((Below.refl _ w).alloc (Nat.le_refl _) _) _).trans (hb.mono (by simp))⟩)
      ·go_wp2
       go_quiet (fail)
       go_wp2_with (first | (go_at_call 109;refine (ris_any _ _).mono ?_;rintro e w' ⟨rfl,rfl⟩) | (go_at_call 110;refine (rbytes_all _ _ hc).mono ?_;rintro e w1 ⟨rfl,hb⟩))
       all_goals (go_ret2;exact ⟨by rw [hR] <;> rfl,by first | exact ((Below.refl _ w).alloc (Nat.le_refl _) _).trans (hb.mono (by simp)) | exact (below_drewN1 ((Below.refl _ w).alloc (Nat.le_refl _) _) _).trans (hb.mono (by simp))⟩)
    ·have hR:=refRune_other hC hc (fun h => hl h.1)
     have hl' : (s.size : Int) - p < (Utf8.encode n).size:=by omega
     by_cases h4 : j < 4
     ·have h5 : ¬ (p : Int) + j < s.size:=by omega
      go_wp2
      go_quiet (fail)
      go_wp2_with (first | (go_at_call 109;refine (ris_any _ _).mono ?_;rintro e w' ⟨rfl,rfl⟩) | (go_at_call 110;refine (rbytes_all _ _ hc).mono ?_;rintro e w1 ⟨rfl,hb⟩))
      all_goals (go_ret2;exact ⟨by rw [hR] <;> rfl,by first | exact ((Below.refl _ w).alloc (Nat.le_refl _) _).trans (hb.mono (by simp)) | exact (below_drewN1 ((Below.refl _ w).alloc (Nat.le_refl _) _) _).trans (hb.mono (by simp))⟩)
     ·exfalso
      omega
   ·have hc' : charB n = false:=by simpa using hc
    have hR:=refRune_no hC hc'
    clear hc
    by_cases h4 : j < 4
    ·have h5 : ¬ (p : Int) + j < s.size:=by omega
     go_wp2
     go_quiet (fail)
     go_wp2_with (go_at_call 109;refine (ris_any _ _).mono ?_;rintro e w' ⟨rfl,rfl⟩)
     all_goals (go_ret2;exact ⟨by rw [hR] <;> rfl,by first | exact (Below.refl _ w).alloc (Nat.le_refl _) _ | exact below_drewN1 ((Below.refl _ w).alloc (Nat.le_refl _) _) _⟩)
    ·go_wp2
     go_quiet (fail)
     go_wp2_with (go_at_call 109;refine (ris_any _ _).mono ?_;rintro e w' ⟨rfl,rfl⟩)
     all_goals (go_ret2;exact ⟨by rw [hR] <;> rfl,by first | exact (Below.refl _ w).alloc (Nat.le_refl _) _ | exact below_drewN1 ((Below.refl _ w).alloc (Nat.le_refl _) _) _⟩)
end
section
open Go.RowKit Go.Lib
set_option maxRecDepth 100000 in
set_option maxHeartbeats 8000000 in
theorem rrune_r4 (s : ByteArray) (p : Nat) (w : World) (hs : s.size ≤ 1125899906842624) (hp : p < s.size) (hg : 240 ≤ gB s p) :
  Calls Tryz.prog 89 #[.string s,.int .i64 p] w fun e w' => e = .returned (.tuple #[.int .i64 (refRune s p).1,.int .i64 (refRune s p).2]) ∧ Below w.heap.size w w':=by
 have hb0:=byte_lt (s[p]'hp)
 have hp1 : ¬ s.size ≤ p:=by omega
 have hp2 : ¬ (p : Int) < 0:=by omega
 go_enter Tryz.func89,Tryz.ntmps89
 go_wp2
 go_loopw [7] (fun i wr => ∃ j : Nat,1 ≤ j ∧ j ≤ 4 ∧ p + j ≤ s.size ∧ i = .int .i64 j ∧ wr = w.alloc (.cells (four s p j) 3)) (fun i _ => 4 - (RowKit.intOf i).toNat)
 case atStart =>
  refine ⟨1,by omega,by omega,by omega,rfl,?_⟩
  unfold four
  rw [gB_in s p hp]
  rfl
 case round =>
  obtain ⟨j,h1,h2,h3,rfl,rfl⟩:=hrel
  by_cases hj : j < 4 ∧ p + j < s.size
  ·obtain ⟨hj1,hj2⟩:=hj
   have hbj:=byte_lt (s[p + j]'hj2)
   rcases (by omega : j = 1 ∨ j = 2 ∨ j = 3) with rfl | rfl | rfl
   ·have e1 : four s p 1 = #[.int .i64 (gB s p),.int .i64 (-1),.int .i64 (-1),.int .i64 (-1)]:=rfl
    rw [e1]
    clear e1
    go_wp2
    go_roundw
    case rel =>
     refine ⟨2,by omega,by omega,by omega,rfl,?_⟩
     have e2 : four s p 2 = #[.int .i64 (gB s p),.int .i64 (gB s (p + 1)),.int .i64 (-1),.int .i64 (-1)]:=rfl
     rw [e2,gB_in s (p + 1) hj2]
    case measure => simp [RowKit.intOf]
   ·have e1 : four s p 2 = #[.int .i64 (gB s p),.int .i64 (gB s (p + 1)),.int .i64 (-1),.int .i64 (-1)]:=rfl
    rw [e1]
    clear e1
    go_wp2
    go_roundw
    case rel =>
     refine ⟨3,by omega,by omega,by omega,rfl,?_⟩
     have e2 : four s p 3 = #[.int .i64 (gB s p),.int .i64 (gB s (p + 1)),.int .i64 (gB s (p + 2)),.int .i64 (-1)]:=rfl
     rw [e2,gB_in s (p + 2) hj2]
    case measure => simp [RowKit.intOf]
   ·have e1 : four s p 3 = #[.int .i64 (gB s p),.int .i64 (gB s (p + 1)),.int .i64 (gB s (p + 2)),.int .i64 (-1)]:=rfl
    rw [e1]
    clear e1
    go_wp2
    go_roundw
    case rel =>
     refine ⟨4,by omega,by omega,by omega,rfl,?_⟩
     have e2 : four s p 4 = #[.int .i64 (gB s p),.int .i64 (gB s (p + 1)),.int .i64 (gB s (p + 2)),.int .i64 (gB s (p + 3))]:=rfl
     rw [e2,gB_in s (p + 3) hj2]
    case measure => simp [RowKit.intOf]
  ·rw [four_end s p j h1 h2 hj]
   have d0:=gB_bd s p
   have d1:=gB_bd s (p + 1)
   have d2:=gB_bd s (p + 2)
   have d3:=gB_bd s (p + 3)
   have hj' : j < 4 → ¬ ((p : Int) + j < s.size):=fun h => by omega
   obtain ⟨g0,e0⟩ : ∃ g,gB s p = g:=⟨_,rfl⟩
   obtain ⟨g1,e1⟩ : ∃ g,gB s (p + 1) = g:=⟨_,rfl⟩
   obtain ⟨g2,e2⟩ : ∃ g,gB s (p + 2) = g:=⟨_,rfl⟩
   obtain ⟨g3,e3⟩ : ∃ g,gB s (p + 3) = g:=⟨_,rfl⟩
   have hC0 : refC s p = refN g0 g1 g2 g3:=by unfold refC;rw [e0,e1,e2,e3]
   rw [e0] at d0 hg
   rw [e1] at d1
   rw [e2] at d2
   rw [e3] at d3
   rw [e0,e1,e2,e3]
   clear e0 e1 e2 e3
   obtain ⟨n,hn⟩ : ∃ n,(g0 - 240) * 262144 + (g1 - 128) * 4096 + (g2 - 128) * 64 + g3 - 128 = n:=⟨_,rfl⟩
   have hC : refC s p = n:=by rw [hC0,← hn];unfold refN;rw [if_neg (by omega),if_neg (by omega),if_neg (by omega)]
   clear hC0
   obtain ⟨d01,d02⟩:=d0
   obtain ⟨d11,d12⟩:=d1
   obtain ⟨d21,d22⟩:=d2
   obtain ⟨d31,d32⟩:=d3
   by_cases hc : charB n = true
   ·have hz:=enc_small n hc
    by_cases hl : p + (Utf8.encode n).size ≤ s.size
    ·by_cases he : s.extract p (p + (Utf8.encode n).size) = Utf8.encode n
     ·have hR:=refRune_yes hC hc hl he
      by_cases h4 : j < 4
      ·have h5 : ¬ (p : Int) + j < s.size:=by omega
       go_wp2
       go_quiet (fail)
       go_wp2_with (first | (go_at_call 109;refine (ris_any _ _).mono ?_;rintro e w' ⟨rfl,rfl⟩) | (go_at_call 110;refine (rbytes_all _ _ hc).mono ?_;rintro e w1 ⟨rfl,hb⟩))
       all_goals (go_ret2;exact ⟨by rw [hR] <;> rfl,by first | exact ((Below.refl _ w).alloc (Nat.le_refl _) _).trans (hb.mono (by simp)) | exact (below_drewN1 ((Below.refl _ w).alloc (Nat.le_refl _) _) _).trans (hb.mono (by simp))⟩)
      ·go_wp2
       go_quiet (fail)
       go_wp2_with (first | (go_at_call 109;refine (ris_any _ _).mono ?_;rintro e w' ⟨rfl,rfl⟩) | (go_at_call 110;refine (rbytes_all _ _ hc).mono ?_;rintro e w1 ⟨rfl,hb⟩))
       all_goals (go_ret2;exact ⟨by rw [hR] <;> rfl,by first | exact ((Below.refl _ w).alloc (Nat.le_refl _) _).trans (hb.mono (by simp)) | exact (below_drewN1 ((Below.refl _ w).alloc (Nat.le_refl _) _) _).trans (hb.mono (by simp))⟩)
     ·have hR:=refRune_other hC hc (fun h => he h.2)
      have he' : ((s.extract p (p + (Utf8.encode n).size)).toList == (Utf8.encode n).toList) = false:=by rw [beq_eq_false_iff_ne];exact fun h => he (toList_inj.1 h)
      by_cases h4 : j < 4
      ·have h5 : ¬ (p : Int) + j < s.size:=by omega
       go_wp2
       go_quiet (fail)
       go_wp2_with (first | (go_at_call 109;refine (ris_any _ _).mono ?_;rintro e w' ⟨rfl,rfl⟩) | (go_at_call 110;refine (rbytes_all _ _ hc).mono ?_;rintro e w1 ⟨rfl,hb⟩))
       all_goals (go_ret2;exact ⟨by rw [hR] <;> rfl,by first | exact ((Below.refl _ w).alloc (Nat.le_refl _) _).trans (hb.mono (by simp)) | exact (below_drewN1 ((Below.refl _ w).alloc (Nat.le_refl _) _) _).trans (hb.mono (by simp))⟩)
      ·go_wp2
       go_quiet (fail)
       go_wp2_with (first | (go_at_call 109;refine (ris_any _ _).mono ?_;rintro e w' ⟨rfl,rfl⟩) | (go_at_call 110;refine (rbytes_all _ _ hc).mono ?_;rintro e w1 ⟨rfl,hb⟩))
       all_goals (go_ret2;exact ⟨by rw [hR] <;> rfl,by first | exact ((Below.refl _ w).alloc (Nat.le_refl _) _).trans (hb.mono (by simp)) | exact (below_drewN1 ((Below.refl _ w).alloc (Nat.le_refl _) _) _).trans (hb.mono (by simp))⟩)
    ·have hR:=refRune_other hC hc (fun h => hl h.1)
     have hl' : (s.size : Int) - p < (Utf8.encode n).size:=by omega
     by_cases h4 : j < 4
     ·have h5 : ¬ (p : Int) + j < s.size:=by omega
      go_wp2
      go_quiet (fail)
      go_wp2_with (first | (go_at_call 109;refine (ris_any _ _).mono ?_;rintro e w' ⟨rfl,rfl⟩) | (go_at_call 110;refine (rbytes_all _ _ hc).mono ?_;rintro e w1 ⟨rfl,hb⟩))
      all_goals (go_ret2;exact ⟨by rw [hR] <;> rfl,by first | exact ((Below.refl _ w).alloc (Nat.le_refl _) _).trans (hb.mono (by simp)) | exact (below_drewN1 ((Below.refl _ w).alloc (Nat.le_refl _) _) _).trans (hb.mono (by simp))⟩)
     ·exfalso
      omega
   ·have hc' : charB n = false:=by simpa using hc
    have hR:=refRune_no hC hc'
    clear hc
    by_cases h4 : j < 4
    ·have h5 : ¬ (p : Int) + j < s.size:=by omega
     go_wp2
     go_quiet (fail)
     go_wp2_with (go_at_call 109;refine (ris_any _ _).mono ?_;rintro e w' ⟨rfl,rfl⟩)
     all_goals (go_ret2;exact ⟨by rw [hR] <;> rfl,by first | exact (Below.refl _ w).alloc (Nat.le_refl _) _ | exact below_drewN1 ((Below.refl _ w).alloc (Nat.le_refl _) _) _⟩)
    ·go_wp2
     go_quiet (fail)
     go_wp2_with (go_at_call 109;refine (ris_any _ _).mono ?_;rintro e w' ⟨rfl,rfl⟩)
     all_goals (go_ret2;exact ⟨by rw [hR] <;> rfl,by first | exact (Below.refl _ w).alloc (Nat.le_refl _) _ | exact below_drewN1 ((Below.refl _ w).alloc (Nat.le_refl _) _) _⟩)
end
section
open Go.RowKit Go.Lib
theorem rrune_in (s : ByteArray) (p : Nat) (w : World) (hs : s.size ≤ 1125899906842624) (hp : p < s.size) :
  Calls Tryz.prog 89 #[.string s,.int .i64 p] w fun e w' => e = .returned (.tuple #[.int .i64 (runeS s p).1,.int .i64 (runeS s p).2]) ∧ Below w.heap.size w w':=by
 rw [← refRune_eq s p hp]
 by_cases h1 : gB s p < 128
 ·exact rrune_r1 s p w hs hp h1
 ·by_cases h2 : gB s p < 224
  ·exact rrune_r2 s p w hs hp ⟨by omega,h2⟩
  ·by_cases h3 : gB s p < 240
   ·exact rrune_r3 s p w hs hp ⟨by omega,h3⟩
   ·exact rrune_r4 s p w hs hp (by omega)
end
end Go.Proofs.YtlabcadpkdgjnaaGreatDoor
