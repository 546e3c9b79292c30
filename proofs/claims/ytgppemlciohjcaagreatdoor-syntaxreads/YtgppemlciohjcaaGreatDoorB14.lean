/- A string with an escape in it: its token. -/
import Derived.Test.YtgppemlciohjcaaGreatDoorB05
import Derived.Test.YtgppemlciohjcaaGreatDoorB02
import Derived.Test.YtgppemlciohjcaaGreatDoorB03
namespace Go.Proofs.YtgppemlciohjcaaGreatDoor
section
open Go Go.RowKit
theorem dec_ascii (S : ByteArray) (p : Nat) (h : (S.get! p).toNat < 128) : Utf8.decode S p = ((S.get! p).toNat,1):=by
 unfold Utf8.decode
 simp only [Nat.add_zero]
 rw [if_pos h]
theorem stC_ascii (S : ByteArray) (p : Nat) (h : (S.get! p).toNat < 128) : stC S p = ((S.get! p).toNat : Int):=by
 unfold stC
 rw [dec_ascii S p h,if_neg]
 intro e
 have:=(Prod.mk.inj e).1
 omega
theorem get_mk (x : Bs) (p : Nat) (hp : p < x.length) : (ByteArray.mk x.toArray).get! p = x[p]:=by
 show x.toArray[p]! = _
 simp [hp]
theorem src_plain (x : Bs) (h : ∀ c ∈ x,32 ≤ c.toNat ∧ c.toNat < 128) : srcB x = none:=by
 have hw : ∀ n p,walkF ⟨x.toArray⟩ (sourceStep ⟨x.toArray⟩) n p (0,0) = (0,0):=by
  intro n
  induction n with
  | zero => intro p;rfl
  | succ n ih =>
   intro p
   unfold walkF
   by_cases hp : p < (ByteArray.mk x.toArray).size
   ·rw [if_pos hp]
    have hp' : p < x.length:=hp
    have hx:=h x[p] (List.getElem_mem hp')
    have hg:=get_mk x p hp'
    have hc : sourceB (stC ⟨x.toArray⟩ p) = true:=by
     rw [stC_ascii _ _ (by rw [hg];exact hx.2),hg]
     unfold sourceB
     simp
     omega
    have e : sourceStep ⟨x.toArray⟩ (0,0) p = ((0,0),true):=if_pos hc
    rw [e]
    exact ih _
   ·rw [if_neg hp]
 unfold srcB sourceS walk
 rw [hw]
 rfl
attribute [local irreducible] srcB unitS
theorem hexV_bd {x : UInt8} {d : Nat} (h : hexV x = some d) : 32 ≤ x.toNat ∧ x.toNat < 128:=by
 unfold hexV at h
 split at h
 ·omega
 ·split at h
  ·omega
  ·split at h
   ·omega
   ·cases h
end
section
open Go Go.RowKit
def encL (n : Nat) : List Nat :=
 if n < 128 then [n] else if n < 2048 then [192 + n / 64,128 + n % 64] else if n < 65536 then [224 + n / 4096,128 + n / 64 % 64,128 + n % 64] else [240 + n / 262144,128 + n / 4096 % 64,128 + n / 64 % 64,128 + n % 64]
theorem valid_char (n : Nat) (h : charB (n : Int) = true) : Utf8.valid (n : Int) = true ∧ n ≤ 1114111 ∧ (n < 55296 ∨ 57343 < n):=by
 unfold charB validB at h
 unfold Utf8.valid
 simp only [Bool.and_eq_true,Bool.or_eq_true,decide_eq_true_eq] at h ⊢
 omega
theorem encode_list (n : Nat) (h : charB (n : Int) = true) : Utf8.encode (n : Int) = ⟨((encL n).map UInt8.ofNat).toArray⟩:=by
 have hv:=(valid_char n h).1
 unfold Utf8.encode encL
 simp only [hv,if_true,Int.toNat_natCast]
 repeat' split
 all_goals first | rfl | (exfalso;omega)
set_option maxHeartbeats 400000 in
theorem ris_any (c : Int) (w : World) : Calls Tryz.prog 121 #[.int .i64 c] w fun e w' => e = .returned (.bool (charB c)) ∧ w' = w:=by
 go_enter Tryz.func121,Tryz.ntmps121
 go_wp2
 all_goals (go_ret;refine ⟨ret_bool ?_,rfl⟩;go_light;unfold charB validB;first | (symm;simp;omega) | (rw [Bool.eq_iff_iff];simp;omega))
theorem u8_cellO (x : Nat) (y : Int) (hx : x < 256) (hy : y = x) : Value.int .u8 y = .int .u8 ((UInt8.ofNat x).toNat : Int):=by
 rw [hy]
 simp
 omega
theorem rconv_1 (c : Int) (w : World) (hc : charB c = true) (h0 : 0 ≤ c) (h1 : c < 128) :
  (convert 37 9 (.slice (some ⟨w.heap.size,0,none⟩) 1 1)).run Tryz.prog (w.alloc (.cells #[.int .u8 (c)] 5)) = .ok (.string (Utf8.encode c)) (w.alloc (.cells #[.int .u8 (c)] 5)):=by
 obtain ⟨n,rfl⟩ : ∃ n : Nat,c = n:=⟨c.toNat,by omega⟩
 have hl : encL n = [n]:=by unfold encL;rw [if_pos (by omega)]
 have hcv:=run_convert_bytes_back (P:=Tryz.prog) (w.alloc (.cells #[.int .u8 ((n : Int))] 5)) 37 9 5 ⟨w.heap.size,0,none⟩ 1 ((encL n).map UInt8.ofNat) Tryz.underlying37 Tryz.underlying5 Tryz.underlying9 (by
   rw [hl]
   intro j hj
   match j,hj with
   | 0,_ => exact (cell_new w _ _ _).trans (congrArg some (u8_cellO _ _ (by omega) (by omega)))
   | _ + 1,hj => simp at hj <;> omega)
 rw [← encode_list n hc,List.length_map,hl] at hcv
 exact hcv
set_option maxRecDepth 100000 in
set_option maxHeartbeats 400000 in
theorem rbytes_1 (c : Int) (w : World) (hc : charB c = true) (h0 : 0 ≤ c) (h1 : c < 128) : Calls Tryz.prog 122 #[.int .i64 c] w fun e w' => e = .returned (.string (Utf8.encode c)) ∧ Below w.heap.size w w':=by
 have hcv:=rconv_1 c w hc h0 h1
 clear hc
 go_enter Tryz.func122,Tryz.ntmps122
 go_wp2
 go_ret
 exact ⟨rfl,(Below.refl _ _).alloc (Nat.le_refl _) _⟩
theorem rconv_2 (c : Int) (w : World) (hc : charB c = true) (h0 : 128 ≤ c) (h1 : c < 2048) :
  (convert 37 9 (.slice (some ⟨w.heap.size,0,none⟩) 2 2)).run Tryz.prog (w.alloc (.cells #[.int .u8 (192 + c / 64),.int .u8 (128 + c % 64)] 5)) = .ok (.string (Utf8.encode c)) (w.alloc (.cells #[.int .u8 (192 + c / 64),.int .u8 (128 + c % 64)] 5)):=by
 obtain ⟨n,rfl⟩ : ∃ n : Nat,c = n:=⟨c.toNat,by omega⟩
 have hl : encL n = [192 + n / 64,128 + n % 64]:=by unfold encL;rw [if_neg (by omega),if_pos (by omega)]
 have hcv:=run_convert_bytes_back (P:=Tryz.prog) (w.alloc (.cells #[.int .u8 (192 + (n : Int) / 64),.int .u8 (128 + (n : Int) % 64)] 5)) 37 9 5 ⟨w.heap.size,0,none⟩ 2 ((encL n).map UInt8.ofNat) Tryz.underlying37 Tryz.underlying5 Tryz.underlying9 (by
   rw [hl]
   intro j hj
   match j,hj with
   | 0,_ => exact (cell_new w _ _ _).trans (congrArg some (u8_cellO _ _ (by omega) (by omega)))
   | 1,_ => exact (cell_new w _ _ _).trans (congrArg some (u8_cellO _ _ (by omega) (by omega)))
   | _ + 2,hj => simp at hj <;> omega)
 rw [← encode_list n hc,List.length_map,hl] at hcv
 exact hcv
set_option maxRecDepth 100000 in
set_option maxHeartbeats 400000 in
theorem rbytes_2 (c : Int) (w : World) (hc : charB c = true) (h0 : 128 ≤ c) (h1 : c < 2048) : Calls Tryz.prog 122 #[.int .i64 c] w fun e w' => e = .returned (.string (Utf8.encode c)) ∧ Below w.heap.size w w':=by
 have hcv:=rconv_2 c w hc h0 h1
 clear hc
 go_enter Tryz.func122,Tryz.ntmps122
 go_wp2
 go_ret
 exact ⟨rfl,(Below.refl _ _).alloc (Nat.le_refl _) _⟩
theorem rconv_3 (c : Int) (w : World) (hc : charB c = true) (h0 : 2048 ≤ c) (h1 : c < 65536) :
  (convert 37 9 (.slice (some ⟨w.heap.size,0,none⟩) 3 3)).run Tryz.prog (w.alloc (.cells #[.int .u8 (224 + c / 4096),.int .u8 (128 + c / 64 % 64),.int .u8 (128 + c % 64)] 5)) = .ok (.string (Utf8.encode c)) (w.alloc (.cells #[.int .u8 (224 + c / 4096),.int .u8 (128 + c / 64 % 64),.int .u8 (128 + c % 64)] 5)):=by
 obtain ⟨n,rfl⟩ : ∃ n : Nat,c = n:=⟨c.toNat,by omega⟩
 have hl : encL n = [224 + n / 4096,128 + n / 64 % 64,128 + n % 64]:=by unfold encL;rw [if_neg (by omega),if_neg (by omega),if_pos (by omega)]
 have hcv:=run_convert_bytes_back (P:=Tryz.prog) (w.alloc (.cells #[.int .u8 (224 + (n : Int) / 4096),.int .u8 (128 + (n : Int) / 64 % 64),.int .u8 (128 + (n : Int) % 64)] 5)) 37 9 5 ⟨w.heap.size,0,none⟩ 3 ((encL n).map UInt8.ofNat) Tryz.underlying37 Tryz.underlying5 Tryz.underlying9 (by
   rw [hl]
   intro j hj
   match j,hj with
   | 0,_ => exact (cell_new w _ _ _).trans (congrArg some (u8_cellO _ _ (by omega) (by omega)))
   | 1,_ => exact (cell_new w _ _ _).trans (congrArg some (u8_cellO _ _ (by omega) (by omega)))
   | 2,_ => exact (cell_new w _ _ _).trans (congrArg some (u8_cellO _ _ (by omega) (by omega)))
   | _ + 3,hj => simp at hj <;> omega)
 rw [← encode_list n hc,List.length_map,hl] at hcv
 exact hcv
set_option maxRecDepth 100000 in
set_option maxHeartbeats 400000 in
theorem rbytes_3 (c : Int) (w : World) (hc : charB c = true) (h0 : 2048 ≤ c) (h1 : c < 65536) : Calls Tryz.prog 122 #[.int .i64 c] w fun e w' => e = .returned (.string (Utf8.encode c)) ∧ Below w.heap.size w w':=by
 have hcv:=rconv_3 c w hc h0 h1
 clear hc
 go_enter Tryz.func122,Tryz.ntmps122
 go_wp2
 go_ret
 exact ⟨rfl,(Below.refl _ _).alloc (Nat.le_refl _) _⟩
theorem rbytes_any (c : Int) (w : World) (hc : charB c = true) (h3 : c < 65536) : Calls Tryz.prog 122 #[.int .i64 c] w fun e w' => e = .returned (.string (Utf8.encode c)) ∧ Below w.heap.size w w':=by
 have hd:=charB_bd hc
 by_cases h1 : c < 128
 ·exact rbytes_1 c w hc hd.1 h1
 ·by_cases h2 : c < 2048
  ·exact rbytes_2 c w hc (by omega) h2
  ·exact rbytes_3 c w hc (by omega) h3
set_option maxRecDepth 100000 in
set_option maxHeartbeats 1000000 in
theorem unit_any (n : Nat) (hn : n < 65536) (w : World) : Calls Tryz.prog 124 #[.int .i64 (n : Int)] w fun e w' => e = .returned (.string ⟨(unitS n).toArray⟩) ∧ Below w.heap.size w w':=by
 have I:=ris_any (n : Int) w
 by_cases hh : 55296 ≤ n ∧ n ≤ 57343
 ·rw [show unitS n = halfS n from if_pos hh]
  have hf : charB (n : Int) = false:=by
   unfold charB validB
   simp
   omega
  rw [hf] at I
  have hcv:=hconv n w (by omega) hn
  have h0' : 2048 ≤ (n : Int):=by omega
  have h1' : (n : Int) < 65536:=by omega
  clear hh hf hn
  generalize halfS n = H at *
  generalize (n : Int) = c at *
  go_enter Tryz.func124,Tryz.ntmps124
  go_wp2_with (go_at_call 121;refine I.mono ?_;rintro e w1 ⟨rfl,rfl⟩)
  go_ret
  exact ⟨rfl,(Below.refl _ _).alloc (Nat.le_refl _) _⟩
 ·rw [unitS_else n hh,mk_toList]
  have hf : charB (n : Int) = true:=charB_small _ (by omega) (by omega) (by omega)
  rw [hf] at I
  have Y:=rbytes_any (n : Int) w hf (by omega)
  clear hh hf hn
  generalize Utf8.encode (n : Int) = H at *
  generalize (n : Int) = c at *
  go_enter Tryz.func124,Tryz.ntmps124
  go_wp2_with (first
   | (go_at_call 121;refine I.mono ?_;rintro e w1 ⟨rfl,rfl⟩)
   | (go_at_call 122;refine Y.mono ?_;rintro e w1 ⟨rfl,hb⟩)
   | fail)
  go_ret
  exact ⟨rfl,hb⟩
end
section
open Go Go.RowKit
theorem skip_nil : skipS [] = .inl []:=by
 unfold skipS skipF;rfl
theorem skip_one {c : UInt8} (h : ignL.contains c = true) (l : Bs) : skipS (c :: l) = skipS l:=by
 have h1 : headIn ignL (c :: l) = true:=h
 rw [skipS_ign h1]
 have e : spanR ignL (c :: l) = spanR ignL l:=by
  conv => lhs;unfold spanR
  rw [if_pos h]
 rw [e]
 by_cases h2 : headIn ignL l = true
 ·exact (skipS_ign h2).symm
 ·rw [spanR_stop ignL l (Bool.eq_false_iff.2 h2)]
theorem skip_bom (l : Bs) : skipS (239 :: 187 :: 191 :: l) = skipS l :=
 skipS_mark (l:=239 :: 187 :: 191 :: l) rfl rfl
theorem skip_com {l r : Bs} (h : comS l = some (.inl r)) : skipS l = skipS r:=by
 unfold comS at h
 by_cases hp : List.isPrefixOf [35] l = true
 ·obtain ⟨m,rfl⟩ : ∃ m,l = 35 :: m:=by
   cases l with
   | nil => cases hp
   | cons c m =>
    have e : (35 == c) = true:=by simpa [List.isPrefixOf] using hp
    exact ⟨m,by rw [← (beq_iff_eq.1 e)]⟩
  have h' : comS (35 :: m) = some (.inl r):=h
  rw [skipS_com (l:=35 :: m) rfl rfl,h']
 ·rw [if_neg hp] at h;cases h
theorem skip_bad {l : Bs} {k : Nat} (h : comS l = some (.inr k)) : skipS l = .inr (l.length - k):=by
 unfold comS at h
 by_cases hp : List.isPrefixOf [35] l = true
 ·obtain ⟨m,rfl⟩ : ∃ m,l = 35 :: m:=by
   cases l with
   | nil => cases hp
   | cons c m =>
    have e : (35 == c) = true:=by simpa [List.isPrefixOf] using hp
    exact ⟨m,by rw [← (beq_iff_eq.1 e)]⟩
  have h' : comS (35 :: m) = some (.inr k):=h
  rw [skipS_com (l:=35 :: m) rfl rfl,h']
 ·rw [if_neg hp] at h;cases h
theorem spanN_all (S : Bs) : ∀ l : Bs,∃ p,l = p ++ spanN S l ∧ (∀ c ∈ p,S.contains c = false) ∧ ∀ c m,spanN S l = c :: m → S.contains c = true
 | [] => ⟨[],rfl,fun _ h => (by cases h),fun _ _ h => (by cases h)⟩
 | c :: l => by
  by_cases h : S.contains c = true
  ·refine ⟨[],?_,fun _ h => (by cases h),?_⟩
   ·rw [spanN_stop S c l h];rfl
   ·rw [spanN_stop S c l h]
    intro d m e
    cases e
    exact h
  ·have h':=Bool.eq_false_iff.2 h
   obtain ⟨p,h1,h2,h3⟩:=spanN_all S l
   rw [spanN_head S c l h']
   refine ⟨c :: p,?_,?_,h3⟩
   ·rw [List.cons_append,← h1]
   ·intro d hd
    rcases List.mem_cons.1 hd with rfl | hd
    ·exact h'
    ·exact h2 d hd
theorem spanN_app (S : Bs) : ∀ (p m : Bs),(∀ c ∈ p,S.contains c = false) → spanN S (p ++ m) = spanN S m
 | [],_,_ => rfl
 | c :: p,m,h => by
  rw [List.cons_append,spanN_head S c _ (h c List.mem_cons_self)]
  exact spanN_app S p m fun d hd => h d (List.mem_cons_of_mem _ hd)
theorem ahead_app (p r : Bs) : ahead (p ++ r) r = p:=by
 unfold ahead
 simp
theorem com_make {body r : Bs} (h1 : ∀ c ∈ body,endL.contains c = false) (h2 : ∀ c m,r = c :: m → endL.contains c = true) (hs : srcB (35 :: body) = none) : comS (35 :: (body ++ r)) = some (.inl r):=by
 have e : spanN endL (body ++ r) = r:=by
  rw [spanN_app endL body r h1]
  cases r with
  | nil => rfl
  | cons c m => exact spanN_stop endL c m (h2 c m rfl)
 unfold comS
 rw [if_pos (by rfl)]
 simp only [List.drop_succ_cons,List.drop_zero]
 rw [e,show ahead (35 :: (body ++ r)) r = 35 :: body from ahead_app (35 :: body) r,hs]
end
section
open Go Go.RowKit
theorem pre_app {p a r : Bs} (h : p.length ≤ a.length) : List.isPrefixOf p (a ++ r) = List.isPrefixOf p a:=by
 rw [Bool.eq_iff_iff,List.isPrefixOf_iff_prefix,List.isPrefixOf_iff_prefix]
 constructor
 ·intro h1
  exact List.prefix_of_prefix_length_le h1 (List.prefix_append a r) h
 ·intro h1
  exact h1.trans (List.prefix_append a r)
theorem drop_app1 {a r : Bs} (n : Nat) (h : n ≤ a.length) : (a ++ r).drop n = a.drop n ++ r:=by
 rw [List.drop_append_of_le_length h]
theorem rawF_lt : ∀ (n : Nat) (l t r : Bs),rawF n l = some (t,r) → r.length + 3 ≤ l.length:=by
 intro n
 induction n with
 | zero => intro l t r h;cases h
 | succ n ih =>
  intro l t r h
  unfold rawF at h
  split at h
  ·rename_i hp
   have:=prefix_le hp
   simp only [Option.some.injEq,Prod.mk.injEq] at h
   rw [← h.2,List.length_drop]
   simp at this
   omega
  ·split at h
   ·rename_i hp
    have:=prefix_le hp
    cases hx : rawF n (l.drop 4) with
    | none => rw [hx] at h;cases h
    | some q =>
     rw [hx] at h
     simp only [Option.map_some,Option.some.injEq,Prod.mk.injEq] at h
     have:=ih _ q.1 q.2 hx
     rw [List.length_drop] at this
     rw [← h.2]
     omega
   ·split at h
    ·cases h
    ·rename_i c m _ _
     cases hx : rawF n m with
     | none => rw [hx] at h;cases h
     | some q =>
      rw [hx] at h
      simp only [Option.map_some,Option.some.injEq,Prod.mk.injEq] at h
      have:=ih _ q.1 q.2 hx
      rw [← h.2]
      simp
      omega
def hexQ (a b c d : UInt8) : Option Nat:=(hexV a).bind fun x => (hexV b).bind fun y => (hexV c).bind fun z => (hexV d).bind fun t => some (x * 4096 + y * 256 + z * 16 + t)
theorem nmbS_four (a b c d : UInt8) (m : Bs) : nmbS (a :: b :: c :: d :: m) = (hexQ a b c d).map fun V => (unitS V,m):=by
 show ((hexV a).bind fun x => (hexV b).bind fun y => (hexV c).bind fun z => (hexV d).bind fun t => some (unitS (x * 4096 + y * 256 + z * 16 + t),m)) = _
 unfold hexQ
 cases hexV a with
 | none => rfl
 | some x =>
  cases hexV b with
  | none => rfl
  | some y =>
   cases hexV c with
   | none => rfl
   | some z => cases hexV d <;> rfl
theorem nmbS_ext {a b x : Bs} (r : Bs) (h : nmbS a = some (x,b)) : nmbS (a ++ r) = some (x,b ++ r):=by
 match a,h with
 | c0 :: c1 :: c2 :: c3 :: m,h =>
  simp only [List.cons_append]
  rw [nmbS_four] at h ⊢
  cases hq : hexQ c0 c1 c2 c3 with
  | none => rw [hq] at h;cases h
  | some V =>
   rw [hq] at h
   simp only [Option.map_some,Option.some.injEq,Prod.mk.injEq] at h ⊢
   exact ⟨h.1,by rw [h.2]⟩
theorem nmbS_cut {a b x r : Bs} (h : nmbS (a ++ r) = some (x,b ++ r)) : nmbS a = some (x,b):=by
 have hlen : 4 ≤ a.length:=by
  match hl : a ++ r,h with
  | c0 :: c1 :: c2 :: c3 :: m,h =>
   rw [nmbS_four] at h
   cases hq : hexQ c0 c1 c2 c3 with
   | none => rw [hq] at h;cases h
   | some V =>
    rw [hq] at h
    simp only [Option.map_some,Option.some.injEq,Prod.mk.injEq] at h
    have e:=congrArg List.length hl
    rw [h.2] at e
    simp only [List.length_append,List.length_cons] at e
    omega
 match a,hlen,h with
 | c0 :: c1 :: c2 :: c3 :: m,_,h =>
  simp only [List.cons_append] at h
  rw [nmbS_four] at h ⊢
  cases hq : hexQ c0 c1 c2 c3 with
  | none => rw [hq] at h;cases h
  | some V =>
   rw [hq] at h
   simp only [Option.map_some,Option.some.injEq,Prod.mk.injEq] at h ⊢
   exact ⟨h.1,List.append_cancel_right h.2⟩
theorem escS_ext {a b x : Bs} (r : Bs) (h : escS a = some (x,b)) : escS (a ++ r) = some (x,b ++ r):=by
 cases a with
 | nil => cases h
 | cons c m =>
  unfold escS at h ⊢
  rw [pre_app (by simp)]
  split at h
  ·rename_i hp
   rw [if_pos hp]
   exact nmbS_ext r h
  ·rename_i hp
   rw [if_neg hp]
   simp only [List.cons_append] at h ⊢
   split at h
   ·rename_i hc
    rw [if_pos hc]
    simp only [Option.some.injEq,Prod.mk.injEq] at h ⊢
    exact ⟨h.1,by rw [h.2]⟩
   ·cases h
theorem escS_cut {a b x r : Bs} (h : escS (a ++ r) = some (x,b ++ r)) : escS a = some (x,b):=by
 have hlen:=(escS_facts h).2.1
 rw [List.length_append,List.length_append] at hlen
 cases a with
 | nil => exact absurd hlen (by simp only [List.length_nil];omega)
 | cons c m =>
  unfold escS at h ⊢
  rw [pre_app (by simp)] at h
  split at h
  ·rename_i hp
   rw [if_pos hp]
   exact nmbS_cut h
  ·rename_i hp
   rw [if_neg hp]
   simp only [List.cons_append] at h ⊢
   split at h
   ·rename_i hc
    rw [if_pos hc]
    simp only [Option.some.injEq,Prod.mk.injEq] at h ⊢
    exact ⟨h.1,List.append_cancel_right h.2⟩
   ·cases h
theorem lineF_lt : ∀ (n : Nat) (l t r : Bs),lineF n l = some (t,r) → r.length < l.length:=by
 intro n
 induction n with
 | zero => intro l t r h;cases h
 | succ n ih =>
  intro l t r h
  unfold lineF at h
  split at h
  ·rename_i hp
   have:=prefix_le hp
   simp only [Option.some.injEq,Prod.mk.injEq] at h
   rw [← h.2,List.length_drop]
   simp at this
   omega
  ·split at h
   ·rename_i hp
    have:=prefix_le hp
    cases hy : escS (l.drop 1) with
    | none => rw [hy] at h;cases h
    | some p =>
     rw [hy,Option.bind_some] at h
     cases hx : lineF n p.2 with
     | none => rw [hx] at h;cases h
     | some q =>
      rw [hx] at h
      simp only [Option.map_some,Option.some.injEq,Prod.mk.injEq] at h
      have h1:=ih _ q.1 q.2 hx
      have h2:=(escS_facts (t:=p.1) (r:=p.2) hy).2.1
      rw [List.length_drop] at h2
      rw [← h.2]
      omega
   ·split at h
    ·cases h
    ·rename_i c m _ _
     split at h
     ·cases h
     ·cases hx : lineF n m with
      | none => rw [hx] at h;cases h
      | some q =>
       rw [hx] at h
       simp only [Option.map_some,Option.some.injEq,Prod.mk.injEq] at h
       have:=ih _ q.1 q.2 hx
       rw [← h.2]
       simp
       omega
end
section
open Go Go.RowKit
end
section
open Go Go.RowKit
end
section
open Go Go.RowKit
end
end Go.Proofs.YtgppemlciohjcaaGreatDoor
