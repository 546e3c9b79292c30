/- Quoted texts are one token. -/
import Derived.Test.YtgmlbjfgfmfliaaGreatDoorA11
import Derived.Test.YtgmlbjfgfmfliaaGreatDoorB6
import Derived.Test.YtgmlbjfgfmfliaaGreatDoorA15
import Derived.Test.YtgmlbjfgfmfliaaGreatDoorA09
import Derived.Test.YtgmlbjfgfmfliaaGreatDoorA19
import Derived.Test.YtgmlbjfgfmfliaaGreatDoorA18
namespace Go.Proofs.YtgmlbjfgfmfliaaGreatDoor
open Go Go.RowKit
def encL (n : Nat) : List Nat :=
 if n < 128 then [n] else if n < 2048 then [192 + n / 64,128 + n % 64] else if n < 65536 then [224 + n / 4096,128 + n / 64 % 64,128 + n % 64] else [240 + n / 262144,128 + n / 4096 % 64,128 + n / 64 % 64,128 + n % 64]
theorem valid_char (n : Nat) (h : charB (n : Int) = true) : Utf8.valid (n : Int) = true ∧ n ≤ 1114111 ∧ (n < 55296 ∨ 57343 < n):=by
 unfold charB validB at h
 unfold Utf8.valid
 simp only [Bool.and_eq_true,Bool.or_eq_true,decide_eq_true_eq] at h ⊢
 omega
theorem encode_list (n : Nat) (h : charB (n : Int) = true) : Utf8.encode (n : Int) = ⟨((encL n).map UInt8.ofNat).toArray⟩:=by
 have hv:=(valid_char n h).1
 unfold Utf8.encode encL
 simp only [hv,if_true,Int.toNat_natCast]
 repeat' split
 all_goals first | rfl | (exfalso;omega)
set_option maxHeartbeats 400000 in
theorem ris_any (c : Int) (w : World) : Calls Tryz.prog 195 #[.int .i64 c] w fun e w' => e = .returned (.bool (charB c)) ∧ w' = w:=by
 go_enter Tryz.func195,Tryz.ntmps195
 go_wp2
 all_goals (go_ret;refine ⟨ret_bool ?_,rfl⟩;go_light;unfold charB validB;first | (symm;simp;omega) | (rw [Bool.eq_iff_iff];simp;omega))
theorem u8_cellO (x : Nat) (y : Int) (hx : x < 256) (hy : y = x) : Value.int .u8 y = .int .u8 ((UInt8.ofNat x).toNat : Int):=by
 rw [hy]
 simp
 omega
theorem rconv_1 (c : Int) (w : World) (hc : charB c = true) (h0 : 0 ≤ c) (h1 : c < 128) :
  (convert 60 9 (.slice (some ⟨w.heap.size,0,none⟩) 1 1)).run Tryz.prog (w.alloc (.cells #[.int .u8 (c)] 5)) = .ok (.string (Utf8.encode c)) (w.alloc (.cells #[.int .u8 (c)] 5)):=by
 obtain ⟨n,rfl⟩ : ∃ n : Nat,c = n:=⟨c.toNat,by omega⟩
 have hl : encL n = [n]:=by unfold encL;rw [if_pos (by omega)]
 have hcv:=run_convert_bytes_back (P:=Tryz.prog) (w.alloc (.cells #[.int .u8 ((n : Int))] 5)) 60 9 5 ⟨w.heap.size,0,none⟩ 1 ((encL n).map UInt8.ofNat) Tryz.underlying60 Tryz.underlying5 Tryz.underlying9 (by
   rw [hl]
   intro j hj
   match j,hj with
   | 0,_ => exact (cell_new w _ _ _).trans (congrArg some (u8_cellO _ _ (by omega) (by omega)))
   | _ + 1,hj => simp at hj <;> omega)
 rw [← encode_list n hc,List.length_map,hl] at hcv
 exact hcv
set_option maxRecDepth 100000 in
set_option maxHeartbeats 400000 in
theorem rbytes_1 (c : Int) (w : World) (hc : charB c = true) (h0 : 0 ≤ c) (h1 : c < 128) : Calls Tryz.prog 196 #[.int .i64 c] w fun e w' => e = .returned (.string (Utf8.encode c)) ∧ Below w.heap.size w w':=by
 have hcv:=rconv_1 c w hc h0 h1
 clear hc
 go_enter Tryz.func196,Tryz.ntmps196
 go_wp2
 go_ret
 exact ⟨rfl,(Below.refl _ _).alloc (Nat.le_refl _) _⟩
theorem rconv_2 (c : Int) (w : World) (hc : charB c = true) (h0 : 128 ≤ c) (h1 : c < 2048) :
  (convert 60 9 (.slice (some ⟨w.heap.size,0,none⟩) 2 2)).run Tryz.prog (w.alloc (.cells #[.int .u8 (192 + c / 64),.int .u8 (128 + c % 64)] 5)) = .ok (.string (Utf8.encode c)) (w.alloc (.cells #[.int .u8 (192 + c / 64),.int .u8 (128 + c % 64)] 5)):=by
 obtain ⟨n,rfl⟩ : ∃ n : Nat,c = n:=⟨c.toNat,by omega⟩
 have hl : encL n = [192 + n / 64,128 + n % 64]:=by unfold encL;rw [if_neg (by omega),if_pos (by omega)]
 have hcv:=run_convert_bytes_back (P:=Tryz.prog) (w.alloc (.cells #[.int .u8 (192 + (n : Int) / 64),.int .u8 (128 + (n : Int) % 64)] 5)) 60 9 5 ⟨w.heap.size,0,none⟩ 2 ((encL n).map UInt8.ofNat) Tryz.underlying60 Tryz.underlying5 Tryz.underlying9 (by
   rw [hl]
   intro j hj
   match j,hj with
   | 0,_ => exact (cell_new w _ _ _).trans (congrArg some (u8_cellO _ _ (by omega) (by omega)))
   | 1,_ => exact (cell_new w _ _ _).trans (congrArg some (u8_cellO _ _ (by omega) (by omega)))
   | _ + 2,hj => simp at hj <;> omega)
 rw [← encode_list n hc,List.length_map,hl] at hcv
 exact hcv
set_option maxRecDepth 100000 in
set_option maxHeartbeats 400000 in
theorem rbytes_2 (c : Int) (w : World) (hc : charB c = true) (h0 : 128 ≤ c) (h1 : c < 2048) : Calls Tryz.prog 196 #[.int .i64 c] w fun e w' => e = .returned (.string (Utf8.encode c)) ∧ Below w.heap.size w w':=by
 have hcv:=rconv_2 c w hc h0 h1
 clear hc
 go_enter Tryz.func196,Tryz.ntmps196
 go_wp2
 go_ret
 exact ⟨rfl,(Below.refl _ _).alloc (Nat.le_refl _) _⟩
theorem rconv_3 (c : Int) (w : World) (hc : charB c = true) (h0 : 2048 ≤ c) (h1 : c < 65536) :
  (convert 60 9 (.slice (some ⟨w.heap.size,0,none⟩) 3 3)).run Tryz.prog (w.alloc (.cells #[.int .u8 (224 + c / 4096),.int .u8 (128 + c / 64 % 64),.int .u8 (128 + c % 64)] 5)) = .ok (.string (Utf8.encode c)) (w.alloc (.cells #[.int .u8 (224 + c / 4096),.int .u8 (128 + c / 64 % 64),.int .u8 (128 + c % 64)] 5)):=by
 obtain ⟨n,rfl⟩ : ∃ n : Nat,c = n:=⟨c.toNat,by omega⟩
 have hl : encL n = [224 + n / 4096,128 + n / 64 % 64,128 + n % 64]:=by unfold encL;rw [if_neg (by omega),if_neg (by omega),if_pos (by omega)]
 have hcv:=run_convert_bytes_back (P:=Tryz.prog) (w.alloc (.cells #[.int .u8 (224 + (n : Int) / 4096),.int .u8 (128 + (n : Int) / 64 % 64),.int .u8 (128 + (n : Int) % 64)] 5)) 60 9 5 ⟨w.heap.size,0,none⟩ 3 ((encL n).map UInt8.ofNat) Tryz.underlying60 Tryz.underlying5 Tryz.underlying9 (by
   rw [hl]
   intro j hj
   match j,hj with
   | 0,_ => exact (cell_new w _ _ _).trans (congrArg some (u8_cellO _ _ (by omega) (by omega)))
   | 1,_ => exact (cell_new w _ _ _).trans (congrArg some (u8_cellO _ _ (by omega) (by omega)))
   | 2,_ => exact (cell_new w _ _ _).trans (congrArg some (u8_cellO _ _ (by omega) (by omega)))
   | _ + 3,hj => simp at hj <;> omega)
 rw [← encode_list n hc,List.length_map,hl] at hcv
 exact hcv
set_option maxRecDepth 100000 in
set_option maxHeartbeats 400000 in
theorem rbytes_3 (c : Int) (w : World) (hc : charB c = true) (h0 : 2048 ≤ c) (h1 : c < 65536) : Calls Tryz.prog 196 #[.int .i64 c] w fun e w' => e = .returned (.string (Utf8.encode c)) ∧ Below w.heap.size w w':=by
 have hcv:=rconv_3 c w hc h0 h1
 clear hc
 go_enter Tryz.func196,Tryz.ntmps196
 go_wp2
 go_ret
 exact ⟨rfl,(Below.refl _ _).alloc (Nat.le_refl _) _⟩
theorem rbytes_any (c : Int) (w : World) (hc : charB c = true) (h3 : c < 65536) : Calls Tryz.prog 196 #[.int .i64 c] w fun e w' => e = .returned (.string (Utf8.encode c)) ∧ Below w.heap.size w w':=by
 have hd:=charB_bd hc
 by_cases h1 : c < 128
 ·exact rbytes_1 c w hc hd.1 h1
 ·by_cases h2 : c < 2048
  ·exact rbytes_2 c w hc (by omega) h2
  ·exact rbytes_3 c w hc (by omega) h3
set_option maxRecDepth 100000 in
set_option maxHeartbeats 1000000 in
theorem unit_any (n : Nat) (hn : n < 65536) (w : World) : Calls Tryz.prog 198 #[.int .i64 (n : Int)] w fun e w' => e = .returned (.string ⟨(unitS n).toArray⟩) ∧ Below w.heap.size w w':=by
 have I:=ris_any (n : Int) w
 by_cases hh : 55296 ≤ n ∧ n ≤ 57343
 ·rw [show unitS n = halfS n from if_pos hh]
  have hf : charB (n : Int) = false:=by
   unfold charB validB
   simp
   omega
  rw [hf] at I
  have hcv:=hconv n w (by omega) hn
  have h0' : 2048 ≤ (n : Int):=by omega
  have h1' : (n : Int) < 65536:=by omega
  clear hh hf hn
  generalize halfS n = H at *
  generalize (n : Int) = c at *
  go_enter Tryz.func198,Tryz.ntmps198
  go_wp2_with (go_at_call 195;refine I.mono ?_;rintro e w1 ⟨rfl,rfl⟩)
  go_ret
  exact ⟨rfl,(Below.refl _ _).alloc (Nat.le_refl _) _⟩
 ·rw [unitS_else n hh,mk_toList]
  have hf : charB (n : Int) = true:=charB_small _ (by omega) (by omega) (by omega)
  rw [hf] at I
  have Y:=rbytes_any (n : Int) w hf (by omega)
  clear hh hf hn
  generalize Utf8.encode (n : Int) = H at *
  generalize (n : Int) = c at *
  go_enter Tryz.func198,Tryz.ntmps198
  go_wp2_with (first
   | (go_at_call 195;refine I.mono ?_;rintro e w1 ⟨rfl,rfl⟩)
   | (go_at_call 196;refine Y.mono ?_;rintro e w1 ⟨rfl,hb⟩)
   | fail)
  go_ret
  exact ⟨rfl,hb⟩
end Go.Proofs.YtgmlbjfgfmfliaaGreatDoor
namespace Go.Proofs.YtgmlbjfgfmfliaaGreatDoor
open Go Go.RowKit
theorem dec_ascii (S : ByteArray) (p : Nat) (h : (S.get! p).toNat < 128) : Utf8.decode S p = ((S.get! p).toNat,1):=by
 unfold Utf8.decode
 simp only [Nat.add_zero]
 rw [if_pos h]
theorem stC_ascii (S : ByteArray) (p : Nat) (h : (S.get! p).toNat < 128) : stC S p = ((S.get! p).toNat : Int):=by
 unfold stC
 rw [dec_ascii S p h,if_neg]
 intro e
 have:=(Prod.mk.inj e).1
 omega
theorem get_mk (x : Bs) (p : Nat) (hp : p < x.length) : (ByteArray.mk x.toArray).get! p = x[p]:=by
 show x.toArray[p]! = _
 simp [hp]
theorem src_plain (x : Bs) (h : ∀ c ∈ x,32 ≤ c.toNat ∧ c.toNat < 128) : srcB x = none:=by
 have hw : ∀ n p,walkF ⟨x.toArray⟩ (sourceStep ⟨x.toArray⟩) n p (0,0) = (0,0):=by
  intro n
  induction n with
  | zero => intro p;rfl
  | succ n ih =>
   intro p
   unfold walkF
   by_cases hp : p < (ByteArray.mk x.toArray).size
   ·rw [if_pos hp]
    have hp' : p < x.length:=hp
    have hx:=h x[p] (List.getElem_mem hp')
    have hg:=get_mk x p hp'
    have hc : sourceB (stC ⟨x.toArray⟩ p) = true:=by
     rw [stC_ascii _ _ (by rw [hg];exact hx.2),hg]
     unfold sourceB
     simp
     omega
    have e : sourceStep ⟨x.toArray⟩ (0,0) p = ((0,0),true):=if_pos hc
    rw [e]
    exact ih _
   ·rw [if_neg hp]
 unfold srcB sourceS walk
 rw [hw]
 rfl
attribute [local irreducible] srcB unitS
theorem hexV_bd {x : UInt8} {d : Nat} (h : hexV x = some d) : 32 ≤ x.toNat ∧ x.toNat < 128:=by
 unfold hexV at h
 split at h
 ·omega
 ·split at h
  ·omega
  ·split at h
   ·omega
   ·cases h
theorem lineF_esc (n : Nat) (x0 x1 x2 x3 : UInt8) (U : Bs) (h : nmbS [x0,x1,x2,x3,121,34] = some (U,[121,34])) : lineF (n + 4) [120,92,117,x0,x1,x2,x3,121,34] = some (120 :: (U ++ [121]),[]):=by
 have e1 : lineF (n + 4) [120,92,117,x0,x1,x2,x3,121,34] = (lineF (n + 3) [92,117,x0,x1,x2,x3,121,34]).map fun q => (120 :: q.1,q.2):=rfl
 have e2 : lineF (n + 3) [92,117,x0,x1,x2,x3,121,34] = (escS [117,x0,x1,x2,x3,121,34]).bind fun p => (lineF (n + 2) p.2).map fun q => (p.1 ++ q.1,q.2):=rfl
 have e3 : escS [117,x0,x1,x2,x3,121,34] = nmbS [x0,x1,x2,x3,121,34]:=rfl
 have e4 : lineF (n + 2) [121,34] = some ([121],[]):=rfl
 rw [e1,e2,e3,h]
 simp only [Option.bind_some,e4,Option.map_some]
theorem lexS_esc (x0 x1 x2 x3 : UInt8) (d0 d1 d2 d3 : Nat) (h0 : hexV x0 = some d0) (h1 : hexV x1 = some d1) (h2 : hexV x2 = some d2) (h3 : hexV x3 = some d3) (V : Nat) (hV : d0 * 4096 + d1 * 256 + d2 * 16 + d3 = V) :
  lexS [34,120,92,117,x0,x1,x2,x3,121,34] = .inr [⟨4,120 :: (unitS V ++ [121]),0,10⟩]:=by
 have hn : nmbS [x0,x1,x2,x3,121,34] = some (unitS V,[121,34]):=by
  rw [← hV]
  show ((hexV x0).bind fun x => (hexV x1).bind fun y => (hexV x2).bind fun z => (hexV x3).bind fun t => some (unitS (x * 4096 + y * 256 + z * 16 + t),[121,34])) = _
  rw [h0,h1,h2,h3]
  simp only [Option.bind_some]
 have hl:=lineF_esc 7 x0 x1 x2 x3 (unitS V) hn
 have hs : srcB [34,120,92,117,x0,x1,x2,x3,121,34] = none:=src_plain _ (by
  intro c hc
  simp at hc
  rcases hc with rfl | rfl | rfl | rfl | rfl | rfl | rfl | rfl | rfl | rfl
  ·decide
  ·decide
  ·decide
  ·decide
  ·exact hexV_bd h0
  ·exact hexV_bd h1
  ·exact hexV_bd h2
  ·exact hexV_bd h3
  ·decide
  ·decide)
 have hx : textS [34,120,92,117,x0,x1,x2,x3,121,34] = some (120 :: (unitS V ++ [121]),[]):=by
  unfold textS
  have e1 : textR [34,120,92,117,x0,x1,x2,x3,121,34] = lineF 11 [120,92,117,x0,x1,x2,x3,121,34]:=rfl
  rw [e1,hl]
  simp only [Option.bind_some]
  have e2 : ahead [34,120,92,117,x0,x1,x2,x3,121,34] [] = [34,120,92,117,x0,x1,x2,x3,121,34]:=rfl
  rw [e2,hs]
  simp only [Option.isSome_none,Bool.false_eq_true,if_false]
 have ht : tokS [34,120,92,117,x0,x1,x2,x3,121,34] = .ok 4 (120 :: (unitS V ++ [121])) []:=by
  have e1 : tokS [34,120,92,117,x0,x1,x2,x3,121,34] = (match textS [34,120,92,117,x0,x1,x2,x3,121,34] with
   | none => .bad 52
   | some p => .ok 4 p.1 p.2):=rfl
  rw [e1,hx]
 have hk : skipS [34,120,92,117,x0,x1,x2,x3,121,34] = .inl [34,120,92,117,x0,x1,x2,x3,121,34]:=rfl
 have he : lexS [34,120,92,117,x0,x1,x2,x3,121,34] = lexG 10 0 [34,120,92,117,x0,x1,x2,x3,121,34]:=rfl
 rw [he,lexG_ok hk (by decide) ht,lexG_end rfl]
 rfl
def hexU (n : Nat) : UInt8:=if n < 10 then (48 + n).toUInt8 else (55 + n).toUInt8
theorem hexV_low : ∀ n : Fin 16,hexV (hexD n) = some n.1:=by decide
theorem hexV_cap : ∀ n : Fin 16,hexV (hexU n) = some n.1:=by decide
/-- Both ways of writing a number of 16 bits say the same. -/
theorem lexS_small (n : Nat) (hn : n < 65536) : lexS [34,120,92,117,hexD (n / 4096 % 16),hexD (n / 256 % 16),hexD (n / 16 % 16),hexD (n / 1 % 16),121,34] = .inr [⟨4,120 :: (unitS n ++ [121]),0,10⟩] :=
 lexS_esc _ _ _ _ _ _ _ _ (hexV_low ⟨n / 4096 % 16,Nat.mod_lt _ (by decide)⟩) (hexV_low ⟨n / 256 % 16,Nat.mod_lt _ (by decide)⟩) (hexV_low ⟨n / 16 % 16,Nat.mod_lt _ (by decide)⟩) (hexV_low ⟨n / 1 % 16,Nat.mod_lt _ (by decide)⟩) n (by show n / 4096 % 16 * 4096 + n / 256 % 16 * 256 + n / 16 % 16 * 16 + n / 1 % 16 = n;omega)
theorem lexS_great (n : Nat) (hn : n < 65536) : lexS [34,120,92,117,hexU (n / 4096 % 16),hexU (n / 256 % 16),hexU (n / 16 % 16),hexU (n / 1 % 16),121,34] = .inr [⟨4,120 :: (unitS n ++ [121]),0,10⟩] :=
 lexS_esc _ _ _ _ _ _ _ _ (hexV_cap ⟨n / 4096 % 16,Nat.mod_lt _ (by decide)⟩) (hexV_cap ⟨n / 256 % 16,Nat.mod_lt _ (by decide)⟩) (hexV_cap ⟨n / 16 % 16,Nat.mod_lt _ (by decide)⟩) (hexV_cap ⟨n / 1 % 16,Nat.mod_lt _ (by decide)⟩) n (by show n / 4096 % 16 * 4096 + n / 256 % 16 * 256 + n / 16 % 16 * 16 + n / 1 % 16 = n;omega)
end Go.Proofs.YtgmlbjfgfmfliaaGreatDoor
namespace Go.Proofs.YtgmlbjfgfmfliaaGreatDoor
open Go Go.RowKit
/-- Source characters from a place on. -/
def sF (s : ByteArray) (p : Nat) : Int × Int:=walk s (sourceStep s) p (0,0)
theorem sF_end (s : ByteArray) (p : Nat) (h : ¬ p < s.size) : sF s p = (0,0):=walk_end h
theorem sF_step (s : ByteArray) (p : Nat) (h : p < s.size) : sF s p = if sourceB (stC s p) then sF s (p + stW s p) else ((p : Int),10):=by
 unfold sF
 rw [walk_step h]
 cases hc : sourceB (stC s p) <;> simp [sourceStep,hc]
theorem stC_eq {s t : ByteArray} {p q : Nat} (h : Utf8.decode s p = Utf8.decode t q) : stC s p = stC t q ∧ stW s p = stW t q:=by
 unfold stC stW
 rw [h]
 exact ⟨rfl,rfl⟩
theorem source_dec {s : ByteArray} {p : Nat} (h : sourceB (stC s p) = true) : Utf8.decode s p ≠ (65533,1):=by
 intro e
 unfold stC at h
 rw [if_pos e] at h
 exact absurd h (by decide)
theorem src_ahead (s : ByteArray) : ∀ (n p : Nat),s.size - p ≤ n → p ≤ s.size →
  sF s p = (0,0) ∨ ∃ q : Nat,p ≤ q ∧ q < s.size ∧ sF s p = ((q : Int),10) ∧ sF (s.extract 0 q) p = (0,0):=by
 intro n
 induction n with
 | zero =>
  intro p hp _
  exact Or.inl (sF_end _ _ (by omega))
 | succ n ih =>
  intro p hp hle
  by_cases h : p < s.size
  ·have hw:=dec_w s p h
   rw [sF_step s p h]
   by_cases hc : sourceB (stC s p) = true
   ·rw [if_pos hc]
    rcases ih (p + stW s p) (by omega) (by omega) with h1 | ⟨q,h1,h2,h3,h4⟩
    ·exact Or.inl h1
    ·right
     have hd:=source_dec hc
     have hz:=size_cut s 0 q (by omega)
     obtain ⟨e1,e2⟩:=stC_eq (dec_take s q p (by omega) (by omega) (by unfold stW at h1;omega) hd)
     refine ⟨q,by omega,h2,h3,?_⟩
     rw [sF_step _ _ (by omega),e1,e2,if_pos hc];exact h4
   ·rw [if_neg hc]
    have hz:=size_cut s 0 p (by omega)
    exact Or.inr ⟨p,Nat.le_refl _,h,rfl,sF_end _ _ (by omega)⟩
  ·exact Or.inl (sF_end _ _ h)
theorem take_mk (l : Bs) (q : Nat) : (ByteArray.mk l.toArray).extract 0 q = ⟨(l.take q).toArray⟩:=by
 apply ByteArray.ext;apply Array.toList_inj.1
 simp
theorem src_of {x : Bs} (h : sF ⟨x.toArray⟩ 0 = (0,0)) : srcB x = none:=by
 have h' : sourceS ⟨x.toArray⟩ = (0,0):=h
 unfold srcB
 rw [h']
 rfl
/-- A plain sign is a source character. -/
theorem sF_plain (c : UInt8) (l : Bs) (hc : 32 ≤ c.toNat ∧ c.toNat < 128) : sF ⟨(c :: l).toArray⟩ 0 = sF ⟨(c :: l).toArray⟩ 1:=by
 have hg : (ByteArray.mk (c :: l).toArray).get! 0 = c:=get_mk (c :: l) 0 (by simp)
 have h0 : 0 < (ByteArray.mk (c :: l).toArray).size:=by
  show 0 < (c :: l).toArray.size
  simp
 have hd:=dec_ascii ⟨(c :: l).toArray⟩ 0 (by rw [hg];exact hc.2)
 have hs:=stC_ascii ⟨(c :: l).toArray⟩ 0 (by rw [hg];exact hc.2)
 rw [sF_step _ _ h0,hs,hg,if_pos]
 ·unfold stW
  rw [hd]
  rfl
 ·unfold sourceB
  simp
  omega
theorem src_cut (x : Bs) (k : Nat) (h : srcB (35 :: x) = some k) : ∃ j,k = j + 1 ∧ j < x.length ∧ srcB (35 :: x.take j) = none:=by
 have hp:=sF_plain 35 x (by decide)
 have hz : (ByteArray.mk (35 :: x).toArray).size = x.length + 1:=by
  show (35 :: x).toArray.size = _
  simp
 have h0 : sourceS ⟨(35 :: x).toArray⟩ = sF ⟨(35 :: x).toArray⟩ 1:=hp
 rcases src_ahead ⟨(35 :: x).toArray⟩ _ 1 (Nat.le_refl _) (by omega) with h1 | ⟨q,h1,h2,h3,h4⟩
 ·exfalso
  unfold srcB at h
  rw [h0,h1] at h
  cases h
 ·obtain ⟨j,rfl⟩ : ∃ j,q = j + 1:=⟨q - 1,by omega⟩
  refine ⟨j,?_,by omega,?_⟩
  ·unfold srcB at h
   rw [h0,h3] at h
   simp at h
   omega
  ·apply src_of
   rw [sF_plain 35 (x.take j) (by decide)]
   rw [take_mk] at h4
   exact h4
end Go.Proofs.YtgmlbjfgfmfliaaGreatDoor
namespace Go.Proofs.YtgmlbjfgfmfliaaGreatDoor
open Go.RowKit Go.Lib
theorem encL_lt (n : Nat) (h : n ≤ 1114111) : ∀ x ∈ encL n,x < 256:=by
 unfold encL
 repeat' split
 all_goals (intro x hx;simp at hx;omega)
theorem encode_size (n : Nat) (h : charB (n : Int) = true) : (Utf8.encode (n : Int)).size = (encL n).length:=by
 rw [encode_list n h]
 show (((encL n).map UInt8.ofNat).toArray).size = _
 simp
theorem encode_get (n : Nat) (h : charB (n : Int) = true) (i : Nat) (hi : i < (encL n).length) : ((Utf8.encode (n : Int)).get! i).toNat = (encL n)[i]:=by
 have hz:=encode_size n h
 rw [get_bang _ _ (by omega)]
 have hl:=encL_lt n (valid_char n h).2.1 ((encL n)[i]) (List.getElem_mem hi)
 have : (Utf8.encode (n : Int))[i]'(by omega) = UInt8.ofNat (encL n)[i]:=by
  have e:=encode_list n h
  have : ∀ (b : ByteArray) (hb : i < b.size),b = ⟨((encL n).map UInt8.ofNat).toArray⟩ → b[i] = UInt8.ofNat (encL n)[i]:=by
   intro b hb e
   subst e
   show (((encL n).map UInt8.ofNat).toArray)[i] = _
   simp
  exact this _ (by omega) e
 rw [this]
 simp
 omega
set_option maxRecDepth 100000 in
set_option maxHeartbeats 4000000 in
/-- A character's bytes are decoded as it, whatever stands behind them. -/
theorem encN_dec (n m b0 b1 b2 b3 : Nat) (hv : n ≤ 1114111 ∧ (n < 55296 ∨ 57343 < n)) (hm : (encL n).length ≤ m)
  (hb : ∀ i x,(encL n)[i]? = some x → x = (if i = 0 then b0 else if i = 1 then b1 else if i = 2 then b2 else b3)) : decodeN m b0 b1 b2 b3 = (n,(encL n).length):=by
 unfold encL at hm hb ⊢
 by_cases h1 : n < 128
 ·simp only [if_pos h1] at hm hb ⊢
  have e0:=hb 0 _ rfl
  simp at e0 hm
  subst e0
  unfold decodeN
  rw [if_pos h1]
  rfl
 ·by_cases h2 : n < 2048
  ·simp only [if_neg h1,if_pos h2] at hm hb ⊢
   have e0:=hb 0 _ rfl
   have e1:=hb 1 _ rfl
   simp at e0 e1 hm
   subst e0 e1
   unfold decodeN
   repeat' split
   all_goals first | (exfalso;omega) | (apply Prod.ext <;> simp only [List.length_cons,List.length_nil] <;> omega)
  ·by_cases h3 : n < 65536
   ·simp only [if_neg h1,if_neg h2,if_pos h3] at hm hb ⊢
    have e0:=hb 0 _ rfl
    have e1:=hb 1 _ rfl
    have e2:=hb 2 _ rfl
    simp at e0 e1 e2 hm
    subst e0 e1 e2
    unfold decodeN
    repeat' split
    all_goals first | (exfalso;omega) | (apply Prod.ext <;> simp only [List.length_cons,List.length_nil] <;> omega)
   ·simp only [if_neg h1,if_neg h2,if_neg h3] at hm hb ⊢
    have e0:=hb 0 _ rfl
    have e1:=hb 1 _ rfl
    have e2:=hb 2 _ rfl
    have e3:=hb 3 _ rfl
    simp at e0 e1 e2 e3 hm
    subst e0 e1 e2 e3
    unfold decodeN
    repeat' split
    all_goals first | (exfalso;omega) | (apply Prod.ext <;> simp only [List.length_cons,List.length_nil] <;> omega)
theorem encL_le (n : Nat) : 1 ≤ (encL n).length ∧ (encL n).length ≤ 4:=by
 unfold encL
 repeat' split
 all_goals simp
theorem idx4 (s : ByteArray) (p i : Nat) (hi : i < 4) : (if i = 0 then (s.get! p).toNat else if i = 1 then (s.get! (p + 1)).toNat else if i = 2 then (s.get! (p + 2)).toNat else (s.get! (p + 3)).toNat) = (s.get! (p + i)).toNat:=by
 match i,hi with
 | 0,_ => rfl
 | 1,_ => rfl
 | 2,_ => rfl
 | 3,_ => rfl
theorem dec_of_enc (s : ByteArray) (p n : Nat) (hc : charB (n : Int) = true) (hz : p + (Utf8.encode (n : Int)).size ≤ s.size) (he : s.extract p (p + (Utf8.encode (n : Int)).size) = Utf8.encode (n : Int)) :
  Utf8.decode s p = (n,(Utf8.encode (n : Int)).size):=by
 have hs:=encode_size n hc
 have hl:=encL_le n
 rw [decode_at,hs]
 refine encN_dec _ _ _ _ _ _ (valid_char n hc).2 (by omega) ?_
 intro i x hx
 obtain ⟨hi,rfl⟩:=List.getElem?_eq_some_iff.1 hx
 rw [idx4 s p i (by omega),← encode_get n hc i hi]
 have hg:=get_cut s p (p + (Utf8.encode (n : Int)).size) i hz (by omega)
 rw [he] at hg
 rw [hg]
theorem char_not_err (n : Nat) (h : charB (n : Int) = true) : (n,(Utf8.encode (n : Int)).size) ≠ (65533,1):=by
 intro e
 have e2:=congrArg Prod.fst e
 have e3:=congrArg Prod.snd e
 simp only at e2 e3
 have hs:=encode_size n h
 rw [e2] at hs e3
 rw [hs] at e3
 exact absurd e3 (by decide)
theorem cut_app (s t : ByteArray) : (s ++ t).extract 0 (0 + s.size) = s:=by
 have hz:=size_cut (s ++ t) 0 (0 + s.size) (by rw [ByteArray.size_append];omega)
 refine ext_get (by omega) fun i hi => ?_
 rw [get_cut (s ++ t) 0 (0 + s.size) i (by rw [ByteArray.size_append];omega) (by omega),Nat.zero_add,get_app s t i (by omega)]
theorem st_of (s : ByteArray) (p c k : Nat) (hd : Utf8.decode s p = (c,k)) (hne : (c,k) ≠ (65533,1)) : stC s p = (c : Int) ∧ stW s p = k:=by
 have h1 : Utf8.decode s p ≠ (65533,1):=by rw [hd];exact hne
 have h2 : stC s p = ((Utf8.decode s p).1 : Int):=by unfold stC;rw [if_neg h1]
 have h3 : stW s p = (Utf8.decode s p).2:=rfl
 have e2 : (Utf8.decode s p).1 = c:=by rw [hd]
 have e3 : (Utf8.decode s p).2 = k:=by rw [hd]
 rw [e2] at h2
 rw [e3] at h3
 exact ⟨h2,h3⟩
theorem char_ahead (c : Int) (t : ByteArray) (h : charB c = true) : 0 < (Utf8.encode c).size ∧ stC (Utf8.encode c ++ t) 0 = c ∧ stW (Utf8.encode c ++ t) 0 = (Utf8.encode c).size:=by
 have hd:=charB_bd h
 obtain ⟨n,rfl⟩ : ∃ n : Nat,c = n:=⟨c.toNat,by omega⟩
 have hs:=encode_size n h
 have hl:=encL_le n
 have hdec:=dec_of_enc (Utf8.encode (n : Int) ++ t) 0 n h (by rw [ByteArray.size_append];omega) (cut_app _ _)
 have:=st_of _ _ _ _ hdec (char_not_err n h)
 exact ⟨by omega,this.1,this.2⟩
/-- What is behind something is read as it is by itself. -/
theorem sF_tail (s t : ByteArray) : ∀ (n q : Nat),t.size - q ≤ n → sF t q = (0,0) → sF (s ++ t) (s.size + q) = (0,0):=by
 intro n
 induction n with
 | zero =>
  intro q hq _
  exact sF_end _ _ (by rw [ByteArray.size_append];omega)
 | succ n ih =>
  intro q hq h
  by_cases hlt : q < t.size
  ·have hw:=dec_w t q hlt
   obtain ⟨e1,e2⟩:=stC_eq (dec_app2 s t q)
   rw [sF_step t q hlt] at h
   rw [sF_step _ _ (by rw [ByteArray.size_append];omega),e1,e2]
   by_cases hc : sourceB (stC t q) = true
   ·rw [if_pos hc] at h ⊢
    rw [Nat.add_assoc]
    exact ih _ (by omega) h
   ·rw [if_neg hc] at h
    cases h
  ·exact sF_end _ _ (by rw [ByteArray.size_append];omega)
theorem sF_none {x : Bs} (h : srcB x = none) : sF ⟨x.toArray⟩ 0 = (0,0):=by
 rcases sourceS_cases x with ⟨_,_⟩ | ⟨k,_,h2,_⟩
 ·rcases walkF_source ⟨x.toArray⟩ ((ByteArray.mk x.toArray).size - 0) 0 with h' | ⟨q,hq,h'⟩
  ·exact h'
  ·exfalso
   have h2 : sourceS ⟨x.toArray⟩ = ((q : Int),10):=h'
   unfold srcB at h
   rw [h2] at h
   cases h
 ·rw [h2] at h;cases h
theorem bytes_appL (a : ByteArray) (l : Bs) : (⟨(a.data.toList ++ l).toArray⟩ : ByteArray) = a ++ ⟨l.toArray⟩:=by
 apply ByteArray.ext
 rw [ByteArray.data_append]
 apply Array.toList_inj.1
 simp
/-- A source character ahead of source characters. -/
theorem src_char (n : Nat) (m : Bs) (hc : charB (n : Int) = true) (hs : sourceB (n : Int) = true) (h : srcB m = none) : srcB ((Utf8.encode (n : Int)).data.toList ++ m) = none:=by
 apply src_of
 rw [bytes_appL]
 obtain ⟨h0,h1,h2⟩:=char_ahead (n : Int) ⟨m.toArray⟩ hc
 rw [sF_step _ _ (by rw [ByteArray.size_append];omega),h1,h2,if_pos hs,Nat.zero_add]
 have ht:=sF_tail (Utf8.encode (n : Int)) ⟨m.toArray⟩ _ 0 (Nat.le_refl _) (sF_none h)
 rw [Nat.add_zero] at ht
 exact ht
theorem src_one (c : UInt8) (m : Bs) (hc : 32 ≤ c.toNat ∧ c.toNat < 128) (h : srcB m = none) : srcB (c :: m) = none:=by
 apply src_of
 rw [sF_plain c m hc]
 have e : (⟨(c :: m).toArray⟩ : ByteArray) = ⟨#[c]⟩ ++ ⟨m.toArray⟩:=by
  apply ByteArray.ext
  simp
 rw [e]
 have ht:=sF_tail ⟨#[c]⟩ ⟨m.toArray⟩ _ 0 (Nat.le_refl _) (sF_none h)
 rw [Nat.add_zero] at ht
 exact ht
end Go.Proofs.YtgmlbjfgfmfliaaGreatDoor
namespace Go.Proofs.YtgmlbjfgfmfliaaGreatDoor
open Go Go.RowKit
attribute [local irreducible] srcB unitS halfS
/-- These bytes are quoted so, and read back. -/
structure Qd (x q : Bs) : Prop where
 quo : ∀ r,quoL (x ++ r) = q ++ quoL r
 line : ∀ m,lineS (q ++ m) = (lineS m).map fun p => (x ++ p.1,p.2)
 src : ∀ m,srcB m = none → srcB (q ++ m) = none
 len : q.length ≤ 6 * x.length
theorem Qd.nil : Qd [] []:=⟨fun _ => rfl,fun m => by cases h : lineS m <;> simp [h],fun _ h => h,by simp⟩
theorem Qd.app {x y q p : Bs} (h : Qd x q) (h' : Qd y p) : Qd (x ++ y) (q ++ p):=by
 refine ⟨fun r => ?_,fun m => ?_,fun m hm => ?_,?_⟩
 ·rw [List.append_assoc,h.quo,h'.quo,List.append_assoc]
 ·rw [List.append_assoc,h.line,h'.line]
  cases lineS m with
  | none => rfl
  | some z => simp
 ·rw [List.append_assoc]
  exact h.src _ (h'.src _ hm)
 ·have:=h.len
  have:=h'.len
  simp only [List.length_append]
  omega
theorem half_none {c : UInt8} (r : Bs) (hc : c ≠ 237) : halfQ (c :: r) = none:=by
 match r with
 | [] => rfl
 | [_] => rfl
 | d :: e :: r => exact if_neg fun h => hc h.1
theorem quo_one {c : UInt8} (r : Bs) (h : halfQ (c :: r) = none) : quoL (c :: r) = (if c = 34 ∨ c = 92 then [92,c] else if c.toNat < 32 ∨ c = 127 then escQ c.toNat else [c]) ++ quoL r:=by
 rw [quoL_step]
 have e : pieceQ c r = (if c = 34 ∨ c = 92 then [92,c] else if c.toNat < 32 ∨ c = 127 then escQ c.toNat else [c],1):=by
  unfold pieceQ
  rw [h]
 rw [e]
 rfl
theorem line_raw {c : UInt8} (h1 : c ≠ 34) (h2 : c ≠ 92) (h3 : endL.contains c = false) (m : Bs) : lineS (c :: m) = (lineS m).map fun p => ([c] ++ p.1,p.2):=by
 refine lineS_chr ?_ ?_ h3
 ·simp [List.isPrefixOf]
  exact fun e => h1 e.symm
 ·simp [List.isPrefixOf]
  exact fun e => h2 e.symm
theorem hexD_ok (n : Nat) (hn : n < 16) : hexV (hexD n) = some n ∧ 32 ≤ (hexD n).toNat ∧ (hexD n).toNat < 128:=by
 have h:=hexV_low ⟨n,hn⟩
 exact ⟨h,hexV_bd h⟩
theorem esc_line (V : Nat) (hV : V < 65536) (m : Bs) : lineS (escQ V ++ m) = (lineS m).map fun p => (unitS V ++ p.1,p.2):=by
 obtain ⟨a1,_⟩:=hexD_ok (V / 4096) (by omega)
 obtain ⟨a2,_⟩:=hexD_ok (V / 256 % 16) (by omega)
 obtain ⟨a3,_⟩:=hexD_ok (V / 16 % 16) (by omega)
 obtain ⟨a4,_⟩:=hexD_ok (V % 16) (by omega)
 have hn : nmbS (hexD (V / 4096) :: hexD (V / 256 % 16) :: hexD (V / 16 % 16) :: hexD (V % 16) :: m) = some (unitS V,m):=by
  rw [nmbS_four]
  unfold hexQ
  rw [a1,a2,a3,a4]
  simp only [Option.bind_some,Option.map_some]
  rw [show V / 4096 * 4096 + V / 256 % 16 * 256 + V / 16 % 16 * 16 + V % 16 = V by omega]
 have he : escQ V ++ m = 92 :: 117 :: hexD (V / 4096) :: hexD (V / 256 % 16) :: hexD (V / 16 % 16) :: hexD (V % 16) :: m:=rfl
 rw [he,lineS_esc (l:=92 :: 117 :: hexD (V / 4096) :: hexD (V / 256 % 16) :: hexD (V / 16 % 16) :: hexD (V % 16) :: m) rfl rfl]
 have e2 : escS (117 :: hexD (V / 4096) :: hexD (V / 256 % 16) :: hexD (V / 16 % 16) :: hexD (V % 16) :: m) = some (unitS V,m):=by
  unfold escS
  rw [if_pos (by rfl)]
  exact hn
 show (escS (117 :: hexD (V / 4096) :: hexD (V / 256 % 16) :: hexD (V / 16 % 16) :: hexD (V % 16) :: m)).bind _ = _
 rw [e2,Option.bind_some]
theorem esc_src (V : Nat) (hV : V < 65536) (m : Bs) (hm : srcB m = none) : srcB (escQ V ++ m) = none:=by
 obtain ⟨_,a1⟩:=hexD_ok (V / 4096) (by omega)
 obtain ⟨_,a2⟩:=hexD_ok (V / 256 % 16) (by omega)
 obtain ⟨_,a3⟩:=hexD_ok (V / 16 % 16) (by omega)
 obtain ⟨_,a4⟩:=hexD_ok (V % 16) (by omega)
 exact src_one _ _ (by decide) (src_one _ _ (by decide) (src_one _ _ a1 (src_one _ _ a2 (src_one _ _ a3 (src_one _ _ a4 hm)))))
theorem unit_ascii (n : Nat) (hn : n < 128) : unitS n = [UInt8.ofNat n]:=by
 rw [unitS_else n (by omega),encode_list n (charB_small _ (by omega) (by omega) (by omega))]
 unfold encL
 rw [if_pos hn]
 rfl
theorem Qd.half (V : Nat) (h : 55296 ≤ V ∧ V ≤ 57343) : Qd (unitS V) (escQ V):=by
 have hu : unitS V = [(224 + V / 4096).toUInt8,(128 + V / 64 % 64).toUInt8,(128 + V % 64).toUInt8]:=by
  have e : unitS V = halfS V:=by
   unfold unitS
   rw [if_pos h]
  rw [e]
  unfold halfS
  rfl
 refine ⟨fun r => ?_,esc_line V (by omega),esc_src V (by omega),by rw [hu];simp [escQ]⟩
 rw [hu]
 have d1 : ((128 + V / 64 % 64).toUInt8).toNat = 128 + V / 64 % 64:=by simp [Nat.toUInt8];omega
 have d2 : ((128 + V % 64).toUInt8).toNat = 128 + V % 64:=by simp [Nat.toUInt8];omega
 have d0 : (224 + V / 4096).toUInt8 = 237:=by rw [show V / 4096 = 13 by omega];rfl
 have hh : halfQ ((224 + V / 4096).toUInt8 :: (128 + V / 64 % 64).toUInt8 :: (128 + V % 64).toUInt8 :: r) = some V:=by
  have hc : halfC (224 + V / 4096).toUInt8 (128 + V / 64 % 64).toUInt8 (128 + V % 64).toUInt8:=by
   refine ⟨d0,?_,?_,?_,?_⟩
   all_goals (first | rw [d1] | rw [d2]);omega
  rw [show halfQ ((224 + V / 4096).toUInt8 :: (128 + V / 64 % 64).toUInt8 :: (128 + V % 64).toUInt8 :: r) = some (halfV (128 + V / 64 % 64).toUInt8 (128 + V % 64).toUInt8) from if_pos hc]
  have hv : 53248 + (128 + V / 64 % 64 - 128) * 64 + (128 + V % 64 - 128) = V:=by omega
  unfold halfV
  rw [d1,d2,hv]
 show quoL ((224 + V / 4096).toUInt8 :: (128 + V / 64 % 64).toUInt8 :: (128 + V % 64).toUInt8 :: r) = _
 rw [quoL_step]
 have e : pieceQ (224 + V / 4096).toUInt8 ((128 + V / 64 % 64).toUInt8 :: (128 + V % 64).toUInt8 :: r) = (escQ V,3):=by
  unfold pieceQ
  rw [hh]
 rw [e]
 rfl
theorem Qd.ascii (n : Nat) (hn : n < 128) : ∃ q,Qd (unitS n) q:=by
 have hu:=unit_ascii n hn
 have hne : UInt8.ofNat n ≠ 237:=by
  intro e
  have:=congrArg UInt8.toNat e
  simp at this
  omega
 have ht : (UInt8.ofNat n).toNat = n:=by simp;omega
 have hq:=fun r => quo_one r (half_none r hne)
 by_cases h1 : n = 34 ∨ n = 92
 ·refine ⟨[92,UInt8.ofNat n],?_,?_,?_,by rw [hu];simp⟩
  ·intro r
   rw [hu]
   show quoL (UInt8.ofNat n :: r) = _
   rw [hq,if_pos (by rcases h1 with rfl | rfl <;> simp)]
  ·intro m
   rw [hu]
   rcases h1 with rfl | rfl
   ·show lineS (92 :: 34 :: m) = _
    rw [lineS_esc (l:=92 :: 34 :: m) rfl rfl]
    rfl
   ·show lineS (92 :: 92 :: m) = _
    rw [lineS_esc (l:=92 :: 92 :: m) rfl rfl]
    rfl
  ·intro m hm
   exact src_one _ _ (by decide) (src_one _ _ (by rw [ht];omega) hm)
 ·by_cases h2 : n < 32 ∨ n = 127
  ·refine ⟨escQ n,?_,esc_line n (by omega),esc_src n (by omega),by rw [hu];simp [escQ]⟩
   intro r
   rw [hu]
   show quoL (UInt8.ofNat n :: r) = _
   have a1 : ¬ (UInt8.ofNat n = 34 ∨ UInt8.ofNat n = 92):=by
    intro e
    rcases e with e | e
    all_goals
     have:=congrArg UInt8.toNat e
     simp at this
     omega
   have a2 : (UInt8.ofNat n).toNat < 32 ∨ UInt8.ofNat n = 127:=by
    rcases h2 with h | rfl
    ·exact Or.inl (by rw [ht];exact h)
    ·exact Or.inr rfl
   rw [hq,if_neg a1,if_pos a2,ht]
  ·have a1 : UInt8.ofNat n ≠ 34:=by
    intro e
    have:=congrArg UInt8.toNat e
    simp at this
    omega
   have a3 : UInt8.ofNat n ≠ 92:=by
    intro e
    have:=congrArg UInt8.toNat e
    simp at this
    omega
   have a4 : UInt8.ofNat n ≠ 127:=by
    intro e
    have:=congrArg UInt8.toNat e
    simp at this
    omega
   have a5 : endL.contains (UInt8.ofNat n) = false:=by
    rw [Bool.eq_false_iff]
    intro e
    have : UInt8.ofNat n = 10 ∨ UInt8.ofNat n = 13:=by simpa [endL] using e
    rcases this with e | e
    all_goals
     have:=congrArg UInt8.toNat e
     simp at this
     omega
   refine ⟨[UInt8.ofNat n],?_,?_,?_,by rw [hu];simp⟩
   ·intro r
    rw [hu]
    show quoL (UInt8.ofNat n :: r) = _
    rw [hq,if_neg (by simp [a1,a3]),if_neg (by rw [ht];simp [a4];omega)]
   ·intro m
    rw [hu]
    exact line_raw a1 a3 a5 m
   ·intro m hm
    exact src_one _ _ (by rw [ht];omega) hm
/-- A byte beyond 127 as it is. -/
theorem hi_ne {c : UInt8} (hc : 128 ≤ c.toNat) : c ≠ 34 ∧ c ≠ 92 ∧ c ≠ 127 ∧ endL.contains c = false:=by
 have hx : ∀ d : UInt8,d.toNat < 128 → c ≠ d:=fun d hd e => by rw [e] at hc;omega
 refine ⟨hx _ (by decide),hx _ (by decide),hx _ (by decide),?_⟩
 rw [Bool.eq_false_iff]
 intro e
 have : c = 10 ∨ c = 13:=by simpa [endL] using e
 rcases this with e | e
 ·exact hx 10 (by decide) e
 ·exact hx 13 (by decide) e
theorem quo_hi {c : UInt8} (r : Bs) (hc : 128 ≤ c.toNat) (h : halfQ (c :: r) = none) : quoL (c :: r) = c :: quoL r:=by
 obtain ⟨h1,h2,h3,_⟩:=hi_ne hc
 rw [quo_one r h,if_neg (by simp [h1,h2]),if_neg (by simp [h3];omega)]
 rfl
theorem line_hi {c : UInt8} (m : Bs) (hc : 128 ≤ c.toNat) : lineS (c :: m) = (lineS m).map fun p => ([c] ++ p.1,p.2):=by
 obtain ⟨h1,h2,_,h4⟩:=hi_ne hc
 exact line_raw h1 h2 h4 m
theorem Qd.multi (n : Nat) (h0 : 128 ≤ n) (h1 : n < 65536) (h2 : ¬ (55296 ≤ n ∧ n ≤ 57343)) : Qd (unitS n) (unitS n):=by
 have hcb : charB (n : Int) = true:=charB_small _ (by omega) (by omega) (by omega)
 have hu : unitS n = (Utf8.encode (n : Int)).data.toList:=unitS_else n h2
 have hsrc : ∀ m,srcB m = none → srcB (unitS n ++ m) = none:=fun m hm => by
  rw [hu]
  exact src_char n m hcb (by unfold sourceB;simp;omega) hm
 have hl : unitS n = (encL n).map UInt8.ofNat:=by rw [hu,encode_list n hcb]
 unfold encL at hl
 rw [if_neg (by omega)] at hl
 by_cases h3 : n < 2048
 ·rw [if_pos h3] at hl
  have b0 : (UInt8.ofNat (192 + n / 64)).toNat = 192 + n / 64:=by simp;omega
  have b1 : (UInt8.ofNat (128 + n % 64)).toNat = 128 + n % 64:=by simp;omega
  have hl' : unitS n = [UInt8.ofNat (192 + n / 64),UInt8.ofNat (128 + n % 64)]:=hl
  generalize UInt8.ofNat (192 + n / 64) = x0 at *
  generalize UInt8.ofNat (128 + n % 64) = x1 at *
  have n0 : x0 ≠ 237:=by
   rintro rfl
   have : (237 : UInt8).toNat = 237:=rfl
   omega
  have n1 : x1 ≠ 237:=by
   rintro rfl
   have : (237 : UInt8).toNat = 237:=rfl
   omega
  refine ⟨fun r => ?_,fun m => ?_,hsrc,by omega⟩
  ·rw [hl']
   show quoL (x0 :: x1 :: r) = x0 :: x1 :: quoL r
   rw [quo_hi _ (by omega) (half_none _ n0),quo_hi _ (by omega) (half_none _ n1)]
  ·rw [hl']
   show lineS (x0 :: x1 :: m) = _
   rw [line_hi _ (by omega),line_hi _ (by omega)]
   cases lineS m <;> rfl
 ·rw [if_neg h3,if_pos h1] at hl
  have b0 : (UInt8.ofNat (224 + n / 4096)).toNat = 224 + n / 4096:=by simp;omega
  have b1 : (UInt8.ofNat (128 + n / 64 % 64)).toNat = 128 + n / 64 % 64:=by simp;omega
  have b2 : (UInt8.ofNat (128 + n % 64)).toNat = 128 + n % 64:=by simp;omega
  have hl' : unitS n = [UInt8.ofNat (224 + n / 4096),UInt8.ofNat (128 + n / 64 % 64),UInt8.ofNat (128 + n % 64)]:=hl
  generalize UInt8.ofNat (224 + n / 4096) = x0 at *
  generalize UInt8.ofNat (128 + n / 64 % 64) = x1 at *
  generalize UInt8.ofNat (128 + n % 64) = x2 at *
  have n1 : x1 ≠ 237:=by
   rintro rfl
   have : (237 : UInt8).toNat = 237:=rfl
   omega
  have n2 : x2 ≠ 237:=by
   rintro rfl
   have : (237 : UInt8).toNat = 237:=rfl
   omega
  have n0 : ∀ r,halfQ (x0 :: x1 :: x2 :: r) = none:=fun r => if_neg fun hh => by
   obtain ⟨rfl,g1,g2,_⟩:=hh
   have : (237 : UInt8).toNat = 237:=rfl
   omega
  refine ⟨fun r => ?_,fun m => ?_,hsrc,by omega⟩
  ·rw [hl']
   show quoL (x0 :: x1 :: x2 :: r) = x0 :: x1 :: x2 :: quoL r
   rw [quo_hi _ (by omega) (n0 r),quo_hi _ (by omega) (half_none _ n1),quo_hi _ (by omega) (half_none _ n2)]
  ·rw [hl']
   show lineS (x0 :: x1 :: x2 :: m) = _
   rw [line_hi _ (by omega),line_hi _ (by omega),line_hi _ (by omega)]
   cases lineS m <;> rfl
theorem Qd.unit (n : Nat) (h : n < 65536) : ∃ q,Qd (unitS n) q:=by
 by_cases h1 : n < 128
 ·exact Qd.ascii n h1
 ·by_cases h2 : 55296 ≤ n ∧ n ≤ 57343
  ·exact ⟨_,Qd.half n h2⟩
  ·exact ⟨_,Qd.multi n (by omega) h h2⟩
/-- A quoted text is one token that says it. -/
theorem lexS_quo {x q : Bs} (h : Qd x q) (hl : x.length ≤ 2703) : lexS (quoS x) = .inr [⟨4,x,0,(quoS x).length⟩]:=by
 have hq : quoL x = q:=by
  have:=h.quo []
  rw [List.append_nil] at this
  rw [this]
  show q ++ quoL [] = q
  rw [show quoL [] = [] from rfl,List.append_nil]
 have e : quoS x = 34 :: (q ++ [34]):=by
  rw [← hq]
  rfl
 have hlen:=h.len
 have hline : lineS (q ++ [34]) = some (x,[]):=by
  rw [h.line,lineS_stop (l:=[34]) rfl]
  simp
 have hsrc : srcB (34 :: (q ++ [34])) = none:=src_one _ _ (by decide) (h.src _ (src_plain _ (by decide)))
 have hnb : List.isPrefixOf [34,34,34] (34 :: (q ++ [34])) = false:=by
  rw [Bool.eq_false_iff]
  intro hb
  obtain ⟨m,hm⟩:=List.isPrefixOf_iff_prefix.1 hb
  have hm2 : 34 :: 34 :: m = q ++ [34]:=by simpa using hm
  have hx : lineS (34 :: 34 :: m) = some ([],34 :: m):=lineS_stop (l:=34 :: 34 :: m) rfl
  rw [hm2,hline] at hx
  cases hx
 have htext : textS (34 :: (q ++ [34])) = some (x,[]):=by
  unfold textS textR
  rw [hnb,if_neg (by decide)]
  have hf : lineF ((34 :: (q ++ [34])).length + 1) ((34 :: (q ++ [34])).drop 1) = some (x,[]):=by
   have h2 : lineF ((q ++ [34]).length + 1) (q ++ [34]) = some (x,[]):=hline
   rw [← h2]
   exact lineF_fuel _ _ _ (by simp) (by simp)
  rw [hf,Option.bind_some]
  rw [ahead_nil,hsrc]
  rfl
 have htok : tokS (34 :: (q ++ [34])) = .ok 4 x []:=by
  have e1 : tokS (34 :: (q ++ [34])) = (match textS (34 :: (q ++ [34])) with
   | none => .bad 52
   | some p => .ok 4 p.1 p.2):=rfl
  rw [e1,htext]
 rw [e]
 exact lexS_one htok (by simp only [List.length_cons,List.length_append,List.length_nil];omega)
end Go.Proofs.YtgmlbjfgfmfliaaGreatDoor
namespace Go.Proofs.YtgmlbjfgfmfliaaGreatDoor
open Go Go.RowKit
attribute [local irreducible] srcB unitS halfS
theorem end_no {c : UInt8} (h : 32 ≤ c.toNat) : endL.contains c = false:=by
 rw [Bool.eq_false_iff]
 intro e
 have : c = 10 ∨ c = 13:=by simpa [endL] using e
 rcases this with rfl | rfl <;> revert h <;> decide
theorem halfQ_some {c d e : UInt8} {r : Bs} {V : Nat} (h : halfQ (c :: d :: e :: r) = some V) : halfC c d e ∧ halfV d e = V:=by
 by_cases hc : halfC c d e
 ·have e0 : halfQ (c :: d :: e :: r) = some (halfV d e):=if_pos hc
  rw [e0] at h
  exact ⟨hc,Option.some.inj h⟩
 ·have e0 : halfQ (c :: d :: e :: r) = none:=if_neg hc
  rw [e0] at h
  cases h
/-- What is quoted is read to its end, and says the text. -/
theorem line_quo : ∀ (n : Nat) (s m : Bs),s.length ≤ n → lineS (quoL s ++ m) = (lineS m).map fun p => (s ++ p.1,p.2)
 | _,[],m,_ => by
  show lineS m = _
  cases lineS m <;> simp
 | 0,c :: r,m,h => by simp at h
 | n + 1,c :: r,m,h => by
  rw [quoL_step]
  have one : ∀ (q : Bs),pieceQ c r = (q,1) → (∀ X,lineS (q ++ X) = (lineS X).map fun p => ([c] ++ p.1,p.2)) → lineS ((pieceQ c r).1 ++ quoL ((c :: r).drop (pieceQ c r).2) ++ m) = (lineS m).map fun p => (c :: r ++ p.1,p.2):=by
   intro q hq hl
   rw [hq,List.append_assoc,hl]
   show Option.map _ (lineS (quoL r ++ m)) = _
   rw [line_quo n r m (by simpa using h),Option.map_map]
   rfl
  cases hh : halfQ (c :: r) with
  | some V =>
   match r,hh,h with
   | d :: e :: r',hh,h =>
    obtain ⟨hc,hV⟩:=halfQ_some hh
    obtain ⟨h1,h2,h3⟩:=halfN_yes hc
    have hs:=halfS_yes hc
    rw [hV] at h1 h2 h3 hs
    have hu : unitS V = [c,d,e]:=by
     rw [← hs]
     unfold unitS
     rw [if_pos (by omega)]
    have hp : pieceQ c (d :: e :: r') = (escQ V,3):=by
     unfold pieceQ
     rw [hh]
    rw [hp,List.append_assoc,esc_line V (by omega),hu]
    show Option.map _ (lineS (quoL r' ++ m)) = _
    rw [line_quo n r' m (by simp at h;omega),Option.map_map]
    rfl
   | [],hh,_ => cases hh
   | [_],hh,_ => cases hh
  | none =>
   have hp : pieceQ c r = (if c = 34 ∨ c = 92 then [92,c] else if c.toNat < 32 ∨ c = 127 then escQ c.toNat else [c],1):=by
    unfold pieceQ
    rw [hh]
   by_cases h1 : c = 34 ∨ c = 92
   ·rw [if_pos h1] at hp
    refine one _ hp fun X => ?_
    rcases h1 with rfl | rfl
    ·show lineS (92 :: 34 :: X) = _
     rw [lineS_esc (l:=92 :: 34 :: X) rfl rfl]
     rfl
    ·show lineS (92 :: 92 :: X) = _
     rw [lineS_esc (l:=92 :: 92 :: X) rfl rfl]
     rfl
   ·rw [if_neg h1] at hp
    by_cases h2 : c.toNat < 32 ∨ c = 127
    ·rw [if_pos h2] at hp
     have hlt : c.toNat < 128:=by
      rcases h2 with h2 | rfl
      ·omega
      ·decide
     refine one _ hp fun X => ?_
     rw [esc_line c.toNat (by omega),unit_ascii _ hlt,UInt8.ofNat_toNat]
    ·rw [if_neg h2] at hp
     refine one _ hp fun X => ?_
     exact line_raw (fun e => h1 (Or.inl e)) (fun e => h1 (Or.inr e)) (end_no (by omega)) X
theorem quoS_eq (s : Bs) : quoS s = 34 :: (quoL s ++ [34]):=rfl
theorem text_quo (s : Bs) : textS (quoS s) = if (srcB (quoS s)).isSome then none else some (s,[]):=by
 have hline : lineS (quoL s ++ [34]) = some (s,[]):=by
  rw [line_quo s.length s [34] (Nat.le_refl _),lineS_stop (l:=[34]) rfl]
  simp
 have hnb : List.isPrefixOf [34,34,34] (34 :: (quoL s ++ [34])) = false:=by
  rw [Bool.eq_false_iff]
  intro hb
  obtain ⟨m,hm⟩:=List.isPrefixOf_iff_prefix.1 hb
  have hm2 : 34 :: 34 :: m = quoL s ++ [34]:=by simpa using hm
  have hx : lineS (34 :: 34 :: m) = some ([],34 :: m):=lineS_stop (l:=34 :: 34 :: m) rfl
  rw [hm2,hline] at hx
  cases hx
 rw [quoS_eq]
 unfold textS textR
 rw [hnb,if_neg (by decide)]
 have hf : lineF ((34 :: (quoL s ++ [34])).length + 1) ((34 :: (quoL s ++ [34])).drop 1) = some (s,[]):=by
  have h2 : lineF ((quoL s ++ [34]).length + 1) (quoL s ++ [34]) = some (s,[]):=hline
  rw [← h2]
  exact lineF_fuel _ _ _ (by simp) (by simp)
 rw [hf,Option.bind_some]
 rw [ahead_nil]
theorem tok_quo (s : Bs) : tokS (quoS s) = if (srcB (quoS s)).isSome then .bad 52 else .ok 4 s []:=by
 have e1 : tokS (quoS s) = (match textS (quoS s) with
  | none => .bad 52
  | some p => .ok 4 p.1 p.2):=rfl
 rw [e1,text_quo]
 by_cases h : (srcB (quoS s)).isSome = true
 ·rw [if_pos h,if_pos h]
 ·rw [if_neg h,if_neg h]
theorem skip_quo (s : Bs) : skipS (34 :: (quoL s ++ [34])) = .inl (34 :: (quoL s ++ [34])):=by
 rw [skipS_com (l:=34 :: (quoL s ++ [34])) rfl rfl]
 rfl
theorem okU_quo {s : Bs} (h : textK s = true) : OkU (quoS s) ∧ kt (quoS s) = (4,s):=by
 refine okU_of ?_
 have ht:=tok_quo s
 split at ht
 ·exfalso
  unfold textK at h
  split at h
  ·rename_i t e
   unfold lexS at e
   split at e
   ·cases e
   ·have e2 : lexG (quoS s).length 0 (quoS s) = .inr [t]:=e
    rw [quoS_eq] at e2 ht
    rw [lexG_bad (skip_quo s) (by decide) ht] at e2
    cases e2
  ·cases h
 ·exact ht
end Go.Proofs.YtgmlbjfgfmfliaaGreatDoor
