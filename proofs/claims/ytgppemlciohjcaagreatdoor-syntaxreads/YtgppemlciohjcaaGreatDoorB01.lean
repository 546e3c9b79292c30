/- Plain facts on the model's own decoding of a character at a place of bytes. -/
import GoSem.Core.Utf8
import Derived.Lib.DecodeN
import Derived.Laws.Strings
import Derived.Test.YtgppemlciohjcaaGreatDoorRows
import Derived.WalkKit
import Derived.WalkSpells
import Derived.WalkLawsBesides
import Derived.Deep.QuietTactic
import Derived.Deep.Light
import Derived.BigQuiet
import Derived.Lib.OthersKept
import Derived.KernelRfl
import Derived.Test.YtgppemlciohjcaaGreatDoorShelf
import Derived.Below
import Derived.Laws.OwnMore
import Derived.Defers
import Derived.Recover
import Derived.WalkSmall
namespace Go.Proofs.YtgppemlciohjcaaGreatDoor
section
open Go.Lib
def stC (s : ByteArray) (p : Nat) : Int:=if Utf8.decode s p = (65533,1) then -1 else ((Utf8.decode s p).1 : Int)
def stW (s : ByteArray) (p : Nat) : Nat:=(Utf8.decode s p).2
def runeLen (r : Int) : Int:=if r < 0 then -1 else if r ≤ 127 then 1 else if r ≤ 2047 then 2 else if 55296 ≤ r ∧ r ≤ 57343 then -1 else if r ≤ 65535 then 3 else if r ≤ 1114111 then 4 else -1
def validB (r : Int) : Bool:=decide ((0 ≤ r ∧ r < 55296) ∨ (57343 < r ∧ r ≤ 1114111))
def charB (c : Int) : Bool:=decide (0 ≤ c) && decide (c ≤ 1114111) && validB c
theorem byte_lt (b : UInt8) : b.toNat < 256:=b.toNat_lt
set_option maxRecDepth 100000 in
set_option maxHeartbeats 2000000 in
theorem decN_w (n b0 b1 b2 b3 : Nat) (hn : 1 ≤ n) : 1 ≤ (decodeN n b0 b1 b2 b3).2 ∧ (decodeN n b0 b1 b2 b3).2 ≤ 4 ∧ (decodeN n b0 b1 b2 b3).2 ≤ n:=by
 unfold decodeN
 repeat' split
 all_goals (dsimp only;omega)
theorem len_of (c k : Nat) (h : (c < 128 ∧ k = 1) ∨ (128 ≤ c ∧ c < 2048 ∧ k = 2) ∨ (2048 ≤ c ∧ c < 65536 ∧ (c < 55296 ∨ 57344 ≤ c) ∧ k = 3) ∨ (65536 ≤ c ∧ c ≤ 1114111 ∧ k = 4)) :
  runeLen (c : Int) = (k : Int) ∧ charB (c : Int) = true:=by
 unfold runeLen charB validB
 simp only [Bool.and_eq_true,decide_eq_true_eq]
 refine ⟨?_,by omega⟩
 repeat' split
 all_goals omega
set_option maxRecDepth 100000 in
set_option maxHeartbeats 2000000 in
theorem decN_shape (n b0 b1 b2 b3 : Nat) (h0 : b0 < 256) :
  decodeN n b0 b1 b2 b3 = (65533,1) ∨ (((decodeN n b0 b1 b2 b3).1 < 128 ∧ (decodeN n b0 b1 b2 b3).2 = 1) ∨ (128 ≤ (decodeN n b0 b1 b2 b3).1 ∧ (decodeN n b0 b1 b2 b3).1 < 2048 ∧ (decodeN n b0 b1 b2 b3).2 = 2) ∨ (2048 ≤ (decodeN n b0 b1 b2 b3).1 ∧ (decodeN n b0 b1 b2 b3).1 < 65536 ∧ ((decodeN n b0 b1 b2 b3).1 < 55296 ∨ 57344 ≤ (decodeN n b0 b1 b2 b3).1) ∧ (decodeN n b0 b1 b2 b3).2 = 3) ∨ (65536 ≤ (decodeN n b0 b1 b2 b3).1 ∧ (decodeN n b0 b1 b2 b3).1 ≤ 1114111 ∧ (decodeN n b0 b1 b2 b3).2 = 4)):=by
 unfold decodeN
 repeat' split
 all_goals first | exact Or.inl rfl | (right;dsimp only;omega)
theorem decN_len (n b0 b1 b2 b3 : Nat) (h0 : b0 < 256) :
  decodeN n b0 b1 b2 b3 = (65533,1) ∨ (runeLen (decodeN n b0 b1 b2 b3).1 = (decodeN n b0 b1 b2 b3).2 ∧ charB (decodeN n b0 b1 b2 b3).1 = true) :=
 (decN_shape n b0 b1 b2 b3 h0).imp id (len_of _ _)
set_option maxRecDepth 100000 in
set_option maxHeartbeats 2000000 in
theorem decN_fffd (n b0 b1 b2 b3 : Nat) (h0 : b0 < 256) (h1 : b1 < 256) (h2 : b2 < 256) :
  ((decodeN n b0 b1 b2 b3).1 = 65533 → (decodeN n b0 b1 b2 b3).2 = 3 → 3 ≤ n ∧ b0 = 239 ∧ b1 = 191 ∧ b2 = 189) ∧ ((3 ≤ n ∧ b0 = 239 ∧ b1 = 191 ∧ b2 = 189) → decodeN n b0 b1 b2 b3 = (65533,3)) ∧ ((decodeN n b0 b1 b2 b3).1 = 65533 → (decodeN n b0 b1 b2 b3).2 = 1 ∨ (decodeN n b0 b1 b2 b3).2 = 3):=by
 refine ⟨?_,?_,?_⟩
 ·unfold decodeN
  repeat' split
  all_goals (dsimp only;intros;omega)
 ·rintro ⟨hn,rfl,rfl,rfl⟩
  unfold decodeN
  simp
  omega
 ·unfold decodeN
  repeat' split
  all_goals (dsimp only;intros;omega)
set_option maxRecDepth 100000 in
set_option maxHeartbeats 4000000 in
theorem decN_ext (n m b0 b1 b2 b3 c1 c2 c3 : Nat) (hnm : n ≤ m) (e1 : 1 < n → b1 = c1) (e2 : 2 < n → b2 = c2) (e3 : 3 < n → b3 = c3) (h : decodeN n b0 b1 b2 b3 ≠ (65533,1)) :
  decodeN m b0 c1 c2 c3 = decodeN n b0 b1 b2 b3:=by
 revert h
 unfold decodeN
 by_cases g1 : 1 < n
 ·obtain rfl:=e1 g1
  by_cases g2 : 2 < n
  ·obtain rfl:=e2 g2
   by_cases g3 : 3 < n
   ·obtain rfl:=e3 g3
    repeat' split
    all_goals first | (intro _;rfl) | (intro h;exact absurd rfl h) | (exfalso;omega)
   ·repeat' split
    all_goals first | (intro _;rfl) | (intro h;exact absurd rfl h) | (exfalso;omega)
  ·repeat' split
   all_goals first | (intro _;rfl) | (intro h;exact absurd rfl h) | (exfalso;omega)
 ·repeat' split
  all_goals first | (intro _;rfl) | (intro h;exact absurd rfl h) | (exfalso;omega)
set_option maxRecDepth 100000 in
set_option maxHeartbeats 4000000 in
theorem decN_cut (n m b0 b1 b2 b3 c1 c2 c3 : Nat) (hm : (decodeN n b0 b1 b2 b3).2 ≤ m) (e1 : 1 < m → b1 = c1) (e2 : 2 < m → b2 = c2) (e3 : 3 < m → b3 = c3) (h : decodeN n b0 b1 b2 b3 ≠ (65533,1)) :
  decodeN m b0 c1 c2 c3 = decodeN n b0 b1 b2 b3:=by
 revert h hm
 by_cases g1 : 1 < m
 ·obtain rfl:=e1 g1
  by_cases g2 : 2 < m
  ·obtain rfl:=e2 g2
   by_cases g3 : 3 < m
   ·obtain rfl:=e3 g3
    unfold decodeN
    repeat' split
    all_goals first | (intro _ _;rfl) | (intro _ h;exact absurd rfl h) | (intro hm;dsimp only at hm;exfalso;omega)
   ·unfold decodeN
    repeat' split
    all_goals first | (intro _ _;rfl) | (intro _ h;exact absurd rfl h) | (intro hm;dsimp only at hm;exfalso;omega)
  ·unfold decodeN
   repeat' split
   all_goals first | (intro _ _;rfl) | (intro _ h;exact absurd rfl h) | (intro hm;dsimp only at hm;exfalso;omega)
 ·unfold decodeN
  repeat' split
  all_goals first | (intro _ _;rfl) | (intro _ h;exact absurd rfl h) | (intro hm;dsimp only at hm;exfalso;omega)
end
section
open Go.Lib
theorem get_bang (s : ByteArray) (q : Nat) (h : q < s.size) : s.get! q = s[q]:=by
 simp [ByteArray.get!,getElem!_pos,h]
 rfl
theorem get_out (s : ByteArray) (q : Nat) (h : ¬ q < s.size) : s.get! q = 0:=by
 have h' : s.data.size ≤ q:=by
   have : s.data.size = s.size:=rfl
   omega
 have h2 : ¬ q < s.data.size:=by omega
 show s.data[q]! = 0
 rw [getElem!_neg s.data q h2]
 rfl
theorem ext_get {a b : ByteArray} (hz : a.size = b.size) (h : ∀ i,i < a.size → a.get! i = b.get! i) : a = b:=by
 apply ByteArray.ext_getElem hz
 intro i h1 h2
 have:=h i h1
 rwa [get_bang _ _ h1,get_bang _ _ h2] at this
theorem toList_inj {a b : ByteArray} : a.toList = b.toList ↔ a = b:=by
 constructor
 ·intro h
  rw [ByteArray.toList_eq,ByteArray.toList_eq] at h
  exact ByteArray.ext (Array.toList_inj.1 h)
 ·rintro rfl;rfl
theorem size_cut (s : ByteArray) (a b : Nat) (hb : b ≤ s.size) : (s.extract a b).size = b - a:=by
 rw [ByteArray.size_extract,Nat.min_eq_left hb]
theorem get_cut (s : ByteArray) (a b i : Nat) (hb : b ≤ s.size) (hi : a + i < b) : (s.extract a b).get! i = s.get! (a + i):=by
 have hz:=size_cut s a b hb
 rw [get_bang _ _ (by omega),get_bang _ _ (by omega)]
 exact ByteArray.getElem_extract _
theorem get_app (s t : ByteArray) (i : Nat) (hi : i < s.size) : (s ++ t).get! i = s.get! i:=by
 rw [get_bang _ _ (by rw [ByteArray.size_append];omega),get_bang _ _ hi]
 exact ByteArray.getElem_append_left hi
theorem get_app2 (s t : ByteArray) (i : Nat) : (s ++ t).get! (s.size + i) = t.get! i:=by
 by_cases hi : i < t.size
 ·rw [get_bang _ _ (by rw [ByteArray.size_append];omega),get_bang _ _ hi]
  rw [ByteArray.getElem_append_right (by omega)]
  congr 1
  omega
 ·rw [get_out _ _ (by rw [ByteArray.size_append];omega),get_out _ _ hi]
theorem dec_w (s : ByteArray) (p : Nat) (h : p < s.size) : 1 ≤ stW s p ∧ stW s p ≤ 4 ∧ p + stW s p ≤ s.size:=by
 unfold stW
 rw [decode_at]
 have:=decN_w (s.size - p) (s.get! p).toNat (s.get! (p + 1)).toNat (s.get! (p + 2)).toNat (s.get! (p + 3)).toNat (by omega)
 omega
theorem dec_len (s : ByteArray) (p : Nat) : Utf8.decode s p = (65533,1) ∨ (runeLen (Utf8.decode s p).1 = (Utf8.decode s p).2 ∧ charB (Utf8.decode s p).1 = true):=by
 rw [decode_at]
 exact decN_len _ _ _ _ _ (byte_lt _)
theorem dec_bd (s : ByteArray) (p : Nat) : (Utf8.decode s p).1 ≤ 1114111:=by
 rcases dec_len s p with h | ⟨_,h⟩
 ·rw [h];decide
 ·unfold charB at h
  simp at h
  omega
theorem dec_drop (s : ByteArray) (p i : Nat) (hp : p ≤ s.size) : Utf8.decode (s.extract p s.size) i = Utf8.decode s (p + i):=by
 have hz:=size_cut s p s.size (Nat.le_refl _)
 have hg : ∀ j,(s.extract p s.size).get! j = s.get! (p + j):=by
  intro j
  by_cases hj : p + j < s.size
  ·exact get_cut s p s.size j (Nat.le_refl _) hj
  ·rw [get_out _ _ (by omega),get_out _ _ hj]
 rw [decode_at,decode_at,hg,hg,hg,hg,hz,Nat.add_assoc,Nat.add_assoc,Nat.add_assoc,Nat.sub_add_eq]
theorem dec_take (s : ByteArray) (n p : Nat) (hn : n ≤ s.size) (hp : p < n) (hw : p + (Utf8.decode s p).2 ≤ n) (h : Utf8.decode s p ≠ (65533,1)) : Utf8.decode (s.extract 0 n) p = Utf8.decode s p:=by
 have hz:=size_cut s 0 n hn
 have hg : ∀ j,j < n → (s.extract 0 n).get! j = s.get! j:=by
  intro j hj
  have:=get_cut s 0 n j hn (by omega)
  simpa using this
 rw [decode_at] at h hw
 rw [decode_at,decode_at s,hg p hp]
 refine decN_cut _ _ _ _ _ _ _ _ _ (by omega) ?_ ?_ ?_ h
 all_goals (intro hj;rw [hg _ (by omega)])
theorem dec_app (s t : ByteArray) (p : Nat) (hp : p < s.size) (h : Utf8.decode s p ≠ (65533,1)) : Utf8.decode (s ++ t) p = Utf8.decode s p:=by
 rw [decode_at] at h
 rw [decode_at,decode_at s,get_app s t p hp]
 refine decN_ext _ _ _ _ _ _ _ _ _ (by rw [ByteArray.size_append];omega) ?_ ?_ ?_ h
 all_goals (intro hj;rw [get_app _ _ _ (by omega)])
theorem dec_app2 (s t : ByteArray) (p : Nat) : Utf8.decode (s ++ t) (s.size + p) = Utf8.decode t p:=by
 rw [decode_at,decode_at t,Nat.add_assoc,Nat.add_assoc,Nat.add_assoc,get_app2,get_app2,get_app2,get_app2,ByteArray.size_append]
 congr 1
 omega
def hpB (s t : ByteArray) : Bool:=decide (t.size ≤ s.size) && ((s.extract 0 t.size).toList == t.toList)
theorem hp_fffd (s : ByteArray) (p : Nat) (hp : p < s.size) (h : (Utf8.decode s p).1 = 65533) : hpB (s.extract p s.size) ⟨#[239,191,189]⟩ = decide ((Utf8.decode s p).2 = 3):=by
 have hz:=size_cut s p s.size (Nat.le_refl _)
 have h3 : (⟨#[239,191,189]⟩ : ByteArray).size = 3:=rfl
 have key : hpB (s.extract p s.size) ⟨#[239,191,189]⟩ = true ↔ (3 ≤ s.size - p ∧ (s.get! p).toNat = 239 ∧ (s.get! (p + 1)).toNat = 191 ∧ (s.get! (p + 2)).toNat = 189):=by
  unfold hpB
  rw [h3,hz]
  by_cases hl : 3 ≤ s.size - p
  ·simp only [hl,decide_true,Bool.true_and,true_and]
   rw [beq_iff_eq,toList_inj]
   have hz3 : ((s.extract p s.size).extract 0 3).size = 3:=by rw [size_cut _ _ _ (by omega)]
   have hg : ∀ j,j < 3 → ((s.extract p s.size).extract 0 3).get! j = s.get! (p + j):=by
    intro j hj
    rw [get_cut _ _ _ _ (by omega) (by omega),Nat.zero_add,get_cut _ _ _ _ (Nat.le_refl _) (by omega)]
   constructor
   ·intro e
    have g0:=hg 0 (by omega)
    have g1:=hg 1 (by omega)
    have g2:=hg 2 (by omega)
    rw [e] at g0 g1 g2
    rw [Nat.add_zero] at g0
    exact ⟨by rw [← g0];rfl,by rw [← g1];rfl,by rw [← g2];rfl⟩
   ·rintro ⟨e0,e1,e2⟩
    refine ext_get (by rw [hz3];rfl) fun i hi => ?_
    rw [hz3] at hi
    rw [hg i hi]
    apply UInt8.toNat_inj.1
    match i,hi with
    | 0,_ => rw [Nat.add_zero,e0];rfl
    | 1,_ => rw [e1];rfl
    | 2,_ => rw [e2];rfl
  ·simp [hl]
 rw [decode_at] at h ⊢
 have hf:=decN_fffd (s.size - p) (s.get! p).toNat (s.get! (p + 1)).toNat (s.get! (p + 2)).toNat (s.get! (p + 3)).toNat (byte_lt _) (byte_lt _) (byte_lt _)
 rw [Bool.eq_iff_iff,key,decide_eq_true_eq]
 exact ⟨fun g => by rw [hf.2.1 g],fun g => hf.1 h g⟩
theorem dec_fffd (s : ByteArray) (p : Nat) (h : (Utf8.decode s p).1 = 65533) : (Utf8.decode s p).2 = 1 ∨ (Utf8.decode s p).2 = 3:=by
 rw [decode_at] at h ⊢
 exact (decN_fffd _ _ _ _ _ (byte_lt _) (byte_lt _) (byte_lt _)).2.2 h
theorem charB_bd {c : Int} (h : charB c = true) : 0 ≤ c ∧ c ≤ 1114111:=by
 unfold charB at h;simp at h;exact h.1
end
section
open Go.RowKit
theorem ret_int {k : IntKind} {a b : Int} (h : a = b) : Ending.returned (.int k a) = .returned (.int k b):=by rw [h]
theorem ret_bool {a b : Bool} (h : a = b) : Ending.returned (.bool a) = .returned (.bool b):=by rw [h]
set_option maxHeartbeats 400000 in
theorem runeLen_any (r : Int) (w : World) : Calls Tryz.prog 140 #[.int .i32 r] w fun e w' => e = .returned (.int .i64 (runeLen r)) ∧ w' = w:=by
 go_enter Tryz.func140,Tryz.ntmps140
 go_wp2
 all_goals (go_ret;refine ⟨ret_int ?_,rfl⟩;unfold runeLen;repeat (first | rfl | omega | split))
set_option maxHeartbeats 400000 in
theorem validRune_any (r : Int) (w : World) : Calls Tryz.prog 185 #[.int .i32 r] w fun e w' => e = .returned (.bool (validB r)) ∧ w' = w:=by
 go_enter Tryz.func185,Tryz.ntmps185
 go_wp2
 all_goals (go_ret;refine ⟨ret_bool ?_,rfl⟩;unfold validB;first | (symm;rw [decide_eq_true_eq];omega) | (symm;rw [decide_eq_false_iff_not];omega))
def sourceB (c : Int) : Bool:=c == 9 || c == 10 || c == 13 || (decide (32 ≤ c) && decide (c ≤ 65535))
set_option maxHeartbeats 400000 in
theorem isSource_any (c : Int) (w : World) : Calls Tryz.prog 128 #[.int .i64 c] w fun e w' => e = .returned (.bool (sourceB c)) ∧ w' = w:=by
 go_enter Tryz.func128,Tryz.ntmps128
 go_wp2
 all_goals (go_ret;refine ⟨ret_bool ?_,rfl⟩;go_light;unfold sourceB;simp_all <;> omega)
set_option maxHeartbeats 400000 in
theorem isCharacter_any (c : Int) (w : World) : Calls Tryz.prog 172 #[.int .i64 c] w fun e w' => e = .returned (.bool (charB c)) ∧ w' = w:=by
 go_enter Tryz.func172,Tryz.ntmps172
 go_wp2_with (go_at_call 185;refine (validRune_any _ _).mono ?_;rintro e w' ⟨rfl,rfl⟩)
 all_goals (go_ret;refine ⟨ret_bool ?_,rfl⟩;go_light;unfold charB;simp_all <;> omega)
set_option maxHeartbeats 400000 in
theorem hasPrefix_any (s t : ByteArray) (w : World) : Calls Tryz.prog 125 #[.string s,.string t] w fun e w' => e = .returned (.bool (hpB s t)) ∧ w' = w:=by
 go_enter Tryz.func125,Tryz.ntmps125
 go_wp2
 all_goals (go_ret;refine ⟨ret_bool ?_,rfl⟩;go_light;unfold hpB;simp_all <;> omega)
set_option maxHeartbeats 400000 in
theorem sHasPrefix_any (s t : ByteArray) (w : World) : Calls Tryz.prog 105 #[.string s,.string t] w fun e w' => e = .returned (.bool (hpB s t)) ∧ w' = w:=by
 go_enter Tryz.func105,Tryz.ntmps105
 go_wp2_with (go_at_call 125;refine (hasPrefix_any _ _ _).mono ?_;rintro e w' ⟨rfl,rfl⟩)
 go_ret
 exact ⟨rfl,rfl⟩
-- Put: a character's bytes,or error 10.
set_option maxHeartbeats 400000 in
theorem put_yes (c : Int) (w : World) (h : charB c = true) : Calls Tryz.prog 158 #[.int .i64 c] w fun e w' => e = .returned (.tuple #[.string (Utf8.encode c),.int .i64 0]) ∧ w' = w:=by
 obtain ⟨h1,h2⟩:=charB_bd h
 go_enter Tryz.func158,Tryz.ntmps158
 go_wp2_with (go_at_call 172;refine (isCharacter_any _ _).mono ?_;rintro e w' ⟨rfl,rfl⟩)
 go_ret2
 exact ⟨rfl,rfl⟩
end
section
open Go.RowKit
structure Keep (B : Nat) (W W' : World) : Prop where
 below : Below B W W'
 cells : ∀ (k : Nat) c t fz,W.heap[k]? = some (Obj.cells c t fz) → t ≠ 139 → W'.heap[k]? = some (Obj.cells c t fz)
def Iters (W W' : World) : Prop:=∀ (k : Nat) (s : ByteArray) (pos : Nat),W.heap[k]? = some (.stringIter s pos) → W'.heap[k]? = some (.stringIter s pos)
def stV (s : ByteArray) (p : Nat) : Value:=.agg #[.int .i64 (stC s p),.int .i64 p,.int .i64 (p + stW s p : Nat)]
theorem Keep.refl (B : Nat) (W : World) : Keep B W W:=⟨Below.refl _ _,fun _ _ _ _ h _ => h⟩
theorem Keep.alloc {B : Nat} {W W' : World} (h : Keep B W W') (hB : B ≤ W'.heap.size) (o : Obj) : Keep B W (W'.alloc o) :=
 ⟨h.below.alloc hB o,fun k c t fz hk ht => by
  have h1:=h.cells k c t fz hk ht
  have hlt : k < W'.heap.size:=(Array.getElem?_eq_some_iff.1 h1).1
  exact (Lib.alloc_old W' o k hlt).trans h1⟩
theorem Keep.iterAt {B : Nat} {W W' : World} (h : Keep B W W') {k : Nat} {s : ByteArray} {pos : Nat} (hB : B ≤ k) (hk : W'.heap[k]? = some (.stringIter s pos)) (pos' : Nat) : Keep B W (W'.iterAt k s pos') :=
 ⟨Lib.below_iterAt h.below hB s pos',fun j c t fz hj ht => by
  have h1:=h.cells j c t fz hj ht
  have hjk : j ≠ k:=by
   intro e
   rw [e,hk] at h1
   cases h1
  exact (Lib.iterAt_other W' k j s pos' hjk).trans h1⟩
theorem Iters.refl (W : World) : Iters W W:=fun _ _ _ h => h
theorem Iters.alloc {W W' : World} (h : Iters W W') (o : Obj) : Iters W (W'.alloc o):=fun k s pos hk => by
 have h1:=h k s pos hk
 have hlt : k < W'.heap.size:=(Array.getElem?_eq_some_iff.1 h1).1
 exact (Lib.alloc_old W' o k hlt).trans h1
set_option maxHeartbeats 1000000 in
set_option maxRecDepth 100000 in
theorem each_any (K : Nat) (caps : Array Value) (s : ByteArray) (w : World) (hs : s.size ≤ 1125899906842624) (I : Nat → World → Prop) (Q : World → Prop)
  (hK : ∀ args W,Sem.run Tryz.prog (callFunc K args) W = .ok (.enter K args) W)
  (hst : ∀ p W W',I p W → Keep w.heap.size W W' → I p W') (h0 : I 0 w)
  (hcall : ∀ p W,p < s.size → I p W → Calls Tryz.prog K (#[stV s p] ++ caps) W fun e W' => ∃ b,e = .returned (.bool b) ∧ Iters W W' ∧ (b = true → I (p + stW s p) W') ∧ (b = false → Q W'))
  (hend : ∀ W,I s.size W → Q W) :
  Calls Tryz.prog 126 #[.string s,.func (.func K) #[] caps] w fun e w' => e = .returned (.tuple #[]) ∧ Q w':=by
 go_enter Tryz.func126,Tryz.ntmps126
 go_wp2
 go_loopw [] (fun wr => ∃ pos,pos ≤ s.size ∧ wr.heap[w.heap.size]? = some (.stringIter s pos) ∧ I pos wr) (fun wr => s.size - wr.iterPos w.heap.size)
 case atStart =>
  refine ⟨0,Nat.zero_le _,World.iter_heap w s 0,hst _ _ _ h0 ?_⟩
  exact (Keep.refl _ _).alloc (Nat.le_refl _) _
 case round =>
  obtain ⟨pos,hle,hit,hI⟩:=hrel
  by_cases hp : pos < s.size
  ·have hnx : ∀ ty,(Instr.next (.pointer (some ⟨w.heap.size,0,none⟩)) true ty).run Tryz.prog wr = _:=fun ty => Lib.run_next_any_at wr w.heap.size s pos ty hit hp
   have hw:=dec_w s pos hp
   have hb:=dec_bd s pos
   have hkeep:=(Keep.refl w.heap.size wr).iterAt (Nat.le_refl _) hit (pos + (Utf8.decode s pos).2)
   have hsz : w.heap.size ≤ (wr.iterAt w.heap.size s (pos + (Utf8.decode s pos).2)).heap.size:=by
    rw [Lib.iterAt_size];have:=(Array.getElem?_eq_some_iff.1 hit).1;omega
   have hit2:=Lib.iterAt_heap wr w.heap.size s pos (pos + (Utf8.decode s pos).2) hit
   have hIa : ∀ o,I pos ((wr.iterAt w.heap.size s (pos + (Utf8.decode s pos).2)).alloc o):=fun o => hst _ _ _ hI (hkeep.alloc hsz o)
   have hita0 : ∀ o,((wr.iterAt w.heap.size s (pos + (Utf8.decode s pos).2)).alloc o).heap[w.heap.size]? = some (.stringIter s (pos + (Utf8.decode s pos).2)):=fun o => (Lib.alloc_old _ o _ (Array.getElem?_eq_some_iff.1 hit2).1).trans hit2
   by_cases hr : ((Utf8.decode s pos).1 : Int) = 65533
   ·have hr0 : (Utf8.decode s pos).1 = 65533:=by omega
    have hpf:=hp_fffd s pos hp hr0
    have hrl : runeLen 65533 = 3:=by decide
    by_cases h3 : (Utf8.decode s pos).2 = 3
    ·have hpt : hpB (s.extract pos s.size) ⟨#[239,191,189]⟩ = true:=by rw [hpf];simpa using h3
     have hne : Utf8.decode s pos ≠ (65533,1):=fun e => by rw [e] at h3;exact absurd h3 (by decide)
     have hv : stV s pos = .agg #[.int .i64 65533,.int .i64 pos,.int .i64 (pos + 3)]:=by
      unfold stV stC stW;rw [if_neg hne,h3,hr0];rfl
     have hcW:=fun o => hcall pos _ hp (hIa o)
     rw [hv,h3] at hcW
     simp only [h3] at hita0
     clear hpf hIa hit2 hsz hkeep
     go_wp2_with (first | (go_at_call 140;refine (runeLen_any _ _).mono ?_;rintro e w' ⟨rfl,rfl⟩) | (go_at_call 105;refine (sHasPrefix_any _ _ _).mono ?_;rintro e w' ⟨rfl,rfl⟩))
     have hc:=hcW (.cells #[.int .i64 65533,.int .i64 pos,.int .i64 (pos + 3)] 139)
     have hita:=hita0 (.cells #[.int .i64 65533,.int .i64 pos,.int .i64 (pos + 3)] 139)
     clear hcW hita0
     refine Calls.mono hc ?_
     rintro e W' ⟨b,rfl,hi,ht,hf⟩
     have hit3:=hi _ _ _ hita
     cases b with
     | true =>
      have hI3:=ht rfl
      clear hc ht hf hcall hst hK
      go_wp2
      go_roundw
      case rel => exact ⟨pos + stW s pos,hw.2.2,by unfold stW;rw [h3];exact hit3,hI3⟩
      case measure =>
       simp only [World.iterPos,hit3,hit]
       have:=hw.1
       unfold stW at this hw
       omega
     | false =>
      have hQ:=hf rfl
      clear hc ht hf hcall hst hK
      go_wp2
      exact bodyPost_ret (v:=.tuple #[]) (by simp [results,Tryz.results126,go_sem]) rfl ⟨rfl,hQ⟩
    ·have hpt : hpB (s.extract pos s.size) ⟨#[239,191,189]⟩ = false:=by rw [hpf];simpa using h3
     have h1 : (Utf8.decode s pos).2 = 1:=(dec_fffd s pos hr0).resolve_right h3
     clear h3
     have h3:=h1
     clear h1
     have hne : Utf8.decode s pos = (65533,1):=Prod.ext hr0 h3
     have hv : stV s pos = .agg #[.int .i64 (-1),.int .i64 pos,.int .i64 (pos + 1)]:=by
      unfold stV stC stW;rw [if_pos hne,h3];rfl
     clear hne
     have hcW:=fun o => hcall pos _ hp (hIa o)
     rw [hv,h3] at hcW
     simp only [h3] at hita0
     clear hpf hIa hit2 hsz hkeep
     go_wp2_with (first | (go_at_call 140;refine (runeLen_any _ _).mono ?_;rintro e w' ⟨rfl,rfl⟩) | (go_at_call 105;refine (sHasPrefix_any _ _ _).mono ?_;rintro e w' ⟨rfl,rfl⟩))
     have hc:=hcW (.cells #[.int .i64 (-1),.int .i64 pos,.int .i64 (pos + 1)] 139)
     have hita:=hita0 (.cells #[.int .i64 (-1),.int .i64 pos,.int .i64 (pos + 1)] 139)
     clear hcW hita0
     refine Calls.mono hc ?_
     rintro e W' ⟨b,rfl,hi,ht,hf⟩
     have hit3:=hi _ _ _ hita
     cases b with
     | true =>
      have hI3:=ht rfl
      clear hc ht hf hcall hst hK
      go_wp2
      go_roundw
      case rel => exact ⟨pos + stW s pos,hw.2.2,by unfold stW;rw [h3];exact hit3,hI3⟩
      case measure =>
       simp only [World.iterPos,hit3,hit]
       have:=hw.1
       unfold stW at this hw
       omega
     | false =>
      have hQ:=hf rfl
      clear hc ht hf hcall hst hK
      go_wp2
      exact bodyPost_ret (v:=.tuple #[]) (by simp [results,Tryz.results126,go_sem]) rfl ⟨rfl,hQ⟩
   ·have hr' : (((Utf8.decode s pos).1 : Int) == 65533) = false:=by simpa using hr
    have hne : Utf8.decode s pos ≠ (65533,1):=fun e => by rw [e] at hr;exact absurd rfl hr
    have hrl : runeLen ((Utf8.decode s pos).1 : Int) = ((stW s pos : Nat) : Int):=by
     rcases dec_len s pos with h | ⟨h,_⟩
     ·exact absurd h hne
     ·exact h
    have hv : stV s pos = .agg #[.int .i64 ((Utf8.decode s pos).1 : Int),.int .i64 pos,.int .i64 (pos + stW s pos)]:=by
     unfold stV stC;rw [if_neg hne];rfl
    have hcW:=fun o => hcall pos _ hp (hIa o)
    rw [hv] at hcW
    go_wp2_with (go_at_call 140;refine (runeLen_any _ _).mono ?_;rintro e w' ⟨rfl,rfl⟩)
    have hc:=hcW (.cells #[.int .i64 ((Utf8.decode s pos).1 : Int),.int .i64 pos,.int .i64 (pos + stW s pos)] 139)
    have hita:=hita0 (.cells #[.int .i64 ((Utf8.decode s pos).1 : Int),.int .i64 pos,.int .i64 (pos + stW s pos)] 139)
    clear hcW hita0
    refine Calls.mono hc ?_
    rintro e W' ⟨b,rfl,hi,ht,hf⟩
    have hit3:=hi _ _ _ hita
    cases b with
    | true =>
     have hI3:=ht rfl
     clear hc ht hf hcall hst hK
     go_wp2
     go_roundw
     case rel => exact ⟨pos + stW s pos,hw.2.2,hit3,hI3⟩
     case measure =>
      simp only [World.iterPos,hit3,hit]
      have:=hw.1
      unfold stW at this hw
      omega
    | false =>
     have hQ:=hf rfl
     clear hc ht hf hcall hst hK
     go_wp2
     exact bodyPost_ret (v:=.tuple #[]) (by simp [results,Tryz.results126,go_sem]) rfl ⟨rfl,hQ⟩
  ·have hnx : ∀ ty,(Instr.next (.pointer (some ⟨w.heap.size,0,none⟩)) true ty).run Tryz.prog wr = _:=fun ty => Lib.run_next_end_at wr w.heap.size s pos ty hit hp
   go_wp2
   go_end0
   exact ⟨rfl,hend _ (by
     have : pos = s.size:=by omega
     subst this;exact hI)⟩
end
section
open Go.RowKit
section
variable {α : Type}
def walkF (s : ByteArray) (f : α → Nat → α × Bool) : Nat → Nat → α → α
 | 0,_,a => a
 | n + 1,p,a => if p < s.size then (if (f a p).2 then walkF s f n (p + stW s p) (f a p).1 else (f a p).1) else a
theorem walkF_fuel (s : ByteArray) (f : α → Nat → α × Bool) : ∀ (n m p : Nat) (a : α),s.size - p ≤ n → s.size - p ≤ m → walkF s f n p a = walkF s f m p a:=by
 intro n
 induction n with
 | zero =>
  intro m p a hn hm
  have hp : ¬ p < s.size:=by omega
  cases m with
  | zero => rfl
  | succ m => simp only [walkF,if_neg hp]
 | succ n ih =>
  intro m p a hn hm
  by_cases hp : p < s.size
  ·have hw:=dec_w s p hp
   cases m with
   | zero => omega
   | succ m =>
    simp only [walkF,if_pos hp]
    split
    ·exact ih m _ _ (by omega) (by omega)
    ·rfl
  ·cases m with
   | zero => simp only [walkF,if_neg hp]
   | succ m => simp only [walkF,if_neg hp]
def walk (s : ByteArray) (f : α → Nat → α × Bool) (p : Nat) (a : α) : α:=walkF s f (s.size - p) p a
theorem walk_step {s : ByteArray} {f : α → Nat → α × Bool} {p : Nat} {a : α} (hp : p < s.size) : walk s f p a = if (f a p).2 then walk s f (p + stW s p) (f a p).1 else (f a p).1:=by
 have hw:=dec_w s p hp
 unfold walk
 obtain ⟨n,hn⟩ : ∃ n,s.size - p = n + 1:=⟨s.size - p - 1,by omega⟩
 rw [hn]
 simp only [walkF,if_pos hp]
 rw [walkF_fuel s f n (s.size - (p + stW s p)) _ _ (by omega) (Nat.le_refl _)]
theorem walk_end {s : ByteArray} {f : α → Nat → α × Bool} {p : Nat} {a : α} (hp : ¬ p < s.size) : walk s f p a = a:=by
 unfold walk
 rw [show s.size - p = 0 by omega]
 rfl
theorem each_walk (K : Nat) (caps : Array Value) (s : ByteArray) (w : World) (hs : s.size ≤ 1125899906842624) (St : α → World → Prop) (J : α → Nat → Prop) (f : α → Nat → α × Bool) (a0 : α)
  (hK : ∀ args W,Sem.run Tryz.prog (callFunc K args) W = .ok (.enter K args) W)
  (hst : ∀ a W W',St a W → Keep w.heap.size W W' → St a W') (h0 : St a0 w) (hJ0 : J a0 0)
  (hJ : ∀ a p,p < s.size → J a p → (f a p).2 = true → J (f a p).1 (p + stW s p))
  (hcall : ∀ a p W,p < s.size → J a p → St a W → Calls Tryz.prog K (#[stV s p] ++ caps) W fun e W' => e = .returned (.bool (f a p).2) ∧ Iters W W' ∧ St (f a p).1 W') :
  Calls Tryz.prog 126 #[.string s,.func (.func K) #[] caps] w fun e w' => e = .returned (.tuple #[]) ∧ St (walk s f 0 a0) w':=by
 refine each_any K caps s w hs (fun p W => ∃ a,St a W ∧ J a p ∧ walk s f p a = walk s f 0 a0) (fun W => St (walk s f 0 a0) W) hK ?_ ⟨a0,h0,hJ0,rfl⟩ ?_ ?_
 ·rintro p W W' ⟨a,h1,h2,h3⟩ hk
  exact ⟨a,hst _ _ _ h1 hk,h2,h3⟩
 ·rintro p W hp ⟨a,h1,h2,h3⟩
  refine (hcall a p W hp h2 h1).mono ?_
  rintro e W' ⟨rfl,hi,hS⟩
  have hstep : walk s f p a = if (f a p).2 then walk s f (p + stW s p) (f a p).1 else (f a p).1:=walk_step hp
  refine ⟨(f a p).2,rfl,hi,fun hb => ⟨(f a p).1,hS,hJ a p hp h2 hb,?_⟩,fun hb => ?_⟩
  ·rw [if_pos hb] at hstep
   rw [← hstep,h3]
  ·rw [hb,if_neg (by decide)] at hstep
   rw [← h3,hstep]
   exact hS
 ·rintro W ⟨a,h1,h2,h3⟩
  rw [walk_end (Nat.lt_irrefl _)] at h3
  rw [← h3]
  exact h1
end
theorem Keep.one {B : Nat} {W W' : World} (h : Keep B W W') {k : Nat} {v : Value} {t : TypeId} (hk : W.heap[k]? = some (.cells #[v] t (0,0))) (ht : t ≠ 139) : W'.heap[k]? = some (.cells #[v] t (0,0)):=h.cells k _ t _ hk ht
theorem Iters.setCell {W W' : World} (h : Iters W W') {p : Addr} {c : Array Value} {t : TypeId} {fz : Nat × Nat} (hp : W'.heap[p.block]? = some (.cells c t fz)) (v : Value) : Iters W (W'.setCell p v):=fun k s pos hk => by
 have h1:=h k s pos hk
 have hne : k ≠ p.block:=by
  intro e
  rw [e,hp] at h1
  cases h1
 exact (Below.heap_setCell _ _ _ _ hne).trans h1
end
section
open Go.RowKit
theorem below_drew1 {B : Nat} {W W' : World} (h : Below B W W') : Below B W W'.drew:=⟨h.os,h.tape,h.output,h.size,h.block⟩
theorem two_set {W : World} {B C : Nat} {x y : Value} {t t' : TypeId} (h : W.heap[B]? = some (.cells #[x] t (0,0))) (h' : W.heap[C]? = some (.cells #[y] t' (0,0))) (hBC : B ≠ C) {D : Nat} (hB : D ≤ B) (hC : D ≤ C) (u v : Value) :
  (((W.setCell ⟨B,0,none⟩ u).setCell ⟨C,0,none⟩ v)).heap[B]? = some (.cells #[u] t (0,0)) ∧ (((W.setCell ⟨B,0,none⟩ u).setCell ⟨C,0,none⟩ v)).heap[C]? = some (.cells #[v] t' (0,0)) ∧ Below D W ((W.setCell ⟨B,0,none⟩ u).setCell ⟨C,0,none⟩ v) ∧ Iters W ((W.setCell ⟨B,0,none⟩ u).setCell ⟨C,0,none⟩ v):=by
 have h2 : (W.setCell ⟨B,0,none⟩ u).heap[C]? = some (.cells #[y] t' (0,0)):=(Below.heap_setCell W ⟨B,0,none⟩ u C (Ne.symm hBC)).trans h'
 refine ⟨?_,one_setCell h2,?_,?_⟩
 ·exact (Below.heap_setCell _ ⟨C,0,none⟩ v B hBC).trans (one_setCell h)
 ·exact ((Below.refl D W).setCell (p:=⟨B,0,none⟩) hB _).setCell (p:=⟨C,0,none⟩) hC _
 ·exact ((Iters.refl W).setCell (p:=⟨B,0,none⟩) h _).setCell (p:=⟨C,0,none⟩) h2 _
def runeS (s : ByteArray) (n : Nat) : Int × Int:=if stC s n = -1 then (0,0) else (stC s n,(stW s n : Int))
def sourceStep (s : ByteArray) (a : Int × Int) (p : Nat) : (Int × Int) × Bool:=if sourceB (stC s p) then (a,true) else (((p : Int),10),false)
def sourceS (s : ByteArray) : Int × Int:=walk s (sourceStep s) 0 (0,0)
set_option maxHeartbeats 400000 in
theorem source1_yes (B : Nat) (x y c b e : Int) (W : World) (h : W.heap[B]? = some (.cells #[.int .i64 x] 3 (0,0))) (h' : W.heap[B + 1]? = some (.cells #[.int .i64 y] 26 (0,0))) (hc : sourceB c = true) :
  Calls Tryz.prog 127 #[.agg #[.int .i64 c,.int .i64 b,.int .i64 e],.pointer (some ⟨B,0,none⟩),.pointer (some ⟨B + 1,0,none⟩)] W fun z W' => z = .returned (.bool true) ∧ Iters W W' ∧ (W'.heap[B]? = some (.cells #[.int .i64 x] 3 (0,0)) ∧ W'.heap[B + 1]? = some (.cells #[.int .i64 y] 26 (0,0))) ∧ Below B W W':=by
 have hlt:=lt_of_block h
 go_enter Tryz.func127,Tryz.ntmps127
 go_wp2_with (go_at_call 128;refine (isSource_any _ _).mono ?_;rintro e w' ⟨rfl,rfl⟩)
 go_ret
 exact ⟨rfl,(Iters.refl W).alloc _,⟨(Lib.alloc_old _ _ B (lt_of_block h)).trans h,(Lib.alloc_old _ _ (B + 1) (lt_of_block h')).trans h'⟩,(Below.refl B W).alloc (by omega) _⟩
set_option maxHeartbeats 400000 in
theorem source1_no (B : Nat) (x y c b e : Int) (W : World) (h : W.heap[B]? = some (.cells #[.int .i64 x] 3 (0,0))) (h' : W.heap[B + 1]? = some (.cells #[.int .i64 y] 26 (0,0))) (hc : sourceB c = false) :
  Calls Tryz.prog 127 #[.agg #[.int .i64 c,.int .i64 b,.int .i64 e],.pointer (some ⟨B,0,none⟩),.pointer (some ⟨B + 1,0,none⟩)] W fun z W' => z = .returned (.bool false) ∧ Iters W W' ∧ (W'.heap[B]? = some (.cells #[.int .i64 b] 3 (0,0)) ∧ W'.heap[B + 1]? = some (.cells #[.int .i64 10] 26 (0,0))) ∧ Below B W W':=by
 have hlt:=lt_of_block h
 have hlt':=lt_of_block h'
 have cB:=cell_of_one h
 have fB:=free_of_one h
 have cC:=cell_of_one h'
 have fC:=free_of_one h'
 go_enter Tryz.func127,Tryz.ntmps127
 go_wp2_with (go_at_call 128;refine (isSource_any _ _).mono ?_;rintro e w' ⟨rfl,rfl⟩)
 go_ret
 obtain ⟨g1,g2,g3,g4⟩:=two_set h h' (by omega) (Nat.le_refl B) (by omega) (.int .i64 b) (.int .i64 10)
 have hz : W.heap.size = ((W.setCell ⟨B,0,none⟩ (.int .i64 b)).setCell ⟨B + 1,0,none⟩ (.int .i64 10)).heap.size:=by simp [World.setCell]
 exact ⟨rfl,g4.alloc _,⟨(Lib.alloc_old _ _ B (by omega)).trans g1,(Lib.alloc_old _ _ (B + 1) (by omega)).trans g2⟩,g3.alloc (by omega) _⟩
theorem source1_any (B : Nat) (a : Int × Int) (s : ByteArray) (p : Nat) (W : World) (h : W.heap[B]? = some (.cells #[.int .i64 a.1] 3 (0,0))) (h' : W.heap[B + 1]? = some (.cells #[.int .i64 a.2] 26 (0,0))) :
  Calls Tryz.prog 127 #[stV s p,.pointer (some ⟨B,0,none⟩),.pointer (some ⟨B + 1,0,none⟩)] W fun z W' => z = .returned (.bool (sourceStep s a p).2) ∧ Iters W W' ∧ (W'.heap[B]? = some (.cells #[.int .i64 (sourceStep s a p).1.1] 3 (0,0)) ∧ W'.heap[B + 1]? = some (.cells #[.int .i64 (sourceStep s a p).1.2] 26 (0,0))) ∧ Below B W W':=by
 by_cases hc : sourceB (stC s p) = true
 ·unfold stV sourceStep
  rw [if_pos hc]
  exact source1_yes B a.1 a.2 _ _ _ W h h' hc
 ·unfold stV sourceStep
  rw [if_neg hc]
  exact source1_no B a.1 a.2 _ _ _ W h h' (by simpa using hc)
set_option maxHeartbeats 400000 in
theorem source_any (s : ByteArray) (w : World) (hs : s.size ≤ 1125899906842624) :
  Calls Tryz.prog 107 #[.string s] w fun e w' => e = .returned (.tuple #[.int .i64 (sourceS s).1,.int .i64 (sourceS s).2]) ∧ Below w.heap.size w w':=by
 have hE:=each_walk (α:=Int × Int) 127 #[.pointer (some ⟨w.heap.size,0,none⟩),.pointer (some ⟨w.heap.size + 1,0,none⟩)] s ((w.alloc (.cells #[.int .i64 0] 3)).alloc (.cells #[.int .i64 0] 26)) hs
  (fun (a : Int × Int) W => (W.heap[w.heap.size]? = some (.cells #[.int .i64 a.1] 3 (0,0)) ∧ W.heap[w.heap.size + 1]? = some (.cells #[.int .i64 a.2] 26 (0,0))) ∧ Below w.heap.size w W) (fun _ _ => True) (sourceStep s) (0,0) (fun _ _ => by kernel_rfl)
  (fun a W W' h k => ⟨⟨Keep.one k h.1.1 (by decide),Keep.one k h.1.2 (by decide)⟩,h.2.trans (k.below.mono (by simp;omega))⟩)
  ⟨⟨(Lib.alloc_old _ _ _ (by simp)).trans (heap_alloc_new _ _),by simpa using heap_alloc_new (w.alloc (.cells #[.int .i64 0] 3)) (.cells #[.int .i64 0] 26)⟩,((Below.refl _ _).alloc (Nat.le_refl _) _).alloc (by simp) _⟩ trivial (fun _ _ _ _ _ => trivial)
  (fun a p W _ _ h => (source1_any w.heap.size a _ p W h.1.1 h.1.2).mono fun e W' ⟨h1,h2,h3,h4⟩ => ⟨h1,h2,h3,h.2.trans h4⟩)
 go_enter Tryz.func107,Tryz.ntmps107
 go_wp2_with (go_at_call 126;refine Calls.mono hE ?_;rintro e w' ⟨rfl,⟨h1,h1'⟩,h2⟩;have c1:=cell_of_one h1;have c2:=cell_of_one h1')
 go_region
 all_goals
  go_wp2
  go_ret2
  exact ⟨rfl,below_drew1 h2⟩
end
section
open Go
abbrev Bs:=List UInt8
def digL : Bs:=[48,49,50,51,52,53,54,55,56,57]
def letL : Bs:=[97,98,99,100,101,102,103,104,105,106,107,108,109,110,111,112,113,114,115,116,117,118,119,120,121,122,65,66,67,68,69,70,71,72,73,74,75,76,77,78,79,80,81,82,83,84,85,86,87,88,89,90,95]
def punL : Bs:=[33,36,38,40,41,58,61,64,91,93,123,124,125]
def ignL : Bs:=[9,32,10,13,44]
def endL : Bs:=[10,13]
def headIn (S : Bs) : Bs → Bool
 | [] => false
 | c :: _ => S.contains c
def spanR (S : Bs) : Bs → Bs
 | [] => []
 | c :: l => if S.contains c then spanR S l else c :: l
def spanN (S : Bs) : Bs → Bs
 | [] => []
 | c :: l => if S.contains c then c :: l else spanN S l
def ahead (l r : Bs) : Bs:=l.take (l.length - r.length)
def needD (l : Bs) : Option Bs:=if headIn digL l then some (spanR digL l) else none
def optT (p l : Bs) : Bs:=if p.isPrefixOf l then l.drop p.length else l
def optO (S l : Bs) : Bs:=if headIn S l then l.drop 1 else l
def numA (l : Bs) : Option Bs:=if List.isPrefixOf [48] l then some (l.drop 1) else needD l
def numB (l : Bs) : Option (Int × Bs):=if List.isPrefixOf [46] l then (needD (l.drop 1)).map fun r => (3,r) else some (2,l)
def numC (k : Int) (l : Bs) : Option (Int × Bs):=if headIn [101,69] l then (needD (optO [43,45] (l.drop 1))).map fun r => (3,r) else some (k,l)
def numD (k : Int) (l : Bs) : Option (Int × Bs):=if headIn (digL ++ 46 :: letL) l then none else some (k,l)
def numS (l : Bs) : Option (Int × Bs):=(numA (optT [45] l)).bind fun l1 => (numB l1).bind fun p => (numC p.1 p.2).bind fun q => numD q.1 q.2
def hexV (c : UInt8) : Option Nat:=if 48 ≤ c.toNat ∧ c.toNat ≤ 57 then some (c.toNat - 48) else if 97 ≤ c.toNat ∧ c.toNat ≤ 102 then some (c.toNat - 87) else if 65 ≤ c.toNat ∧ c.toNat ≤ 70 then some (c.toNat - 55) else none
def halfS (V : Nat) : Bs:=[(224 + V / 4096).toUInt8,(128 + V / 64 % 64).toUInt8,(128 + V % 64).toUInt8]
def unitS (V : Nat) : Bs:=if 55296 ≤ V ∧ V ≤ 57343 then halfS V else (Utf8.encode (V : Int)).data.toList
def nmbS : Bs → Option (Bs × Bs)
 | a :: b :: c :: d :: r => (hexV a).bind fun x => (hexV b).bind fun y => (hexV c).bind fun z => (hexV d).bind fun t => some (unitS (x * 4096 + y * 256 + z * 16 + t),r)
 | _ => none
def escL : Bs:=[34,92,47,98,102,110,114,116]
def saidL : Bs:=[34,92,47,8,12,10,13,9]
def escS (l : Bs) : Option (Bs × Bs):=if List.isPrefixOf [117] l then nmbS (l.drop 1) else match l with
 | [] => none
 | c :: r => if escL.contains c then some ([saidL.getD (escL.idxOf c) 0],r) else none
def lineF : Nat → Bs → Option (Bs × Bs)
 | 0,_ => none
 | n + 1,l => if List.isPrefixOf [34] l then some ([],l.drop 1) else if List.isPrefixOf [92] l then (escS (l.drop 1)).bind fun p => (lineF n p.2).map fun q => (p.1 ++ q.1,q.2) else match l with
  | [] => none
  | c :: r => if endL.contains c then none else (lineF n r).map fun q => (c :: q.1,q.2)
def rawF : Nat → Bs → Option (Bs × Bs)
 | 0,_ => none
 | n + 1,l => if List.isPrefixOf [34,34,34] l then some ([],l.drop 3) else if List.isPrefixOf [92,34,34,34] l then (rawF n (l.drop 4)).map fun q => (34 :: 34 :: 34 :: q.1,q.2) else match l with
  | [] => none
  | c :: r => (rawF n r).map fun q => (c :: q.1,q.2)
def normS : Bs → Bs
 | [] => []
 | [c] => [if c = 13 then 10 else c]
 | c :: d :: l => if c = 13 then (if d = 10 then 10 :: normS l else 10 :: normS (d :: l)) else c :: normS (d :: l)
def split10 : Bs → List Bs
 | [] => [[]]
 | c :: l => if c = 10 then [] :: split10 l else match split10 l with
  | [] => [[c]]
  | x :: xs => (c :: x) :: xs
def linesS (l : Bs) : List Bs:=split10 (normS l)
def indS (l : Bs) : Nat:=l.length - (spanR [9,32] l).length
def blankB (l : Bs) : Bool:=indS l == l.length
def commonS : List Bs → Option Nat → Option Nat
 | [],a => a
 | x :: xs,a => commonS xs (if blankB x then a else match a with
  | none => some (indS x)
  | some n => if indS x < n then some (indS x) else some n)
def cutS (n : Nat) (l : Bs) : Bs:=l.drop (min n l.length)
def joinS : List Bs → Bs
 | [] => []
 | [x] => x
 | x :: xs => x ++ 10 :: joinS xs
def trimS (l : List Bs) : List Bs:=((l.dropWhile blankB).reverse.dropWhile blankB).reverse
def blockS (raw : Bs) : Bs:=match linesS raw with
 | [] => []
 | x :: xs => joinS (trimS (x :: xs.map (cutS ((commonS xs none).getD 0))))
def srcB (l : Bs) : Option Nat:=if (sourceS ⟨l.toArray⟩).2 = 0 then none else some (sourceS ⟨l.toArray⟩).1.toNat
def textR (l : Bs) : Option (Bs × Bs):=if List.isPrefixOf [34,34,34] l then (rawF (l.length + 1) (l.drop 3)).map fun p => (blockS p.1,p.2) else lineF (l.length + 1) (l.drop 1)
def textS (l : Bs) : Option (Bs × Bs):=(textR l).bind fun p => if (srcB (ahead l p.2)).isSome then none else some p
inductive TR where
 | ok (k : Int) (t r : Bs)
 | bad (e : Int)
def wrt (k : Int) (l r : Bs) : TR:=.ok k (ahead l r) r
def tokS (l : Bs) : TR :=
 if headIn punL l then wrt 0 l (l.drop 1)
 else if List.isPrefixOf [46,46,46] l then wrt 0 l (l.drop 3)
 else if headIn letL l then wrt 1 l (spanR (letL ++ digL) (l.drop 1))
 else if headIn (45 :: digL) l then (match numS l with
  | none => .bad 51
  | some p => wrt p.1 l p.2)
 else if headIn [34] l then (match textS l with
  | none => .bad 52
  | some p => .ok 4 p.1 p.2)
 else .bad 50
def comS (l : Bs) : Option (Bs ⊕ Nat):=if List.isPrefixOf [35] l then some (match srcB (ahead l (spanN endL (l.drop 1))) with
 | none => .inl (spanN endL (l.drop 1))
 | some k => .inr k) else none
def skipF : Nat → Bs → Bs ⊕ Nat
 | 0,l => .inl l
 | n + 1,l => if headIn ignL l then skipF n (spanR ignL l) else if List.isPrefixOf [239,187,191] l then skipF n (l.drop 3) else match comS l with
  | none => .inl l
  | some (.inl r) => skipF n r
  | some (.inr k) => .inr (l.length - k)
def skipS (l : Bs) : Bs ⊕ Nat:=skipF (l.length + 1) l
structure Tok where
 k : Int
 t : Bs
 b : Nat
 e : Nat
deriving DecidableEq
def lexF (N : Nat) : Nat → Nat → Bs → (Nat × Int) ⊕ List Tok
 | 0,_,_ => .inr []
 | n + 1,c,l => match skipS l with
  | .inr k => .inl (N - k,50)
  | .inl [] => .inr []
  | .inl (x :: l1) => if c = 2048 then .inl (N - (x :: l1).length,53) else match tokS (x :: l1) with
   | .bad e => .inl (N - (x :: l1).length,e)
   | .ok k t r => match lexF N n (c + 1) r with
    | .inl p => .inl p
    | .inr ts => .inr (⟨k,t,N - (x :: l1).length,N - r.length⟩ :: ts)
def lexS (s : Bs) : (Nat × Int) ⊕ List Tok:=if 16384 < s.length then .inl (0,54) else lexF s.length (s.length + 1) 0 s
end
section
open Go Go.RowKit
structure Kp (S : Nat → Prop) (w w' : World) : Prop where
 os : w'.os = w.os
 tape : w'.tape = w.tape
 output : w'.output = w.output
 size : w.heap.size ≤ w'.heap.size
 block : ∀ k,k < w.heap.size → ¬ S k → w'.heap[k]? = w.heap[k]?
theorem Kp.refl (S : Nat → Prop) (w : World) : Kp S w w:=⟨rfl,rfl,rfl,Nat.le_refl _,fun _ _ _ => rfl⟩
theorem Kp.trans {S : Nat → Prop} {a b c : World} (h : Kp S a b) (h' : Kp S b c) : Kp S a c :=
 ⟨h'.os.trans h.os,h'.tape.trans h.tape,h'.output.trans h.output,Nat.le_trans h.size h'.size,fun k hk hS => (h'.block k (Nat.lt_of_lt_of_le hk h.size) hS).trans (h.block k hk hS)⟩
theorem Kp.mono {S T : Nat → Prop} {a b : World} (h : Kp S a b) (hT : ∀ k,k < a.heap.size → S k → T k) : Kp T a b :=
 ⟨h.os,h.tape,h.output,h.size,fun k hk hn => h.block k hk (fun hs => hn (hT k hk hs))⟩
theorem Kp.below {S : Nat → Prop} {a b : World} {B : Nat} (h : Kp S a b) (hB : B ≤ a.heap.size) (hS : ∀ k,k < B → ¬ S k) : Below B a b :=
 ⟨h.os,h.tape,h.output,h.size,fun k hk => h.block k (Nat.lt_of_lt_of_le hk hB) (hS k hk)⟩
theorem Kp.of_below {S : Nat → Prop} {a b : World} (h : Below a.heap.size a b) : Kp S a b:=⟨h.os,h.tape,h.output,h.size,fun k hk _ => h.block k hk⟩
theorem Kp.alloc {S : Nat → Prop} {a b : World} (h : Kp S a b) (o : Obj) : Kp S a (b.alloc o):=h.trans (Kp.of_below ((Below.refl _ _).alloc (Nat.le_refl _) _))
theorem Kp.set {S : Nat → Prop} {a b : World} (h : Kp S a b) (g i : Nat) (v : Value) (hg : a.heap.size ≤ g ∨ S g) : Kp S a (b.setCell ⟨g,i,none⟩ v) :=
 ⟨h.os,h.tape,h.output,Nat.le_trans h.size (by simp [World.setCell]),fun k hk hS => (Below.heap_setCell b ⟨g,i,none⟩ v k (fun e => by
  have e' : k = g:=e
  rcases hg with hg | hg
  ·omega
  ·exact hS (e' ▸ hg))).trans (h.block k hk hS)⟩
theorem Kp.drew {S : Nat → Prop} {a b : World} (h : Kp S a b) : Kp S a b.drew:=⟨h.os,h.tape,h.output,h.size,h.block⟩
theorem Kp.drewN {S : Nat → Prop} {a b : World} (h : Kp S a b) (n : Nat) : Kp S a (b.drewN n):=⟨h.os,h.tape,h.output,h.size,h.block⟩
theorem Kp.then_below {S : Nat → Prop} {a b c : World} (h : Kp S a b) (hb : Below a.heap.size b c) : Kp S a c :=
 ⟨hb.os.trans h.os,hb.tape.trans h.tape,hb.output.trans h.output,Nat.le_trans h.size hb.size,fun k hk hS => (hb.block k hk).trans (h.block k hk hS)⟩
abbrev Own1 (R : Nat) : Nat → Prop:=fun k => k = R
theorem Kp.own {w : World} (R i : Nat) (v : Value) : Kp (Own1 R) w (w.setCell ⟨R,i,none⟩ v):=(Kp.refl (Own1 R) w).set R i v (Or.inr rfl)
theorem Kp.n {S : Nat → Prop} (w : World) (n : Nat) : Kp S w (w.drewN n):=(Kp.refl S w).drewN n
abbrev gM : Nat:=0
abbrev gE : Nat:=3
structure Gl (w : World) : Prop where
 mx : ∃ m,w.cell? ⟨gM,0,none⟩ = some (.int .i64 m)
 es : ∃ ev,w.cell? ⟨gE,0,none⟩ = some ev ∧ (ev = .nilIface ∨ ∃ te pe,ev = .iface te pe)
theorem cell_heap {w w' : World} {g : Nat} (h : w'.heap[g]? = w.heap[g]?) : w'.cell? ⟨g,0,none⟩ = w.cell? ⟨g,0,none⟩:=by
 unfold World.cell?;rw [h]
theorem Gl.of {w w' : World} (h : Gl w) (h1 : w'.heap[gM]? = w.heap[gM]?) (h2 : w'.heap[gE]? = w.heap[gE]?) : Gl w':=by
 obtain ⟨⟨m,hm⟩,⟨ev,he,h3⟩⟩:=h
 exact ⟨⟨m,(cell_heap h1).trans hm⟩,⟨ev,(cell_heap h2).trans he,h3⟩⟩
theorem Gl.ltM {w : World} (h : Gl w) : gM < w.heap.size:=by
 obtain ⟨m,hm⟩:=h.mx
 exact World.block_lt_of_cell? w _ hm
theorem Gl.ltE {w : World} (h : Gl w) : gE < w.heap.size:=by
 obtain ⟨m,hm,_⟩:=h.es
 exact World.block_lt_of_cell? w _ hm
theorem Gl.below {w w' : World} (h : Gl w) {B : Nat} (hb : Below B w w') (hB : w.heap.size ≤ B) : Gl w' :=
 h.of (hb.block _ (Nat.lt_of_lt_of_le h.ltM hB)) (hb.block _ (Nat.lt_of_lt_of_le h.ltE hB))
theorem Gl.kp {w w' : World} (h : Gl w) {S : Nat → Prop} (hk : Kp S w w') (h1 : ¬ S gM) (h2 : ¬ S gE) : Gl w':=h.of (hk.block _ h.ltM h1) (hk.block _ h.ltE h2)
theorem Gl.alloc {w : World} (h : Gl w) (o : Obj) : Gl (w.alloc o):=h.of (Below.heap_alloc w o _ h.ltM) (Below.heap_alloc w o _ h.ltE)
structure Rd (w : World) (R : Nat) (s : Bs) (b : Nat) (l : Bs) : Prop where
 row : w.heap[R]? = some (.cells #[.string ⟨s.toArray⟩,.int .i64 (b : Int),.int .i64 ((s.length - l.length : Nat) : Int)] 100 (0,0))
 suf : l <:+ s
 small : s.length ≤ 16384
 gl : Gl w
 hi : gM < R ∧ gE < R
section
variable {w w' : World} {R : Nat} {s : Bs} {b : Nat} {l : Bs}
theorem Rd.c0 (h : Rd w R s b l) : w.cell? ⟨R,0,none⟩ = some (.string ⟨s.toArray⟩):=by simp [World.cell?,h.row]
theorem Rd.c1 (h : Rd w R s b l) : w.cell? ⟨R,1,none⟩ = some (.int .i64 (b : Int)):=by simp [World.cell?,h.row]
theorem Rd.c2 (h : Rd w R s b l) : w.cell? ⟨R,2,none⟩ = some (.int .i64 ((s.length - l.length : Nat) : Int)):=by simp [World.cell?,h.row]
theorem Rd.free (h : Rd w R s b l) (i : Nat) : w.frozen? ⟨R,i,none⟩ = false:=frozen_of_row w R i _ _ h.row
theorem Rd.lt (h : Rd w R s b l) : R < w.heap.size:=World.block_lt_of_cell? w _ h.c0
theorem Rd.le (h : Rd w R s b l) : l.length ≤ s.length:=h.suf.length_le
theorem Rd.move (h : Rd w R s b l) {m : Bs} (hm : m <:+ l) (x : Int) (hx : x = ((s.length - m.length : Nat) : Int)) : Rd (w.setCell ⟨R,2,none⟩ (.int .i64 x)) R s b m:=by
 subst hx
 exact ⟨heap_setCell_same w R 2 _ _ _ h.row,hm.trans h.suf,h.small,h.gl.kp (Kp.own R 2 _) (fun e => absurd e (Nat.ne_of_lt h.hi.1)) (fun e => absurd e (Nat.ne_of_lt h.hi.2)),h.hi⟩
theorem Rd.begin (h : Rd w R s b l) (b' : Nat) (x : Int) (hx : x = (b' : Int)) : Rd (w.setCell ⟨R,1,none⟩ (.int .i64 x)) R s b' l:=by
 subst hx
 exact ⟨heap_setCell_same w R 1 _ _ _ h.row,h.suf,h.small,h.gl.kp (Kp.own R 1 _) (fun e => absurd e (Nat.ne_of_lt h.hi.1)) (fun e => absurd e (Nat.ne_of_lt h.hi.2)),h.hi⟩
theorem Rd.alloc (h : Rd w R s b l) (o : Obj) : Rd (w.alloc o) R s b l:=⟨(Below.heap_alloc w o R h.lt).trans h.row,h.suf,h.small,h.gl.alloc o,h.hi⟩
theorem Rd.drewN (h : Rd w R s b l) (n : Nat) : Rd (w.drewN n) R s b l:=⟨h.row,h.suf,h.small,h.gl.of rfl rfl,h.hi⟩
theorem Rd.below {B : Nat} (h : Rd w R s b l) (hb : Below B w w') (hR : R < B) : Rd w' R s b l:=⟨(hb.block R hR).trans h.row,h.suf,h.small,h.gl.of (hb.block _ (Nat.lt_trans h.hi.1 hR)) (hb.block _ (Nat.lt_trans h.hi.2 hR)),h.hi⟩
end
theorem suf_facts {s l : Bs} (h : l <:+ s) : (ByteArray.mk s.toArray).size = s.length ∧ (ByteArray.mk s.toArray).extract (s.length - l.length) s.length = ⟨l.toArray⟩ ∧ s.length - l.length + l.length = s.length:=by
 obtain ⟨p,rfl⟩:=h
 refine ⟨rfl,?_,by simp⟩
 have e : (p ++ l).length - l.length = p.length:=by simp
 rw [e]
 apply ByteArray.ext;apply Array.toList_inj.1;simp
theorem suf_get {s l : Bs} {c : UInt8} (h : (c :: l) <:+ s) : ∀ hlt,(ByteArray.mk s.toArray)[s.length - (c :: l).length]'hlt = c:=by
 obtain ⟨p,rfl⟩:=h
 intro hlt
 show (p ++ c :: l).toArray[(p ++ c :: l).length - (c :: l).length] = c
 simp
theorem tail_suf (c : UInt8) (l : Bs) : l <:+ c :: l:=List.suffix_cons c l
theorem drop_suf (n : Nat) (l : Bs) : l.drop n <:+ l:=List.drop_suffix n l
theorem spanR_suf (S : Bs) : ∀ l,spanR S l <:+ l
 | [] => List.suffix_refl _
 | c :: l => by
  unfold spanR
  split
  ·exact (spanR_suf S l).trans (tail_suf c l)
  ·exact List.suffix_refl _
theorem spanN_suf (S : Bs) : ∀ l,spanN S l <:+ l
 | [] => List.suffix_refl _
 | c :: l => by
  unfold spanN
  split
  ·exact List.suffix_refl _
  ·exact (spanN_suf S l).trans (tail_suf c l)
theorem optT_suf (p l : Bs) : optT p l <:+ l:=by
 unfold optT;split
 ·exact drop_suf _ _
 ·exact List.suffix_refl _
theorem optO_suf (p l : Bs) : optO p l <:+ l:=by
 unfold optO;split
 ·exact drop_suf _ _
 ·exact List.suffix_refl _
theorem index_ge0 (S : Bs) (c : UInt8) : decide (0 ≤ Lib.indexByte S c) = S.contains c:=by
 induction S with
 | nil => rfl
 | cons d S ih =>
  show decide (0 ≤ (if d == c then (0 : Int) else if Lib.indexByte S c == -1 then -1 else Lib.indexByte S c + 1)) = _
  by_cases h : d = c
  ·subst h;simp
  ·rw [if_neg (by simpa using h)]
   have e : (d :: S).contains c = S.contains c:=by
    rw [List.contains_cons]
    have : (c == d) = false:=by rw [beq_eq_false_iff_ne];exact fun e => h e.symm
    rw [this];rfl
   rw [e,← ih]
   by_cases h2 : Lib.indexByte S c = -1
   ·rw [if_pos (by simpa using h2),h2]
   ·rw [if_neg (by simpa using h2)]
    have:=Lib.indexByte_ge S c
    rw [decide_eq_true (by omega),decide_eq_true (by omega)]
theorem size_of (l : Bs) : (ByteArray.mk l.toArray).size = l.length:=rfl
abbrev Dies (b : Nat) (e : Int) : Ending:=.panicked [{ v:=.iface 78 (.agg #[.int .i64 (b : Int),.int .i64 e]),recovered:=false }]
end
section
open Go
inductive CT where
 | lf (v : Value)
 | rw (E sz n : Nat) (ys : List CT)
abbrev Rs (α : Type):=Except (Nat × Int) (α × List Tok)
def Rs.go {α β : Type} (r : Rs α) (f : α → List Tok → Rs β) : Rs β:=match r with
 | .error p => .error p
 | .ok p => f p.1 p.2
theorem go_error {α β : Type} (p : Nat × Int) (f : α → List Tok → Rs β) : Rs.go (.error p) f = .error p:=rfl
theorem go_ok {α β : Type} (a : α) (l : List Tok) (f : α → List Tok → Rs β) : Rs.go (.ok (a,l)) f = f a l:=rfl
theorem go_ok_inv {α β : Type} {r : Rs α} {f : α → List Tok → Rs β} {b : β} {m : List Tok} (h : Rs.go r f = .ok (b,m)) : ∃ a l,r = .ok (a,l) ∧ f a l = .ok (b,m):=by
 cases r with
 | error p => cases h
 | ok p => exact ⟨p.1,p.2,rfl,h⟩
def isP (s : Bs) : List Tok → Bool
 | [] => false
 | t :: _ => t.k == 0 && t.t == s
def isW (s : Bs) : List Tok → Bool
 | [] => false
 | t :: _ => t.k == 1 && t.t == s
def isK (k : Int) : List Tok → Bool
 | [] => false
 | t :: _ => t.k == k
def atT : List Tok → Nat
 | [] => 0
 | t :: _ => t.b
def txT : List Tok → Bs
 | [] => []
 | t :: _ => t.t
def nameS (l : List Tok) : Rs Bs:=if isK 1 l then .ok (txT l,l.tail) else .error (atT l,60)
def mustS (s : Bs) (l : List Tok) : Rs Unit:=if isP s l then .ok ((),l.tail) else .error (atT l,60)
def varS (l : List Tok) : Rs Bs:=(mustS [36] l).go fun _ l1 => nameS l1
def anyF {α : Type} (f : List Tok → Rs α) (last : Bs) : Nat → List Tok → Rs (List α)
 | 0,_ => .error (0,0)
 | k + 1,l => if isP last l then .ok ([],l.tail) else (f l).go fun a l1 => (anyF f last k l1).go fun b l2 => .ok (a :: b,l2)
def anyS {α : Type} (f : List Tok → Rs α) (last : Bs) (l : List Tok) : Rs (List α):=anyF f last (l.length + 1) l
def someS {α : Type} (f : List Tok → Rs α) (last : Bs) (l : List Tok) : Rs (List α):=(f l).go fun a l1 => (anyS f last l1).go fun b l2 => .ok (a :: b,l2)
def ledF {α : Type} (f : List Tok → Rs α) (first : Bs) : Nat → List Tok → Rs (List α)
 | 0,_ => .error (0,0)
 | k + 1,l => if isP first l then (f l.tail).go fun a l1 => (ledF f first k l1).go fun b l2 => .ok (a :: b,l2) else .ok ([],l)
def ledS {α : Type} (f : List Tok → Rs α) (first : Bs) (l : List Tok) : Rs (List α):=ledF f first (l.length + 1) l
abbrev iC (n : Int) : CT:=.lf (.int .i64 n)
abbrev sC (t : Bs) : CT:=.lf (.string ⟨t.toArray⟩)
abbrev bC (b : Bool) : CT:=.lf (.bool b)
abbrev rowC (E sz : Nat) (els : List (List CT)) : CT:=.rw E sz els.length els.flatten
abbrev valC (k : Int) (t : Bs) (vs ns : List (List CT)) : List CT:=[iC k,sC t,rowC 70 4 vs,rowC 9 1 ns]
def namedC (t : Bs) : List CT:=if t = [110,117,108,108] then valC 0 [] [] [] else if t = [102,97,108,115,101] then valC 1 [] [] [] else if t = [116,114,117,101] then valC 2 [] [] [] else valC 7 t [] []
def memS (f : List Tok → Rs (List CT)) (l : List Tok) : Rs (Bs × List CT):=(nameS l).go fun t l1 => (mustS [58] l1).go fun _ l2 => (f l2).go fun v l3 => .ok ((t,v),l3)
def listS (inner : Option (List Tok → Rs (List CT))) (l : List Tok) : Rs (List CT):=match inner with
 | none => .error (atT l,61)
 | some f => (anyS f [93] l.tail).go fun vs l1 => .ok (valC 8 [] vs [],l1)
def objS (inner : Option (List Tok → Rs (List CT))) (l : List Tok) : Rs (List CT):=match inner with
 | none => .error (atT l,61)
 | some f => (anyS (memS f) [125] l.tail).go fun ms l1 => .ok (valC 9 [] (ms.map (·.2)) (ms.map fun m => [sC m.1]),l1)
def signS (fx : Bool) (inner : Option (List Tok → Rs (List CT))) (l : List Tok) : Rs (List CT) :=
 if isP [91] l then listS inner l else if isP [123] l then objS inner l else if fx then .error (atT l,60) else (varS l).go fun t l1 => .ok (valC 3 t [] [],l1)
def valG (fx : Bool) (inner : Option (List Tok → Rs (List CT))) (l : List Tok) : Rs (List CT) :=
 if isK 1 l then .ok (namedC (txT l),l.tail) else if isK 2 l then .ok (valC 4 (txT l) [] [],l.tail) else if isK 3 l then .ok (valC 5 (txT l) [] [],l.tail) else if isK 4 l then .ok (valC 6 (txT l) [] [],l.tail) else signS fx inner l
def valF (fx : Bool) : Nat → List Tok → Rs (List CT)
 | 0 => valG fx none
 | n + 1 => valG fx (some (valF fx n))
def inF (fx : Bool) : Nat → Option (List Tok → Rs (List CT))
 | 0 => none
 | n + 1 => some (valF fx n)
theorem valF_eq (fx : Bool) (n : Nat) : valF fx n = valG fx (inF fx n):=by cases n <;> rfl
def argS (fx : Bool) (l : List Tok) : Rs (List CT):=(memS (valF fx 32) l).go fun m l1 => .ok (sC m.1 :: m.2,l1)
def argsS (fx : Bool) (l : List Tok) : Rs (List (List CT)):=if isP [40] l then someS (argS fx) [41] l.tail else .ok ([],l)
def dirS (fx : Bool) (l : List Tok) : Rs (List CT):=(nameS l).go fun t l1 => (argsS fx l1).go fun a l2 => .ok ([sC t,rowC 121 5 a],l2)
def dirsS (fx : Bool) (l : List Tok) : Rs (List (List CT)):=ledS (dirS fx) [64] l
def refB (x : Bs × Bs) (l : List Tok) : Rs (Bs × Bs):=if isP [33] l then .ok ((x.1,x.2 ++ [33]),l.tail) else .ok (x,l)
def refG (inner : Option (List Tok → Rs (Bs × Bs))) (l : List Tok) : Rs (Bs × Bs) :=
 (if isP [91] l then (match inner with
  | none => .error (atT l,61)
  | some f => (f l.tail).go fun x l1 => (mustS [93] l1).go fun _ l2 => .ok ((x.1,x.2 ++ [91]),l2)) else (nameS l).go fun t l1 => .ok ((t,[]),l1)).go refB
def refF : Nat → List Tok → Rs (Bs × Bs)
 | 0 => refG none
 | n + 1 => refG (some (refF n))
def defS (l : List Tok) : Rs (Bool × List CT):=if isP [61] l then (valF true 32 l.tail).go fun v l1 => .ok ((true,v),l1) else .ok ((false,valC 0 [] [] []),l)
def varDefS (l : List Tok) : Rs (List CT):=(varS l).go fun t l1 => (mustS [58] l1).go fun _ l2 => (refF 32 l2).go fun x l3 => (defS l3).go fun d l4 => (dirsS true l4).go fun ds l5 =>
 .ok ([sC t,sC x.1,sC x.2,bC d.1] ++ d.2 ++ [rowC 97 2 ds],l5)
def varsS (l : List Tok) : Rs (List (List CT)):=if isP [40] l then someS varDefS [41] l.tail else .ok ([],l)
abbrev selC (k : Int) (a n o : Bs) (as_ ds ss : List (List CT)) : List CT:=[iC k,sC a,sC n,sC o,rowC 121 5 as_,rowC 97 2 ds,rowC 65 7 ss]
abbrev onB : Bs:=[111,110]
def nickS (l : List Tok) : Rs (Bs × Bs):=(nameS l).go fun t l1 => if isP [58] l1 then (nameS l1.tail).go fun u l2 => .ok ((t,u),l2) else .ok (([],t),l1)
def withS (st : List Tok → Rs (List (List CT))) (l : List Tok) : Rs (List (List CT)):=if isP [123] l then st l else .ok ([],l)
def fieldS (st : List Tok → Rs (List (List CT))) (l : List Tok) : Rs (List CT):=(nickS l).go fun p l2 => (argsS false l2).go fun a l3 => (dirsS false l3).go fun ds l4 => (withS st l4).go fun ss l5 => .ok (selC 0 p.1 p.2 [] a ds ss,l5)
def spreadS (l : List Tok) : Rs (List CT):=(nameS l).go fun t l1 => (dirsS false l1).go fun ds l2 => .ok (selC 1 [] t [] [] ds [],l2)
def onS (l : List Tok) : Rs Bs:=if isW onB l then nameS l.tail else .ok ([],l)
def inlineS (st : List Tok → Rs (List (List CT))) (l : List Tok) : Rs (List CT):=(onS l).go fun t l1 => (dirsS false l1).go fun ds l2 => (st l2).go fun ss l3 => .ok (selC 2 [] [] t [] ds ss,l3)
def selS (st : List Tok → Rs (List (List CT))) (l : List Tok) : Rs (List CT):=if isP [46,46,46] l then (if isK 1 l.tail && !isW onB l.tail then spreadS l.tail else inlineS st l.tail) else fieldS st l
def setG (inner : Option (List Tok → Rs (List (List CT)))) (l : List Tok) : Rs (List (List CT)):=if isP [123] l then (match inner with
 | none => .error (atT l,61)
 | some st => someS (selS st) [125] l.tail) else .error (atT l,60)
def setF : Nat → List Tok → Rs (List (List CT))
 | 0 => setG none
 | n + 1 => setG (some (setF n))
abbrev opC (k : Int) (t : Bs) (vs ds ss : List (List CT)) : List CT:=[iC k,sC t,rowC 72 9 vs,rowC 97 2 ds,rowC 65 7 ss]
abbrev fragC (t u : Bs) (ds ss : List (List CT)) : List CT:=[sC t,sC u,rowC 97 2 ds,rowC 65 7 ss]
def kindS (l : List Tok) : Rs Int:=if isW [113,117,101,114,121] l then .ok (0,l.tail) else if isW [109,117,116,97,116,105,111,110] l then .ok (1,l.tail) else if isW [115,117,98,115,99,114,105,112,116,105,111,110] l then .ok (2,l.tail) else .error (atT l,60)
def titleS (l : List Tok) : Rs Bs:=if isK 1 l then nameS l else .ok ([],l)
def opS (l : List Tok) : Rs (List CT):=if isP [123] l then (setF 32 l).go fun ss l1 => .ok (opC 0 [] [] [] ss,l1) else
 (kindS l).go fun k l1 => (titleS l1).go fun t l2 => (varsS l2).go fun vs l3 => (dirsS false l3).go fun ds l4 => (setF 32 l4).go fun ss l5 => .ok (opC k t vs ds ss,l5)
def mustW (s : Bs) (l : List Tok) : Rs Unit:=if isW s l then .ok ((),l.tail) else .error (atT l,60)
def notOn (l : List Tok) : Rs Unit:=if isW onB l then .error (atT l,60) else .ok ((),l)
def fragS (l : List Tok) : Rs (List CT):=(notOn l).go fun _ l0 => (nameS l0).go fun t l1 => (mustW onB l1).go fun _ l2 => (nameS l2).go fun u l3 => (dirsS false l3).go fun ds l4 => (setF 32 l4).go fun ss l5 => .ok (fragC t u ds ss,l5)
def fragB : Bs:=[102,114,97,103,109,101,110,116]
def itemS (l : List Tok) : Rs (Bool × List CT):=if isW fragB l then (fragS l.tail).go fun x l1 => .ok ((true,x),l1) else (opS l).go fun x l1 => .ok ((false,x),l1)
def opsOf (xs : List (Bool × List CT)) : List (List CT):=(xs.filter fun x => !x.1).map (·.2)
def fragsOf (xs : List (Bool × List CT)) : List (List CT):=(xs.filter fun x => x.1).map (·.2)
abbrev docC (xs : List (Bool × List CT)) : List CT:=[rowC 61 5 (opsOf xs),rowC 57 4 (fragsOf xs)]
def docS (l : List Tok) : Rs (List CT):=(someS itemS [] l).go fun xs l1 => .ok (docC xs,l1)
abbrev eofT (N : Nat) : Tok:=⟨0,[],N,0⟩
def parseS (s : Bs) : Except (Nat × Int) (List CT):=match lexS s with
 | .inl p => .error p
 | .inr ts => match docS (ts ++ [eofT s.length]) with
  | .error p => .error p
  | .ok p => .ok p.1
def Eats {α : Type} (f : List Tok → Rs α) : Prop:=∀ l a m,f l = .ok (a,m) → m.length < l.length
def Keeps {α : Type} (f : List Tok → Rs α) : Prop:=∀ l a m,f l = .ok (a,m) → m.length ≤ l.length
theorem Eats.keeps {α : Type} {f : List Tok → Rs α} (h : Eats f) : Keeps f:=fun l a m e => Nat.le_of_lt (h l a m e)
theorem isP_pos {s : Bs} {l : List Tok} (h : isP s l = true) : 0 < l.length:=by cases l <;> simp_all [isP]
theorem isK_pos {k : Int} {l : List Tok} (h : isK k l = true) : 0 < l.length:=by cases l <;> simp_all [isK]
theorem isW_pos {s : Bs} {l : List Tok} (h : isW s l = true) : 0 < l.length:=by cases l <;> simp_all [isW]
theorem nameS_eats : Eats nameS:=by
 intro l a m h
 unfold nameS at h
 split at h
 ·rename_i hk
  have:=isK_pos hk
  cases h
  simp;omega
 ·cases h
theorem mustS_eats (s : Bs) : Eats (mustS s):=by
 intro l a m h
 unfold mustS at h
 split at h
 ·rename_i hk
  have:=isP_pos hk
  cases h
  simp;omega
 ·cases h
theorem mustW_eats (s : Bs) : Eats (mustW s):=by
 intro l a m h
 unfold mustW at h
 split at h
 ·rename_i hk
  have:=isW_pos hk
  cases h
  simp;omega
 ·cases h
theorem Eats.go {α β : Type} {f : List Tok → Rs α} {g : α → List Tok → Rs β} (hf : Eats f) (hg : ∀ a,Keeps (g a)) : Eats (fun l => (f l).go g):=by
 intro l b m h
 obtain ⟨a,l1,h1,h2⟩:=go_ok_inv h
 have:=hf _ _ _ h1
 have:=hg a _ _ _ h2
 omega
theorem Keeps.go {α β : Type} {f : List Tok → Rs α} {g : α → List Tok → Rs β} (hf : Keeps f) (hg : ∀ a,Keeps (g a)) : Keeps (fun l => (f l).go g):=by
 intro l b m h
 obtain ⟨a,l1,h1,h2⟩:=go_ok_inv h
 have:=hf _ _ _ h1
 have:=hg a _ _ _ h2
 omega
theorem keeps_ok {α : Type} (a : α) : Keeps (fun l => (.ok (a,l) : Rs α)):=by
 intro l b m h;cases h;exact Nat.le_refl _
theorem Keeps.go_eats {α β : Type} {f : List Tok → Rs α} {g : α → List Tok → Rs β} (hf : Keeps f) (hg : ∀ a,Eats (g a)) : Eats (fun l => (f l).go g):=by
 intro l b m h
 obtain ⟨a,l1,h1,h2⟩:=go_ok_inv h
 have:=hf _ _ _ h1
 have:=hg a _ _ _ h2
 omega
theorem varS_eats : Eats varS:=(mustS_eats _).go fun _ => nameS_eats.keeps
theorem anyF_keeps {α : Type} {f : List Tok → Rs α} (hf : Eats f) (last : Bs) : ∀ k,Eats (anyF f last k)
 | 0 => fun l a m h => by cases h
 | k + 1 => by
  intro l a m h
  unfold anyF at h
  split at h
  ·rename_i hk
   have:=isP_pos hk
   cases h
   simp;omega
  ·obtain ⟨b,l1,h1,h2⟩:=go_ok_inv h
   obtain ⟨c,l2,h3,h4⟩:=go_ok_inv h2
   cases h4
   have:=hf _ _ _ h1
   have:=anyF_keeps hf last k _ _ _ h3
   omega
theorem anyS_eats {α : Type} {f : List Tok → Rs α} (hf : Eats f) (last : Bs) : Eats (anyS f last):=fun l a m h => anyF_keeps hf last _ l a m h
theorem someS_eats {α : Type} {f : List Tok → Rs α} (hf : Eats f) (last : Bs) : Eats (someS f last):=hf.go fun _ => ((anyS_eats hf last).keeps).go fun _ => keeps_ok _
theorem ledF_keeps {α : Type} {f : List Tok → Rs α} (hf : Keeps f) (first : Bs) : ∀ k,Keeps (ledF f first k)
 | 0 => fun l a m h => by cases h
 | k + 1 => by
  intro l a m h
  unfold ledF at h
  split at h
  ·rename_i hk
   have:=isP_pos hk
   obtain ⟨b,l1,h1,h2⟩:=go_ok_inv h
   obtain ⟨c,l2,h3,h4⟩:=go_ok_inv h2
   cases h4
   have:=hf _ _ _ h1
   have:=ledF_keeps hf first k _ _ _ h3
   simp at *;omega
  ·cases h;exact Nat.le_refl _
theorem ledS_keeps {α : Type} {f : List Tok → Rs α} (hf : Keeps f) (first : Bs) : Keeps (ledS f first):=fun l a m h => ledF_keeps hf first _ l a m h
theorem memS_eats {f : List Tok → Rs (List CT)} (hf : Keeps f) : Eats (memS f):=nameS_eats.go fun _ => (mustS_eats _).keeps.go fun _ => hf.go fun _ => keeps_ok _
theorem eats_tail {α : Type} {c : List Tok → Bool} (hc : ∀ l,c l = true → 0 < l.length) {f g : List Tok → Rs α} (hf : Keeps f) (hg : Eats g) : Eats (fun l => if c l then f l.tail else g l):=by
 intro l a m h
 simp only at h
 split at h
 ·rename_i hk
  have:=hc l hk
  have:=hf _ _ _ h
  simp at this;omega
 ·exact hg _ _ _ h
theorem keeps_tail {α : Type} {c : List Tok → Bool} {f g : List Tok → Rs α} (hf : Keeps f) (hg : Keeps g) : Keeps (fun l => if c l then f l.tail else g l):=by
 intro l a m h
 simp only at h
 split at h
 ·have:=hf _ _ _ h
  simp at this;omega
 ·exact hg _ _ _ h
theorem eats_if {α : Type} {c : List Tok → Bool} {f g : List Tok → Rs α} (hf : Eats f) (hg : Eats g) : Eats (fun l => if c l then f l else g l):=by
 intro l a m h
 simp only at h
 split at h
 ·exact hf _ _ _ h
 ·exact hg _ _ _ h
theorem eats_err {α : Type} (g : List Tok → Nat × Int) : Eats (fun l => (.error (g l) : Rs α)):=fun l a m h => by cases h
theorem eats_ok {α : Type} (c : List Tok → Bool) (hc : ∀ l,c l = true → 0 < l.length) (x : List Tok → α) {g : List Tok → Rs α} (hg : Eats g) : Eats (fun l => if c l then .ok (x l,l.tail) else g l):=by
 intro l a m h
 simp only at h
 split at h
 ·rename_i hk
  have:=hc l hk
  cases h
  simp;omega
 ·exact hg _ _ _ h
theorem listS_eats {inner : Option (List Tok → Rs (List CT))} (hi : ∀ f,inner = some f → Eats f) : Eats (listS inner):=by
 cases inner with
 | none => exact eats_err _
 | some f =>
  intro l a m h
  unfold listS at h
  obtain ⟨b,l1,h1,h2⟩:=go_ok_inv h
  cases h2
  have:=anyS_eats (hi f rfl) _ _ _ _ h1
  simp at this;omega
theorem objS_eats {inner : Option (List Tok → Rs (List CT))} (hi : ∀ f,inner = some f → Eats f) : Eats (objS inner):=by
 cases inner with
 | none => exact eats_err _
 | some f =>
  intro l a m h
  unfold objS at h
  obtain ⟨b,l1,h1,h2⟩:=go_ok_inv h
  cases h2
  have:=anyS_eats (memS_eats (hi f rfl).keeps) _ _ _ _ h1
  simp at this;omega
theorem signS_eats (fx : Bool) {inner : Option (List Tok → Rs (List CT))} (hi : ∀ f,inner = some f → Eats f) : Eats (signS fx inner) :=
 eats_if (listS_eats hi) (eats_if (objS_eats hi) (eats_if (c:=fun _ => fx) (eats_err _) (varS_eats.go fun _ => keeps_ok _)))
theorem valG_eats (fx : Bool) {inner : Option (List Tok → Rs (List CT))} (hi : ∀ f,inner = some f → Eats f) : Eats (valG fx inner) :=
 eats_ok (isK 1) (fun _ => isK_pos) _ (eats_ok (isK 2) (fun _ => isK_pos) _ (eats_ok (isK 3) (fun _ => isK_pos) _ (eats_ok (isK 4) (fun _ => isK_pos) _ (signS_eats fx hi))))
theorem valF_eats (fx : Bool) : ∀ n,Eats (valF fx n)
 | 0 => valG_eats fx (fun f h => by cases h)
 | n + 1 => valG_eats fx (fun f h => by cases h;exact valF_eats fx n)
theorem argS_eats (fx : Bool) : Eats (argS fx):=(memS_eats (valF_eats fx 32).keeps).go fun _ => keeps_ok _
theorem argsS_keeps (fx : Bool) : Keeps (argsS fx):=keeps_tail (someS_eats (argS_eats fx) _).keeps (keeps_ok _)
theorem dirS_eats (fx : Bool) : Eats (dirS fx):=nameS_eats.go fun _ => (argsS_keeps fx).go fun _ => keeps_ok _
theorem dirsS_keeps (fx : Bool) : Keeps (dirsS fx):=ledS_keeps (dirS_eats fx).keeps _
theorem refB_keeps (x : Bs × Bs) : Keeps (refB x):=keeps_tail (c:=isP [33]) (keeps_ok _) (keeps_ok _)
theorem refG_eats {inner : Option (List Tok → Rs (Bs × Bs))} (hi : ∀ f,inner = some f → Eats f) : Eats (refG inner):=by
 refine Eats.go (f:=fun l => if isP [91] l then (match inner with
  | none => .error (atT l,61)
  | some f => (f l.tail).go fun x l1 => (mustS [93] l1).go fun _ l2 => .ok ((x.1,x.2 ++ [91]),l2)) else (nameS l).go fun t l1 => .ok ((t,[]),l1)) (eats_if ?_ (nameS_eats.go fun _ => keeps_ok _)) refB_keeps
 cases inner with
 | none => exact eats_err _
 | some f =>
  intro l a m h
  obtain ⟨b,l1,h1,h2⟩:=go_ok_inv h
  obtain ⟨c,l2,h3,h4⟩:=go_ok_inv h2
  cases h4
  have:=hi f rfl _ _ _ h1
  have:=mustS_eats _ _ _ _ h3
  simp at *;omega
theorem refF_eats : ∀ n,Eats (refF n)
 | 0 => refG_eats (fun f h => by cases h)
 | n + 1 => refG_eats (fun f h => by cases h;exact refF_eats n)
theorem defS_keeps : Keeps defS:=keeps_tail (c:=isP [61]) ((valF_eats true 32).keeps.go fun _ => keeps_ok _) (keeps_ok _)
theorem varDefS_eats : Eats varDefS:=varS_eats.go fun _ => (mustS_eats _).keeps.go fun _ => (refF_eats 32).keeps.go fun _ => defS_keeps.go fun _ => (dirsS_keeps true).go fun _ => keeps_ok _
theorem varsS_keeps : Keeps varsS:=keeps_tail (someS_eats varDefS_eats _).keeps (keeps_ok _)
theorem nickS_eats : Eats nickS:=nameS_eats.go fun _ => keeps_tail (c:=isP [58]) (nameS_eats.keeps.go fun _ => keeps_ok _) (keeps_ok _)
theorem withS_keeps {st : List Tok → Rs (List (List CT))} (h : Keeps st) : Keeps (withS st):=by
 intro l a m e
 unfold withS at e
 split at e
 ·exact h _ _ _ e
 ·cases e;exact Nat.le_refl _
theorem fieldS_eats {st : List Tok → Rs (List (List CT))} (h : Keeps st) : Eats (fieldS st):=nickS_eats.go fun _ => (argsS_keeps false).go fun _ => (dirsS_keeps false).go fun _ => (withS_keeps h).go fun _ => keeps_ok _
theorem onS_keeps : Keeps onS:=keeps_tail (c:=isW onB) nameS_eats.keeps (keeps_ok _)
theorem spreadS_eats : Eats spreadS:=nameS_eats.go fun _ => (dirsS_keeps false).go fun _ => keeps_ok _
theorem inlineS_keeps {st : List Tok → Rs (List (List CT))} (h : Keeps st) : Keeps (inlineS st):=onS_keeps.go fun _ => (dirsS_keeps false).go fun _ => h.go fun _ => keeps_ok _
theorem selS_eats {st : List Tok → Rs (List (List CT))} (h : Keeps st) : Eats (selS st):=by
 refine eats_tail (c:=isP [46,46,46]) (fun _ => isP_pos) (f:=fun l => if isK 1 l && !isW onB l then spreadS l else inlineS st l) ?_ (fieldS_eats h)
 intro l a m e
 simp only at e
 split at e
 ·exact spreadS_eats.keeps _ _ _ e
 ·exact inlineS_keeps h _ _ _ e
theorem setG_eats {inner : Option (List Tok → Rs (List (List CT)))} (hi : ∀ f,inner = some f → Eats f) : Eats (setG inner):=by
 refine eats_if (c:=isP [123]) ?_ (eats_err _)
 cases inner with
 | none => exact eats_err _
 | some f =>
  intro l a m h
  have:=someS_eats (selS_eats (hi f rfl).keeps) _ _ _ _ h
  simp at this;omega
theorem setF_eats : ∀ n,Eats (setF n)
 | 0 => setG_eats (fun f h => by cases h)
 | n + 1 => setG_eats (fun f h => by cases h;exact setF_eats n)
theorem kindS_eats : Eats kindS:=eats_ok (isW _) (fun _ => isW_pos) (fun _ => 0) (eats_ok (isW _) (fun _ => isW_pos) (fun _ => 1) (eats_ok (isW _) (fun _ => isW_pos) (fun _ => 2) (eats_err _)))
theorem titleS_keeps : Keeps titleS:=by
 intro l a m e
 unfold titleS at e
 split at e
 ·exact nameS_eats.keeps _ _ _ e
 ·cases e;exact Nat.le_refl _
theorem opS_eats : Eats opS:=eats_if (c:=isP [123]) ((setF_eats 32).go fun _ => keeps_ok _) (kindS_eats.go fun _ => titleS_keeps.go fun _ => varsS_keeps.go fun _ => (dirsS_keeps false).go fun _ => (setF_eats 32).keeps.go fun _ => keeps_ok _)
theorem notOn_keeps : Keeps notOn:=by
 intro l a m e
 unfold notOn at e
 split at e
 ·cases e
 ·cases e;exact Nat.le_refl _
theorem fragS_eats : Eats fragS:=notOn_keeps.go_eats fun _ => nameS_eats.go fun _ => (mustW_eats _).keeps.go fun _ => nameS_eats.keeps.go fun _ => (dirsS_keeps false).go fun _ => (setF_eats 32).keeps.go fun _ => keeps_ok _
theorem itemS_eats : Eats itemS:=eats_tail (c:=isW fragB) (fun _ => isW_pos) (fragS_eats.keeps.go fun _ => keeps_ok _) (opS_eats.go fun _ => keeps_ok _)
theorem anyF_fuel {α : Type} {f : List Tok → Rs α} (hf : Eats f) (last : Bs) : ∀ (n m : Nat) (l : List Tok),l.length < n → l.length < m → anyF f last n l = anyF f last m l
 | 0,_,_,h,_ => absurd h (Nat.not_lt_zero _)
 | _ + 1,0,_,_,h => absurd h (Nat.not_lt_zero _)
 | n + 1,m + 1,l,hn,hm => by
  unfold anyF
  split
  ·rfl
  ·cases h : f l with
   | error p => rfl
   | ok p =>
    obtain ⟨a,l1⟩:=p
    have:=hf _ _ _ h
    simp only [go_ok]
    rw [anyF_fuel hf last n m l1 (by omega) (by omega)]
theorem anyS_eq {α : Type} {f : List Tok → Rs α} (hf : Eats f) (last : Bs) (l : List Tok) : anyS f last l = if isP last l then .ok ([],l.tail) else (f l).go fun a l1 => (anyS f last l1).go fun b l2 => .ok (a :: b,l2):=by
 unfold anyS
 conv => lhs;unfold anyF
 split
 ·rfl
 ·cases h : f l with
  | error p => rfl
  | ok p =>
   obtain ⟨a,l1⟩:=p
   have:=hf _ _ _ h
   simp only [go_ok]
   rw [anyF_fuel hf last l.length (l1.length + 1) l1 (by omega) (by omega)]
theorem ledF_fuel {α : Type} {f : List Tok → Rs α} (hf : Keeps f) (first : Bs) : ∀ (n m : Nat) (l : List Tok),l.length < n → l.length < m → ledF f first n l = ledF f first m l
 | 0,_,_,h,_ => absurd h (Nat.not_lt_zero _)
 | _ + 1,0,_,_,h => absurd h (Nat.not_lt_zero _)
 | n + 1,m + 1,l,hn,hm => by
  unfold ledF
  split
  ·rename_i hk
   have h0:=isP_pos hk
   cases h : f l.tail with
   | error p => rfl
   | ok p =>
    obtain ⟨a,l1⟩:=p
    have:=hf _ _ _ h
    simp only [go_ok]
    simp at this
    rw [ledF_fuel hf first n m l1 (by omega) (by omega)]
  ·rfl
theorem ledS_eq {α : Type} {f : List Tok → Rs α} (hf : Keeps f) (first : Bs) (l : List Tok) : ledS f first l = if isP first l then (f l.tail).go fun a l1 => (ledS f first l1).go fun b l2 => .ok (a :: b,l2) else .ok ([],l):=by
 unfold ledS
 conv => lhs;unfold ledF
 split
 ·rename_i hk
  have h0:=isP_pos hk
  cases h : f l.tail with
  | error p => rfl
  | ok p =>
   obtain ⟨a,l1⟩:=p
   have:=hf _ _ _ h
   simp only [go_ok]
   simp at this
   rw [ledF_fuel hf first l.length (l1.length + 1) l1 (by omega) (by omega)]
 ·rfl
end
end Go.Proofs.YtgppemlciohjcaaGreatDoor
