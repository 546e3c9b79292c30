/- Package runes' functions over eachStep: what each returns, as a plain walk over the steps; no memory that was there turns. -/
import GoSem.Core.Utf8
import Derived.Lib.DecodeN
import Derived.Laws.Strings
import Derived.Test.YtgmlbjfgfmfliaaGreatDoorRows
import Derived.WalkKit
import Derived.WalkSpells
import Derived.WalkLawsBesides
import Derived.Deep.QuietTactic
import Derived.Deep.Light
import Derived.BigQuiet
import Derived.Lib.OthersKept
import Derived.KernelRfl
namespace Go.Proofs.YtgmlbjfgfmfliaaGreatDoor
open Go.Lib
/-- The character of the step that begins at a place, or -1; how many bytes the step has. -/
def stC (s : ByteArray) (p : Nat) : Int:=if Utf8.decode s p = (65533,1) then -1 else ((Utf8.decode s p).1 : Int)
def stW (s : ByteArray) (p : Nat) : Nat:=(Utf8.decode s p).2
/-- How many bytes a character has (utf8.RuneLen). -/
def runeLen (r : Int) : Int:=if r < 0 then -1 else if r ≤ 127 then 1 else if r ≤ 2047 then 2 else if 55296 ≤ r ∧ r ≤ 57343 then -1 else if r ≤ 65535 then 3 else if r ≤ 1114111 then 4 else -1
def validB (r : Int) : Bool:=decide ((0 ≤ r ∧ r < 55296) ∨ (57343 < r ∧ r ≤ 1114111))
def charB (c : Int) : Bool:=decide (0 ≤ c) && decide (c ≤ 1114111) && validB c
theorem byte_lt (b : UInt8) : b.toNat < 256:=b.toNat_lt
set_option maxRecDepth 100000 in
set_option maxHeartbeats 2000000 in
theorem decN_w (n b0 b1 b2 b3 : Nat) (hn : 1 ≤ n) : 1 ≤ (decodeN n b0 b1 b2 b3).2 ∧ (decodeN n b0 b1 b2 b3).2 ≤ 4 ∧ (decodeN n b0 b1 b2 b3).2 ≤ n:=by
 unfold decodeN
 repeat' split
 all_goals (dsimp only;omega)
theorem len_of (c k : Nat) (h : (c < 128 ∧ k = 1) ∨ (128 ≤ c ∧ c < 2048 ∧ k = 2) ∨ (2048 ≤ c ∧ c < 65536 ∧ (c < 55296 ∨ 57344 ≤ c) ∧ k = 3) ∨ (65536 ≤ c ∧ c ≤ 1114111 ∧ k = 4)) :
  runeLen (c : Int) = (k : Int) ∧ charB (c : Int) = true:=by
 unfold runeLen charB validB
 simp only [Bool.and_eq_true,decide_eq_true_eq]
 refine ⟨?_,by omega⟩
 repeat' split
 all_goals omega
set_option maxRecDepth 100000 in
set_option maxHeartbeats 2000000 in
theorem decN_shape (n b0 b1 b2 b3 : Nat) (h0 : b0 < 256) :
  decodeN n b0 b1 b2 b3 = (65533,1) ∨ (((decodeN n b0 b1 b2 b3).1 < 128 ∧ (decodeN n b0 b1 b2 b3).2 = 1) ∨ (128 ≤ (decodeN n b0 b1 b2 b3).1 ∧ (decodeN n b0 b1 b2 b3).1 < 2048 ∧ (decodeN n b0 b1 b2 b3).2 = 2) ∨ (2048 ≤ (decodeN n b0 b1 b2 b3).1 ∧ (decodeN n b0 b1 b2 b3).1 < 65536 ∧ ((decodeN n b0 b1 b2 b3).1 < 55296 ∨ 57344 ≤ (decodeN n b0 b1 b2 b3).1) ∧ (decodeN n b0 b1 b2 b3).2 = 3) ∨ (65536 ≤ (decodeN n b0 b1 b2 b3).1 ∧ (decodeN n b0 b1 b2 b3).1 ≤ 1114111 ∧ (decodeN n b0 b1 b2 b3).2 = 4)):=by
 unfold decodeN
 repeat' split
 all_goals first | exact Or.inl rfl | (right;dsimp only;omega)
theorem decN_len (n b0 b1 b2 b3 : Nat) (h0 : b0 < 256) :
  decodeN n b0 b1 b2 b3 = (65533,1) ∨ (runeLen (decodeN n b0 b1 b2 b3).1 = (decodeN n b0 b1 b2 b3).2 ∧ charB (decodeN n b0 b1 b2 b3).1 = true) :=
 (decN_shape n b0 b1 b2 b3 h0).imp id (len_of _ _)
set_option maxRecDepth 100000 in
set_option maxHeartbeats 2000000 in
/-- The character 65533 itself: its three bytes. -/
theorem decN_fffd (n b0 b1 b2 b3 : Nat) (h0 : b0 < 256) (h1 : b1 < 256) (h2 : b2 < 256) :
  ((decodeN n b0 b1 b2 b3).1 = 65533 → (decodeN n b0 b1 b2 b3).2 = 3 → 3 ≤ n ∧ b0 = 239 ∧ b1 = 191 ∧ b2 = 189) ∧ ((3 ≤ n ∧ b0 = 239 ∧ b1 = 191 ∧ b2 = 189) → decodeN n b0 b1 b2 b3 = (65533,3)) ∧ ((decodeN n b0 b1 b2 b3).1 = 65533 → (decodeN n b0 b1 b2 b3).2 = 1 ∨ (decodeN n b0 b1 b2 b3).2 = 3):=by
 refine ⟨?_,?_,?_⟩
 ·unfold decodeN
  repeat' split
  all_goals (dsimp only;intros;omega)
 ·rintro ⟨hn,rfl,rfl,rfl⟩
  unfold decodeN
  simp
  omega
 ·unfold decodeN
  repeat' split
  all_goals (dsimp only;intros;omega)
set_option maxRecDepth 100000 in
set_option maxHeartbeats 4000000 in
/-- More bytes behind a character leave it what it is. -/
theorem decN_ext (n m b0 b1 b2 b3 c1 c2 c3 : Nat) (hnm : n ≤ m) (e1 : 1 < n → b1 = c1) (e2 : 2 < n → b2 = c2) (e3 : 3 < n → b3 = c3) (h : decodeN n b0 b1 b2 b3 ≠ (65533,1)) :
  decodeN m b0 c1 c2 c3 = decodeN n b0 b1 b2 b3:=by
 revert h
 unfold decodeN
 by_cases g1 : 1 < n
 ·obtain rfl:=e1 g1
  by_cases g2 : 2 < n
  ·obtain rfl:=e2 g2
   by_cases g3 : 3 < n
   ·obtain rfl:=e3 g3
    repeat' split
    all_goals first | (intro _;rfl) | (intro h;exact absurd rfl h) | (exfalso;omega)
   ·repeat' split
    all_goals first | (intro _;rfl) | (intro h;exact absurd rfl h) | (exfalso;omega)
  ·repeat' split
   all_goals first | (intro _;rfl) | (intro h;exact absurd rfl h) | (exfalso;omega)
 ·repeat' split
  all_goals first | (intro _;rfl) | (intro h;exact absurd rfl h) | (exfalso;omega)
set_option maxRecDepth 100000 in
set_option maxHeartbeats 4000000 in
/-- What begins and ends ahead of a cut is the same behind the cut. -/
theorem decN_cut (n m b0 b1 b2 b3 c1 c2 c3 : Nat) (hm : (decodeN n b0 b1 b2 b3).2 ≤ m) (e1 : 1 < m → b1 = c1) (e2 : 2 < m → b2 = c2) (e3 : 3 < m → b3 = c3) (h : decodeN n b0 b1 b2 b3 ≠ (65533,1)) :
  decodeN m b0 c1 c2 c3 = decodeN n b0 b1 b2 b3:=by
 revert h hm
 by_cases g1 : 1 < m
 ·obtain rfl:=e1 g1
  by_cases g2 : 2 < m
  ·obtain rfl:=e2 g2
   by_cases g3 : 3 < m
   ·obtain rfl:=e3 g3
    unfold decodeN
    repeat' split
    all_goals first | (intro _ _;rfl) | (intro _ h;exact absurd rfl h) | (intro hm;dsimp only at hm;exfalso;omega)
   ·unfold decodeN
    repeat' split
    all_goals first | (intro _ _;rfl) | (intro _ h;exact absurd rfl h) | (intro hm;dsimp only at hm;exfalso;omega)
  ·unfold decodeN
   repeat' split
   all_goals first | (intro _ _;rfl) | (intro _ h;exact absurd rfl h) | (intro hm;dsimp only at hm;exfalso;omega)
 ·unfold decodeN
  repeat' split
  all_goals first | (intro _ _;rfl) | (intro _ h;exact absurd rfl h) | (intro hm;dsimp only at hm;exfalso;omega)
end Go.Proofs.YtgmlbjfgfmfliaaGreatDoor
namespace Go.Proofs.YtgmlbjfgfmfliaaGreatDoor
open Go.Lib
theorem get_bang (s : ByteArray) (q : Nat) (h : q < s.size) : s.get! q = s[q]:=by
 simp [ByteArray.get!,getElem!_pos,h]
 rfl
theorem get_out (s : ByteArray) (q : Nat) (h : ¬ q < s.size) : s.get! q = 0:=by
 have h' : s.data.size ≤ q:=by
   have : s.data.size = s.size:=rfl
   omega
 have h2 : ¬ q < s.data.size:=by omega
 show s.data[q]! = 0
 rw [getElem!_neg s.data q h2]
 rfl
theorem ext_get {a b : ByteArray} (hz : a.size = b.size) (h : ∀ i,i < a.size → a.get! i = b.get! i) : a = b:=by
 apply ByteArray.ext_getElem hz
 intro i h1 h2
 have:=h i h1
 rwa [get_bang _ _ h1,get_bang _ _ h2] at this
theorem toList_inj {a b : ByteArray} : a.toList = b.toList ↔ a = b:=by
 constructor
 ·intro h
  rw [ByteArray.toList_eq,ByteArray.toList_eq] at h
  exact ByteArray.ext (Array.toList_inj.1 h)
 ·rintro rfl;rfl
theorem size_cut (s : ByteArray) (a b : Nat) (hb : b ≤ s.size) : (s.extract a b).size = b - a:=by
 rw [ByteArray.size_extract,Nat.min_eq_left hb]
theorem get_cut (s : ByteArray) (a b i : Nat) (hb : b ≤ s.size) (hi : a + i < b) : (s.extract a b).get! i = s.get! (a + i):=by
 have hz:=size_cut s a b hb
 rw [get_bang _ _ (by omega),get_bang _ _ (by omega)]
 exact ByteArray.getElem_extract _
theorem get_app (s t : ByteArray) (i : Nat) (hi : i < s.size) : (s ++ t).get! i = s.get! i:=by
 rw [get_bang _ _ (by rw [ByteArray.size_append];omega),get_bang _ _ hi]
 exact ByteArray.getElem_append_left hi
theorem get_app2 (s t : ByteArray) (i : Nat) : (s ++ t).get! (s.size + i) = t.get! i:=by
 by_cases hi : i < t.size
 ·rw [get_bang _ _ (by rw [ByteArray.size_append];omega),get_bang _ _ hi]
  rw [ByteArray.getElem_append_right (by omega)]
  congr 1
  omega
 ·rw [get_out _ _ (by rw [ByteArray.size_append];omega),get_out _ _ hi]
theorem dec_w (s : ByteArray) (p : Nat) (h : p < s.size) : 1 ≤ stW s p ∧ stW s p ≤ 4 ∧ p + stW s p ≤ s.size:=by
 unfold stW
 rw [decode_at]
 have:=decN_w (s.size - p) (s.get! p).toNat (s.get! (p + 1)).toNat (s.get! (p + 2)).toNat (s.get! (p + 3)).toNat (by omega)
 omega
theorem dec_len (s : ByteArray) (p : Nat) : Utf8.decode s p = (65533,1) ∨ (runeLen (Utf8.decode s p).1 = (Utf8.decode s p).2 ∧ charB (Utf8.decode s p).1 = true):=by
 rw [decode_at]
 exact decN_len _ _ _ _ _ (byte_lt _)
theorem dec_bd (s : ByteArray) (p : Nat) : (Utf8.decode s p).1 ≤ 1114111:=by
 rcases dec_len s p with h | ⟨_,h⟩
 ·rw [h];decide
 ·unfold charB at h
  simp at h
  omega
/-- What stands behind a place, by itself. -/
theorem dec_drop (s : ByteArray) (p i : Nat) (hp : p ≤ s.size) : Utf8.decode (s.extract p s.size) i = Utf8.decode s (p + i):=by
 have hz:=size_cut s p s.size (Nat.le_refl _)
 have hg : ∀ j,(s.extract p s.size).get! j = s.get! (p + j):=by
  intro j
  by_cases hj : p + j < s.size
  ·exact get_cut s p s.size j (Nat.le_refl _) hj
  ·rw [get_out _ _ (by omega),get_out _ _ hj]
 rw [decode_at,decode_at,hg,hg,hg,hg,hz,Nat.add_assoc,Nat.add_assoc,Nat.add_assoc,Nat.sub_add_eq]
/-- A character ahead of a cut is there behind the cut, too. -/
theorem dec_take (s : ByteArray) (n p : Nat) (hn : n ≤ s.size) (hp : p < n) (hw : p + (Utf8.decode s p).2 ≤ n) (h : Utf8.decode s p ≠ (65533,1)) : Utf8.decode (s.extract 0 n) p = Utf8.decode s p:=by
 have hz:=size_cut s 0 n hn
 have hg : ∀ j,j < n → (s.extract 0 n).get! j = s.get! j:=by
  intro j hj
  have:=get_cut s 0 n j hn (by omega)
  simpa using this
 rw [decode_at] at h hw
 rw [decode_at,decode_at s,hg p hp]
 refine decN_cut _ _ _ _ _ _ _ _ _ (by omega) ?_ ?_ ?_ h
 all_goals (intro hj;rw [hg _ (by omega)])
/-- Whatever stands behind a character, it is the same. -/
theorem dec_app (s t : ByteArray) (p : Nat) (hp : p < s.size) (h : Utf8.decode s p ≠ (65533,1)) : Utf8.decode (s ++ t) p = Utf8.decode s p:=by
 rw [decode_at] at h
 rw [decode_at,decode_at s,get_app s t p hp]
 refine decN_ext _ _ _ _ _ _ _ _ _ (by rw [ByteArray.size_append];omega) ?_ ?_ ?_ h
 all_goals (intro hj;rw [get_app _ _ _ (by omega)])
/-- Behind a text's end stands what stands in what follows. -/
theorem dec_app2 (s t : ByteArray) (p : Nat) : Utf8.decode (s ++ t) (s.size + p) = Utf8.decode t p:=by
 rw [decode_at,decode_at t,Nat.add_assoc,Nat.add_assoc,Nat.add_assoc,get_app2,get_app2,get_app2,get_app2,ByteArray.size_append]
 congr 1
 omega
def hpB (s t : ByteArray) : Bool:=decide (t.size ≤ s.size) && ((s.extract 0 t.size).toList == t.toList)
/-- The bytes 239, 191, 189 tells the character 65533 from a byte that begins none. -/
theorem hp_fffd (s : ByteArray) (p : Nat) (hp : p < s.size) (h : (Utf8.decode s p).1 = 65533) : hpB (s.extract p s.size) ⟨#[239,191,189]⟩ = decide ((Utf8.decode s p).2 = 3):=by
 have hz:=size_cut s p s.size (Nat.le_refl _)
 have h3 : (⟨#[239,191,189]⟩ : ByteArray).size = 3:=rfl
 have key : hpB (s.extract p s.size) ⟨#[239,191,189]⟩ = true ↔ (3 ≤ s.size - p ∧ (s.get! p).toNat = 239 ∧ (s.get! (p + 1)).toNat = 191 ∧ (s.get! (p + 2)).toNat = 189):=by
  unfold hpB
  rw [h3,hz]
  by_cases hl : 3 ≤ s.size - p
  ·simp only [hl,decide_true,Bool.true_and,true_and]
   rw [beq_iff_eq,toList_inj]
   have hz3 : ((s.extract p s.size).extract 0 3).size = 3:=by rw [size_cut _ _ _ (by omega)]
   have hg : ∀ j,j < 3 → ((s.extract p s.size).extract 0 3).get! j = s.get! (p + j):=by
    intro j hj
    rw [get_cut _ _ _ _ (by omega) (by omega),Nat.zero_add,get_cut _ _ _ _ (Nat.le_refl _) (by omega)]
   constructor
   ·intro e
    have g0:=hg 0 (by omega)
    have g1:=hg 1 (by omega)
    have g2:=hg 2 (by omega)
    rw [e] at g0 g1 g2
    rw [Nat.add_zero] at g0
    exact ⟨by rw [← g0];rfl,by rw [← g1];rfl,by rw [← g2];rfl⟩
   ·rintro ⟨e0,e1,e2⟩
    refine ext_get (by rw [hz3];rfl) fun i hi => ?_
    rw [hz3] at hi
    rw [hg i hi]
    apply UInt8.toNat_inj.1
    match i,hi with
    | 0,_ => rw [Nat.add_zero,e0];rfl
    | 1,_ => rw [e1];rfl
    | 2,_ => rw [e2];rfl
  ·simp [hl]
 rw [decode_at] at h ⊢
 have hf:=decN_fffd (s.size - p) (s.get! p).toNat (s.get! (p + 1)).toNat (s.get! (p + 2)).toNat (s.get! (p + 3)).toNat (byte_lt _) (byte_lt _) (byte_lt _)
 rw [Bool.eq_iff_iff,key,decide_eq_true_eq]
 exact ⟨fun g => by rw [hf.2.1 g],fun g => hf.1 h g⟩
theorem dec_fffd (s : ByteArray) (p : Nat) (h : (Utf8.decode s p).1 = 65533) : (Utf8.decode s p).2 = 1 ∨ (Utf8.decode s p).2 = 3:=by
 rw [decode_at] at h ⊢
 exact (decN_fffd _ _ _ _ _ (byte_lt _) (byte_lt _) (byte_lt _)).2.2 h
theorem charB_bd {c : Int} (h : charB c = true) : 0 ≤ c ∧ c ≤ 1114111:=by
 unfold charB at h;simp at h;exact h.1
end Go.Proofs.YtgmlbjfgfmfliaaGreatDoor
namespace Go.Proofs.YtgmlbjfgfmfliaaGreatDoor
open Go.RowKit
theorem ret_int {k : IntKind} {a b : Int} (h : a = b) : Ending.returned (.int k a) = .returned (.int k b):=by rw [h]
theorem ret_bool {a b : Bool} (h : a = b) : Ending.returned (.bool a) = .returned (.bool b):=by rw [h]
set_option maxHeartbeats 400000 in
theorem runeLen_any (r : Int) (w : World) : Calls Tryz.prog 216 #[.int .i32 r] w fun e w' => e = .returned (.int .i64 (runeLen r)) ∧ w' = w:=by
 go_enter Tryz.func216,Tryz.ntmps216
 go_wp2
 all_goals (go_ret;refine ⟨ret_int ?_,rfl⟩;unfold runeLen;repeat (first | rfl | omega | split))
set_option maxHeartbeats 400000 in
theorem validRune_any (r : Int) (w : World) : Calls Tryz.prog 264 #[.int .i32 r] w fun e w' => e = .returned (.bool (validB r)) ∧ w' = w:=by
 go_enter Tryz.func264,Tryz.ntmps264
 go_wp2
 all_goals (go_ret;refine ⟨ret_bool ?_,rfl⟩;unfold validB;first | (symm;rw [decide_eq_true_eq];omega) | (symm;rw [decide_eq_false_iff_not];omega))
def sourceB (c : Int) : Bool:=c == 9 || c == 10 || c == 13 || (decide (32 ≤ c) && decide (c ≤ 65535))
set_option maxHeartbeats 400000 in
theorem isSource_any (c : Int) (w : World) : Calls Tryz.prog 204 #[.int .i64 c] w fun e w' => e = .returned (.bool (sourceB c)) ∧ w' = w:=by
 go_enter Tryz.func204,Tryz.ntmps204
 go_wp2
 all_goals (go_ret;refine ⟨ret_bool ?_,rfl⟩;go_light;unfold sourceB;simp_all <;> omega)
set_option maxHeartbeats 400000 in
theorem isCharacter_any (c : Int) (w : World) : Calls Tryz.prog 246 #[.int .i64 c] w fun e w' => e = .returned (.bool (charB c)) ∧ w' = w:=by
 go_enter Tryz.func246,Tryz.ntmps246
 go_wp2_with (go_at_call 264;refine (validRune_any _ _).mono ?_;rintro e w' ⟨rfl,rfl⟩)
 all_goals (go_ret;refine ⟨ret_bool ?_,rfl⟩;go_light;unfold charB;simp_all <;> omega)
set_option maxHeartbeats 400000 in
theorem hasPrefix_any (s t : ByteArray) (w : World) : Calls Tryz.prog 201 #[.string s,.string t] w fun e w' => e = .returned (.bool (hpB s t)) ∧ w' = w:=by
 go_enter Tryz.func201,Tryz.ntmps201
 go_wp2
 all_goals (go_ret;refine ⟨ret_bool ?_,rfl⟩;go_light;unfold hpB;simp_all <;> omega)
set_option maxHeartbeats 400000 in
theorem sHasPrefix_any (s t : ByteArray) (w : World) : Calls Tryz.prog 177 #[.string s,.string t] w fun e w' => e = .returned (.bool (hpB s t)) ∧ w' = w:=by
 go_enter Tryz.func177,Tryz.ntmps177
 go_wp2_with (go_at_call 201;refine (hasPrefix_any _ _ _).mono ?_;rintro e w' ⟨rfl,rfl⟩)
 go_ret
 exact ⟨rfl,rfl⟩
-- Put: a character's bytes,or error 10.
set_option maxHeartbeats 400000 in
theorem put_yes (c : Int) (w : World) (h : charB c = true) : Calls Tryz.prog 229 #[.int .i64 c] w fun e w' => e = .returned (.tuple #[.string (Utf8.encode c),.int .i64 0]) ∧ w' = w:=by
 obtain ⟨h1,h2⟩:=charB_bd h
 go_enter Tryz.func229,Tryz.ntmps229
 go_wp2_with (go_at_call 246;refine (isCharacter_any _ _).mono ?_;rintro e w' ⟨rfl,rfl⟩)
 go_ret2
 exact ⟨rfl,rfl⟩
set_option maxHeartbeats 400000 in
theorem put_no (c : Int) (w : World) (h : charB c = false) : Calls Tryz.prog 229 #[.int .i64 c] w fun e w' => e = .returned (.tuple #[.string ⟨#[]⟩,.int .i64 10]) ∧ w' = w:=by
 go_enter Tryz.func229,Tryz.ntmps229
 go_wp2_with (go_at_call 246;refine (isCharacter_any _ _).mono ?_;rintro e w' ⟨rfl,rfl⟩)
 go_ret2
 exact ⟨rfl,rfl⟩
/-- Does a line end behind the step that ends at q and says c? -/
def endsB (s : ByteArray) (c : Int) (q : Nat) : Bool:=if c = 13 then decide (q = s.size) || decide ((s.get! q).toNat ≠ 10) else decide (c = 10)
end Go.Proofs.YtgmlbjfgfmfliaaGreatDoor
namespace Go.Proofs.YtgmlbjfgfmfliaaGreatDoor
open Go.RowKit
/-- What eachStep itself does to memory: nothing below B turns, and no row of cells but those of the struct step. -/
structure Keep (B : Nat) (W W' : World) : Prop where
 below : Below B W W'
 cells : ∀ (k : Nat) c t fz,W.heap[k]? = some (Obj.cells c t fz) → t ≠ 204 → W'.heap[k]? = some (Obj.cells c t fz)
/-- Strings' iterators stand. -/
def Iters (W W' : World) : Prop:=∀ (k : Nat) (s : ByteArray) (pos : Nat),W.heap[k]? = some (.stringIter s pos) → W'.heap[k]? = some (.stringIter s pos)
def stV (s : ByteArray) (p : Nat) : Value:=.agg #[.int .i64 (stC s p),.int .i64 p,.int .i64 (p + stW s p : Nat)]
theorem Keep.refl (B : Nat) (W : World) : Keep B W W:=⟨Below.refl _ _,fun _ _ _ _ h _ => h⟩
theorem Keep.alloc {B : Nat} {W W' : World} (h : Keep B W W') (hB : B ≤ W'.heap.size) (o : Obj) : Keep B W (W'.alloc o) :=
 ⟨h.below.alloc hB o,fun k c t fz hk ht => by
  have h1:=h.cells k c t fz hk ht
  have hlt : k < W'.heap.size:=(Array.getElem?_eq_some_iff.1 h1).1
  exact (Lib.alloc_old W' o k hlt).trans h1⟩
theorem Keep.iterAt {B : Nat} {W W' : World} (h : Keep B W W') {k : Nat} {s : ByteArray} {pos : Nat} (hB : B ≤ k) (hk : W'.heap[k]? = some (.stringIter s pos)) (pos' : Nat) : Keep B W (W'.iterAt k s pos') :=
 ⟨Lib.below_iterAt h.below hB s pos',fun j c t fz hj ht => by
  have h1:=h.cells j c t fz hj ht
  have hjk : j ≠ k:=by
   intro e
   rw [e,hk] at h1
   cases h1
  exact (Lib.iterAt_other W' k j s pos' hjk).trans h1⟩
theorem Iters.refl (W : World) : Iters W W:=fun _ _ _ h => h
theorem Iters.alloc {W W' : World} (h : Iters W W') (o : Obj) : Iters W (W'.alloc o):=fun k s pos hk => by
 have h1:=h k s pos hk
 have hlt : k < W'.heap.size:=(Array.getElem?_eq_some_iff.1 h1).1
 exact (Lib.alloc_old W' o k hlt).trans h1
set_option maxHeartbeats 1000000 in
set_option maxRecDepth 100000 in
theorem each_any (K : Nat) (caps : Array Value) (s : ByteArray) (w : World) (hs : s.size ≤ 1125899906842624) (I : Nat → World → Prop) (Q : World → Prop)
  (hK : ∀ args W,Sem.run Tryz.prog (callFunc K args) W = .ok (.enter K args) W)
  (hst : ∀ p W W',I p W → Keep w.heap.size W W' → I p W') (h0 : I 0 w)
  (hcall : ∀ p W,p < s.size → I p W → Calls Tryz.prog K (#[stV s p] ++ caps) W fun e W' => ∃ b,e = .returned (.bool b) ∧ Iters W W' ∧ (b = true → I (p + stW s p) W') ∧ (b = false → Q W'))
  (hend : ∀ W,I s.size W → Q W) :
  Calls Tryz.prog 202 #[.string s,.func (.func K) #[] caps] w fun e w' => e = .returned (.tuple #[]) ∧ Q w':=by
 go_enter Tryz.func202,Tryz.ntmps202
 go_wp2
 go_loopw [] (fun wr => ∃ pos,pos ≤ s.size ∧ wr.heap[w.heap.size]? = some (.stringIter s pos) ∧ I pos wr) (fun wr => s.size - wr.iterPos w.heap.size)
 case atStart =>
  refine ⟨0,Nat.zero_le _,World.iter_heap w s 0,hst _ _ _ h0 ?_⟩
  exact (Keep.refl _ _).alloc (Nat.le_refl _) _
 case round =>
  obtain ⟨pos,hle,hit,hI⟩:=hrel
  by_cases hp : pos < s.size
  ·have hnx : ∀ ty,(Instr.next (.pointer (some ⟨w.heap.size,0,none⟩)) true ty).run Tryz.prog wr = _:=fun ty => Lib.run_next_any_at wr w.heap.size s pos ty hit hp
   have hw:=dec_w s pos hp
   have hb:=dec_bd s pos
   have hkeep:=(Keep.refl w.heap.size wr).iterAt (Nat.le_refl _) hit (pos + (Utf8.decode s pos).2)
   have hsz : w.heap.size ≤ (wr.iterAt w.heap.size s (pos + (Utf8.decode s pos).2)).heap.size:=by
    rw [Lib.iterAt_size];have:=(Array.getElem?_eq_some_iff.1 hit).1;omega
   have hit2:=Lib.iterAt_heap wr w.heap.size s pos (pos + (Utf8.decode s pos).2) hit
   have hIa : ∀ o,I pos ((wr.iterAt w.heap.size s (pos + (Utf8.decode s pos).2)).alloc o):=fun o => hst _ _ _ hI (hkeep.alloc hsz o)
   have hita0 : ∀ o,((wr.iterAt w.heap.size s (pos + (Utf8.decode s pos).2)).alloc o).heap[w.heap.size]? = some (.stringIter s (pos + (Utf8.decode s pos).2)):=fun o => (Lib.alloc_old _ o _ (Array.getElem?_eq_some_iff.1 hit2).1).trans hit2
   by_cases hr : ((Utf8.decode s pos).1 : Int) = 65533
   ·have hr0 : (Utf8.decode s pos).1 = 65533:=by omega
    have hpf:=hp_fffd s pos hp hr0
    have hrl : runeLen 65533 = 3:=by decide
    by_cases h3 : (Utf8.decode s pos).2 = 3
    ·have hpt : hpB (s.extract pos s.size) ⟨#[239,191,189]⟩ = true:=by rw [hpf];simpa using h3
     have hne : Utf8.decode s pos ≠ (65533,1):=fun e => by rw [e] at h3;exact absurd h3 (by decide)
     have hv : stV s pos = .agg #[.int .i64 65533,.int .i64 pos,.int .i64 (pos + 3)]:=by
      unfold stV stC stW;rw [if_neg hne,h3,hr0];rfl
     have hcW:=fun o => hcall pos _ hp (hIa o)
     rw [hv,h3] at hcW
     simp only [h3] at hita0
     clear hpf hIa hit2 hsz hkeep
     go_wp2_with (first | (go_at_call 216;refine (runeLen_any _ _).mono ?_;rintro e w' ⟨rfl,rfl⟩) | (go_at_call 177;refine (sHasPrefix_any _ _ _).mono ?_;rintro e w' ⟨rfl,rfl⟩))
     have hc:=hcW (.cells #[.int .i64 65533,.int .i64 pos,.int .i64 (pos + 3)] 204)
     have hita:=hita0 (.cells #[.int .i64 65533,.int .i64 pos,.int .i64 (pos + 3)] 204)
     clear hcW hita0
     refine Calls.mono hc ?_
     rintro e W' ⟨b,rfl,hi,ht,hf⟩
     have hit3:=hi _ _ _ hita
     cases b with
     | true =>
      have hI3:=ht rfl
      clear hc ht hf hcall hst hK
      go_wp2
      go_roundw
      case rel => exact ⟨pos + stW s pos,hw.2.2,by unfold stW;rw [h3];exact hit3,hI3⟩
      case measure =>
       simp only [World.iterPos,hit3,hit]
       have:=hw.1
       unfold stW at this hw
       omega
     | false =>
      have hQ:=hf rfl
      clear hc ht hf hcall hst hK
      go_wp2
      exact bodyPost_ret (v:=.tuple #[]) (by simp [results,Tryz.results202,go_sem]) rfl ⟨rfl,hQ⟩
    ·have hpt : hpB (s.extract pos s.size) ⟨#[239,191,189]⟩ = false:=by rw [hpf];simpa using h3
     have h1 : (Utf8.decode s pos).2 = 1:=(dec_fffd s pos hr0).resolve_right h3
     clear h3
     have h3:=h1
     clear h1
     have hne : Utf8.decode s pos = (65533,1):=Prod.ext hr0 h3
     have hv : stV s pos = .agg #[.int .i64 (-1),.int .i64 pos,.int .i64 (pos + 1)]:=by
      unfold stV stC stW;rw [if_pos hne,h3];rfl
     clear hne
     have hcW:=fun o => hcall pos _ hp (hIa o)
     rw [hv,h3] at hcW
     simp only [h3] at hita0
     clear hpf hIa hit2 hsz hkeep
     go_wp2_with (first | (go_at_call 216;refine (runeLen_any _ _).mono ?_;rintro e w' ⟨rfl,rfl⟩) | (go_at_call 177;refine (sHasPrefix_any _ _ _).mono ?_;rintro e w' ⟨rfl,rfl⟩))
     have hc:=hcW (.cells #[.int .i64 (-1),.int .i64 pos,.int .i64 (pos + 1)] 204)
     have hita:=hita0 (.cells #[.int .i64 (-1),.int .i64 pos,.int .i64 (pos + 1)] 204)
     clear hcW hita0
     refine Calls.mono hc ?_
     rintro e W' ⟨b,rfl,hi,ht,hf⟩
     have hit3:=hi _ _ _ hita
     cases b with
     | true =>
      have hI3:=ht rfl
      clear hc ht hf hcall hst hK
      go_wp2
      go_roundw
      case rel => exact ⟨pos + stW s pos,hw.2.2,by unfold stW;rw [h3];exact hit3,hI3⟩
      case measure =>
       simp only [World.iterPos,hit3,hit]
       have:=hw.1
       unfold stW at this hw
       omega
     | false =>
      have hQ:=hf rfl
      clear hc ht hf hcall hst hK
      go_wp2
      exact bodyPost_ret (v:=.tuple #[]) (by simp [results,Tryz.results202,go_sem]) rfl ⟨rfl,hQ⟩
   ·have hr' : (((Utf8.decode s pos).1 : Int) == 65533) = false:=by simpa using hr
    have hne : Utf8.decode s pos ≠ (65533,1):=fun e => by rw [e] at hr;exact absurd rfl hr
    have hrl : runeLen ((Utf8.decode s pos).1 : Int) = ((stW s pos : Nat) : Int):=by
     rcases dec_len s pos with h | ⟨h,_⟩
     ·exact absurd h hne
     ·exact h
    have hv : stV s pos = .agg #[.int .i64 ((Utf8.decode s pos).1 : Int),.int .i64 pos,.int .i64 (pos + stW s pos)]:=by
     unfold stV stC;rw [if_neg hne];rfl
    have hcW:=fun o => hcall pos _ hp (hIa o)
    rw [hv] at hcW
    go_wp2_with (go_at_call 216;refine (runeLen_any _ _).mono ?_;rintro e w' ⟨rfl,rfl⟩)
    have hc:=hcW (.cells #[.int .i64 ((Utf8.decode s pos).1 : Int),.int .i64 pos,.int .i64 (pos + stW s pos)] 204)
    have hita:=hita0 (.cells #[.int .i64 ((Utf8.decode s pos).1 : Int),.int .i64 pos,.int .i64 (pos + stW s pos)] 204)
    clear hcW hita0
    refine Calls.mono hc ?_
    rintro e W' ⟨b,rfl,hi,ht,hf⟩
    have hit3:=hi _ _ _ hita
    cases b with
    | true =>
     have hI3:=ht rfl
     clear hc ht hf hcall hst hK
     go_wp2
     go_roundw
     case rel => exact ⟨pos + stW s pos,hw.2.2,hit3,hI3⟩
     case measure =>
      simp only [World.iterPos,hit3,hit]
      have:=hw.1
      unfold stW at this hw
      omega
    | false =>
     have hQ:=hf rfl
     clear hc ht hf hcall hst hK
     go_wp2
     exact bodyPost_ret (v:=.tuple #[]) (by simp [results,Tryz.results202,go_sem]) rfl ⟨rfl,hQ⟩
  ·have hnx : ∀ ty,(Instr.next (.pointer (some ⟨w.heap.size,0,none⟩)) true ty).run Tryz.prog wr = _:=fun ty => Lib.run_next_end_at wr w.heap.size s pos ty hit hp
   go_wp2
   go_end0
   exact ⟨rfl,hend _ (by
     have : pos = s.size:=by omega
     subst this;exact hI)⟩
end Go.Proofs.YtgmlbjfgfmfliaaGreatDoor
namespace Go.Proofs.YtgmlbjfgfmfliaaGreatDoor
open Go.RowKit
section
variable {α : Type}
/-- From step to step, as long as f answers true. -/
def walkF (s : ByteArray) (f : α → Nat → α × Bool) : Nat → Nat → α → α
 | 0,_,a => a
 | n + 1,p,a => if p < s.size then (if (f a p).2 then walkF s f n (p + stW s p) (f a p).1 else (f a p).1) else a
theorem walkF_fuel (s : ByteArray) (f : α → Nat → α × Bool) : ∀ (n m p : Nat) (a : α),s.size - p ≤ n → s.size - p ≤ m → walkF s f n p a = walkF s f m p a:=by
 intro n
 induction n with
 | zero =>
  intro m p a hn hm
  have hp : ¬ p < s.size:=by omega
  cases m with
  | zero => rfl
  | succ m => simp only [walkF,if_neg hp]
 | succ n ih =>
  intro m p a hn hm
  by_cases hp : p < s.size
  ·have hw:=dec_w s p hp
   cases m with
   | zero => omega
   | succ m =>
    simp only [walkF,if_pos hp]
    split
    ·exact ih m _ _ (by omega) (by omega)
    ·rfl
  ·cases m with
   | zero => simp only [walkF,if_neg hp]
   | succ m => simp only [walkF,if_neg hp]
def walk (s : ByteArray) (f : α → Nat → α × Bool) (p : Nat) (a : α) : α:=walkF s f (s.size - p) p a
theorem walk_step {s : ByteArray} {f : α → Nat → α × Bool} {p : Nat} {a : α} (hp : p < s.size) : walk s f p a = if (f a p).2 then walk s f (p + stW s p) (f a p).1 else (f a p).1:=by
 have hw:=dec_w s p hp
 unfold walk
 obtain ⟨n,hn⟩ : ∃ n,s.size - p = n + 1:=⟨s.size - p - 1,by omega⟩
 rw [hn]
 simp only [walkF,if_pos hp]
 rw [walkF_fuel s f n (s.size - (p + stW s p)) _ _ (by omega) (Nat.le_refl _)]
theorem walk_end {s : ByteArray} {f : α → Nat → α × Bool} {p : Nat} {a : α} (hp : ¬ p < s.size) : walk s f p a = a:=by
 unfold walk
 rw [show s.size - p = 0 by omega]
 rfl
theorem each_walk (K : Nat) (caps : Array Value) (s : ByteArray) (w : World) (hs : s.size ≤ 1125899906842624) (St : α → World → Prop) (J : α → Nat → Prop) (f : α → Nat → α × Bool) (a0 : α)
  (hK : ∀ args W,Sem.run Tryz.prog (callFunc K args) W = .ok (.enter K args) W)
  (hst : ∀ a W W',St a W → Keep w.heap.size W W' → St a W') (h0 : St a0 w) (hJ0 : J a0 0)
  (hJ : ∀ a p,p < s.size → J a p → (f a p).2 = true → J (f a p).1 (p + stW s p))
  (hcall : ∀ a p W,p < s.size → J a p → St a W → Calls Tryz.prog K (#[stV s p] ++ caps) W fun e W' => e = .returned (.bool (f a p).2) ∧ Iters W W' ∧ St (f a p).1 W') :
  Calls Tryz.prog 202 #[.string s,.func (.func K) #[] caps] w fun e w' => e = .returned (.tuple #[]) ∧ St (walk s f 0 a0) w':=by
 refine each_any K caps s w hs (fun p W => ∃ a,St a W ∧ J a p ∧ walk s f p a = walk s f 0 a0) (fun W => St (walk s f 0 a0) W) hK ?_ ⟨a0,h0,hJ0,rfl⟩ ?_ ?_
 ·rintro p W W' ⟨a,h1,h2,h3⟩ hk
  exact ⟨a,hst _ _ _ h1 hk,h2,h3⟩
 ·rintro p W hp ⟨a,h1,h2,h3⟩
  refine (hcall a p W hp h2 h1).mono ?_
  rintro e W' ⟨rfl,hi,hS⟩
  have hstep : walk s f p a = if (f a p).2 then walk s f (p + stW s p) (f a p).1 else (f a p).1:=walk_step hp
  refine ⟨(f a p).2,rfl,hi,fun hb => ⟨(f a p).1,hS,hJ a p hp h2 hb,?_⟩,fun hb => ?_⟩
  ·rw [if_pos hb] at hstep
   rw [← hstep,h3]
  ·rw [hb,if_neg (by decide)] at hstep
   rw [← h3,hstep]
   exact hS
 ·rintro W ⟨a,h1,h2,h3⟩
  rw [walk_end (Nat.lt_irrefl _)] at h3
  rw [← h3]
  exact h1
end
theorem Keep.one {B : Nat} {W W' : World} (h : Keep B W W') {k : Nat} {v : Value} {t : TypeId} (hk : W.heap[k]? = some (.cells #[v] t (0,0))) (ht : t ≠ 204) : W'.heap[k]? = some (.cells #[v] t (0,0)):=h.cells k _ t _ hk ht
theorem Iters.setCell {W W' : World} (h : Iters W W') {p : Addr} {c : Array Value} {t : TypeId} {fz : Nat × Nat} (hp : W'.heap[p.block]? = some (.cells c t fz)) (v : Value) : Iters W (W'.setCell p v):=fun k s pos hk => by
 have h1:=h k s pos hk
 have hne : k ≠ p.block:=by
  intro e
  rw [e,hp] at h1
  cases h1
 exact (Below.heap_setCell _ _ _ _ hne).trans h1
end Go.Proofs.YtgmlbjfgfmfliaaGreatDoor
namespace Go.Proofs.YtgmlbjfgfmfliaaGreatDoor
open Go.RowKit
theorem old_set {W : World} {B : Nat} {v : Value} {t : TypeId} (h : W.heap[B]? = some (.cells #[v] t (0,0))) (u : Value) (o : Obj) : ((W.setCell ⟨B,0,none⟩ u).alloc o).heap[B]? = some (.cells #[u] t (0,0)) :=
 (Lib.alloc_old _ _ B (by have:=lt_of_block h;simpa [World.setCell] using this)).trans (one_setCell h)
theorem below_set {W : World} {B C : Nat} {v : Value} {t : TypeId} (h : W.heap[C]? = some (.cells #[v] t (0,0))) (hBC : B ≤ C) (u : Value) (o : Obj) : Below B W ((W.setCell ⟨C,0,none⟩ u).alloc o) :=
 ((Below.refl B W).setCell (p:=⟨C,0,none⟩) hBC _).alloc (by have:=lt_of_block h;simp [World.setCell];omega) _
theorem below_drew1 {B : Nat} {W W' : World} (h : Below B W W') : Below B W W'.drew:=⟨h.os,h.tape,h.output,h.size,h.block⟩
/-- Two captured variables written, a block laid. -/
theorem two_set {W : World} {B C : Nat} {x y : Value} {t t' : TypeId} (h : W.heap[B]? = some (.cells #[x] t (0,0))) (h' : W.heap[C]? = some (.cells #[y] t' (0,0))) (hBC : B ≠ C) {D : Nat} (hB : D ≤ B) (hC : D ≤ C) (u v : Value) :
  (((W.setCell ⟨B,0,none⟩ u).setCell ⟨C,0,none⟩ v)).heap[B]? = some (.cells #[u] t (0,0)) ∧ (((W.setCell ⟨B,0,none⟩ u).setCell ⟨C,0,none⟩ v)).heap[C]? = some (.cells #[v] t' (0,0)) ∧ Below D W ((W.setCell ⟨B,0,none⟩ u).setCell ⟨C,0,none⟩ v) ∧ Iters W ((W.setCell ⟨B,0,none⟩ u).setCell ⟨C,0,none⟩ v):=by
 have h2 : (W.setCell ⟨B,0,none⟩ u).heap[C]? = some (.cells #[y] t' (0,0)):=(Below.heap_setCell W ⟨B,0,none⟩ u C (Ne.symm hBC)).trans h'
 refine ⟨?_,one_setCell h2,?_,?_⟩
 ·exact (Below.heap_setCell _ ⟨C,0,none⟩ v B hBC).trans (one_setCell h)
 ·exact ((Below.refl D W).setCell (p:=⟨B,0,none⟩) hB _).setCell (p:=⟨C,0,none⟩) hC _
 ·exact ((Iters.refl W).setCell (p:=⟨B,0,none⟩) h _).setCell (p:=⟨C,0,none⟩) h2 _
/-! ### Valid -/
def validStep (s : ByteArray) (_ : Bool) (p : Nat) : Bool × Bool:=(stC s p != -1,stC s p != -1)
def validS (s : ByteArray) : Bool:=walk s (validStep s) 0 true
/-! ### Rune -/
def runeStep (s : ByteArray) (a : Int × Int) (p : Nat) : (Int × Int) × Bool:=(if stC s p = -1 then a else (stC s p,((p + stW s p : Nat) : Int)),false)
def runeS (s : ByteArray) (n : Nat) : Int × Int:=if stC s n = -1 then (0,0) else (stC s n,(stW s n : Int))
theorem rune_walk (s : ByteArray) (n : Nat) (hn : n < s.size) : walk (s.extract n s.size) (runeStep (s.extract n s.size)) 0 (0,0) = runeS s n:=by
 have hd:=dec_drop s n 0 (by omega)
 rw [Nat.add_zero] at hd
 have hc : stC (s.extract n s.size) 0 = stC s n:=by unfold stC;rw [hd]
 have hw : stW (s.extract n s.size) 0 = stW s n:=by unfold stW;rw [hd]
 rw [walk_step (by rw [size_cut _ _ _ (Nat.le_refl _)];omega)]
 simp only [runeStep,runeS,hc,hw,Nat.zero_add]
 rfl
/-! ### Source -/
def sourceStep (s : ByteArray) (a : Int × Int) (p : Nat) : (Int × Int) × Bool:=if sourceB (stC s p) then (a,true) else (((p : Int),10),false)
def sourceS (s : ByteArray) : Int × Int:=walk s (sourceStep s) 0 (0,0)
set_option maxHeartbeats 400000 in
theorem source1_yes (B : Nat) (x y c b e : Int) (W : World) (h : W.heap[B]? = some (.cells #[.int .i64 x] 3 (0,0))) (h' : W.heap[B + 1]? = some (.cells #[.int .i64 y] 26 (0,0))) (hc : sourceB c = true) :
  Calls Tryz.prog 203 #[.agg #[.int .i64 c,.int .i64 b,.int .i64 e],.pointer (some ⟨B,0,none⟩),.pointer (some ⟨B + 1,0,none⟩)] W fun z W' => z = .returned (.bool true) ∧ Iters W W' ∧ (W'.heap[B]? = some (.cells #[.int .i64 x] 3 (0,0)) ∧ W'.heap[B + 1]? = some (.cells #[.int .i64 y] 26 (0,0))) ∧ Below B W W':=by
 have hlt:=lt_of_block h
 go_enter Tryz.func203,Tryz.ntmps203
 go_wp2_with (go_at_call 204;refine (isSource_any _ _).mono ?_;rintro e w' ⟨rfl,rfl⟩)
 go_ret
 exact ⟨rfl,(Iters.refl W).alloc _,⟨(Lib.alloc_old _ _ B (lt_of_block h)).trans h,(Lib.alloc_old _ _ (B + 1) (lt_of_block h')).trans h'⟩,(Below.refl B W).alloc (by omega) _⟩
set_option maxHeartbeats 400000 in
theorem source1_no (B : Nat) (x y c b e : Int) (W : World) (h : W.heap[B]? = some (.cells #[.int .i64 x] 3 (0,0))) (h' : W.heap[B + 1]? = some (.cells #[.int .i64 y] 26 (0,0))) (hc : sourceB c = false) :
  Calls Tryz.prog 203 #[.agg #[.int .i64 c,.int .i64 b,.int .i64 e],.pointer (some ⟨B,0,none⟩),.pointer (some ⟨B + 1,0,none⟩)] W fun z W' => z = .returned (.bool false) ∧ Iters W W' ∧ (W'.heap[B]? = some (.cells #[.int .i64 b] 3 (0,0)) ∧ W'.heap[B + 1]? = some (.cells #[.int .i64 10] 26 (0,0))) ∧ Below B W W':=by
 have hlt:=lt_of_block h
 have hlt':=lt_of_block h'
 have cB:=cell_of_one h
 have fB:=free_of_one h
 have cC:=cell_of_one h'
 have fC:=free_of_one h'
 go_enter Tryz.func203,Tryz.ntmps203
 go_wp2_with (go_at_call 204;refine (isSource_any _ _).mono ?_;rintro e w' ⟨rfl,rfl⟩)
 go_ret
 obtain ⟨g1,g2,g3,g4⟩:=two_set h h' (by omega) (Nat.le_refl B) (by omega) (.int .i64 b) (.int .i64 10)
 have hz : W.heap.size = ((W.setCell ⟨B,0,none⟩ (.int .i64 b)).setCell ⟨B + 1,0,none⟩ (.int .i64 10)).heap.size:=by simp [World.setCell]
 exact ⟨rfl,g4.alloc _,⟨(Lib.alloc_old _ _ B (by omega)).trans g1,(Lib.alloc_old _ _ (B + 1) (by omega)).trans g2⟩,g3.alloc (by omega) _⟩
theorem source1_any (B : Nat) (a : Int × Int) (s : ByteArray) (p : Nat) (W : World) (h : W.heap[B]? = some (.cells #[.int .i64 a.1] 3 (0,0))) (h' : W.heap[B + 1]? = some (.cells #[.int .i64 a.2] 26 (0,0))) :
  Calls Tryz.prog 203 #[stV s p,.pointer (some ⟨B,0,none⟩),.pointer (some ⟨B + 1,0,none⟩)] W fun z W' => z = .returned (.bool (sourceStep s a p).2) ∧ Iters W W' ∧ (W'.heap[B]? = some (.cells #[.int .i64 (sourceStep s a p).1.1] 3 (0,0)) ∧ W'.heap[B + 1]? = some (.cells #[.int .i64 (sourceStep s a p).1.2] 26 (0,0))) ∧ Below B W W':=by
 by_cases hc : sourceB (stC s p) = true
 ·unfold stV sourceStep
  rw [if_pos hc]
  exact source1_yes B a.1 a.2 _ _ _ W h h' hc
 ·unfold stV sourceStep
  rw [if_neg hc]
  exact source1_no B a.1 a.2 _ _ _ W h h' (by simpa using hc)
set_option maxHeartbeats 400000 in
theorem source_any (s : ByteArray) (w : World) (hs : s.size ≤ 1125899906842624) :
  Calls Tryz.prog 179 #[.string s] w fun e w' => e = .returned (.tuple #[.int .i64 (sourceS s).1,.int .i64 (sourceS s).2]) ∧ Below w.heap.size w w':=by
 have hE:=each_walk (α:=Int × Int) 203 #[.pointer (some ⟨w.heap.size,0,none⟩),.pointer (some ⟨w.heap.size + 1,0,none⟩)] s ((w.alloc (.cells #[.int .i64 0] 3)).alloc (.cells #[.int .i64 0] 26)) hs
  (fun (a : Int × Int) W => (W.heap[w.heap.size]? = some (.cells #[.int .i64 a.1] 3 (0,0)) ∧ W.heap[w.heap.size + 1]? = some (.cells #[.int .i64 a.2] 26 (0,0))) ∧ Below w.heap.size w W) (fun _ _ => True) (sourceStep s) (0,0) (fun _ _ => by kernel_rfl)
  (fun a W W' h k => ⟨⟨Keep.one k h.1.1 (by decide),Keep.one k h.1.2 (by decide)⟩,h.2.trans (k.below.mono (by simp;omega))⟩)
  ⟨⟨(Lib.alloc_old _ _ _ (by simp)).trans (heap_alloc_new _ _),by simpa using heap_alloc_new (w.alloc (.cells #[.int .i64 0] 3)) (.cells #[.int .i64 0] 26)⟩,((Below.refl _ _).alloc (Nat.le_refl _) _).alloc (by simp) _⟩ trivial (fun _ _ _ _ _ => trivial)
  (fun a p W _ _ h => (source1_any w.heap.size a _ p W h.1.1 h.1.2).mono fun e W' ⟨h1,h2,h3,h4⟩ => ⟨h1,h2,h3,h.2.trans h4⟩)
 go_enter Tryz.func179,Tryz.ntmps179
 go_wp2_with (go_at_call 202;refine Calls.mono hE ?_;rintro e w' ⟨rfl,⟨h1,h1'⟩,h2⟩;have c1:=cell_of_one h1;have c2:=cell_of_one h1')
 go_region
 all_goals
  go_wp2
  go_ret2
  exact ⟨rfl,below_drew1 h2⟩
end Go.Proofs.YtgmlbjfgfmfliaaGreatDoor
