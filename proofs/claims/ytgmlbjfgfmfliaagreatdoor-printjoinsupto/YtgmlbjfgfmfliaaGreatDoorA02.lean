/- What of the memory may have changed; the reader of a document. -/
import Derived.Test.YtgmlbjfgfmfliaaGreatDoorA01
import Derived.Test.YtgmlbjfgfmfliaaGreatDoorShelf
import Derived.Below
import Derived.Laws.OwnMore
import Derived.Defers
import Derived.Recover
import Derived.WalkSmall
import Derived.BigQuiet
import Derived.Deep.QuietTactic
import Derived.Deep.Light
namespace Go.Proofs.YtgmlbjfgfmfliaaGreatDoor
open Go
abbrev Bs:=List UInt8
def digL : Bs:=[48,49,50,51,52,53,54,55,56,57]
def letL : Bs:=[97,98,99,100,101,102,103,104,105,106,107,108,109,110,111,112,113,114,115,116,117,118,119,120,121,122,65,66,67,68,69,70,71,72,73,74,75,76,77,78,79,80,81,82,83,84,85,86,87,88,89,90,95]
def punL : Bs:=[33,36,38,40,41,58,61,64,91,93,123,124,125]
def ignL : Bs:=[9,32,10,13,44]
def endL : Bs:=[10,13]
/-- Does one of these stand next? -/
def headIn (S : Bs) : Bs → Bool
 | [] => false
 | c :: _ => S.contains c
/-- What is left behind the longest row of these. -/
def spanR (S : Bs) : Bs → Bs
 | [] => []
 | c :: l => if S.contains c then spanR S l else c :: l
/-- What is left behind the longest row of others. -/
def spanN (S : Bs) : Bs → Bs
 | [] => []
 | c :: l => if S.contains c then c :: l else spanN S l
/-- What is ahead of what is left. -/
def ahead (l r : Bs) : Bs:=l.take (l.length - r.length)
def needD (l : Bs) : Option Bs:=if headIn digL l then some (spanR digL l) else none
def optT (p l : Bs) : Bs:=if p.isPrefixOf l then l.drop p.length else l
def optO (S l : Bs) : Bs:=if headIn S l then l.drop 1 else l
def numA (l : Bs) : Option Bs:=if List.isPrefixOf [48] l then some (l.drop 1) else needD l
def numB (l : Bs) : Option (Int × Bs):=if List.isPrefixOf [46] l then (needD (l.drop 1)).map fun r => (3,r) else some (2,l)
def numC (k : Int) (l : Bs) : Option (Int × Bs):=if headIn [101,69] l then (needD (optO [43,45] (l.drop 1))).map fun r => (3,r) else some (k,l)
def numD (k : Int) (l : Bs) : Option (Int × Bs):=if headIn (digL ++ 46 :: letL) l then none else some (k,l)
/-- A number: its kind, and what is left. -/
def numS (l : Bs) : Option (Int × Bs):=(numA (optT [45] l)).bind fun l1 => (numB l1).bind fun p => (numC p.1 p.2).bind fun q => numD q.1 q.2
def hexV (c : UInt8) : Option Nat:=if 48 ≤ c.toNat ∧ c.toNat ≤ 57 then some (c.toNat - 48) else if 97 ≤ c.toNat ∧ c.toNat ≤ 102 then some (c.toNat - 87) else if 65 ≤ c.toNat ∧ c.toNat ≤ 70 then some (c.toNat - 55) else none
def halfS (V : Nat) : Bs:=[(224 + V / 4096).toUInt8,(128 + V / 64 % 64).toUInt8,(128 + V % 64).toUInt8]
/-- What a number of 16 bits says. -/
def unitS (V : Nat) : Bs:=if 55296 ≤ V ∧ V ≤ 57343 then halfS V else (Utf8.encode (V : Int)).data.toList
def nmbS : Bs → Option (Bs × Bs)
 | a :: b :: c :: d :: r => (hexV a).bind fun x => (hexV b).bind fun y => (hexV c).bind fun z => (hexV d).bind fun t => some (unitS (x * 4096 + y * 256 + z * 16 + t),r)
 | _ => none
def escL : Bs:=[34,92,47,98,102,110,114,116]
def saidL : Bs:=[34,92,47,8,12,10,13,9]
/-- What stands behind a stroke. -/
def escS (l : Bs) : Option (Bs × Bs):=if List.isPrefixOf [117] l then nmbS (l.drop 1) else match l with
 | [] => none
 | c :: r => if escL.contains c then some ([saidL.getD (escL.idxOf c) 0],r) else none
/-- A string behind its first quote. -/
def lineF : Nat → Bs → Option (Bs × Bs)
 | 0,_ => none
 | n + 1,l => if List.isPrefixOf [34] l then some ([],l.drop 1) else if List.isPrefixOf [92] l then (escS (l.drop 1)).bind fun p => (lineF n p.2).map fun q => (p.1 ++ q.1,q.2) else match l with
  | [] => none
  | c :: r => if endL.contains c then none else (lineF n r).map fun q => (c :: q.1,q.2)
/-- A block string behind its first quotes. -/
def rawF : Nat → Bs → Option (Bs × Bs)
 | 0,_ => none
 | n + 1,l => if List.isPrefixOf [34,34,34] l then some ([],l.drop 3) else if List.isPrefixOf [92,34,34,34] l then (rawF n (l.drop 4)).map fun q => (34 :: 34 :: 34 :: q.1,q.2) else match l with
  | [] => none
  | c :: r => (rawF n r).map fun q => (c :: q.1,q.2)
/-! ### What a block string says -/
/-- All line ends are 10. -/
def normS : Bs → Bs
 | [] => []
 | [c] => [if c = 13 then 10 else c]
 | c :: d :: l => if c = 13 then (if d = 10 then 10 :: normS l else 10 :: normS (d :: l)) else c :: normS (d :: l)
/-- What lies between the bytes 10. -/
def split10 : Bs → List Bs
 | [] => [[]]
 | c :: l => if c = 10 then [] :: split10 l else match split10 l with
  | [] => [[c]]
  | x :: xs => (c :: x) :: xs
/-- The lines: between 10, 13, or 13 and 10. -/
def linesS (l : Bs) : List Bs:=split10 (normS l)
def indS (l : Bs) : Nat:=l.length - (spanR [9,32] l).length
def blankB (l : Bs) : Bool:=indS l == l.length
def commonS : List Bs → Option Nat → Option Nat
 | [],a => a
 | x :: xs,a => commonS xs (if blankB x then a else match a with
  | none => some (indS x)
  | some n => if indS x < n then some (indS x) else some n)
def cutS (n : Nat) (l : Bs) : Bs:=l.drop (min n l.length)
def joinS : List Bs → Bs
 | [] => []
 | [x] => x
 | x :: xs => x ++ 10 :: joinS xs
def trimS (l : List Bs) : List Bs:=((l.dropWhile blankB).reverse.dropWhile blankB).reverse
def blockS (raw : Bs) : Bs:=match linesS raw with
 | [] => []
 | x :: xs => joinS (trimS (x :: xs.map (cutS ((commonS xs none).getD 0))))
/-- Source characters alone: else where the first other byte is. -/
def srcB (l : Bs) : Option Nat:=if (sourceS ⟨l.toArray⟩).2 = 0 then none else some (sourceS ⟨l.toArray⟩).1.toNat
def textR (l : Bs) : Option (Bs × Bs):=if List.isPrefixOf [34,34,34] l then (rawF (l.length + 1) (l.drop 3)).map fun p => (blockS p.1,p.2) else lineF (l.length + 1) (l.drop 1)
def textS (l : Bs) : Option (Bs × Bs):=(textR l).bind fun p => if (srcB (ahead l p.2)).isSome then none else some p
/-- What stands next as a token: kind, text, what is left; or what is wrong. -/
inductive TR where
 | ok (k : Int) (t r : Bs)
 | bad (e : Int)
def wrt (k : Int) (l r : Bs) : TR:=.ok k (ahead l r) r
def tokS (l : Bs) : TR :=
 if headIn punL l then wrt 0 l (l.drop 1)
 else if List.isPrefixOf [46,46,46] l then wrt 0 l (l.drop 3)
 else if headIn letL l then wrt 1 l (spanR (letL ++ digL) (l.drop 1))
 else if headIn (45 :: digL) l then (match numS l with
  | none => .bad 51
  | some p => wrt p.1 l p.2)
 else if headIn [34] l then (match textS l with
  | none => .bad 52
  | some p => .ok 4 p.1 p.2)
 else .bad 50
/-- A comment: what is left behind it, or how many bytes on it is wrong. -/
def comS (l : Bs) : Option (Bs ⊕ Nat):=if List.isPrefixOf [35] l then some (match srcB (ahead l (spanN endL (l.drop 1))) with
 | none => .inl (spanN endL (l.drop 1))
 | some k => .inr k) else none
/-- What is ignored is gone over: what is left; or how many bytes are left where it is wrong. -/
def skipF : Nat → Bs → Bs ⊕ Nat
 | 0,l => .inl l
 | n + 1,l => if headIn ignL l then skipF n (spanR ignL l) else if List.isPrefixOf [239,187,191] l then skipF n (l.drop 3) else match comS l with
  | none => .inl l
  | some (.inl r) => skipF n r
  | some (.inr k) => .inr (l.length - k)
def skipS (l : Bs) : Bs ⊕ Nat:=skipF (l.length + 1) l
/-- A token: kind, text, where it begins, where it ends. -/
structure Tok where
 k : Int
 t : Bs
 b : Nat
 e : Nat
deriving DecidableEq
/-- The tokens from here on, c being told already; or where what is wrong. N: how many bytes there are in all. -/
def lexF (N : Nat) : Nat → Nat → Bs → (Nat × Int) ⊕ List Tok
 | 0,_,_ => .inr []
 | n + 1,c,l => match skipS l with
  | .inr k => .inl (N - k,50)
  | .inl [] => .inr []
  | .inl (x :: l1) => if c = 2048 then .inl (N - (x :: l1).length,53) else match tokS (x :: l1) with
   | .bad e => .inl (N - (x :: l1).length,e)
   | .ok k t r => match lexF N n (c + 1) r with
    | .inl p => .inl p
    | .inr ts => .inr (⟨k,t,N - (x :: l1).length,N - r.length⟩ :: ts)
def lexS (s : Bs) : (Nat × Int) ⊕ List Tok:=if 16384 < s.length then .inl (0,54) else lexF s.length (s.length + 1) 0 s
/-! ### How a text is quoted -/
def hexD (n : Nat) : UInt8:=if n < 10 then (48 + n).toUInt8 else (87 + n).toUInt8
def escQ (n : Nat) : Bs:=[92,117,hexD (n / 4096),hexD (n / 256 % 16),hexD (n / 16 % 16),hexD (n % 16)]
def quoF : Nat → Bs → Bs
 | 0,_ => []
 | n + 1,l => match l with
  | [] => []
  | c :: r => match (match r with
    | d :: e :: r' => if c = 237 ∧ 160 ≤ d.toNat ∧ d.toNat ≤ 191 ∧ 128 ≤ e.toNat ∧ e.toNat ≤ 191 then some (53248 + (d.toNat - 128) * 64 + (e.toNat - 128),r') else none
    | _ => none) with
   | some (v,r') => escQ v ++ quoF n r'
   | none => (if c = 34 ∨ c = 92 then [92,c] else if c.toNat < 32 ∨ c = 127 then escQ c.toNat else [c]) ++ quoF n r
def quoS (l : Bs) : Bs:=34 :: (quoF l.length l ++ [34])
end Go.Proofs.YtgmlbjfgfmfliaaGreatDoor
namespace Go.Proofs.YtgmlbjfgfmfliaaGreatDoor
open Go
abbrev Rs (α : Type):=Except (Nat × Int) (α × List Tok)
def Rs.go {α β : Type} (r : Rs α) (f : α → List Tok → Rs β) : Rs β:=match r with
 | .error p => .error p
 | .ok p => f p.1 p.2
theorem go_error {α β : Type} (p : Nat × Int) (f : α → List Tok → Rs β) : Rs.go (.error p) f = .error p:=rfl
theorem go_ok {α β : Type} (a : α) (l : List Tok) (f : α → List Tok → Rs β) : Rs.go (.ok (a,l)) f = f a l:=rfl
theorem go_ok_inv {α β : Type} {r : Rs α} {f : α → List Tok → Rs β} {b : β} {m : List Tok} (h : Rs.go r f = .ok (b,m)) : ∃ a l,r = .ok (a,l) ∧ f a l = .ok (b,m):=by
 cases r with
 | error p => cases h
 | ok p => exact ⟨p.1,p.2,rfl,h⟩
def isP (s : Bs) : List Tok → Bool
 | [] => false
 | t :: _ => t.k == 0 && t.t == s
def isW (s : Bs) : List Tok → Bool
 | [] => false
 | t :: _ => t.k == 1 && t.t == s
def isK (k : Int) : List Tok → Bool
 | [] => false
 | t :: _ => t.k == k
def atT : List Tok → Nat
 | [] => 0
 | t :: _ => t.b
def txT : List Tok → Bs
 | [] => []
 | t :: _ => t.t
def anyF {α : Type} (f : List Tok → Rs α) (last : Bs) : Nat → List Tok → Rs (List α)
 | 0,_ => .error (0,0)
 | k + 1,l => if isP last l then .ok ([],l.tail) else (f l).go fun a l1 => (anyF f last k l1).go fun b l2 => .ok (a :: b,l2)
def anyS {α : Type} (f : List Tok → Rs α) (last : Bs) (l : List Tok) : Rs (List α):=anyF f last (l.length + 1) l
def someS {α : Type} (f : List Tok → Rs α) (last : Bs) (l : List Tok) : Rs (List α):=(f l).go fun a l1 => (anyS f last l1).go fun b l2 => .ok (a :: b,l2)
/-- Where a document's tokens end. -/
abbrev eofT (N : Nat) : Tok:=⟨0,[],N,0⟩
def Eats {α : Type} (f : List Tok → Rs α) : Prop:=∀ l a m,f l = .ok (a,m) → m.length < l.length
def Keeps {α : Type} (f : List Tok → Rs α) : Prop:=∀ l a m,f l = .ok (a,m) → m.length ≤ l.length
theorem Eats.keeps {α : Type} {f : List Tok → Rs α} (h : Eats f) : Keeps f:=fun l a m e => Nat.le_of_lt (h l a m e)
theorem isP_pos {s : Bs} {l : List Tok} (h : isP s l = true) : 0 < l.length:=by cases l <;> simp_all [isP]
theorem isK_pos {k : Int} {l : List Tok} (h : isK k l = true) : 0 < l.length:=by cases l <;> simp_all [isK]
theorem isW_pos {s : Bs} {l : List Tok} (h : isW s l = true) : 0 < l.length:=by cases l <;> simp_all [isW]
theorem Eats.go {α β : Type} {f : List Tok → Rs α} {g : α → List Tok → Rs β} (hf : Eats f) (hg : ∀ a,Keeps (g a)) : Eats (fun l => (f l).go g):=by
 intro l b m h
 obtain ⟨a,l1,h1,h2⟩:=go_ok_inv h
 have:=hf _ _ _ h1
 have:=hg a _ _ _ h2
 omega
theorem Keeps.go {α β : Type} {f : List Tok → Rs α} {g : α → List Tok → Rs β} (hf : Keeps f) (hg : ∀ a,Keeps (g a)) : Keeps (fun l => (f l).go g):=by
 intro l b m h
 obtain ⟨a,l1,h1,h2⟩:=go_ok_inv h
 have:=hf _ _ _ h1
 have:=hg a _ _ _ h2
 omega
theorem keeps_ok {α : Type} (a : α) : Keeps (fun l => (.ok (a,l) : Rs α)):=by
 intro l b m h;cases h;exact Nat.le_refl _
theorem Keeps.go_eats {α β : Type} {f : List Tok → Rs α} {g : α → List Tok → Rs β} (hf : Keeps f) (hg : ∀ a,Eats (g a)) : Eats (fun l => (f l).go g):=by
 intro l b m h
 obtain ⟨a,l1,h1,h2⟩:=go_ok_inv h
 have:=hf _ _ _ h1
 have:=hg a _ _ _ h2
 omega
theorem anyF_keeps {α : Type} {f : List Tok → Rs α} (hf : Eats f) (last : Bs) : ∀ k,Eats (anyF f last k)
 | 0 => fun l a m h => by cases h
 | k + 1 => by
  intro l a m h
  unfold anyF at h
  split at h
  ·rename_i hk
   have:=isP_pos hk
   cases h
   simp;omega
  ·obtain ⟨b,l1,h1,h2⟩:=go_ok_inv h
   obtain ⟨c,l2,h3,h4⟩:=go_ok_inv h2
   cases h4
   have:=hf _ _ _ h1
   have:=anyF_keeps hf last k _ _ _ h3
   omega
theorem anyS_eats {α : Type} {f : List Tok → Rs α} (hf : Eats f) (last : Bs) : Eats (anyS f last):=fun l a m h => anyF_keeps hf last _ l a m h
theorem someS_eats {α : Type} {f : List Tok → Rs α} (hf : Eats f) (last : Bs) : Eats (someS f last):=hf.go fun _ => ((anyS_eats hf last).keeps).go fun _ => keeps_ok _
theorem eats_tail {α : Type} {c : List Tok → Bool} (hc : ∀ l,c l = true → 0 < l.length) {f g : List Tok → Rs α} (hf : Keeps f) (hg : Eats g) : Eats (fun l => if c l then f l.tail else g l):=by
 intro l a m h
 simp only at h
 split at h
 ·rename_i hk
  have:=hc l hk
  have:=hf _ _ _ h
  simp at this;omega
 ·exact hg _ _ _ h
theorem keeps_tail {α : Type} {c : List Tok → Bool} {f g : List Tok → Rs α} (hf : Keeps f) (hg : Keeps g) : Keeps (fun l => if c l then f l.tail else g l):=by
 intro l a m h
 simp only at h
 split at h
 ·have:=hf _ _ _ h
  simp at this;omega
 ·exact hg _ _ _ h
theorem eats_if {α : Type} {c : List Tok → Bool} {f g : List Tok → Rs α} (hf : Eats f) (hg : Eats g) : Eats (fun l => if c l then f l else g l):=by
 intro l a m h
 simp only at h
 split at h
 ·exact hf _ _ _ h
 ·exact hg _ _ _ h
theorem eats_err {α : Type} (g : List Tok → Nat × Int) : Eats (fun l => (.error (g l) : Rs α)):=fun l a m h => by cases h
theorem eats_ok {α : Type} (c : List Tok → Bool) (hc : ∀ l,c l = true → 0 < l.length) (x : List Tok → α) {g : List Tok → Rs α} (hg : Eats g) : Eats (fun l => if c l then .ok (x l,l.tail) else g l):=by
 intro l a m h
 simp only at h
 split at h
 ·rename_i hk
  have:=hc l hk
  cases h
  simp;omega
 ·exact hg _ _ _ h
theorem anyF_fuel {α : Type} {f : List Tok → Rs α} (hf : Eats f) (last : Bs) : ∀ (n m : Nat) (l : List Tok),l.length < n → l.length < m → anyF f last n l = anyF f last m l
 | 0,_,_,h,_ => absurd h (Nat.not_lt_zero _)
 | _ + 1,0,_,_,h => absurd h (Nat.not_lt_zero _)
 | n + 1,m + 1,l,hn,hm => by
  unfold anyF
  split
  ·rfl
  ·cases h : f l with
   | error p => rfl
   | ok p =>
    obtain ⟨a,l1⟩:=p
    have:=hf _ _ _ h
    simp only [go_ok]
    rw [anyF_fuel hf last n m l1 (by omega) (by omega)]
theorem anyS_eq {α : Type} {f : List Tok → Rs α} (hf : Eats f) (last : Bs) (l : List Tok) : anyS f last l = if isP last l then .ok ([],l.tail) else (f l).go fun a l1 => (anyS f last l1).go fun b l2 => .ok (a :: b,l2):=by
 unfold anyS
 conv => lhs;unfold anyF
 split
 ·rfl
 ·cases h : f l with
  | error p => rfl
  | ok p =>
   obtain ⟨a,l1⟩:=p
   have:=hf _ _ _ h
   simp only [go_ok]
   rw [anyF_fuel hf last l.length (l1.length + 1) l1 (by omega) (by omega)]
end Go.Proofs.YtgmlbjfgfmfliaaGreatDoor
namespace Go.Proofs.YtgmlbjfgfmfliaaGreatDoor
open Go
/-- A cell of a tree: a plain value, or a row of n elements of sz cells each, cell by cell. -/
inductive CT where
 | lf (v : Value)
 | rw (E sz n : Nat) (ys : List CT)
def nameS (l : List Tok) : Rs Bs:=if isK 1 l then .ok (txT l,l.tail) else .error (atT l,60)
def mustS (s : Bs) (l : List Tok) : Rs Unit:=if isP s l then .ok ((),l.tail) else .error (atT l,60)
def varS (l : List Tok) : Rs Bs:=(mustS [36] l).go fun _ l1 => nameS l1
def ledF {α : Type} (f : List Tok → Rs α) (first : Bs) : Nat → List Tok → Rs (List α)
 | 0,_ => .error (0,0)
 | k + 1,l => if isP first l then (f l.tail).go fun a l1 => (ledF f first k l1).go fun b l2 => .ok (a :: b,l2) else .ok ([],l)
def ledS {α : Type} (f : List Tok → Rs α) (first : Bs) (l : List Tok) : Rs (List α):=ledF f first (l.length + 1) l
abbrev iC (n : Int) : CT:=.lf (.int .i64 n)
abbrev sC (t : Bs) : CT:=.lf (.string ⟨t.toArray⟩)
abbrev bC (b : Bool) : CT:=.lf (.bool b)
abbrev rowC (E sz : Nat) (els : List (List CT)) : CT:=.rw E sz els.length els.flatten
abbrev valC (k : Int) (t : Bs) (vs ns : List (List CT)) : List CT:=[iC k,sC t,rowC 35 4 vs,rowC 9 1 ns]
def namedC (t : Bs) : List CT:=if t = [110,117,108,108] then valC 0 [] [] [] else if t = [102,97,108,115,101] then valC 1 [] [] [] else if t = [116,114,117,101] then valC 2 [] [] [] else valC 7 t [] []
def memS (f : List Tok → Rs (List CT)) (l : List Tok) : Rs (Bs × List CT):=(nameS l).go fun t l1 => (mustS [58] l1).go fun _ l2 => (f l2).go fun v l3 => .ok ((t,v),l3)
def listS (inner : Option (List Tok → Rs (List CT))) (l : List Tok) : Rs (List CT):=match inner with
 | none => .error (atT l,61)
 | some f => (anyS f [93] l.tail).go fun vs l1 => .ok (valC 8 [] vs [],l1)
def objS (inner : Option (List Tok → Rs (List CT))) (l : List Tok) : Rs (List CT):=match inner with
 | none => .error (atT l,61)
 | some f => (anyS (memS f) [125] l.tail).go fun ms l1 => .ok (valC 9 [] (ms.map (·.2)) (ms.map fun m => [sC m.1]),l1)
def signS (fx : Bool) (inner : Option (List Tok → Rs (List CT))) (l : List Tok) : Rs (List CT) :=
 if isP [91] l then listS inner l else if isP [123] l then objS inner l else if fx then .error (atT l,60) else (varS l).go fun t l1 => .ok (valC 3 t [] [],l1)
def valG (fx : Bool) (inner : Option (List Tok → Rs (List CT))) (l : List Tok) : Rs (List CT) :=
 if isK 1 l then .ok (namedC (txT l),l.tail) else if isK 2 l then .ok (valC 4 (txT l) [] [],l.tail) else if isK 3 l then .ok (valC 5 (txT l) [] [],l.tail) else if isK 4 l then .ok (valC 6 (txT l) [] [],l.tail) else signS fx inner l
/-- A value, at most n within one another. -/
def valF (fx : Bool) : Nat → List Tok → Rs (List CT)
 | 0 => valG fx none
 | n + 1 => valG fx (some (valF fx n))
def inF (fx : Bool) : Nat → Option (List Tok → Rs (List CT))
 | 0 => none
 | n + 1 => some (valF fx n)
theorem valF_eq (fx : Bool) (n : Nat) : valF fx n = valG fx (inF fx n):=by cases n <;> rfl
def argS (fx : Bool) (l : List Tok) : Rs (List CT):=(memS (valF fx 32) l).go fun m l1 => .ok (sC m.1 :: m.2,l1)
def argsS (fx : Bool) (l : List Tok) : Rs (List (List CT)):=if isP [40] l then someS (argS fx) [41] l.tail else .ok ([],l)
def dirS (fx : Bool) (l : List Tok) : Rs (List CT):=(nameS l).go fun t l1 => (argsS fx l1).go fun a l2 => .ok ([sC t,rowC 43 5 a],l2)
def dirsS (fx : Bool) (l : List Tok) : Rs (List (List CT)):=ledS (dirS fx) [64] l
def refB (x : Bs × Bs) (l : List Tok) : Rs (Bs × Bs):=if isP [33] l then .ok ((x.1,x.2 ++ [33]),l.tail) else .ok (x,l)
def refG (inner : Option (List Tok → Rs (Bs × Bs))) (l : List Tok) : Rs (Bs × Bs) :=
 (if isP [91] l then (match inner with
  | none => .error (atT l,61)
  | some f => (f l.tail).go fun x l1 => (mustS [93] l1).go fun _ l2 => .ok ((x.1,x.2 ++ [91]),l2)) else (nameS l).go fun t l1 => .ok ((t,[]),l1)).go refB
def refF : Nat → List Tok → Rs (Bs × Bs)
 | 0 => refG none
 | n + 1 => refG (some (refF n))
def defS (l : List Tok) : Rs (Bool × List CT):=if isP [61] l then (valF true 32 l.tail).go fun v l1 => .ok ((true,v),l1) else .ok ((false,valC 0 [] [] []),l)
def varDefS (l : List Tok) : Rs (List CT):=(varS l).go fun t l1 => (mustS [58] l1).go fun _ l2 => (refF 32 l2).go fun x l3 => (defS l3).go fun d l4 => (dirsS true l4).go fun ds l5 =>
 .ok ([sC t,sC x.1,sC x.2,bC d.1] ++ d.2 ++ [rowC 102 2 ds],l5)
def varsS (l : List Tok) : Rs (List (List CT)):=if isP [40] l then someS varDefS [41] l.tail else .ok ([],l)
abbrev selC (k : Int) (a n o : Bs) (as_ ds ss : List (List CT)) : List CT:=[iC k,sC a,sC n,sC o,rowC 43 5 as_,rowC 102 2 ds,rowC 48 7 ss]
abbrev onB : Bs:=[111,110]
def nickS (l : List Tok) : Rs (Bs × Bs):=(nameS l).go fun t l1 => if isP [58] l1 then (nameS l1.tail).go fun u l2 => .ok ((t,u),l2) else .ok (([],t),l1)
def withS (st : List Tok → Rs (List (List CT))) (l : List Tok) : Rs (List (List CT)):=if isP [123] l then st l else .ok ([],l)
def fieldS (st : List Tok → Rs (List (List CT))) (l : List Tok) : Rs (List CT):=(nickS l).go fun p l2 => (argsS false l2).go fun a l3 => (dirsS false l3).go fun ds l4 => (withS st l4).go fun ss l5 => .ok (selC 0 p.1 p.2 [] a ds ss,l5)
def spreadS (l : List Tok) : Rs (List CT):=(nameS l).go fun t l1 => (dirsS false l1).go fun ds l2 => .ok (selC 1 [] t [] [] ds [],l2)
def onS (l : List Tok) : Rs Bs:=if isW onB l then nameS l.tail else .ok ([],l)
def inlineS (st : List Tok → Rs (List (List CT))) (l : List Tok) : Rs (List CT):=(onS l).go fun t l1 => (dirsS false l1).go fun ds l2 => (st l2).go fun ss l3 => .ok (selC 2 [] [] t [] ds ss,l3)
def selS (st : List Tok → Rs (List (List CT))) (l : List Tok) : Rs (List CT):=if isP [46,46,46] l then (if isK 1 l.tail && !isW onB l.tail then spreadS l.tail else inlineS st l.tail) else fieldS st l
def setG (inner : Option (List Tok → Rs (List (List CT)))) (l : List Tok) : Rs (List (List CT)):=if isP [123] l then (match inner with
 | none => .error (atT l,61)
 | some st => someS (selS st) [125] l.tail) else .error (atT l,60)
/-- A set of selections, at most n within one another. -/
def setF : Nat → List Tok → Rs (List (List CT))
 | 0 => setG none
 | n + 1 => setG (some (setF n))
abbrev opC (k : Int) (t : Bs) (vs ds ss : List (List CT)) : List CT:=[iC k,sC t,rowC 99 9 vs,rowC 102 2 ds,rowC 48 7 ss]
abbrev fragC (t u : Bs) (ds ss : List (List CT)) : List CT:=[sC t,sC u,rowC 102 2 ds,rowC 48 7 ss]
def kindS (l : List Tok) : Rs Int:=if isW [113,117,101,114,121] l then .ok (0,l.tail) else if isW [109,117,116,97,116,105,111,110] l then .ok (1,l.tail) else if isW [115,117,98,115,99,114,105,112,116,105,111,110] l then .ok (2,l.tail) else .error (atT l,60)
def titleS (l : List Tok) : Rs Bs:=if isK 1 l then nameS l else .ok ([],l)
def opS (l : List Tok) : Rs (List CT):=if isP [123] l then (setF 32 l).go fun ss l1 => .ok (opC 0 [] [] [] ss,l1) else
 (kindS l).go fun k l1 => (titleS l1).go fun t l2 => (varsS l2).go fun vs l3 => (dirsS false l3).go fun ds l4 => (setF 32 l4).go fun ss l5 => .ok (opC k t vs ds ss,l5)
def mustW (s : Bs) (l : List Tok) : Rs Unit:=if isW s l then .ok ((),l.tail) else .error (atT l,60)
def notOn (l : List Tok) : Rs Unit:=if isW onB l then .error (atT l,60) else .ok ((),l)
def fragS (l : List Tok) : Rs (List CT):=(notOn l).go fun _ l0 => (nameS l0).go fun t l1 => (mustW onB l1).go fun _ l2 => (nameS l2).go fun u l3 => (dirsS false l3).go fun ds l4 => (setF 32 l4).go fun ss l5 => .ok (fragC t u ds ss,l5)
def fragB : Bs:=[102,114,97,103,109,101,110,116]
/-- A fragment (true), or an operation. -/
def itemS (l : List Tok) : Rs (Bool × List CT):=if isW fragB l then (fragS l.tail).go fun x l1 => .ok ((true,x),l1) else (opS l).go fun x l1 => .ok ((false,x),l1)
def opsOf (xs : List (Bool × List CT)) : List (List CT):=(xs.filter fun x => !x.1).map (·.2)
def fragsOf (xs : List (Bool × List CT)) : List (List CT):=(xs.filter fun x => x.1).map (·.2)
abbrev docC (xs : List (Bool × List CT)) : List CT:=[rowC 51 5 (opsOf xs),rowC 65 4 (fragsOf xs)]
def docS (l : List Tok) : Rs (List CT):=(someS itemS [] l).go fun xs l1 => .ok (docC xs,l1)
def parseS (s : Bs) : Except (Nat × Int) (List CT):=match lexS s with
 | .inl p => .error p
 | .inr ts => match docS (ts ++ [eofT s.length]) with
  | .error p => .error p
  | .ok p => .ok p.1
/-! ### Each reads something -/
theorem nameS_eats : Eats nameS:=by
 intro l a m h
 unfold nameS at h
 split at h
 ·rename_i hk
  have:=isK_pos hk
  cases h
  simp;omega
 ·cases h
theorem mustS_eats (s : Bs) : Eats (mustS s):=by
 intro l a m h
 unfold mustS at h
 split at h
 ·rename_i hk
  have:=isP_pos hk
  cases h
  simp;omega
 ·cases h
theorem mustW_eats (s : Bs) : Eats (mustW s):=by
 intro l a m h
 unfold mustW at h
 split at h
 ·rename_i hk
  have:=isW_pos hk
  cases h
  simp;omega
 ·cases h
theorem varS_eats : Eats varS:=(mustS_eats _).go fun _ => nameS_eats.keeps
theorem ledF_keeps {α : Type} {f : List Tok → Rs α} (hf : Keeps f) (first : Bs) : ∀ k,Keeps (ledF f first k)
 | 0 => fun l a m h => by cases h
 | k + 1 => by
  intro l a m h
  unfold ledF at h
  split at h
  ·rename_i hk
   have:=isP_pos hk
   obtain ⟨b,l1,h1,h2⟩:=go_ok_inv h
   obtain ⟨c,l2,h3,h4⟩:=go_ok_inv h2
   cases h4
   have:=hf _ _ _ h1
   have:=ledF_keeps hf first k _ _ _ h3
   simp at *;omega
  ·cases h;exact Nat.le_refl _
theorem ledS_keeps {α : Type} {f : List Tok → Rs α} (hf : Keeps f) (first : Bs) : Keeps (ledS f first):=fun l a m h => ledF_keeps hf first _ l a m h
theorem memS_eats {f : List Tok → Rs (List CT)} (hf : Keeps f) : Eats (memS f):=nameS_eats.go fun _ => (mustS_eats _).keeps.go fun _ => hf.go fun _ => keeps_ok _
theorem listS_eats {inner : Option (List Tok → Rs (List CT))} (hi : ∀ f,inner = some f → Eats f) : Eats (listS inner):=by
 cases inner with
 | none => exact eats_err _
 | some f =>
  intro l a m h
  unfold listS at h
  obtain ⟨b,l1,h1,h2⟩:=go_ok_inv h
  cases h2
  have:=anyS_eats (hi f rfl) _ _ _ _ h1
  simp at this;omega
theorem objS_eats {inner : Option (List Tok → Rs (List CT))} (hi : ∀ f,inner = some f → Eats f) : Eats (objS inner):=by
 cases inner with
 | none => exact eats_err _
 | some f =>
  intro l a m h
  unfold objS at h
  obtain ⟨b,l1,h1,h2⟩:=go_ok_inv h
  cases h2
  have:=anyS_eats (memS_eats (hi f rfl).keeps) _ _ _ _ h1
  simp at this;omega
theorem signS_eats (fx : Bool) {inner : Option (List Tok → Rs (List CT))} (hi : ∀ f,inner = some f → Eats f) : Eats (signS fx inner) :=
 eats_if (listS_eats hi) (eats_if (objS_eats hi) (eats_if (c:=fun _ => fx) (eats_err _) (varS_eats.go fun _ => keeps_ok _)))
theorem valG_eats (fx : Bool) {inner : Option (List Tok → Rs (List CT))} (hi : ∀ f,inner = some f → Eats f) : Eats (valG fx inner) :=
 eats_ok (isK 1) (fun _ => isK_pos) _ (eats_ok (isK 2) (fun _ => isK_pos) _ (eats_ok (isK 3) (fun _ => isK_pos) _ (eats_ok (isK 4) (fun _ => isK_pos) _ (signS_eats fx hi))))
theorem valF_eats (fx : Bool) : ∀ n,Eats (valF fx n)
 | 0 => valG_eats fx (fun f h => by cases h)
 | n + 1 => valG_eats fx (fun f h => by cases h;exact valF_eats fx n)
theorem argS_eats (fx : Bool) : Eats (argS fx):=(memS_eats (valF_eats fx 32).keeps).go fun _ => keeps_ok _
theorem argsS_keeps (fx : Bool) : Keeps (argsS fx):=keeps_tail (someS_eats (argS_eats fx) _).keeps (keeps_ok _)
theorem dirS_eats (fx : Bool) : Eats (dirS fx):=nameS_eats.go fun _ => (argsS_keeps fx).go fun _ => keeps_ok _
theorem dirsS_keeps (fx : Bool) : Keeps (dirsS fx):=ledS_keeps (dirS_eats fx).keeps _
theorem refB_keeps (x : Bs × Bs) : Keeps (refB x):=keeps_tail (c:=isP [33]) (keeps_ok _) (keeps_ok _)
theorem refG_eats {inner : Option (List Tok → Rs (Bs × Bs))} (hi : ∀ f,inner = some f → Eats f) : Eats (refG inner):=by
 refine Eats.go (f:=fun l => if isP [91] l then (match inner with
  | none => .error (atT l,61)
  | some f => (f l.tail).go fun x l1 => (mustS [93] l1).go fun _ l2 => .ok ((x.1,x.2 ++ [91]),l2)) else (nameS l).go fun t l1 => .ok ((t,[]),l1)) (eats_if ?_ (nameS_eats.go fun _ => keeps_ok _)) refB_keeps
 cases inner with
 | none => exact eats_err _
 | some f =>
  intro l a m h
  obtain ⟨b,l1,h1,h2⟩:=go_ok_inv h
  obtain ⟨c,l2,h3,h4⟩:=go_ok_inv h2
  cases h4
  have:=hi f rfl _ _ _ h1
  have:=mustS_eats _ _ _ _ h3
  simp at *;omega
theorem refF_eats : ∀ n,Eats (refF n)
 | 0 => refG_eats (fun f h => by cases h)
 | n + 1 => refG_eats (fun f h => by cases h;exact refF_eats n)
theorem defS_keeps : Keeps defS:=keeps_tail (c:=isP [61]) ((valF_eats true 32).keeps.go fun _ => keeps_ok _) (keeps_ok _)
theorem varDefS_eats : Eats varDefS:=varS_eats.go fun _ => (mustS_eats _).keeps.go fun _ => (refF_eats 32).keeps.go fun _ => defS_keeps.go fun _ => (dirsS_keeps true).go fun _ => keeps_ok _
theorem varsS_keeps : Keeps varsS:=keeps_tail (someS_eats varDefS_eats _).keeps (keeps_ok _)
theorem nickS_eats : Eats nickS:=nameS_eats.go fun _ => keeps_tail (c:=isP [58]) (nameS_eats.keeps.go fun _ => keeps_ok _) (keeps_ok _)
theorem withS_keeps {st : List Tok → Rs (List (List CT))} (h : Keeps st) : Keeps (withS st):=by
 intro l a m e
 unfold withS at e
 split at e
 ·exact h _ _ _ e
 ·cases e;exact Nat.le_refl _
theorem fieldS_eats {st : List Tok → Rs (List (List CT))} (h : Keeps st) : Eats (fieldS st):=nickS_eats.go fun _ => (argsS_keeps false).go fun _ => (dirsS_keeps false).go fun _ => (withS_keeps h).go fun _ => keeps_ok _
theorem onS_keeps : Keeps onS:=keeps_tail (c:=isW onB) nameS_eats.keeps (keeps_ok _)
theorem spreadS_eats : Eats spreadS:=nameS_eats.go fun _ => (dirsS_keeps false).go fun _ => keeps_ok _
theorem inlineS_keeps {st : List Tok → Rs (List (List CT))} (h : Keeps st) : Keeps (inlineS st):=onS_keeps.go fun _ => (dirsS_keeps false).go fun _ => h.go fun _ => keeps_ok _
theorem selS_eats {st : List Tok → Rs (List (List CT))} (h : Keeps st) : Eats (selS st):=by
 refine eats_tail (c:=isP [46,46,46]) (fun _ => isP_pos) (f:=fun l => if isK 1 l && !isW onB l then spreadS l else inlineS st l) ?_ (fieldS_eats h)
 intro l a m e
 simp only at e
 split at e
 ·exact spreadS_eats.keeps _ _ _ e
 ·exact inlineS_keeps h _ _ _ e
theorem setG_eats {inner : Option (List Tok → Rs (List (List CT)))} (hi : ∀ f,inner = some f → Eats f) : Eats (setG inner):=by
 refine eats_if (c:=isP [123]) ?_ (eats_err _)
 cases inner with
 | none => exact eats_err _
 | some f =>
  intro l a m h
  have:=someS_eats (selS_eats (hi f rfl).keeps) _ _ _ _ h
  simp at this;omega
theorem setF_eats : ∀ n,Eats (setF n)
 | 0 => setG_eats (fun f h => by cases h)
 | n + 1 => setG_eats (fun f h => by cases h;exact setF_eats n)
theorem kindS_eats : Eats kindS:=eats_ok (isW _) (fun _ => isW_pos) (fun _ => 0) (eats_ok (isW _) (fun _ => isW_pos) (fun _ => 1) (eats_ok (isW _) (fun _ => isW_pos) (fun _ => 2) (eats_err _)))
theorem titleS_keeps : Keeps titleS:=by
 intro l a m e
 unfold titleS at e
 split at e
 ·exact nameS_eats.keeps _ _ _ e
 ·cases e;exact Nat.le_refl _
theorem opS_eats : Eats opS:=eats_if (c:=isP [123]) ((setF_eats 32).go fun _ => keeps_ok _) (kindS_eats.go fun _ => titleS_keeps.go fun _ => varsS_keeps.go fun _ => (dirsS_keeps false).go fun _ => (setF_eats 32).keeps.go fun _ => keeps_ok _)
theorem notOn_keeps : Keeps notOn:=by
 intro l a m e
 unfold notOn at e
 split at e
 ·cases e
 ·cases e;exact Nat.le_refl _
theorem fragS_eats : Eats fragS:=notOn_keeps.go_eats fun _ => nameS_eats.go fun _ => (mustW_eats _).keeps.go fun _ => nameS_eats.keeps.go fun _ => (dirsS_keeps false).go fun _ => (setF_eats 32).keeps.go fun _ => keeps_ok _
theorem itemS_eats : Eats itemS:=eats_tail (c:=isW fragB) (fun _ => isW_pos) (fragS_eats.keeps.go fun _ => keeps_ok _) (opS_eats.go fun _ => keeps_ok _)
/-! ### Fuel -/
theorem ledF_fuel {α : Type} {f : List Tok → Rs α} (hf : Keeps f) (first : Bs) : ∀ (n m : Nat) (l : List Tok),l.length < n → l.length < m → ledF f first n l = ledF f first m l
 | 0,_,_,h,_ => absurd h (Nat.not_lt_zero _)
 | _ + 1,0,_,_,h => absurd h (Nat.not_lt_zero _)
 | n + 1,m + 1,l,hn,hm => by
  unfold ledF
  split
  ·rename_i hk
   have h0:=isP_pos hk
   cases h : f l.tail with
   | error p => rfl
   | ok p =>
    obtain ⟨a,l1⟩:=p
    have:=hf _ _ _ h
    simp only [go_ok]
    simp at this
    rw [ledF_fuel hf first n m l1 (by omega) (by omega)]
  ·rfl
theorem ledS_eq {α : Type} {f : List Tok → Rs α} (hf : Keeps f) (first : Bs) (l : List Tok) : ledS f first l = if isP first l then (f l.tail).go fun a l1 => (ledS f first l1).go fun b l2 => .ok (a :: b,l2) else .ok ([],l):=by
 unfold ledS
 conv => lhs;unfold ledF
 split
 ·rename_i hk
  have h0:=isP_pos hk
  cases h : f l.tail with
  | error p => rfl
  | ok p =>
   obtain ⟨a,l1⟩:=p
   have:=hf _ _ _ h
   simp only [go_ok]
   simp at this
   rw [ledF_fuel hf first l.length (l1.length + 1) l1 (by omega) (by omega)]
 ·rfl
end Go.Proofs.YtgmlbjfgfmfliaaGreatDoor
namespace Go.Proofs.YtgmlbjfgfmfliaaGreatDoor
open Go Go.RowKit
/-- Of what was there only these blocks may have changed. -/
structure Kp (S : Nat → Prop) (w w' : World) : Prop where
 os : w'.os = w.os
 tape : w'.tape = w.tape
 output : w'.output = w.output
 size : w.heap.size ≤ w'.heap.size
 block : ∀ k,k < w.heap.size → ¬ S k → w'.heap[k]? = w.heap[k]?
theorem Kp.refl (S : Nat → Prop) (w : World) : Kp S w w:=⟨rfl,rfl,rfl,Nat.le_refl _,fun _ _ _ => rfl⟩
theorem Kp.trans {S : Nat → Prop} {a b c : World} (h : Kp S a b) (h' : Kp S b c) : Kp S a c :=
 ⟨h'.os.trans h.os,h'.tape.trans h.tape,h'.output.trans h.output,Nat.le_trans h.size h'.size,fun k hk hS => (h'.block k (Nat.lt_of_lt_of_le hk h.size) hS).trans (h.block k hk hS)⟩
theorem Kp.mono {S T : Nat → Prop} {a b : World} (h : Kp S a b) (hT : ∀ k,k < a.heap.size → S k → T k) : Kp T a b :=
 ⟨h.os,h.tape,h.output,h.size,fun k hk hn => h.block k hk (fun hs => hn (hT k hk hs))⟩
theorem Kp.below {S : Nat → Prop} {a b : World} {B : Nat} (h : Kp S a b) (hB : B ≤ a.heap.size) (hS : ∀ k,k < B → ¬ S k) : Below B a b :=
 ⟨h.os,h.tape,h.output,h.size,fun k hk => h.block k (Nat.lt_of_lt_of_le hk hB) (hS k hk)⟩
theorem Kp.of_below {S : Nat → Prop} {a b : World} (h : Below a.heap.size a b) : Kp S a b:=⟨h.os,h.tape,h.output,h.size,fun k hk _ => h.block k hk⟩
theorem Kp.alloc {S : Nat → Prop} {a b : World} (h : Kp S a b) (o : Obj) : Kp S a (b.alloc o):=h.trans (Kp.of_below ((Below.refl _ _).alloc (Nat.le_refl _) _))
theorem Kp.set {S : Nat → Prop} {a b : World} (h : Kp S a b) (g i : Nat) (v : Value) (hg : a.heap.size ≤ g ∨ S g) : Kp S a (b.setCell ⟨g,i,none⟩ v) :=
 ⟨h.os,h.tape,h.output,Nat.le_trans h.size (by simp [World.setCell]),fun k hk hS => (Below.heap_setCell b ⟨g,i,none⟩ v k (fun e => by
  have e' : k = g:=e
  rcases hg with hg | hg
  ·omega
  ·exact hS (e' ▸ hg))).trans (h.block k hk hS)⟩
theorem Kp.drew {S : Nat → Prop} {a b : World} (h : Kp S a b) : Kp S a b.drew:=⟨h.os,h.tape,h.output,h.size,h.block⟩
theorem Kp.drewN {S : Nat → Prop} {a b : World} (h : Kp S a b) (n : Nat) : Kp S a (b.drewN n):=⟨h.os,h.tape,h.output,h.size,h.block⟩
theorem Kp.then_below {S : Nat → Prop} {a b c : World} (h : Kp S a b) (hb : Below a.heap.size b c) : Kp S a c :=
 ⟨hb.os.trans h.os,hb.tape.trans h.tape,hb.output.trans h.output,Nat.le_trans h.size hb.size,fun k hk hS => (hb.block k hk).trans (h.block k hk hS)⟩
/-- Only the reader's own block. -/
abbrev Own1 (R : Nat) : Nat → Prop:=fun k => k = R
theorem Kp.own {w : World} (R i : Nat) (v : Value) : Kp (Own1 R) w (w.setCell ⟨R,i,none⟩ v):=(Kp.refl (Own1 R) w).set R i v (Or.inr rfl)
theorem Kp.n {S : Nat → Prop} (w : World) (n : Nat) : Kp S w (w.drewN n):=(Kp.refl S w).drewN n
/-- The package variables that are read: their blocks, and that they hold something. -/
abbrev gM : Nat:=0
abbrev gE : Nat:=4
structure Gl (w : World) : Prop where
 mx : ∃ m,w.cell? ⟨gM,0,none⟩ = some (.int .i64 m)
 es : ∃ ev,w.cell? ⟨gE,0,none⟩ = some ev ∧ (ev = .nilIface ∨ ∃ te pe,ev = .iface te pe)
theorem cell_heap {w w' : World} {g : Nat} (h : w'.heap[g]? = w.heap[g]?) : w'.cell? ⟨g,0,none⟩ = w.cell? ⟨g,0,none⟩:=by
 unfold World.cell?;rw [h]
theorem Gl.of {w w' : World} (h : Gl w) (h1 : w'.heap[gM]? = w.heap[gM]?) (h2 : w'.heap[gE]? = w.heap[gE]?) : Gl w':=by
 obtain ⟨⟨m,hm⟩,⟨ev,he,h3⟩⟩:=h
 exact ⟨⟨m,(cell_heap h1).trans hm⟩,⟨ev,(cell_heap h2).trans he,h3⟩⟩
theorem Gl.ltM {w : World} (h : Gl w) : gM < w.heap.size:=by
 obtain ⟨m,hm⟩:=h.mx
 exact World.block_lt_of_cell? w _ hm
theorem Gl.ltE {w : World} (h : Gl w) : gE < w.heap.size:=by
 obtain ⟨m,hm,_⟩:=h.es
 exact World.block_lt_of_cell? w _ hm
theorem Gl.below {w w' : World} (h : Gl w) {B : Nat} (hb : Below B w w') (hB : w.heap.size ≤ B) : Gl w' :=
 h.of (hb.block _ (Nat.lt_of_lt_of_le h.ltM hB)) (hb.block _ (Nat.lt_of_lt_of_le h.ltE hB))
theorem Gl.kp {w w' : World} (h : Gl w) {S : Nat → Prop} (hk : Kp S w w') (h1 : ¬ S gM) (h2 : ¬ S gE) : Gl w':=h.of (hk.block _ h.ltM h1) (hk.block _ h.ltE h2)
theorem Gl.alloc {w : World} (h : Gl w) (o : Obj) : Gl (w.alloc o):=h.of (Below.heap_alloc w o _ h.ltM) (Below.heap_alloc w o _ h.ltE)
/-- The reader R of the document s: where the token begins, what is left. -/
structure Rd (w : World) (R : Nat) (s : Bs) (b : Nat) (l : Bs) : Prop where
 row : w.heap[R]? = some (.cells #[.string ⟨s.toArray⟩,.int .i64 (b : Int),.int .i64 ((s.length - l.length : Nat) : Int)] 149 (0,0))
 suf : l <:+ s
 small : s.length ≤ 16384
 gl : Gl w
 hi : gM < R ∧ gE < R
section
variable {w w' : World} {R : Nat} {s : Bs} {b : Nat} {l : Bs}
theorem Rd.c0 (h : Rd w R s b l) : w.cell? ⟨R,0,none⟩ = some (.string ⟨s.toArray⟩):=by simp [World.cell?,h.row]
theorem Rd.c1 (h : Rd w R s b l) : w.cell? ⟨R,1,none⟩ = some (.int .i64 (b : Int)):=by simp [World.cell?,h.row]
theorem Rd.c2 (h : Rd w R s b l) : w.cell? ⟨R,2,none⟩ = some (.int .i64 ((s.length - l.length : Nat) : Int)):=by simp [World.cell?,h.row]
theorem Rd.free (h : Rd w R s b l) (i : Nat) : w.frozen? ⟨R,i,none⟩ = false:=frozen_of_row w R i _ _ h.row
theorem Rd.lt (h : Rd w R s b l) : R < w.heap.size:=World.block_lt_of_cell? w _ h.c0
theorem Rd.le (h : Rd w R s b l) : l.length ≤ s.length:=h.suf.length_le
theorem Rd.move (h : Rd w R s b l) {m : Bs} (hm : m <:+ l) (x : Int) (hx : x = ((s.length - m.length : Nat) : Int)) : Rd (w.setCell ⟨R,2,none⟩ (.int .i64 x)) R s b m:=by
 subst hx
 exact ⟨heap_setCell_same w R 2 _ _ _ h.row,hm.trans h.suf,h.small,h.gl.kp (Kp.own R 2 _) (fun e => absurd e (Nat.ne_of_lt h.hi.1)) (fun e => absurd e (Nat.ne_of_lt h.hi.2)),h.hi⟩
theorem Rd.begin (h : Rd w R s b l) (b' : Nat) (x : Int) (hx : x = (b' : Int)) : Rd (w.setCell ⟨R,1,none⟩ (.int .i64 x)) R s b' l:=by
 subst hx
 exact ⟨heap_setCell_same w R 1 _ _ _ h.row,h.suf,h.small,h.gl.kp (Kp.own R 1 _) (fun e => absurd e (Nat.ne_of_lt h.hi.1)) (fun e => absurd e (Nat.ne_of_lt h.hi.2)),h.hi⟩
theorem Rd.alloc (h : Rd w R s b l) (o : Obj) : Rd (w.alloc o) R s b l:=⟨(Below.heap_alloc w o R h.lt).trans h.row,h.suf,h.small,h.gl.alloc o,h.hi⟩
theorem Rd.drewN (h : Rd w R s b l) (n : Nat) : Rd (w.drewN n) R s b l:=⟨h.row,h.suf,h.small,h.gl.of rfl rfl,h.hi⟩
theorem Rd.below {B : Nat} (h : Rd w R s b l) (hb : Below B w w') (hR : R < B) : Rd w' R s b l:=⟨(hb.block R hR).trans h.row,h.suf,h.small,h.gl.of (hb.block _ (Nat.lt_trans h.hi.1 hR)) (hb.block _ (Nat.lt_trans h.hi.2 hR)),h.hi⟩
end
/-- Where the reader stands, in plain numbers: the document's size, the place, the rest as a slice. -/
theorem suf_facts {s l : Bs} (h : l <:+ s) : (ByteArray.mk s.toArray).size = s.length ∧ (ByteArray.mk s.toArray).extract (s.length - l.length) s.length = ⟨l.toArray⟩ ∧ s.length - l.length + l.length = s.length:=by
 obtain ⟨p,rfl⟩:=h
 refine ⟨rfl,?_,by simp⟩
 have e : (p ++ l).length - l.length = p.length:=by simp
 rw [e]
 apply ByteArray.ext;apply Array.toList_inj.1;simp
theorem suf_get {s l : Bs} {c : UInt8} (h : (c :: l) <:+ s) : ∀ hlt,(ByteArray.mk s.toArray)[s.length - (c :: l).length]'hlt = c:=by
 obtain ⟨p,rfl⟩:=h
 intro hlt
 show (p ++ c :: l).toArray[(p ++ c :: l).length - (c :: l).length] = c
 simp
theorem tail_suf (c : UInt8) (l : Bs) : l <:+ c :: l:=List.suffix_cons c l
theorem drop_suf (n : Nat) (l : Bs) : l.drop n <:+ l:=List.drop_suffix n l
theorem spanR_suf (S : Bs) : ∀ l,spanR S l <:+ l
 | [] => List.suffix_refl _
 | c :: l => by
  unfold spanR
  split
  ·exact (spanR_suf S l).trans (tail_suf c l)
  ·exact List.suffix_refl _
theorem spanN_suf (S : Bs) : ∀ l,spanN S l <:+ l
 | [] => List.suffix_refl _
 | c :: l => by
  unfold spanN
  split
  ·exact List.suffix_refl _
  ·exact (spanN_suf S l).trans (tail_suf c l)
theorem optT_suf (p l : Bs) : optT p l <:+ l:=by
 unfold optT;split
 ·exact drop_suf _ _
 ·exact List.suffix_refl _
theorem optO_suf (p l : Bs) : optO p l <:+ l:=by
 unfold optO;split
 ·exact drop_suf _ _
 ·exact List.suffix_refl _
theorem index_ge0 (S : Bs) (c : UInt8) : decide (0 ≤ Lib.indexByte S c) = S.contains c:=by
 induction S with
 | nil => rfl
 | cons d S ih =>
  show decide (0 ≤ (if d == c then (0 : Int) else if Lib.indexByte S c == -1 then -1 else Lib.indexByte S c + 1)) = _
  by_cases h : d = c
  ·subst h;simp
  ·rw [if_neg (by simpa using h)]
   have e : (d :: S).contains c = S.contains c:=by
    rw [List.contains_cons]
    have : (c == d) = false:=by rw [beq_eq_false_iff_ne];exact fun e => h e.symm
    rw [this];rfl
   rw [e,← ih]
   by_cases h2 : Lib.indexByte S c = -1
   ·rw [if_pos (by simpa using h2),h2]
   ·rw [if_neg (by simpa using h2)]
    have:=Lib.indexByte_ge S c
    rw [decide_eq_true (by omega),decide_eq_true (by omega)]
theorem size_of (l : Bs) : (ByteArray.mk l.toArray).size = l.length:=rfl
/-- The panic with this fault. -/
abbrev Dies (b : Nat) (e : Int) : Ending:=.panicked [{ v:=.iface 114 (.agg #[.int .i64 (b : Int),.int .i64 e]),recovered:=false }]
end Go.Proofs.YtgmlbjfgfmfliaaGreatDoor
