/- The tokens of a document, as plain functions on lists of bytes. -/
import Derived.Test.YtlabcadpkdgjnaaGreatDoorRnFuns
namespace Go.Proofs.YtlabcadpkdgjnaaGreatDoor
open Go

abbrev Bs := List UInt8
def digL : Bs := [48, 49, 50, 51, 52, 53, 54, 55, 56, 57]
def letL : Bs := [97, 98, 99, 100, 101, 102, 103, 104, 105, 106, 107, 108, 109, 110, 111, 112, 113, 114, 115, 116, 117, 118, 119, 120, 121, 122, 65, 66, 67, 68, 69, 70, 71, 72, 73, 74, 75, 76, 77, 78, 79, 80, 81, 82, 83, 84, 85, 86, 87, 88, 89, 90, 95]
def punL : Bs := [33, 36, 38, 40, 41, 58, 61, 64, 91, 93, 123, 124, 125]
def ignL : Bs := [9, 32, 10, 13, 44]
def endL : Bs := [10, 13]
/-- Does one of these stand next? -/
def headIn (S : Bs) : Bs → Bool
  | [] => false
  | c :: _ => S.contains c
/-- What is left behind the longest row of these. -/
def spanR (S : Bs) : Bs → Bs
  | [] => []
  | c :: l => if S.contains c then spanR S l else c :: l
/-- What is left behind the longest row of others. -/
def spanN (S : Bs) : Bs → Bs
  | [] => []
  | c :: l => if S.contains c then c :: l else spanN S l
/-- What is ahead of what is left. -/
def ahead (l r : Bs) : Bs := l.take (l.length - r.length)
def needD (l : Bs) : Option Bs := if headIn digL l then some (spanR digL l) else none
def optT (p l : Bs) : Bs := if p.isPrefixOf l then l.drop p.length else l
def optO (S l : Bs) : Bs := if headIn S l then l.drop 1 else l
def numA (l : Bs) : Option Bs := if List.isPrefixOf [48] l then some (l.drop 1) else needD l
def numB (l : Bs) : Option (Int × Bs) := if List.isPrefixOf [46] l then (needD (l.drop 1)).map fun r => (3, r) else some (2, l)
def numC (k : Int) (l : Bs) : Option (Int × Bs) := if headIn [101, 69] l then (needD (optO [43, 45] (l.drop 1))).map fun r => (3, r) else some (k, l)
def numD (k : Int) (l : Bs) : Option (Int × Bs) := if headIn (digL ++ 46 :: letL) l then none else some (k, l)
/-- A number: its kind, and what is left. -/
def numS (l : Bs) : Option (Int × Bs) := (numA (optT [45] l)).bind fun l1 => (numB l1).bind fun p => (numC p.1 p.2).bind fun q => numD q.1 q.2

def hexV (c : UInt8) : Option Nat := if 48 ≤ c.toNat ∧ c.toNat ≤ 57 then some (c.toNat - 48) else if 97 ≤ c.toNat ∧ c.toNat ≤ 102 then some (c.toNat - 87) else if 65 ≤ c.toNat ∧ c.toNat ≤ 70 then some (c.toNat - 55) else none
def halfS (V : Nat) : Bs := [(224 + V / 4096).toUInt8, (128 + V / 64 % 64).toUInt8, (128 + V % 64).toUInt8]
/-- What a number of 16 bits says. -/
def unitS (V : Nat) : Bs := if 55296 ≤ V ∧ V ≤ 57343 then halfS V else (Utf8.encode (V : Int)).data.toList
def nmbS : Bs → Option (Bs × Bs)
  | a :: b :: c :: d :: r => (hexV a).bind fun x => (hexV b).bind fun y => (hexV c).bind fun z => (hexV d).bind fun t => some (unitS (x * 4096 + y * 256 + z * 16 + t), r)
  | _ => none
def escL : Bs := [34, 92, 47, 98, 102, 110, 114, 116]
def saidL : Bs := [34, 92, 47, 8, 12, 10, 13, 9]
/-- What stands behind a stroke. -/
def escS (l : Bs) : Option (Bs × Bs) := if List.isPrefixOf [117] l then nmbS (l.drop 1) else match l with
  | [] => none
  | c :: r => if escL.contains c then some ([saidL.getD (escL.idxOf c) 0], r) else none
/-- A string behind its first quote. -/
def lineF : Nat → Bs → Option (Bs × Bs)
  | 0, _ => none
  | n + 1, l => if List.isPrefixOf [34] l then some ([], l.drop 1) else if List.isPrefixOf [92] l then (escS (l.drop 1)).bind fun p => (lineF n p.2).map fun q => (p.1 ++ q.1, q.2) else match l with
    | [] => none
    | c :: r => if endL.contains c then none else (lineF n r).map fun q => (c :: q.1, q.2)
/-- A block string behind its first quotes. -/
def rawF : Nat → Bs → Option (Bs × Bs)
  | 0, _ => none
  | n + 1, l => if List.isPrefixOf [34, 34, 34] l then some ([], l.drop 3) else if List.isPrefixOf [92, 34, 34, 34] l then (rawF n (l.drop 4)).map fun q => (34 :: 34 :: 34 :: q.1, q.2) else match l with
    | [] => none
    | c :: r => (rawF n r).map fun q => (c :: q.1, q.2)

/-! ### What a block string says -/
/-- All line ends are 10. -/
def normS : Bs → Bs
  | [] => []
  | [c] => [if c = 13 then 10 else c]
  | c :: d :: l => if c = 13 then (if d = 10 then 10 :: normS l else 10 :: normS (d :: l)) else c :: normS (d :: l)
/-- What lies between the bytes 10. -/
def split10 : Bs → List Bs
  | [] => [[]]
  | c :: l => if c = 10 then [] :: split10 l else match split10 l with
    | [] => [[c]]
    | x :: xs => (c :: x) :: xs
/-- The lines: between 10, 13, or 13 and 10. -/
def linesS (l : Bs) : List Bs := split10 (normS l)
def indS (l : Bs) : Nat := l.length - (spanR [9, 32] l).length
def blankB (l : Bs) : Bool := indS l == l.length
def commonS : List Bs → Option Nat → Option Nat
  | [], a => a
  | x :: xs, a => commonS xs (if blankB x then a else match a with
    | none => some (indS x)
    | some n => if indS x < n then some (indS x) else some n)
def cutS (n : Nat) (l : Bs) : Bs := l.drop (min n l.length)
def joinS : List Bs → Bs
  | [] => []
  | [x] => x
  | x :: xs => x ++ 10 :: joinS xs
def trimS (l : List Bs) : List Bs := ((l.dropWhile blankB).reverse.dropWhile blankB).reverse
def blockS (raw : Bs) : Bs := match linesS raw with
  | [] => []
  | x :: xs => joinS (trimS (x :: xs.map (cutS ((commonS xs none).getD 0))))

/-- Source characters alone: else where the first other byte is. -/
def srcB (l : Bs) : Option Nat := if (sourceS ⟨l.toArray⟩).2 = 0 then none else some (sourceS ⟨l.toArray⟩).1.toNat
def textR (l : Bs) : Option (Bs × Bs) := if List.isPrefixOf [34, 34, 34] l then (rawF (l.length + 1) (l.drop 3)).map fun p => (blockS p.1, p.2) else lineF (l.length + 1) (l.drop 1)
def textS (l : Bs) : Option (Bs × Bs) := (textR l).bind fun p => if (srcB (ahead l p.2)).isSome then none else some p
/-- What stands next as a token: kind, text, what is left; or what is wrong. -/
inductive TR where
  | ok (k : Int) (t r : Bs)
  | bad (e : Int)
def wrt (k : Int) (l r : Bs) : TR := .ok k (ahead l r) r
def tokS (l : Bs) : TR :=
  if headIn punL l then wrt 0 l (l.drop 1)
  else if List.isPrefixOf [46, 46, 46] l then wrt 0 l (l.drop 3)
  else if headIn letL l then wrt 1 l (spanR (letL ++ digL) (l.drop 1))
  else if headIn (45 :: digL) l then (match numS l with
    | none => .bad 51
    | some p => wrt p.1 l p.2)
  else if headIn [34] l then (match textS l with
    | none => .bad 52
    | some p => .ok 4 p.1 p.2)
  else .bad 50
/-- A comment: what is left behind it, or how many bytes on it is wrong. -/
def comS (l : Bs) : Option (Bs ⊕ Nat) := if List.isPrefixOf [35] l then some (match srcB (ahead l (spanN endL (l.drop 1))) with
  | none => .inl (spanN endL (l.drop 1))
  | some k => .inr k) else none
/-- What is ignored is gone over: what is left; or how many bytes are left where it is wrong. -/
def skipF : Nat → Bs → Bs ⊕ Nat
  | 0, l => .inl l
  | n + 1, l => if headIn ignL l then skipF n (spanR ignL l) else if List.isPrefixOf [239, 187, 191] l then skipF n (l.drop 3) else match comS l with
    | none => .inl l
    | some (.inl r) => skipF n r
    | some (.inr k) => .inr (l.length - k)
def skipS (l : Bs) : Bs ⊕ Nat := skipF (l.length + 1) l
/-- A token: kind, text, where it begins, where it ends. -/
structure Tok where
  k : Int
  t : Bs
  b : Nat
  e : Nat
deriving DecidableEq
/-- The tokens from here on, c being told already; or where what is wrong. N: how many bytes there are in all. -/
def lexF (N : Nat) : Nat → Nat → Bs → (Nat × Int) ⊕ List Tok
  | 0, _, _ => .inr []
  | n + 1, c, l => match skipS l with
    | .inr k => .inl (N - k, 50)
    | .inl [] => .inr []
    | .inl (x :: l1) => if c = 2048 then .inl (N - (x :: l1).length, 53) else match tokS (x :: l1) with
      | .bad e => .inl (N - (x :: l1).length, e)
      | .ok k t r => match lexF N n (c + 1) r with
        | .inl p => .inl p
        | .inr ts => .inr (⟨k, t, N - (x :: l1).length, N - r.length⟩ :: ts)
def lexS (s : Bs) : (Nat × Int) ⊕ List Tok := if 16384 < s.length then .inl (0, 54) else lexF s.length (s.length + 1) 0 s

/-! ### How a text is quoted -/
def hexD (n : Nat) : UInt8 := if n < 10 then (48 + n).toUInt8 else (87 + n).toUInt8
def escQ (n : Nat) : Bs := [92, 117, hexD (n / 4096), hexD (n / 256 % 16), hexD (n / 16 % 16), hexD (n % 16)]
def quoF : Nat → Bs → Bs
  | 0, _ => []
  | n + 1, l => match l with
    | [] => []
    | c :: r => match (match r with
        | d :: e :: r' => if c = 237 ∧ 160 ≤ d.toNat ∧ d.toNat ≤ 191 ∧ 128 ≤ e.toNat ∧ e.toNat ≤ 191 then some (53248 + (d.toNat - 128) * 64 + (e.toNat - 128), r') else none
        | _ => none) with
      | some (v, r') => escQ v ++ quoF n r'
      | none => (if c = 34 ∨ c = 92 then [92, c] else if c.toNat < 32 ∨ c = 127 then escQ c.toNat else [c]) ++ quoF n r
def quoS (l : Bs) : Bs := 34 :: (quoF l.length l ++ [34])
end Go.Proofs.YtlabcadpkdgjnaaGreatDoor
