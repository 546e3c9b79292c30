/- Documents as trees, as plain functions on lists of tokens. -/
import Derived.Test.YthficamlgngaaaaGreatDoorLxS
namespace Go.Proofs.YthficamlgngaaaaGreatDoor
open Go

/-- A cell of a tree: a plain value, or a row of n elements of sz cells each, cell by cell. -/
inductive CT where
  | lf (v : Value)
  | rw (E sz n : Nat) (ys : List CT)
abbrev Rs (α : Type) := Except (Nat × Int) (α × List Tok)
def Rs.go {α β : Type} (r : Rs α) (f : α → List Tok → Rs β) : Rs β := match r with
  | .error p => .error p
  | .ok p => f p.1 p.2
theorem go_error {α β : Type} (p : Nat × Int) (f : α → List Tok → Rs β) : Rs.go (.error p) f = .error p := rfl
theorem go_ok {α β : Type} (a : α) (l : List Tok) (f : α → List Tok → Rs β) : Rs.go (.ok (a, l)) f = f a l := rfl
theorem go_ok_inv {α β : Type} {r : Rs α} {f : α → List Tok → Rs β} {b : β} {m : List Tok} (h : Rs.go r f = .ok (b, m)) : ∃ a l, r = .ok (a, l) ∧ f a l = .ok (b, m) := by
  cases r with
  | error p => cases h
  | ok p => exact ⟨p.1, p.2, rfl, h⟩

def isP (s : Bs) : List Tok → Bool
  | [] => false
  | t :: _ => t.k == 0 && t.t == s
def isW (s : Bs) : List Tok → Bool
  | [] => false
  | t :: _ => t.k == 1 && t.t == s
def isK (k : Int) : List Tok → Bool
  | [] => false
  | t :: _ => t.k == k
def atT : List Tok → Nat
  | [] => 0
  | t :: _ => t.b
def txT : List Tok → Bs
  | [] => []
  | t :: _ => t.t
def nameS (l : List Tok) : Rs Bs := if isK 1 l then .ok (txT l, l.tail) else .error (atT l, 60)
def mustS (s : Bs) (l : List Tok) : Rs Unit := if isP s l then .ok ((), l.tail) else .error (atT l, 60)
def varS (l : List Tok) : Rs Bs := (mustS [36] l).go fun _ l1 => nameS l1

def anyF {α : Type} (f : List Tok → Rs α) (last : Bs) : Nat → List Tok → Rs (List α)
  | 0, _ => .error (0, 0)
  | k + 1, l => if isP last l then .ok ([], l.tail) else (f l).go fun a l1 => (anyF f last k l1).go fun b l2 => .ok (a :: b, l2)
def anyS {α : Type} (f : List Tok → Rs α) (last : Bs) (l : List Tok) : Rs (List α) := anyF f last (l.length + 1) l
def someS {α : Type} (f : List Tok → Rs α) (last : Bs) (l : List Tok) : Rs (List α) := (f l).go fun a l1 => (anyS f last l1).go fun b l2 => .ok (a :: b, l2)
def ledF {α : Type} (f : List Tok → Rs α) (first : Bs) : Nat → List Tok → Rs (List α)
  | 0, _ => .error (0, 0)
  | k + 1, l => if isP first l then (f l.tail).go fun a l1 => (ledF f first k l1).go fun b l2 => .ok (a :: b, l2) else .ok ([], l)
def ledS {α : Type} (f : List Tok → Rs α) (first : Bs) (l : List Tok) : Rs (List α) := ledF f first (l.length + 1) l

abbrev iC (n : Int) : CT := .lf (.int .i64 n)
abbrev sC (t : Bs) : CT := .lf (.string ⟨t.toArray⟩)
abbrev bC (b : Bool) : CT := .lf (.bool b)
abbrev rowC (E sz : Nat) (els : List (List CT)) : CT := .rw E sz els.length els.flatten
abbrev valC (k : Int) (t : Bs) (vs ns : List (List CT)) : List CT := [iC k, sC t, rowC 70 4 vs, rowC 9 1 ns]
def namedC (t : Bs) : List CT := if t = [110, 117, 108, 108] then valC 0 [] [] [] else if t = [102, 97, 108, 115, 101] then valC 1 [] [] [] else if t = [116, 114, 117, 101] then valC 2 [] [] [] else valC 7 t [] []
def memS (f : List Tok → Rs (List CT)) (l : List Tok) : Rs (Bs × List CT) := (nameS l).go fun t l1 => (mustS [58] l1).go fun _ l2 => (f l2).go fun v l3 => .ok ((t, v), l3)
def listS (inner : Option (List Tok → Rs (List CT))) (l : List Tok) : Rs (List CT) := match inner with
  | none => .error (atT l, 61)
  | some f => (anyS f [93] l.tail).go fun vs l1 => .ok (valC 8 [] vs [], l1)
def objS (inner : Option (List Tok → Rs (List CT))) (l : List Tok) : Rs (List CT) := match inner with
  | none => .error (atT l, 61)
  | some f => (anyS (memS f) [125] l.tail).go fun ms l1 => .ok (valC 9 [] (ms.map (·.2)) (ms.map fun m => [sC m.1]), l1)
def signS (fx : Bool) (inner : Option (List Tok → Rs (List CT))) (l : List Tok) : Rs (List CT) :=
  if isP [91] l then listS inner l else if isP [123] l then objS inner l else if fx then .error (atT l, 60) else (varS l).go fun t l1 => .ok (valC 3 t [] [], l1)
def valG (fx : Bool) (inner : Option (List Tok → Rs (List CT))) (l : List Tok) : Rs (List CT) :=
  if isK 1 l then .ok (namedC (txT l), l.tail) else if isK 2 l then .ok (valC 4 (txT l) [] [], l.tail) else if isK 3 l then .ok (valC 5 (txT l) [] [], l.tail) else if isK 4 l then .ok (valC 6 (txT l) [] [], l.tail) else signS fx inner l
/-- A value, at most n within one another. -/
def valF (fx : Bool) : Nat → List Tok → Rs (List CT)
  | 0 => valG fx none
  | n + 1 => valG fx (some (valF fx n))
def inF (fx : Bool) : Nat → Option (List Tok → Rs (List CT))
  | 0 => none
  | n + 1 => some (valF fx n)
theorem valF_eq (fx : Bool) (n : Nat) : valF fx n = valG fx (inF fx n) := by cases n <;> rfl
def argS (fx : Bool) (l : List Tok) : Rs (List CT) := (memS (valF fx 32) l).go fun m l1 => .ok (sC m.1 :: m.2, l1)
def argsS (fx : Bool) (l : List Tok) : Rs (List (List CT)) := if isP [40] l then someS (argS fx) [41] l.tail else .ok ([], l)
def dirS (fx : Bool) (l : List Tok) : Rs (List CT) := (nameS l).go fun t l1 => (argsS fx l1).go fun a l2 => .ok ([sC t, rowC 121 5 a], l2)
def dirsS (fx : Bool) (l : List Tok) : Rs (List (List CT)) := ledS (dirS fx) [64] l

def refB (x : Bs × Bs) (l : List Tok) : Rs (Bs × Bs) := if isP [33] l then .ok ((x.1, x.2 ++ [33]), l.tail) else .ok (x, l)
def refG (inner : Option (List Tok → Rs (Bs × Bs))) (l : List Tok) : Rs (Bs × Bs) :=
  (if isP [91] l then (match inner with
    | none => .error (atT l, 61)
    | some f => (f l.tail).go fun x l1 => (mustS [93] l1).go fun _ l2 => .ok ((x.1, x.2 ++ [91]), l2)) else (nameS l).go fun t l1 => .ok ((t, []), l1)).go refB
def refF : Nat → List Tok → Rs (Bs × Bs)
  | 0 => refG none
  | n + 1 => refG (some (refF n))
def defS (l : List Tok) : Rs (Bool × List CT) := if isP [61] l then (valF true 32 l.tail).go fun v l1 => .ok ((true, v), l1) else .ok ((false, valC 0 [] [] []), l)
def varDefS (l : List Tok) : Rs (List CT) := (varS l).go fun t l1 => (mustS [58] l1).go fun _ l2 => (refF 32 l2).go fun x l3 => (defS l3).go fun d l4 => (dirsS true l4).go fun ds l5 =>
  .ok ([sC t, sC x.1, sC x.2, bC d.1] ++ d.2 ++ [rowC 97 2 ds], l5)
def varsS (l : List Tok) : Rs (List (List CT)) := if isP [40] l then someS varDefS [41] l.tail else .ok ([], l)

abbrev selC (k : Int) (a n o : Bs) (as_ ds ss : List (List CT)) : List CT := [iC k, sC a, sC n, sC o, rowC 121 5 as_, rowC 97 2 ds, rowC 65 7 ss]
abbrev onB : Bs := [111, 110]
def nickS (l : List Tok) : Rs (Bs × Bs) := (nameS l).go fun t l1 => if isP [58] l1 then (nameS l1.tail).go fun u l2 => .ok ((t, u), l2) else .ok (([], t), l1)
def withS (st : List Tok → Rs (List (List CT))) (l : List Tok) : Rs (List (List CT)) := if isP [123] l then st l else .ok ([], l)
def fieldS (st : List Tok → Rs (List (List CT))) (l : List Tok) : Rs (List CT) := (nickS l).go fun p l2 => (argsS false l2).go fun a l3 => (dirsS false l3).go fun ds l4 => (withS st l4).go fun ss l5 => .ok (selC 0 p.1 p.2 [] a ds ss, l5)
def spreadS (l : List Tok) : Rs (List CT) := (nameS l).go fun t l1 => (dirsS false l1).go fun ds l2 => .ok (selC 1 [] t [] [] ds [], l2)
def onS (l : List Tok) : Rs Bs := if isW onB l then nameS l.tail else .ok ([], l)
def inlineS (st : List Tok → Rs (List (List CT))) (l : List Tok) : Rs (List CT) := (onS l).go fun t l1 => (dirsS false l1).go fun ds l2 => (st l2).go fun ss l3 => .ok (selC 2 [] [] t [] ds ss, l3)
def selS (st : List Tok → Rs (List (List CT))) (l : List Tok) : Rs (List CT) := if isP [46, 46, 46] l then (if isK 1 l.tail && !isW onB l.tail then spreadS l.tail else inlineS st l.tail) else fieldS st l
def setG (inner : Option (List Tok → Rs (List (List CT)))) (l : List Tok) : Rs (List (List CT)) := if isP [123] l then (match inner with
  | none => .error (atT l, 61)
  | some st => someS (selS st) [125] l.tail) else .error (atT l, 60)
/-- A set of selections, at most n within one another. -/
def setF : Nat → List Tok → Rs (List (List CT))
  | 0 => setG none
  | n + 1 => setG (some (setF n))
abbrev opC (k : Int) (t : Bs) (vs ds ss : List (List CT)) : List CT := [iC k, sC t, rowC 72 9 vs, rowC 97 2 ds, rowC 65 7 ss]
abbrev fragC (t u : Bs) (ds ss : List (List CT)) : List CT := [sC t, sC u, rowC 97 2 ds, rowC 65 7 ss]
def kindS (l : List Tok) : Rs Int := if isW [113, 117, 101, 114, 121] l then .ok (0, l.tail) else if isW [109, 117, 116, 97, 116, 105, 111, 110] l then .ok (1, l.tail) else if isW [115, 117, 98, 115, 99, 114, 105, 112, 116, 105, 111, 110] l then .ok (2, l.tail) else .error (atT l, 60)
def titleS (l : List Tok) : Rs Bs := if isK 1 l then nameS l else .ok ([], l)
def opS (l : List Tok) : Rs (List CT) := if isP [123] l then (setF 32 l).go fun ss l1 => .ok (opC 0 [] [] [] ss, l1) else
  (kindS l).go fun k l1 => (titleS l1).go fun t l2 => (varsS l2).go fun vs l3 => (dirsS false l3).go fun ds l4 => (setF 32 l4).go fun ss l5 => .ok (opC k t vs ds ss, l5)
def mustW (s : Bs) (l : List Tok) : Rs Unit := if isW s l then .ok ((), l.tail) else .error (atT l, 60)
def notOn (l : List Tok) : Rs Unit := if isW onB l then .error (atT l, 60) else .ok ((), l)
def fragS (l : List Tok) : Rs (List CT) := (notOn l).go fun _ l0 => (nameS l0).go fun t l1 => (mustW onB l1).go fun _ l2 => (nameS l2).go fun u l3 => (dirsS false l3).go fun ds l4 => (setF 32 l4).go fun ss l5 => .ok (fragC t u ds ss, l5)
def fragB : Bs := [102, 114, 97, 103, 109, 101, 110, 116]
/-- A fragment (true), or an operation. -/
def itemS (l : List Tok) : Rs (Bool × List CT) := if isW fragB l then (fragS l.tail).go fun x l1 => .ok ((true, x), l1) else (opS l).go fun x l1 => .ok ((false, x), l1)
def opsOf (xs : List (Bool × List CT)) : List (List CT) := (xs.filter fun x => !x.1).map (·.2)
def fragsOf (xs : List (Bool × List CT)) : List (List CT) := (xs.filter fun x => x.1).map (·.2)
abbrev docC (xs : List (Bool × List CT)) : List CT := [rowC 61 5 (opsOf xs), rowC 57 4 (fragsOf xs)]
def docS (l : List Tok) : Rs (List CT) := (someS itemS [] l).go fun xs l1 => .ok (docC xs, l1)
/-- Where a document's tokens end. -/
abbrev eofT (N : Nat) : Tok := ⟨0, [], N, 0⟩
def parseS (s : Bs) : Except (Nat × Int) (List CT) := match lexS s with
  | .inl p => .error p
  | .inr ts => match docS (ts ++ [eofT s.length]) with
    | .error p => .error p
    | .ok p => .ok p.1

/-! ### Each reads something -/
def Eats {α : Type} (f : List Tok → Rs α) : Prop := ∀ l a m, f l = .ok (a, m) → m.length < l.length
def Keeps {α : Type} (f : List Tok → Rs α) : Prop := ∀ l a m, f l = .ok (a, m) → m.length ≤ l.length
theorem Eats.keeps {α : Type} {f : List Tok → Rs α} (h : Eats f) : Keeps f := fun l a m e => Nat.le_of_lt (h l a m e)
theorem isP_pos {s : Bs} {l : List Tok} (h : isP s l = true) : 0 < l.length := by cases l <;> simp_all [isP]
theorem isK_pos {k : Int} {l : List Tok} (h : isK k l = true) : 0 < l.length := by cases l <;> simp_all [isK]
theorem isW_pos {s : Bs} {l : List Tok} (h : isW s l = true) : 0 < l.length := by cases l <;> simp_all [isW]
theorem nameS_eats : Eats nameS := by
  intro l a m h
  unfold nameS at h
  split at h
  · rename_i hk
    have := isK_pos hk
    cases h
    simp; omega
  · cases h
theorem mustS_eats (s : Bs) : Eats (mustS s) := by
  intro l a m h
  unfold mustS at h
  split at h
  · rename_i hk
    have := isP_pos hk
    cases h
    simp; omega
  · cases h
theorem mustW_eats (s : Bs) : Eats (mustW s) := by
  intro l a m h
  unfold mustW at h
  split at h
  · rename_i hk
    have := isW_pos hk
    cases h
    simp; omega
  · cases h
theorem Eats.go {α β : Type} {f : List Tok → Rs α} {g : α → List Tok → Rs β} (hf : Eats f) (hg : ∀ a, Keeps (g a)) : Eats (fun l => (f l).go g) := by
  intro l b m h
  obtain ⟨a, l1, h1, h2⟩ := go_ok_inv h
  have := hf _ _ _ h1
  have := hg a _ _ _ h2
  omega
theorem Keeps.go {α β : Type} {f : List Tok → Rs α} {g : α → List Tok → Rs β} (hf : Keeps f) (hg : ∀ a, Keeps (g a)) : Keeps (fun l => (f l).go g) := by
  intro l b m h
  obtain ⟨a, l1, h1, h2⟩ := go_ok_inv h
  have := hf _ _ _ h1
  have := hg a _ _ _ h2
  omega
theorem keeps_ok {α : Type} (a : α) : Keeps (fun l => (.ok (a, l) : Rs α)) := by
  intro l b m h; cases h; exact Nat.le_refl _
theorem Keeps.go_eats {α β : Type} {f : List Tok → Rs α} {g : α → List Tok → Rs β} (hf : Keeps f) (hg : ∀ a, Eats (g a)) : Eats (fun l => (f l).go g) := by
  intro l b m h
  obtain ⟨a, l1, h1, h2⟩ := go_ok_inv h
  have := hf _ _ _ h1
  have := hg a _ _ _ h2
  omega
theorem varS_eats : Eats varS := (mustS_eats _).go fun _ => nameS_eats.keeps
theorem anyF_keeps {α : Type} {f : List Tok → Rs α} (hf : Eats f) (last : Bs) : ∀ k, Eats (anyF f last k)
  | 0 => fun l a m h => by cases h
  | k + 1 => by
    intro l a m h
    unfold anyF at h
    split at h
    · rename_i hk
      have := isP_pos hk
      cases h
      simp; omega
    · obtain ⟨b, l1, h1, h2⟩ := go_ok_inv h
      obtain ⟨c, l2, h3, h4⟩ := go_ok_inv h2
      cases h4
      have := hf _ _ _ h1
      have := anyF_keeps hf last k _ _ _ h3
      omega
theorem anyS_eats {α : Type} {f : List Tok → Rs α} (hf : Eats f) (last : Bs) : Eats (anyS f last) := fun l a m h => anyF_keeps hf last _ l a m h
theorem someS_eats {α : Type} {f : List Tok → Rs α} (hf : Eats f) (last : Bs) : Eats (someS f last) := hf.go fun _ => ((anyS_eats hf last).keeps).go fun _ => keeps_ok _
theorem ledF_keeps {α : Type} {f : List Tok → Rs α} (hf : Keeps f) (first : Bs) : ∀ k, Keeps (ledF f first k)
  | 0 => fun l a m h => by cases h
  | k + 1 => by
    intro l a m h
    unfold ledF at h
    split at h
    · rename_i hk
      have := isP_pos hk
      obtain ⟨b, l1, h1, h2⟩ := go_ok_inv h
      obtain ⟨c, l2, h3, h4⟩ := go_ok_inv h2
      cases h4
      have := hf _ _ _ h1
      have := ledF_keeps hf first k _ _ _ h3
      simp at *; omega
    · cases h; exact Nat.le_refl _
theorem ledS_keeps {α : Type} {f : List Tok → Rs α} (hf : Keeps f) (first : Bs) : Keeps (ledS f first) := fun l a m h => ledF_keeps hf first _ l a m h
theorem memS_eats {f : List Tok → Rs (List CT)} (hf : Keeps f) : Eats (memS f) := nameS_eats.go fun _ => (mustS_eats _).keeps.go fun _ => hf.go fun _ => keeps_ok _
theorem eats_tail {α : Type} {c : List Tok → Bool} (hc : ∀ l, c l = true → 0 < l.length) {f g : List Tok → Rs α} (hf : Keeps f) (hg : Eats g) : Eats (fun l => if c l then f l.tail else g l) := by
  intro l a m h
  simp only at h
  split at h
  · rename_i hk
    have := hc l hk
    have := hf _ _ _ h
    simp at this; omega
  · exact hg _ _ _ h
theorem keeps_tail {α : Type} {c : List Tok → Bool} {f g : List Tok → Rs α} (hf : Keeps f) (hg : Keeps g) : Keeps (fun l => if c l then f l.tail else g l) := by
  intro l a m h
  simp only at h
  split at h
  · have := hf _ _ _ h
    simp at this; omega
  · exact hg _ _ _ h
theorem eats_if {α : Type} {c : List Tok → Bool} {f g : List Tok → Rs α} (hf : Eats f) (hg : Eats g) : Eats (fun l => if c l then f l else g l) := by
  intro l a m h
  simp only at h
  split at h
  · exact hf _ _ _ h
  · exact hg _ _ _ h
theorem eats_err {α : Type} (g : List Tok → Nat × Int) : Eats (fun l => (.error (g l) : Rs α)) := fun l a m h => by cases h
theorem eats_ok {α : Type} (c : List Tok → Bool) (hc : ∀ l, c l = true → 0 < l.length) (x : List Tok → α) {g : List Tok → Rs α} (hg : Eats g) : Eats (fun l => if c l then .ok (x l, l.tail) else g l) := by
  intro l a m h
  simp only at h
  split at h
  · rename_i hk
    have := hc l hk
    cases h
    simp; omega
  · exact hg _ _ _ h
theorem listS_eats {inner : Option (List Tok → Rs (List CT))} (hi : ∀ f, inner = some f → Eats f) : Eats (listS inner) := by
  cases inner with
  | none => exact eats_err _
  | some f =>
    intro l a m h
    unfold listS at h
    obtain ⟨b, l1, h1, h2⟩ := go_ok_inv h
    cases h2
    have := anyS_eats (hi f rfl) _ _ _ _ h1
    simp at this; omega
theorem objS_eats {inner : Option (List Tok → Rs (List CT))} (hi : ∀ f, inner = some f → Eats f) : Eats (objS inner) := by
  cases inner with
  | none => exact eats_err _
  | some f =>
    intro l a m h
    unfold objS at h
    obtain ⟨b, l1, h1, h2⟩ := go_ok_inv h
    cases h2
    have := anyS_eats (memS_eats (hi f rfl).keeps) _ _ _ _ h1
    simp at this; omega
theorem signS_eats (fx : Bool) {inner : Option (List Tok → Rs (List CT))} (hi : ∀ f, inner = some f → Eats f) : Eats (signS fx inner) :=
  eats_if (listS_eats hi) (eats_if (objS_eats hi) (eats_if (c := fun _ => fx) (eats_err _) (varS_eats.go fun _ => keeps_ok _)))
theorem valG_eats (fx : Bool) {inner : Option (List Tok → Rs (List CT))} (hi : ∀ f, inner = some f → Eats f) : Eats (valG fx inner) :=
  eats_ok (isK 1) (fun _ => isK_pos) _ (eats_ok (isK 2) (fun _ => isK_pos) _ (eats_ok (isK 3) (fun _ => isK_pos) _ (eats_ok (isK 4) (fun _ => isK_pos) _ (signS_eats fx hi))))
theorem valF_eats (fx : Bool) : ∀ n, Eats (valF fx n)
  | 0 => valG_eats fx (fun f h => by cases h)
  | n + 1 => valG_eats fx (fun f h => by cases h; exact valF_eats fx n)
theorem argS_eats (fx : Bool) : Eats (argS fx) := (memS_eats (valF_eats fx 32).keeps).go fun _ => keeps_ok _
theorem argsS_keeps (fx : Bool) : Keeps (argsS fx) := keeps_tail (someS_eats (argS_eats fx) _).keeps (keeps_ok _)
theorem dirS_eats (fx : Bool) : Eats (dirS fx) := nameS_eats.go fun _ => (argsS_keeps fx).go fun _ => keeps_ok _
theorem dirsS_keeps (fx : Bool) : Keeps (dirsS fx) := ledS_keeps (dirS_eats fx).keeps _
theorem refB_keeps (x : Bs × Bs) : Keeps (refB x) := keeps_tail (c := isP [33]) (keeps_ok _) (keeps_ok _)
theorem refG_eats {inner : Option (List Tok → Rs (Bs × Bs))} (hi : ∀ f, inner = some f → Eats f) : Eats (refG inner) := by
  refine Eats.go (f := fun l => if isP [91] l then (match inner with
    | none => .error (atT l, 61)
    | some f => (f l.tail).go fun x l1 => (mustS [93] l1).go fun _ l2 => .ok ((x.1, x.2 ++ [91]), l2)) else (nameS l).go fun t l1 => .ok ((t, []), l1)) (eats_if ?_ (nameS_eats.go fun _ => keeps_ok _)) refB_keeps
  cases inner with
  | none => exact eats_err _
  | some f =>
    intro l a m h
    obtain ⟨b, l1, h1, h2⟩ := go_ok_inv h
    obtain ⟨c, l2, h3, h4⟩ := go_ok_inv h2
    cases h4
    have := hi f rfl _ _ _ h1
    have := mustS_eats _ _ _ _ h3
    simp at *; omega
theorem refF_eats : ∀ n, Eats (refF n)
  | 0 => refG_eats (fun f h => by cases h)
  | n + 1 => refG_eats (fun f h => by cases h; exact refF_eats n)
theorem defS_keeps : Keeps defS := keeps_tail (c := isP [61]) ((valF_eats true 32).keeps.go fun _ => keeps_ok _) (keeps_ok _)
theorem varDefS_eats : Eats varDefS := varS_eats.go fun _ => (mustS_eats _).keeps.go fun _ => (refF_eats 32).keeps.go fun _ => defS_keeps.go fun _ => (dirsS_keeps true).go fun _ => keeps_ok _
theorem varsS_keeps : Keeps varsS := keeps_tail (someS_eats varDefS_eats _).keeps (keeps_ok _)
theorem nickS_eats : Eats nickS := nameS_eats.go fun _ => keeps_tail (c := isP [58]) (nameS_eats.keeps.go fun _ => keeps_ok _) (keeps_ok _)
theorem withS_keeps {st : List Tok → Rs (List (List CT))} (h : Keeps st) : Keeps (withS st) := by
  intro l a m e
  unfold withS at e
  split at e
  · exact h _ _ _ e
  · cases e; exact Nat.le_refl _
theorem fieldS_eats {st : List Tok → Rs (List (List CT))} (h : Keeps st) : Eats (fieldS st) := nickS_eats.go fun _ => (argsS_keeps false).go fun _ => (dirsS_keeps false).go fun _ => (withS_keeps h).go fun _ => keeps_ok _
theorem onS_keeps : Keeps onS := keeps_tail (c := isW onB) nameS_eats.keeps (keeps_ok _)
theorem spreadS_eats : Eats spreadS := nameS_eats.go fun _ => (dirsS_keeps false).go fun _ => keeps_ok _
theorem inlineS_keeps {st : List Tok → Rs (List (List CT))} (h : Keeps st) : Keeps (inlineS st) := onS_keeps.go fun _ => (dirsS_keeps false).go fun _ => h.go fun _ => keeps_ok _
theorem selS_eats {st : List Tok → Rs (List (List CT))} (h : Keeps st) : Eats (selS st) := by
  refine eats_tail (c := isP [46, 46, 46]) (fun _ => isP_pos) (f := fun l => if isK 1 l && !isW onB l then spreadS l else inlineS st l) ?_ (fieldS_eats h)
  intro l a m e
  simp only at e
  split at e
  · exact spreadS_eats.keeps _ _ _ e
  · exact inlineS_keeps h _ _ _ e
theorem setG_eats {inner : Option (List Tok → Rs (List (List CT)))} (hi : ∀ f, inner = some f → Eats f) : Eats (setG inner) := by
  refine eats_if (c := isP [123]) ?_ (eats_err _)
  cases inner with
  | none => exact eats_err _
  | some f =>
    intro l a m h
    have := someS_eats (selS_eats (hi f rfl).keeps) _ _ _ _ h
    simp at this; omega
theorem setF_eats : ∀ n, Eats (setF n)
  | 0 => setG_eats (fun f h => by cases h)
  | n + 1 => setG_eats (fun f h => by cases h; exact setF_eats n)
theorem kindS_eats : Eats kindS := eats_ok (isW _) (fun _ => isW_pos) (fun _ => 0) (eats_ok (isW _) (fun _ => isW_pos) (fun _ => 1) (eats_ok (isW _) (fun _ => isW_pos) (fun _ => 2) (eats_err _)))
theorem titleS_keeps : Keeps titleS := by
  intro l a m e
  unfold titleS at e
  split at e
  · exact nameS_eats.keeps _ _ _ e
  · cases e; exact Nat.le_refl _
theorem opS_eats : Eats opS := eats_if (c := isP [123]) ((setF_eats 32).go fun _ => keeps_ok _) (kindS_eats.go fun _ => titleS_keeps.go fun _ => varsS_keeps.go fun _ => (dirsS_keeps false).go fun _ => (setF_eats 32).keeps.go fun _ => keeps_ok _)
theorem notOn_keeps : Keeps notOn := by
  intro l a m e
  unfold notOn at e
  split at e
  · cases e
  · cases e; exact Nat.le_refl _
theorem fragS_eats : Eats fragS := notOn_keeps.go_eats fun _ => nameS_eats.go fun _ => (mustW_eats _).keeps.go fun _ => nameS_eats.keeps.go fun _ => (dirsS_keeps false).go fun _ => (setF_eats 32).keeps.go fun _ => keeps_ok _
theorem itemS_eats : Eats itemS := eats_tail (c := isW fragB) (fun _ => isW_pos) (fragS_eats.keeps.go fun _ => keeps_ok _) (opS_eats.go fun _ => keeps_ok _)

/-! ### Fuel -/
theorem anyF_fuel {α : Type} {f : List Tok → Rs α} (hf : Eats f) (last : Bs) : ∀ (n m : Nat) (l : List Tok), l.length < n → l.length < m → anyF f last n l = anyF f last m l
  | 0, _, _, h, _ => absurd h (Nat.not_lt_zero _)
  | _ + 1, 0, _, _, h => absurd h (Nat.not_lt_zero _)
  | n + 1, m + 1, l, hn, hm => by
    unfold anyF
    split
    · rfl
    · cases h : f l with
      | error p => rfl
      | ok p =>
        obtain ⟨a, l1⟩ := p
        have := hf _ _ _ h
        simp only [go_ok]
        rw [anyF_fuel hf last n m l1 (by omega) (by omega)]
theorem anyS_eq {α : Type} {f : List Tok → Rs α} (hf : Eats f) (last : Bs) (l : List Tok) : anyS f last l = if isP last l then .ok ([], l.tail) else (f l).go fun a l1 => (anyS f last l1).go fun b l2 => .ok (a :: b, l2) := by
  unfold anyS
  conv => lhs; unfold anyF
  split
  · rfl
  · cases h : f l with
    | error p => rfl
    | ok p =>
      obtain ⟨a, l1⟩ := p
      have := hf _ _ _ h
      simp only [go_ok]
      rw [anyF_fuel hf last l.length (l1.length + 1) l1 (by omega) (by omega)]
theorem ledF_fuel {α : Type} {f : List Tok → Rs α} (hf : Keeps f) (first : Bs) : ∀ (n m : Nat) (l : List Tok), l.length < n → l.length < m → ledF f first n l = ledF f first m l
  | 0, _, _, h, _ => absurd h (Nat.not_lt_zero _)
  | _ + 1, 0, _, _, h => absurd h (Nat.not_lt_zero _)
  | n + 1, m + 1, l, hn, hm => by
    unfold ledF
    split
    · rename_i hk
      have h0 := isP_pos hk
      cases h : f l.tail with
      | error p => rfl
      | ok p =>
        obtain ⟨a, l1⟩ := p
        have := hf _ _ _ h
        simp only [go_ok]
        simp at this
        rw [ledF_fuel hf first n m l1 (by omega) (by omega)]
    · rfl
theorem ledS_eq {α : Type} {f : List Tok → Rs α} (hf : Keeps f) (first : Bs) (l : List Tok) : ledS f first l = if isP first l then (f l.tail).go fun a l1 => (ledS f first l1).go fun b l2 => .ok (a :: b, l2) else .ok ([], l) := by
  unfold ledS
  conv => lhs; unfold ledF
  split
  · rename_i hk
    have h0 := isP_pos hk
    cases h : f l.tail with
    | error p => rfl
    | ok p =>
      obtain ⟨a, l1⟩ := p
      have := hf _ _ _ h
      simp only [go_ok]
      simp at this
      rw [ledF_fuel hf first l.length (l1.length + 1) l1 (by omega) (by omega)]
  · rfl
end Go.Proofs.YthficamlgngaaaaGreatDoor
