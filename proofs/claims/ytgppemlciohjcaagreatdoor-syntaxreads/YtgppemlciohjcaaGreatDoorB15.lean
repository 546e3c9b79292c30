/- What the plain parser looks at: plain mathematics. -/
import Derived.Test.YtgppemlciohjcaaGreatDoorB01
namespace Go.Proofs.YtgppemlciohjcaaGreatDoor
section
open Go
def Eofish (x : Tok) : Prop:=x.k = 0 ∧ x.t = []
def NE (l : List Tok) : Prop:=∃ x r,l = x :: r ∧ ¬ Eofish x
theorem ne_P {s : Bs} (hs : s ≠ []) {l : List Tok} (h : isP s l = true) : NE l:=by
 cases l with
 | nil => cases h
 | cons x r =>
  refine ⟨x,r,rfl,fun e => ?_⟩
  simp only [isP,Bool.and_eq_true,beq_iff_eq] at h
  exact hs (h.2.symm.trans e.2)
theorem ne_K {k : Int} (hk : k ≠ 0) {l : List Tok} (h : isK k l = true) : NE l:=by
 cases l with
 | nil => cases h
 | cons x r =>
  refine ⟨x,r,rfl,fun e => ?_⟩
  simp only [isK,beq_iff_eq] at h
  exact hk (h.symm.trans e.1)
theorem ne_W {s : Bs} {l : List Tok} (h : isW s l = true) : NE l:=by
 cases l with
 | nil => cases h
 | cons x r =>
  refine ⟨x,r,rfl,fun e => ?_⟩
  simp only [isW,Bool.and_eq_true,beq_iff_eq] at h
  have:=h.1.symm.trans e.1
  cases this
end
section
open Go
abbrev itsS (l : List Tok) : Rs (List (Bool × List CT)):=anyS itemS [] l
theorem its_eq (l : List Tok) : itsS l = if isP [] l then .ok ([],l.tail) else (itemS l).go fun a l1 => (itsS l1).go fun b l2 => .ok (a :: b,l2):=anyS_eq itemS_eats [] l
def NoE (ts : List Tok) : Prop:=∀ x ∈ ts,¬ Eofish x
theorem isP_nil_no {q m : List Tok} (hq : q ≠ []) (h : NoE q) : isP [] (q ++ m) = false:=by
 cases q with
 | nil => exact absurd rfl hq
 | cons x q =>
  have:=h x List.mem_cons_self
  rw [Bool.eq_false_iff]
  intro e
  simp only [List.cons_append,isP,Bool.and_eq_true,beq_iff_eq] at e
  exact this e
theorem some_its {l : List Tok} (h : isP [] l = false) : someS itemS [] l = itsS l:=by
 rw [its_eq,h];rfl
theorem doc_its {ts : List Tok} (h0 : ts ≠ []) (h : NoE ts) (m : List Tok) : docS (ts ++ m) = (itsS (ts ++ m)).go fun xs l1 => .ok (docC xs,l1):=by
 unfold docS
 rw [some_its (isP_nil_no h0 h)]
theorem doc_ok_its {ts : List Tok} {N : Nat} {d l : _} (h : NoE ts) (hd : docS (ts ++ [eofT N]) = .ok (d,l)) : ∃ xs,ts ≠ [] ∧ itsS (ts ++ [eofT N]) = .ok (xs,l) ∧ d = docC xs:=by
 by_cases h0 : ts = []
 ·subst h0;cases hd
 ·rw [doc_its h0 h] at hd
  obtain ⟨xs,l1,h1,h2⟩:=go_ok_inv hd
  cases h2
  exact ⟨xs,h0,h1,rfl⟩
end
end Go.Proofs.YtgppemlciohjcaaGreatDoor
