/- eachStep over a state that a function value keeps in captured variables: it goes from step to step as a plain walk does. -/
import Derived.Test.YtlabcadpkdgjnaaGreatDoorRnEach
import Derived.KernelRfl
namespace Go.Proofs.YtlabcadpkdgjnaaGreatDoor
open Go.RowKit

section
variable {α : Type}

/-- From step to step, as long as f answers true. -/
def walkF (s : ByteArray) (f : α → Nat → α × Bool) : Nat → Nat → α → α
  | 0, _, a => a
  | n + 1, p, a => if p < s.size then (if (f a p).2 then walkF s f n (p + stW s p) (f a p).1 else (f a p).1) else a

theorem walkF_fuel (s : ByteArray) (f : α → Nat → α × Bool) : ∀ (n m p : Nat) (a : α), s.size - p ≤ n → s.size - p ≤ m → walkF s f n p a = walkF s f m p a := by
  intro n
  induction n with
  | zero =>
    intro m p a hn hm
    have hp : ¬ p < s.size := by omega
    cases m with
    | zero => rfl
    | succ m => simp only [walkF, if_neg hp]
  | succ n ih =>
    intro m p a hn hm
    by_cases hp : p < s.size
    · have hw := dec_w s p hp
      cases m with
      | zero => omega
      | succ m =>
        simp only [walkF, if_pos hp]
        split
        · exact ih m _ _ (by omega) (by omega)
        · rfl
    · cases m with
      | zero => simp only [walkF, if_neg hp]
      | succ m => simp only [walkF, if_neg hp]

def walk (s : ByteArray) (f : α → Nat → α × Bool) (p : Nat) (a : α) : α := walkF s f (s.size - p) p a

theorem walk_step {s : ByteArray} {f : α → Nat → α × Bool} {p : Nat} {a : α} (hp : p < s.size) : walk s f p a = if (f a p).2 then walk s f (p + stW s p) (f a p).1 else (f a p).1 := by
  have hw := dec_w s p hp
  unfold walk
  obtain ⟨n, hn⟩ : ∃ n, s.size - p = n + 1 := ⟨s.size - p - 1, by omega⟩
  rw [hn]
  simp only [walkF, if_pos hp]
  rw [walkF_fuel s f n (s.size - (p + stW s p)) _ _ (by omega) (Nat.le_refl _)]
theorem walk_end {s : ByteArray} {f : α → Nat → α × Bool} {p : Nat} {a : α} (hp : ¬ p < s.size) : walk s f p a = a := by
  unfold walk
  rw [show s.size - p = 0 by omega]
  rfl

theorem each_walk (K : Nat) (caps : Array Value) (s : ByteArray) (w : World) (hs : s.size ≤ 1125899906842624) (St : α → World → Prop) (J : α → Nat → Prop) (f : α → Nat → α × Bool) (a0 : α)
    (hK : ∀ args W, Sem.run Tryz.prog (callFunc K args) W = .ok (.enter K args) W)
    (hst : ∀ a W W', St a W → Keep w.heap.size W W' → St a W') (h0 : St a0 w) (hJ0 : J a0 0)
    (hJ : ∀ a p, p < s.size → J a p → (f a p).2 = true → J (f a p).1 (p + stW s p))
    (hcall : ∀ a p W, p < s.size → J a p → St a W → Calls Tryz.prog K (#[stV s p] ++ caps) W fun e W' => e = .returned (.bool (f a p).2) ∧ Iters W W' ∧ St (f a p).1 W') :
    Calls Tryz.prog 117 #[.string s, .func (.func K) #[] caps] w fun e w' => e = .returned (.tuple #[]) ∧ St (walk s f 0 a0) w' := by
  refine each_any K caps s w hs (fun p W => ∃ a, St a W ∧ J a p ∧ walk s f p a = walk s f 0 a0) (fun W => St (walk s f 0 a0) W) hK ?_ ⟨a0, h0, hJ0, rfl⟩ ?_ ?_
  · rintro p W W' ⟨a, h1, h2, h3⟩ hk
    exact ⟨a, hst _ _ _ h1 hk, h2, h3⟩
  · rintro p W hp ⟨a, h1, h2, h3⟩
    refine (hcall a p W hp h2 h1).mono ?_
    rintro e W' ⟨rfl, hi, hS⟩
    have hstep : walk s f p a = if (f a p).2 then walk s f (p + stW s p) (f a p).1 else (f a p).1 := walk_step hp
    refine ⟨(f a p).2, rfl, hi, fun hb => ⟨(f a p).1, hS, hJ a p hp h2 hb, ?_⟩, fun hb => ?_⟩
    · rw [if_pos hb] at hstep
      rw [← hstep, h3]
    · rw [hb, if_neg (by decide)] at hstep
      rw [← h3, hstep]
      exact hS
  · rintro W ⟨a, h1, h2, h3⟩
    rw [walk_end (Nat.lt_irrefl _)] at h3
    rw [← h3]
    exact h1
end

theorem Keep.one {B : Nat} {W W' : World} (h : Keep B W W') {k : Nat} {v : Value} {t : TypeId} (hk : W.heap[k]? = some (.cells #[v] t (0, 0))) (ht : t ≠ 146) : W'.heap[k]? = some (.cells #[v] t (0, 0)) := h.cells k _ t _ hk ht

theorem Iters.setCell {W W' : World} (h : Iters W W') {p : Addr} {c : Array Value} {t : TypeId} {fz : Nat × Nat} (hp : W'.heap[p.block]? = some (.cells c t fz)) (v : Value) : Iters W (W'.setCell p v) := fun k s pos hk => by
  have h1 := h k s pos hk
  have hne : k ≠ p.block := by
    intro e
    rw [e, hp] at h1
    cases h1
  exact (Below.heap_setCell _ _ _ _ hne).trans h1

end Go.Proofs.YtlabcadpkdgjnaaGreatDoor
