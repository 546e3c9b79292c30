/- What ftoa64 asks of the digits that setDigits has laid. -/
import Derived.Test.YtbemidnhljjfnaaGreatDoorEfg
import Derived.BigRegion
import Derived.Deep.RegionWith
namespace Go.Proofs.YtbemidnhljjfnaaGreatDoor
open Go Go.RowKit Go.Lib

theorem putRow_grown (w : World) (N n : Nat) (dk : Array UInt8) : w.grownBy ((«Sort».putRow encB w N 0 dk).drewN n) (some N) := by
  refine ⟨rfl, rfl, rfl, ?_, fun k _ hk => ?_⟩
  · show w.heap.size ≤ («Sort».putRow encB w N 0 dk).heap.size
    rw [«Sort».size_putRow]
    exact Nat.le_refl _
  · show («Sort».putRow encB w N 0 dk).heap[k]? = w.heap[k]?
    simp only [«Sort».putRow, «Sort».mapBlock]
    rw [Array.getElem?_modify, if_neg (fun e => hk (by rw [e]))]
theorem below_put {B : Nat} {a w : World} {N n : Nat} {dk : Array UInt8} (h : Below B a w) (hB : B ≤ w.heap.size) (hN : B ≤ N) : Below B a ((«Sort».putRow encB w N 0 dk).drewN n) :=
  h.grown (putRow_grown w N n dk) hB (fun k hk => by cases hk; exact hN)

theorem owns_below {W W' : World} {B e sz n : Nat} {v : Value} {xs : List Value} (h : W.ownsRow B e sz v n xs) (hb : Below W.heap.size W W') : W'.ownsRow B e sz v n xs := by
  refine ⟨h.1, ?_⟩
  rcases h.2 with h2 | ⟨g, cap, cur, h1, h2, h3, h4⟩
  · exact .inl h2
  · exact .inr ⟨g, cap, cur, h1, h2, (hb.block g (by have := (Array.getElem?_eq_some_iff.1 h3).1; exact this)).trans h3, h4⟩
def zeros : Array Value := #[.int .u8 0, .int .u8 0, .int .u8 0, .int .u8 0, .int .u8 0, .int .u8 0, .int .u8 0, .int .u8 0, .int .u8 0, .int .u8 0, .int .u8 0, .int .u8 0, .int .u8 0, .int .u8 0, .int .u8 0, .int .u8 0, .int .u8 0, .int .u8 0, .int .u8 0, .int .u8 0, .int .u8 0, .int .u8 0, .int .u8 0, .int .u8 0]
theorem zeros_at (j : Nat) (hj : j < 24) : zeros[j]? = some (.int .u8 0) := by
  rw [show zeros = (List.replicate 24 (Value.int .u8 0)).toArray from rfl, List.getElem?_toArray, List.getElem?_replicate, if_pos hj]
theorem noughts_at (j : Nat) (hj : j < 17) : noughts[j]! = 0 := by
  rw [show noughts = (List.replicate 17 (0 : UInt8)).toArray from rfl, getElem!_def, List.getElem?_toArray, List.getElem?_replicate, if_pos hj]
theorem holds_new {w : World} {N : Nat} {t : TypeId} (h : w.heap[N]? = some (.cells zeros t)) : «Sort».Holds encB w N 0 noughts := by
  intro j hj
  have hj' : j < 17 := hj
  constructor
  · rw [noughts_at j hj']
    simp only [World.cell?, h, Nat.zero_add]
    exact zeros_at j (by omega)
  · simp [World.frozen?, h]
theorem digits_cells (w : World) (N u n : Nat) (dk : Array UInt8) (c0 : Int) (cs : List Int) (hH : «Sort».Holds encB w N 0 noughts) (hsz : dk.size = 17) (hdk : ∀ t, t < 17 → dk[t]! = dg u (16 - t)) (h0 : ((dg u 16).toNat : Int) = c0)
    (hcs : (List.range 16).map (fun j => ((dg u (15 - j)).toNat : Int)) = cs) :
    ((«Sort».putRow encB w N 0 dk).drewN n).cell? ⟨N, 0, none⟩ = some (.int .u8 c0) ∧ ∀ j v, (cs.map (Value.int .u8))[j]? = some v → ((«Sort».putRow encB w N 0 dk).drewN n).cell? ((⟨N, 1, none⟩ : Addr).add j) = some v := by
  have key : ∀ t, t < 17 → («Sort».putRow encB w N 0 dk).cell? ⟨N, t, none⟩ = some (.int .u8 ((dg u (16 - t)).toNat : Int)) := by
    intro t ht
    have h := «Sort».cell?_putRow encB w N 0 noughts dk hH hsz t (by rw [hsz]; exact ht)
    rw [hdk t ht, Nat.zero_add] at h
    exact h
  subst hcs h0
  refine ⟨key 0 (by decide), fun j v hj => ?_⟩
  rw [add_plain]
  have hj16 : j < 16 := by
    have := (List.getElem?_eq_some_iff.1 hj).1
    simpa using this
  simp [hj16] at hj
  have h := key (1 + j) (by omega)
  rw [show 16 - (1 + j) = 15 - j by omega] at h
  rw [← hj]
  exact h

theorem new_at (w : World) (o : Obj) : ((w.alloc o).drew).heap[w.heap.size]? = some o := by
  show (w.heap.push o)[w.heap.size]? = some o
  simp
end Go.Proofs.YtbemidnhljjfnaaGreatDoor
