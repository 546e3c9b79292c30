/- A text part read from its bytes; any part. -/
import Derived.Test.YtghneolphdfdlabDoorCutP
namespace Go.Proofs.YtghneolphdfdlabDoor
open Go Go.RowKit

theorem partFacts {w w1 : World} {a b c d : Value} {t : TypeId} (hb1 : Below (w.alloc (.cells #[a, b, c, d] t)).heap.size (w.alloc (.cells #[a, b, c, d] t)) w1) :
    w1.cell? ⟨w.heap.size, 0, none⟩ = some a ∧ w1.cell? ⟨w.heap.size, 1, none⟩ = some b ∧ w1.cell? ⟨w.heap.size, 2, none⟩ = some c ∧ w1.cell? ⟨w.heap.size, 3, none⟩ = some d ∧
    w1.frozen? ⟨w.heap.size, 0, none⟩ = false ∧ w1.frozen? ⟨w.heap.size, 1, none⟩ = false ∧ w1.frozen? ⟨w.heap.size, 2, none⟩ = false ∧ w1.frozen? ⟨w.heap.size, 3, none⟩ = false ∧ Below w.heap.size w w1 := by
  have hh : w1.heap[w.heap.size]? = some (.cells #[a, b, c, d] t (0, 0)) := (hb1.block w.heap.size (by simp)).trans (heap_alloc_new _ _)
  refine ⟨?_, ?_, ?_, ?_, ?_, ?_, ?_, ?_, ((Below.refl w.heap.size w).alloc (Nat.le_refl _) _).trans (hb1.mono (by simp))⟩
  all_goals simp [World.cell?, World.frozen?, hh]

set_option maxHeartbeats 400000 in
theorem cutPart_3no (s r : ByteArray) (w : World) (h0 : s.size ≤ 4000000000) (h1 : 1 ≤ s.size) (hc : (s[0].toNat : Int) = 3) (hr : s.extract 1 s.size = r) (hrs : r.size ≤ 4000000000) (hM : SomeMax w) (hcut : cutT r.data.toList = none) :
    Calls Tryd.prog 15 #[.string s] w fun e w' => told none e ∧ Below w.heap.size w w' := by
  have CT := cutText_any r (w.alloc (.cells #[.int .i64 2, .int .i64 0, .int .u64 0, .string ⟨#[]⟩] 29)) hrs (hM.below ((Below.refl w.heap.size w).alloc (Nat.le_refl _) _) hM.lt)
  rw [hcut] at CT
  simp only [textOf] at CT
  clear hcut hM
  go_enter Tryd.func15, Tryd.ntmps15
  go_wp2_with (go_at_call 25; refine CT.mono ?_; rintro e w1 ⟨rfl, hb1⟩; obtain ⟨c0, c1, c2, c3, f0, f1, f2, f3, hbw⟩ := partFacts hb1; clear hb1 CT)
  exact bodyPost_ret (v := .tuple #[.agg #[.int .i64 2, .int .i64 0, .int .u64 0, .string ⟨#[]⟩], .string ⟨#[]⟩, .bool false]) (by simp [results, Tryd.results15, go_sem, c0, c1, c2, c3]) rfl ⟨⟨⟨2, 0, 0, ⟨#[]⟩⟩, _, rfl⟩, setB (setB (setB (setB (setB hbw))))⟩
set_option maxHeartbeats 400000 in
theorem cutPart_3yes (s r : ByteArray) (w : World) (h0 : s.size ≤ 4000000000) (h1 : 1 ≤ s.size) (hc : (s[0].toNat : Int) = 3) (hr : s.extract 1 s.size = r) (hrs : r.size ≤ 4000000000) (hM : SomeMax w) (t q : List UInt8) (hcut : cutT r.data.toList = some (t, q)) :
    Calls Tryd.prog 15 #[.string s] w fun e w' => e = .returned (.tuple #[(⟨2, 0, 0, ⟨t.toArray⟩⟩ : Pt).val, .string ⟨q.toArray⟩, .bool true]) ∧ Below w.heap.size w w' := by
  have CT := cutText_any r (w.alloc (.cells #[.int .i64 2, .int .i64 0, .int .u64 0, .string ⟨#[]⟩] 29)) hrs (hM.below ((Below.refl w.heap.size w).alloc (Nat.le_refl _) _) hM.lt)
  rw [hcut] at CT
  simp only [textOf] at CT
  clear hcut hM
  go_enter Tryd.func15, Tryd.ntmps15
  go_wp2_with (go_at_call 25; refine CT.mono ?_; rintro e w1 ⟨rfl, hb1⟩; obtain ⟨c0, c1, c2, c3, f0, f1, f2, f3, hbw⟩ := partFacts hb1; clear hb1 CT)
  exact bodyPost_ret (v := .tuple #[.agg #[.int .i64 2, .int .i64 0, .int .u64 0, .string ⟨t.toArray⟩], .string ⟨q.toArray⟩, .bool true]) (by simp [results, Tryd.results15, go_sem, c0, c1, c2, c3]) rfl ⟨rfl, setB (setB (setB (setB (setB hbw))))⟩

theorem cutPart_any (c : UInt8) (l : List UInt8) (w : World) (hl : l.length ≤ 3999999999) (hM : SomeMax w) :
    Calls Tryd.prog 15 #[.string ⟨(c :: l).toArray⟩] w fun e w' => told (decP (c :: l)) e ∧ Below w.heap.size w w' := by
  have z : (ByteArray.mk (c :: l).toArray).size = l.length + 1 := rfl
  have h0 : (ByteArray.mk (c :: l).toArray).size ≤ 4000000000 := by rw [z]; omega
  have h1 : 1 ≤ (ByteArray.mk (c :: l).toArray).size := by rw [z]; omega
  have hc : (ByteArray.mk (c :: l).toArray)[0] = c := rfl
  have hr : (ByteArray.mk (c :: l).toArray).extract 1 (ByteArray.mk (c :: l).toArray).size = ⟨l.toArray⟩ := ext_rest c l
  have zr : (ByteArray.mk l.toArray).size = l.length := rfl
  have hrs : (ByteArray.mk l.toArray).size ≤ 4000000000 := by rw [zr]; omega
  have hd : (ByteArray.mk l.toArray).data.toList = l := by simp
  show Calls _ _ _ _ fun e w' => told (if c = 1 then _ else if c = 2 then _ else if c = 3 then _ else none) e ∧ _
  by_cases k1 : c = 1
  · rw [if_pos k1]
    have hc1 : ((ByteArray.mk (c :: l).toArray)[0].toNat : Int) = 1 := by rw [hc, k1]; rfl
    by_cases h8 : 8 ≤ l.length
    · rw [if_pos h8]
      have := cutPart_1yes _ _ w h0 h1 hc1 hr (by rw [zr]; omega) hrs
      rw [hd, ext_more] at this
      exact this
    · rw [if_neg h8]
      exact cutPart_1no _ _ w h0 h1 hc1 hr (by rw [zr]; omega)
  · rw [if_neg k1]
    by_cases k2 : c = 2
    · rw [if_pos k2]
      have hc1 : ((ByteArray.mk (c :: l).toArray)[0].toNat : Int) = 2 := by rw [hc, k2]; rfl
      by_cases h8 : 8 ≤ l.length
      · rw [if_pos h8]
        cases hk : inK (valB (l.take 8))
        · rw [if_neg (by decide)]
          exact cutPart_2bad _ _ w h0 h1 hc1 hr (by rw [zr]; omega) hrs (by rw [hd]; exact hk)
        · rw [if_pos rfl]
          have := cutPart_2yes _ _ w h0 h1 hc1 hr (by rw [zr]; omega) hrs (by rw [hd]; exact hk)
          rw [hd, ext_more] at this
          exact this
      · rw [if_neg h8]
        exact cutPart_2no _ _ w h0 h1 hc1 hr (by rw [zr]; omega)
    · rw [if_neg k2]
      by_cases k3 : c = 3
      · rw [if_pos k3]
        have hc1 : ((ByteArray.mk (c :: l).toArray)[0].toNat : Int) = 3 := by rw [hc, k3]; rfl
        cases hcut : cutT l with
        | none => exact cutPart_3no _ _ w h0 h1 hc1 hr hrs hM (by rw [hd]; exact hcut)
        | some x => exact cutPart_3yes _ _ w h0 h1 hc1 hr hrs hM x.1 x.2 (by rw [hd]; exact hcut)
      · rw [if_neg k3]
        exact cutPart_other c _ w h0 h1 hc k1 k2 k3
end Go.Proofs.YtghneolphdfdlabDoor
