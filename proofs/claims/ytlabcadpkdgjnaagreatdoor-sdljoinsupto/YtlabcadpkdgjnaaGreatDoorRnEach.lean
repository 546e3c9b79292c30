/- eachStep by one contract for whatever function value it is handed: an invariant over the place, kept by what eachStep itself does to memory, is taken on step by step. -/
import Derived.Test.YtlabcadpkdgjnaaGreatDoorRnSmall
namespace Go.Proofs.YtlabcadpkdgjnaaGreatDoor
open Go.RowKit

/-- What eachStep itself does to memory: nothing below B turns, and no row of cells but those of the struct step. -/
structure Keep (B : Nat) (W W' : World) : Prop where
  below : Below B W W'
  cells : ∀ (k : Nat) c t fz, W.heap[k]? = some (Obj.cells c t fz) → t ≠ 146 → W'.heap[k]? = some (Obj.cells c t fz)

/-- Strings' iterators stand. -/
def Iters (W W' : World) : Prop := ∀ (k : Nat) (s : ByteArray) (pos : Nat), W.heap[k]? = some (.stringIter s pos) → W'.heap[k]? = some (.stringIter s pos)

def stV (s : ByteArray) (p : Nat) : Value := .agg #[.int .i64 (stC s p), .int .i64 p, .int .i64 (p + stW s p : Nat)]

theorem Keep.refl (B : Nat) (W : World) : Keep B W W := ⟨Below.refl _ _, fun _ _ _ _ h _ => h⟩
theorem Keep.alloc {B : Nat} {W W' : World} (h : Keep B W W') (hB : B ≤ W'.heap.size) (o : Obj) : Keep B W (W'.alloc o) :=
  ⟨h.below.alloc hB o, fun k c t fz hk ht => by
    have h1 := h.cells k c t fz hk ht
    have hlt : k < W'.heap.size := (Array.getElem?_eq_some_iff.1 h1).1
    exact (Lib.alloc_old W' o k hlt).trans h1⟩
theorem Keep.iterAt {B : Nat} {W W' : World} (h : Keep B W W') {k : Nat} {s : ByteArray} {pos : Nat} (hB : B ≤ k) (hk : W'.heap[k]? = some (.stringIter s pos)) (pos' : Nat) : Keep B W (W'.iterAt k s pos') :=
  ⟨Lib.below_iterAt h.below hB s pos', fun j c t fz hj ht => by
    have h1 := h.cells j c t fz hj ht
    have hjk : j ≠ k := by
      intro e
      rw [e, hk] at h1
      cases h1
    exact (Lib.iterAt_other W' k j s pos' hjk).trans h1⟩

theorem Iters.refl (W : World) : Iters W W := fun _ _ _ h => h
theorem Iters.alloc {W W' : World} (h : Iters W W') (o : Obj) : Iters W (W'.alloc o) := fun k s pos hk => by
  have h1 := h k s pos hk
  have hlt : k < W'.heap.size := (Array.getElem?_eq_some_iff.1 h1).1
  exact (Lib.alloc_old W' o k hlt).trans h1

set_option maxHeartbeats 1000000 in
set_option maxRecDepth 100000 in
theorem each_any (K : Nat) (caps : Array Value) (s : ByteArray) (w : World) (hs : s.size ≤ 1125899906842624) (I : Nat → World → Prop) (Q : World → Prop)
    (hK : ∀ args W, Sem.run Tryz.prog (callFunc K args) W = .ok (.enter K args) W)
    (hst : ∀ p W W', I p W → Keep w.heap.size W W' → I p W') (h0 : I 0 w)
    (hcall : ∀ p W, p < s.size → I p W → Calls Tryz.prog K (#[stV s p] ++ caps) W fun e W' => ∃ b, e = .returned (.bool b) ∧ Iters W W' ∧ (b = true → I (p + stW s p) W') ∧ (b = false → Q W'))
    (hend : ∀ W, I s.size W → Q W) :
    Calls Tryz.prog 117 #[.string s, .func (.func K) #[] caps] w fun e w' => e = .returned (.tuple #[]) ∧ Q w' := by
  go_enter Tryz.func117, Tryz.ntmps117
  go_wp2
  go_loopw [] (fun wr => ∃ pos, pos ≤ s.size ∧ wr.heap[w.heap.size]? = some (.stringIter s pos) ∧ I pos wr) (fun wr => s.size - wr.iterPos w.heap.size)
  case atStart =>
    refine ⟨0, Nat.zero_le _, World.iter_heap w s 0, hst _ _ _ h0 ?_⟩
    exact (Keep.refl _ _).alloc (Nat.le_refl _) _
  case round =>
    obtain ⟨pos, hle, hit, hI⟩ := hrel
    by_cases hp : pos < s.size
    · have hnx : ∀ ty, (Instr.next (.pointer (some ⟨w.heap.size, 0, none⟩)) true ty).run Tryz.prog wr = _ := fun ty => Lib.run_next_any_at wr w.heap.size s pos ty hit hp
      have hw := dec_w s pos hp
      have hb := dec_bd s pos
      have hkeep := (Keep.refl w.heap.size wr).iterAt (Nat.le_refl _) hit (pos + (Utf8.decode s pos).2)
      have hsz : w.heap.size ≤ (wr.iterAt w.heap.size s (pos + (Utf8.decode s pos).2)).heap.size := by
        rw [Lib.iterAt_size]; have := (Array.getElem?_eq_some_iff.1 hit).1; omega
      have hit2 := Lib.iterAt_heap wr w.heap.size s pos (pos + (Utf8.decode s pos).2) hit
      have hIa : ∀ o, I pos ((wr.iterAt w.heap.size s (pos + (Utf8.decode s pos).2)).alloc o) := fun o => hst _ _ _ hI (hkeep.alloc hsz o)
      have hita0 : ∀ o, ((wr.iterAt w.heap.size s (pos + (Utf8.decode s pos).2)).alloc o).heap[w.heap.size]? = some (.stringIter s (pos + (Utf8.decode s pos).2)) := fun o => (Lib.alloc_old _ o _ (Array.getElem?_eq_some_iff.1 hit2).1).trans hit2
      by_cases hr : ((Utf8.decode s pos).1 : Int) = 65533
      · have hr0 : (Utf8.decode s pos).1 = 65533 := by omega
        have hpf := hp_fffd s pos hp hr0
        have hrl : runeLen 65533 = 3 := by decide
        by_cases h3 : (Utf8.decode s pos).2 = 3
        · have hpt : hpB (s.extract pos s.size) ⟨#[239, 191, 189]⟩ = true := by rw [hpf]; simpa using h3
          have hne : Utf8.decode s pos ≠ (65533, 1) := fun e => by rw [e] at h3; exact absurd h3 (by decide)
          have hv : stV s pos = .agg #[.int .i64 65533, .int .i64 pos, .int .i64 (pos + 3)] := by
            unfold stV stC stW; rw [if_neg hne, h3, hr0]; rfl
          have hcW := fun o => hcall pos _ hp (hIa o)
          rw [hv, h3] at hcW
          simp only [h3] at hita0
          clear hpf hIa hit2 hsz hkeep
          go_wp2_with (first | (go_at_call 127; refine (runeLen_any _ _).mono ?_; rintro e w' ⟨rfl, rfl⟩) | (go_at_call 98; refine (sHasPrefix_any _ _ _).mono ?_; rintro e w' ⟨rfl, rfl⟩))
          have hc := hcW (.cells #[.int .i64 65533, .int .i64 pos, .int .i64 (pos + 3)] 146)
          have hita := hita0 (.cells #[.int .i64 65533, .int .i64 pos, .int .i64 (pos + 3)] 146)
          clear hcW hita0
          refine Calls.mono hc ?_
          rintro e W' ⟨b, rfl, hi, ht, hf⟩
          have hit3 := hi _ _ _ hita
          cases b with
          | true =>
            have hI3 := ht rfl
            clear hc ht hf hcall hst hK
            go_wp2
            go_roundw
            case rel => exact ⟨pos + stW s pos, hw.2.2, by unfold stW; rw [h3]; exact hit3, hI3⟩
            case measure =>
              simp only [World.iterPos, hit3, hit]
              have := hw.1
              unfold stW at this hw
              omega
          | false =>
            have hQ := hf rfl
            clear hc ht hf hcall hst hK
            go_wp2
            exact bodyPost_ret (v := .tuple #[]) (by simp [results, Tryz.results117, go_sem]) rfl ⟨rfl, hQ⟩
        · have hpt : hpB (s.extract pos s.size) ⟨#[239, 191, 189]⟩ = false := by rw [hpf]; simpa using h3
          have h1 : (Utf8.decode s pos).2 = 1 := (dec_fffd s pos hr0).resolve_right h3
          clear h3
          have h3 := h1
          clear h1
          have hne : Utf8.decode s pos = (65533, 1) := Prod.ext hr0 h3
          have hv : stV s pos = .agg #[.int .i64 (-1), .int .i64 pos, .int .i64 (pos + 1)] := by
            unfold stV stC stW; rw [if_pos hne, h3]; rfl
          clear hne
          have hcW := fun o => hcall pos _ hp (hIa o)
          rw [hv, h3] at hcW
          simp only [h3] at hita0
          clear hpf hIa hit2 hsz hkeep
          go_wp2_with (first | (go_at_call 127; refine (runeLen_any _ _).mono ?_; rintro e w' ⟨rfl, rfl⟩) | (go_at_call 98; refine (sHasPrefix_any _ _ _).mono ?_; rintro e w' ⟨rfl, rfl⟩))
          have hc := hcW (.cells #[.int .i64 (-1), .int .i64 pos, .int .i64 (pos + 1)] 146)
          have hita := hita0 (.cells #[.int .i64 (-1), .int .i64 pos, .int .i64 (pos + 1)] 146)
          clear hcW hita0
          refine Calls.mono hc ?_
          rintro e W' ⟨b, rfl, hi, ht, hf⟩
          have hit3 := hi _ _ _ hita
          cases b with
          | true =>
            have hI3 := ht rfl
            clear hc ht hf hcall hst hK
            go_wp2
            go_roundw
            case rel => exact ⟨pos + stW s pos, hw.2.2, by unfold stW; rw [h3]; exact hit3, hI3⟩
            case measure =>
              simp only [World.iterPos, hit3, hit]
              have := hw.1
              unfold stW at this hw
              omega
          | false =>
            have hQ := hf rfl
            clear hc ht hf hcall hst hK
            go_wp2
            exact bodyPost_ret (v := .tuple #[]) (by simp [results, Tryz.results117, go_sem]) rfl ⟨rfl, hQ⟩
      · have hr' : (((Utf8.decode s pos).1 : Int) == 65533) = false := by simpa using hr
        have hne : Utf8.decode s pos ≠ (65533, 1) := fun e => by rw [e] at hr; exact absurd rfl hr
        have hrl : runeLen ((Utf8.decode s pos).1 : Int) = ((stW s pos : Nat) : Int) := by
          rcases dec_len s pos with h | ⟨h, _⟩
          · exact absurd h hne
          · exact h
        have hv : stV s pos = .agg #[.int .i64 ((Utf8.decode s pos).1 : Int), .int .i64 pos, .int .i64 (pos + stW s pos)] := by
          unfold stV stC; rw [if_neg hne]; rfl
        have hcW := fun o => hcall pos _ hp (hIa o)
        rw [hv] at hcW
        go_wp2_with (go_at_call 127; refine (runeLen_any _ _).mono ?_; rintro e w' ⟨rfl, rfl⟩)
        have hc := hcW (.cells #[.int .i64 ((Utf8.decode s pos).1 : Int), .int .i64 pos, .int .i64 (pos + stW s pos)] 146)
        have hita := hita0 (.cells #[.int .i64 ((Utf8.decode s pos).1 : Int), .int .i64 pos, .int .i64 (pos + stW s pos)] 146)
        clear hcW hita0
        refine Calls.mono hc ?_
        rintro e W' ⟨b, rfl, hi, ht, hf⟩
        have hit3 := hi _ _ _ hita
        cases b with
        | true =>
          have hI3 := ht rfl
          clear hc ht hf hcall hst hK
          go_wp2
          go_roundw
          case rel => exact ⟨pos + stW s pos, hw.2.2, hit3, hI3⟩
          case measure =>
            simp only [World.iterPos, hit3, hit]
            have := hw.1
            unfold stW at this hw
            omega
        | false =>
          have hQ := hf rfl
          clear hc ht hf hcall hst hK
          go_wp2
          exact bodyPost_ret (v := .tuple #[]) (by simp [results, Tryz.results117, go_sem]) rfl ⟨rfl, hQ⟩
    · have hnx : ∀ ty, (Instr.next (.pointer (some ⟨w.heap.size, 0, none⟩)) true ty).run Tryz.prog wr = _ := fun ty => Lib.run_next_end_at wr w.heap.size s pos ty hit hp
      go_wp2
      go_end0
      exact ⟨rfl, hend _ (by have : pos = s.size := by omega
                             subst this; exact hI)⟩

end Go.Proofs.YtlabcadpkdgjnaaGreatDoor
