/- Whatever is ignored changes nothing but places: the law's own walk. -/
import Derived.Test.YtebojfipdcicaaaGreatDoorLxAl
import Derived.Test.YtebojfipdcicaaaGreatDoorMtE
import Derived.Test.YtebojfipdcicaaaGreatDoorMtQ0
namespace Go.Proofs.YtebojfipdcicaaaGreatDoor
open Go Go.RowKit

theorem below_drewW {w w' : World} (h : Below w.heap.size w w') (m : Nat) : Below w.heap.size w (w'.drewN m) := ⟨h.os, h.tape, h.output, h.size, h.block⟩
theorem alike_says {us ts : List Tok} (h : saysT us = saysT ts) : alikeT us ts := h
/-- The gaps. -/
def gapL : Nat → Bs
  | 0 => [32]
  | 1 => [44]
  | 2 => [10]
  | 3 => [13]
  | 4 => [9]
  | 5 => [239, 187, 191]
  | 6 => [35, 120, 10]
  | _ => [44, 35, 34, 13]
abbrev gapsA : Array Value := #[.string ⟨#[32]⟩, .string ⟨#[44]⟩, .string ⟨#[10]⟩, .string ⟨#[13]⟩, .string ⟨#[9]⟩, .string ⟨#[239, 187, 191]⟩, .string ⟨#[35, 120, 10]⟩, .string ⟨#[44, 35, 34, 13]⟩]
theorem gap_cell (k : Nat) (hk : k < 8) : gapsA[k]? = some (.string ⟨(gapL k).toArray⟩) := by
  match k, hk with
  | 0, _ => rfl
  | 1, _ => rfl
  | 2, _ => rfl
  | 3, _ => rfl
  | 4, _ => rfl
  | 5, _ => rfl
  | 6, _ => rfl
  | 7, _ => rfl
  | _ + 8, h => omega
theorem gap_ok (k : Nat) (hk : k < 8) : ∃ c G, gapL k = c :: G ∧ Gap (c :: G) ∧ brkL.contains c = false ∧ (c :: G).length ≤ 4 := by
  have hsrc : ∀ x : Bs, (∀ c ∈ x, 32 ≤ c.toNat ∧ c.toNat < 128) → srcB x = none := src_plain
  match k, hk with
  | 0, _ => exact ⟨32, [], rfl, Gap.one rfl, rfl, by simp⟩
  | 1, _ => exact ⟨44, [], rfl, Gap.one rfl, rfl, by simp⟩
  | 2, _ => exact ⟨10, [], rfl, Gap.one rfl, rfl, by simp⟩
  | 3, _ => exact ⟨13, [], rfl, Gap.one rfl, rfl, by simp⟩
  | 4, _ => exact ⟨9, [], rfl, Gap.one rfl, rfl, by simp⟩
  | 5, _ => exact ⟨239, _, rfl, Gap.bom, rfl, by simp⟩
  | 6, _ => exact ⟨35, _, rfl, Gap.com (body := [120]) (c := 10) (by decide) (hsrc _ (by decide)) rfl, rfl, by simp⟩
  | 7, _ => exact ⟨44, _, rfl, (Gap.one (c := 44) rfl).app (Gap.com (body := [34]) (c := 13) (by decide) (hsrc _ (by decide)) rfl), rfl, by simp⟩
  | _ + 8, h => omega
/-- Where the gap goes: at a token's beginning, or at the last one's end. -/
def PlaceAt (ts : List Tok) (k P : Nat) : Prop := (∃ t, ts[k]? = some t ∧ t.b = P) ∨ (k = ts.length ∧ ((∃ t, ts[k - 1]? = some t ∧ 0 < k ∧ t.e = P) ∨ (k = 0 ∧ P = 0)))
theorem place_ok {s : Bs} {ps : List Pc} {tl : Bs} (h : Right s ps tl) (k : Nat) (hk : k ≤ ps.length) (g : Nat) (hg : g < 8) :
    ∃ P, PlaceAt (toksP s.length ps tl) k P ∧ P ≤ s.length ∧ (s.length + (gapL g).length ≤ 16384 → ∃ us, lexS (s.take P ++ gapL g ++ s.drop P) = .inr us ∧ alikeT us (toksP s.length ps tl)) := by
  obtain ⟨c, G, e1, e2, e3, e4⟩ := gap_ok g hg
  by_cases hlt : k < ps.length
  · have hsp : ps = ps.take k ++ ps[k] :: ps.drop (k + 1) := by
      rw [← List.drop_eq_getElem_cons hlt, List.take_append_drop]
    have hkl : (ps.take k).length = k := by rw [List.length_take]; omega
    generalize ps.take k = az at hsp hkl
    generalize ps[k] = a at hsp
    generalize ps.drop (k + 1) = bs at hsp
    subst hsp
    obtain ⟨p1, p2, p3, p4, p5, p6⟩ := piece_at h
    refine ⟨preL az + a.g.length, Or.inl ⟨_, by rw [← hkl]; exact p1, rfl⟩, by omega, fun hl => ?_⟩
    rw [e1] at hl ⊢
    obtain ⟨us, g1, g2⟩ := ign_mid h e2 e3 hl
    exact ⟨us, g1, alike_says (g2.trans (toksP_says _ _ _).symm)⟩
  · obtain rfl : k = ps.length := by omega
    refine ⟨preL ps, Or.inr ⟨(toksP_len _ _ _).symm, ?_⟩, by have := right_len h; omega, fun hl => ?_⟩
    · by_cases h0 : ps.length = 0
      · refine Or.inr ⟨h0, ?_⟩
        rw [List.length_eq_zero_iff.1 h0]
        rfl
      · left
        have hsp : ps = ps.dropLast ++ [ps.getLast (by intro e; rw [e] at h0; exact h0 rfl)] := (List.dropLast_concat_getLast _).symm
        have hkl : ps.dropLast.length = ps.length - 1 := List.length_dropLast
        generalize ps.dropLast = az at hsp hkl
        generalize ps.getLast _ = a at hsp
        subst hsp
        obtain ⟨p1, _⟩ := piece_at (bs := []) h
        refine ⟨_, by rw [← hkl]; exact p1, by simp, ?_⟩
        rw [preL_snoc]
    · rw [e1] at hl ⊢
      obtain ⟨us, g1, g2⟩ := ign_end h e2 e3 hl
      exact ⟨us, g1, alike_says (g2.trans (toksP_says _ _ _).symm)⟩
/-- What is left of a number by another one, brought up to 0. -/
theorem rem_up (a : Int) (m : Nat) (hm : 0 < m) : ∃ k : Nat, k < m ∧ ((a.tmod (m : Int) < 0 ∧ a.tmod (m : Int) + (m : Int) = (k : Int)) ∨ (¬ a.tmod (m : Int) < 0 ∧ a.tmod (m : Int) = (k : Int))) := by
  have h1 : a.tmod (m : Int) < m := Int.tmod_lt_of_pos a (by omega)
  have h2 : -(m : Int) < a.tmod (m : Int) := by
    by_cases h0 : 0 ≤ a
    · have := Int.tmod_nonneg (m : Int) h0
      omega
    · have e : a.tmod (m : Int) = -((-a).tmod (m : Int)) := by rw [Int.neg_tmod]; omega
      have := Int.tmod_lt_of_pos (-a) (show (0 : Int) < m by omega)
      omega
  by_cases h : a.tmod (m : Int) < 0
  · exact ⟨(a.tmod (m : Int) + m).toNat, by omega, Or.inl ⟨h, by omega⟩⟩
  · exact ⟨(a.tmod (m : Int)).toNat, by omega, Or.inr ⟨h, by omega⟩⟩

set_option maxRecDepth 100000 in
set_option maxHeartbeats 2000000 in
theorem ign_no (s : Bs) (b : Nat) (x : Int) (hl : lexS s = .inl (b, x)) (hx : x ≠ 0) (a c : Int) (w : World) (gl : Gl w) (hz : Tz w) :
    Calls Tryz.prog 7 #[.string ⟨s.toArray⟩, .int .i64 a, .int .i64 c] w fun e w' => e = .returned (.bool true) ∧ Below w.heap.size w w' := by
  have ok : Ok w w := ⟨Below.refl _ _, gl, hz⟩
  have T := tokens_any s w gl
  rw [hl] at T
  have x1 : (x == 0) = false := by simpa using hx
  clear hl gl hz
  generalize (ByteArray.mk s.toArray) = D at *
  go_enter Tryz.func7, Tryz.ntmps7
  go_wp2_with (first
    | (go_at_call 12; refine (fixed_any _ ok2.gl ok2.tz).mono ?_; rintro e w3 ⟨rfl, hb3⟩; have ok3 := ok2.go hb3)
    | (go_at_call 12; refine (fixed_any _ ok1.gl ok1.tz).mono ?_; rintro e w2 ⟨rfl, hb2⟩; have ok2 := ok1.go hb2)
    | (go_at_call 10; refine T.mono ?_; rintro e w1 ⟨rfl, hb1⟩; have ok1 := ok.go hb1)
    | fail)
  go_ret
  exact ⟨rfl, ok3.bel⟩

theorem cell_al {w w' : World} (hb : Below w.heap.size w w') {p : Addr} {x : Value} (hp : p.block < w.heap.size) (h : w.cell? p = some x) (o : Obj) : (w'.alloc o).cell? p = some x :=
  ((hb.alloc hb.size o).cell hp).trans h
theorem gap_new (w : World) (k : Nat) (hk : k < 8) : (w.alloc (.cells gapsA 9)).cell? ⟨w.heap.size, k, none⟩ = some (.string ⟨(gapL k).toArray⟩) := by
  have h := cell_new w gapsA 9 k
  rw [Addr.add_lit, Nat.zero_add] at h
  exact h.trans (gap_cell k hk)
/-- Where the gap goes, in the walk's words. -/
inductive Way (ts : List Tok) (k P : Nat) : Prop where
  | mid (t : Tok) (h : ts[k]? = some t) (e : t.b = P)
  | last (t : Tok) (j : Nat) (hj : k = j + 1) (hk : k = ts.length) (h : ts[j]? = some t) (e : t.e = P)
  | none (hk : k = 0) (hn : ts.length = 0) (e : P = 0)
theorem way_of {ts : List Tok} {k P : Nat} (h : PlaceAt ts k P) : Way ts k P := by
  rcases h with ⟨t, h1, h2⟩ | ⟨hk, ⟨t, h1, h2, h3⟩ | ⟨h1, h2⟩⟩
  · exact .mid t h1 h2
  · exact .last t (k - 1) (by omega) hk h1 h3
  · exact .none h1 (by omega) h2
/-- The text with the gap, and what is told of it. -/
structure Put (D X1 X2 GB TT : ByteArray) (n P g : Nat) : Prop where
  d : D.size = n
  x1 : X1.size = P
  x2 : X2.size = n - P
  gb : GB.size = g
  e1 : D.extract 0 P = X1
  e2 : D.extract P n = X2
  tt : X1 ++ GB ++ X2 = TT
  st : TT.size = n + g
theorem put_of (s G : Bs) (P : Nat) (hP : P ≤ s.length) : ∃ X1 X2, Put ⟨s.toArray⟩ X1 X2 ⟨G.toArray⟩ ⟨(s.take P ++ G ++ s.drop P).toArray⟩ s.length P G.length := by
  have h1 : (ByteArray.mk s.toArray).extract 0 P = ⟨(s.take P).toArray⟩ := take_mk s P
  have h2 : (ByteArray.mk s.toArray).extract P s.length = ⟨(s.drop P).toArray⟩ := by
    apply ByteArray.ext; apply Array.toList_inj.1
    simp
    exact List.take_of_length_le (by simp)
  refine ⟨⟨(s.take P).toArray⟩, ⟨(s.drop P).toArray⟩, rfl, ?_, ?_, rfl, h1, h2, ?_, ?_⟩
  · show (s.take P).toArray.size = P
    simp
    omega
  · show (s.drop P).toArray.size = s.length - P
    simp
  · apply ByteArray.ext; simp
  · show (s.take P ++ G ++ s.drop P).toArray.size = _
    simp
    omega

theorem toks_sl {w : World} {B : Nat} {v : Value} {ts : List Tok} (h : Toks w B v ts) : ∃ a c, v = .slice a ts.length c := by
  obtain ⟨a, c, e, _⟩ := toksAt_own h
  exact ⟨a, c, e⟩
theorem below_allN (w : World) (o : Obj) (m : Nat) : Below w.heap.size w ((w.alloc o).drewN m) := by
  have h : Below w.heap.size w (w.alloc o) := (Below.refl _ _).alloc (Nat.le_refl _) _
  exact ⟨h.os, h.tape, h.output, h.size, h.block⟩
end Go.Proofs.YtebojfipdcicaaaGreatDoor
