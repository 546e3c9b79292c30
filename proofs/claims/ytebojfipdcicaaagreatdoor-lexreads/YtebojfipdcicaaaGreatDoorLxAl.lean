/- Are two rows of tokens the same but for their places? -/
import Derived.Test.YtebojfipdcicaaaGreatDoorLxFx
namespace Go.Proofs.YtebojfipdcicaaaGreatDoor
open Go Go.RowKit

/-- A slice that holds these tokens, wherever it lies. -/
def ToksAt (w : World) (v : Value) (ts : List Tok) : Prop := ∃ a cap, v = .slice a ts.length cap ∧ ts.length ≤ cap ∧ (ts ≠ [] → ∃ b o, a = some ⟨b, o, none⟩ ∧ b < w.heap.size ∧ ∀ (i : Nat) (t : Tok), ts[i]? = some t →
  w.cell? ⟨b, o + i * 4, none⟩ = some (.int .i64 t.k) ∧ w.cell? ⟨b, o + i * 4 + 1, none⟩ = some (.string ⟨t.t.toArray⟩) ∧ w.cell? ⟨b, o + i * 4 + 2, none⟩ = some (.int .i64 (t.b : Int)) ∧ w.cell? ⟨b, o + i * 4 + 3, none⟩ = some (.int .i64 (t.e : Int)))
theorem toksAt_own {W : World} {B : Nat} {v : Value} {ts : List Tok} (h : Toks W B v ts) : ToksAt W v ts := by
  by_cases hn : ts = []
  · subst hn
    rcases h.2 with ⟨rfl, _⟩ | ⟨g, cap, cur, rfl, _, _, hc, _⟩
    · exact ⟨_, _, rfl, Nat.le_refl _, fun h => absurd rfl h⟩
    · exact ⟨_, _, rfl, hc, fun h => absurd rfl h⟩
  · obtain ⟨g, cap, rfl, hc, hB, hlt, hcell⟩ := toks_row h hn
    refine ⟨_, _, rfl, hc, fun _ => ⟨g, 0, rfl, hlt, fun i t hi => ?_⟩⟩
    have := hcell i t hi
    rw [Nat.zero_add, Nat.mul_comm i 4]
    exact this
theorem ToksAt.below {w w' : World} {v : Value} {ts : List Tok} (h : ToksAt w v ts) (hb : Below w.heap.size w w') : ToksAt w' v ts := by
  obtain ⟨a, cap, e, hc, hr⟩ := h
  refine ⟨a, cap, e, hc, fun hn => ?_⟩
  obtain ⟨b, o, e2, hlt, hcell⟩ := hr hn
  refine ⟨b, o, e2, Nat.lt_of_lt_of_le hlt hb.size, fun i t hi => ?_⟩
  have f : ∀ j, w'.cell? ⟨b, j, none⟩ = w.cell? ⟨b, j, none⟩ := fun j => hb.cell (p := ⟨b, j, none⟩) hlt
  obtain ⟨h0, h1, h2, h3⟩ := hcell i t hi
  exact ⟨(f _).trans h0, (f _).trans h1, (f _).trans h2, (f _).trans h3⟩

set_option maxHeartbeats 2000000 in
/-- Tokens that are the same are told to be. -/
theorem same_yes (v u : Value) (ts : List Tok) (w : World) (hp : ToksAt w v ts) (hq : ToksAt w u ts) (hl : ts.length ≤ 1099511627776) :
    Calls Tryz.prog 11 #[v, u] w fun e w' => e = .returned (.bool true) ∧ ∃ n, w' = w.drewN n := by
  obtain ⟨a, cap, rfl, hcap, hca⟩ := hp
  obtain ⟨a', cap', rfl, hcap', hcb⟩ := hq
  go_enter Tryz.func11, Tryz.ntmps11
  go_wp2
  go_loopw [5] (fun i wr => ∃ j n : Nat, j ≤ ts.length ∧ i = .int .i64 j ∧ wr = w.drewN n) (fun i _ => ts.length - (intOf i).toNat)
  case atStart => exact ⟨0, 0, Nat.zero_le _, rfl, rfl⟩
  case round =>
    obtain ⟨j, n, hj, rfl, rfl⟩ := hrel
    by_cases hlt : j < ts.length
    · obtain ⟨b, o, rfl, hblt, hca⟩ := hca (by intro e; rw [e] at hlt; simp at hlt)
      obtain ⟨b2, o2, rfl, hblt2, hcb⟩ := hcb (by intro e; rw [e] at hlt; simp at hlt)
      obtain ⟨h0, h1, h2, h3⟩ := hca j ts[j] (List.getElem?_eq_getElem hlt)
      obtain ⟨g0, g1, g2, g3⟩ := hcb j ts[j] (List.getElem?_eq_getElem hlt)
      clear hca hcb
      generalize ts[j] = p at *
      obtain ⟨k, t, i, e⟩ := p
      simp only at h0 h1 h2 h3 g0 g1 g2 g3
      go_wp2
      go_quiet (fail)
      go_wp2
      go_roundw
      case rel => exact ⟨j + 1, _, by omega, by go_num, rfl⟩
      case measure => simp [intOf]; omega
    · go_wp2
      go_ret
      exact ⟨rfl, _, rfl⟩
end Go.Proofs.YtebojfipdcicaaaGreatDoor
namespace Go.Proofs.YtebojfipdcicaaaGreatDoor
open Go Go.RowKit
/-- The same kinds and texts. -/
def alikeT (t u : List Tok) : Prop := t.map (fun x => (x.k, x.t)) = u.map (fun x => (x.k, x.t))

set_option maxHeartbeats 2000000 in
theorem alike_yes (v u : Value) (ts us : List Tok) (w : World) (hp : ToksAt w v ts) (hq : ToksAt w u us) (ha : alikeT ts us) (hl : ts.length ≤ 1099511627776) :
    Calls Tryz.prog 18 #[v, u] w fun e w' => e = .returned (.bool true) ∧ ∃ n, w' = w.drewN n := by
  obtain ⟨a, cap, rfl, hcap, hca⟩ := hp
  obtain ⟨a', cap', rfl, hcap', hcb⟩ := hq
  have hlen : us.length = ts.length := by
    have := congrArg List.length ha
    simpa using this.symm
  have hat : ∀ (j : Nat) (h1 : j < ts.length) (h2 : j < us.length), ts[j].k = us[j].k ∧ ts[j].t = us[j].t := by
    intro j h1 h2
    have e : (ts.map (fun x => (x.k, x.t)))[j]? = (us.map (fun x => (x.k, x.t)))[j]? := by rw [show ts.map (fun x => (x.k, x.t)) = us.map (fun x => (x.k, x.t)) from ha]
    rw [List.getElem?_map, List.getElem?_map, List.getElem?_eq_getElem h1, List.getElem?_eq_getElem h2] at e
    have e2 := Option.some.inj e
    exact ⟨(Prod.mk.inj e2).1, (Prod.mk.inj e2).2⟩
  rw [hlen] at hcap' ⊢
  clear ha
  go_enter Tryz.func18, Tryz.ntmps18
  go_wp2
  go_loopw [5] (fun i wr => ∃ j n : Nat, j ≤ ts.length ∧ i = .int .i64 j ∧ wr = w.drewN n) (fun i _ => ts.length - (intOf i).toNat)
  case atStart => exact ⟨0, 0, Nat.zero_le _, rfl, rfl⟩
  case round =>
    obtain ⟨j, n, hj, rfl, rfl⟩ := hrel
    by_cases hlt : j < ts.length
    · have hlt2 : j < us.length := by omega
      obtain ⟨b, o, rfl, hblt, hca⟩ := hca (by intro e; rw [e] at hlt; simp at hlt)
      obtain ⟨b2, o2, rfl, hblt2, hcb⟩ := hcb (by intro e; rw [e] at hlt2; simp at hlt2)
      obtain ⟨h0, h1, h2, h3⟩ := hca j ts[j] (List.getElem?_eq_getElem hlt)
      obtain ⟨g0, g1, g2, g3⟩ := hcb j us[j] (List.getElem?_eq_getElem hlt2)
      obtain ⟨e1, e2⟩ := hat j hlt hlt2
      rw [← e1] at g0
      rw [← e2] at g1
      clear hca hcb hat e1 e2 h2 h3 g2 g3
      generalize ts[j].k = k at *
      generalize ts[j].t = t at *
      go_wp2
      go_quiet (fail)
      go_wp2
      go_roundw
      case rel => exact ⟨j + 1, _, by omega, by go_num, rfl⟩
      case measure => simp [intOf]; omega
    · go_wp2
      go_ret
      exact ⟨rfl, _, rfl⟩
end Go.Proofs.YtebojfipdcicaaaGreatDoor
