/- Whatever is ignored changes nothing but places: the law's own walk, all ways together. -/
import Derived.Test.YtebojfipdcicaaaGreatDoorLxIn
namespace Go.Proofs.YtebojfipdcicaaaGreatDoor
open Go Go.RowKit

theorem ign_yes (s : Bs) (ts : List Tok) (hl : lexS s = .inr ts) (a c : Int) (w : World) (gl : Gl w) (hz : Tz w) :
    Calls Tryz.prog 7 #[.string ⟨s.toArray⟩, .int .i64 a, .int .i64 c] w fun e w' => e = .returned (.bool true) ∧ Below w.heap.size w w' := by
  obtain ⟨ps, tl, hR, hts⟩ := right_of hl
  have hlen : ts.length = ps.length := by rw [hts]; exact toksP_len _ _ _
  have hfew := hR.few
  have hsh := hR.short
  obtain ⟨Wk, hWk, hW⟩ := rem_up c 8 (by decide)
  obtain ⟨Ak, hAk, hA⟩ := rem_up a (ts.length + 1) (by omega)
  have e1 : ((ts.length + 1 : Nat) : Int) = (ts.length : Int) + 1 := by omega
  rw [e1] at hA
  have e8 : ((8 : Nat) : Int) = 8 := rfl
  rw [e8] at hW
  obtain ⟨P, hP, hPs, hG⟩ := place_ok hR Ak (by omega) Wk hWk
  rw [← hts] at hP hG
  obtain ⟨X1, X2, hput⟩ := put_of s (gapL Wk) P hPs
  have hG4 : (gapL Wk).length ≤ 4 := by
    obtain ⟨d, G, g1, _, _, g4⟩ := gap_ok Wk hWk
    rw [g1]; exact g4
  have hgb := fun w : World => gap_new w Wk hWk
  obtain ⟨us, hus⟩ : ∃ us, s.length + (gapL Wk).length ≤ 16384 → lexS (s.take P ++ gapL Wk ++ s.drop P) = .inr us ∧ alikeT us ts := by
    by_cases hf : s.length + (gapL Wk).length ≤ 16384
    · obtain ⟨us, h1, h2⟩ := hG hf
      exact ⟨us, fun _ => ⟨h1, h2⟩⟩
    · exact ⟨[], fun h => absurd h hf⟩
  have T : ∀ w, Gl w → Calls Tryz.prog 10 #[.string ⟨s.toArray⟩] w (TokensP w (.inr ts)) := fun w g => by
    have := tokens_any s w g
    rw [hl] at this
    exact this
  have T2 : s.length + (gapL Wk).length ≤ 16384 → ∀ w, Gl w → Calls Tryz.prog 10 #[.string ⟨(s.take P ++ gapL Wk ++ s.drop P).toArray⟩] w (TokensP w (.inr us)) := fun hf w g => by
    have := tokens_any (s.take P ++ gapL Wk ++ s.drop P) w g
    rw [(hus hf).1] at this
    exact this
  have hal := fun hf => (hus hf).2
  have hl2 : ts.length ≤ 2048 := by omega
  rcases way_of hP with ⟨t, h1, h2⟩ | ⟨t, j, h1, h2, h3, h4⟩ | ⟨h1, h2, h3⟩
  · rcases hW with ⟨w0, w1⟩ | ⟨w0, w1⟩
    · rcases hA with ⟨a0, a1⟩ | ⟨a0, a1⟩
      · exact ign_mid_nn _ _ _ _ _ ts us _ _ _ _ Wk Ak P a c t h1 h2 hput hPs hsh hG4 hl2 hgb hWk w0 w1 a0 a1 rfl rfl hal T T2 w gl hz
      · exact ign_mid_np _ _ _ _ _ ts us _ _ _ _ Wk Ak P a c t h1 h2 hput hPs hsh hG4 hl2 hgb hWk w0 w1 a0 a1 rfl rfl hal T T2 w gl hz
    · rcases hA with ⟨a0, a1⟩ | ⟨a0, a1⟩
      · exact ign_mid_pn _ _ _ _ _ ts us _ _ _ _ Wk Ak P a c t h1 h2 hput hPs hsh hG4 hl2 hgb hWk w0 w1 a0 a1 rfl rfl hal T T2 w gl hz
      · exact ign_mid_pp _ _ _ _ _ ts us _ _ _ _ Wk Ak P a c t h1 h2 hput hPs hsh hG4 hl2 hgb hWk w0 w1 a0 a1 rfl rfl hal T T2 w gl hz
  · rcases hW with ⟨w0, w1⟩ | ⟨w0, w1⟩
    · rcases hA with ⟨a0, a1⟩ | ⟨a0, a1⟩
      · exact ign_last_nn _ _ _ _ _ ts us _ _ _ _ Wk Ak P a c t j h1 h2 h3 h4 hput hPs hsh hG4 hl2 hgb hWk w0 w1 a0 a1 rfl rfl hal T T2 w gl hz
      · exact ign_last_np _ _ _ _ _ ts us _ _ _ _ Wk Ak P a c t j h1 h2 h3 h4 hput hPs hsh hG4 hl2 hgb hWk w0 w1 a0 a1 rfl rfl hal T T2 w gl hz
    · rcases hA with ⟨a0, a1⟩ | ⟨a0, a1⟩
      · exact ign_last_pn _ _ _ _ _ ts us _ _ _ _ Wk Ak P a c t j h1 h2 h3 h4 hput hPs hsh hG4 hl2 hgb hWk w0 w1 a0 a1 rfl rfl hal T T2 w gl hz
      · exact ign_last_pp _ _ _ _ _ ts us _ _ _ _ Wk Ak P a c t j h1 h2 h3 h4 hput hPs hsh hG4 hl2 hgb hWk w0 w1 a0 a1 rfl rfl hal T T2 w gl hz
  · rcases hW with ⟨w0, w1⟩ | ⟨w0, w1⟩
    · rcases hA with ⟨a0, a1⟩ | ⟨a0, a1⟩
      · exact ign_none_nn _ _ _ _ _ ts us _ _ _ _ Wk Ak P a c h1 h2 h3 hput hPs hsh hG4 hl2 hgb hWk w0 w1 a0 a1 rfl rfl hal T T2 w gl hz
      · exact ign_none_np _ _ _ _ _ ts us _ _ _ _ Wk Ak P a c h1 h2 h3 hput hPs hsh hG4 hl2 hgb hWk w0 w1 a0 a1 rfl rfl hal T T2 w gl hz
    · rcases hA with ⟨a0, a1⟩ | ⟨a0, a1⟩
      · exact ign_none_pn _ _ _ _ _ ts us _ _ _ _ Wk Ak P a c h1 h2 h3 hput hPs hsh hG4 hl2 hgb hWk w0 w1 a0 a1 rfl rfl hal T T2 w gl hz
      · exact ign_none_pp _ _ _ _ _ ts us _ _ _ _ Wk Ak P a c h1 h2 h3 hput hPs hsh hG4 hl2 hgb hWk w0 w1 a0 a1 rfl rfl hal T T2 w gl hz
theorem lexIgnores_walk (s : Bs) (_ : s.length ≤ 140737488351232) (a c : Int) (w : World) (gl : Gl w) (hz : Tz w) :
    Calls Tryz.prog 7 #[.string ⟨s.toArray⟩, .int .i64 a, .int .i64 c] w fun e w' => e = .returned (.bool true) ∧ Below w.heap.size w w' := by
  cases hl : lexS s with
  | inr ts => exact ign_yes s ts hl a c w gl hz
  | inl p =>
    refine ign_no s p.1 p.2 hl ?_ a c w gl hz
    rcases wrong_of src_cut hl with ⟨h, _⟩ | ⟨_, h, _⟩
    · rw [h]; decide
    · exact h
end Go.Proofs.YtebojfipdcicaaaGreatDoor
