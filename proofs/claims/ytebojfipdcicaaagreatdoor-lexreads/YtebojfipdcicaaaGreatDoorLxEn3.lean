/- Where a document is wrong; a document behind another one: the law's own walk, all ways together. -/
import Derived.Test.YtebojfipdcicaaaGreatDoorLxEn
namespace Go.Proofs.YtebojfipdcicaaaGreatDoor
open Go Go.RowKit

theorem appT_below1 {w w1 : World} {t : TypeId} (h : (w.alloc (.cells #[] t)).grownBy w1 (Value.ownBlock (.slice (some ⟨w.heap.size, 0, none⟩) 0 0))) : Below w.heap.size w w1 :=
  ((Below.refl w.heap.size w).alloc (Nat.le_refl _) _).grown h (by simp) (by simp [Value.ownBlock])
theorem appT_below2 {w w1 w2 : World} {v : Value} {ps : List Tok} (h : Below w.heap.size w w1) (ho : Toks w1 w.heap.size v ps) (hg : w1.grownBy w2 v.ownBlock) : Below w.heap.size w w2 := h.grown hg h.size (own_geT ho)
theorem below_one (w : World) (o : Obj) : Below w.heap.size w (w.alloc o) := (Below.refl _ _).alloc (Nat.le_refl _) _

set_option maxRecDepth 100000 in
set_option maxHeartbeats 2000000 in
theorem ends_two (D E TT : ByteArray) (N M : Nat) (ts ms us : List Tok) (hD : D.size = N) (hE : E.size = M) (hl : N + M + 1 ≤ 16384) (hn : ts.length + ms.length ≤ 2048) (hT : D ++ ⟨#[10]⟩ ++ E = TT) (hal : alikeT us (ts ++ ms))
    (T : ∀ w, Gl w → Calls Tryz.prog 10 #[.string D] w (TokensP w (.inr ts))) (U : ∀ w, Gl w → Calls Tryz.prog 10 #[.string E] w (TokensP w (.inr ms))) (V : ∀ w, Gl w → Calls Tryz.prog 10 #[.string TT] w (TokensP w (.inr us))) (w : World) (gl : Gl w) (hz : Tz w) :
    Calls Tryz.prog 8 #[.string D, .string E] w fun e w' => e = .returned (.bool true) ∧ Below w.heap.size w w' := by
  have ok : Ok w w := ⟨Below.refl _ _, gl, hz⟩
  have s1 : (ByteArray.mk #[10]).size = 1 := rfl
  have HU : Hid (us.length ≤ 1099511627776) := by
    have := congrArg List.length hal
    have h2 : us.length = ts.length + ms.length := by simpa using this
    show us.length ≤ 1099511627776
    omega
  have x1 : ¬ (2048 : Int) < (ts.length : Int) + (ms.length : Int) := by omega
  have x4 : ¬ (16384 : Int) < (N : Int) + (M : Int) + 1 := by omega
  obtain ⟨rs, hrs⟩ : ∃ rs, rs = ts ++ ms := ⟨_, rfl⟩
  have HR : Hid (rs = ts ++ ms) := hrs
  rw [← hrs] at hal
  clear gl hz hrs
  go_enter Tryz.func8, Tryz.ntmps8
  go_wp2_with (first
    | (go_at_call 18; (with_reducible refine (alike_yes _ _ us rs _ (hu4.below hb6) (toksAt_own ho6) hal HU.out).mono ?_); rintro e w7 ⟨rfl, m7, rfl⟩)
    | (at_builtin; refine wpG_app_toks (by simp [Region.wanted, yielded]) _ _ rfl w4.heap.size w1.heap.size v5 _ ts ms rfl rfl ho5 (toks_below hm4 hb5) hb5.size (by omega) ?_; intro v6 w6 ho6 hg6; have hb6 := appT_below2 hb5 ho5 hg6; rw [← HR.out] at ho6)
    | (at_builtin; refine wpG_app_toks (by simp [Region.wanted, yielded]) _ _ rfl w4.heap.size w.heap.size _ _ [] ts rfl rfl (owns_emptyT w4) (toks_below hl4 (below_one w4 _)) (by simp) (by simp; omega) ?_; intro v5 w5 ho5 hg5; have hb5 := appT_below1 hg5; rw [List.nil_append] at ho5)
    | (go_at_call 10; (with_reducible refine (V _ ok3.gl).mono ?_); rintro e w4 ⟨⟨u4, rfl, ht4⟩, hb4⟩; have ok4 := ok3.go hb4; have hu4 := toksAt_own ht4; have hl4 := toks_below (toks_below (toks_below ht1 hb2) hb3) hb4; have hm4 := toks_below (toks_below ht2 hb3) hb4; obtain ⟨a4, c4, rfl⟩ := toks_sl ht4)
    | (go_at_call 12; refine (fixed_any _ ok2.gl ok2.tz).mono ?_; rintro e w3 ⟨rfl, hb3⟩; have ok3 := ok2.go hb3)
    | (go_at_call 10; (with_reducible refine (U _ ok1.gl).mono ?_); rintro e w2 ⟨⟨u2, rfl, ht2⟩, hb2⟩; have ok2 := ok1.go hb2; obtain ⟨a2, c2, rfl⟩ := toks_sl ht2)
    | (go_at_call 10; (with_reducible refine (T _ ok.gl).mono ?_); rintro e w1 ⟨⟨u1, rfl, ht1⟩, hb1⟩; have ok1 := ok.go hb1; obtain ⟨a1, c1, rfl⟩ := toks_sl ht1)
    | fail)
  go_ret
  exact ⟨by first | rfl | simp, below_drewW (ok4.bel.trans (hb6.mono ok4.bel.size)) m7⟩
end Go.Proofs.YtebojfipdcicaaaGreatDoor
namespace Go.Proofs.YtebojfipdcicaaaGreatDoor
open Go Go.RowKit

theorem cat_mk (s t : Bs) : (ByteArray.mk s.toArray) ++ ⟨#[10]⟩ ++ ⟨t.toArray⟩ = ⟨(s ++ 10 :: t).toArray⟩ := by
  apply ByteArray.ext; simp
theorem toks_call {s : Bs} {ts : List Tok} (h : lexS s = .inr ts) : ∀ w, Gl w → Calls Tryz.prog 10 #[.string ⟨s.toArray⟩] w (TokensP w (.inr ts)) := fun w g => by
  have := tokens_any s w g
  rw [h] at this
  exact this
theorem few_of {s : Bs} {ts : List Tok} (h : lexS s = .inr ts) : ts.length ≤ 2048 := by
  obtain ⟨ps, tl, hR, hts⟩ := right_of h
  rw [hts, toksP_len]
  exact hR.few
theorem not_zero {s : Bs} {p : Nat × Int} (h : lexS s = .inl p) : p.2 ≠ 0 := by
  rcases wrong_of src_cut (b := p.1) (e := p.2) h with ⟨h, _⟩ | ⟨_, h, _⟩
  · rw [h]; decide
  · exact h
/-- Whatever a document comes to. -/
theorem some_any (s : Bs) : ∃ (n : Nat) (x : Int), n ≤ 2048 ∧ (∀ w, Gl w → Calls Tryz.prog 10 #[.string ⟨s.toArray⟩] w (SomeT w n x)) := by
  cases h : lexS s with
  | inr ts => exact ⟨ts.length, 0, few_of h, fun w g => some_ok h w g⟩
  | inl p => exact ⟨0, p.2, by omega, fun w g => some_bad (b := p.1) (x := p.2) h w g⟩
theorem lexEnds_walk (s : Bs) (_ : s.length ≤ 140737488351232) (t : Bs) (ht : t.length ≤ 140737488351232) (w : World) (gl : Gl w) (hz : Tz w) :
    Calls Tryz.prog 8 #[.string ⟨s.toArray⟩, .string ⟨t.toArray⟩] w fun e w' => e = .returned (.bool true) ∧ Below w.heap.size w w' := by
  obtain ⟨m, y, hm, U⟩ := some_any t
  cases hl : lexS s with
  | inl p =>
    obtain ⟨b, x⟩ := p
    have T : ∀ w, Gl w → Calls Tryz.prog 10 #[.string ⟨s.toArray⟩] w fun e w' => e = .returned (.tuple #[.slice none 0 0, .int .i64 (b : Int), .int .i64 x]) ∧ Below w.heap.size w w' := fun w g => by
      have := tokens_any s w g
      rw [hl] at this
      exact this
    rcases wrong_of src_cut hl with ⟨rfl, rfl⟩ | ⟨h1, h2, h3, us, h4⟩
    · exact ends_long _ _ m y T U w gl hz
    · exact ends_wrong _ _ ⟨(s.take b).toArray⟩ s.length b us.length m x y rfl h3 h2 h1 (take_mk s b) T U (fun w g => some_ok h4 w g) w gl hz
  | inr ts =>
    obtain ⟨ps, tl, hR, hts⟩ := right_of hl
    have hn := few_of hl
    have hsh := hR.short
    have hlen : ts.length = ps.length := by rw [hts]; exact toksP_len _ _ _
    have more : ∀ (m : Nat) (y : Int), m ≤ 2048 → (∀ w, Gl w → Calls Tryz.prog 10 #[.string ⟨t.toArray⟩] w (SomeT w m y)) → (y ≠ 0 ∨ (y = 0 ∧ 2048 < ts.length + m) ∨ (y = 0 ∧ ts.length + m ≤ 2048 ∧ 16384 < s.length + t.length + 1)) →
        Calls Tryz.prog 8 #[.string ⟨s.toArray⟩, .string ⟨t.toArray⟩] w fun e w' => e = .returned (.bool true) ∧ Below w.heap.size w w' := by
      intro m y hm U hq
      cases ha : lexS (s ++ 10 :: t) with
      | inl p => exact ends_more _ _ _ s.length t.length ts.length m 0 y p.2 rfl rfl hsh ht hn hm (cat_mk s t) hq (Or.inl (not_zero ha)) (by omega) (fun w g => some_z hl w g) U (fun w g => some_bad (b := p.1) (x := p.2) ha w g) w gl hz
      | inr us =>
        have h5 := two_more hR ha
        exact ends_more _ _ _ s.length t.length ts.length m us.length y 0 rfl rfl hsh ht hn hm (cat_mk s t) hq (Or.inr ⟨rfl, by omega⟩) (few_of ha) (fun w g => some_z hl w g) U (fun w g => some_ok ha w g) w gl hz
    cases hl2 : lexS t with
    | inl p => exact more 0 p.2 (by omega) (fun w g => some_bad (b := p.1) (x := p.2) hl2 w g) (Or.inl (not_zero hl2))
    | inr ms =>
      by_cases h1 : ts.length + ms.length ≤ 2048
      · by_cases h2 : s.length + t.length + 1 ≤ 16384
        · obtain ⟨qs, tm, hR2, hms⟩ := right_of hl2
          have hlen2 : ms.length = qs.length := by rw [hms]; exact toksP_len _ _ _
          obtain ⟨us, h3, h4⟩ := two_right hR hR2 h2 (by omega)
          have hal : alikeT us (ts ++ ms) := by
            refine alike_says (h4.trans ?_)
            unfold saysT
            rw [List.map_append]
            have e1 := toksP_says s.length ps tl
            have e2 := toksP_says t.length qs tm
            rw [← hts] at e1
            rw [← hms] at e2
            unfold saysT at e1 e2
            rw [e1, e2]
          exact ends_two _ _ _ s.length t.length ts ms us rfl rfl h2 h1 (cat_mk s t) hal (toks_call hl) (toks_call hl2) (toks_call h3) w gl hz
        · exact more ms.length 0 (few_of hl2) (fun w g => some_ok hl2 w g) (Or.inr (Or.inr ⟨rfl, h1, by omega⟩))
      · exact more ms.length 0 (few_of hl2) (fun w g => some_ok hl2 w g) (Or.inr (Or.inl ⟨rfl, by omega⟩))
end Go.Proofs.YtebojfipdcicaaaGreatDoor
