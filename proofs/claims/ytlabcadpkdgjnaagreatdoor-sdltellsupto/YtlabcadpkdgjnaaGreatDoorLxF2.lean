/- The iterator that tells the tokens. -/
import Derived.Test.YtlabcadpkdgjnaaGreatDoorLxF1
namespace Go.Proofs.YtlabcadpkdgjnaaGreatDoor
open Go Go.RowKit Go.Shelf

set_option maxRecDepth 100000 in
set_option maxHeartbeats 4000000 in
theorem iter_in (n l Bn : Nat) (s : Bs) (hs : s.length ≤ 16384) (J : List Tok → World → Prop) (W : World) (gl : Gl W) (hBn : W.cell? ⟨Bn, 0, none⟩ = some (.string ⟨s.toArray⟩))
    (hJ : ∀ pre W1 W2, J pre W1 → Kp (Own1 W.heap.size) W1 W2 → J pre W2)
    (hY : ∀ pre t W1, J pre W1 → Gl W1 → (∃ cs, W1.heap[W.heap.size]? = some (.cells cs 102 (0, 0))) → pre.length < 2048 → YieldAt Fence.wide (n - 1) Tryz.prog l #[tkV t] W1 fun e W' => e = .returned (.bool true) ∧ J (pre ++ [t]) W' ∧ W'.heap[W.heap.size]? = W1.heap[W.heap.size]? ∧ Gl W')
    (h0 : J [] W) :
    CallsIn Fence.wide n Tryz.prog 47 #[.func (.yield l) #[] #[], .pointer (some ⟨Bn, 0, none⟩)] W (IterP J (lexG s.length 0 s)) := by
  obtain ⟨R, hR⟩ : ∃ R, W.heap.size = R := ⟨_, rfl⟩
  have hr0 : Rd (W.alloc (.cells #[.string ⟨s.toArray⟩, .int .i64 0, .int .i64 0] 102)) R s 0 s := by
    refine ⟨?_, List.suffix_refl _, hs, gl.alloc _, ?_⟩
    · rw [← hR, heap_alloc_new]
      simp
    · rw [← hR]; exact ⟨gl.ltM, gl.ltE⟩
  have hJ0 : J [] (W.alloc (.cells #[.string ⟨s.toArray⟩, .int .i64 0, .int .i64 0] 102)) := hJ _ _ _ h0 ((Kp.refl _ _).alloc _)
  rw [hR] at hJ
  simp only [hR] at hY
  have hn : Fence.wide.depth.isSome = true → 1 ≤ n := fun h => by simp [Fence.wide] at h
  refine callsIn_of_wp Tryz.func47 rfl trivial ?_ rfl
  simp only [Tryz.ntmps47, List.size_toArray, List.length_cons, List.length_nil, Nat.reduceAdd, Nat.reduceSub, Array.replicate_succ, Array.replicate_zero, List.push_toArray, List.append_toArray, List.nil_append, List.cons_append]
  gi_wp2
  gi_loopw [4] (fun cnt wr => ∃ (pre : List Tok) (l' : Bs) (b : Nat), cnt = .int .i64 (pre.length : Int) ∧ Rd wr R s b l' ∧ pre.length ≤ 2048 ∧ J pre wr ∧ withL pre (lexG s.length pre.length l') = lexG s.length 0 s) (fun _ wr => s.length - (atOf wr R).toNat)
  case atStart => exact ⟨[], s, 0, rfl, hr0, by simp, hJ0, withL_nil _⟩
  case round =>
    obtain ⟨pre, l', b, rfl, hr, hlen, hJp, hx⟩ := hrel
    clear hr0 hJ0 h0
    have N := next_any l' wr hr
    have HA : Hid (atOf wr R = ((s.length - l'.length : Nat) : Int)) := atOf_eq hr
    have hle := hr.le
    cases hsk : skipS l' with
    | inr k =>
      rw [hsk] at N
      have HX : Hid (.inl (s.length - k, 50) = lexG s.length 0 s) := by
        show _ = _
        rw [← hx, lexG_wrong hsk]; rfl
      clear hx hsk
      gi_wp2_with (refine ⟨trivial, hn, ?_⟩; gi_at_call 48; refine (callsIn_wide.2 N).mono ?_; rintro e w1 ⟨rfl, hk1⟩)
      refine ⟨rfl, ?_⟩
      rw [← HX.out]
      exact ⟨rfl, pre, hJ _ _ _ hJp hk1⟩
    | inl q =>
      rw [hsk] at N
      cases q with
      | nil =>
        have HX : Hid (.inr pre = lexG s.length 0 s) := by
          show _ = _
          rw [← hx, lexG_end hsk]; simp [withL]
        clear hx hsk
        gi_wp2_with (refine ⟨trivial, hn, ?_⟩; gi_at_call 48; refine (callsIn_wide.2 N).mono ?_; rintro e w1 ⟨⟨rfl, hr1⟩, hk1⟩)
        go_end0
        rw [← HX.out]
        exact ⟨rfl, hJ _ _ _ hJp hk1⟩
      | cons x m =>
        have hml := (skipS_suf hsk).length_le
        by_cases hc : pre.length = 2048
        · have HX : Hid (.inl (s.length - (x :: m).length, 53) = lexG s.length 0 s) := by
            show _ = _
            rw [← hx, lexG_many hsk hc]; rfl
          have F := fun w (h : Rd w R s (s.length - (x :: m).length) (x :: m)) => fail_any (x :: m) 53 w h
          clear hx hsk hml
          have hcI : ((pre.length : Int) == 2048) = true := by rw [hc]; rfl
          clear hc
          gi_wp2_with (first
            | (refine ⟨trivial, hn, ?_⟩; gi_at_call 49; refine (callsIn_wide.2 (F _ hr1)).mono ?_; rintro e w2 ⟨rfl, rfl⟩)
            | (refine ⟨trivial, hn, ?_⟩; gi_at_call 48; refine (callsIn_wide.2 N).mono ?_; rintro e w1 ⟨⟨rfl, hr1⟩, hk1⟩)
            | fail)
          refine ⟨rfl, ?_⟩
          rw [← HX.out]
          exact ⟨rfl, pre, hJ _ _ _ hJp hk1⟩
        · have hcI : ((pre.length : Int) == 2048) = false := by rw [beq_eq_false_iff_ne]; omega
          have T := fun w h => tok_any (R := R) (s := s) (x :: m) w h
          cases ht : tokS (x :: m) with
          | bad e =>
            rw [ht] at T
            have HX : Hid (.inl (s.length - (x :: m).length, e) = lexG s.length 0 s) := by
              show _ = _
              rw [← hx, lexG_bad hsk hc ht]; rfl
            clear hx hsk hml ht hc
            gi_wp2_with (first
              | (refine ⟨trivial, hn, ?_⟩; gi_at_call 50; refine (callsIn_wide.2 (T _ hr1)).mono ?_; rintro e w2 ⟨rfl, hk2⟩)
              | (refine ⟨trivial, hn, ?_⟩; gi_at_call 48; refine (callsIn_wide.2 N).mono ?_; rintro e w1 ⟨⟨rfl, hr1⟩, hk1⟩)
              | fail)
            refine ⟨rfl, ?_⟩
            rw [← HX.out]
            exact ⟨rfl, pre, hJ _ _ _ hJp (hk1.trans hk2)⟩
          | ok k t r =>
            rw [ht] at T
            have h2 := (tokS_facts ht).2
            have HX : Hid (withL (pre ++ [⟨k, t, s.length - (x :: m).length, s.length - r.length⟩]) (lexG s.length (pre ++ [(⟨k, t, s.length - (x :: m).length, s.length - r.length⟩ : Tok)]).length r) = lexG s.length 0 s) := by
              show _ = _
              rw [← hx, lexG_ok hsk hc ht, withL_withL]
              simp
            have HL : Hid ((pre ++ [(⟨k, t, s.length - (x :: m).length, s.length - r.length⟩ : Tok)]).length = pre.length + 1) := by show _ = _; simp
            have HM : Hid (r.length < l'.length) := by show _ < _; omega
            have HC : Hid (pre.length < 2048) := by show _ < _; omega
            clear hx hsk hml ht hc h2
            obtain ⟨tk, htk⟩ : ∃ tk : Tok, tk = ⟨k, t, s.length - (x :: m).length, s.length - r.length⟩ := ⟨_, rfl⟩
            rw [← htk] at HX HL
            have T' : ∀ w, Rd w R s (s.length - (x :: m).length) (x :: m) → Calls Tryz.prog 50 #[.pointer (some ⟨R, 0, none⟩)] w fun e w' => (e = .returned (tkV tk) ∧ Rd w' R s (s.length - (x :: m).length) r) ∧ Kp (Own1 R) w w' := by
              rw [htk]
              exact T
            clear htk T
            gi_wp2_with (first
              | (refine ⟨trivial, hn, ?_⟩; gi_at_call 50; refine (callsIn_wide.2 (T' _ hr1)).mono ?_; rintro e w2 ⟨⟨rfl, hr2⟩, hk2⟩; obtain ⟨fn, tmps, assign, body, hy, hRd⟩ := hY pre tk w2 (hJ _ _ _ hJp (hk1.trans hk2)) hr2.gl ⟨_, hr2.row⟩ HC.out)
              | (refine ⟨trivial, hn, ?_⟩; gi_at_call 48; refine (callsIn_wide.2 N).mono ?_; rintro e w1 ⟨⟨rfl, hr1⟩, hk1⟩)
              | fail)
            refine ⟨hn, ?_⟩
            refine hRd.mono ?_
            rintro e W3 ⟨rfl, hJ3, hb3, hg3⟩
            have hr3 : Rd W3 R s (s.length - (x :: m).length) r := ⟨hb3.trans hr2.row, hr2.suf, hr2.small, hg3, hr2.hi⟩
            gi_wp2
            refine ⟨⟨pre ++ [tk], r, _, ?_, hr3, by rw [HL.out]; exact HC.out, hJ3, HX.out⟩, ?_⟩
            · rw [HL.out]; rfl
            · rw [atOf_eq hr3, HA.out]
              have := HM.out
              simp only [Int.toNat_natCast]
              omega
end Go.Proofs.YtlabcadpkdgjnaaGreatDoor
