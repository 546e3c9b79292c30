/- Parse of a schema's text: where there are tokens. -/
import Derived.Test.YtlabcadpkdgjnaaGreatDoorE2
namespace Go.Proofs.YtlabcadpkdgjnaaGreatDoor
open Go Go.RowKit Go.Shelf
abbrev zSD : Obj := .cells #[.slice none 0 0, .slice none 0 0] 25
theorem ObR.base {w : World} {B B' : Nat} {v : Value} {l : List Ob} (h : ObR w B v l) (hb : B' ≤ B) : ObR w B' v l := by
  obtain ⟨lp, h1, h2, h3⟩ := h
  exact ⟨lp, h1, h2.base hb, fun p hp => ⟨(h3 p hp).1.base hb, (h3 p hp).2⟩⟩
theorem EnR.base {w : World} {B B' : Nat} {v : Value} {l : List En} (h : EnR w B v l) (hb : B' ≤ B) : EnR w B' v l := by
  obtain ⟨lp, h1, h2, h3⟩ := h
  exact ⟨lp, h1, h2.base hb, fun p hp => ⟨(h3 p hp).1.base hb, (h3 p hp).2⟩⟩
theorem ObR.none {w : World} {B : Nat} : ObR w B (.slice .none 0 0) [] := ⟨[], rfl, RowO.none, fun p hp => by cases hp⟩
theorem EnR.none {w : World} {B : Nat} : EnR w B (.slice .none 0 0) [] := ⟨[], rfl, RowO.none, fun p hp => by cases hp⟩
theorem obs_len (xs : List (Ob ⊕ En)) : (obsOf xs).length ≤ xs.length := List.length_filterMap_le _ _
theorem ens_len (xs : List (Ob ⊕ En)) : (ensOf xs).length ≤ xs.length := List.length_filterMap_le _ _
section
variable {R g cap : Nat} {T : List Tok} {w w' : World} {l : List Tok}
/-- What the whole comes to. -/
def SchP (R : Nat) (w : World) (l : List Tok) (e : Ending) (w' : World) : Prop :=
  (∃ p, schemaD l = .error p ∧ e = DiesD p ∧ Kp (Own1 R) w w') ∨ (∃ s m p1 n1 m1 p2 n2 m2, schemaD l = .ok (s, m) ∧ e = .returned (.agg #[.slice p1 n1 m1, .slice p2 n2 m2]) ∧ ObR w' w.heap.size (.slice p1 n1 m1) s.os ∧ EnR w' w.heap.size (.slice p2 n2 m2) s.es ∧ s.os.length ≤ 2049 ∧ s.es.length ≤ 2049 ∧ Kp (Own1 R) w w')
theorem Kp.up {R Sb B : Nat} {a w0 w' : World} (j : Kp (Own1 R) a w0) (k : Kp (RSB R Sb B) w0 w') (h1 : a.heap.size ≤ Sb) (h2 : a.heap.size ≤ B) : Kp (Own1 R) a w' := ⟨k.os.trans j.os, k.tape.trans j.tape, k.output.trans j.output, Nat.le_trans j.size k.size, fun q hq hS => (k.block q (Nat.lt_of_lt_of_le hq j.size) (fun e => by rcases e with e | e | e; exact hS e; omega; omega)).trans (j.block q hq hS)⟩
set_option maxRecDepth 100000 in
set_option maxHeartbeats 8000000 in
theorem dschema_any (h : Sd R g cap T w l) (hl : l ≠ []) : Calls Tryz.prog 17 #[.pointer (some ⟨R, 0, none⟩)] w (SchP R w l) := by
  have hR := h.ltR
  have hg := h.lt
  have hT := h.full.small
  obtain ⟨W0, hW0⟩ : ∃ W0, W0 = (w.alloc zSD).alloc zSD := ⟨_, rfl⟩
  have k0 : Kp (Own1 R) w W0 := by rw [hW0]; exact ((Kp.refl _ _).alloc _).alloc _
  have P0 : W0.heap[w.heap.size]? = some zSD := by rw [hW0]; exact ((al1 _ _).block _ (by simp)).trans (heap_alloc_new w _)
  have Q0 : W0.heap[w.heap.size + 1]? = some zSD := by rw [hW0]; have := heap_alloc_new (w.alloc zSD) zSD; rw [World.size_alloc] at this; exact this
  have z0 : W0.heap.size = w.heap.size + 1 + 1 := by rw [hW0, World.size_alloc, World.size_alloc]
  have h0 : Sd R g cap T W0 l := by rw [hW0]; exact (h.alloc _).alloc _
  have s0 : SchR W0 (w.heap.size + 2) (w.heap.size + 1) (.slice none 0 0) (.slice none 0 0) (schOf []) := ⟨Q0, ObR.none, EnR.none⟩
  have A := ddefine_any h0 hl s0 (by omega) (by omega) (by omega) (by omega) (by omega) (by omega) (by simp)
  have HW : Hid (W0 = (w.alloc zSD).alloc zSD) := hW0
  have hle0 := h.le
  rw [hW0] at A
  have HZ : Hid (W0.heap.size = w.heap.size + 1 + 1) := z0
  clear h hW0 z0 s0 Q0
  go_enter Tryz.func17, Tryz.ntmps17
  go_wp2_with (first
    | (go_at_call 33; (with_reducible refine A.mono ?_); rw [← HW.out]; rintro e w1 (⟨p, hq1, rfl, k1⟩ | ⟨x1, l1, o1, e1, hq1, rfl, s1, h1, n1, k1⟩); (exact ⟨rfl, Or.inl ⟨p, by unfold schemaD someS; rw [hq1, go_error, go_error], rfl, k0.up k1 (by omega) (by omega)⟩⟩))
    | fail)
  have HQ : Hid (someS defineD [] l = (anyS defineD [] l1).go fun b l3 => .ok ([x1] ++ b, l3)) := by show _ = _; unfold someS; rw [hq1, go_ok]; rfl
  have hx1 := defineD_eats _ _ _ hq1
  have P1 := rowOld P0 k1 (fun e => by have e' : w.heap.size = R ∨ w.heap.size = w.heap.size + 1 ∨ w.heap.size + 2 ≤ w.heap.size := e; omega)
  have z1 := k1.size
  have S1 : SchR w1 (w.heap.size + 2) (w.heap.size + 1) o1 e1 (schOf [x1]) := s1
  have K1 := k0.up k1 (by omega) (by omega)
  have hB1 : w.heap.size + 2 ≤ w1.heap.size := by have := HZ.out; omega
  clear A hq1 s1 k1 z1 P0 k0 h0 HW
  go_loopw [] (fun wr => ∃ (xs : List (Ob ⊕ En)) (ov ev : Value) (l' : List Tok), SchR wr (w.heap.size + 2) (w.heap.size + 1) ov ev (schOf xs) ∧ wr.heap[w.heap.size]? = some zSD ∧ Sd R g cap T wr l' ∧ l' ≠ [] ∧ xs.length + l'.length ≤ T.length ∧ someS defineD [] l = ((anyS defineD [] l').go fun b l3 => .ok (xs ++ b, l3)) ∧ Kp (Own1 R) w wr ∧ w.heap.size + 2 ≤ wr.heap.size) (fun wr => T.length - (atD wr R).toNat)
  case atStart => exact ⟨[x1], o1, e1, l1, S1, P1, h1, n1, by simp; omega, HQ.out, K1, hB1⟩
  case round =>
    obtain ⟨xs, ov, ev, l', hs, hP, hS, hl', hlen, he, hK, hB⟩ := hrel
    have HE : Hid (someS defineD [] l = ((anyS defineD [] l').go fun b l3 => .ok (xs ++ b, l3))) := he
    have ha := atD_eq hS
    have hle := hS.le
    have hpos : 0 < l'.length := List.length_pos_iff.2 hl'
    clear he S1 P1 h1 HQ K1 hB1
    cases hp : isP [] l' with
    | true =>
      obtain ⟨p1, n1', m1, rfl⟩ := hs.os.slc
      obtain ⟨p2, n2, m2, rfl⟩ := hs.es.slc
      go_wp2_with (first
        | (go_at_call 34; (with_reducible refine (dtake_yes [] hS hp).mono ?_); rintro e w5 ⟨rfl, h5, k5⟩; have s5 := hs.kp k5 (fun q e => by have e' : q = R := e; omega) (fun e => by have e' : w.heap.size + 1 = R := e; omega); have P5 := rowOld hP k5 (fun e => by have e' : w.heap.size = R := e; omega); obtain ⟨c0, c1, cf⟩ := row2 s5.row; obtain ⟨d0, d1, df⟩ := row2 P5)
        | fail)
      have KS : Kp (Own1 w.heap.size) w5 ((w5.setCell ⟨w.heap.size, 0, none⟩ (.slice p1 n1' m1)).setCell ⟨w.heap.size, 1, none⟩ (.slice p2 n2 m2)) := (Kp.own w.heap.size 0 (.slice p1 n1' m1)).set w.heap.size 1 (.slice p2 n2 m2) (Or.inr rfl)
      have bk := kp_blk (B := w.heap.size + 2) KS (fun q e => by have e' : q = w.heap.size := e; omega)
      refine bodyPost_ret (v := .agg #[.slice p1 n1' m1, .slice p2 n2 m2]) (by simp [results, Tryz.results17, go_sem, d0, d1]) rfl (Or.inr ⟨schOf xs, l'.tail, p1, n1', m1, p2, n2, m2, ?_, rfl, (s5.os.blk bk).base (by omega), (s5.es.blk bk).base (by omega), ?_, ?_, ((hK.trans k5).set _ _ _ (Or.inl (Nat.le_refl _))).set _ _ _ (Or.inl (Nat.le_refl _))⟩)
      · unfold schemaD
        rw [HE.out, anyS_eq defineD_eats, if_pos hp]
        simp [go_ok]
      · have := obs_len xs
        show (obsOf xs).length ≤ 2049
        omega
      · have := ens_len xs
        show (ensOf xs).length ≤ 2049
        omega
    | false =>
      have hp' : ¬ isP [] l' = true := by rw [hp]; simp
      go_wp2_with (first
        | (go_at_call 34; (with_reducible refine (dtake_no [] hS hl' hp).mono ?_); rintro e w5 ⟨rfl, h5, k5⟩; have s5 := hs.kp k5 (fun q e => by have e' : q = R := e; omega) (fun e => by have e' : w.heap.size + 1 = R := e; omega); have P5 := rowOld hP k5 (fun e => by have e' : w.heap.size = R := e; omega); have z5 := k5.size)
        | (go_at_call 33; (with_reducible refine (ddefine_any h5 hl' s5 (by omega) (by omega) (by omega) (by omega) (by omega) (by omega) (by omega)).mono ?_); rintro e w6 (⟨p, hq6, rfl, k6⟩ | ⟨x6, l6, o6, e6, hq6, rfl, s6, h6, n6, k6⟩); (exact ⟨rfl, Or.inl ⟨p, by unfold schemaD; rw [HE.out, anyS_eq defineD_eats, if_neg hp', hq6, go_error, go_error, go_error], rfl, (hK.trans k5).up k6 (by omega) (by omega)⟩⟩))
        | fail)
      have hx := defineD_eats _ _ _ hq6
      have h7 := atD_eq h6
      have h8 := h6.le
      have z6 := k6.size
      refine ⟨⟨xs ++ [x6], o6, e6, l6, s6, rowOld P5 k6 (fun e => by have e' : w.heap.size = R ∨ w.heap.size = w.heap.size + 1 ∨ w.heap.size + 2 ≤ w.heap.size := e; omega), h6, n6, by simp; omega, ?_, (hK.trans k5).up k6 (by omega) (by omega), by omega⟩, ?_⟩
      · rw [HE.out, anyS_eq defineD_eats, if_neg hp', hq6, go_ok, go_moreD]
      · rw [h7, ha]
        simp only [Int.toNat_natCast]
        omega
end
end Go.Proofs.YtlabcadpkdgjnaaGreatDoor
namespace Go.Proofs.YtlabcadpkdgjnaaGreatDoor
open Go Go.RowKit Go.Shelf
theorem Kp.tr2 {S S' : Nat → Prop} {a b c : World} (h : Kp S a b) (h' : Kp S' b c) (hS : ∀ k, k < a.heap.size → S' k → S k) : Kp S a c :=
  ⟨h'.os.trans h.os, h'.tape.trans h.tape, h'.output.trans h.output, Nat.le_trans h.size h'.size, fun k hk hn => (h'.block k (Nat.lt_of_lt_of_le hk h.size) (fun e => hn (hS k hk e))).trans (h.block k hk hn)⟩
theorem Kp.lowset {n : Nat} {w1 w2 : World} (h : Kp (fun k => k < n) w1 w2) (X j : Nat) (v : Value) (hX : X < n) : Kp (fun k => k < n) w1 (w2.setCell ⟨X, j, none⟩ v) := h.set _ _ _ (Or.inr hX)
theorem dfull_of {s : Bs} {ts : List Tok} (h : lexS s = .inr ts) : Full (ts ++ [eofT s.length]) := by
  obtain ⟨h1, _, h2⟩ := lexS_full h
  exact ⟨⟨ts, s.length, rfl, h2⟩, by simp; omega⟩
theorem cellsT_get : ∀ (ts : List Tok) (i : Nat) (t : Tok), ts[i]? = some t → (cellsT ts)[i * 4]? = some (.int .i64 t.k) ∧ (cellsT ts)[i * 4 + 1]? = some (.string ⟨t.t.toArray⟩) ∧ (cellsT ts)[i * 4 + 2]? = some (.int .i64 (t.b : Int)) ∧ (cellsT ts)[i * 4 + 3]? = some (.int .i64 (t.e : Int))
  | [], _, _, h => by simp at h
  | t :: ts, 0, t', h => by
    simp at h
    subst h
    simp [cellsT]
  | t :: ts, i + 1, t', h => by
    have ih := cellsT_get ts i t' (by simpa using h)
    have e : cellsT (t :: ts) = [.int .i64 t.k, .string ⟨t.t.toArray⟩, .int .i64 (t.b : Int), .int .i64 (t.e : Int)] ++ cellsT ts := by simp [cellsT]
    have f : ∀ j, (cellsT (t :: ts))[(i + 1) * 4 + j]? = (cellsT ts)[i * 4 + j]? := fun j => by
      rw [e, List.getElem?_append_right (by simp; omega)]
      congr 1
      simp
      omega
    exact ⟨(f 0).trans ih.1, (f 1).trans ih.2.1, (f 2).trans ih.2.2.1, (f 3).trans ih.2.2.2⟩
/-- The reader that Parse makes. -/
theorem sd_start {w : World} {B g cap : Nat} {T : List Tok} (full : Full T) (own : w.ownsRow B 43 4 (.slice (some ⟨g, 0, none⟩) T.length cap) T.length (cellsT T)) :
    Sd w.heap.size g cap T (w.alloc (.cells #[.slice (some ⟨g, 0, none⟩) T.length cap, .int .i64 0] 49)) T := by
  have hg : g < w.heap.size := (ownBlk own rfl).2
  refine ⟨?_, ?_, List.suffix_refl _, by omega, by simp; omega, full⟩
  · rw [heap_alloc_new]
    simp
  · intro i t hi
    have hc := cellsT_get T i t hi
    have hlen := own.1
    have f : ∀ j x, (cellsT T)[j]? = some x → (w.alloc (.cells #[.slice (some ⟨g, 0, none⟩) T.length cap, .int .i64 0] 49)).cell? ⟨g, j, none⟩ = some x := fun j x hj => by
      have hlt : j < T.length * 4 := by rw [← hlen]; exact (List.getElem?_eq_some_iff.1 hj).1
      refine cell_on (al1 w _) ?_
      rw [own.cellAt j (by omega)]
      exact hj
    exact ⟨f _ _ hc.1, f _ _ hc.2.1, f _ _ hc.2.2.1, f _ _ hc.2.2.2⟩
/-- The three results' variables. -/
structure ResD (W : World) (B : Nat) (u v : Value) (y z : Int) : Prop where
  bd : W.heap[B]? = some (.cells #[u, v] 25 (0, 0))
  ba : W.heap[B + 1]? = some (.cells #[.int .i64 y] 3 (0, 0))
  be : W.heap[B + 2]? = some (.cells #[.int .i64 z] 26 (0, 0))
theorem ResD.kp {S : Nat → Prop} {W W' : World} {B : Nat} {u v : Value} {y z : Int} (h : ResD W B u v y z) (k : Kp S W W') (h0 : ¬ S B) (h1 : ¬ S (B + 1)) (h2 : ¬ S (B + 2)) : ResD W' B u v y z := ⟨rowOld h.bd k h0, rowOld h.ba k h1, rowOld h.be k h2⟩
theorem dcatch_idle (B : Nat) (W : World) :
    CallsD Tryz.prog 15 #[.pointer (some ⟨B, 0, none⟩), .pointer (some ⟨B + 1, 0, none⟩), .pointer (some ⟨B + 2, 0, none⟩)] .returning W fun e u' w' => e = .returned (.tuple #[]) ∧ u' = .returning ∧ w' = W := by
  refine callsD_of_wpS Tryz.func15 rfl fun c₀ cs hu => ?_
  apply wpS_seq
  apply wpS_region
  simp [wpOpsS, go_sem, recoverD, hu, Tryz.ntmps15, Exit.thenS]
  refine wpS_of_wp ?_
  go_wp2
  refine ⟨rfl, .returning, ?_, .tuple #[], results_none rfl _ _ _, rfl, rfl, rfl⟩
  cases c₀
  simp_all
abbrev preD (w : World) : World := ((w.alloc zSD).alloc (.cells #[.int .i64 0] 3)).alloc (.cells #[.int .i64 0] 26)
theorem preD_res (w : World) : ResD (preD w) w.heap.size (.slice none 0 0) (.slice none 0 0) 0 0 := by
  refine ⟨rowOld (heap_alloc_new w zSD) (((Kp.refl Non _).alloc _).alloc _) (fun e => e), ?_, ?_⟩
  · have := rowOld (heap_alloc_new (w.alloc zSD) (.cells #[.int .i64 0] 3)) ((Kp.refl Non _).alloc (.cells #[.int .i64 0] 26)) (fun e => e)
    rw [World.size_alloc] at this
    exact this
  · have := heap_alloc_new ((w.alloc zSD).alloc (.cells #[.int .i64 0] 3)) (.cells #[.int .i64 0] 26)
    rw [World.size_alloc, World.size_alloc] at this
    exact this
theorem preD_size (w : World) : (preD w).heap.size = w.heap.size + 3 := by simp
theorem preD_below (w : World) : Below w.heap.size w (preD w) := (((Below.refl _ w).alloc (Nat.le_refl _) _).alloc (by simp) _).alloc (by simp; omega) _
theorem dtoks_face {w w1 : World} {ts : List Tok} {v : Value} (ht : Toks w1 (preD w).heap.size v ts) (hb : Below (preD w).heap.size (preD w) w1) (s : Bs) : ∃ o lc, v = .slice o ts.length lc ∧ ResD w1 w.heap.size (.slice none 0 0) (.slice none 0 0) 0 0 ∧ w.heap.size + 3 ≤ w1.heap.size ∧
    Hid ((((w1.setCell ⟨w.heap.size + 1, 0, none⟩ (.int .i64 0)).setCell ⟨w.heap.size + 1 + 1, 0, none⟩ (.int .i64 0)).alloc (.cells #[.int .i64 0, .string ⟨#[]⟩, .int .i64 (s.length : Int), .int .i64 0] 43)).ownsRow (w.heap.size + 3) 43 4 (.slice o ts.length lc) ts.length (cellsT ts)) ∧ Hid ((((w1.setCell ⟨w.heap.size + 1, 0, none⟩ (.int .i64 0)).setCell ⟨w.heap.size + 1 + 1, 0, none⟩ (.int .i64 0)).alloc (.cells #[.int .i64 0, .string ⟨#[]⟩, .int .i64 (s.length : Int), .int .i64 0] 43)).heap[w1.heap.size]? = some (.cells #[.int .i64 0, .string ⟨#[]⟩, .int .i64 (s.length : Int), .int .i64 0] 43 (0, 0))) := by
  rw [preD_size] at ht
  obtain ⟨o, lc, rfl⟩ := own_slice ht
  have hz1 := hb.size
  rw [preD_size] at hz1
  have hT := heap_alloc_new ((w1.setCell ⟨w.heap.size + 1, 0, none⟩ (.int .i64 0)).setCell ⟨w.heap.size + 1 + 1, 0, none⟩ (.int .i64 0)) (.cells #[.int .i64 0, .string ⟨#[]⟩, .int .i64 (s.length : Int), .int .i64 0] 43)
  rw [show ((w1.setCell ⟨w.heap.size + 1, 0, none⟩ (.int .i64 0)).setCell ⟨w.heap.size + 1 + 1, 0, none⟩ (.int .i64 0)).heap.size = w1.heap.size by simp [World.setCell]] at hT
  exact ⟨o, lc, rfl, (preD_res w).kp (Kp.of_below (S := Non) hb) (fun e => e) (fun e => e) (fun e => e), hz1, (ownsRow_setCell_below (ownsRow_setCell_below ht (a := ⟨w.heap.size + 1, 0, none⟩) (by show _ + 1 < _; omega) (.int .i64 0)) (a := ⟨w.heap.size + 1 + 1, 0, none⟩) (by show _ + 1 + 1 < _; omega) (.int .i64 0)).alloc _, hT⟩
/-- What lies there where the reader begins. -/
theorem dface_mid {w w1 w2 : World} {lv : Value} {s : Bs} (r1 : ResD w1 w.heap.size (.slice none 0 0) (.slice none 0 0) 0 0) (hb : Below w.heap.size w w1) (hlv : ∀ k, lv.ownBlock = some k → w.heap.size + 3 ≤ k) (hgr : (((w1.setCell ⟨w.heap.size + 1, 0, none⟩ (.int .i64 0)).setCell ⟨w.heap.size + 1 + 1, 0, none⟩ (.int .i64 0)).alloc (.cells #[.int .i64 0, .string ⟨#[]⟩, .int .i64 (s.length : Int), .int .i64 0] 43)).grownBy w2 lv.ownBlock) : ResD w2 w.heap.size (.slice none 0 0) (.slice none 0 0) 0 0 ∧ Below w.heap.size w w2 := by
  have hsz : ((w1.setCell ⟨w.heap.size + 1, 0, none⟩ (.int .i64 0)).setCell ⟨w.heap.size + 1 + 1, 0, none⟩ (.int .i64 0)).heap.size = w1.heap.size := by simp [World.setCell]
  have K1 : Kp (fun k => lv.ownBlock = some k) ((w1.setCell ⟨w.heap.size + 1, 0, none⟩ (.int .i64 0)).setCell ⟨w.heap.size + 1 + 1, 0, none⟩ (.int .i64 0)) w2 := ((Kp.refl _ ((w1.setCell ⟨w.heap.size + 1, 0, none⟩ (.int .i64 0)).setCell ⟨w.heap.size + 1 + 1, 0, none⟩ (.int .i64 0))).alloc (.cells #[.int .i64 0, .string ⟨#[]⟩, .int .i64 (s.length : Int), .int .i64 0] 43)).trans (Kp.grewN hgr)
  have r2 : ResD ((w1.setCell ⟨w.heap.size + 1, 0, none⟩ (.int .i64 0)).setCell ⟨w.heap.size + 1 + 1, 0, none⟩ (.int .i64 0)) w.heap.size (.slice none 0 0) (.slice none 0 0) 0 0 := by
    refine ⟨?_, ?_, ?_⟩
    · exact rowOld r1.bd (((Kp.own (w.heap.size + 1) 0 (.int .i64 0)).mono (fun _ _ e => Or.inl e)).trans ((Kp.own (w.heap.size + 1 + 1) 0 (.int .i64 0)).mono (fun _ _ e => Or.inr e)) : Kp (fun k => k = w.heap.size + 1 ∨ k = w.heap.size + 1 + 1) _ _) (by omega)
    · exact rowOld (heap_setCell_same _ (w.heap.size + 1) 0 _ _ _ r1.ba) (Kp.own (w.heap.size + 1 + 1) 0 (.int .i64 0)) (by intro e; have e' : w.heap.size + 1 = w.heap.size + 1 + 1 := e; omega)
    · exact heap_setCell_same _ (w.heap.size + 1 + 1) 0 _ _ _ (rowOld r1.be (Kp.own (w.heap.size + 1) 0 (.int .i64 0)) (by intro e; have e' : w.heap.size + 2 = w.heap.size + 1 := e; omega))
  have hb2 : Below w.heap.size w ((w1.setCell ⟨w.heap.size + 1, 0, none⟩ (.int .i64 0)).setCell ⟨w.heap.size + 1 + 1, 0, none⟩ (.int .i64 0)) := (hb.setCell (p := ⟨w.heap.size + 1, 0, none⟩) (by show _ ≤ _ + 1; omega) _).setCell (p := ⟨w.heap.size + 1 + 1, 0, none⟩) (by show _ ≤ _ + 1 + 1; omega) _
  exact ⟨r2.kp K1 (fun e => by have := hlv _ e; omega) (fun e => by have := hlv _ e; omega) (fun e => by have := hlv _ e; omega), hb2.trans (K1.below hb2.size (fun k hk e => by have := hlv _ e; omega))⟩
end Go.Proofs.YtlabcadpkdgjnaaGreatDoor
namespace Go.Proofs.YtlabcadpkdgjnaaGreatDoor
open Go Go.RowKit Go.Shelf
abbrev fauV (p : Nat × Int) : Value := .agg #[.int .i64 (p.1 : Int), .int .i64 p.2]
set_option maxRecDepth 100000 in
theorem dfaultOf_any (p : Nat × Int) (w : World) : Calls Tryz.prog 16 #[.iface 46 (.agg #[.int .i64 (p.1 : Int), .int .i64 p.2])] w fun e w' => e = .returned (.agg #[.int .i64 (p.1 : Int), .int .i64 p.2]) ∧ Kp Non w w' := by
  have hta : ∀ w : World, (Instr.typeAssert (.iface 46 (.agg #[.int .i64 (p.1 : Int), .int .i64 p.2])) 20 46 true).run Tryz.prog w = .ok (.tuple #[.agg #[.int .i64 (p.1 : Int), .int .i64 p.2], .bool true]) w := fun _ => by kernel_rfl
  go_enter Tryz.func16, Tryz.ntmps16
  go_wp2
  refine bodyPost_ret (v := .agg #[.int .i64 (p.1 : Int), .int .i64 p.2]) (by simp [results, Tryz.results16, go_sem]) rfl ⟨rfl, ?_⟩
  first
    | exact (((Kp.refl Non w).alloc _).alloc _)
    | exact ((((Kp.refl Non w).alloc _).alloc _).set _ _ _ (Or.inl (Nat.le_refl _))).set _ _ _ (Or.inl (Nat.le_refl _))
/-- The three results' variables are set. -/
theorem ResD.put {W : World} {B : Nat} {u v : Value} {y z : Int} (h : ResD W B u v y z) (a b : Value) (c d : Int) : ResD ((((W.setCell ⟨B, 0, none⟩ a).setCell ⟨B, 1, none⟩ b).setCell ⟨B + 1, 0, none⟩ (.int .i64 c)).setCell ⟨B + 1 + 1, 0, none⟩ (.int .i64 d)) B a b c d ∧ Kp (fun k => k = B ∨ k = B + 1 ∨ k = B + 2) W ((((W.setCell ⟨B, 0, none⟩ a).setCell ⟨B, 1, none⟩ b).setCell ⟨B + 1, 0, none⟩ (.int .i64 c)).setCell ⟨B + 1 + 1, 0, none⟩ (.int .i64 d)) := by
  refine ⟨⟨?_, ?_, ?_⟩, ?_⟩
  · exact rowOld (heap_setCell_same _ B 1 _ _ _ (heap_setCell_same _ B 0 _ _ _ h.bd)) (((Kp.own (B + 1) 0 (.int .i64 c)).mono (fun _ _ e => Or.inl e)).trans ((Kp.own (B + 1 + 1) 0 (.int .i64 d)).mono (fun _ _ e => Or.inr e)) : Kp (fun k => k = B + 1 ∨ k = B + 2) _ _) (by omega)
  · refine rowOld (heap_setCell_same _ (B + 1) 0 _ _ _ (rowOld h.ba ((Kp.own B 0 a).set B 1 b (Or.inr rfl)) ?_)) (Kp.own (B + 1 + 1) 0 (.int .i64 d)) ?_
    · intro e; have e' : B + 1 = B := e; omega
    · intro e; have e' : B + 1 = B + 2 := e; omega
  · refine heap_setCell_same _ (B + 1 + 1) 0 _ _ _ (rowOld (rowOld h.be ((Kp.own B 0 a).set B 1 b (Or.inr rfl)) ?_) (Kp.own (B + 1) 0 (.int .i64 c)) ?_)
    · intro e; have e' : B + 2 = B := e; omega
    · intro e; have e' : B + 2 = B + 1 := e; omega
  · exact ((((Kp.refl (fun k => k = B ∨ k = B + 1 ∨ k = B + 2) W).set B 0 _ (Or.inr (Or.inl rfl))).set B 1 _ (Or.inr (Or.inl rfl))).set (B + 1) 0 _ (Or.inr (Or.inr (Or.inl rfl)))).set (B + 1 + 1) 0 _ (Or.inr (Or.inr (Or.inr rfl)))
theorem ResD.drew {W : World} {B : Nat} {u v : Value} {y z : Int} (h : ResD W B u v y z) : ResD W.drew B u v y z := h.kp ((Kp.refl Non W).drew) (fun e => e) (fun e => e) (fun e => e)
set_option maxRecDepth 100000 in
set_option maxHeartbeats 2000000 in
theorem dcatch_dies (B : Nat) (p : Nat × Int) (o1 o2 : Option Addr) (n1 z1 n2 z2 : Nat) (y z : Int) (older : List PanicEntry) (W : World) (h : ResD W B (.slice o1 n1 z1) (.slice o2 n2 z2) y z) :
    CallsD Tryz.prog 15 #[.pointer (some ⟨B, 0, none⟩), .pointer (some ⟨B + 1, 0, none⟩), .pointer (some ⟨B + 2, 0, none⟩)] (.panicking ({ v := .iface 46 (.agg #[.int .i64 (p.1 : Int), .int .i64 p.2]), recovered := false } :: older)) W fun e u' w' =>
      e = .returned (.tuple #[]) ∧ u' = .panicking ({ v := .iface 46 (.agg #[.int .i64 (p.1 : Int), .int .i64 p.2]), recovered := true } :: older) ∧ ResD w' B (.slice none 0 0) (.slice none 0 0) p.1 p.2 ∧ Kp (fun k => k = B ∨ k = B + 1 ∨ k = B + 2) W w' := by
  refine callsD_of_wpS Tryz.func15 rfl fun c₀ cs hu => ?_
  apply wpS_seq
  apply wpS_region
  simp [wpOpsS, go_sem, recoverD, hu, Tryz.ntmps15, Exit.thenS]
  refine wpS_of_wp ?_
  go_wp2_with (first
    | (go_at_call 16; (with_reducible refine (dfaultOf_any p _).mono ?_); rintro e w1 ⟨rfl, k1⟩; have r1 := (h.kp k1 (fun e => e) (fun e => e) (fun e => e)).kp ((Kp.refl Non w1).alloc (.cells #[.int .i64 (p.1 : Int), .int .i64 p.2] 46)) (fun e => e) (fun e => e) (fun e => e); obtain ⟨d0, d1, df⟩ := row2 r1.bd; obtain ⟨e0, ef⟩ := row1 r1.ba; obtain ⟨g0, gf⟩ := row1 r1.be; obtain ⟨a0, a1, af⟩ := row2 (heap_alloc_new w1 (.cells #[.int .i64 (p.1 : Int), .int .i64 p.2] 46)); have kw := k1.alloc (.cells #[.int .i64 (p.1 : Int), .int .i64 p.2] 46); have lz := lt_of_block (h.kp k1 (fun e => e) (fun e => e) (fun e => e)).be; have nb0 : ¬ w1.heap.size = B := (by omega); have nb1 : ¬ w1.heap.size = B + 1 := (by omega); have nb2 : ¬ w1.heap.size = B + 2 := (by omega))
    | fail)
  go_region
  all_goals exact ⟨rfl, _, rfl, .tuple #[], results_none rfl _ _ _, rfl, rfl, (r1.put _ _ _ _).1.drew, (kw.any.trans (r1.put (.slice none 0 0) (.slice none 0 0) p.1 p.2).2).drew⟩
theorem ResD.two {W : World} {B : Nat} {u v : Value} {y z : Int} (h : ResD W B u v y z) (c d : Int) : ResD ((W.setCell ⟨B + 1, 0, none⟩ (.int .i64 c)).setCell ⟨B + 1 + 1, 0, none⟩ (.int .i64 d)) B u v c d ∧ Kp (fun k => k = B ∨ k = B + 1 ∨ k = B + 2) W ((W.setCell ⟨B + 1, 0, none⟩ (.int .i64 c)).setCell ⟨B + 1 + 1, 0, none⟩ (.int .i64 d)) := by
  refine ⟨⟨?_, ?_, ?_⟩, ?_⟩
  · exact rowOld h.bd (((Kp.own (B + 1) 0 (.int .i64 c)).mono (fun _ _ e => Or.inl e)).trans ((Kp.own (B + 1 + 1) 0 (.int .i64 d)).mono (fun _ _ e => Or.inr e)) : Kp (fun k => k = B + 1 ∨ k = B + 1 + 1) _ _) (by omega)
  · exact rowOld (heap_setCell_same _ (B + 1) 0 _ _ _ h.ba) (Kp.own (B + 1 + 1) 0 (.int .i64 d)) (by intro e; have e' : B + 1 = B + 1 + 1 := e; omega)
  · exact heap_setCell_same _ (B + 1 + 1) 0 _ _ _ (rowOld h.be (Kp.own (B + 1) 0 (.int .i64 c)) (by intro e; have e' : B + 2 = B + 1 := e; omega))
  · exact ((Kp.refl (fun k => k = B ∨ k = B + 1 ∨ k = B + 2) W).set (B + 1) 0 _ (Or.inr (Or.inr (Or.inl rfl)))).set (B + 1 + 1) 0 _ (Or.inr (Or.inr (Or.inr rfl)))
/-- What Parse comes to. -/
def ParsP (w : World) (r : Except (Nat × Int) Sch) (e : Ending) (w' : World) : Prop := (match r with
  | .error p => e = .returned (.tuple #[.agg #[.slice none 0 0, .slice none 0 0], .int .i64 (p.1 : Int), .int .i64 p.2])
  | .ok s => ∃ p1 n1 m1 p2 n2 m2, e = .returned (.tuple #[.agg #[.slice p1 n1 m1, .slice p2 n2 m2], .int .i64 0, .int .i64 0]) ∧ ObR w' w.heap.size (.slice p1 n1 m1) s.os ∧ EnR w' w.heap.size (.slice p2 n2 m2) s.es ∧ s.os.length ≤ 2049 ∧ s.es.length ≤ 2049) ∧ Below w.heap.size w w'
set_option maxRecDepth 100000 in
set_option maxHeartbeats 4000000 in
theorem dparse_lex (s : Bs) (p : Nat × Int) (hs : lexS s = .inl p) (hp : p.2 ≠ 0) (w : World) (gl : Gl w) : Calls Tryz.prog 8 #[.string ⟨s.toArray⟩] w (ParsP w (.error p)) := by
  have hmf : ∀ (fn : Fn) (first cap : Array Value) (w : World), (Instr.makeFunc fn first cap).run Tryz.prog w = .ok (.func fn first cap) w := fun _ _ _ _ => rfl
  have TO := tokens_any s (preD w) (gl.below (preD_below w) (Nat.le_refl _))
  rw [hs] at TO
  have hp' : (p.2 == 0) = false := by simpa using hp
  clear hs hp
  go_enter_defers Tryz.func8, Tryz.ntmps8
  go_wp2_with (go_at_call 14; refine TO.mono ?_; rintro e w1 ⟨rfl, hb⟩; have r1 := (preD_res w).kp (Kp.of_below (S := Non) hb) (fun e => e) (fun e => e) (fun e => e); obtain ⟨d0, d1, df⟩ := row2 r1.bd; obtain ⟨e0, ef⟩ := row1 r1.ba; obtain ⟨g0, gf⟩ := row1 r1.be)
  go_region
  have T2 := r1.two (p.1 : Int) p.2
  have P2 := T2.1.put (.slice none 0 0) (.slice none 0 0) (p.1 : Int) p.2
  have R2 := P2.1.drew
  have K2 := (T2.2.trans P2.2).drew
  have hb1 := (preD_below w).trans (hb.mono (by rw [preD_size]; omega))
  have hb2 := hb1.trans (K2.below hb1.size (fun k hk e => by omega))
  clear T2 P2 K2
  go_wp2
  generalize ((((((w1.setCell ⟨w.heap.size + 1, 0, none⟩ (.int .i64 (p.1 : Int))).setCell ⟨w.heap.size + 1 + 1, 0, none⟩ (.int .i64 p.2)).setCell ⟨w.heap.size, 0, none⟩ (.slice none 0 0)).setCell ⟨w.heap.size, 1, none⟩ (.slice none 0 0)).setCell ⟨w.heap.size + 1, 0, none⟩ (.int .i64 (p.1 : Int))).setCell ⟨w.heap.size + 1 + 1, 0, none⟩ (.int .i64 p.2)).drew = wF at *
  refine leaves_cons (f := 15) (args := #[.pointer (some ⟨w.heap.size, 0, none⟩), .pointer (some ⟨w.heap.size + 1, 0, none⟩), .pointer (some ⟨w.heap.size + 1 + 1, 0, none⟩)]) (by simp) (by simp [go_sem]) ?_
  refine (dcatch_idle w.heap.size _).mono ?_
  rintro e u' w'' ⟨rfl, rfl, rfl⟩
  obtain ⟨a0, a1, af⟩ := row2 R2.bd
  obtain ⟨b0, bf⟩ := row1 R2.ba
  obtain ⟨c0, cf⟩ := row1 R2.be
  simp [Leaves, settle, results, Tryz.results8, go_sem, a0, a1, b0, c0]
  exact ⟨rfl, hb2⟩
end Go.Proofs.YtlabcadpkdgjnaaGreatDoor
namespace Go.Proofs.YtlabcadpkdgjnaaGreatDoor
open Go Go.RowKit Go.Shelf
theorem dface_sch {w w2 : World} {s : Bs} {ts : List Tok} {q cp : Nat} (hfull : Full (ts ++ [eofT s.length])) (own : w2.ownsRow (w.heap.size + 3) 43 4 (.slice (some ⟨q, 0, none⟩) (ts.length + 1) cp) (ts.length + 1) (cellsT ts ++ [.int .i64 0, .string ⟨#[]⟩, .int .i64 (s.length : Int), .int .i64 0])) :
    Calls Tryz.prog 17 #[.pointer (some ⟨w2.heap.size, 0, none⟩)] (w2.alloc (.cells #[.slice (some ⟨q, 0, none⟩) (ts.length + 1) cp, .int .i64 0] 49)) fun e w' => (∃ p, schemaD (ts ++ [eofT s.length]) = .error p ∧ e = DiesD p ∧ Kp Non w2 w') ∨ (∃ x m p1 n1 m1 p2 n2 m2, schemaD (ts ++ [eofT s.length]) = .ok (x, m) ∧ e = .returned (.agg #[.slice p1 n1 m1, .slice p2 n2 m2]) ∧ ObR w' (w2.heap.size + 1) (.slice p1 n1 m1) x.os ∧ EnR w' (w2.heap.size + 1) (.slice p2 n2 m2) x.es ∧ x.os.length ≤ 2049 ∧ x.es.length ≤ 2049 ∧ Kp Non w2 w') := by
  have e1 : (ts ++ [eofT s.length]).length = ts.length + 1 := by simp
  have OW : w2.ownsRow (w.heap.size + 3) 43 4 (.slice (some ⟨q, 0, none⟩) (ts ++ [eofT s.length]).length cp) (ts ++ [eofT s.length]).length (cellsT (ts ++ [eofT s.length])) := by
    rw [e1, cellsT_snoc]; exact own
  have DC := dschema_any (sd_start hfull OW) (by simp)
  rw [e1] at DC
  refine DC.mono ?_
  rintro e w3 (⟨p, hq, rfl, k3⟩ | ⟨x, m, p1, n1, m1, p2, n2, m2, hq, rfl, ho, he, h1, h2, k3⟩)
  · exact Or.inl ⟨p, hq, rfl, ((Kp.refl Non w2).alloc _).tr2 k3 (fun k hk e => by have e' : k = w2.heap.size := e; omega)⟩
  · rw [World.size_alloc] at ho he
    exact Or.inr ⟨x, m, p1, n1, m1, p2, n2, m2, hq, rfl, ho, he, h1, h2, ((Kp.refl Non w2).alloc _).tr2 k3 (fun k hk e => by have e' : k = w2.heap.size := e; omega)⟩
set_option maxRecDepth 100000 in
set_option maxHeartbeats 4000000 in
theorem dparse_toks (s : Bs) (ts : List Tok) (hs : lexS s = .inr ts) (w : World) (gl : Gl w) : Calls Tryz.prog 8 #[.string ⟨s.toArray⟩] w (ParsP w (match schemaD (ts ++ [eofT s.length]) with | .error p => .error p | .ok p => .ok p.1)) := by
  have hmf : ∀ (fn : Fn) (first cap : Array Value) (w : World), (Instr.makeFunc fn first cap).run Tryz.prog w = .ok (.func fn first cap) w := fun _ _ _ _ => rfl
  have TO := tokens_any s (preD w) (gl.below (preD_below w) (Nat.le_refl _))
  rw [hs] at TO
  have hfull := dfull_of hs
  obtain ⟨hn1, hn2, _⟩ := lexS_full hs
  have hsz := size_of s
  have hne : ts ++ [eofT s.length] ≠ [] := by simp
  obtain ⟨ti, hti, hy0, hy1, hy2⟩ := info_parts Tryz.infoTok
  clear hs
  obtain ⟨r, hr⟩ : ∃ r, (match schemaD (ts ++ [eofT s.length]) with | .error p => .error p | .ok p => .ok p.1 : Except (Nat × Int) Sch) = r := ⟨_, rfl⟩
  rw [hr]
  go_enter_defers Tryz.func8, Tryz.ntmps8
  go_wp2_with (first
    | (at_builtin; refine wpList_append_lies _ rfl _ _ _ rfl (w.heap.size + 3) 43 ti _ 4 40 Tryz.underlying37 hti hy0 hy1 hy2 rfl (by decide) (.slice o ts.length lc) ts.length (cellsT ts) rfl HO.out ⟨w1.heap.size, 0, none⟩ 1 1 [.int .i64 0, .string ⟨#[]⟩, .int .i64 (s.length : Int), .int .i64 0] rfl rfl (World.news_of_block bT.out) (by intro u hu; simp at hu; rcases hu with rfl | rfl | rfl | rfl <;> rfl) (by decide) (by unfold maxLen; omega) (by omega) (by simp; omega) (w1.heap.size + 1) (by simp) ?_; intro q cp w2 own2 hgr hor hlt2; have DC := dface_sch hfull own2; have FM := dface_mid r1 ((preD_below w).trans (hb.mono (by rw [preD_size]; omega))) (fun k e => (ownBlk HO.out e).1) hgr; clear own2 hgr hor)
    | (go_at_call 17; refine DC.mono ?_; (rintro e w3 (⟨p, hq, rfl, k3⟩ | ⟨x, m, p1, n1, m1, p2, n2, m2, hq, rfl, ho, he, hl1, hl2, k3⟩) <;> (have r3 := FM.1.kp k3 (fun e => e) (fun e => e) (fun e => e); have hb3 := FM.2.trans (k3.bel.mono FM.2.size); have hz2 : w.heap.size + 3 ≤ w2.heap.size := lt_of_block FM.1.be; obtain ⟨x0, x1, xf⟩ := row2 r3.bd; obtain ⟨y0, yf⟩ := row1 r3.ba; obtain ⟨z0, zf⟩ := row1 r3.be)))
    | (go_at_call 14; refine TO.mono ?_; rintro e w1 ⟨⟨v, rfl, ht⟩, hb⟩; obtain ⟨o, lc, rfl, r1, hz1, HO, bT⟩ := dtoks_face ht hb s; obtain ⟨d0, d1, df⟩ := row2 r1.bd; obtain ⟨e0, ef⟩ := row1 r1.ba; obtain ⟨g0, gf⟩ := row1 r1.be))
  · rw [hq] at hr
    subst hr
    refine leaves_cons (f := 15) (args := #[.pointer (some ⟨w.heap.size, 0, none⟩), .pointer (some ⟨w.heap.size + 1, 0, none⟩), .pointer (some ⟨w.heap.size + 1 + 1, 0, none⟩)]) (by simp) (by simp [go_sem]) ?_
    refine (dcatch_dies w.heap.size p none none 0 0 0 0 0 0 [] _ r3).mono ?_
    rintro e u' w'' ⟨rfl, rfl, r4, k4⟩
    obtain ⟨a0, a1, af⟩ := row2 r4.bd
    obtain ⟨b0, bf⟩ := row1 r4.ba
    obtain ⟨c0, cf⟩ := row1 r4.be
    simp [Leaves, settle, results, Tryz.results8, go_sem, a0, a1, b0, c0]
    exact ⟨rfl, hb3.trans (k4.below hb3.size (fun k hk e => by omega))⟩
  · rw [hq] at hr
    subst hr
    have PU := r3.put (.slice p1 n1 m1) (.slice p2 n2 m2) 0 0
    have hbF := hb3.trans (PU.2.below hb3.size (fun k hk e => by omega))
    have bk := kp_blk (B := w2.heap.size + 1) PU.2 (fun q e => by omega)
    obtain ⟨a0, a1, af⟩ := row2 PU.1.bd
    obtain ⟨b0, bf⟩ := row1 PU.1.ba
    obtain ⟨c0, cf⟩ := row1 PU.1.be
    have ho' := (ho.blk bk).base (B' := w.heap.size) (by omega)
    have he' := (he.blk bk).base (B' := w.heap.size) (by omega)
    clear PU bk ho he
    generalize (((w3.setCell ⟨w.heap.size, 0, none⟩ (.slice p1 n1 m1)).setCell ⟨w.heap.size, 1, none⟩ (.slice p2 n2 m2)).setCell ⟨w.heap.size + 1, 0, none⟩ (.int .i64 0)).setCell ⟨w.heap.size + 1 + 1, 0, none⟩ (.int .i64 0) = wF at *
    refine leaves_cons (f := 15) (args := #[.pointer (some ⟨w.heap.size, 0, none⟩), .pointer (some ⟨w.heap.size + 1, 0, none⟩), .pointer (some ⟨w.heap.size + 1 + 1, 0, none⟩)]) (by simp) (by simp [go_sem]) ?_
    refine (dcatch_idle w.heap.size _).mono ?_
    rintro e u' w'' ⟨rfl, rfl, rfl⟩
    simp [Leaves, settle, results, Tryz.results8, go_sem, a0, a1, b0, c0]
    exact ⟨⟨_, _, _, _, _, _, rfl, ho', he', hl1, hl2⟩, hbF⟩
/-- Parse at whatever bytes. -/
theorem dparse_any (s : Bs) (w : World) (gl : Gl w) : Calls Tryz.prog 8 #[.string ⟨s.toArray⟩] w (ParsP w (parseD s)) := by
  unfold parseD
  cases hs : lexS s with
  | inl p => exact dparse_lex s p hs (lexS_bad hs) w gl
  | inr ts => exact dparse_toks s ts hs w gl
end Go.Proofs.YtlabcadpkdgjnaaGreatDoor
