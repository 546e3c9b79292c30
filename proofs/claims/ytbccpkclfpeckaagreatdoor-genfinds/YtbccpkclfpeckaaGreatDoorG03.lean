/- Types: the definitions of a schema's API. -/
import Derived.Test.YtbccpkclfpeckaaGreatDoorG06
import Derived.WalkSpells
import Derived.Test.YtbccpkclfpeckaaGreatDoorG05
import Derived.Test.YtbccpkclfpeckaaGreatDoorG01
namespace Go.Proofs.YtbccpkclfpeckaaGreatDoor
open Go Go.RowKit Go.Shelf
def fE (e : En) : Df := ⟨e.n ++ cFilter, 3, [], [⟨[101, 113], e.n, []⟩, ⟨[105, 110], e.n, wSome⟩], []⟩
def fil4 : List Df := [⟨intB ++ cFilter, 3, [], cmpT intB, []⟩, ⟨floB ++ cFilter, 3, [], cmpT floB, []⟩, ⟨strB ++ cFilter, 3, [], cmpT strB ++ [⟨[98, 101, 103, 105, 110, 115], strB, []⟩], []⟩, ⟨booB ++ cFilter, 3, [], [⟨[101, 113], booB, []⟩], []⟩]
theorem filT_eq (s : Sch) : filT s = fil4 ++ s.es.map fE := rfl
abbrev enO (n : Bs) (a : Option Addr) (k c : Nat) : Obj := .cells #[.string ⟨n.toArray⟩, .slice a k c] 59
theorem row16 {X : World} {B g : Nat} (hB : B ≤ g) (h : X.heap[g]? = some (.cells #[.string ⟨#[101, 113]⟩, .string ⟨#[66, 111, 111, 108, 101, 97, 110]⟩, .string ⟨#[]⟩] 39)) : InR X B (.slice (some ⟨g, 0, none⟩) 1 1) [⟨[101, 113], booB, []⟩] :=
  RowO.lit (fun _ => rfl) hB h rfl rfl (by decide)
theorem row36 {X : World} {xn : Bs} {B g : Nat} (hB : B ≤ g) (h : X.heap[g]? = some (.cells #[.string ⟨#[101, 113]⟩, .string ⟨xn.toArray⟩, .string ⟨#[]⟩, .string ⟨#[105, 110]⟩, .string ⟨xn.toArray⟩, .string ⟨#[33, 91]⟩] 39)) : InR X B (.slice (some ⟨g, 0, none⟩) 2 2) [⟨[101, 113], xn, []⟩, ⟨[105, 110], xn, wSome⟩] :=
  RowO.lit (fun _ => rfl) hB h rfl rfl (by decide)
abbrev o18 (v6 v8 v13 v16 : Value) : Obj := .cells #[.string ⟨#[73, 110, 116, 70, 105, 108, 116, 101, 114]⟩, .int .i64 3, .slice none 0 0, .slice none 0 0, v6, .string ⟨#[70, 108, 111, 97, 116, 70, 105, 108, 116, 101, 114]⟩, .int .i64 3, .slice none 0 0, .slice none 0 0, v8, .string ⟨#[83, 116, 114, 105, 110, 103, 70, 105, 108, 116, 101, 114]⟩, .int .i64 3, .slice none 0 0, .slice none 0 0, v13, .string ⟨#[66, 111, 111, 108, 101, 97, 110, 70, 105, 108, 116, 101, 114]⟩, .int .i64 3, .slice none 0 0, .slice none 0 0, v16] 35
theorem row18 {X : World} {B g : Nat} {v6 v8 v13 v16 : Value} (hB : B ≤ g) (h : X.heap[g]? = some (o18 v6 v8 v13 v16)) (I6 : InR X B v6 (cmpT intB)) (I8 : InR X B v8 (cmpT floB)) (I13 : InR X B v13 (cmpT strB ++ [⟨[98, 101, 103, 105, 110, 115], strB, []⟩])) (I16 : InR X B v16 [⟨[101, 113], booB, []⟩]) : DfR X B (.slice (some ⟨g, 0, none⟩) 4 4) fil4 := by
  refine ⟨[(⟨intB ++ cFilter, 3, [], cmpT intB, []⟩, .slice none 0 0, .slice none 0 0, v6), (⟨floB ++ cFilter, 3, [], cmpT floB, []⟩, .slice none 0 0, .slice none 0 0, v8), (⟨strB ++ cFilter, 3, [], cmpT strB ++ [⟨[98, 101, 103, 105, 110, 115], strB, []⟩], []⟩, .slice none 0 0, .slice none 0 0, v13), (⟨booB ++ cFilter, 3, [], [⟨[101, 113], booB, []⟩], []⟩, .slice none 0 0, .slice none 0 0, v16)], rfl, RowO.lit (fun _ => rfl) hB h rfl rfl (by decide), ?_⟩
  intro p hp
  simp only [List.mem_cons, List.not_mem_nil, or_false] at hp
  rcases hp with rfl | rfl | rfl | rfl
  · exact ⟨RowO.none, OtR.none, I6⟩
  · exact ⟨RowO.none, OtR.none, I8⟩
  · exact ⟨RowO.none, OtR.none, I13⟩
  · exact ⟨RowO.none, OtR.none, I16⟩
/-- An enum of a schema, cell by cell. -/
theorem en_cellsG {w : World} {v : Value} {es : List En} {i : Nat} {x : En} (h : EnsAt w v es) (hx : es[i]? = some x) : ∃ b o c a1 c1, v = .slice (some ⟨b, o, none⟩) es.length c ∧ b < w.heap.size ∧ es.length ≤ c ∧ w.cell? ⟨b, o + i * 2, none⟩ = some (.string ⟨x.n.toArray⟩) ∧ w.cell? ⟨b, o + i * 2 + 1, none⟩ = some (.slice a1 x.ws.length c1) ∧ WdsAt w (.slice a1 x.ws.length c1) x.ws := by
  obtain ⟨a, c, rfl, hc, _, hr⟩ := h
  have hi := (List.getElem?_eq_some_iff.1 hx).1
  obtain ⟨b, o, rfl, hb, hH⟩ := hr (by omega)
  obtain ⟨e0, fv, e1, hf⟩ := hH i hi x hx
  obtain ⟨a1, c1, rfl, _, _⟩ := hf.slice
  exact ⟨b, o, c, a1, c1, rfl, hb, hc, e0, e1, hf⟩
section
variable {w : World} {ov ev : Value} {s : Sch}
set_option maxRecDepth 100000 in
set_option maxHeartbeats 20000000 in
theorem gfilters_any (h : SchAt w ov ev s) (hn : ∀ o ∈ s.es, o.n.length ≤ 1000) (hl : s.es.length ≤ 8) : Calls Tryz.prog 29 #[.agg #[ov, ev]] w fun e w' => ∃ v, e = .returned v ∧ DfR w' w.heap.size v (filT s) ∧ Below w.heap.size w w' := by
  obtain ⟨ti, hti, hy0, hy1, hy2⟩ := info_parts Tryz.infoDef
  obtain ⟨tj, htj, hz0, hz1, hz2⟩ := info_parts Tryz.infoIn
  have hes := h.es
  obtain ⟨a, c, rfl, _, _⟩ := h.os.slice
  obtain ⟨a', c', rfl, _, _⟩ := h.es.slice
  obtain ⟨W0, hW0⟩ : ∃ W0, W0 = w.alloc (schO (.slice a s.os.length c) (.slice a' s.es.length c')) := ⟨_, rfl⟩
  have A0 : Below w.heap.size w W0 := by rw [hW0]; exact al1 w _
  have N0 : W0.heap[w.heap.size]? = some (schO (.slice a s.os.length c) (.slice a' s.es.length c')) := by rw [hW0]; exact heap_alloc_new w _
  have HW : Hid (W0 = w.alloc (schO (.slice a s.os.length c) (.slice a' s.es.length c'))) := hW0
  have nx : ∀ {X Y : World}, Below W0.heap.size W0 X → Below X.heap.size X Y → Below W0.heap.size W0 Y := fun p q => p.trans (q.mono p.size)
  have al : ∀ {X : World} {o : Obj}, Below W0.heap.size W0 X → Below W0.heap.size W0 (X.alloc o) := fun p => p.alloc p.size _
  have D : Below W0.heap.size W0 (w.alloc (schO (.slice a s.os.length c) (.slice a' s.es.length c'))) := by rw [hW0]; exact Below.refl _ _
  have CC : ∀ {X : World}, Below W0.heap.size W0 X → X.cell? ⟨w.heap.size, 1, none⟩ = some (.slice a' s.es.length c') := fun d => (row2 ((d.block _ (lt_of_block N0)).trans N0)).2.1
  clear hW0 h
  go_enter Tryz.func29, Tryz.ntmps29
  go_wp2_with (first
    | (go_at_call 72; (first
        | ((with_reducible refine (gcompared_any intB _).mono ?_); rintro e y6 ⟨v6, rfl, I6, b6⟩; replace I6 := RowO.base I6 D.size; replace D := nx D b6; clear b6; obtain ⟨p6, n6, m6, rfl⟩ := row_slc I6)
        | ((with_reducible refine (gcompared_any floB _).mono ?_); rintro e y8 ⟨v8, rfl, I8, b8⟩; replace I6 := RowO.on I6 b8; replace I8 := RowO.base I8 D.size; replace D := nx D b8; clear b8; obtain ⟨p8, n8, m8, rfl⟩ := row_slc I8)
        | ((with_reducible refine (gcompared_any strB _).mono ?_); rintro e yA ⟨vA, rfl, IA, bA⟩; obtain ⟨pA, mA, rfl⟩ : ∃ p m, vA = .slice p 6 m := RowO.slice IA)))
    | (go_at_call 66; (first
        | ((with_reducible refine (gin_any _ ⟨#[98, 101, 103, 105, 110, 115]⟩ _ _).mono ?_); rintro e yB ⟨rfl, bB⟩; replace IA := RowO.on IA bB; replace bA := bA.trans (bB.mono bA.size); clear bB)
        | ((with_reducible refine (gin_any _ ⟨#[101, 113]⟩ _ _).mono ?_); rintro e yF ⟨rfl, bF⟩; replace I6 := RowO.on I6 bF; replace I8 := RowO.on I8 bF; replace I13 := RowO.on I13 bF; replace D := nx D bF; clear bF)))
    | (go_at_call 65; (first
        | ((with_reducible refine (gins_any _ ⟨#[73, 110, 116, 70, 105, 108, 116, 101, 114]⟩ _ _ _).mono ?_); rintro e y7 ⟨rfl, b7⟩; replace I6 := RowO.on I6 b7; replace D := nx D b7; clear b7)
        | ((with_reducible refine (gins_any _ ⟨#[70, 108, 111, 97, 116, 70, 105, 108, 116, 101, 114]⟩ _ _ _).mono ?_); rintro e y9 ⟨rfl, b9⟩; replace I6 := RowO.on I6 b9; replace I8 := RowO.on I8 b9; replace D := nx D b9; clear b9)
        | ((with_reducible refine (gins_any _ ⟨#[83, 116, 114, 105, 110, 103, 70, 105, 108, 116, 101, 114]⟩ _ _ _).mono ?_); rintro e yE ⟨rfl, bE⟩; replace I6 := RowO.on I6 bE; replace I8 := RowO.on I8 bE; replace I13 := RowO.on I13 bE; replace D := nx D bE; clear bE)
        | ((with_reducible refine (gins_any _ ⟨#[66, 111, 111, 108, 101, 97, 110, 70, 105, 108, 116, 101, 114]⟩ _ _ _).mono ?_); rintro e yH ⟨rfl, bH⟩; have I16 := row16 D.size (new_on bH); replace I6 := (RowO.on I6 (al1 _ _)).on bH; replace I8 := (RowO.on I8 (al1 _ _)).on bH; replace I13 := (RowO.on I13 (al1 _ _)).on bH; replace D := nx (al D) bH; clear bH; have r18 := CC (al (o := o18 (.slice p6 n6 m6) (.slice p8 n8 m8) (.slice (some ⟨gD, 0, none⟩) 7 cpD) (.slice (some ⟨yF.heap.size, 0, none⟩) 1 1)) D))))
    | (at_builtin; refine wpList_append_lies _ rfl (.tmp 10) (.tmp 12) 33 rfl y9.heap.size 39 tj _ 3 48 Tryz.underlying33 htj hz0 hz1 hz2 rfl (by decide) (.slice pA 6 mA) 6 ((cmpT strB).flatMap innC) rfl ((RowO.on IA (al1 yB _)).own rfl) ⟨yB.heap.size, 0, none⟩ 1 1 [.string ⟨#[98, 101, 103, 105, 110, 115]⟩, .string ⟨#[83, 116, 114, 105, 110, 103]⟩, .string ⟨#[]⟩] rfl rfl (World.news_of_block (heap_alloc_new yB _)) (by intro u hu; simp at hu; rcases hu with rfl | rfl | rfl <;> rfl) (by decide) (by decide) (by decide) (Nat.le_trans bA.size (al1 yB _).size) _ rfl ?_; intro gD cpD wD ownD grD horD hltD; have bD : Below y9.heap.size y9 wD := (bA.alloc bA.size _).trans ((gt_grown (RowO.on IA (al1 yB _)) grD).below (Nat.le_trans bA.size (al1 yB _).size)); have I13 : InR wD y9.heap.size (.slice (some ⟨gD, 0, none⟩) 7 cpD) (cmpT strB ++ [⟨[98, 101, 103, 105, 110, 115], strB, []⟩]) := RowO.pushL ownD rfl rfl; replace I13 := RowO.base I13 D.size; replace I6 := RowO.on I6 bD; replace I8 := RowO.on I8 bD; replace D := nx D bD; clear bD bA ownD grD horD hltD IA)
    | fail)
  have DL := al (o := o18 (.slice p6 n6 m6) (.slice p8 n8 m8) (.slice (some ⟨gD, 0, none⟩) 7 cpD) (.slice (some ⟨yF.heap.size, 0, none⟩) 1 1)) D
  obtain ⟨lp0, hlp0, R0, F0⟩ := row18 D.size (heap_alloc_new yH (o18 (.slice p6 n6 m6) (.slice p8 n8 m8) (.slice (some ⟨gD, 0, none⟩) 7 cpD) (.slice (some ⟨yF.heap.size, 0, none⟩) 1 1))) (RowO.on I6 (al1 _ _)) (RowO.on I8 (al1 _ _)) (RowO.on I13 (al1 _ _)) (RowO.on I16 (al1 _ _))
  generalize hWL : yH.alloc (o18 (.slice p6 n6 m6) (.slice p8 n8 m8) (.slice (some ⟨gD, 0, none⟩) 7 cpD) (.slice (some ⟨yF.heap.size, 0, none⟩) 1 1)) = WL at *
  generalize hgH : yH.heap.size = gH at *
  clear I6 I8 I13 I16 hWL hgH D
  go_loopw [3, 22] (fun lz iv wr => ∃ (lv : Value) (j : Nat) (ll : List (Df × Value × Value × Value)), lv = lz ∧ iv = .int .i64 (j : Int) ∧ j ≤ s.es.length ∧ RowO wr W0.heap.size 35 5 defC lv ll ∧ ll.map (·.1) = fil4 ++ (s.es.take j).map fE ∧ (∀ p ∈ ll, DfO wr W0.heap.size p) ∧ Gt W0.heap.size 35 WL wr) (fun _ iv _ => s.es.length - (RowKit.intOf iv).toNat)
  case atStart => exact ⟨_, 0, lp0, rfl, rfl, Nat.zero_le _, R0, by simp [hlp0], F0, Gt.refl _ _ _⟩
  case round =>
    obtain ⟨lv, j, ll, rfl, rfl, hj, hrow, hdn, hin, hg⟩ := hrel
    have hdl : ll.length ≤ 4 + j := by
      have e := congrArg List.length hdn
      rw [List.length_map, List.length_append, List.length_map, List.length_take] at e
      have : fil4.length = 4 := rfl
      omega
    have hbr0 : Below W0.heap.size W0 wr := DL.trans (hg.below DL.size)
    have hbr : Below w.heap.size w wr := A0.trans (hbr0.mono A0.size)
    have HI : Hid (∀ p ∈ ll, DfO wr W0.heap.size p) := hin
    by_cases hlt : j < s.es.length
    · obtain ⟨x, hx⟩ : ∃ x, s.es[j]? = some x := ⟨_, List.getElem?_eq_getElem hlt⟩
      have hxn := hn x (List.mem_of_getElem? hx)
      obtain ⟨b, o, c0, a1, c1, hv, hbl, _, e0, e1, hfs⟩ := en_cellsG hes hx
      cases hv
      have f0 := cell_on hbr e0
      have f1 := cell_on hbr e1
      have l1 : ((j : Nat) : Int) < (s.es.length : Int) := by omega
      have hjN : ((j : Nat) : Int).toNat = j := by omega
      have HK : Hid (j + 1 ≤ s.es.length) := hlt
      have HD : Hid (ll.map (·.1) ++ [fE x] = fil4 ++ (s.es.take (j + 1)).map fE) := by
        show _ = _
        rw [take_step hx, hdn, List.map_append, List.append_assoc]
        rfl
      obtain ⟨lo, lc, rfl⟩ := hrow.slice
      have hlen : ll.length ≤ 12 := by omega
      have hzB := hbr0.size
      obtain ⟨xn, xf⟩ := x
      simp only at f0 f1 hxn
      clear hx hlt hdn e0 e1 hin hfs hn F0 R0 nx al CC
      have h6 : ¬ (9223372036854775807 < xn.length + 6) := by omega
      have HG : Hid (Gt W0.heap.size 35 WL wr) := hg
      obtain ⟨W1, hW1⟩ : ∃ W1, W1 = wr.alloc (enO xn a1 xf.length c1) := ⟨_, rfl⟩
      have N9 : W1.heap[wr.heap.size]? = some (enO xn a1 xf.length c1) := by rw [hW1]; exact heap_alloc_new wr _
      have A1 : Below wr.heap.size wr W1 := by rw [hW1]; exact al1 wr _
      have c9 := (row2 N9).1
      have nx : ∀ {X Y : World}, Below W1.heap.size W1 X → Below X.heap.size X Y → Below W1.heap.size W1 Y := fun p q => p.trans (q.mono p.size)
      have al : ∀ {X : World} {o : Obj}, Below W1.heap.size W1 X → Below W1.heap.size W1 (X.alloc o) := fun p => p.alloc p.size _
      have D : Below W1.heap.size W1 W1.drew := bel_dr (Below.refl _ _)
      go_wp2
      rw [← hW1]
      clear hW1
      go_region_held3 (fun w' => w'.cell? ⟨wr.heap.size, 0, none⟩ = some (.string ⟨xn.toArray⟩)) (first | exact c10 | exact cell_on D c9 | exact cell_on (al D) c9) ((first
        | (go_at_call 66; (with_reducible refine (gin_any _ _ _ _).mono ?_); rintro e y1 ⟨rfl, b1⟩; replace D := nx D b1; clear b1)
        | (go_at_call 65; (with_reducible refine (gins_any _ _ _ _ _).mono ?_); rintro e y2 ⟨rfl, b2⟩; have I1 := row36 D.size (new_on b2); replace D := nx (al D) b2; clear b2)
        | (refine step_append_lies _ (by rfl) (.tmp 26) (.tmp 38) 26 (by rfl) W0.heap.size 35 ti _ 5 96 Tryz.underlying26 hti hy0 hy1 hy2 rfl (by decide) (.slice lo ll.length lc) ll.length (ll.flatMap defC) (by rfl) ((RowO.on (RowO.on hrow A1) D).on (al1 _ _)) ⟨y2.heap.size, 0, none⟩ 1 1 [.string (⟨xn.toArray⟩ ++ ⟨#[70, 105, 108, 116, 101, 114]⟩), .int .i64 3, .slice none 0 0, .slice none 0 0, .slice (some ⟨y1.heap.size, 0, none⟩) 2 2] (by rfl) rfl (World.news_of_block (heap_alloc_new y2 _)) (by intro u hu; simp at hu; rcases hu with rfl | rfl | rfl | rfl <;> rfl) (by decide) (by unfold maxLen; omega) (by omega) (Nat.le_trans hzB (Nat.le_trans A1.size (al D).size)) _ rfl ?_; intro g8 cp8 w8 own8 gr8 hor8 hlt8; have G8 := gt_grown ((RowO.on (RowO.on hrow A1) D).on (al1 y2 _)) gr8; have c10 := (row2 (G8.block _ _ (((al D).block _ (lt_of_block N9)).trans N9) (Or.inr (by simp)))).1; have O8 : Hid (w8.ownsRow W0.heap.size 35 5 (.slice (some ⟨g8, 0, none⟩) (ll.length + 1) cp8) (ll.length + 1) (ll.flatMap defC ++ [.string (⟨xn.toArray⟩ ++ ⟨#[70, 105, 108, 116, 101, 114]⟩), .int .i64 3, .slice none 0 0, .slice none 0 0, .slice (some ⟨y1.heap.size, 0, none⟩) 2 2])) := own8; clear own8 gr8 hor8 hlt8)))
      go_wp2
      have hz1 : W0.heap.size ≤ W1.heap.size := Nat.le_trans hzB A1.size
      refine ⟨⟨_, j + 1, ll ++ [(fE ⟨xn, xf⟩, .slice none 0 0, .slice none 0 0, .slice (some ⟨y1.heap.size, 0, none⟩) 2 2)], rfl, by simp, HK.out, RowO.pushL O8.out rfl ?_, by rw [List.map_append]; exact HD.out, ?_, (((HG.out.trans (gt_of A1)).trans (gt_of D)).trans (gt_of (al1 _ _))).trans G8⟩, ?_⟩
      · show [Value.string ⟨(xn ++ cFilter).toArray⟩, .int .i64 3, .slice none 0 0, .slice none 0 0, .slice (some ⟨y1.heap.size, 0, none⟩) 2 2] = _
        rw [← bytes_add]
      · intro p hp
        rcases List.mem_append.1 hp with hp | hp
        · exact ((((HI.out p hp).on A1).on D).on (al1 _ _)).gt G8
        · rw [List.mem_singleton] at hp
          subst hp
          exact ⟨RowO.none, OtR.none, ((RowO.base I1 hz1).on (al1 _ _)).gt G8 (by decide)⟩
      · have := HK.out
        simp [RowKit.intOf]
        omega
    · have l2 : decide (((j : Nat) : Int) < (s.es.length : Int)) = false := by simp; omega
      have l3 : decide (j < s.es.length) = false := by simp; omega
      have hje : j = s.es.length := by omega
      have HS : Hid (ll.map (·.1) = filT s) := by
        show _ = _
        rw [hdn, hje, List.take_length, filT_eq]
      obtain ⟨p9, n9, m9, rfl⟩ := row_slc hrow
      clear hje hlt hdn hdl hj hin
      go_wp2
      exact bodyPost_ret (v := .slice p9 n9 m9) (by simp [results, Tryz.results29, go_sem]) rfl ⟨_, rfl, ⟨ll, HS.out, RowO.base hrow A0.size, fun p hp => (HI.out p hp).base A0.size⟩, hbr⟩
end
end Go.Proofs.YtbccpkclfpeckaaGreatDoor
namespace Go.Proofs.YtbccpkclfpeckaaGreatDoor
open Go Go.RowKit Go.Shelf
def InAt (w : World) (x : Inn) (b o : Nat) : Prop := w.cell? ⟨b, o, none⟩ = some (.string ⟨x.n.toArray⟩) ∧ w.cell? ⟨b, o + 1, none⟩ = some (.string ⟨x.t.toArray⟩) ∧ w.cell? ⟨b, o + 2, none⟩ = some (.string ⟨x.w.toArray⟩)
def InsAt (w : World) (v : Value) (l : List Inn) : Prop := Sl w v l.length 3 fun i b o => ∀ x, l[i]? = some x → InAt w x b o
set_option maxRecDepth 100000 in
set_option maxHeartbeats 4000000 in
theorem clone_str {w : World} {v : Value} {l : List Bs} (h : WdsAt w v l) (hl : l.length * 16 ≤ 140737488355328) : Calls Tryz.prog 27 #[v] w fun e w' => ∃ v', e = .returned v' ∧ WdR w' w.heap.size v' l ∧ Below w.heap.size w w' := by
  obtain ⟨ti, hti, hy0, hy1, hy2⟩ := info_parts Tryz.infoStr
  have qT : ∀ (w : World) (a : Option Addr) (n c : Nat), (binOp .eql 31 (.slice a n c) (.slice none 0 0)).run Tryz.prog w = .ok (.bool a.isNone) w := fun w a n c => Lib.run_eql_slice_nil w _ _ a n c 0 0 Tryz.underlying31
  obtain ⟨ad, c, rfl, hc, h47, hr⟩ := h
  cases ad with
  | none =>
    have h0 : l = [] := by
      by_cases hp : 0 < l.length
      · obtain ⟨_, _, e, _⟩ := hr hp
        cases e
      · exact List.length_eq_zero_iff.1 (by omega)
    subst h0
    go_enter Tryz.func27, Tryz.ntmps27
    go_wp2
    exact bodyPost_ret (v := .slice none 0 0) (by simp [results, Tryz.results27, go_sem]) rfl ⟨_, rfl, RowO.none, Below.refl _ _⟩
  | some ad =>
    have hnews : ∀ {W : World}, Below w.heap.size w W → ∀ (j : Nat) (u : Value), (l.flatMap wrdC)[j]? = some u → W.cell? (ad.add j) = some u := by
      intro W hW j u hj
      have hjl := (List.getElem?_eq_some_iff.1 hj).1
      rw [flat_len (f := wrdC) (sz := 1) (fun _ => rfl)] at hjl
      have hp : 0 < l.length := by omega
      obtain ⟨b, o, e, hb, hH⟩ := hr hp
      cases e
      rw [add_at]
      obtain ⟨i, r, hi, hrr⟩ : ∃ i r, j = i * 1 + r ∧ r < 1 := ⟨j / 1, j % 1, by omega, by omega⟩
      obtain ⟨x, hx⟩ : ∃ x, l[i]? = some x := ⟨_, List.getElem?_eq_getElem (by omega)⟩
      rw [hi, flat_at (f := wrdC) (sz := 1) (fun _ => rfl) l i x hx r hrr] at hj
      have q := hH i (by omega) x hx
      rw [hi, ← Nat.add_assoc]
      have r0 : r = 0 := by omega
      subst r0
      cases hj
      exact cell_on hW q
    have h1 : ∀ u ∈ l.flatMap wrdC, u.oneCell' = true := by
      intro u hu
      obtain ⟨x, _, hu⟩ := List.mem_flatMap.1 hu
      simp at hu
      rcases hu with rfl <;> rfl
    have hfl : (l.flatMap wrdC).length = l.length * 1 := flat_len (f := wrdC) (fun _ => rfl) l
    have hO : ∀ (X : World), (w.alloc (.cells #[] 9)).ownsRow w.heap.size 9 1 (.slice (some ⟨w.heap.size, 0, none⟩) 0 0) 0 [] := fun _ => ⟨rfl, Or.inr ⟨w.heap.size, 0, #[], rfl, Nat.le_refl _, heap_alloc_new w _, Nat.le_refl _, Nat.zero_le _, rfl, rfl⟩⟩
    generalize hN : l.flatMap wrdC = news at *
    have HN : Hid (l.flatMap wrdC = news) := hN
    clear hN
    go_enter Tryz.func27, Tryz.ntmps27
    go_wp2_with (first
      | (at_builtin; refine wpList_append_own _ rfl (.tmp 5) (.tmp 6) 31 rfl w.heap.size 9 ti _ 1 16 Tryz.underlying31 hti hy0 hy1 hy2 rfl (by decide) (.slice (some ⟨w.heap.size, 0, none⟩) 0 0) 0 [] rfl (hO w) ad l.length c news rfl hfl (hnews (al1 w _)) h1 (by unfold maxLen; omega) (by omega) (al1 w _).size ?_; intro v8 w8 own8 gr8 hiff8)
      | fail)
    have b8 : Below w.heap.size w w8 := (al1 w _).trans ((gt_grown (hO w) gr8).below (al1 w _).size)
    have R8 : WdR w8 w.heap.size v8 l := by
      have q := own8
      rw [Nat.zero_add, List.nil_append, ← HN.out] at q
      exact q
    exact bodyPost_ret (v := v8) (by simp [results, Tryz.results27, go_sem]) rfl ⟨_, rfl, R8, b8⟩
set_option maxRecDepth 100000 in
set_option maxHeartbeats 4000000 in
theorem clone_in {w : World} {v : Value} {l : List Inn} (h : InsAt w v l) (hl : l.length * 48 ≤ 140737488355328) : Calls Tryz.prog 35 #[v] w fun e w' => ∃ v', e = .returned v' ∧ InR w' w.heap.size v' l ∧ Below w.heap.size w w' := by
  obtain ⟨ti, hti, hy0, hy1, hy2⟩ := info_parts Tryz.infoIn
  have qT : ∀ (w : World) (a : Option Addr) (n c : Nat), (binOp .eql 33 (.slice a n c) (.slice none 0 0)).run Tryz.prog w = .ok (.bool a.isNone) w := fun w a n c => Lib.run_eql_slice_nil w _ _ a n c 0 0 Tryz.underlying33
  obtain ⟨ad, c, rfl, hc, h47, hr⟩ := h
  cases ad with
  | none =>
    have h0 : l = [] := by
      by_cases hp : 0 < l.length
      · obtain ⟨_, _, e, _⟩ := hr hp
        cases e
      · exact List.length_eq_zero_iff.1 (by omega)
    subst h0
    go_enter Tryz.func35, Tryz.ntmps35
    go_wp2
    exact bodyPost_ret (v := .slice none 0 0) (by simp [results, Tryz.results35, go_sem]) rfl ⟨_, rfl, RowO.none, Below.refl _ _⟩
  | some ad =>
    have hnews : ∀ {W : World}, Below w.heap.size w W → ∀ (j : Nat) (u : Value), (l.flatMap innC)[j]? = some u → W.cell? (ad.add j) = some u := by
      intro W hW j u hj
      have hjl := (List.getElem?_eq_some_iff.1 hj).1
      rw [flat_len (f := innC) (sz := 3) (fun _ => rfl)] at hjl
      have hp : 0 < l.length := by omega
      obtain ⟨b, o, e, hb, hH⟩ := hr hp
      cases e
      rw [add_at]
      obtain ⟨i, r, hi, hrr⟩ : ∃ i r, j = i * 3 + r ∧ r < 3 := ⟨j / 3, j % 3, by omega, by omega⟩
      obtain ⟨x, hx⟩ : ∃ x, l[i]? = some x := ⟨_, List.getElem?_eq_getElem (by omega)⟩
      rw [hi, flat_at (f := innC) (sz := 3) (fun _ => rfl) l i x hx r hrr] at hj
      have q := hH i (by omega) x hx
      rw [hi, ← Nat.add_assoc]
      rcases (show r = 0 ∨ r = 1 ∨ r = 2 by omega) with rfl | rfl | rfl
      · cases hj
        exact cell_on hW q.1
      · cases hj
        exact cell_on hW q.2.1
      · cases hj
        exact cell_on hW q.2.2
    have h1 : ∀ u ∈ l.flatMap innC, u.oneCell' = true := by
      intro u hu
      obtain ⟨x, _, hu⟩ := List.mem_flatMap.1 hu
      simp at hu
      rcases hu with rfl | rfl | rfl <;> rfl
    have hfl : (l.flatMap innC).length = l.length * 3 := flat_len (f := innC) (fun _ => rfl) l
    have hO : ∀ (X : World), (w.alloc (.cells #[] 39)).ownsRow w.heap.size 39 3 (.slice (some ⟨w.heap.size, 0, none⟩) 0 0) 0 [] := fun _ => ⟨rfl, Or.inr ⟨w.heap.size, 0, #[], rfl, Nat.le_refl _, heap_alloc_new w _, Nat.le_refl _, Nat.zero_le _, rfl, rfl⟩⟩
    generalize hN : l.flatMap innC = news at *
    have HN : Hid (l.flatMap innC = news) := hN
    clear hN
    go_enter Tryz.func35, Tryz.ntmps35
    go_wp2_with (first
      | (at_builtin; refine wpList_append_own _ rfl (.tmp 5) (.tmp 6) 33 rfl w.heap.size 39 ti _ 3 48 Tryz.underlying33 hti hy0 hy1 hy2 rfl (by decide) (.slice (some ⟨w.heap.size, 0, none⟩) 0 0) 0 [] rfl (hO w) ad l.length c news rfl hfl (hnews (al1 w _)) h1 (by unfold maxLen; omega) (by omega) (al1 w _).size ?_; intro v8 w8 own8 gr8 hiff8)
      | fail)
    have b8 : Below w.heap.size w w8 := (al1 w _).trans ((gt_grown (hO w) gr8).below (al1 w _).size)
    have R8 : InR w8 w.heap.size v8 l := by
      have q := own8
      rw [Nat.zero_add, List.nil_append, ← HN.out] at q
      exact q
    exact bodyPost_ret (v := v8) (by simp [results, Tryz.results35, go_sem]) rfl ⟨_, rfl, R8, b8⟩
end Go.Proofs.YtbccpkclfpeckaaGreatDoor
namespace Go.Proofs.YtbccpkclfpeckaaGreatDoor
open Go Go.RowKit Go.Shelf
/-- How many there are, at most. -/
structure Szs (s : Sch) : Prop where
  os : s.os.length ≤ 8
  es : s.es.length ≤ 8
  on : ∀ o ∈ s.os, o.n.length ≤ 1000
  en : ∀ e ∈ s.es, e.n.length ≤ 1000
  fs : ∀ o ∈ s.os, o.fs.length ≤ 100
  ws : ∀ e ∈ s.es, e.ws.length * 16 ≤ 140737488355328
  ft : ∀ o ∈ s.os, ∀ f ∈ o.fs, f.t.length ≤ 1000
theorem frt_len {x : Bs} (h : frtS x = true) : x.length ≤ 1000 := by
  unfold frtS shoS at h
  simp only [Bool.and_eq_true, decide_eq_true_eq] at h
  omega
theorem sca_len {x : Bs} (h : scaS x = true) : x.length ≤ 1000 := by
  unfold scaS at h
  simp only [Bool.or_eq_true, beq_iff_eq] at h
  rcases h with ((rfl | rfl) | rfl) | rfl <;> decide
theorem szs {s : Sch} (h : OkD s) : Szs s := by
  obtain ⟨⟨_, h1⟩, h2, h3, h4⟩ := man_iff.1 h.m
  refine ⟨h1, h2, fun o ho => frt_len (h.no o ho).1, fun e he => frt_len (h.ne e he).1, fun o ho => by have := (h3 o ho).2; omega, fun e he => by have := (h4 e he).2; omega, fun o ho f hf => ?_⟩
  rcases fld_ways h ho hf with ⟨_, _, q | ⟨e, he, q⟩⟩ | ⟨_, _, p, hp, q⟩
  · exact sca_len q
  · rw [← q]
    exact frt_len (h.ne e he).1
  · rw [← q]
    exact frt_len (h.no p hp).1
def eE (e : En) : Df := ⟨e.n, 1, e.ws, [], []⟩
theorem def_one {w : World} {B : Nat} {lp : List (Df × Value × Value × Value)} (h : ∀ p ∈ lp, DfO w B p) : ∀ u ∈ lp.flatMap defC, u.oneCell' = true := by
  intro u hu
  obtain ⟨p, hp, hu⟩ := List.mem_flatMap.1 hu
  obtain ⟨h1, h2, h3⟩ := h p hp
  obtain ⟨_, _, _, e1⟩ := row_slc h1
  obtain ⟨_, _, _, e2⟩ := h2.slc
  obtain ⟨_, _, _, e3⟩ := row_slc h3
  simp only [List.mem_cons, List.not_mem_nil, or_false] at hu
  rcases hu with rfl | rfl | rfl | rfl | rfl
  · rfl
  · rfl
  · rw [e1]; rfl
  · rw [e2]; rfl
  · rw [e3]; rfl
/-- A row of definitions, as an append reads it. -/
theorem def_news {w : World} {B : Nat} {v : Value} {l : List Df} (h : DfR w B v l) (hl : l ≠ []) : ∃ (g c : Nat) (lp : List (Df × Value × Value × Value)), v = .slice (some ⟨g, 0, none⟩) l.length c ∧ lp.map (·.1) = l ∧ (lp.flatMap defC).length = l.length * 5 ∧ (∀ p ∈ lp, DfO w B p) ∧ (∀ j u, (lp.flatMap defC)[j]? = some u → w.cell? ((⟨g, 0, none⟩ : Addr).add j) = some u) ∧ ∀ u ∈ lp.flatMap defC, u.oneCell' = true := by
  obtain ⟨lp, rfl, R, F⟩ := h
  obtain ⟨g, c, e, _, _, _, _, hc⟩ := R.cells (fun e => hl (by rw [e]; rfl))
  refine ⟨g, c, lp, by rw [e, List.length_map], rfl, by rw [List.length_map]; exact flat_len (f := defC) (sz := 5) (fun _ => rfl) lp, F, fun j u hj => ?_, def_one F⟩
  rw [add_at, Nat.zero_add]
  exact hc j u hj
theorem DfR.add {w w' : World} {B n : Nat} {v' : Value} {l m : List Df} {ll lp : List (Df × Value × Value × Value)} (h1 : ll.map (·.1) = l) (F1 : ∀ p ∈ ll, DfO w B p) (h2 : lp.map (·.1) = m) (F2 : ∀ p ∈ lp, DfO w B p) (G : Gt B 35 w w') (own : w'.ownsRow B 35 5 v' n (ll.flatMap defC ++ lp.flatMap defC)) (hn : n = ll.length + lp.length) : DfR w' B v' (l ++ m) := by
  refine ⟨ll ++ lp, by rw [List.map_append, h1, h2], RowO.pushL own hn rfl, fun p hp => ?_⟩
  rcases List.mem_append.1 hp with hp | hp
  · exact (F1 p hp).gt G
  · exact (F2 p hp).gt G
section
variable {w : World} {ov ev : Value} {s : Sch}
set_option maxRecDepth 100000 in
set_option maxHeartbeats 4000000 in
theorem gtypes_no (h : SchAt w ov ev s) (gl : Gl w) (hc : chkS s ≠ 0) : Calls Tryz.prog 9 #[.agg #[ov, ev]] w fun e w' => e = .returned (.tuple #[.slice none 0 0, .int .i64 (chkS s)]) ∧ Below w.heap.size w w' := by
  obtain ⟨a, c, rfl, _, _⟩ := h.os.slice
  obtain ⟨a', c', rfl, _, _⟩ := h.es.slice
  have A0 := al1 w (schO (.slice a s.os.length c) (.slice a' s.es.length c'))
  have CK := hcheck_any (h.on A0) (gl.below A0 (Nat.le_refl _))
  generalize chkS s = k at *
  clear h gl
  go_enter Tryz.func9, Tryz.ntmps9
  go_wp2_with (first
    | (go_at_call 17; (with_reducible refine CK.mono ?_); rintro e x1 ⟨rfl, b1⟩)
    | fail)
  exact bodyPost_ret (v := .tuple #[.slice none 0 0, .int .i64 k]) (by simp [results, Tryz.results9, go_sem]) rfl ⟨rfl, A0.trans (b1.mono A0.size)⟩
set_option maxRecDepth 100000 in
set_option maxHeartbeats 20000000 in
theorem gtypes_ok (h : SchAt w ov ev s) (gl : Gl w) (hc : chkS s = 0) : Calls Tryz.prog 9 #[.agg #[ov, ev]] w fun e w' => ∃ v, e = .returned (.tuple #[v, .int .i64 0]) ∧ DfR w' w.heap.size v (defT s) ∧ Below w.heap.size w w' := by
  have SZ : Hid (Szs s) := szs (chk_ok.1 hc)
  have z1 := SZ.out.os
  have z2 := SZ.out.es
  obtain ⟨ti, hti, hy0, hy1, hy2⟩ := info_parts Tryz.infoDef
  have hos := h.os
  have hes := h.es
  obtain ⟨a, c, rfl, _, _⟩ := h.os.slice
  obtain ⟨a', c', rfl, _, _⟩ := h.es.slice
  obtain ⟨W0, hW0⟩ : ∃ W0, W0 = w.alloc (schO (.slice a s.os.length c) (.slice a' s.es.length c')) := ⟨_, rfl⟩
  have A0 : Below w.heap.size w W0 := by rw [hW0]; exact al1 w _
  have N0 : W0.heap[w.heap.size]? = some (schO (.slice a s.os.length c) (.slice a' s.es.length c')) := by rw [hW0]; exact heap_alloc_new w _
  have HW : Hid (W0 = w.alloc (schO (.slice a s.os.length c) (.slice a' s.es.length c'))) := hW0
  have CK := hcheck_any (h.on A0) (gl.below A0 (Nat.le_refl _))
  rw [hc, hW0] at CK
  have HS : Hid (SchAt W0 (.slice a s.os.length c) (.slice a' s.es.length c') s) := h.on A0
  have LW : Hid (w.heap.size < W0.heap.size) := lt_of_block N0
  clear hW0 h gl hc
  go_enter Tryz.func9, Tryz.ntmps9
  go_wp2_with (first
    | (go_at_call 17; (with_reducible refine CK.mono ?_); rintro e x1 ⟨rfl, b1⟩; rw [← HW.out] at b1)
    | (go_at_call 25; (with_reducible refine (gscalars_any _).mono ?_); rintro e x2 ⟨v2, rfl, R2, b2⟩; have D2 := b1.trans (b2.mono b1.size); have r0 := (row2 ((D2.block _ (lt_of_block N0)).trans N0)).2.1)
    | fail)
  replace R2 := R2.base b1.size
  clear CK
  go_loopw [5, 19] (fun lz iv wr => ∃ (lv : Value) (j : Nat), lv = lz ∧ iv = .int .i64 (j : Int) ∧ j ≤ s.es.length ∧ DfR wr W0.heap.size lv (scaN.map scaT ++ (s.es.take j).map eE) ∧ Gt W0.heap.size 35 W0 wr) (fun _ iv _ => s.es.length - (RowKit.intOf iv).toNat)
  case atStart => exact ⟨_, 0, rfl, rfl, Nat.zero_le _, by simpa using R2, gt_of D2⟩
  case round =>
    obtain ⟨lv, j, rfl, rfl, hj, ⟨ll, hdn, hrow, hin⟩, hg⟩ := hrel
    have hdl : ll.length ≤ 5 + j := by
      have e := congrArg List.length hdn
      rw [List.length_map, List.length_append, List.length_map, List.length_map, List.length_take] at e
      have : scaN.length = 5 := rfl
      omega
    have hbr0 : Below W0.heap.size W0 wr := hg.below (Nat.le_refl _)
    have hbr : Below w.heap.size w wr := A0.trans (hbr0.mono A0.size)
    have HI : Hid (∀ p ∈ ll, DfO wr W0.heap.size p) := hin
    have HD : Hid (ll.map (·.1) = scaN.map scaT ++ (s.es.take j).map eE) := hdn
    have hzB := hbr0.size
    clear hin hdn R2 D2
    by_cases hlt : j < s.es.length
    · obtain ⟨x, hx⟩ : ∃ x, s.es[j]? = some x := ⟨_, List.getElem?_eq_getElem hlt⟩
      obtain ⟨b, o, c0, a1, c1, hv, hbl, _, e0, e1, hws⟩ := en_cellsG hes hx
      cases hv
      have f0 := cell_on hbr e0
      have f1 := cell_on hbr e1
      have l1 : ((j : Nat) : Int) < (s.es.length : Int) := by omega
      have hjN : ((j : Nat) : Int).toNat = j := by omega
      have HK : Hid (j + 1 ≤ s.es.length) := hlt
      have HE : Hid (scaN.map scaT ++ (s.es.take (j + 1)).map eE = (scaN.map scaT ++ (s.es.take j).map eE) ++ [eE x]) := by
        show _ = _
        rw [take_step hx, List.map_append, List.append_assoc]
        rfl
      obtain ⟨lo, lc, rfl⟩ := hrow.slice
      have hlen : ll.length ≤ 13 := by omega
      have hw16 := SZ.out.ws x (List.mem_of_getElem? hx)
      obtain ⟨W1, hW1⟩ : ∃ W1, W1 = wr.alloc (enO x.n a1 x.ws.length c1) := ⟨_, rfl⟩
      have N9 : W1.heap[wr.heap.size]? = some (enO x.n a1 x.ws.length c1) := by rw [hW1]; exact heap_alloc_new wr _
      have A1 : Below wr.heap.size wr W1 := by rw [hW1]; exact al1 wr _
      have AW := hbr.trans (A1.mono hbr.size)
      have CLN := fun {X : World} (d : Below W1.heap.size W1 X) => clone_str ((hws.on AW).on d) hw16
      obtain ⟨xn, xw⟩ := x
      simp only at f0 f1 N9 CLN
      clear hx hlt e0 e1 hws hw16
      have HG : Hid (Gt W0.heap.size 35 W0 wr) := hg
      obtain ⟨c9, c91, _⟩ := row2 N9
      have nx : ∀ {X Y : World}, Below W1.heap.size W1 X → Below X.heap.size X Y → Below W1.heap.size W1 Y := fun p q => p.trans (q.mono p.size)
      have al : ∀ {X : World} {o : Obj}, Below W1.heap.size W1 X → Below W1.heap.size W1 (X.alloc o) := fun p => p.alloc p.size _
      have D : Below W1.heap.size W1 W1.drew := bel_dr (Below.refl _ _)
      have XD : ∀ {X : World}, Below W1.heap.size W1 X → (fun w' => w'.cell? ⟨wr.heap.size, 0, none⟩ = some (.string ⟨xn.toArray⟩) ∧ w'.cell? ⟨wr.heap.size, 1, none⟩ = some (.slice a1 xw.length c1)) X := fun d => ⟨cell_on d c9, cell_on d c91⟩
      go_wp2
      rw [← hW1]
      clear hW1
      go_region_held3 (fun w' => w'.cell? ⟨wr.heap.size, 0, none⟩ = some (.string ⟨xn.toArray⟩) ∧ w'.cell? ⟨wr.heap.size, 1, none⟩ = some (.slice a1 xw.length c1)) (first | exact c10 | exact XD D | exact XD (al D)) ((first
        | (go_at_call 27; (with_reducible refine (CLN D).mono ?_); rintro e y1 ⟨v1, rfl, I1, b1⟩; replace I1 := RowO.base I1 D.size; replace D := nx D b1; clear b1; obtain ⟨p1, n1, m1, rfl⟩ := row_slc I1)
        | (go_at_call 26; (with_reducible refine (gwords_any _ _ _ _ _).mono ?_); rintro e y2 ⟨rfl, b2⟩; replace I1 := RowO.on I1 b2; replace D := nx D b2; clear b2)
        | (refine step_append_lies _ (by rfl) (.tmp 23) (.tmp 30) 26 (by rfl) W0.heap.size 35 ti _ 5 96 Tryz.underlying26 hti hy0 hy1 hy2 rfl (by decide) (.slice lo ll.length lc) ll.length (ll.flatMap defC) (by rfl) ((RowO.on (RowO.on hrow A1) D).on (al1 _ _)) ⟨y2.heap.size, 0, none⟩ 1 1 [.string ⟨xn.toArray⟩, .int .i64 1, .slice p1 n1 m1, .slice none 0 0, .slice none 0 0] (by rfl) rfl (World.news_of_block (heap_alloc_new y2 _)) (by intro u hu; simp at hu; rcases hu with rfl | rfl | rfl | rfl <;> rfl) (by decide) (by unfold maxLen; omega) (by omega) (Nat.le_trans hzB (Nat.le_trans A1.size (al D).size)) _ rfl ?_; intro g8 cp8 w8 own8 gr8 hor8 hlt8; have G8 := gt_grown ((RowO.on (RowO.on hrow A1) D).on (al1 y2 _)) gr8; have c10 : w8.cell? ⟨wr.heap.size, 0, none⟩ = some (.string ⟨xn.toArray⟩) ∧ w8.cell? ⟨wr.heap.size, 1, none⟩ = some (.slice a1 xw.length c1) := (have q := row2 (G8.block _ _ (((al D).block _ (lt_of_block N9)).trans N9) (Or.inr (by simp))); ⟨q.1, q.2.1⟩); have O8 : Hid (w8.ownsRow W0.heap.size 35 5 (.slice (some ⟨g8, 0, none⟩) (ll.length + 1) cp8) (ll.length + 1) (ll.flatMap defC ++ [.string ⟨xn.toArray⟩, .int .i64 1, .slice p1 n1 m1, .slice none 0 0, .slice none 0 0])) := own8; clear own8 gr8 hor8 hlt8)))
      go_wp2
      have hz1 : W0.heap.size ≤ W1.heap.size := Nat.le_trans hzB A1.size
      refine ⟨⟨_, j + 1, rfl, by simp, HK.out, ?_, (((HG.out.trans (gt_of A1)).trans (gt_of D)).trans (gt_of (al1 _ _))).trans G8⟩, ?_⟩
      · rw [HE.out]
        exact DfR.add (ll := ll) (lp := [(eE ⟨xn, xw⟩, .slice p1 n1 m1, .slice none 0 0, .slice none 0 0)]) HD.out (fun p hp => (((HI.out p hp).on A1).on D).on (al1 _ _)) rfl (fun p hp => by
          rw [List.mem_singleton] at hp
          subst hp
          exact ⟨(RowO.base I1 hz1).on (al1 _ _), OtR.none, RowO.none⟩) G8 O8.out rfl
      · have := HK.out
        simp [RowKit.intOf]
        omega
    · have l2 : decide (((j : Nat) : Int) < (s.es.length : Int)) = false := by simp; omega
      have l3 : decide (j < s.es.length) = false := by simp; omega
      have hje : j = s.es.length := by omega
      subst hje
      have R3 : Hid (DfR wr W0.heap.size lv (scaN.map scaT ++ s.es.map eE)) := ⟨ll, by have q := HD.out; rw [List.take_length] at q; exact q, hrow, HI.out⟩
      have r0' := (row2 ((hbr0.block _ (lt_of_block N0)).trans N0)).1
      obtain ⟨po, no, mo, hlv⟩ := row_slc hrow
      have hg1 := hg
      clear hlt hj hdl HD HI hrow
      go_wp2
      go_loopw [5, 36] (fun lz iv wq => ∃ (lv : Value) (j : Nat), lv = lz ∧ iv = .int .i64 (j : Int) ∧ j ≤ s.os.length ∧ DfR wq W0.heap.size lv ((scaN.map scaT ++ s.es.map eE) ++ (s.os.take j).flatMap (objT s)) ∧ Gt W0.heap.size 35 W0 wq) (fun _ iv _ => s.os.length - (RowKit.intOf iv).toNat)
      case atStart => exact ⟨_, 0, rfl, rfl, Nat.zero_le _, by simpa using R3.out, hg1⟩
      case round =>
        obtain ⟨lv2, j, rfl, rfl, hj, ⟨ll, hdn, hrow, hin⟩, hgq⟩ := hrel
        have hdl : ll.length ≤ 13 + 6 * j := by
          have e := congrArg List.length hdn
          rw [List.length_map, List.length_append, List.length_append, List.length_map, List.length_map, flat_lenK (k := 6) (fun _ => rfl), List.length_take] at e
          have : scaN.length = 5 := rfl
          omega
        have hbq0 : Below W0.heap.size W0 wr := hgq.below (Nat.le_refl _)
        have hbq : Below w.heap.size w wr := A0.trans (hbq0.mono A0.size)
        have HI : Hid (∀ p ∈ ll, DfO wr W0.heap.size p) := hin
        have HD : Hid (ll.map (·.1) = (scaN.map scaT ++ s.es.map eE) ++ (s.os.take j).flatMap (objT s)) := hdn
        have hzB2 := hbq0.size
        have q0 := (row2 ((hbq0.block _ (lt_of_block N0)).trans N0)).1
        have q1 := (row2 ((hbq0.block _ (lt_of_block N0)).trans N0)).2.1
        clear hin hdn
        by_cases hlt : j < s.os.length
        · obtain ⟨x, hx⟩ : ∃ x, s.os[j]? = some x := ⟨_, List.getElem?_eq_getElem hlt⟩
          obtain ⟨b, o, c0, a1, c1, hv, hbl, _, e0, e1, hfs⟩ := ob_cells hos hx
          cases hv
          have f0 := cell_on hbq e0
          have f1 := cell_on hbq e1
          have l1 : ((j : Nat) : Int) < (s.os.length : Int) := by omega
          have hjN : ((j : Nat) : Int).toNat = j := by omega
          have HK : Hid (j + 1 ≤ s.os.length) := hlt
          have HE : Hid ((scaN.map scaT ++ s.es.map eE) ++ (s.os.take (j + 1)).flatMap (objT s) = ((scaN.map scaT ++ s.es.map eE) ++ (s.os.take j).flatMap (objT s)) ++ objT s x) := by
            show _ = _
            rw [flat_step hx, List.append_assoc (scaN.map scaT ++ s.es.map eE)]
          obtain ⟨lo, lc, rfl⟩ := hrow.slice
          have hlen : ll.length ≤ 61 := by omega
          have hm := List.mem_of_getElem? hx
          have A1 := al1 wr (obO x.n a1 x.fs.length c1)
          have OF := gof_any ((HS.out.on hbq0).on A1) x a1 c1 ((hfs.on hbq).on A1) (SZ.out.on x hm) (SZ.out.fs x hm) (SZ.out.ft x hm)
          have s0 := fun o => cell_on (al1 wr o) q0
          have s1 := fun o => cell_on (al1 wr o) q1
          have HO : Hid ((objT s x).length = 6) := rfl
          obtain ⟨xn, xf⟩ := x
          simp only at f0 f1 A1 OF
          clear hx hlt hm e0 e1 hfs
          go_wp2_with (first
            | (go_at_call 28; (with_reducible refine OF.mono ?_); rintro e y1 ⟨v1, rfl, R1, b1⟩; obtain ⟨g1, c2, lp, rfl, hlp, hln, hF, hcs, h1c⟩ := def_news R1 (fun e => by have := congrArg List.length e; rw [HO.out] at this; cases this); rw [HO.out] at hln ⊢)
            | (at_builtin; refine wpList_append_own _ rfl (.tmp 40) (.tmp 43) 26 rfl W0.heap.size 35 ti _ 5 96 Tryz.underlying26 hti hy0 hy1 hy2 rfl (by decide) (.slice lo ll.length lc) ll.length (ll.flatMap defC) rfl ((RowO.on hrow A1).on b1) ⟨g1, 0, none⟩ 6 c2 (lp.flatMap defC) rfl hln hcs h1c (by unfold maxLen; omega) (by omega) (Nat.le_trans hzB2 (Nat.le_trans A1.size b1.size)) ?_; intro v8 w8 own8 gr8 hiff8)
            | fail)
          have G8 := gt_grown ((RowO.on hrow A1).on b1) gr8
          refine ⟨⟨_, j + 1, rfl, by simp, HK.out, ?_, ((hgq.trans (gt_of A1)).trans (gt_of b1)).trans G8⟩, ?_⟩
          · rw [HE.out]
            exact DfR.add (ll := ll) (lp := lp) HD.out (fun p hp => ((HI.out p hp).on A1).on b1) hlp (fun p hp => (hF p hp).base (Nat.le_trans hzB2 A1.size)) G8 own8 (by have e := congrArg List.length hlp; rw [List.length_map, HO.out] at e; rw [e])
          · have := HK.out
            simp [RowKit.intOf]
            omega
        · have l2 : decide (((j : Nat) : Int) < (s.os.length : Int)) = false := by simp; omega
          have l3 : decide (j < s.os.length) = false := by simp; omega
          have hje : j = s.os.length := by omega
          subst hje
          have hlen : ll.length ≤ 61 := by omega
          have HD2 : Hid (ll.map (·.1) = (scaN.map scaT ++ s.es.map eE) ++ s.os.flatMap (objT s)) := by show _ = _; have q := HD.out; rw [List.take_length] at q; exact q
          obtain ⟨lo, lc, rfl⟩ := hrow.slice
          have FI := gfilters_any (HS.out.on hbq0) SZ.out.en SZ.out.es
          have HO : Hid ((filT s).length = 4 + s.es.length) := by show _ = _; rw [filT_eq, List.length_append, List.length_map]; rfl
          clear hlt hj hdl HD
          go_wp2_with (first
            | (go_at_call 29; (with_reducible refine FI.mono ?_); rintro e y1 ⟨v1, rfl, R1, b1⟩; obtain ⟨g1, c2, lp, rfl, hlp, hln, hF, hcs, h1c⟩ := def_news R1 (fun e => by have q := congrArg List.length e; rw [HO.out, List.length_nil] at q; omega); rw [HO.out] at hln ⊢)
            | (at_builtin; refine wpList_append_own _ rfl (.tmp 46) (.tmp 48) 26 rfl W0.heap.size 35 ti _ 5 96 Tryz.underlying26 hti hy0 hy1 hy2 rfl (by decide) (.slice lo ll.length lc) ll.length (ll.flatMap defC) rfl (RowO.on hrow b1) ⟨g1, 0, none⟩ (4 + s.es.length) c2 (lp.flatMap defC) rfl hln hcs h1c (by unfold maxLen; omega) (by omega) (Nat.le_trans hzB2 b1.size) ?_; intro v8 w8 own8 gr8 hiff8; obtain ⟨o8, c8, rfl⟩ := own_slice own8)
            | fail)
          have G8 := gt_grown (RowO.on hrow b1) gr8
          have R8 : DfR w8 W0.heap.size (.slice o8 (ll.length + (4 + s.es.length)) c8) (((scaN.map scaT ++ s.es.map eE) ++ s.os.flatMap (objT s)) ++ filT s) := DfR.add (ll := ll) (lp := lp) HD2.out (fun p hp => (HI.out p hp).on b1) hlp (fun p hp => (hF p hp).base hzB2) G8 own8 (by have e := congrArg List.length hlp; rw [List.length_map, HO.out] at e; rw [e])
          have Gw : Hid (Gt W0.heap.size 35 W0 w8) := (hgq.trans (gt_of b1)).trans G8
          obtain ⟨l8, hl8, row8, in8⟩ := R8
          have hn8 : ll.length + (4 + s.es.length) = l8.length := by
            obtain ⟨_, _, e⟩ := row8.slice
            injection e
          have hl8n : l8.length ≤ 73 := by omega
          have D0 : Below W0.heap.size W0 w8 := Gw.out.below (Nat.le_refl _)
          have I8 : Hid (∀ p ∈ l8, DfO w8 W0.heap.size p) := in8
          have H8 : Hid (l8.map (·.1) = ((scaN.map scaT ++ s.es.map eE) ++ s.os.flatMap (objT s)) ++ filT s) := hl8
          generalize ll.length + (4 + s.es.length) = n8 at *
          subst hn8
          clear own8 gr8 hiff8 G8 hl8 in8 hcs h1c hF hln hlp R1 HD2 HI hrow FI hbq hbq0 hgq q0 q1
          have bs : Below w8.heap.size w8 w8.drew := bel_dr (Below.refl _ _)
          have XD : ∀ {X : World}, Below w8.heap.size w8 X → (fun w' => w'.cell? ⟨w.heap.size, 0, none⟩ = some (.slice a s.os.length c) ∧ w'.cell? ⟨w.heap.size, 1, none⟩ = some (.slice a' s.es.length c')) X := fun {X} d => by
            have e := (d.block _ (Nat.lt_of_lt_of_le LW.out D0.size)).trans ((D0.block _ LW.out).trans N0)
            exact ⟨(row2 e).1, (row2 e).2.1⟩
          have QA := fun {X : World} (d : Below w8.heap.size w8 X) => gquery_any ((HS.out.on D0).on d) SZ.out.on SZ.out.os
          have MA := fun {X : World} (d : Below w8.heap.size w8 X) => gmutation_any ((HS.out.on D0).on d) SZ.out.on SZ.out.os
          have al : ∀ {X : World} {o : Obj}, Below w8.heap.size w8 X → Below w8.heap.size w8 (X.alloc o) := fun p => p.alloc p.size _
          go_region_held3 (fun w' => w'.cell? ⟨w.heap.size, 0, none⟩ = some (.slice a s.os.length c) ∧ w'.cell? ⟨w.heap.size, 1, none⟩ = some (.slice a' s.es.length c')) (first | exact c10 | exact XD bs | exact XD (al bs)) ((first
            | (go_at_call 30; (with_reducible refine (QA bs).mono ?_); rintro e y2 ⟨vq, rfl, Oq, b2⟩; replace Oq := Oq.base bs.size; replace bs := bs.trans (b2.mono bs.size); clear b2; obtain ⟨pq, nq, mq, rfl⟩ := Oq.slc)
            | (go_at_call 31; (with_reducible refine (MA bs).mono ?_); rintro e y3 ⟨vm, rfl, Om, b3⟩; replace Om := Om.base bs.size; replace Oq := Oq.on b3; replace bs := bs.trans (b3.mono bs.size); clear b3; obtain ⟨pm, nm, mm, rfl⟩ := Om.slc)
            | (refine step_append_lies _ (by rfl) (.tmp 50) (.tmp 55) 26 (by rfl) W0.heap.size 35 ti _ 5 96 Tryz.underlying26 hti hy0 hy1 hy2 rfl (by decide) (.slice o8 l8.length c8) l8.length (l8.flatMap defC) (by rfl) ((RowO.on row8 bs).on (al1 _ _)) ⟨y3.heap.size, 0, none⟩ 2 2 [.string ⟨#[81, 117, 101, 114, 121]⟩, .int .i64 2, .slice none 0 0, .slice pq nq mq, .slice none 0 0, .string ⟨#[77, 117, 116, 97, 116, 105, 111, 110]⟩, .int .i64 2, .slice none 0 0, .slice pm nm mm, .slice none 0 0] (by rfl) rfl (World.news_of_block (heap_alloc_new y3 _)) (by intro u hu; simp at hu; rcases hu with rfl | rfl | rfl | rfl | rfl | rfl | rfl | rfl | rfl | rfl <;> rfl) (by decide) (by unfold maxLen; omega) (by omega) (Nat.le_trans D0.size (al bs).size) _ rfl ?_; intro g9 cp9 w9 own9 gr9 hor9 hlt9; have G9 := gt_grown ((RowO.on row8 bs).on (al1 y3 _)) gr9; have c10 : w9.cell? ⟨w.heap.size, 0, none⟩ = some (.slice a s.os.length c) ∧ w9.cell? ⟨w.heap.size, 1, none⟩ = some (.slice a' s.es.length c') := (have q := row2 (G9.block _ _ (((al bs).block _ (Nat.lt_of_lt_of_le LW.out D0.size)).trans ((D0.block _ LW.out).trans N0)) (Or.inl LW.out)); ⟨q.1, q.2.1⟩); have O9 : Hid (w9.ownsRow W0.heap.size 35 5 (.slice (some ⟨g9, 0, none⟩) (l8.length + 2) cp9) (l8.length + 2) (l8.flatMap defC ++ [.string ⟨#[81, 117, 101, 114, 121]⟩, .int .i64 2, .slice none 0 0, .slice pq nq mq, .slice none 0 0, .string ⟨#[77, 117, 116, 97, 116, 105, 111, 110]⟩, .int .i64 2, .slice none 0 0, .slice pm nm mm, .slice none 0 0])) := own9; clear own9 gr9 hor9 hlt9)))
          go_wp2
          have DF : DfR w9 W0.heap.size (.slice (some ⟨g9, 0, none⟩) (l8.length + 2) cp9) ((((scaN.map scaT ++ s.es.map eE) ++ s.os.flatMap (objT s)) ++ filT s) ++ [qryT s, mutT s]) := DfR.add (ll := l8) (lp := [(qryT s, .slice none 0 0, .slice pq nq mq, .slice none 0 0), (mutT s, .slice none 0 0, .slice pm nm mm, .slice none 0 0)]) H8.out (fun p hp => ((I8.out p hp).on bs).on (al1 _ _)) rfl (fun p hp => by
            simp only [List.mem_cons, List.not_mem_nil, or_false] at hp
            rcases hp with rfl | rfl
            · exact ⟨RowO.none, (Oq.base D0.size).on (al1 _ _), RowO.none⟩
            · exact ⟨RowO.none, (Om.base D0.size).on (al1 _ _), RowO.none⟩) G9 O9.out rfl
          have ED : (((scaN.map scaT ++ s.es.map eE) ++ s.os.flatMap (objT s)) ++ filT s) ++ [qryT s, mutT s] = defT s := by
            simp only [List.append_assoc]
            rfl
          rw [ED] at DF
          have B9 : Below W0.heap.size W0 w9 := (((Gw.out.trans (gt_of bs)).trans (gt_of (al1 _ _))).trans G9).below (Nat.le_refl _)
          exact bodyPost_ret (v := .tuple #[.slice (some ⟨g9, 0, none⟩) (l8.length + 2) cp9, .int .i64 0]) (by simp [results, Tryz.results9, go_sem]) rfl ⟨_, rfl, DF.base A0.size, A0.trans (B9.mono A0.size)⟩
end
end Go.Proofs.YtbccpkclfpeckaaGreatDoor
