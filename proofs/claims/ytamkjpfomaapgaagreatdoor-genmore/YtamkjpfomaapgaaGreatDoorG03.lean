/- The calls whose answers the document fixes. -/
import Derived.Test.YtamkjpfomaapgaaGreatDoorG06
import Derived.WalkSpells
import Derived.Test.YtamkjpfomaapgaaGreatDoorG05
import Derived.Test.YtamkjpfomaapgaaGreatDoorG01
namespace Go.Proofs.YtamkjpfomaapgaaGreatDoor
open Go Go.RowKit Go.Shelf
def fE (e : En) : Df := ⟨e.n ++ cFilter, 3, [], [⟨[101, 113], e.n, []⟩, ⟨[105, 110], e.n, wSome⟩], []⟩
def fil4 : List Df := [⟨intB ++ cFilter, 3, [], cmpT intB, []⟩, ⟨floB ++ cFilter, 3, [], cmpT floB, []⟩, ⟨strB ++ cFilter, 3, [], cmpT strB ++ [⟨[98, 101, 103, 105, 110, 115], strB, []⟩], []⟩, ⟨booB ++ cFilter, 3, [], [⟨[101, 113], booB, []⟩], []⟩]
theorem filT_eq (s : Sch) : filT s = fil4 ++ s.es.map fE := rfl
abbrev enO (n : Bs) (a : Option Addr) (k c : Nat) : Obj := .cells #[.string ⟨n.toArray⟩, .slice a k c] 59
theorem row16 {X : World} {B g : Nat} (hB : B ≤ g) (h : X.heap[g]? = some (.cells #[.string ⟨#[101, 113]⟩, .string ⟨#[66, 111, 111, 108, 101, 97, 110]⟩, .string ⟨#[]⟩] 39)) : InR X B (.slice (some ⟨g, 0, none⟩) 1 1) [⟨[101, 113], booB, []⟩] :=
  RowO.lit (fun _ => rfl) hB h rfl rfl (by decide)
theorem row36 {X : World} {xn : Bs} {B g : Nat} (hB : B ≤ g) (h : X.heap[g]? = some (.cells #[.string ⟨#[101, 113]⟩, .string ⟨xn.toArray⟩, .string ⟨#[]⟩, .string ⟨#[105, 110]⟩, .string ⟨xn.toArray⟩, .string ⟨#[33, 91]⟩] 39)) : InR X B (.slice (some ⟨g, 0, none⟩) 2 2) [⟨[101, 113], xn, []⟩, ⟨[105, 110], xn, wSome⟩] :=
  RowO.lit (fun _ => rfl) hB h rfl rfl (by decide)
abbrev o18 (v6 v8 v13 v16 : Value) : Obj := .cells #[.string ⟨#[73, 110, 116, 70, 105, 108, 116, 101, 114]⟩, .int .i64 3, .slice none 0 0, .slice none 0 0, v6, .string ⟨#[70, 108, 111, 97, 116, 70, 105, 108, 116, 101, 114]⟩, .int .i64 3, .slice none 0 0, .slice none 0 0, v8, .string ⟨#[83, 116, 114, 105, 110, 103, 70, 105, 108, 116, 101, 114]⟩, .int .i64 3, .slice none 0 0, .slice none 0 0, v13, .string ⟨#[66, 111, 111, 108, 101, 97, 110, 70, 105, 108, 116, 101, 114]⟩, .int .i64 3, .slice none 0 0, .slice none 0 0, v16] 35
theorem row18 {X : World} {B g : Nat} {v6 v8 v13 v16 : Value} (hB : B ≤ g) (h : X.heap[g]? = some (o18 v6 v8 v13 v16)) (I6 : InR X B v6 (cmpT intB)) (I8 : InR X B v8 (cmpT floB)) (I13 : InR X B v13 (cmpT strB ++ [⟨[98, 101, 103, 105, 110, 115], strB, []⟩])) (I16 : InR X B v16 [⟨[101, 113], booB, []⟩]) : DfR X B (.slice (some ⟨g, 0, none⟩) 4 4) fil4 := by
  refine ⟨[(⟨intB ++ cFilter, 3, [], cmpT intB, []⟩, .slice none 0 0, .slice none 0 0, v6), (⟨floB ++ cFilter, 3, [], cmpT floB, []⟩, .slice none 0 0, .slice none 0 0, v8), (⟨strB ++ cFilter, 3, [], cmpT strB ++ [⟨[98, 101, 103, 105, 110, 115], strB, []⟩], []⟩, .slice none 0 0, .slice none 0 0, v13), (⟨booB ++ cFilter, 3, [], [⟨[101, 113], booB, []⟩], []⟩, .slice none 0 0, .slice none 0 0, v16)], rfl, RowO.lit (fun _ => rfl) hB h rfl rfl (by decide), ?_⟩
  intro p hp
  simp only [List.mem_cons, List.not_mem_nil, or_false] at hp
  rcases hp with rfl | rfl | rfl | rfl
  · exact ⟨RowO.none, OtR.none, I6⟩
  · exact ⟨RowO.none, OtR.none, I8⟩
  · exact ⟨RowO.none, OtR.none, I13⟩
  · exact ⟨RowO.none, OtR.none, I16⟩
/-- An enum of a schema, cell by cell. -/
theorem en_cellsG {w : World} {v : Value} {es : List En} {i : Nat} {x : En} (h : EnsAt w v es) (hx : es[i]? = some x) : ∃ b o c a1 c1, v = .slice (some ⟨b, o, none⟩) es.length c ∧ b < w.heap.size ∧ es.length ≤ c ∧ w.cell? ⟨b, o + i * 2, none⟩ = some (.string ⟨x.n.toArray⟩) ∧ w.cell? ⟨b, o + i * 2 + 1, none⟩ = some (.slice a1 x.ws.length c1) ∧ WdsAt w (.slice a1 x.ws.length c1) x.ws := by
  obtain ⟨a, c, rfl, hc, _, hr⟩ := h
  have hi := (List.getElem?_eq_some_iff.1 hx).1
  obtain ⟨b, o, rfl, hb, hH⟩ := hr (by omega)
  obtain ⟨e0, fv, e1, hf⟩ := hH i hi x hx
  obtain ⟨a1, c1, rfl, _, _⟩ := hf.slice
  exact ⟨b, o, c, a1, c1, rfl, hb, hc, e0, e1, hf⟩
section
variable {w : World} {ov ev : Value} {s : Sch}
set_option maxRecDepth 100000 in
set_option maxHeartbeats 20000000 in
theorem gfilters_any (h : SchAt w ov ev s) (hn : ∀ o ∈ s.es, o.n.length ≤ 1000) (hl : s.es.length ≤ 8) : Calls Tryz.prog 29 #[.agg #[ov, ev]] w fun e w' => ∃ v, e = .returned v ∧ DfR w' w.heap.size v (filT s) ∧ Below w.heap.size w w' := by
  obtain ⟨ti, hti, hy0, hy1, hy2⟩ := info_parts Tryz.infoDef
  obtain ⟨tj, htj, hz0, hz1, hz2⟩ := info_parts Tryz.infoIn
  have hes := h.es
  obtain ⟨a, c, rfl, _, _⟩ := h.os.slice
  obtain ⟨a', c', rfl, _, _⟩ := h.es.slice
  obtain ⟨W0, hW0⟩ : ∃ W0, W0 = w.alloc (schO (.slice a s.os.length c) (.slice a' s.es.length c')) := ⟨_, rfl⟩
  have A0 : Below w.heap.size w W0 := by rw [hW0]; exact al1 w _
  have N0 : W0.heap[w.heap.size]? = some (schO (.slice a s.os.length c) (.slice a' s.es.length c')) := by rw [hW0]; exact heap_alloc_new w _
  have HW : Hid (W0 = w.alloc (schO (.slice a s.os.length c) (.slice a' s.es.length c'))) := hW0
  have nx : ∀ {X Y : World}, Below W0.heap.size W0 X → Below X.heap.size X Y → Below W0.heap.size W0 Y := fun p q => p.trans (q.mono p.size)
  have al : ∀ {X : World} {o : Obj}, Below W0.heap.size W0 X → Below W0.heap.size W0 (X.alloc o) := fun p => p.alloc p.size _
  have D : Below W0.heap.size W0 (w.alloc (schO (.slice a s.os.length c) (.slice a' s.es.length c'))) := by rw [hW0]; exact Below.refl _ _
  have CC : ∀ {X : World}, Below W0.heap.size W0 X → X.cell? ⟨w.heap.size, 1, none⟩ = some (.slice a' s.es.length c') := fun d => (row2 ((d.block _ (lt_of_block N0)).trans N0)).2.1
  clear hW0 h
  go_enter Tryz.func29, Tryz.ntmps29
  go_wp2_with (first
    | (go_at_call 72; (first
        | ((with_reducible refine (gcompared_any intB _).mono ?_); rintro e y6 ⟨v6, rfl, I6, b6⟩; replace I6 := RowO.base I6 D.size; replace D := nx D b6; clear b6; obtain ⟨p6, n6, m6, rfl⟩ := row_slc I6)
        | ((with_reducible refine (gcompared_any floB _).mono ?_); rintro e y8 ⟨v8, rfl, I8, b8⟩; replace I6 := RowO.on I6 b8; replace I8 := RowO.base I8 D.size; replace D := nx D b8; clear b8; obtain ⟨p8, n8, m8, rfl⟩ := row_slc I8)
        | ((with_reducible refine (gcompared_any strB _).mono ?_); rintro e yA ⟨vA, rfl, IA, bA⟩; obtain ⟨pA, mA, rfl⟩ : ∃ p m, vA = .slice p 6 m := RowO.slice IA)))
    | (go_at_call 66; (first
        | ((with_reducible refine (gin_any _ ⟨#[98, 101, 103, 105, 110, 115]⟩ _ _).mono ?_); rintro e yB ⟨rfl, bB⟩; replace IA := RowO.on IA bB; replace bA := bA.trans (bB.mono bA.size); clear bB)
        | ((with_reducible refine (gin_any _ ⟨#[101, 113]⟩ _ _).mono ?_); rintro e yF ⟨rfl, bF⟩; replace I6 := RowO.on I6 bF; replace I8 := RowO.on I8 bF; replace I13 := RowO.on I13 bF; replace D := nx D bF; clear bF)))
    | (go_at_call 65; (first
        | ((with_reducible refine (gins_any _ ⟨#[73, 110, 116, 70, 105, 108, 116, 101, 114]⟩ _ _ _).mono ?_); rintro e y7 ⟨rfl, b7⟩; replace I6 := RowO.on I6 b7; replace D := nx D b7; clear b7)
        | ((with_reducible refine (gins_any _ ⟨#[70, 108, 111, 97, 116, 70, 105, 108, 116, 101, 114]⟩ _ _ _).mono ?_); rintro e y9 ⟨rfl, b9⟩; replace I6 := RowO.on I6 b9; replace I8 := RowO.on I8 b9; replace D := nx D b9; clear b9)
        | ((with_reducible refine (gins_any _ ⟨#[83, 116, 114, 105, 110, 103, 70, 105, 108, 116, 101, 114]⟩ _ _ _).mono ?_); rintro e yE ⟨rfl, bE⟩; replace I6 := RowO.on I6 bE; replace I8 := RowO.on I8 bE; replace I13 := RowO.on I13 bE; replace D := nx D bE; clear bE)
        | ((with_reducible refine (gins_any _ ⟨#[66, 111, 111, 108, 101, 97, 110, 70, 105, 108, 116, 101, 114]⟩ _ _ _).mono ?_); rintro e yH ⟨rfl, bH⟩; have I16 := row16 D.size (new_on bH); replace I6 := (RowO.on I6 (al1 _ _)).on bH; replace I8 := (RowO.on I8 (al1 _ _)).on bH; replace I13 := (RowO.on I13 (al1 _ _)).on bH; replace D := nx (al D) bH; clear bH; have r18 := CC (al (o := o18 (.slice p6 n6 m6) (.slice p8 n8 m8) (.slice (some ⟨gD, 0, none⟩) 7 cpD) (.slice (some ⟨yF.heap.size, 0, none⟩) 1 1)) D))))
    | (at_builtin; refine wpList_append_lies _ rfl (.tmp 10) (.tmp 12) 33 rfl y9.heap.size 39 tj _ 3 48 Tryz.underlying33 htj hz0 hz1 hz2 rfl (by decide) (.slice pA 6 mA) 6 ((cmpT strB).flatMap innC) rfl ((RowO.on IA (al1 yB _)).own rfl) ⟨yB.heap.size, 0, none⟩ 1 1 [.string ⟨#[98, 101, 103, 105, 110, 115]⟩, .string ⟨#[83, 116, 114, 105, 110, 103]⟩, .string ⟨#[]⟩] rfl rfl (World.news_of_block (heap_alloc_new yB _)) (by intro u hu; simp at hu; rcases hu with rfl | rfl | rfl <;> rfl) (by decide) (by decide) (by decide) (Nat.le_trans bA.size (al1 yB _).size) _ rfl ?_; intro gD cpD wD ownD grD horD hltD; have bD : Below y9.heap.size y9 wD := (bA.alloc bA.size _).trans ((gt_grown (RowO.on IA (al1 yB _)) grD).below (Nat.le_trans bA.size (al1 yB _).size)); have I13 : InR wD y9.heap.size (.slice (some ⟨gD, 0, none⟩) 7 cpD) (cmpT strB ++ [⟨[98, 101, 103, 105, 110, 115], strB, []⟩]) := RowO.pushL ownD rfl rfl; replace I13 := RowO.base I13 D.size; replace I6 := RowO.on I6 bD; replace I8 := RowO.on I8 bD; replace D := nx D bD; clear bD bA ownD grD horD hltD IA)
    | fail)
  have DL := al (o := o18 (.slice p6 n6 m6) (.slice p8 n8 m8) (.slice (some ⟨gD, 0, none⟩) 7 cpD) (.slice (some ⟨yF.heap.size, 0, none⟩) 1 1)) D
  obtain ⟨lp0, hlp0, R0, F0⟩ := row18 D.size (heap_alloc_new yH (o18 (.slice p6 n6 m6) (.slice p8 n8 m8) (.slice (some ⟨gD, 0, none⟩) 7 cpD) (.slice (some ⟨yF.heap.size, 0, none⟩) 1 1))) (RowO.on I6 (al1 _ _)) (RowO.on I8 (al1 _ _)) (RowO.on I13 (al1 _ _)) (RowO.on I16 (al1 _ _))
  generalize hWL : yH.alloc (o18 (.slice p6 n6 m6) (.slice p8 n8 m8) (.slice (some ⟨gD, 0, none⟩) 7 cpD) (.slice (some ⟨yF.heap.size, 0, none⟩) 1 1)) = WL at *
  generalize hgH : yH.heap.size = gH at *
  clear I6 I8 I13 I16 hWL hgH D
  go_loopw [3, 22] (fun lz iv wr => ∃ (lv : Value) (j : Nat) (ll : List (Df × Value × Value × Value)), lv = lz ∧ iv = .int .i64 (j : Int) ∧ j ≤ s.es.length ∧ RowO wr W0.heap.size 35 5 defC lv ll ∧ ll.map (·.1) = fil4 ++ (s.es.take j).map fE ∧ (∀ p ∈ ll, DfO wr W0.heap.size p) ∧ Gt W0.heap.size 35 WL wr) (fun _ iv _ => s.es.length - (RowKit.intOf iv).toNat)
  case atStart => exact ⟨_, 0, lp0, rfl, rfl, Nat.zero_le _, R0, by simp [hlp0], F0, Gt.refl _ _ _⟩
  case round =>
    obtain ⟨lv, j, ll, rfl, rfl, hj, hrow, hdn, hin, hg⟩ := hrel
    have hdl : ll.length ≤ 4 + j := by
      have e := congrArg List.length hdn
      rw [List.length_map, List.length_append, List.length_map, List.length_take] at e
      have : fil4.length = 4 := rfl
      omega
    have hbr0 : Below W0.heap.size W0 wr := DL.trans (hg.below DL.size)
    have hbr : Below w.heap.size w wr := A0.trans (hbr0.mono A0.size)
    have HI : Hid (∀ p ∈ ll, DfO wr W0.heap.size p) := hin
    by_cases hlt : j < s.es.length
    · obtain ⟨x, hx⟩ : ∃ x, s.es[j]? = some x := ⟨_, List.getElem?_eq_getElem hlt⟩
      have hxn := hn x (List.mem_of_getElem? hx)
      obtain ⟨b, o, c0, a1, c1, hv, hbl, _, e0, e1, hfs⟩ := en_cellsG hes hx
      cases hv
      have f0 := cell_on hbr e0
      have f1 := cell_on hbr e1
      have l1 : ((j : Nat) : Int) < (s.es.length : Int) := by omega
      have hjN : ((j : Nat) : Int).toNat = j := by omega
      have HK : Hid (j + 1 ≤ s.es.length) := hlt
      have HD : Hid (ll.map (·.1) ++ [fE x] = fil4 ++ (s.es.take (j + 1)).map fE) := by
        show _ = _
        rw [take_step hx, hdn, List.map_append, List.append_assoc]
        rfl
      obtain ⟨lo, lc, rfl⟩ := hrow.slice
      have hlen : ll.length ≤ 12 := by omega
      have hzB := hbr0.size
      obtain ⟨xn, xf⟩ := x
      simp only at f0 f1 hxn
      clear hx hlt hdn e0 e1 hin hfs hn F0 R0 nx al CC
      have h6 : ¬ (9223372036854775807 < xn.length + 6) := by omega
      have HG : Hid (Gt W0.heap.size 35 WL wr) := hg
      obtain ⟨W1, hW1⟩ : ∃ W1, W1 = wr.alloc (enO xn a1 xf.length c1) := ⟨_, rfl⟩
      have N9 : W1.heap[wr.heap.size]? = some (enO xn a1 xf.length c1) := by rw [hW1]; exact heap_alloc_new wr _
      have A1 : Below wr.heap.size wr W1 := by rw [hW1]; exact al1 wr _
      have c9 := (row2 N9).1
      have nx : ∀ {X Y : World}, Below W1.heap.size W1 X → Below X.heap.size X Y → Below W1.heap.size W1 Y := fun p q => p.trans (q.mono p.size)
      have al : ∀ {X : World} {o : Obj}, Below W1.heap.size W1 X → Below W1.heap.size W1 (X.alloc o) := fun p => p.alloc p.size _
      have D : Below W1.heap.size W1 W1.drew := bel_dr (Below.refl _ _)
      go_wp2
      rw [← hW1]
      clear hW1
      go_region_held3 (fun w' => w'.cell? ⟨wr.heap.size, 0, none⟩ = some (.string ⟨xn.toArray⟩)) (first | exact c10 | exact cell_on D c9 | exact cell_on (al D) c9) ((first
        | (go_at_call 66; (with_reducible refine (gin_any _ _ _ _).mono ?_); rintro e y1 ⟨rfl, b1⟩; replace D := nx D b1; clear b1)
        | (go_at_call 65; (with_reducible refine (gins_any _ _ _ _ _).mono ?_); rintro e y2 ⟨rfl, b2⟩; have I1 := row36 D.size (new_on b2); replace D := nx (al D) b2; clear b2)
        | (refine step_append_lies _ (by rfl) (.tmp 26) (.tmp 38) 26 (by rfl) W0.heap.size 35 ti _ 5 96 Tryz.underlying26 hti hy0 hy1 hy2 rfl (by decide) (.slice lo ll.length lc) ll.length (ll.flatMap defC) (by rfl) ((RowO.on (RowO.on hrow A1) D).on (al1 _ _)) ⟨y2.heap.size, 0, none⟩ 1 1 [.string (⟨xn.toArray⟩ ++ ⟨#[70, 105, 108, 116, 101, 114]⟩), .int .i64 3, .slice none 0 0, .slice none 0 0, .slice (some ⟨y1.heap.size, 0, none⟩) 2 2] (by rfl) rfl (World.news_of_block (heap_alloc_new y2 _)) (by intro u hu; simp at hu; rcases hu with rfl | rfl | rfl | rfl <;> rfl) (by decide) (by unfold maxLen; omega) (by omega) (Nat.le_trans hzB (Nat.le_trans A1.size (al D).size)) _ rfl ?_; intro g8 cp8 w8 own8 gr8 hor8 hlt8; have G8 := gt_grown ((RowO.on (RowO.on hrow A1) D).on (al1 y2 _)) gr8; have c10 := (row2 (G8.block _ _ (((al D).block _ (lt_of_block N9)).trans N9) (Or.inr (by simp)))).1; have O8 : Hid (w8.ownsRow W0.heap.size 35 5 (.slice (some ⟨g8, 0, none⟩) (ll.length + 1) cp8) (ll.length + 1) (ll.flatMap defC ++ [.string (⟨xn.toArray⟩ ++ ⟨#[70, 105, 108, 116, 101, 114]⟩), .int .i64 3, .slice none 0 0, .slice none 0 0, .slice (some ⟨y1.heap.size, 0, none⟩) 2 2])) := own8; clear own8 gr8 hor8 hlt8)))
      go_wp2
      have hz1 : W0.heap.size ≤ W1.heap.size := Nat.le_trans hzB A1.size
      refine ⟨⟨_, j + 1, ll ++ [(fE ⟨xn, xf⟩, .slice none 0 0, .slice none 0 0, .slice (some ⟨y1.heap.size, 0, none⟩) 2 2)], rfl, by simp, HK.out, RowO.pushL O8.out rfl ?_, by rw [List.map_append]; exact HD.out, ?_, (((HG.out.trans (gt_of A1)).trans (gt_of D)).trans (gt_of (al1 _ _))).trans G8⟩, ?_⟩
      · show [Value.string ⟨(xn ++ cFilter).toArray⟩, .int .i64 3, .slice none 0 0, .slice none 0 0, .slice (some ⟨y1.heap.size, 0, none⟩) 2 2] = _
        rw [← bytes_add]
      · intro p hp
        rcases List.mem_append.1 hp with hp | hp
        · exact ((((HI.out p hp).on A1).on D).on (al1 _ _)).gt G8
        · rw [List.mem_singleton] at hp
          subst hp
          exact ⟨RowO.none, OtR.none, ((RowO.base I1 hz1).on (al1 _ _)).gt G8 (by decide)⟩
      · have := HK.out
        simp [RowKit.intOf]
        omega
    · have l2 : decide (((j : Nat) : Int) < (s.es.length : Int)) = false := by simp; omega
      have l3 : decide (j < s.es.length) = false := by simp; omega
      have hje : j = s.es.length := by omega
      have HS : Hid (ll.map (·.1) = filT s) := by
        show _ = _
        rw [hdn, hje, List.take_length, filT_eq]
      obtain ⟨p9, n9, m9, rfl⟩ := row_slc hrow
      clear hje hlt hdn hdl hj hin
      go_wp2
      exact bodyPost_ret (v := .slice p9 n9 m9) (by simp [results, Tryz.results29, go_sem]) rfl ⟨_, rfl, ⟨ll, HS.out, RowO.base hrow A0.size, fun p hp => (HI.out p hp).base A0.size⟩, hbr⟩
end
end Go.Proofs.YtamkjpfomaapgaaGreatDoor
namespace Go.Proofs.YtamkjpfomaapgaaGreatDoor
open Go Go.RowKit Go.Shelf
def InAt (w : World) (x : Inn) (b o : Nat) : Prop := w.cell? ⟨b, o, none⟩ = some (.string ⟨x.n.toArray⟩) ∧ w.cell? ⟨b, o + 1, none⟩ = some (.string ⟨x.t.toArray⟩) ∧ w.cell? ⟨b, o + 2, none⟩ = some (.string ⟨x.w.toArray⟩)
def InsAt (w : World) (v : Value) (l : List Inn) : Prop := Sl w v l.length 3 fun i b o => ∀ x, l[i]? = some x → InAt w x b o
set_option maxRecDepth 100000 in
set_option maxHeartbeats 4000000 in
theorem clone_str {w : World} {v : Value} {l : List Bs} (h : WdsAt w v l) (hl : l.length * 16 ≤ 140737488355328) : Calls Tryz.prog 27 #[v] w fun e w' => ∃ v', e = .returned v' ∧ WdR w' w.heap.size v' l ∧ Below w.heap.size w w' := by
  obtain ⟨ti, hti, hy0, hy1, hy2⟩ := info_parts Tryz.infoStr
  have qT : ∀ (w : World) (a : Option Addr) (n c : Nat), (binOp .eql 31 (.slice a n c) (.slice none 0 0)).run Tryz.prog w = .ok (.bool a.isNone) w := fun w a n c => Lib.run_eql_slice_nil w _ _ a n c 0 0 Tryz.underlying31
  obtain ⟨ad, c, rfl, hc, h47, hr⟩ := h
  cases ad with
  | none =>
    have h0 : l = [] := by
      by_cases hp : 0 < l.length
      · obtain ⟨_, _, e, _⟩ := hr hp
        cases e
      · exact List.length_eq_zero_iff.1 (by omega)
    subst h0
    go_enter Tryz.func27, Tryz.ntmps27
    go_wp2
    exact bodyPost_ret (v := .slice none 0 0) (by simp [results, Tryz.results27, go_sem]) rfl ⟨_, rfl, RowO.none, Below.refl _ _⟩
  | some ad =>
    have hnews : ∀ {W : World}, Below w.heap.size w W → ∀ (j : Nat) (u : Value), (l.flatMap wrdC)[j]? = some u → W.cell? (ad.add j) = some u := by
      intro W hW j u hj
      have hjl := (List.getElem?_eq_some_iff.1 hj).1
      rw [flat_len (f := wrdC) (sz := 1) (fun _ => rfl)] at hjl
      have hp : 0 < l.length := by omega
      obtain ⟨b, o, e, hb, hH⟩ := hr hp
      cases e
      rw [add_at]
      obtain ⟨i, r, hi, hrr⟩ : ∃ i r, j = i * 1 + r ∧ r < 1 := ⟨j / 1, j % 1, by omega, by omega⟩
      obtain ⟨x, hx⟩ : ∃ x, l[i]? = some x := ⟨_, List.getElem?_eq_getElem (by omega)⟩
      rw [hi, flat_at (f := wrdC) (sz := 1) (fun _ => rfl) l i x hx r hrr] at hj
      have q := hH i (by omega) x hx
      rw [hi, ← Nat.add_assoc]
      have r0 : r = 0 := by omega
      subst r0
      cases hj
      exact cell_on hW q
    have h1 : ∀ u ∈ l.flatMap wrdC, u.oneCell' = true := by
      intro u hu
      obtain ⟨x, _, hu⟩ := List.mem_flatMap.1 hu
      simp at hu
      rcases hu with rfl <;> rfl
    have hfl : (l.flatMap wrdC).length = l.length * 1 := flat_len (f := wrdC) (fun _ => rfl) l
    have hO : ∀ (X : World), (w.alloc (.cells #[] 9)).ownsRow w.heap.size 9 1 (.slice (some ⟨w.heap.size, 0, none⟩) 0 0) 0 [] := fun _ => ⟨rfl, Or.inr ⟨w.heap.size, 0, #[], rfl, Nat.le_refl _, heap_alloc_new w _, Nat.le_refl _, Nat.zero_le _, rfl, rfl⟩⟩
    generalize hN : l.flatMap wrdC = news at *
    have HN : Hid (l.flatMap wrdC = news) := hN
    clear hN
    go_enter Tryz.func27, Tryz.ntmps27
    go_wp2_with (first
      | (at_builtin; refine wpList_append_own _ rfl (.tmp 5) (.tmp 6) 31 rfl w.heap.size 9 ti _ 1 16 Tryz.underlying31 hti hy0 hy1 hy2 rfl (by decide) (.slice (some ⟨w.heap.size, 0, none⟩) 0 0) 0 [] rfl (hO w) ad l.length c news rfl hfl (hnews (al1 w _)) h1 (by unfold maxLen; omega) (by omega) (al1 w _).size ?_; intro v8 w8 own8 gr8 hiff8)
      | fail)
    have b8 : Below w.heap.size w w8 := (al1 w _).trans ((gt_grown (hO w) gr8).below (al1 w _).size)
    have R8 : WdR w8 w.heap.size v8 l := by
      have q := own8
      rw [Nat.zero_add, List.nil_append, ← HN.out] at q
      exact q
    exact bodyPost_ret (v := v8) (by simp [results, Tryz.results27, go_sem]) rfl ⟨_, rfl, R8, b8⟩
set_option maxRecDepth 100000 in
set_option maxHeartbeats 4000000 in
theorem clone_in {w : World} {v : Value} {l : List Inn} (h : InsAt w v l) (hl : l.length * 48 ≤ 140737488355328) : Calls Tryz.prog 35 #[v] w fun e w' => ∃ v', e = .returned v' ∧ InR w' w.heap.size v' l ∧ Below w.heap.size w w' := by
  obtain ⟨ti, hti, hy0, hy1, hy2⟩ := info_parts Tryz.infoIn
  have qT : ∀ (w : World) (a : Option Addr) (n c : Nat), (binOp .eql 33 (.slice a n c) (.slice none 0 0)).run Tryz.prog w = .ok (.bool a.isNone) w := fun w a n c => Lib.run_eql_slice_nil w _ _ a n c 0 0 Tryz.underlying33
  obtain ⟨ad, c, rfl, hc, h47, hr⟩ := h
  cases ad with
  | none =>
    have h0 : l = [] := by
      by_cases hp : 0 < l.length
      · obtain ⟨_, _, e, _⟩ := hr hp
        cases e
      · exact List.length_eq_zero_iff.1 (by omega)
    subst h0
    go_enter Tryz.func35, Tryz.ntmps35
    go_wp2
    exact bodyPost_ret (v := .slice none 0 0) (by simp [results, Tryz.results35, go_sem]) rfl ⟨_, rfl, RowO.none, Below.refl _ _⟩
  | some ad =>
    have hnews : ∀ {W : World}, Below w.heap.size w W → ∀ (j : Nat) (u : Value), (l.flatMap innC)[j]? = some u → W.cell? (ad.add j) = some u := by
      intro W hW j u hj
      have hjl := (List.getElem?_eq_some_iff.1 hj).1
      rw [flat_len (f := innC) (sz := 3) (fun _ => rfl)] at hjl
      have hp : 0 < l.length := by omega
      obtain ⟨b, o, e, hb, hH⟩ := hr hp
      cases e
      rw [add_at]
      obtain ⟨i, r, hi, hrr⟩ : ∃ i r, j = i * 3 + r ∧ r < 3 := ⟨j / 3, j % 3, by omega, by omega⟩
      obtain ⟨x, hx⟩ : ∃ x, l[i]? = some x := ⟨_, List.getElem?_eq_getElem (by omega)⟩
      rw [hi, flat_at (f := innC) (sz := 3) (fun _ => rfl) l i x hx r hrr] at hj
      have q := hH i (by omega) x hx
      rw [hi, ← Nat.add_assoc]
      rcases (show r = 0 ∨ r = 1 ∨ r = 2 by omega) with rfl | rfl | rfl
      · cases hj
        exact cell_on hW q.1
      · cases hj
        exact cell_on hW q.2.1
      · cases hj
        exact cell_on hW q.2.2
    have h1 : ∀ u ∈ l.flatMap innC, u.oneCell' = true := by
      intro u hu
      obtain ⟨x, _, hu⟩ := List.mem_flatMap.1 hu
      simp at hu
      rcases hu with rfl | rfl | rfl <;> rfl
    have hfl : (l.flatMap innC).length = l.length * 3 := flat_len (f := innC) (fun _ => rfl) l
    have hO : ∀ (X : World), (w.alloc (.cells #[] 39)).ownsRow w.heap.size 39 3 (.slice (some ⟨w.heap.size, 0, none⟩) 0 0) 0 [] := fun _ => ⟨rfl, Or.inr ⟨w.heap.size, 0, #[], rfl, Nat.le_refl _, heap_alloc_new w _, Nat.le_refl _, Nat.zero_le _, rfl, rfl⟩⟩
    generalize hN : l.flatMap innC = news at *
    have HN : Hid (l.flatMap innC = news) := hN
    clear hN
    go_enter Tryz.func35, Tryz.ntmps35
    go_wp2_with (first
      | (at_builtin; refine wpList_append_own _ rfl (.tmp 5) (.tmp 6) 33 rfl w.heap.size 39 ti _ 3 48 Tryz.underlying33 hti hy0 hy1 hy2 rfl (by decide) (.slice (some ⟨w.heap.size, 0, none⟩) 0 0) 0 [] rfl (hO w) ad l.length c news rfl hfl (hnews (al1 w _)) h1 (by unfold maxLen; omega) (by omega) (al1 w _).size ?_; intro v8 w8 own8 gr8 hiff8)
      | fail)
    have b8 : Below w.heap.size w w8 := (al1 w _).trans ((gt_grown (hO w) gr8).below (al1 w _).size)
    have R8 : InR w8 w.heap.size v8 l := by
      have q := own8
      rw [Nat.zero_add, List.nil_append, ← HN.out] at q
      exact q
    exact bodyPost_ret (v := v8) (by simp [results, Tryz.results35, go_sem]) rfl ⟨_, rfl, R8, b8⟩
end Go.Proofs.YtamkjpfomaapgaaGreatDoor
namespace Go.Proofs.YtamkjpfomaapgaaGreatDoor
open Go Go.RowKit Go.Shelf
/-- How many there are, at most. -/
structure Szs (s : Sch) : Prop where
  os : s.os.length ≤ 8
  es : s.es.length ≤ 8
  on : ∀ o ∈ s.os, o.n.length ≤ 1000
  en : ∀ e ∈ s.es, e.n.length ≤ 1000
  fs : ∀ o ∈ s.os, o.fs.length ≤ 100
  ws : ∀ e ∈ s.es, e.ws.length * 16 ≤ 140737488355328
  ft : ∀ o ∈ s.os, ∀ f ∈ o.fs, f.t.length ≤ 1000
theorem frt_len {x : Bs} (h : frtS x = true) : x.length ≤ 1000 := by
  unfold frtS shoS at h
  simp only [Bool.and_eq_true, decide_eq_true_eq] at h
  omega
theorem sca_len {x : Bs} (h : scaS x = true) : x.length ≤ 1000 := by
  unfold scaS at h
  simp only [Bool.or_eq_true, beq_iff_eq] at h
  rcases h with ((rfl | rfl) | rfl) | rfl <;> decide
theorem szs {s : Sch} (h : OkD s) : Szs s := by
  obtain ⟨⟨_, h1⟩, h2, h3, h4⟩ := man_iff.1 h.m
  refine ⟨h1, h2, fun o ho => frt_len (h.no o ho).1, fun e he => frt_len (h.ne e he).1, fun o ho => by have := (h3 o ho).2; omega, fun e he => by have := (h4 e he).2; omega, fun o ho f hf => ?_⟩
  rcases fld_ways h ho hf with ⟨_, _, q | ⟨e, he, q⟩⟩ | ⟨_, _, p, hp, q⟩
  · exact sca_len q
  · rw [← q]
    exact frt_len (h.ne e he).1
  · rw [← q]
    exact frt_len (h.no p hp).1
def eE (e : En) : Df := ⟨e.n, 1, e.ws, [], []⟩
theorem def_one {w : World} {B : Nat} {lp : List (Df × Value × Value × Value)} (h : ∀ p ∈ lp, DfO w B p) : ∀ u ∈ lp.flatMap defC, u.oneCell' = true := by
  intro u hu
  obtain ⟨p, hp, hu⟩ := List.mem_flatMap.1 hu
  obtain ⟨h1, h2, h3⟩ := h p hp
  obtain ⟨_, _, _, e1⟩ := row_slc h1
  obtain ⟨_, _, _, e2⟩ := h2.slc
  obtain ⟨_, _, _, e3⟩ := row_slc h3
  simp only [List.mem_cons, List.not_mem_nil, or_false] at hu
  rcases hu with rfl | rfl | rfl | rfl | rfl
  · rfl
  · rfl
  · rw [e1]; rfl
  · rw [e2]; rfl
  · rw [e3]; rfl
/-- A row of definitions, as an append reads it. -/
theorem def_news {w : World} {B : Nat} {v : Value} {l : List Df} (h : DfR w B v l) (hl : l ≠ []) : ∃ (g c : Nat) (lp : List (Df × Value × Value × Value)), v = .slice (some ⟨g, 0, none⟩) l.length c ∧ lp.map (·.1) = l ∧ (lp.flatMap defC).length = l.length * 5 ∧ (∀ p ∈ lp, DfO w B p) ∧ (∀ j u, (lp.flatMap defC)[j]? = some u → w.cell? ((⟨g, 0, none⟩ : Addr).add j) = some u) ∧ ∀ u ∈ lp.flatMap defC, u.oneCell' = true := by
  obtain ⟨lp, rfl, R, F⟩ := h
  obtain ⟨g, c, e, _, _, _, _, hc⟩ := R.cells (fun e => hl (by rw [e]; rfl))
  refine ⟨g, c, lp, by rw [e, List.length_map], rfl, by rw [List.length_map]; exact flat_len (f := defC) (sz := 5) (fun _ => rfl) lp, F, fun j u hj => ?_, def_one F⟩
  rw [add_at, Nat.zero_add]
  exact hc j u hj
theorem DfR.add {w w' : World} {B n : Nat} {v' : Value} {l m : List Df} {ll lp : List (Df × Value × Value × Value)} (h1 : ll.map (·.1) = l) (F1 : ∀ p ∈ ll, DfO w B p) (h2 : lp.map (·.1) = m) (F2 : ∀ p ∈ lp, DfO w B p) (G : Gt B 35 w w') (own : w'.ownsRow B 35 5 v' n (ll.flatMap defC ++ lp.flatMap defC)) (hn : n = ll.length + lp.length) : DfR w' B v' (l ++ m) := by
  refine ⟨ll ++ lp, by rw [List.map_append, h1, h2], RowO.pushL own hn rfl, fun p hp => ?_⟩
  rcases List.mem_append.1 hp with hp | hp
  · exact (F1 p hp).gt G
  · exact (F2 p hp).gt G
section
variable {w : World} {ov ev : Value} {s : Sch}
set_option maxRecDepth 100000 in
set_option maxHeartbeats 4000000 in
theorem gtypes_no (h : SchAt w ov ev s) (gl : Gl w) (hc : chkS s ≠ 0) : Calls Tryz.prog 9 #[.agg #[ov, ev]] w fun e w' => e = .returned (.tuple #[.slice none 0 0, .int .i64 (chkS s)]) ∧ Below w.heap.size w w' := by
  obtain ⟨a, c, rfl, _, _⟩ := h.os.slice
  obtain ⟨a', c', rfl, _, _⟩ := h.es.slice
  have A0 := al1 w (schO (.slice a s.os.length c) (.slice a' s.es.length c'))
  have CK := hcheck_any (h.on A0) (gl.below A0 (Nat.le_refl _))
  generalize chkS s = k at *
  clear h gl
  go_enter Tryz.func9, Tryz.ntmps9
  go_wp2_with (first
    | (go_at_call 17; (with_reducible refine CK.mono ?_); rintro e x1 ⟨rfl, b1⟩)
    | fail)
  exact bodyPost_ret (v := .tuple #[.slice none 0 0, .int .i64 k]) (by simp [results, Tryz.results9, go_sem]) rfl ⟨rfl, A0.trans (b1.mono A0.size)⟩
set_option maxRecDepth 100000 in
set_option maxHeartbeats 20000000 in
theorem gtypes_ok (h : SchAt w ov ev s) (gl : Gl w) (hc : chkS s = 0) : Calls Tryz.prog 9 #[.agg #[ov, ev]] w fun e w' => ∃ v, e = .returned (.tuple #[v, .int .i64 0]) ∧ DfR w' w.heap.size v (defT s) ∧ Below w.heap.size w w' := by
  have SZ : Hid (Szs s) := szs (chk_ok.1 hc)
  have z1 := SZ.out.os
  have z2 := SZ.out.es
  obtain ⟨ti, hti, hy0, hy1, hy2⟩ := info_parts Tryz.infoDef
  have hos := h.os
  have hes := h.es
  obtain ⟨a, c, rfl, _, _⟩ := h.os.slice
  obtain ⟨a', c', rfl, _, _⟩ := h.es.slice
  obtain ⟨W0, hW0⟩ : ∃ W0, W0 = w.alloc (schO (.slice a s.os.length c) (.slice a' s.es.length c')) := ⟨_, rfl⟩
  have A0 : Below w.heap.size w W0 := by rw [hW0]; exact al1 w _
  have N0 : W0.heap[w.heap.size]? = some (schO (.slice a s.os.length c) (.slice a' s.es.length c')) := by rw [hW0]; exact heap_alloc_new w _
  have HW : Hid (W0 = w.alloc (schO (.slice a s.os.length c) (.slice a' s.es.length c'))) := hW0
  have CK := hcheck_any (h.on A0) (gl.below A0 (Nat.le_refl _))
  rw [hc, hW0] at CK
  have HS : Hid (SchAt W0 (.slice a s.os.length c) (.slice a' s.es.length c') s) := h.on A0
  have LW : Hid (w.heap.size < W0.heap.size) := lt_of_block N0
  clear hW0 h gl hc
  go_enter Tryz.func9, Tryz.ntmps9
  go_wp2_with (first
    | (go_at_call 17; (with_reducible refine CK.mono ?_); rintro e x1 ⟨rfl, b1⟩; rw [← HW.out] at b1)
    | (go_at_call 25; (with_reducible refine (gscalars_any _).mono ?_); rintro e x2 ⟨v2, rfl, R2, b2⟩; have D2 := b1.trans (b2.mono b1.size); have r0 := (row2 ((D2.block _ (lt_of_block N0)).trans N0)).2.1)
    | fail)
  replace R2 := R2.base b1.size
  clear CK
  go_loopw [5, 19] (fun lz iv wr => ∃ (lv : Value) (j : Nat), lv = lz ∧ iv = .int .i64 (j : Int) ∧ j ≤ s.es.length ∧ DfR wr W0.heap.size lv (scaN.map scaT ++ (s.es.take j).map eE) ∧ Gt W0.heap.size 35 W0 wr) (fun _ iv _ => s.es.length - (RowKit.intOf iv).toNat)
  case atStart => exact ⟨_, 0, rfl, rfl, Nat.zero_le _, by simpa using R2, gt_of D2⟩
  case round =>
    obtain ⟨lv, j, rfl, rfl, hj, ⟨ll, hdn, hrow, hin⟩, hg⟩ := hrel
    have hdl : ll.length ≤ 5 + j := by
      have e := congrArg List.length hdn
      rw [List.length_map, List.length_append, List.length_map, List.length_map, List.length_take] at e
      have : scaN.length = 5 := rfl
      omega
    have hbr0 : Below W0.heap.size W0 wr := hg.below (Nat.le_refl _)
    have hbr : Below w.heap.size w wr := A0.trans (hbr0.mono A0.size)
    have HI : Hid (∀ p ∈ ll, DfO wr W0.heap.size p) := hin
    have HD : Hid (ll.map (·.1) = scaN.map scaT ++ (s.es.take j).map eE) := hdn
    have hzB := hbr0.size
    clear hin hdn R2 D2
    by_cases hlt : j < s.es.length
    · obtain ⟨x, hx⟩ : ∃ x, s.es[j]? = some x := ⟨_, List.getElem?_eq_getElem hlt⟩
      obtain ⟨b, o, c0, a1, c1, hv, hbl, _, e0, e1, hws⟩ := en_cellsG hes hx
      cases hv
      have f0 := cell_on hbr e0
      have f1 := cell_on hbr e1
      have l1 : ((j : Nat) : Int) < (s.es.length : Int) := by omega
      have hjN : ((j : Nat) : Int).toNat = j := by omega
      have HK : Hid (j + 1 ≤ s.es.length) := hlt
      have HE : Hid (scaN.map scaT ++ (s.es.take (j + 1)).map eE = (scaN.map scaT ++ (s.es.take j).map eE) ++ [eE x]) := by
        show _ = _
        rw [take_step hx, List.map_append, List.append_assoc]
        rfl
      obtain ⟨lo, lc, rfl⟩ := hrow.slice
      have hlen : ll.length ≤ 13 := by omega
      have hw16 := SZ.out.ws x (List.mem_of_getElem? hx)
      obtain ⟨W1, hW1⟩ : ∃ W1, W1 = wr.alloc (enO x.n a1 x.ws.length c1) := ⟨_, rfl⟩
      have N9 : W1.heap[wr.heap.size]? = some (enO x.n a1 x.ws.length c1) := by rw [hW1]; exact heap_alloc_new wr _
      have A1 : Below wr.heap.size wr W1 := by rw [hW1]; exact al1 wr _
      have AW := hbr.trans (A1.mono hbr.size)
      have CLN := fun {X : World} (d : Below W1.heap.size W1 X) => clone_str ((hws.on AW).on d) hw16
      obtain ⟨xn, xw⟩ := x
      simp only at f0 f1 N9 CLN
      clear hx hlt e0 e1 hws hw16
      have HG : Hid (Gt W0.heap.size 35 W0 wr) := hg
      obtain ⟨c9, c91, _⟩ := row2 N9
      have nx : ∀ {X Y : World}, Below W1.heap.size W1 X → Below X.heap.size X Y → Below W1.heap.size W1 Y := fun p q => p.trans (q.mono p.size)
      have al : ∀ {X : World} {o : Obj}, Below W1.heap.size W1 X → Below W1.heap.size W1 (X.alloc o) := fun p => p.alloc p.size _
      have D : Below W1.heap.size W1 W1.drew := bel_dr (Below.refl _ _)
      have XD : ∀ {X : World}, Below W1.heap.size W1 X → (fun w' => w'.cell? ⟨wr.heap.size, 0, none⟩ = some (.string ⟨xn.toArray⟩) ∧ w'.cell? ⟨wr.heap.size, 1, none⟩ = some (.slice a1 xw.length c1)) X := fun d => ⟨cell_on d c9, cell_on d c91⟩
      go_wp2
      rw [← hW1]
      clear hW1
      go_region_held3 (fun w' => w'.cell? ⟨wr.heap.size, 0, none⟩ = some (.string ⟨xn.toArray⟩) ∧ w'.cell? ⟨wr.heap.size, 1, none⟩ = some (.slice a1 xw.length c1)) (first | exact c10 | exact XD D | exact XD (al D)) ((first
        | (go_at_call 27; (with_reducible refine (CLN D).mono ?_); rintro e y1 ⟨v1, rfl, I1, b1⟩; replace I1 := RowO.base I1 D.size; replace D := nx D b1; clear b1; obtain ⟨p1, n1, m1, rfl⟩ := row_slc I1)
        | (go_at_call 26; (with_reducible refine (gwords_any _ _ _ _ _).mono ?_); rintro e y2 ⟨rfl, b2⟩; replace I1 := RowO.on I1 b2; replace D := nx D b2; clear b2)
        | (refine step_append_lies _ (by rfl) (.tmp 23) (.tmp 30) 26 (by rfl) W0.heap.size 35 ti _ 5 96 Tryz.underlying26 hti hy0 hy1 hy2 rfl (by decide) (.slice lo ll.length lc) ll.length (ll.flatMap defC) (by rfl) ((RowO.on (RowO.on hrow A1) D).on (al1 _ _)) ⟨y2.heap.size, 0, none⟩ 1 1 [.string ⟨xn.toArray⟩, .int .i64 1, .slice p1 n1 m1, .slice none 0 0, .slice none 0 0] (by rfl) rfl (World.news_of_block (heap_alloc_new y2 _)) (by intro u hu; simp at hu; rcases hu with rfl | rfl | rfl | rfl <;> rfl) (by decide) (by unfold maxLen; omega) (by omega) (Nat.le_trans hzB (Nat.le_trans A1.size (al D).size)) _ rfl ?_; intro g8 cp8 w8 own8 gr8 hor8 hlt8; have G8 := gt_grown ((RowO.on (RowO.on hrow A1) D).on (al1 y2 _)) gr8; have c10 : w8.cell? ⟨wr.heap.size, 0, none⟩ = some (.string ⟨xn.toArray⟩) ∧ w8.cell? ⟨wr.heap.size, 1, none⟩ = some (.slice a1 xw.length c1) := (have q := row2 (G8.block _ _ (((al D).block _ (lt_of_block N9)).trans N9) (Or.inr (by simp))); ⟨q.1, q.2.1⟩); have O8 : Hid (w8.ownsRow W0.heap.size 35 5 (.slice (some ⟨g8, 0, none⟩) (ll.length + 1) cp8) (ll.length + 1) (ll.flatMap defC ++ [.string ⟨xn.toArray⟩, .int .i64 1, .slice p1 n1 m1, .slice none 0 0, .slice none 0 0])) := own8; clear own8 gr8 hor8 hlt8)))
      go_wp2
      have hz1 : W0.heap.size ≤ W1.heap.size := Nat.le_trans hzB A1.size
      refine ⟨⟨_, j + 1, rfl, by simp, HK.out, ?_, (((HG.out.trans (gt_of A1)).trans (gt_of D)).trans (gt_of (al1 _ _))).trans G8⟩, ?_⟩
      · rw [HE.out]
        exact DfR.add (ll := ll) (lp := [(eE ⟨xn, xw⟩, .slice p1 n1 m1, .slice none 0 0, .slice none 0 0)]) HD.out (fun p hp => (((HI.out p hp).on A1).on D).on (al1 _ _)) rfl (fun p hp => by
          rw [List.mem_singleton] at hp
          subst hp
          exact ⟨(RowO.base I1 hz1).on (al1 _ _), OtR.none, RowO.none⟩) G8 O8.out rfl
      · have := HK.out
        simp [RowKit.intOf]
        omega
    · have l2 : decide (((j : Nat) : Int) < (s.es.length : Int)) = false := by simp; omega
      have l3 : decide (j < s.es.length) = false := by simp; omega
      have hje : j = s.es.length := by omega
      subst hje
      have R3 : Hid (DfR wr W0.heap.size lv (scaN.map scaT ++ s.es.map eE)) := ⟨ll, by have q := HD.out; rw [List.take_length] at q; exact q, hrow, HI.out⟩
      have r0' := (row2 ((hbr0.block _ (lt_of_block N0)).trans N0)).1
      obtain ⟨po, no, mo, hlv⟩ := row_slc hrow
      have hg1 := hg
      clear hlt hj hdl HD HI hrow
      go_wp2
      go_loopw [5, 36] (fun lz iv wq => ∃ (lv : Value) (j : Nat), lv = lz ∧ iv = .int .i64 (j : Int) ∧ j ≤ s.os.length ∧ DfR wq W0.heap.size lv ((scaN.map scaT ++ s.es.map eE) ++ (s.os.take j).flatMap (objT s)) ∧ Gt W0.heap.size 35 W0 wq) (fun _ iv _ => s.os.length - (RowKit.intOf iv).toNat)
      case atStart => exact ⟨_, 0, rfl, rfl, Nat.zero_le _, by simpa using R3.out, hg1⟩
      case round =>
        obtain ⟨lv2, j, rfl, rfl, hj, ⟨ll, hdn, hrow, hin⟩, hgq⟩ := hrel
        have hdl : ll.length ≤ 13 + 6 * j := by
          have e := congrArg List.length hdn
          rw [List.length_map, List.length_append, List.length_append, List.length_map, List.length_map, flat_lenK (k := 6) (fun _ => rfl), List.length_take] at e
          have : scaN.length = 5 := rfl
          omega
        have hbq0 : Below W0.heap.size W0 wr := hgq.below (Nat.le_refl _)
        have hbq : Below w.heap.size w wr := A0.trans (hbq0.mono A0.size)
        have HI : Hid (∀ p ∈ ll, DfO wr W0.heap.size p) := hin
        have HD : Hid (ll.map (·.1) = (scaN.map scaT ++ s.es.map eE) ++ (s.os.take j).flatMap (objT s)) := hdn
        have hzB2 := hbq0.size
        have q0 := (row2 ((hbq0.block _ (lt_of_block N0)).trans N0)).1
        have q1 := (row2 ((hbq0.block _ (lt_of_block N0)).trans N0)).2.1
        clear hin hdn
        by_cases hlt : j < s.os.length
        · obtain ⟨x, hx⟩ : ∃ x, s.os[j]? = some x := ⟨_, List.getElem?_eq_getElem hlt⟩
          obtain ⟨b, o, c0, a1, c1, hv, hbl, _, e0, e1, hfs⟩ := ob_cells hos hx
          cases hv
          have f0 := cell_on hbq e0
          have f1 := cell_on hbq e1
          have l1 : ((j : Nat) : Int) < (s.os.length : Int) := by omega
          have hjN : ((j : Nat) : Int).toNat = j := by omega
          have HK : Hid (j + 1 ≤ s.os.length) := hlt
          have HE : Hid ((scaN.map scaT ++ s.es.map eE) ++ (s.os.take (j + 1)).flatMap (objT s) = ((scaN.map scaT ++ s.es.map eE) ++ (s.os.take j).flatMap (objT s)) ++ objT s x) := by
            show _ = _
            rw [flat_step hx, List.append_assoc (scaN.map scaT ++ s.es.map eE)]
          obtain ⟨lo, lc, rfl⟩ := hrow.slice
          have hlen : ll.length ≤ 61 := by omega
          have hm := List.mem_of_getElem? hx
          have A1 := al1 wr (obO x.n a1 x.fs.length c1)
          have OF := gof_any ((HS.out.on hbq0).on A1) x a1 c1 ((hfs.on hbq).on A1) (SZ.out.on x hm) (SZ.out.fs x hm) (SZ.out.ft x hm)
          have s0 := fun o => cell_on (al1 wr o) q0
          have s1 := fun o => cell_on (al1 wr o) q1
          have HO : Hid ((objT s x).length = 6) := rfl
          obtain ⟨xn, xf⟩ := x
          simp only at f0 f1 A1 OF
          clear hx hlt hm e0 e1 hfs
          go_wp2_with (first
            | (go_at_call 28; (with_reducible refine OF.mono ?_); rintro e y1 ⟨v1, rfl, R1, b1⟩; obtain ⟨g1, c2, lp, rfl, hlp, hln, hF, hcs, h1c⟩ := def_news R1 (fun e => by have := congrArg List.length e; rw [HO.out] at this; cases this); rw [HO.out] at hln ⊢)
            | (at_builtin; refine wpList_append_own _ rfl (.tmp 40) (.tmp 43) 26 rfl W0.heap.size 35 ti _ 5 96 Tryz.underlying26 hti hy0 hy1 hy2 rfl (by decide) (.slice lo ll.length lc) ll.length (ll.flatMap defC) rfl ((RowO.on hrow A1).on b1) ⟨g1, 0, none⟩ 6 c2 (lp.flatMap defC) rfl hln hcs h1c (by unfold maxLen; omega) (by omega) (Nat.le_trans hzB2 (Nat.le_trans A1.size b1.size)) ?_; intro v8 w8 own8 gr8 hiff8)
            | fail)
          have G8 := gt_grown ((RowO.on hrow A1).on b1) gr8
          refine ⟨⟨_, j + 1, rfl, by simp, HK.out, ?_, ((hgq.trans (gt_of A1)).trans (gt_of b1)).trans G8⟩, ?_⟩
          · rw [HE.out]
            exact DfR.add (ll := ll) (lp := lp) HD.out (fun p hp => ((HI.out p hp).on A1).on b1) hlp (fun p hp => (hF p hp).base (Nat.le_trans hzB2 A1.size)) G8 own8 (by have e := congrArg List.length hlp; rw [List.length_map, HO.out] at e; rw [e])
          · have := HK.out
            simp [RowKit.intOf]
            omega
        · have l2 : decide (((j : Nat) : Int) < (s.os.length : Int)) = false := by simp; omega
          have l3 : decide (j < s.os.length) = false := by simp; omega
          have hje : j = s.os.length := by omega
          subst hje
          have hlen : ll.length ≤ 61 := by omega
          have HD2 : Hid (ll.map (·.1) = (scaN.map scaT ++ s.es.map eE) ++ s.os.flatMap (objT s)) := by show _ = _; have q := HD.out; rw [List.take_length] at q; exact q
          obtain ⟨lo, lc, rfl⟩ := hrow.slice
          have FI := gfilters_any (HS.out.on hbq0) SZ.out.en SZ.out.es
          have HO : Hid ((filT s).length = 4 + s.es.length) := by show _ = _; rw [filT_eq, List.length_append, List.length_map]; rfl
          clear hlt hj hdl HD
          go_wp2_with (first
            | (go_at_call 29; (with_reducible refine FI.mono ?_); rintro e y1 ⟨v1, rfl, R1, b1⟩; obtain ⟨g1, c2, lp, rfl, hlp, hln, hF, hcs, h1c⟩ := def_news R1 (fun e => by have q := congrArg List.length e; rw [HO.out, List.length_nil] at q; omega); rw [HO.out] at hln ⊢)
            | (at_builtin; refine wpList_append_own _ rfl (.tmp 46) (.tmp 48) 26 rfl W0.heap.size 35 ti _ 5 96 Tryz.underlying26 hti hy0 hy1 hy2 rfl (by decide) (.slice lo ll.length lc) ll.length (ll.flatMap defC) rfl (RowO.on hrow b1) ⟨g1, 0, none⟩ (4 + s.es.length) c2 (lp.flatMap defC) rfl hln hcs h1c (by unfold maxLen; omega) (by omega) (Nat.le_trans hzB2 b1.size) ?_; intro v8 w8 own8 gr8 hiff8; obtain ⟨o8, c8, rfl⟩ := own_slice own8)
            | fail)
          have G8 := gt_grown (RowO.on hrow b1) gr8
          have R8 : DfR w8 W0.heap.size (.slice o8 (ll.length + (4 + s.es.length)) c8) (((scaN.map scaT ++ s.es.map eE) ++ s.os.flatMap (objT s)) ++ filT s) := DfR.add (ll := ll) (lp := lp) HD2.out (fun p hp => (HI.out p hp).on b1) hlp (fun p hp => (hF p hp).base hzB2) G8 own8 (by have e := congrArg List.length hlp; rw [List.length_map, HO.out] at e; rw [e])
          have Gw : Hid (Gt W0.heap.size 35 W0 w8) := (hgq.trans (gt_of b1)).trans G8
          obtain ⟨l8, hl8, row8, in8⟩ := R8
          have hn8 : ll.length + (4 + s.es.length) = l8.length := by
            obtain ⟨_, _, e⟩ := row8.slice
            injection e
          have hl8n : l8.length ≤ 73 := by omega
          have D0 : Below W0.heap.size W0 w8 := Gw.out.below (Nat.le_refl _)
          have I8 : Hid (∀ p ∈ l8, DfO w8 W0.heap.size p) := in8
          have H8 : Hid (l8.map (·.1) = ((scaN.map scaT ++ s.es.map eE) ++ s.os.flatMap (objT s)) ++ filT s) := hl8
          generalize ll.length + (4 + s.es.length) = n8 at *
          subst hn8
          clear own8 gr8 hiff8 G8 hl8 in8 hcs h1c hF hln hlp R1 HD2 HI hrow FI hbq hbq0 hgq q0 q1
          have bs : Below w8.heap.size w8 w8.drew := bel_dr (Below.refl _ _)
          have XD : ∀ {X : World}, Below w8.heap.size w8 X → (fun w' => w'.cell? ⟨w.heap.size, 0, none⟩ = some (.slice a s.os.length c) ∧ w'.cell? ⟨w.heap.size, 1, none⟩ = some (.slice a' s.es.length c')) X := fun {X} d => by
            have e := (d.block _ (Nat.lt_of_lt_of_le LW.out D0.size)).trans ((D0.block _ LW.out).trans N0)
            exact ⟨(row2 e).1, (row2 e).2.1⟩
          have QA := fun {X : World} (d : Below w8.heap.size w8 X) => gquery_any ((HS.out.on D0).on d) SZ.out.on SZ.out.os
          have MA := fun {X : World} (d : Below w8.heap.size w8 X) => gmutation_any ((HS.out.on D0).on d) SZ.out.on SZ.out.os
          have al : ∀ {X : World} {o : Obj}, Below w8.heap.size w8 X → Below w8.heap.size w8 (X.alloc o) := fun p => p.alloc p.size _
          go_region_held3 (fun w' => w'.cell? ⟨w.heap.size, 0, none⟩ = some (.slice a s.os.length c) ∧ w'.cell? ⟨w.heap.size, 1, none⟩ = some (.slice a' s.es.length c')) (first | exact c10 | exact XD bs | exact XD (al bs)) ((first
            | (go_at_call 30; (with_reducible refine (QA bs).mono ?_); rintro e y2 ⟨vq, rfl, Oq, b2⟩; replace Oq := Oq.base bs.size; replace bs := bs.trans (b2.mono bs.size); clear b2; obtain ⟨pq, nq, mq, rfl⟩ := Oq.slc)
            | (go_at_call 31; (with_reducible refine (MA bs).mono ?_); rintro e y3 ⟨vm, rfl, Om, b3⟩; replace Om := Om.base bs.size; replace Oq := Oq.on b3; replace bs := bs.trans (b3.mono bs.size); clear b3; obtain ⟨pm, nm, mm, rfl⟩ := Om.slc)
            | (refine step_append_lies _ (by rfl) (.tmp 50) (.tmp 55) 26 (by rfl) W0.heap.size 35 ti _ 5 96 Tryz.underlying26 hti hy0 hy1 hy2 rfl (by decide) (.slice o8 l8.length c8) l8.length (l8.flatMap defC) (by rfl) ((RowO.on row8 bs).on (al1 _ _)) ⟨y3.heap.size, 0, none⟩ 2 2 [.string ⟨#[81, 117, 101, 114, 121]⟩, .int .i64 2, .slice none 0 0, .slice pq nq mq, .slice none 0 0, .string ⟨#[77, 117, 116, 97, 116, 105, 111, 110]⟩, .int .i64 2, .slice none 0 0, .slice pm nm mm, .slice none 0 0] (by rfl) rfl (World.news_of_block (heap_alloc_new y3 _)) (by intro u hu; simp at hu; rcases hu with rfl | rfl | rfl | rfl | rfl | rfl | rfl | rfl | rfl | rfl <;> rfl) (by decide) (by unfold maxLen; omega) (by omega) (Nat.le_trans D0.size (al bs).size) _ rfl ?_; intro g9 cp9 w9 own9 gr9 hor9 hlt9; have G9 := gt_grown ((RowO.on row8 bs).on (al1 y3 _)) gr9; have c10 : w9.cell? ⟨w.heap.size, 0, none⟩ = some (.slice a s.os.length c) ∧ w9.cell? ⟨w.heap.size, 1, none⟩ = some (.slice a' s.es.length c') := (have q := row2 (G9.block _ _ (((al bs).block _ (Nat.lt_of_lt_of_le LW.out D0.size)).trans ((D0.block _ LW.out).trans N0)) (Or.inl LW.out)); ⟨q.1, q.2.1⟩); have O9 : Hid (w9.ownsRow W0.heap.size 35 5 (.slice (some ⟨g9, 0, none⟩) (l8.length + 2) cp9) (l8.length + 2) (l8.flatMap defC ++ [.string ⟨#[81, 117, 101, 114, 121]⟩, .int .i64 2, .slice none 0 0, .slice pq nq mq, .slice none 0 0, .string ⟨#[77, 117, 116, 97, 116, 105, 111, 110]⟩, .int .i64 2, .slice none 0 0, .slice pm nm mm, .slice none 0 0])) := own9; clear own9 gr9 hor9 hlt9)))
          go_wp2
          have DF : DfR w9 W0.heap.size (.slice (some ⟨g9, 0, none⟩) (l8.length + 2) cp9) ((((scaN.map scaT ++ s.es.map eE) ++ s.os.flatMap (objT s)) ++ filT s) ++ [qryT s, mutT s]) := DfR.add (ll := l8) (lp := [(qryT s, .slice none 0 0, .slice pq nq mq, .slice none 0 0), (mutT s, .slice none 0 0, .slice pm nm mm, .slice none 0 0)]) H8.out (fun p hp => ((I8.out p hp).on bs).on (al1 _ _)) rfl (fun p hp => by
            simp only [List.mem_cons, List.not_mem_nil, or_false] at hp
            rcases hp with rfl | rfl
            · exact ⟨RowO.none, (Oq.base D0.size).on (al1 _ _), RowO.none⟩
            · exact ⟨RowO.none, (Om.base D0.size).on (al1 _ _), RowO.none⟩) G9 O9.out rfl
          have ED : (((scaN.map scaT ++ s.es.map eE) ++ s.os.flatMap (objT s)) ++ filT s) ++ [qryT s, mutT s] = defT s := by
            simp only [List.append_assoc]
            rfl
          rw [ED] at DF
          have B9 : Below W0.heap.size W0 w9 := (((Gw.out.trans (gt_of bs)).trans (gt_of (al1 _ _))).trans G9).below (Nat.le_refl _)
          exact bodyPost_ret (v := .tuple #[.slice (some ⟨g9, 0, none⟩) (l8.length + 2) cp9, .int .i64 0]) (by simp [results, Tryz.results9, go_sem]) rfl ⟨_, rfl, DF.base A0.size, A0.trans (B9.mono A0.size)⟩
end
end Go.Proofs.YtamkjpfomaapgaaGreatDoor
namespace Go.Proofs.YtamkjpfomaapgaaGreatDoor
open Go Go.RowKit Go.Shelf
def OtAt (w : World) (x : Ot) (b o : Nat) : Prop := w.cell? ⟨b, o, none⟩ = some (.string ⟨x.n.toArray⟩) ∧ w.cell? ⟨b, o + 1, none⟩ = some (.string ⟨x.t.toArray⟩) ∧ w.cell? ⟨b, o + 2, none⟩ = some (.string ⟨x.w.toArray⟩) ∧ ∃ av, w.cell? ⟨b, o + 3, none⟩ = some av ∧ InsAt w av x.ar ∧ x.ar.length * 48 ≤ 140737488355328
def OtsAt (w : World) (v : Value) (l : List Ot) : Prop := Sl w v l.length 4 fun i b o => ∀ x, l[i]? = some x → OtAt w x b o
def DfAt (w : World) (d : Df) (b o : Nat) : Prop := w.cell? ⟨b, o, none⟩ = some (.string ⟨d.n.toArray⟩) ∧ w.cell? ⟨b, o + 1, none⟩ = some (.int .i64 d.k) ∧ ∃ wv ov iv, w.cell? ⟨b, o + 2, none⟩ = some wv ∧ w.cell? ⟨b, o + 3, none⟩ = some ov ∧ w.cell? ⟨b, o + 4, none⟩ = some iv ∧ WdsAt w wv d.ws ∧ OtsAt w ov d.os ∧ InsAt w iv d.is
def DefsAt (w : World) (v : Value) (l : List Df) : Prop := Sl w v l.length 5 fun i b o => ∀ x, l[i]? = some x → DfAt w x b o
section
variable {w w' : World} (hb : Below w.heap.size w w')
include hb
theorem InsAt.on {v : Value} {l : List Inn} (h : InsAt w v l) : InsAt w' v l := h.mono hb.size fun _ _ _ _ hp f hf => ⟨cell_on hb (hp f hf).1, cell_on hb (hp f hf).2.1, cell_on hb (hp f hf).2.2⟩
theorem OtAt.on {x : Ot} {b o : Nat} (h : OtAt w x b o) : OtAt w' x b o := ⟨cell_on hb h.1, cell_on hb h.2.1, cell_on hb h.2.2.1, h.2.2.2.elim fun av q => ⟨av, cell_on hb q.1, q.2.1.on hb, q.2.2⟩⟩
theorem OtsAt.on {v : Value} {l : List Ot} (h : OtsAt w v l) : OtsAt w' v l := h.mono hb.size fun _ _ _ _ hp f hf => (hp f hf).on hb
theorem DfAt.on {x : Df} {b o : Nat} (h : DfAt w x b o) : DfAt w' x b o := by
  obtain ⟨h0, h1, wv, ov, iv, h2, h3, h4, h5, h6, h7⟩ := h
  exact ⟨cell_on hb h0, cell_on hb h1, wv, ov, iv, cell_on hb h2, cell_on hb h3, cell_on hb h4, h5.on hb, h6.on hb, h7.on hb⟩
theorem DefsAt.on {v : Value} {l : List Df} (h : DefsAt w v l) : DefsAt w' v l := h.mono hb.size fun _ _ _ _ hp f hf => (hp f hf).on hb
end
/-- Few of each. -/
structure Sm (d : Df) : Prop where
  ws : d.ws.length ≤ 1000
  is : d.is.length ≤ 1000
  os : d.os.length ≤ 1000
  ar : ∀ o ∈ d.os, o.ar.length ≤ 1000
theorem InR.at {w : World} {B : Nat} {v : Value} {l : List Inn} (h : InR w B v l) (hl : l.length ≤ 1000) : InsAt w v l := RowO.cell (f := innC) (sz := 3) (p := InAt w) (fun _ => rfl) h (by omega) fun x b o _ hc => ⟨hc 0 _ (by decide) rfl, hc 1 _ (by decide) rfl, hc 2 _ (by decide) rfl⟩
theorem OtR.at {w : World} {B : Nat} {v : Value} {l : List Ot} (h : OtR w B v l) (hl : l.length ≤ 1000) (ha : ∀ o ∈ l, o.ar.length ≤ 1000) : OtsAt w v l := by
  obtain ⟨lp, rfl, R, F⟩ := h
  rw [List.length_map] at hl
  have h1 : Sl w v lp.length 4 (fun i b o => ∀ x, lp[i]? = some x → OtAt w x.1 b o) := RowO.cell (f := outC) (sz := 4) (p := fun x b o => OtAt w x.1 b o) (fun _ => rfl) R (by omega) fun x b o hx hc => by
    have hq := ha x.1 (List.mem_map.2 ⟨x, hx, rfl⟩)
    exact ⟨hc 0 _ (by decide) rfl, hc 1 _ (by decide) rfl, hc 2 _ (by decide) rfl, x.2, hc 3 _ (by decide) rfl, InR.at (F x hx) hq, by omega⟩
  unfold OtsAt
  rw [List.length_map]
  refine h1.mono (Nat.le_refl _) fun i b o _ hp x hx => ?_
  rw [List.getElem?_map] at hx
  obtain ⟨p, hp2, rfl⟩ := Option.map_eq_some_iff.1 hx
  exact hp p hp2
theorem DfR.at {w : World} {B : Nat} {v : Value} {l : List Df} (h : DfR w B v l) (hl : l.length ≤ 1000) (hs : ∀ d ∈ l, Sm d) : DefsAt w v l := by
  obtain ⟨lp, rfl, R, F⟩ := h
  rw [List.length_map] at hl
  have h1 : Sl w v lp.length 5 (fun i b o => ∀ x, lp[i]? = some x → DfAt w x.1 b o) := RowO.cell (f := defC) (sz := 5) (p := fun x b o => DfAt w x.1 b o) (fun _ => rfl) R (by omega) fun x b o hx hc => by
    have hq := hs x.1 (List.mem_map.2 ⟨x, hx, rfl⟩)
    have hF := F x hx
    exact ⟨hc 0 _ (by decide) rfl, hc 1 _ (by decide) rfl, x.2.1, x.2.2.1, x.2.2.2, hc 2 _ (by decide) rfl, hc 3 _ (by decide) rfl, hc 4 _ (by decide) rfl, wds_row hF.ws (by have := hq.ws; omega), OtR.at hF.os hq.os hq.ar, InR.at hF.is hq.is⟩
  unfold DefsAt
  rw [List.length_map]
  refine h1.mono (Nat.le_refl _) fun i b o _ hp x hx => ?_
  rw [List.getElem?_map] at hx
  obtain ⟨p, hp2, rfl⟩ := Option.map_eq_some_iff.1 hx
  exact hp p hp2
theorem obj_sm {s : Sch} (z : Szs s) {o : Ob} (ho : o ∈ s.os) {d : Df} (hd : d ∈ objT s o) : Sm d := by
  have hf := z.fs o ho
  have h1 : ∀ p : Fld → Bool, (o.fs.filter p).length ≤ 100 := fun p => Nat.le_trans (List.length_filter_le _ _) hf
  unfold objT at hd
  simp only [List.mem_cons, List.not_mem_nil, or_false] at hd
  rcases hd with rfl | rfl | rfl | rfl | rfl | rfl
  · refine ⟨by simp, by simp, by simp; omega, fun x hx => ?_⟩
    simp only [List.mem_cons, List.mem_map] at hx
    rcases hx with rfl | ⟨f, _, rfl⟩
    · simp
    · unfold fldT
      split <;> simp [argT]
  · refine ⟨?_, by simp, by simp, by simp⟩
    have := h1 (fun f => decide (edgS s f < 0))
    simp
    omega
  · exact ⟨by simp, by simp, by simp, by simp⟩
  · refine ⟨by simp, ?_, by simp, by simp⟩
    have := h1 (fun f => decide (edgS s f < 0))
    simp
    omega
  · exact ⟨by simp, by simp; omega, by simp, by simp⟩
  · exact ⟨by simp, by simp; omega, by simp, by simp⟩
theorem def_sm {s : Sch} (h : OkD s) : (defT s).length ≤ 1000 ∧ ∀ d ∈ defT s, Sm d := by
  have z := szs h
  have h8 := z.os
  have e8 := z.es
  obtain ⟨_, _, _, h4⟩ := man_iff.1 h.m
  constructor
  · unfold defT
    rw [List.length_append, List.length_append, List.length_append, List.length_append, List.length_map, flat_lenK (k := 6) (fun _ => rfl), filT_eq, List.length_append, List.length_map]
    have : fil4.length = 4 := rfl
    simp
    omega
  · intro d hd
    unfold defT at hd
    simp only [List.mem_append, List.mem_cons, List.not_mem_nil, or_false, List.mem_map, List.mem_flatMap] at hd
    rcases hd with (rfl | rfl | rfl | rfl | rfl) | ⟨e, he, rfl⟩ | ⟨o, ho, hd⟩ | hd | rfl | rfl
    · exact ⟨by simp [scaT], by simp [scaT], by simp [scaT], by simp [scaT]⟩
    · exact ⟨by simp [scaT], by simp [scaT], by simp [scaT], by simp [scaT]⟩
    · exact ⟨by simp [scaT], by simp [scaT], by simp [scaT], by simp [scaT]⟩
    · exact ⟨by simp [scaT], by simp [scaT], by simp [scaT], by simp [scaT]⟩
    · exact ⟨by simp [scaT], by simp [scaT], by simp [scaT], by simp [scaT]⟩
    · exact ⟨by have := (h4 e he).2; show e.ws.length ≤ 1000; omega, by simp, by simp, by simp⟩
    · exact obj_sm z ho hd
    · rw [filT_eq, List.mem_append] at hd
      rcases hd with hd | hd
      · unfold fil4 at hd
        simp only [List.mem_cons, List.not_mem_nil, or_false] at hd
        rcases hd with rfl | rfl | rfl | rfl <;> exact ⟨by simp, by simp [cmpT], by simp, by simp⟩
      · obtain ⟨e, _, rfl⟩ := List.mem_map.1 hd
        exact ⟨by simp [fE], by simp [fE], by simp [fE], by simp [fE]⟩
    · refine ⟨by simp [qryT], by simp [qryT], ?_, fun x hx => ?_⟩
      · show (s.os.flatMap qO).length ≤ 1000
        rw [flat_lenK (k := 2) (fun _ => rfl)]
        omega
      · have hx' : x ∈ s.os.flatMap qO := hx
        obtain ⟨o, _, hx'⟩ := List.mem_flatMap.1 hx'
        unfold qO at hx'
        simp only [List.mem_cons, List.not_mem_nil, or_false] at hx'
        rcases hx' with rfl | rfl <;> simp [argT]
    · refine ⟨by simp [mutT], by simp [mutT], ?_, fun x hx => ?_⟩
      · show (s.os.flatMap mO).length ≤ 1000
        rw [flat_lenK (k := 3) (fun _ => rfl)]
        omega
      · have hx' : x ∈ s.os.flatMap mO := hx
        obtain ⟨o, _, hx'⟩ := List.mem_flatMap.1 hx'
        unfold mO at hx'
        simp only [List.mem_cons, List.not_mem_nil, or_false] at hx'
        rcases hx' with rfl | rfl | rfl <;> simp
/-- A definition of a list, cell by cell. -/
theorem df_cells {w : World} {v : Value} {l : List Df} {i : Nat} {x : Df} (h : DefsAt w v l) (hx : l[i]? = some x) : ∃ b o c a1 n1 c1 a2 n2 c2 a3 n3 c3, v = .slice (some ⟨b, o, none⟩) l.length c ∧ b < w.heap.size ∧ l.length ≤ c ∧ w.cell? ⟨b, o + i * 5, none⟩ = some (.string ⟨x.n.toArray⟩) ∧ w.cell? ⟨b, o + i * 5 + 1, none⟩ = some (.int .i64 x.k) ∧ w.cell? ⟨b, o + i * 5 + 2, none⟩ = some (.slice a1 n1 c1) ∧ w.cell? ⟨b, o + i * 5 + 3, none⟩ = some (.slice a2 n2 c2) ∧ w.cell? ⟨b, o + i * 5 + 4, none⟩ = some (.slice a3 n3 c3) ∧ WdsAt w (.slice a1 n1 c1) x.ws ∧ OtsAt w (.slice a2 n2 c2) x.os ∧ InsAt w (.slice a3 n3 c3) x.is := by
  obtain ⟨a, c, rfl, hc, _, hr⟩ := h
  have hi := (List.getElem?_eq_some_iff.1 hx).1
  obtain ⟨b, o, rfl, hb, hH⟩ := hr (by omega)
  obtain ⟨h0, h1, wv, ov, iv, h2, h3, h4, h5, h6, h7⟩ := hH i hi x hx
  obtain ⟨a1, c1, rfl, _, _⟩ := h5.slice
  obtain ⟨a2, c2, rfl, _, _⟩ := h6.slice
  obtain ⟨a3, c3, rfl, _, _⟩ := h7.slice
  exact ⟨b, o, c, a1, _, c1, a2, _, c2, a3, _, c3, rfl, hb, hc, h0, h1, h2, h3, h4, h5, h6, h7⟩
set_option maxRecDepth 100000 in
set_option maxHeartbeats 2000000 in
theorem gfind1_any (x y : Bs) (k : Int) (a1 a2 a3 : Option Addr) (n1 c1 n2 c2 n3 c3 P : Nat) (w : World) (h1 : w.cell? ⟨P, 0, none⟩ = some (.string ⟨y.toArray⟩)) : Calls Tryz.prog 37 #[.agg #[.string ⟨x.toArray⟩, .int .i64 k, .slice a1 n1 c1, .slice a2 n2 c2, .slice a3 n3 c3], .pointer (some ⟨P, 0, none⟩)] w fun e w' => e = .returned (.bool (x == y)) ∧ Below w.heap.size w w' := by
  have hbe := bytes_eq x y
  have g1 := fun o => cell_on (al1 w o) h1
  go_enter Tryz.func37, Tryz.ntmps37
  go_wp2
  go_ret
  exact ⟨rfl, al1 w _⟩
set_option maxRecDepth 100000 in
set_option maxHeartbeats 4000000 in
theorem idx_Def {l : List Df} {v : Value} (y : Bs) (P : Nat) (w : World) (h : DefsAt w v l) (h1 : w.cell? ⟨P, 0, none⟩ = some (.string ⟨y.toArray⟩)) :
    Calls Tryz.prog 36 #[v, .func (.func 37) #[] #[.pointer (some ⟨P, 0, none⟩)]] w fun e w' => e = .returned (.int .i64 (fndT l y)) ∧ Below w.heap.size w w' := by
  have hh := h
  obtain ⟨a0, cap, rfl, hc, hn, hr⟩ := h
  go_enter Tryz.func36, Tryz.ntmps36
  go_wp2
  go_loopw [8] (fun i wr => ∃ j : Nat, i = .int .i64 (j : Int) ∧ j ≤ l.length ∧ (∀ (q : Nat) z, q < j → (l.map (·.n))[q]? = some z → (z == y) = false) ∧ Below w.heap.size w wr) (fun i _ => l.length - (RowKit.intOf i).toNat)
  case atStart => exact ⟨0, rfl, Nat.zero_le _, fun q z hq => absurd hq (Nat.not_lt_zero _), Below.refl _ _⟩
  case round =>
    obtain ⟨j, rfl, hj, hno, hbr⟩ := hrel
    by_cases hlt : j < l.length
    · obtain ⟨x, hx⟩ : ∃ x, l[j]? = some x := ⟨_, List.getElem?_eq_getElem hlt⟩
      obtain ⟨b, o, c, a1, n1, c1, a2, n2, c2, a3, n3, c3, hv, hbl, _, e0, e1, e2, e3, e4, _⟩ := df_cells hh hx
      cases hv
      have f0 := cell_on hbr e0
      have f1 := cell_on hbr e1
      have f2 := cell_on hbr e2
      have f3 := cell_on hbr e3
      have f4 := cell_on hbr e4
      have CL := gfind1_any x.n y x.k a1 a2 a3 n1 c1 n2 c2 n3 c3 P wr (cell_on hbr h1)
      have l1 : ((j : Nat) : Int) < (l.length : Int) := by omega
      have hjN : ((j : Nat) : Int).toNat = j := by omega
      have hnm : (l.map (·.n))[j]? = some x.n := (by rw [List.getElem?_map, hx]; rfl)
      have hz : Hid (j + 1 ≤ l.length) := hlt
      have HN : Hid (∀ (q : Nat) z, q < j → (l.map (·.n))[q]? = some z → (z == y) = false) := hno
      have HM : Hid ((l.map (·.n))[j]? = some x.n) := hnm
      clear hno hnm hr hx e0 e1 e2 e3 e4 hlt hh
      cases hq : (x.n == y) with
      | true =>
        rw [hq] at CL
        have HP : Hid (fndT l y = (j : Int)) := by
          have e : x.n = y := by simpa using hq
          have h2 := HM.out
          rw [e] at h2
          exact plB_hit h2 HN.out
        clear hq
        go_wp2_with (first
          | (go_at_call 37; (with_reducible refine CL.mono ?_); rintro e w2 ⟨rfl, b2⟩)
          | fail)
        go_ret
        exact ⟨by rw [HP.out]; rfl, hbr.trans (b2.mono hbr.size)⟩
      | false =>
        rw [hq] at CL
        have hno2 : Hid (∀ (q : Nat) z, q < j + 1 → (l.map (·.n))[q]? = some z → (z == y) = false) := by
          intro q z hq1 hz1
          by_cases e : q = j
          · subst e
            rw [HM.out] at hz1
            cases hz1
            exact hq
          · exact HN.out q z (by omega) hz1
        clear hq
        go_wp2_with (first
          | (go_at_call 37; (with_reducible refine CL.mono ?_); rintro e w2 ⟨rfl, b2⟩)
          | fail)
        refine ⟨⟨j + 1, by simp, hz.out, hno2.out, hbr.trans (b2.mono hbr.size)⟩, ?_⟩
        have := hz.out
        simp [RowKit.intOf]
        omega
    · have l2 : decide (((j : Nat) : Int) < (l.length : Int)) = false := by simp; omega
      have l3 : decide (j < l.length) = false := by simp; omega
      have HP : Hid (fndT l y = -1) := plB_none fun q z hz => hno q z (by
        have := (List.getElem?_eq_some_iff.1 hz).1
        rw [List.length_map] at this
        omega) hz
      clear hno hr hlt hj hh
      go_wp2
      go_ret
      exact ⟨by rw [HP.out]; rfl, hbr⟩
set_option maxRecDepth 100000 in
theorem gfind_any {l : List Df} {v : Value} {w : World} (h : DefsAt w v l) (y : Bs) : Calls Tryz.prog 14 #[v, .string ⟨y.toArray⟩] w fun e w' => e = .returned (.int .i64 (fndT l y)) ∧ Below w.heap.size w w' := by
  have A1 := al1 w (.cells #[.string ⟨y.toArray⟩] 9)
  have ID := idx_Def y w.heap.size _ (h.on A1) (row1 (heap_alloc_new w _)).1
  have hmf := Tryz.makeFn
  obtain ⟨a, c, rfl, _, _⟩ := h.slice
  generalize fndT l y = k at *
  clear h
  go_enter Tryz.func14, Tryz.ntmps14
  go_wp2_with (first
    | (go_at_call 36; (with_reducible refine ID.mono ?_); rintro e w2 ⟨rfl, b2⟩)
    | fail)
  go_ret
  exact ⟨rfl, A1.trans (b2.mono A1.size)⟩
end Go.Proofs.YtamkjpfomaapgaaGreatDoor
namespace Go.Proofs.YtamkjpfomaapgaaGreatDoor
open Go Go.RowKit Go.Shelf
abbrev tyN : Bs := [95, 95, 116, 121, 112, 101, 110, 97, 109, 101]
abbrev zO : Ot := ⟨[], [], [], []⟩
def fldO' (d : Df) (f : Bs) : Option Ot := if d.k ≠ 2 then none else if f = tyN then some ⟨f, strB, wMust, []⟩ else d.os.find? (fun o => o.n == f)
def outT (l : List Df) (x f : Bs) : Option Ot := if fndT l x < 0 then none else match l[(fndT l x).toNat]? with
  | none => none
  | some d => fldO' d f
theorem fnd_some {l : List Df} {x : Bs} (h : ¬ fndT l x < 0) : ∃ (j : Nat) (d : Df), fndT l x = (j : Int) ∧ l[j]? = some d ∧ d.n = x := by
  have hm : x ∈ l.map (·.n) := plB_nonneg.1 (by unfold fndT at h; omega)
  have hlt := List.idxOf_lt_length_iff.2 hm
  have hx : (l.map (·.n))[(l.map (·.n)).idxOf x]'hlt = x := List.getElem_idxOf hlt
  have hl : (l.map (·.n)).idxOf x < l.length := by simpa using hlt
  refine ⟨(l.map (·.n)).idxOf x, l[(l.map (·.n)).idxOf x], ?_, List.getElem?_eq_getElem hl, ?_⟩
  · unfold fndT plB
    rw [if_pos hm]
  · rw [List.getElem_map] at hx
    exact hx
theorem out_none {l : List Df} {x f : Bs} (h : fndT l x < 0) : outT l x f = none := if_pos h
theorem out_some {l : List Df} {x f : Bs} {j : Nat} {d : Df} (h : fndT l x = (j : Int)) (hd : l[j]? = some d) : outT l x f = fldO' d f := by
  unfold outT
  rw [if_neg (by omega), h]
  simp [hd]
theorem find_hit {α : Type} {p : α → Bool} : ∀ {l : List α} {i : Nat} {x : α}, l[i]? = some x → p x = true → (∀ (q : Nat) z, q < i → l[q]? = some z → p z = false) → l.find? p = some x
  | [], _, _, h, _, _ => by simp at h
  | y :: l, 0, x, h, hp, _ => by
    simp at h
    subst h
    simp [hp]
  | y :: l, i + 1, x, h, hp, hn => by
    have h0 := hn 0 y (by omega) rfl
    rw [List.find?_cons, h0]
    exact find_hit (by simpa using h) hp fun q z hq hz => hn (q + 1) z (by omega) (by simpa using hz)
theorem find_miss {α : Type} {p : α → Bool} {l : List α} (h : ∀ (q : Nat) z, l[q]? = some z → p z = false) : l.find? p = none := by
  rw [List.find?_eq_none]
  intro x hx
  obtain ⟨i, hi⟩ := List.mem_iff_getElem?.1 hx
  simp [h i x hi]
/-- A field of a row of them, cell by cell. -/
theorem ot_cells {w : World} {a : Option Addr} {n c : Nat} {l : List Ot} {i : Nat} {x : Ot} (h : OtsAt w (.slice a n c) l) (hx : l[i]? = some x) : ∃ b o a1 n1 c1, a = some ⟨b, o, none⟩ ∧ n = l.length ∧ b < w.heap.size ∧ l.length ≤ c ∧ w.cell? ⟨b, o + i * 4, none⟩ = some (.string ⟨x.n.toArray⟩) ∧ w.cell? ⟨b, o + i * 4 + 1, none⟩ = some (.string ⟨x.t.toArray⟩) ∧ w.cell? ⟨b, o + i * 4 + 2, none⟩ = some (.string ⟨x.w.toArray⟩) ∧ w.cell? ⟨b, o + i * 4 + 3, none⟩ = some (.slice a1 n1 c1) ∧ InsAt w (.slice a1 n1 c1) x.ar ∧ x.ar.length * 48 ≤ 140737488355328 := by
  obtain ⟨a0, c0, he, hc, _, hr⟩ := h
  cases he
  have hi := (List.getElem?_eq_some_iff.1 hx).1
  obtain ⟨b, o, rfl, hb, hH⟩ := hr (by omega)
  obtain ⟨h0, h1, h2, av, h3, h4, h5⟩ := hH i hi x hx
  obtain ⟨a1, c1, rfl, _, _⟩ := h4.slice
  exact ⟨b, o, a1, _, c1, rfl, rfl, hb, hc, h0, h1, h2, h3, h4, h5⟩
abbrev outN (x : Ot) (a : Option Addr) (n c : Nat) : Obj := .cells #[.string ⟨x.n.toArray⟩, .string ⟨x.t.toArray⟩, .string ⟨x.w.toArray⟩, .slice a n c] 41
theorem ins_kp {w w' : World} {T : Nat} {v : Value} {l : List Inn} {w0 : World} (h : InsAt w0 v l) (b : Below w0.heap.size w0 w) (k : Kp (fun q => q = T) w w') (hT : w0.heap.size ≤ T) : InsAt w' v l := h.on (bel_kp b hT k)
theorem InR.at' {w : World} {B : Nat} {v : Value} {l : List Inn} (h : InR w B v l) (hl : l.length ≤ 140737488355328) : InsAt w v l := RowO.cell (f := innC) (sz := 3) (p := InAt w) (fun _ => rfl) h hl fun x b o _ hc => ⟨hc 0 _ (by decide) rfl, hc 1 _ (by decide) rfl, hc 2 _ (by decide) rfl⟩
theorem ins_none (w : World) : InsAt w (.slice none 0 0) [] := ⟨_, 0, rfl, Nat.le_refl _, by decide, fun h => absurd h (by decide)⟩
section
variable {w : World} {v : Value} {l : List Df}
set_option maxRecDepth 100000 in
set_option maxHeartbeats 8000000 in
theorem gOut_any (h : DefsAt w v l) (x f : Bs) : Calls Tryz.prog 12 #[v, .string ⟨x.toArray⟩, .string ⟨f.toArray⟩] w fun e w' => ∃ p n c, e = .returned (.tuple #[outV ((outT l x f).getD zO, .slice p n c), .bool (outT l x f).isSome]) ∧ InsAt w' (.slice p n c) ((outT l x f).getD zO).ar ∧ Below w.heap.size w w' := by
  have A0 := al1 w outZ
  have FD := gfind_any (h.on A0) x
  have hh := h
  obtain ⟨va, vc, rfl, _, _⟩ := h.slice
  by_cases hk : fndT l x < 0
  · rw [out_none hk]
    have hk2 : decide (fndT l x < 0) = true := by simpa using hk
    generalize fndT l x = k at *
    clear h hh
    go_enter Tryz.func12, Tryz.ntmps12
    go_wp2_with (first
      | (go_at_call 14; (with_reducible refine FD.mono ?_); rintro e w2 ⟨rfl, b2⟩; obtain ⟨c0, c1, c2, c3, cf⟩ := row4 (new_on b2))
      | fail)
    exact bodyPost_ret (v := .tuple #[.agg #[.string ⟨#[]⟩, .string ⟨#[]⟩, .string ⟨#[]⟩, .slice none 0 0], .bool false]) (by simp [results, Tryz.results12, go_sem, c0, c1, c2, c3]) rfl ⟨none, 0, 0, rfl, ins_none _, bel_kp (A0.trans (b2.mono A0.size)) (Nat.le_refl _) (kp4 _ _ _ _ _ _)⟩
  · obtain ⟨j, d, hj, hd, _⟩ := fnd_some hk
    obtain ⟨b, o, c, a1, n1, c1, a2, n2, c2, a3, n3, c3, hv, hbl, hlc, e0, e1, e2, e3, e4, _, hos, _⟩ := df_cells hh hd
    cases hv
    have hjl := (List.getElem?_eq_some_iff.1 hd).1
    have jl : ((j : Nat) : Int) < (l.length : Int) := by omega
    have jn : ((j : Nat) : Int).toNat = j := by omega
    have j0 : ¬ ((j : Nat) : Int) < 0 := by omega
    rw [out_some hj hd]
    rw [hj] at FD
    unfold fldO'
    by_cases hk2 : d.k = 2
    · have hk3 : ¬ d.k ≠ 2 := by simpa using hk2
      rw [if_neg hk3]
      cases hf : (f == tyN) with
      | true =>
        have hf2 : f = tyN := by simpa using hf
        have HF : Hid (f = tyN) := hf2
        rw [if_pos hf2]
        have hz2 : ((ByteArray.mk f.toArray).toList == (ByteArray.mk tyN.toArray).toList) = true := by rw [bytes_eq]; exact hf
        clear h hh hd hk hf2
        go_enter Tryz.func12, Tryz.ntmps12
        go_wp2_with (first
          | (go_at_call 14; (with_reducible refine FD.mono ?_); rintro e w2 ⟨rfl, b2⟩; have f1 := cell_on (A0.trans (b2.mono A0.size)) e1; rw [hk2] at f1)
          | (go_at_call 34; (with_reducible refine (gout_any _ _ _ _ _ _ _).mono ?_); rintro e w3 ⟨rfl, b3⟩; have b23 := b2.trans (b3.mono b2.size); obtain ⟨c0, c1, c2, c3, cf⟩ := row4 (new_on b23))
          | fail)
        exact bodyPost_ret (v := .tuple #[.agg #[.string ⟨f.toArray⟩, .string ⟨#[83, 116, 114, 105, 110, 103]⟩, .string ⟨#[33]⟩, .slice none 0 0], .bool true]) (by simp [results, Tryz.results12, go_sem, c0, c1, c2, c3]) rfl ⟨none, 0, 0, rfl, ins_none _, bel_kp (A0.trans (b23.mono A0.size)) (Nat.le_refl _) (kp4 _ _ _ _ _ _)⟩
      | false =>
        have hf2 : ¬ f = tyN := by simpa using hf
        rw [if_neg hf2]
        have hos' := hos
        obtain ⟨oa, oc, ho, _, _⟩ := hos.slice
        cases ho
        clear h hh hd hk hf2
        go_enter Tryz.func12, Tryz.ntmps12
        go_wp2_with (first
          | (go_at_call 14; (with_reducible refine FD.mono ?_); rintro e w2 ⟨rfl, b2⟩; have D2 := A0.trans (b2.mono A0.size); have f1 := cell_on D2 e1; rw [hk2] at f1; have f3 := cell_on D2 e3)
          | fail)
        go_loopw [35] (fun iv wr => ∃ i : Nat, iv = .int .i64 (i : Int) ∧ i ≤ d.os.length ∧ (∀ (q : Nat) z, q < i → d.os[q]? = some z → (z.n == f) = false) ∧ Below (w.alloc outZ).heap.size (w.alloc outZ) wr) (fun iv _ => d.os.length - (RowKit.intOf iv).toNat)
        case atStart => exact ⟨0, rfl, Nat.zero_le _, fun q z hq => absurd hq (Nat.not_lt_zero _), b2⟩
        case round =>
          obtain ⟨i, rfl, hi, hno, hbr⟩ := hrel
          have hbw := A0.trans (hbr.mono A0.size)
          by_cases hlt : i < d.os.length
          · obtain ⟨y, hy⟩ : ∃ y, d.os[i]? = some y := ⟨_, List.getElem?_eq_getElem hlt⟩
            obtain ⟨b5, o5, a5, n5, c5, ha, hn, _, hoc, g0, g1, g2, g3, hia, h48⟩ := ot_cells hos' hy
            cases ha
            have q0 := cell_on hbw g0
            have q1 := cell_on hbw g1
            have q2 := cell_on hbw g2
            have q3 := cell_on hbw g3
            have l1 : ((i : Nat) : Int) < (d.os.length : Int) := by omega
            have hiN : ((i : Nat) : Int).toNat = i := by omega
            have HK : Hid (i + 1 ≤ d.os.length) := hlt
            have HY : Hid (d.os[i]? = some y) := hy
            have HN : Hid (∀ (q : Nat) z, q < i → d.os[q]? = some z → (z.n == f) = false) := hno
            have CLN := clone_in ((hia.on hbw).on (al1 wr (outN y a5 n5 c5))) h48
            have hsz := hbr.size
            rw [World.size_alloc] at hsz
            have hne1 : ¬ wr.heap.size = w.heap.size := by omega
            have hne2 : ¬ w.heap.size = wr.heap.size := by omega
            clear hy hno hlt hos hos'
            cases hq : (y.n == f) with
            | true =>
              have HP : Hid (d.os.find? (fun o => o.n == f) = some y) := find_hit HY.out hq HN.out
              obtain ⟨yn, yt, yw, ya⟩ := y
              simp only at *
              go_wp2_with (first
                | (go_at_call 35; (with_reducible refine CLN.mono ?_); rintro e w5 ⟨v5, rfl, I5, b5'⟩; obtain ⟨p5, n6, m5, rfl⟩ := row_slc I5; obtain ⟨t0, t1, t2, t3, tf⟩ := row4 (new_on b5'); have bb := hbr.trans (((al1 wr _).trans (b5'.mono (al1 wr _).size)).mono hbr.size); obtain ⟨c0, c1, c2, c3, cf⟩ := row4 (new_on bb))
                | fail)
              have K1 : Kp (fun q => q = wr.heap.size) w5 (w5.setCell ⟨wr.heap.size, 3, none⟩ (.slice p5 n6 m5)) := (Kp.refl _ _).set _ 3 _ (Or.inr rfl)
              have N5 := (K1.block _ (lt_of_block (new_on bb)) (fun e => hne2 e)).trans (new_on bb)
              have I6 := (RowO.kp (RowO.kp I5 K1 (new_on b5') (by decide)) (kp4 _ w.heap.size (.string ⟨yn.toArray⟩) (.string ⟨yt.toArray⟩) (.string ⟨yw.toArray⟩) (.slice p5 n6 m5)) N5 (by decide))
              exact bodyPost_ret (v := .tuple #[.agg #[.string ⟨yn.toArray⟩, .string ⟨yt.toArray⟩, .string ⟨yw.toArray⟩, .slice p5 n6 m5], .bool true]) (by simp [results, Tryz.results12, go_sem, c0, c1, c2, c3]) rfl (by rw [HP.out]; exact ⟨p5, n6, m5, rfl, InR.at' (l := ya) I6 (by omega), bel_kp (bel_kp (A0.trans (bb.mono A0.size)) (by omega) K1) (Nat.le_refl _) (kp4 _ _ _ _ _ _)⟩)
            | false =>
              have hno2 : Hid (∀ (q : Nat) z, q < i + 1 → d.os[q]? = some z → (z.n == f) = false) := by
                intro q z hq1 hz1
                by_cases e : q = i
                · subst e
                  rw [HY.out] at hz1
                  cases hz1
                  exact hq
                · exact HN.out q z (by omega) hz1
              clear CLN
              go_wp2
              refine ⟨⟨i + 1, by simp, HK.out, hno2.out, hbr.alloc hbr.size _⟩, ?_⟩
              have := HK.out
              simp [RowKit.intOf]
              omega
          · have l2 : decide (((i : Nat) : Int) < (d.os.length : Int)) = false := by simp; omega
            have l3 : decide (i < d.os.length) = false := by simp; omega
            have HP : Hid (d.os.find? (fun o => o.n == f) = none) := find_miss fun q z hz => hno q z (by
              have := (List.getElem?_eq_some_iff.1 hz).1
              omega) hz
            obtain ⟨c0, c1, c2, c3, cf⟩ := row4 (new_on hbr)
            clear hno hlt hi hos hos'
            go_wp2
            exact bodyPost_ret (v := .tuple #[.agg #[.string ⟨#[]⟩, .string ⟨#[]⟩, .string ⟨#[]⟩, .slice none 0 0], .bool false]) (by simp [results, Tryz.results12, go_sem, c0, c1, c2, c3]) rfl (by rw [HP.out]; exact ⟨none, 0, 0, rfl, ins_none _, bel_kp hbw (Nat.le_refl _) (kp4 _ _ _ _ _ _)⟩)
    · have hk3 : d.k ≠ 2 := hk2
      rw [if_pos hk3]
      clear h hh hd hk
      have hk4 : (d.k != 2) = true := by simpa using hk2
      have j2 : decide (((j : Nat) : Int) < 0) = false := by simp
      go_enter Tryz.func12, Tryz.ntmps12
      go_wp2_with (first
        | (go_at_call 14; (with_reducible refine FD.mono ?_); rintro e w2 ⟨rfl, b2⟩; have f1 := cell_on (A0.trans (b2.mono A0.size)) e1; obtain ⟨c0, c1, c2, c3, cf⟩ := row4 (new_on b2))
        | fail)
      exact bodyPost_ret (v := .tuple #[.agg #[.string ⟨#[]⟩, .string ⟨#[]⟩, .string ⟨#[]⟩, .slice none 0 0], .bool false]) (by simp [results, Tryz.results12, go_sem, c0, c1, c2, c3]) rfl ⟨none, 0, 0, rfl, ins_none _, bel_kp (A0.trans (b2.mono A0.size)) (Nat.le_refl _) (kp4 _ _ _ _ _ _)⟩
end
end Go.Proofs.YtamkjpfomaapgaaGreatDoor
namespace Go.Proofs.YtamkjpfomaapgaaGreatDoor
open Go Go.RowKit Go.Shelf
abbrev exG : Sch := ⟨[⟨[84], [⟨[97], [73, 110, 116], [33], false, []⟩, ⟨[101], [69], [], false, []⟩, ⟨[98], [84], [33, 91, 33], false, []⟩]⟩], [⟨[69], [[65]]⟩]⟩
abbrev xF : Obj := .cells #[.string ⟨#[97]⟩, .string ⟨#[73, 110, 116]⟩, .string ⟨#[33]⟩, .bool false, .string ⟨#[]⟩, .string ⟨#[101]⟩, .string ⟨#[69]⟩, .string ⟨#[]⟩, .bool false, .string ⟨#[]⟩, .string ⟨#[98]⟩, .string ⟨#[84]⟩, .string ⟨#[33, 91, 33]⟩, .bool false, .string ⟨#[]⟩] 56
abbrev xO (b : Nat) : Obj := .cells #[.string ⟨#[84]⟩, .slice (some ⟨b, 0, none⟩) 3 3] 54
abbrev xW : Obj := .cells #[.string ⟨#[65]⟩] 9
abbrev xE (b : Nat) : Obj := .cells #[.string ⟨#[69]⟩, .slice (some ⟨b, 0, none⟩) 1 1] 59
theorem sch_exG {W : World} {b0 b1 b2 b3 : Nat} (h0 : W.heap[b0]? = some xF) (h1 : W.heap[b1]? = some (xO b0)) (h2 : W.heap[b2]? = some xW) (h3 : W.heap[b3]? = some (xE b2)) : SchAt W (.slice (some ⟨b1, 0, none⟩) 1 1) (.slice (some ⟨b3, 0, none⟩) 1 1) exG := by
  have cF : ∀ j, W.cell? ⟨b0, j, none⟩ = (#[Value.string ⟨#[97]⟩, .string ⟨#[73, 110, 116]⟩, .string ⟨#[33]⟩, .bool false, .string ⟨#[]⟩, .string ⟨#[101]⟩, .string ⟨#[69]⟩, .string ⟨#[]⟩, .bool false, .string ⟨#[]⟩, .string ⟨#[98]⟩, .string ⟨#[84]⟩, .string ⟨#[33, 91, 33]⟩, .bool false, .string ⟨#[]⟩] : Array Value)[j]? := fun j => by
    unfold World.cell?
    rw [h0]
    rfl
  have FA : FldsAt W (.slice (some ⟨b0, 0, none⟩) 3 3) [⟨[97], [73, 110, 116], [33], false, []⟩, ⟨[101], [69], [], false, []⟩, ⟨[98], [84], [33, 91, 33], false, []⟩] := by
    refine ⟨_, 3, rfl, Nat.le_refl _, by simp, fun _ => ⟨b0, 0, rfl, lt_of_block h0, fun i hi x hx => ?_⟩⟩
    change i < 3 at hi
    rcases (show i = 0 ∨ i = 1 ∨ i = 2 by omega) with rfl | rfl | rfl
    · simp only [List.getElem?_cons_zero] at hx
      cases hx
      exact ⟨cF 0, cF 1, cF 2, cF 3, cF 4⟩
    · simp only [List.getElem?_cons_zero, List.getElem?_cons_succ] at hx
      cases hx
      exact ⟨cF 5, cF 6, cF 7, cF 8, cF 9⟩
    · simp only [List.getElem?_cons_zero, List.getElem?_cons_succ] at hx
      cases hx
      exact ⟨cF 10, cF 11, cF 12, cF 13, cF 14⟩
  have WA : WdsAt W (.slice (some ⟨b2, 0, none⟩) 1 1) [[65]] := by
    refine ⟨_, 1, rfl, Nat.le_refl _, by simp, fun _ => ⟨b2, 0, rfl, lt_of_block h2, fun i hi x hx => ?_⟩⟩
    change i < 1 at hi
    obtain rfl : i = 0 := by omega
    simp only [List.getElem?_cons_zero] at hx
    cases hx
    exact (row1 h2).1
  refine ⟨⟨_, 1, rfl, Nat.le_refl _, by simp, fun _ => ⟨b1, 0, rfl, lt_of_block h1, fun i hi x hx => ?_⟩⟩, ⟨_, 1, rfl, Nat.le_refl _, by simp, fun _ => ⟨b3, 0, rfl, lt_of_block h3, fun i hi x hx => ?_⟩⟩⟩
  · change i < 1 at hi
    obtain rfl : i = 0 := by omega
    simp only [List.getElem?_cons_zero] at hx
    cases hx
    obtain ⟨q0, q1, _⟩ := row2 h1
    exact ⟨q0, _, q1, FA⟩
  · change i < 1 at hi
    obtain rfl : i = 0 := by omega
    simp only [List.getElem?_cons_zero] at hx
    cases hx
    obtain ⟨q0, q1, _⟩ := row2 h3
    exact ⟨q0, _, q1, WA⟩
theorem gx1 : chkS exG = 0 := by kernel_rfl
theorem gx2 : chkS ⟨[], []⟩ = 90 := by kernel_rfl
theorem gx3 : fndT (defT exG) [84] = 6 := by kernel_rfl
theorem gx4 : fndT (defT exG) [85] = -1 := by kernel_rfl
theorem gx5 : outT (defT exG) [84] [98] = some ⟨[98], [84], [33, 91, 33], argT [84]⟩ := by kernel_rfl
theorem gx6 : outT (defT exG) [84] tyN = some ⟨tyN, [83, 116, 114, 105, 110, 103], [33], []⟩ := by kernel_rfl
theorem gx7 : outT (defT exG) [65, 100, 100, 84] [97] = none := by kernel_rfl
theorem gx8 : (defT exG).length = 19 := by kernel_rfl
/-- The definitions of a schema that may be, in whatever world. -/
theorem DfR.defs {w : World} {B : Nat} {v : Value} {s : Sch} (h : DfR w B v (defT s)) (hs : OkD s) : DefsAt w v (defT s) := DfR.at h (def_sm hs).1 (def_sm hs).2
theorem ins_at {w : World} {a : Option Addr} {n c : Nat} {l : List Inn} {i : Nat} {x : Inn} (h : InsAt w (.slice a n c) l) (hx : l[i]? = some x) : ∃ b o, a = some ⟨b, o, none⟩ ∧ n = l.length ∧ b < w.heap.size ∧ l.length ≤ c ∧ InAt w x b (o + i * 3) := by
  obtain ⟨a0, c0, he, hc, _, hr⟩ := h
  cases he
  have hi := (List.getElem?_eq_some_iff.1 hx).1
  obtain ⟨b, o, rfl, hb, hH⟩ := hr (by omega)
  exact ⟨b, o, rfl, rfl, hb, hc, hH i hi x hx⟩
theorem al5 (w : World) (o0 o1 o2 o3 o4 : Obj) : Below w.heap.size w (((((w.alloc o0).alloc o1).alloc o2).alloc o3).alloc o4) := (((al3 w o0 o1 o2).alloc (al3 w o0 o1 o2).size o3)).alloc ((al3 w o0 o1 o2).alloc (al3 w o0 o1 o2).size o3).size o4
theorem new5 (w : World) (o0 o1 o2 o3 o4 : Obj) : (((((w.alloc o0).alloc o1).alloc o2).alloc o3).alloc o4).heap[w.heap.size]? = some o0 ∧ (((((w.alloc o0).alloc o1).alloc o2).alloc o3).alloc o4).heap[w.heap.size + 1]? = some o1 ∧ (((((w.alloc o0).alloc o1).alloc o2).alloc o3).alloc o4).heap[w.heap.size + 1 + 1]? = some o2 ∧ (((((w.alloc o0).alloc o1).alloc o2).alloc o3).alloc o4).heap[w.heap.size + 1 + 1 + 1]? = some o3 ∧ (((((w.alloc o0).alloc o1).alloc o2).alloc o3).alloc o4).heap[w.heap.size + 1 + 1 + 1 + 1]? = some o4 := by
  have z : (((w.alloc o0).alloc o1).alloc o2).heap.size = w.heap.size + 1 + 1 + 1 := by rw [World.size_alloc, World.size_alloc, World.size_alloc]
  have t := al2 (((w.alloc o0).alloc o1).alloc o2) o3 o4
  have n3 := (((al1 ((((w.alloc o0).alloc o1).alloc o2).alloc o3) o4).block _ (by simp)).trans (heap_alloc_new (((w.alloc o0).alloc o1).alloc o2) o3))
  have n4 := new2 (((w.alloc o0).alloc o1).alloc o2) o3 o4
  rw [z] at n3 n4
  exact ⟨(t.block _ (by rw [z]; omega)).trans (new31 w o0 o1 o2), (t.block _ (by rw [z]; omega)).trans (new32 w o0 o1 o2), (t.block _ (by rw [z]; omega)).trans (new33 w o0 o1 o2), n3, n4⟩
set_option maxRecDepth 100000 in
set_option maxHeartbeats 20000000 in
theorem gfixed_any (w : World) (gl : Gl w) : Calls Tryz.prog 11 #[] w fun e w' => e = .returned (.bool true) ∧ Below w.heap.size w w' := by
  obtain ⟨W0, hW0⟩ : ∃ W0, W0 = ((((w.alloc xF).alloc (xO w.heap.size)).alloc xW).alloc (xE (w.heap.size + 1 + 1))).alloc (schO (.slice (some ⟨w.heap.size + 1, 0, none⟩) 1 1) (.slice (some ⟨w.heap.size + 1 + 1 + 1, 0, none⟩) 1 1)) := ⟨_, rfl⟩
  have A0 : Below w.heap.size w W0 := by rw [hW0]; exact al5 w _ _ _ _ _
  obtain ⟨b0, b1, b2, b3, b4⟩ := new5 w xF (xO w.heap.size) xW (xE (w.heap.size + 1 + 1)) (schO (.slice (some ⟨w.heap.size + 1, 0, none⟩) 1 1) (.slice (some ⟨w.heap.size + 1 + 1 + 1, 0, none⟩) 1 1))
  rw [← hW0] at b0 b1 b2 b3 b4
  have S0 := sch_exG b0 b1 b2 b3
  have OK : Hid (OkD exG) := chk_ok.1 gx1
  have GL : ∀ {X : World}, Below W0.heap.size W0 X → Gl X := fun d => gl.below (A0.trans (d.mono A0.size)) (Nat.le_refl _)
  have T1 := gtypes_ok S0 (GL (Below.refl _ _)) gx1
  have T2 := fun {X : World} (d : Below W0.heap.size W0 X) => gtypes_no (sch_none X) (GL d) (by rw [gx2]; decide)
  have nx : ∀ {X Y : World}, Below W0.heap.size W0 X → Below X.heap.size X Y → Below W0.heap.size W0 Y := fun p q => p.trans (q.mono p.size)
  have al : ∀ {X : World} {o : Obj}, Below W0.heap.size W0 X → Below W0.heap.size W0 (X.alloc o) := fun p => p.alloc p.size _
  obtain ⟨s0, s1, _⟩ := row2 b4
  rw [gx2] at T2
  have HW : Hid (W0 = ((((w.alloc xF).alloc (xO w.heap.size)).alloc xW).alloc (xE (w.heap.size + 1 + 1))).alloc (schO (.slice (some ⟨w.heap.size + 1, 0, none⟩) 1 1) (.slice (some ⟨w.heap.size + 1 + 1 + 1, 0, none⟩) 1 1))) := hW0
  rw [hW0] at T1
  have D0 : Below W0.heap.size W0 (((((w.alloc xF).alloc (xO w.heap.size)).alloc xW).alloc (xE (w.heap.size + 1 + 1))).alloc (schO (.slice (some ⟨w.heap.size + 1, 0, none⟩) 1 1) (.slice (some ⟨w.heap.size + 1 + 1 + 1, 0, none⟩) 1 1))) := by rw [hW0]; exact Below.refl _ _
  clear b0 b1 b2 b3 b4 S0 hW0 gl GL
  go_enter Tryz.func11, Tryz.ntmps11
  go_wp2_with (first
    | (go_at_call 9; (first
        | ((with_reducible refine T1.mono ?_); rintro e x1 ⟨v1, rfl, R1, b1⟩; have D := nx D0 b1; have DA := DfR.defs R1 OK.out; obtain ⟨lp, hlp, RR, _⟩ := R1; obtain ⟨pl, nl, cl, hsl⟩ := row_slc RR; have hn : nl = 19 := (by obtain ⟨_, _, e⟩ := RowO.slice RR; rw [hsl] at e; injection e with _ e _; rw [e, ← gx8, ← hlp, List.length_map]); subst hn; subst hsl; clear b1 RR hlp)
        | ((with_reducible refine (T2 D).mono ?_); rintro e x2 ⟨rfl, b2⟩; replace D := nx D b2; replace DA := DA.on b2; clear b2)))
    | (go_at_call 12; (first
        | ((with_reducible refine (gOut_any DA [84] [98]).mono ?_); rw [gx5]; rintro e x3 ⟨p3, n3, c3, rfl, I3, b3⟩; replace D := nx D b3; replace DA := DA.on b3; clear b3; obtain ⟨bq, oq, e3, en3, _, ec3, k0, k1, k2⟩ := ins_at (i := 0) I3 rfl; subst e3; obtain rfl : n3 = 4 := en3; have N3 := heap_alloc_new x3 (outN ⟨[98], [84], [33, 91, 33], []⟩ (some ⟨bq, oq, none⟩) 4 c3); rw [Nat.zero_mul, Nat.add_zero] at k0 k1 k2)
        | ((with_reducible refine (gOut_any (DA.on (al1 _ _)) [84] tyN).mono ?_); rw [gx6]; rintro e x4 ⟨p4, n4, c4, rfl, _, b4⟩; replace D := nx (al D) b4; replace DA := (DA.on (al1 _ _)).on b4; replace N3 := (b4.block _ (lt_of_block N3)).trans N3; replace k0 := cell_on b4 (cell_on (al1 _ _) k0); replace k1 := cell_on b4 (cell_on (al1 _ _) k1); replace k2 := cell_on b4 (cell_on (al1 _ _) k2); clear b4; have N4 := heap_alloc_new x4 (outN ⟨tyN, [83, 116, 114, 105, 110, 103], [33], []⟩ p4 n4 c4))
        | ((with_reducible refine (gOut_any (DA.on (al1 _ _)) [65, 100, 100, 84] [97]).mono ?_); rw [gx7]; rintro e x5 ⟨p5, n5, c5, rfl, _, b5⟩; replace D := nx (al D) b5; replace DA := (DA.on (al1 _ _)).on b5; replace N3 := (b5.block _ (Nat.lt_of_lt_of_le (lt_of_block N3) (al1 _ _).size)).trans (((al1 _ _).block _ (lt_of_block N3)).trans N3); replace N4 := (b5.block _ (lt_of_block N4)).trans N4; replace k0 := cell_on b5 (cell_on (al1 _ _) k0); replace k1 := cell_on b5 (cell_on (al1 _ _) k1); replace k2 := cell_on b5 (cell_on (al1 _ _) k2); clear b5)))
    | (go_at_call 14; (first
        | ((with_reducible refine (gfind_any (DA.on (al1 _ _)) [84]).mono ?_); rw [gx3]; rintro e x6 ⟨rfl, b6⟩; replace D := nx (al D) b6; replace DA := (DA.on (al1 _ _)).on b6; replace N3 := (b6.block _ (Nat.lt_of_lt_of_le (lt_of_block N3) (al1 _ _).size)).trans (((al1 _ _).block _ (lt_of_block N3)).trans N3); replace N4 := (b6.block _ (Nat.lt_of_lt_of_le (lt_of_block N4) (al1 _ _).size)).trans (((al1 _ _).block _ (lt_of_block N4)).trans N4); replace k0 := cell_on b6 (cell_on (al1 _ _) k0); replace k1 := cell_on b6 (cell_on (al1 _ _) k1); replace k2 := cell_on b6 (cell_on (al1 _ _) k2); clear b6)
        | ((with_reducible refine (gfind_any DA [85]).mono ?_); rw [gx4]; rintro e x7 ⟨rfl, b7⟩; replace D := nx D b7; replace DA := DA.on b7; replace N3 := (b7.block _ (lt_of_block N3)).trans N3; replace N4 := (b7.block _ (lt_of_block N4)).trans N4; replace k0 := cell_on b7 k0; replace k1 := cell_on b7 k1; replace k2 := cell_on b7 k2; clear b7; have u3 := (row4 N3).2.2.2.1; have v1 := (row4 N4).2.1; have v2 := (row4 N4).2.2.1)))
    | fail)
  go_ret
  exact ⟨rfl, A0.trans (D.mono A0.size)⟩
end Go.Proofs.YtamkjpfomaapgaaGreatDoor
