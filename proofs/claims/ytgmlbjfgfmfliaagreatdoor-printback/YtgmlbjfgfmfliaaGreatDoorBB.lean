/- PrintBack, walked. -/
import Derived.Test.YtgmlbjfgfmfliaaGreatDoorA27
import Derived.Test.YtgmlbjfgfmfliaaGreatDoorBA
namespace Go.Proofs.YtgmlbjfgfmfliaaGreatDoor
open Go Go.RowKit Go.Shelf
/-- The trees of a document that is read back are ones that parse reads. -/
theorem doc_T {os : List Oq} {fs : List Fg} {us : List Bs} (h : docW os fs = some us) (S : Short us) (g : goodDoc os fs = true) : RowP OpT (os.map ctO) ∧ RowP FragT (fs.map ctF):=by
 obtain ⟨ts,e,hs⟩:=lex_join (docU os fs us h) S.1 S.2
 obtain ⟨h0,h1⟩:=docW_row h
 have A:=back_some back_item (last:=[]) (z:=eofT (joinW us).length) (m:=[]) (by rfl) trivial item_first _ h0 us (ts ++ [eofT (joinW us).length]) h1 ⟨ts,rfl,hs⟩
 have hg : (os.map Sum.inl ++ fs.map Sum.inr : List (Oq ⊕ Fg)).all goodI = true:=by
  have : (os.map Sum.inl ++ fs.map Sum.inr : List (Oq ⊕ Fg)).all goodI = goodDoc os fs:=by simp [goodDoc,List.all_append,List.all_map,Function.comp_def,goodI]
  rw [this,g]
 have A':=A.yes hg
 have hl : (ts ++ [eofT (joinW us).length]).length ≤ 1099511627776:=by
  have:=(lexS_full e).1
  simp only [List.length_append,List.length_cons,List.length_nil]
  omega
 obtain ⟨r1,r2⟩:=someS_reads itemS_eats itemS_reads _ _ _ hl A'
 simp only [List.length_map,List.length_append] at r1
 refine ⟨⟨by rw [List.length_map];omega,fun x hx => ?_⟩,⟨by rw [List.length_map];omega,fun x hx => ?_⟩⟩
 ·obtain ⟨y,hy,rfl⟩:=List.mem_map.1 hx
  exact r2 (ctI (Sum.inl y)) (List.mem_map.2 ⟨_,List.mem_append.2 (Or.inl (List.mem_map.2 ⟨y,hy,rfl⟩)),rfl⟩)
 ·obtain ⟨y,hy,rfl⟩:=List.mem_map.1 hx
  exact r2 (ctI (Sum.inr y)) (List.mem_map.2 ⟨_,List.mem_append.2 (Or.inr (List.mem_map.2 ⟨y,hy,rfl⟩)),rfl⟩)
/-- A document that may be written is told the same as itself, wherever both lie. -/
theorem same_two {os : List Oq} {fs : List Fg} {t : Bs} (hp : printP os fs = some t) {w : World} {o f o' f' : Value} (h1 : OsAt w (fun k => k < w.heap.size) o os) (h2 : FsAt w (fun k => k < w.heap.size) f fs) (h3 : OsAt w (fun k => k < w.heap.size) o' os) (h4 : FsAt w (fun k => k < w.heap.size) f' fs) : Calls Tryz.prog 16 #[.agg #[o,f],.agg #[o',f']] w fun e w' => e = .returned (.bool true) ∧ Below w.heap.size w w':=by
 obtain ⟨us,hd,S,g,_⟩:=printP_some.1 hp
 obtain ⟨T1,T2⟩:=doc_T hd S g
 exact doc_same T1 T2 w _ _ [o,f] [o',f'] (fun _ hk => hk) (fun _ hk => hk) (.cons h1 (.cons h2 .nil)) (.cons h3 (.cons h4 .nil))
theorem parse_two {os : List Oq} {fs : List Fg} {t : Bs} (hp : printP os fs = some t) {w : World} (gl : Gl w) : Calls Tryz.prog 15 #[.string ⟨t.toArray⟩] w fun e w' => ∃ (o1 : Option Addr) (n1 z1 : Nat) (o2 : Option Addr) (n2 z2 : Nat),e = .returned (.tuple #[.agg #[.slice o1 n1 z1,.slice o2 n2 z2],.int .i64 0,.int .i64 0]) ∧ Hid (OsAt w' (fun k => k < w'.heap.size) (.slice o1 n1 z1) os) ∧ Hid (FsAt w' (fun k => k < w'.heap.size) (.slice o2 n2 z2) fs) ∧ Below w.heap.size w w':=by
 have P:=parse_any t w gl
 rw [print_parse hp] at P
 refine P.mono ?_
 rintro e w' ⟨⟨v,rfl,hd⟩,hb⟩
 obtain ⟨o1,n1,z1,o2,n2,z2,rfl,hO,hF⟩:=doc_at hd
 exact ⟨o1,n1,z1,o2,n2,z2,rfl,hO,hF,hb⟩
set_option maxRecDepth 100000 in
set_option maxHeartbeats 8000000 in
theorem back_walk {w : World} (os : List Oq) (fs : List Fg) (o f : Value) (hO : OsAt w (fun k => k < w.heap.size) o os) (hF : FsAt w (fun k => k < w.heap.size) f fs) (L : DcL os fs) (gl : Gl w) (tz : Tz w) : Calls Tryz.prog 5 #[.agg #[o,f]] w fun e w' => e = .returned (.bool true) ∧ Below w.heap.size w w':=by
 obtain ⟨p1,c1,rfl⟩:=row_sl hO
 obtain ⟨p2,c2,rfl⟩:=row_sl hF
 obtain ⟨w0,hw0⟩ : ∃ w0,w0 = w.alloc (.cells #[.slice p1 os.length c1,.slice p2 fs.length c2] 25):=⟨_,rfl⟩
 have b0 : Below w.heap.size w w0:=by rw [hw0];exact al1 w _
 have ok0 : Ok7 w w0:=⟨b0,gl.below b0 (Nat.le_refl _),tz.below b0 (Nat.le_refl _)⟩
 obtain ⟨x0,y0,_⟩:=row2 (show w0.heap[w.heap.size]? = some (.cells #[.slice p1 os.length c1,.slice p2 fs.length c2] 25 (0,0)) by rw [hw0];exact heap_alloc_new w _)
 have PR : ∀ {W : World},Ok7 w W → Calls Tryz.prog 9 #[.agg #[.slice p1 os.length c1,.slice p2 fs.length c2]] W (PrntP W (printP os fs)):=fun {W} ok => print_any os fs p1 p2 _ c1 _ c2 (hO.next ok.bel) (hF.next ok.bel) L ok.gl ok.tz
 have CK : ∀ {W : World},Ok7 w W → Calls Tryz.prog 12 #[.agg #[.slice p1 os.length c1,.slice p2 fs.length c2]] W fun e w' => e = .returned (.int .i64 (if (printP os fs).isSome then 0 else 70)) ∧ Below W.heap.size W w':=fun {W} ok => check_any os fs p1 p2 _ c1 _ c2 (hO.next ok.bel) (hF.next ok.bel) L ok.gl ok.tz
 cases hp : printP os fs with
 | none =>
  rw [hp] at PR CK
  have PR0 : Calls Tryz.prog 9 #[.agg #[.slice p1 os.length c1,.slice p2 fs.length c2]] w0 fun e w' => e = .returned (.tuple #[.string ⟨#[]⟩,.int .i64 70]) ∧ Below w0.heap.size w0 w':=PR ok0
  have CK0 : ∀ {W : World},Ok7 w W → Calls Tryz.prog 12 #[.agg #[.slice p1 os.length c1,.slice p2 fs.length c2]] W fun e w' => e = .returned (.int .i64 70) ∧ Below W.heap.size W w':=fun ok => CK ok
  clear PR CK
  go_enter Tryz.func5,Tryz.ntmps5
  go_wp2_with (first
   | (go_at_call 12;(with_reducible refine (CK0 ok2).mono ?_);rintro e w3 ⟨rfl,b3⟩;have ok3:=ok2.next b3)
   | (go_at_call 11;(with_reducible refine (fixed_any _ ok1.gl ok1.tz).mono ?_);rintro e w2 ⟨rfl,b2⟩;have ok2:=ok1.next b2;have x2:=cell_on b2 x1;have y2:=cell_on b2 y1)
   | (go_at_call 9;rw [← hw0];(with_reducible refine PR0.mono ?_);rintro e w1 ⟨rfl,b1⟩;have ok1:=ok0.next b1;have x1:=cell_on b1 x0;have y1:=cell_on b1 y0)
   | fail)
  go_ret
  exact ⟨rfl,ok3.bel⟩
 | some t =>
  rw [hp] at PR CK
  have PR0 : Calls Tryz.prog 9 #[.agg #[.slice p1 os.length c1,.slice p2 fs.length c2]] w0 fun e w' => e = .returned (.tuple #[.string ⟨t.toArray⟩,.int .i64 0]) ∧ Below w0.heap.size w0 w':=PR ok0
  have CK0 : ∀ {W : World},Ok7 w W → Calls Tryz.prog 12 #[.agg #[.slice p1 os.length c1,.slice p2 fs.length c2]] W fun e w' => e = .returned (.int .i64 0) ∧ Below W.heap.size W w':=fun ok => CK ok
  have HP : Hid (printP os fs = some t):=hp
  clear PR CK hp
  go_enter Tryz.func5,Tryz.ntmps5
  go_wp2_with (first
   | (go_at_call 16;(with_reducible refine (same_two (w:=w4.alloc (.cells #[.slice o1 n1 z1,.slice o2 n2 z2] 25)) HP.out (HO4.out.next (al1 w4 _)) (HF4.out.next (al1 w4 _)) (hO.next ok5.bel) (hF.next ok5.bel)).mono ?_);rintro e w6 ⟨rfl,b6⟩;have ok6:=ok5.next b6)
   | (go_at_call 15;(with_reducible refine (parse_two HP.out ok3.gl).mono ?_);rintro e w4 ⟨o1,n1,z1,o2,n2,z2,rfl,HO4,HF4,b4⟩;have ok4:=ok3.next b4;have ok5:=ok4.alloc (.cells #[.slice o1 n1 z1,.slice o2 n2 z2] 25);have x4:=cell_on (al1 w4 (.cells #[.slice o1 n1 z1,.slice o2 n2 z2] 25)) (cell_on b4 x3);have y4:=cell_on (al1 w4 (.cells #[.slice o1 n1 z1,.slice o2 n2 z2] 25)) (cell_on b4 y3))
   | (go_at_call 12;(with_reducible refine (CK0 ok2).mono ?_);rintro e w3 ⟨rfl,b3⟩;have ok3:=ok2.next b3;have x3:=cell_on b3 x2;have y3:=cell_on b3 y2)
   | (go_at_call 11;(with_reducible refine (fixed_any _ ok1.gl ok1.tz).mono ?_);rintro e w2 ⟨rfl,b2⟩;have ok2:=ok1.next b2;have x2:=cell_on b2 x1;have y2:=cell_on b2 y1)
   | (go_at_call 9;rw [← hw0];(with_reducible refine PR0.mono ?_);rintro e w1 ⟨rfl,b1⟩;have ok1:=ok0.next b1;have x1:=cell_on b1 x0;have y1:=cell_on b1 y0)
   | fail)
  go_ret
  exact ⟨rfl,ok6.bel⟩
end Go.Proofs.YtgmlbjfgfmfliaaGreatDoor
