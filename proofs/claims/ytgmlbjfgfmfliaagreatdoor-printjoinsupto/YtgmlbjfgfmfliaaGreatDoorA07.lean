/- Selections: spreads, inline fragments, fields. -/
import Derived.Test.YtgmlbjfgfmfliaaGreatDoorB3
namespace Go.Proofs.YtgmlbjfgfmfliaaGreatDoor
open Go Go.RowKit
theorem Tryz.infoVar : (Tryz.prog.info? 99).map (fun i => (i.zero,i.size,i.bytes)) = some (some (.agg #[.string ⟨#[]⟩,.string ⟨#[]⟩,.string ⟨#[]⟩,.bool false,.int .i64 0,.string ⟨#[]⟩,.slice none 0 0,.slice none 0 0,.slice none 0 0]),9,152):=by kernel_rfl
section
variable {R g cap : Nat} {T : List Tok} {fx : Bool} {a b c : Nat} {V P B : Nat} {cur : Array Value} {ty tp : TypeId}
attribute [local go_sem ↓] Go.wp_at_zero Go.wp_at_succ
set_option maxRecDepth 100000 in
set_option maxHeartbeats 8000000 in
theorem vars1_item (pl : Pl R g V P B) (hi : 0 < cur.size) : ItemR R g cap T true a 0 0 V P B cur ty tp 0 99 9 156 #[.pointer (some ⟨V,0,none⟩),.pointer (some ⟨P,0,none⟩)] varDefS:=by
 intro els l w lv xs D hj hn h hl
 obtain ⟨o,lc,rfl⟩:=hj.slice
 have XA:=varDef_any h.drew hl
 have cP:=hj.ptr
 have cV:=hj.cell hi
 have HJ : Hid (Js R V P B cur ty tp 0 99 9 w els (.slice o els.length lc) xs D):=hj
 have hsz:=hj.size
 have hn2 : els.length ≤ 2049:=by omega
 obtain ⟨ti,hti,hy0,hy1,hy2⟩:=info_parts Tryz.infoVar
 clear hj
 go_enter Tryz.func156,Tryz.ntmps156
 go_wp2
 go_region_law (first
  | (refine step_append_lies _ (by rfl) (.tmp 2) (.tmp 5) 49 (by rfl) B 99 ti _ 9 152 Tryz.underlying49 hti hy0 hy1 hy2 rfl (by decide) (.slice o els.length lc) els.length xs (by rfl) (HO.out.alloc _) ⟨w2.heap.size,0,none⟩ 1 1 [.string t0,.string t1,.string t2,.bool hs,.int .i64 kk,.string tx,.slice o1 i1 z1,.slice o2 i2 z2,.slice o3 i3 z3] (by rfl) rfl (World.news_of_block (heap_alloc_new _ _)) (by intro u hu;simp at hu;rcases hu with rfl | rfl | rfl | rfl | rfl | rfl | rfl | rfl | rfl <;> rfl) (by decide) (by unfold maxLen;omega) (by omega) (by simp;omega) (w2.heap.size + 1) (by simp) ?_;intro q cp w3 own2 hgr hor hlt2;have OW : Hid _:=own2;have GR : Hid _:=hgr;have OR : Hid _:=hor;clear own2 hgr hor;have hv2:=HJ.out.var2 pl ((Kp.refl Non w).drew) K2.out ((Kp.refl Non w2).alloc _) GR.out;have e0 : w3.cell? ⟨V,0,none⟩ = some (.slice o els.length lc):=(by simp [World.cell?,hv2,hi]);have ef:=frozen_of_row w3 V 0 _ _ hv2;clear hv2)
  | (go_simp;go_wp2_with (first
    | (go_at_call 157;(with_reducible refine XA.mono ?_);rintro e w2 (⟨p,hq,rfl,k2⟩ | ⟨cs,m,v,hq,rfl,⟨t0,t1,t2,hs,kk,tx,o1,i1,z1,o2,i2,z2,o3,i3,z3,rfl,hat⟩,h2,m2,k2⟩);(exact ⟨rfl,Or.inl ⟨p,hq,rfl,((Kp.refl (Own1 R) w).drew).trans k2⟩⟩);have K2 : Hid _:=k2;have j2:=HJ.out.kp pl (((Kp.refl (Own1 R) w).drew).trans k2);have v2:=j2.cell hi;have f2:=j2.free 0;have p2:=j2.ptr;have aV:=fun o => cell_on (al1 w2 o) v2;have HO : Hid (w2.ownsRow B 99 9 (.slice o els.length lc) els.length xs):=j2.own;have hz2 : w.heap.size ≤ w2.heap.size:=k2.size;have AT : Hid _:=hat;have H2 : Hid _:=h2;have HQ : Hid _:=hq;clear k2 hat h2 hq j2)
    | fail))
  | fail)
 all_goals go_end0
 all_goals exact item_endB HJ.out pl ((Kp.refl Non w).drew) K2.out AT.out ((Kp.refl Non w2).alloc _) GR.out (World.size_alloc _ _) OR.out OW.out HQ.out H2.out m2 rfl
set_option maxRecDepth 100000 in
set_option maxHeartbeats 2000000 in
theorem vars_any {w : World} {l : List Tok} (h : Sx R g cap T w l false a 0 0) (hl : l ≠ []) : Calls Tryz.prog 111 #[.pointer (some ⟨R,0,none⟩)] w (Out R g cap T w false a 0 0 (varsS l) (RowV 99 9 w.heap.size)):=by
 have hmf : ∀ (fn : Fn) (first cap : Array Value) (w : World),(Instr.makeFunc fn first cap).run Tryz.prog w = .ok (.func fn first cap) w:=fun _ _ _ _ => rfl
 have hR:=h.ltR
 have hg:=h.lt
 have pl:=preA_pl hR hg
 have hS0 : Sx R g cap T (preA R 49 w) l false a 0 0:=(h.alloc _).alloc _
 have TK:=ytake_any [40] hS0 hl
 have HA : Hid _:=some_any 156 #[.pointer (some ⟨w.heap.size + 1,0,none⟩),.pointer (some ⟨w.heap.size,0,none⟩)] (fun _ _ => rfl) [41] varDefS varDefS_eats _ (Kp (Own1 R) w) (Jr.kp (cur:=#[.slice none 0 0]) (ty:=49) (tp:=118) (i:=0) (E:=99) (sz:=9) (W0:=preA R 49 w) pl) (oneR_of (preA_size _ _ _).symm varDefS_eats w (preA_kp R _ w) (vars1_item (cap:=cap) (T:=T) (a:=a) pl (by decide)))
 go_enter Tryz.func111,Tryz.ntmps111
 go_wp2_with (first
  | (go_at_call 64;refine (HA.out [] _ _ (preA_start hR (k1.trans (Kp.own R 2 (.bool true))) (h1.fix true) (Nat.le_refl _)) (h1.fix true) (hS0.next (by simp) hp)).mono ?_;rintro e w2 (⟨p,hq,rfl,k2⟩ | ⟨ys,m,hq,rfl,⟨⟨lv,xs,D,hj⟩,hlen,k2⟩,h2,n2⟩);(exact ⟨rfl,Or.inl ⟨p,by simp only [varsS,hp,if_true,hq],rfl,k2⟩⟩);obtain ⟨o,lc,rfl⟩:=hj.slice;have v0:=hj.cell (by decide);have p0:=hj.ptr;have r2:=h2.c2;have g2:=h2.free 2;have HJ : Hid _:=hj;have KR : Hid _:=preA_kp R _ w _ k2;clear hj)
  | (go_at_call 146;refine TK.mono ?_;(rintro e w1 (⟨hp,rfl,h1,k1⟩ | ⟨hp,rfl,h1,k1⟩) <;> (have cP1:=(row1 (old_row (preA_P R _ w) k1 (fun e => by have e' : w.heap.size = R:=e;omega))).1;have v1:=(row1 (old_row (preA_V R _ w) k1 (fun e => by have e' : w.heap.size + 1 = R:=e;omega))).1;have r1:=h1.c2;have g1:=h1.free 2))))
 ·go_ret
  have K3 : Kp (Own1 R) w2 (w2.setCell ⟨R,2,none⟩ (.bool false)):=Kp.own R 2 _
  exact Or.inr ⟨ys,m,_,by simp only [varsS,hp,if_true,hq],rfl,row_told (HJ.out.kp pl K3),h2.fix false,n2 (by simp),KR.out.trans K3⟩
 ·go_ret
  exact Or.inr ⟨[],l,_,by simp only [varsS,hp,Bool.false_eq_true,if_false],rfl,⟨⟨_,_,_,rfl⟩,.nil _ _⟩,h1,hl,preA_kp R _ w _ (k1.mono (fun _ _ e => Or.inl e))⟩
end
end Go.Proofs.YtgmlbjfgfmfliaaGreatDoor
namespace Go.Proofs.YtgmlbjfgfmfliaaGreatDoor
open Go Go.RowKit
/-- What a selection's reading tells. -/
def SelV (lo : Nat) (cs : List CT) (v : Value) (w : World) : Prop:=∃ (k : Int) (x y z : ByteArray) (o1 : Option Addr) (n1 z1 : Nat) (o2 : Option Addr) (n2 z2 : Nat) (o3 : Option Addr) (n3 z3 : Nat),v = .agg #[.int .i64 k,.string x,.string y,.string z,.slice o1 n1 z1,.slice o2 n2 z2,.slice o3 n3 z3] ∧ Ats w (Iv lo w.heap.size) cs [.int .i64 k,.string x,.string y,.string z,.slice o1 n1 z1,.slice o2 n2 z2,.slice o3 n3 z3]
def SelP (R g cap : Nat) (T : List Tok) (a : Nat) (st : List Tok → Rs (List (List CT))) : Prop:=∀ w l,Sx R g cap T w l false a 0 0 → l ≠ [] → Calls Tryz.prog 155 #[.pointer (some ⟨R,0,none⟩)] w (Out R g cap T w false a 0 0 (selS st l) (SelV w.heap.size))
theorem Tryz.infoSel : (Tryz.prog.info? 48).map (fun i => (i.zero,i.size,i.bytes)) = some (some (.agg #[.int .i64 0,.string ⟨#[]⟩,.string ⟨#[]⟩,.string ⟨#[]⟩,.slice none 0 0,.slice none 0 0,.slice none 0 0]),7,128):=by kernel_rfl
abbrev zeroS : Obj:=.cells #[.int .i64 0,.string ⟨#[]⟩,.string ⟨#[]⟩,.string ⟨#[]⟩,.slice none 0 0,.slice none 0 0,.slice none 0 0] 48
abbrev zerosS : List Value:=[.int .i64 0,.string ⟨#[]⟩,.string ⟨#[]⟩,.string ⟨#[]⟩,.slice none 0 0,.slice none 0 0,.slice none 0 0]
theorem zerosS_one : ∀ u ∈ zerosS,u.oneCell' = true:=by intro u hu;simp [zerosS] at hu;rcases hu with rfl | rfl | rfl <;> rfl
section
variable {V B : Nat}
/-- What one more place in the row leaves. -/
theorem place7 {i E : Nat} {w1 W2 w2 : World} {els : List (List CT)} {lv : Value} {xs : List Value} {q cp : Nat} {z0 z1 z2 z3 z4 z5 z6 : Value} (cV : w1.cell? ⟨V,i,none⟩ = some lv) (fV : w1.frozen? ⟨V,i,none⟩ = false) (hV : V < B) (HO : w1.ownsRow B E 7 lv els.length xs) (hW2 : Below w1.heap.size w1 W2) (hgr : W2.grownBy w2 lv.ownBlock)
  (own : w2.ownsRow B E 7 (.slice (some ⟨q,0,none⟩) (els.length + 1) cp) (els.length + 1) (xs ++ [z0,z1,z2,z3,z4,z5,z6])) :
  w2.cell? ⟨V,i,none⟩ = some lv ∧ w2.frozen? ⟨V,i,none⟩ = false ∧ w2.cell? ⟨q,els.length * 7,none⟩ = some z0 ∧ w2.cell? ⟨q,els.length * 7 + 1,none⟩ = some z1 ∧ w2.cell? ⟨q,els.length * 7 + 2,none⟩ = some z2 ∧ w2.cell? ⟨q,els.length * 7 + 3,none⟩ = some z3 ∧ w2.cell? ⟨q,els.length * 7 + 4,none⟩ = some z4 ∧ w2.cell? ⟨q,els.length * 7 + 5,none⟩ = some z5 ∧ w2.cell? ⟨q,els.length * 7 + 6,none⟩ = some z6 ∧ (∀ j,w2.frozen? ⟨q,j,none⟩ = false) ∧ ¬ q = V ∧ ¬ V = q:=by
 have hBq : B ≤ q:=(own_block own rfl).1
 have hl:=HO.1
 have hb : w2.heap[V]? = w1.heap[V]?:=(hgr.block V (Nat.lt_of_lt_of_le (World.block_lt_of_cell? w1 _ cV) hW2.size) (fun e => by have:=(own_block HO e.symm).1;omega)).trans (hW2.block V (World.block_lt_of_cell? w1 _ cV))
 have hc : ∀ j,j < 7 → w2.cell? ⟨q,els.length * 7 + j,none⟩ = [z0,z1,z2,z3,z4,z5,z6][j]?:=fun j hj => by
  rw [own.cellAt _ (by omega),List.getElem?_append_right (by omega),hl,Nat.add_sub_cancel_left]
 exact ⟨(by rw [← cV];simp only [World.cell?,hb]),(by rw [← fV];simp only [World.frozen?,hb]),hc 0 (by decide),hc 1 (by decide),hc 2 (by decide),hc 3 (by decide),hc 4 (by decide),hc 5 (by decide),hc 6 (by decide),fun j => own.frozenAt j,by omega,by omega⟩
end
end Go.Proofs.YtgmlbjfgfmfliaaGreatDoor
namespace Go.Proofs.YtgmlbjfgfmfliaaGreatDoor
open Go Go.RowKit
section
variable {R g cap : Nat} {T : List Tok} {fx : Bool} {a b c : Nat}
def SetC (R g cap : Nat) (T : List Tok) (a : Nat) (st : List Tok → Rs (List (List CT))) : Prop:=∀ w l,Sx R g cap T w l false a 0 0 → l ≠ [] → Calls Tryz.prog 107 #[.pointer (some ⟨R,0,none⟩)] w (Out R g cap T w false a 0 0 (st l) (RowV 48 7 w.heap.size))
theorem Kp.setQ {w w1 : World} {Y : Nat} (h : Kp (Own1 R) w w1) (hY : w.heap.size < Y) (j : Nat) (v : Value) : Kp (Own1 R) w (w1.setCell ⟨Y,j,none⟩ v):=h.set _ _ _ (Or.inl (Nat.le_of_lt hY))
theorem Sx.setQ {w w1 : World} {Y : Nat} {l : List Tok} (h : Sx R g cap T w1 l fx a b c) (hR : R < w.heap.size) (hg : g < w.heap.size) (hY : w.heap.size < Y) (j : Nat) (v : Value) : Sx R g cap T (w1.setCell ⟨Y,j,none⟩ v) l fx a b c:=h.set _ _ _ (by omega) (by omega)
theorem xrowQ {w w1 : World} {Y : Nat} {o : Obj} (hY : w.heap.size < Y) (h : w1.heap[w.heap.size]? = some o) (j : Nat) (v : Value) : (w1.setCell ⟨Y,j,none⟩ v).heap[w.heap.size]? = some o:=old_row h (Kp.own Y j v) (fun e => by have e' : w.heap.size = Y:=e;omega)
theorem keepQ {w w1 w2 : World} {Y : Nat} {o : Obj} (hR : R < w.heap.size) (hY : w.heap.size < Y) (h : w1.heap[Y]? = some o) (k : Kp (Own1 R) w1 w2) : w2.heap[Y]? = some o:=old_row h k (fun e => by have e' : Y = R:=e;omega)
set_option maxRecDepth 100000 in
set_option maxHeartbeats 2000000 in
theorem spread_any {w : World} {l : List Tok} (h : Sx R g cap T w l false a 0 0) (hl : l ≠ []) : Calls Tryz.prog 188 #[.pointer (some ⟨R,0,none⟩)] w (Out R g cap T w false a 0 0 (spreadS l) (SelV w.heap.size)):=by
 have hR:=h.ltR
 have hg:=h.lt
 have N:=name_any (h.alloc zeroS) hl
 have XV : ValP R g cap T false a 0 0 32:=value_all 32 0 rfl
 go_enter Tryz.func188,Tryz.ntmps188
 go_wp2_with (first
  | (go_at_call 106;refine (dirs_any XV (h1.alloc _) n1).mono ?_;rintro e w2 (⟨p,hq2,rfl,k2⟩ | ⟨ds,l2,v,hq2,rfl,⟨⟨o2,i2,z2,rfl⟩,hv2⟩,h2,n2,k2⟩);(exact ⟨rfl,Or.inl ⟨p,by simp only [spreadS,hq1,go_ok,hq2,go_error],rfl,(KW1.alloc _).trans k2⟩⟩);have bY2:=new_row k2 (fun e => by have e' : w1.heap.size = R:=e;omega);have bX2:=keepX hR (old_row bX1 ((Kp.refl Non w1).alloc (.cells #[.int .i64 1,.string ⟨#[]⟩,.string ⟨x.toArray⟩,.string ⟨#[]⟩,.slice none 0 0,.slice none 0 0,.slice none 0 0] 48)) (fun e => e)) k2;have KW2:=(KW1.alloc _).trans k2;obtain ⟨y0,y1,y2,y3,y4,y5,y6,yf⟩:=row7 bY2;obtain ⟨x0,x1,x2,x3,x4,x5,x6,xf⟩:=row7 bX2)
  | (go_at_call 105;refine N.mono ?_;rintro e w1 (⟨p,hq1,rfl,k1⟩ | ⟨x,l1,v,hq1,rfl,rfl,h1,n1,k1⟩);(exact ⟨rfl,Or.inl ⟨p,by simp only [spreadS,hq1,go_error],rfl,((Kp.refl (Own1 R) w).alloc _).trans k1⟩⟩);have bX1:=new_row k1 (fun e => by have e' : w.heap.size = R:=e;omega);have KW1:=((Kp.refl (Own1 R) w).alloc zeroS).trans k1;have hY : w.heap.size < w1.heap.size:=lt_of_block bX1))
 have KQ:=own7 (w:=w2.setCell ⟨w1.heap.size,5,none⟩ (.slice o2 i2 z2)) w.heap.size (.int .i64 1) (.string ⟨#[]⟩) (.string ⟨x.toArray⟩) (.string ⟨#[]⟩) (.slice none 0 0) (.slice o2 i2 z2) (.slice none 0 0)
 have K2 : Kp (fun k => k < w1.heap.size + 1) w2 _:=(((Kp.own w1.heap.size 5 (.slice o2 i2 z2))).low (by omega)).trans (KQ.low (by omega))
 refine bodyPost_ret (v:=.agg #[.int .i64 1,.string ⟨#[]⟩,.string ⟨x.toArray⟩,.string ⟨#[]⟩,.slice none 0 0,.slice o2 i2 z2,.slice none 0 0]) (by simp [results,Tryz.results188,go_sem,x0,x1,x2,x3,x4,x5,x6]) rfl (Or.inr ⟨selC 1 [] x [] [] ds [],l2,_,by simp only [spreadS,hq1,go_ok,hq2],rfl,⟨_,_,_,_,_,_,_,_,_,_,_,_,_,rfl,?_⟩,(h2.setQ hR hg hY 5 _).kp KQ (fun e => by have e' : R = w.heap.size:=e;omega) (fun e => by have e' : g = w.heap.size:=e;omega),n2,(KW2.setQ hY 5 _).ret KQ (Nat.le_refl _)⟩)
 have hv3:=hv2.later (lo':=w.heap.size) K2 (Nat.le_refl _) (fun k h1 h2 e => by rw [World.size_alloc] at h1;omega) (by rw [World.size_alloc];omega) K2.size
 exact ((((((Ats.nil.cons (.nil _ _)).cons hv3).cons (.nil _ _)).cons (.lf _)).cons (.lf _)).cons (.lf _)).cons (.lf _)
theorem preI_X (w : World) : ((w.alloc zeroS).alloc (.cells #[.int .i64 2,.string ⟨#[]⟩,.string ⟨#[]⟩,.string ⟨#[]⟩,.slice none 0 0,.slice none 0 0,.slice none 0 0] 48)).heap[w.heap.size]? = some (.cells #[.int .i64 0,.string ⟨#[]⟩,.string ⟨#[]⟩,.string ⟨#[]⟩,.slice none 0 0,.slice none 0 0,.slice none 0 0] 48 (0,0)) :=
 old_row (heap_alloc_new w zeroS) ((Kp.refl Non _).alloc _) (fun e => e)
theorem preI_Y (w : World) : ((w.alloc zeroS).alloc (.cells #[.int .i64 2,.string ⟨#[]⟩,.string ⟨#[]⟩,.string ⟨#[]⟩,.slice none 0 0,.slice none 0 0,.slice none 0 0] 48)).heap[w.heap.size + 1]? = some (.cells #[.int .i64 2,.string ⟨#[]⟩,.string ⟨#[]⟩,.string ⟨#[]⟩,.slice none 0 0,.slice none 0 0,.slice none 0 0] 48 (0,0)):=by
 have:=heap_alloc_new (w.alloc zeroS) (.cells #[.int .i64 2,.string ⟨#[]⟩,.string ⟨#[]⟩,.string ⟨#[]⟩,.slice none 0 0,.slice none 0 0,.slice none 0 0] 48)
 rw [World.size_alloc] at this
 exact this
set_option maxRecDepth 100000 in
set_option maxHeartbeats 4000000 in
theorem inline_any {w : World} {l : List Tok} {st : List Tok → Rs (List (List CT))} (ST : SetC R g cap T a st) (h : Sx R g cap T w l false a 0 0) (hl : l ≠ []) : Calls Tryz.prog 189 #[.pointer (some ⟨R,0,none⟩)] w (Out R g cap T w false a 0 0 (inlineS st l) (SelV w.heap.size)):=by
 have hR:=h.ltR
 have hg:=h.lt
 have hY : w.heap.size < w.heap.size + 1:=Nat.lt_succ_self _
 have hS0 : Sx R g cap T ((w.alloc zeroS).alloc (.cells #[.int .i64 2,.string ⟨#[]⟩,.string ⟨#[]⟩,.string ⟨#[]⟩,.slice none 0 0,.slice none 0 0,.slice none 0 0] 48)) l false a 0 0:=(h.alloc _).alloc _
 have TW:=ytakeW_any onB hS0 hl
 have XV : ValP R g cap T false a 0 0 32:=value_all 32 0 rfl
 go_enter Tryz.func189,Tryz.ntmps189
 go_wp2_with (first
  | (go_at_call 107;refine (ST _ _ (h3.setQ hR hg hY 5 (.slice o2 i2 z2)) n3).mono ?_;rintro e w4 (⟨p,hq4,rfl,k4⟩ | ⟨ss,l4,v,hq4,rfl,⟨⟨o4,i4,z4,rfl⟩,hv4⟩,h4,n4,k4⟩);(exact ⟨rfl,Or.inl ⟨p,by simp only [inlineS,HN.out,go_ok,hq3,hq4,go_error],rfl,(KW3.setQ hY 5 _).trans k4⟩⟩);have bYp:=heap_setCell_same _ (w.heap.size + 1) 5 _ _ (.slice o2 i2 z2) bY3;have hz4:=lt_of_block bYp;have bY4:=keepQ hR hY bYp k4;have bX4:=keepX hR (xrowQ hY bX3 5 _) k4;have KW4:=(KW3.setQ hY 5 _).trans k4;clear bYp;obtain ⟨y0,y1,y2,y3,y4,y5,y6,yf⟩:=row7 bY4;obtain ⟨x0,x1,x2,x3,x4,x5,x6,xf⟩:=row7 bX4)
  | (go_at_call 106;first
    | (refine (dirs_any XV (h2.setQ hR hg hY 3 (.string ⟨x.toArray⟩)) n2).mono ?_;rintro e w3 (⟨p,hq3,rfl,k3⟩ | ⟨ds,l3,v,hq3,rfl,⟨⟨o2,i2,z2,rfl⟩,hv3⟩,h3,n3,k3⟩);(exact ⟨rfl,Or.inl ⟨p,by simp only [inlineS,onS,hp,if_true,hq2,go_ok,hq3,go_error],rfl,(KW2.setQ hY 3 _).trans k3⟩⟩);have bYp:=heap_setCell_same _ (w.heap.size + 1) 3 _ _ (.string ⟨x.toArray⟩) bY2;have hz3:=lt_of_block bYp;have bY3:=keepQ hR hY bYp k3;have bX3:=keepX hR (xrowQ hY bX2 3 _) k3;have KW3:=(KW2.setQ hY 3 _).trans k3;clear bYp;have HN : Hid (onS l = .ok (x,l2)):=(by show _ = _;simp only [onS,hp,if_true,hq2]);obtain ⟨y0,y1,y2,y3,y4,y5,y6,yf⟩:=row7 bY3)
    | (refine (dirs_any XV h1 hl).mono ?_;rintro e w3 (⟨p,hq3,rfl,k3⟩ | ⟨ds,l3,v,hq3,rfl,⟨⟨o2,i2,z2,rfl⟩,hv3⟩,h3,n3,k3⟩);(exact ⟨rfl,Or.inl ⟨p,by simp only [inlineS,onS,hp,Bool.false_eq_true,if_false,go_ok,hq3,go_error],rfl,KW1.trans k3⟩⟩);have hz3:=lt_of_block bY1;have bY3:=keepQ hR hY bY1 k3;have bX3:=keepX hR bX1 k3;have KW3:=KW1.trans k3;have HN : Hid (onS l = .ok ([],l)):=(by show _ = _;simp only [onS,hp,Bool.false_eq_true,if_false]);obtain ⟨y0,y1,y2,y3,y4,y5,y6,yf⟩:=row7 bY3))
  | (go_at_call 105;refine (name_any h1 (hS0.nextW hp)).mono ?_;rintro e w2 (⟨p,hq2,rfl,k2⟩ | ⟨x,l2,v,hq2,rfl,rfl,h2,n2,k2⟩);(exact ⟨rfl,Or.inl ⟨p,by simp only [inlineS,onS,hp,if_true,hq2,go_error],rfl,KW1.trans k2⟩⟩);have bY2:=keepQ hR hY bY1 k2;have bX2:=keepX hR bX1 k2;have KW2:=KW1.trans k2;obtain ⟨y0,y1,y2,y3,y4,y5,y6,yf⟩:=row7 bY2)
  | (go_at_call 66;refine TW.mono ?_;(rintro e w1 (⟨hp,rfl,h1,k1⟩ | ⟨hp,rfl,h1,k1⟩) <;> (have bY1:=keepQ hR hY (preI_Y w) k1;have bX1:=keepX hR (preI_X w) k1;have KW1:=(((Kp.refl (Own1 R) w).alloc _).alloc _).trans k1))))
 ·have KQ:=own7 (w:=w4.setCell ⟨w.heap.size + 1,6,none⟩ (.slice o4 i4 z4)) w.heap.size (.int .i64 2) (.string ⟨#[]⟩) (.string ⟨#[]⟩) (.string ⟨x.toArray⟩) (.slice none 0 0) (.slice o2 i2 z2) (.slice o4 i4 z4)
  have K4 : Kp (fun k => k < w.heap.size + 1 + 1) w4 _:=(((Kp.own (w.heap.size + 1) 6 (.slice o4 i4 z4))).low (by omega)).trans (KQ.low (by omega))
  have K3:=((Kp.refl (fun k => k < w.heap.size + 1 + 1) w3).lowset (w.heap.size + 1) 5 (.slice o2 i2 z2) (by omega)).trans ((k4.low (by omega)).trans K4)
  refine bodyPost_ret (v:=.agg #[.int .i64 2,.string ⟨#[]⟩,.string ⟨#[]⟩,.string ⟨x.toArray⟩,.slice none 0 0,.slice o2 i2 z2,.slice o4 i4 z4]) (by simp [results,Tryz.results189,go_sem,x0,x1,x2,x3,x4,x5,x6]) rfl (Or.inr ⟨selC 2 [] [] x [] ds ss,l4,_,by simp only [inlineS,HN.out,go_ok,hq3,hq4],rfl,⟨_,_,_,_,_,_,_,_,_,_,_,_,_,rfl,?_⟩,(h4.setQ hR hg hY 6 _).kp KQ (fun e => by have e' : R = w.heap.size:=e;omega) (fun e => by have e' : g = w.heap.size:=e;omega),n4,(KW4.setQ hY 6 _).ret KQ (Nat.le_refl _)⟩)
  have u3:=hv3.later (lo':=w.heap.size) K3 (Nat.le_refl _) (fun k h1 h2 e => by omega) (by omega) K3.size
  have u4:=hv4.later (lo':=w.heap.size) K4 (Nat.le_refl _) (fun k h1 h2 e => by omega) (by omega) K4.size
  exact ((((((Ats.nil.cons u4).cons u3).cons (.nil _ _)).cons (.lf _)).cons (.lf _)).cons (.lf _)).cons (.lf _)
 ·have KQ:=own7 (w:=w4.setCell ⟨w.heap.size + 1,6,none⟩ (.slice o4 i4 z4)) w.heap.size (.int .i64 2) (.string ⟨#[]⟩) (.string ⟨#[]⟩) (.string ⟨#[]⟩) (.slice none 0 0) (.slice o2 i2 z2) (.slice o4 i4 z4)
  have K4 : Kp (fun k => k < w.heap.size + 1 + 1) w4 _:=(((Kp.own (w.heap.size + 1) 6 (.slice o4 i4 z4))).low (by omega)).trans (KQ.low (by omega))
  have K3:=((Kp.refl (fun k => k < w.heap.size + 1 + 1) w3).lowset (w.heap.size + 1) 5 (.slice o2 i2 z2) (by omega)).trans ((k4.low (by omega)).trans K4)
  refine bodyPost_ret (v:=.agg #[.int .i64 2,.string ⟨#[]⟩,.string ⟨#[]⟩,.string ⟨#[]⟩,.slice none 0 0,.slice o2 i2 z2,.slice o4 i4 z4]) (by simp [results,Tryz.results189,go_sem,x0,x1,x2,x3,x4,x5,x6]) rfl (Or.inr ⟨selC 2 [] [] [] [] ds ss,l4,_,by simp only [inlineS,HN.out,go_ok,hq3,hq4],rfl,⟨_,_,_,_,_,_,_,_,_,_,_,_,_,rfl,?_⟩,(h4.setQ hR hg hY 6 _).kp KQ (fun e => by have e' : R = w.heap.size:=e;omega) (fun e => by have e' : g = w.heap.size:=e;omega),n4,(KW4.setQ hY 6 _).ret KQ (Nat.le_refl _)⟩)
  have u3:=hv3.later (lo':=w.heap.size) K3 (Nat.le_refl _) (fun k h1 h2 e => by omega) (by omega) K3.size
  have u4:=hv4.later (lo':=w.heap.size) K4 (Nat.le_refl _) (fun k h1 h2 e => by omega) (by omega) K4.size
  exact ((((((Ats.nil.cons u4).cons u3).cons (.nil _ _)).cons (.lf _)).cons (.lf _)).cons (.lf _)).cons (.lf _)
set_option maxRecDepth 100000 in
set_option maxHeartbeats 8000000 in
theorem field_any {w : World} {l : List Tok} {st : List Tok → Rs (List (List CT))} (ST : SetC R g cap T a st) (h : Sx R g cap T w l false a 0 0) (hl : l ≠ []) : Calls Tryz.prog 187 #[.pointer (some ⟨R,0,none⟩)] w (Out R g cap T w false a 0 0 (fieldS st l) (SelV w.heap.size)):=by
 have hR:=h.ltR
 have hg:=h.lt
 have N:=name_any (h.alloc zeroS) hl
 have XV : ValP R g cap T false a 0 0 32:=value_all 32 0 rfl
 go_enter Tryz.func187,Tryz.ntmps187
 go_wp2_with (first
  | (go_at_call 107;refine (ST _ _ S6 n5).mono ?_;rintro e w7 (⟨p,hq7,rfl,k7⟩ | ⟨ss,l7,v,hq7,rfl,⟨⟨o7,i7,z7,rfl⟩,hv7⟩,h7,n7,k7⟩);(exact ⟨rfl,Or.inl ⟨p,by simp only [fieldS,HN.out,go_ok,hq4,hq5,withS,hc,if_true,hq7,go_error],rfl,KW6.trans k7⟩⟩);have hz7:=lt_of_block bY6;have bY7:=keepQ hR hY bY6 k7;have bX7:=keepX hR bX6 k7;have KW7:=KW6.trans k7;obtain ⟨y0,y1,y2,y3,y4,y5,y6,yf⟩:=row7 bY7;obtain ⟨x0,x1,x2,x3,x4,x5,x6,xf⟩:=row7 bX7)
  | (go_at_call 108;have S5:=h5.setQ hR hg hY 5 (.slice o5 i5 z5);cases hc : isP [123] l5 <;> (have A:=see_any [123] S5 n5;rw [hc] at A;refine A.mono ?_;rintro e w6 ⟨rfl,k6⟩;have S6:=S5.non k6;have bY6:=keepQ hR hY (heap_setCell_same _ w1.heap.size 5 _ _ (.slice o5 i5 z5) bY5) k6.any;have bX6:=keepX hR (xrowQ hY bX5 5 _) k6.any;have KW6:=(KW5.setQ hY 5 _).trans k6.any;obtain ⟨y0,y1,y2,y3,y4,y5,y6,yf⟩:=row7 bY6;obtain ⟨x0,x1,x2,x3,x4,x5,x6,xf⟩:=row7 bX6))
  | (go_at_call 106;refine (dirs_any XV (h4.setQ hR hg hY 4 (.slice o4 i4 z4)) n4).mono ?_;rintro e w5 (⟨p,hq5,rfl,k5⟩ | ⟨ds,l5,v,hq5,rfl,⟨⟨o5,i5,z5,rfl⟩,hv5⟩,h5,n5,k5⟩);(exact ⟨rfl,Or.inl ⟨p,by simp only [fieldS,HN.out,go_ok,hq4,hq5,go_error],rfl,(KW4.setQ hY 4 _).trans k5⟩⟩);have bYp:=heap_setCell_same _ w1.heap.size 4 _ _ (.slice o4 i4 z4) bY4;have hz5:=lt_of_block bYp;have bY5:=keepQ hR hY bYp k5;have bX5:=keepX hR (xrowQ hY bX4 4 _) k5;have KW5:=(KW4.setQ hY 4 _).trans k5;clear bYp;obtain ⟨y0,y1,y2,y3,y4,y5,y6,yf⟩:=row7 bY5)
  | (go_at_call 152;first
    | (refine (args_any XV (h3.setQ hR hg hY 2 (.string ⟨u.toArray⟩)) n3).mono ?_;rintro e w4 (⟨p,hq4,rfl,k4⟩ | ⟨ags,l4,v,hq4,rfl,⟨⟨o4,i4,z4,rfl⟩,hv4⟩,h4,n4,k4⟩);(exact ⟨rfl,Or.inl ⟨p,by simp only [fieldS,nickS,hq1,go_ok,hp,if_true,hq3,hq4,go_error],rfl,(KW3.setQ hY 2 _).trans k4⟩⟩);have bYp:=heap_setCell_same _ w1.heap.size 2 _ _ (.string ⟨u.toArray⟩) bY3;have hz4:=lt_of_block bYp;have bY4:=keepQ hR hY bYp k4;have bX4:=keepX hR (xrowQ hY bX3 2 _) k4;have KW4:=(KW3.setQ hY 2 _).trans k4;clear bYp;have HN : Hid (nickS l = .ok ((x,u),l3)):=(by show _ = _;simp only [nickS,hq1,go_ok,hp,if_true,hq3]);obtain ⟨y0,y1,y2,y3,y4,y5,y6,yf⟩:=row7 bY4)
    | (refine (args_any XV h2 n1).mono ?_;rintro e w4 (⟨p,hq4,rfl,k4⟩ | ⟨ags,l4,v,hq4,rfl,⟨⟨o4,i4,z4,rfl⟩,hv4⟩,h4,n4,k4⟩);(exact ⟨rfl,Or.inl ⟨p,by simp only [fieldS,nickS,hq1,go_ok,hp,Bool.false_eq_true,if_false,hq4,go_error],rfl,KW2.trans k4⟩⟩);have hz4:=lt_of_block bY2;have bY4:=keepQ hR hY bY2 k4;have bX4:=keepX hR bX2 k4;have KW4:=KW2.trans k4;have HN : Hid (nickS l = .ok (([],x),l1)):=(by show _ = _;simp only [nickS,hq1,go_ok,hp,Bool.false_eq_true,if_false]);obtain ⟨y0,y1,y2,y3,y4,y5,y6,yf⟩:=row7 bY4))
  | (go_at_call 105;(with_reducible refine (name_any (h2.setQ hR hg hY 1 (.string ⟨x.toArray⟩)) (h1.next (by simp) hp)).mono ?_);rintro e w3 (⟨p,hq3,rfl,k3⟩ | ⟨u,l3,v,hq3,rfl,rfl,h3,n3,k3⟩);(exact ⟨rfl,Or.inl ⟨p,by simp only [fieldS,nickS,hq1,go_ok,hp,if_true,hq3,go_error],rfl,(KW2.setQ hY 1 _).trans k3⟩⟩);have bY3:=keepQ hR hY (heap_setCell_same _ w1.heap.size 1 _ _ (.string ⟨x.toArray⟩) bY2) k3;have bX3:=keepX hR (xrowQ hY bX2 1 _) k3;have KW3:=(KW2.setQ hY 1 _).trans k3;obtain ⟨y0,y1,y2,y3,y4,y5,y6,yf⟩:=row7 bY3)
  | (go_at_call 146;refine (ytake_any [58] (h1.alloc _) n1).mono ?_;(rintro e w2 (⟨hp,rfl,h2,k2⟩ | ⟨hp,rfl,h2,k2⟩) <;> (have bY2:=new_row k2 (fun e => by have e' : w1.heap.size = R:=e;omega);have bX2:=keepX hR (old_row bX1 ((Kp.refl Non w1).alloc (.cells #[.int .i64 0,.string ⟨#[]⟩,.string ⟨x.toArray⟩,.string ⟨#[]⟩,.slice none 0 0,.slice none 0 0,.slice none 0 0] 48)) (fun e => e)) k2;have KW2:=(KW1.alloc _).trans k2;obtain ⟨y0,y1,y2,y3,y4,y5,y6,yf⟩:=row7 bY2)))
  | (go_at_call 105;(with_reducible refine N.mono ?_);rintro e w1 (⟨p,hq1,rfl,k1⟩ | ⟨x,l1,v,hq1,rfl,rfl,h1,n1,k1⟩);(exact ⟨rfl,Or.inl ⟨p,by simp only [fieldS,nickS,hq1,go_error],rfl,((Kp.refl (Own1 R) w).alloc _).trans k1⟩⟩);have bX1:=new_row k1 (fun e => by have e' : w.heap.size = R:=e;omega);have KW1:=((Kp.refl (Own1 R) w).alloc zeroS).trans k1;have hY : w.heap.size < w1.heap.size:=lt_of_block bX1))
 ·have KQ:=own7 (w:=w6) w.heap.size (.int .i64 0) (.string ⟨x.toArray⟩) (.string ⟨u.toArray⟩) (.string ⟨#[]⟩) (.slice o4 i4 z4) (.slice o5 i5 z5) (.slice none 0 0)
  have K6 : Kp (fun k => k < w1.heap.size + 1) w6 _:=KQ.low (by omega)
  have K5:=((Kp.refl (fun k => k < w1.heap.size + 1) w5).lowset w1.heap.size 5 (.slice o5 i5 z5) (by omega)).trans (k6.any.trans K6)
  have K4:=((Kp.refl (fun k => k < w1.heap.size + 1) w4).lowset w1.heap.size 4 (.slice o4 i4 z4) (by omega)).trans ((k5.low (by omega)).trans K5)
  refine bodyPost_ret (v:=.agg #[.int .i64 0,.string ⟨x.toArray⟩,.string ⟨u.toArray⟩,.string ⟨#[]⟩,.slice o4 i4 z4,.slice o5 i5 z5,.slice none 0 0]) (by simp [results,Tryz.results187,go_sem,x0,x1,x2,x3,x4,x5,x6]) rfl (Or.inr ⟨selC 0 x u [] ags ds [],l5,_,by simp only [fieldS,HN.out,go_ok,hq4,hq5,withS,hc,Bool.false_eq_true,if_false],rfl,⟨_,_,_,_,_,_,_,_,_,_,_,_,_,rfl,?_⟩,S6.kp KQ (fun e => by have e' : R = w.heap.size:=e;omega) (fun e => by have e' : g = w.heap.size:=e;omega),n5,KW6.ret KQ (Nat.le_refl _)⟩)
  have u4:=hv4.later (lo':=w.heap.size) K4 (Nat.le_refl _) (fun k h1 h2 e => by omega) (by omega) K4.size
  have u5:=hv5.later (lo':=w.heap.size) K5 (Nat.le_refl _) (fun k h1 h2 e => by omega) (by omega) K5.size
  exact ((((((Ats.nil.cons (.nil _ _)).cons u5).cons u4).cons (.lf _)).cons (.lf _)).cons (.lf _)).cons (.lf _)
 ·have KQ:=own7 (w:=w7.setCell ⟨w1.heap.size,6,none⟩ (.slice o7 i7 z7)) w.heap.size (.int .i64 0) (.string ⟨x.toArray⟩) (.string ⟨u.toArray⟩) (.string ⟨#[]⟩) (.slice o4 i4 z4) (.slice o5 i5 z5) (.slice o7 i7 z7)
  have K7 : Kp (fun k => k < w1.heap.size + 1) w7 _:=(((Kp.own w1.heap.size 6 (.slice o7 i7 z7))).low (by omega)).trans (KQ.low (by omega))
  have K5:=((Kp.refl (fun k => k < w1.heap.size + 1) w5).lowset w1.heap.size 5 (.slice o5 i5 z5) (by omega)).trans (k6.any.trans ((k7.low (by omega)).trans K7))
  have K4:=((Kp.refl (fun k => k < w1.heap.size + 1) w4).lowset w1.heap.size 4 (.slice o4 i4 z4) (by omega)).trans ((k5.low (by omega)).trans K5)
  refine bodyPost_ret (v:=.agg #[.int .i64 0,.string ⟨x.toArray⟩,.string ⟨u.toArray⟩,.string ⟨#[]⟩,.slice o4 i4 z4,.slice o5 i5 z5,.slice o7 i7 z7]) (by simp [results,Tryz.results187,go_sem,x0,x1,x2,x3,x4,x5,x6]) rfl (Or.inr ⟨selC 0 x u [] ags ds ss,l7,_,by simp only [fieldS,HN.out,go_ok,hq4,hq5,withS,hc,if_true,hq7],rfl,⟨_,_,_,_,_,_,_,_,_,_,_,_,_,rfl,?_⟩,(h7.setQ hR hg hY 6 _).kp KQ (fun e => by have e' : R = w.heap.size:=e;omega) (fun e => by have e' : g = w.heap.size:=e;omega),n7,(KW7.setQ hY 6 _).ret KQ (Nat.le_refl _)⟩)
  have u4:=hv4.later (lo':=w.heap.size) K4 (Nat.le_refl _) (fun k h1 h2 e => by omega) (by omega) K4.size
  have u5:=hv5.later (lo':=w.heap.size) K5 (Nat.le_refl _) (fun k h1 h2 e => by omega) (by omega) K5.size
  have u7:=hv7.later (lo':=w.heap.size) K7 (Nat.le_refl _) (fun k h1 h2 e => by omega) (by omega) K7.size
  exact ((((((Ats.nil.cons u7).cons u5).cons u4).cons (.lf _)).cons (.lf _)).cons (.lf _)).cons (.lf _)
 ·have KQ:=own7 (w:=w6) w.heap.size (.int .i64 0) (.string ⟨#[]⟩) (.string ⟨x.toArray⟩) (.string ⟨#[]⟩) (.slice o4 i4 z4) (.slice o5 i5 z5) (.slice none 0 0)
  have K6 : Kp (fun k => k < w1.heap.size + 1) w6 _:=KQ.low (by omega)
  have K5:=((Kp.refl (fun k => k < w1.heap.size + 1) w5).lowset w1.heap.size 5 (.slice o5 i5 z5) (by omega)).trans (k6.any.trans K6)
  have K4:=((Kp.refl (fun k => k < w1.heap.size + 1) w4).lowset w1.heap.size 4 (.slice o4 i4 z4) (by omega)).trans ((k5.low (by omega)).trans K5)
  refine bodyPost_ret (v:=.agg #[.int .i64 0,.string ⟨#[]⟩,.string ⟨x.toArray⟩,.string ⟨#[]⟩,.slice o4 i4 z4,.slice o5 i5 z5,.slice none 0 0]) (by simp [results,Tryz.results187,go_sem,x0,x1,x2,x3,x4,x5,x6]) rfl (Or.inr ⟨selC 0 [] x [] ags ds [],l5,_,by simp only [fieldS,HN.out,go_ok,hq4,hq5,withS,hc,Bool.false_eq_true,if_false],rfl,⟨_,_,_,_,_,_,_,_,_,_,_,_,_,rfl,?_⟩,S6.kp KQ (fun e => by have e' : R = w.heap.size:=e;omega) (fun e => by have e' : g = w.heap.size:=e;omega),n5,KW6.ret KQ (Nat.le_refl _)⟩)
  have u4:=hv4.later (lo':=w.heap.size) K4 (Nat.le_refl _) (fun k h1 h2 e => by omega) (by omega) K4.size
  have u5:=hv5.later (lo':=w.heap.size) K5 (Nat.le_refl _) (fun k h1 h2 e => by omega) (by omega) K5.size
  exact ((((((Ats.nil.cons (.nil _ _)).cons u5).cons u4).cons (.lf _)).cons (.lf _)).cons (.lf _)).cons (.lf _)
 ·have KQ:=own7 (w:=w7.setCell ⟨w1.heap.size,6,none⟩ (.slice o7 i7 z7)) w.heap.size (.int .i64 0) (.string ⟨#[]⟩) (.string ⟨x.toArray⟩) (.string ⟨#[]⟩) (.slice o4 i4 z4) (.slice o5 i5 z5) (.slice o7 i7 z7)
  have K7 : Kp (fun k => k < w1.heap.size + 1) w7 _:=(((Kp.own w1.heap.size 6 (.slice o7 i7 z7))).low (by omega)).trans (KQ.low (by omega))
  have K5:=((Kp.refl (fun k => k < w1.heap.size + 1) w5).lowset w1.heap.size 5 (.slice o5 i5 z5) (by omega)).trans (k6.any.trans ((k7.low (by omega)).trans K7))
  have K4:=((Kp.refl (fun k => k < w1.heap.size + 1) w4).lowset w1.heap.size 4 (.slice o4 i4 z4) (by omega)).trans ((k5.low (by omega)).trans K5)
  refine bodyPost_ret (v:=.agg #[.int .i64 0,.string ⟨#[]⟩,.string ⟨x.toArray⟩,.string ⟨#[]⟩,.slice o4 i4 z4,.slice o5 i5 z5,.slice o7 i7 z7]) (by simp [results,Tryz.results187,go_sem,x0,x1,x2,x3,x4,x5,x6]) rfl (Or.inr ⟨selC 0 [] x [] ags ds ss,l7,_,by simp only [fieldS,HN.out,go_ok,hq4,hq5,withS,hc,if_true,hq7],rfl,⟨_,_,_,_,_,_,_,_,_,_,_,_,_,rfl,?_⟩,(h7.setQ hR hg hY 6 _).kp KQ (fun e => by have e' : R = w.heap.size:=e;omega) (fun e => by have e' : g = w.heap.size:=e;omega),n7,(KW7.setQ hY 6 _).ret KQ (Nat.le_refl _)⟩)
  have u4:=hv4.later (lo':=w.heap.size) K4 (Nat.le_refl _) (fun k h1 h2 e => by omega) (by omega) K4.size
  have u5:=hv5.later (lo':=w.heap.size) K5 (Nat.le_refl _) (fun k h1 h2 e => by omega) (by omega) K5.size
  have u7:=hv7.later (lo':=w.heap.size) K7 (Nat.le_refl _) (fun k h1 h2 e => by omega) (by omega) K7.size
  exact ((((((Ats.nil.cons u7).cons u5).cons u4).cons (.lf _)).cons (.lf _)).cons (.lf _)).cons (.lf _)
set_option maxRecDepth 100000 in
set_option maxHeartbeats 4000000 in
theorem sel_any {st : List Tok → Rs (List (List CT))} (ST : SetC R g cap T a st) : SelP R g cap T a st:=by
 intro w l h hl
 have hR:=h.ltR
 have hg:=h.lt
 have TK:=ytake_any [46,46,46] (h.alloc zeroS) hl
 go_enter Tryz.func155,Tryz.ntmps155
 go_wp2_with (first
  | (go_at_call 187;refine (field_any ST h1 hl).mono ?_;rintro e w2 (⟨p,hq,rfl,k2⟩ | ⟨cs,m,v,hq,rfl,⟨kk,ta,tn,tO,o1,n1,z1,o2,n2,z2,o3,n3,z3,rfl,hat⟩,h2,m2,k2⟩);(exact ⟨rfl,Or.inl ⟨p,by simp only [selS,hp,Bool.false_eq_true,if_false,hq],rfl,((Kp.refl (Own1 R) w).alloc _).trans (k1.trans k2)⟩⟩);have HQ : Hid (selS st l = .ok (cs,m)):=(by show _ = _;simp only [selS,hp,Bool.false_eq_true,if_false,hq]);have K2:=k1.trans k2;have hz : w.heap.size + 1 ≤ w1.heap.size:=(by have:=k1.size;simpa using this);obtain ⟨c0,c1,c2,c3,c4,c5,c6,cf⟩:=row7 (new_row K2 (fun e => by have e' : w.heap.size = R:=e;omega));have wv : Hid (w1.heap.size ≤ w2.heap.size):=k2.size)
  | (go_at_call 188;refine (spread_any S4 nt).mono ?_;rintro e w2 (⟨p,hq,rfl,k2⟩ | ⟨cs,m,v,hq,rfl,⟨kk,ta,tn,tO,o1,n1,z1,o2,n2,z2,o3,n3,z3,rfl,hat⟩,h2,m2,k2⟩);(exact ⟨rfl,Or.inl ⟨p,by simp only [selS,hp,if_true,hk,hw,Bool.not_false,Bool.and_true,hq],rfl,((Kp.refl (Own1 R) w).alloc _).trans (k14.trans k2)⟩⟩);have HQ : Hid (selS st l = .ok (cs,m)):=(by show _ = _;simp only [selS,hp,if_true,hk,hw,Bool.not_false,Bool.and_true,hq]);have K2:=k14.trans k2;have hz : w.heap.size + 1 ≤ w4.heap.size:=(by have:=k14.size;simpa using this);obtain ⟨c0,c1,c2,c3,c4,c5,c6,cf⟩:=row7 (new_row K2 (fun e => by have e' : w.heap.size = R:=e;omega));have wv : Hid (w4.heap.size ≤ w2.heap.size):=k2.size)
  | (go_at_call 189;first
    | (refine (inline_any ST S4 nt).mono ?_;rintro e w2 (⟨p,hq,rfl,k2⟩ | ⟨cs,m,v,hq,rfl,⟨kk,ta,tn,tO,o1,n1,z1,o2,n2,z2,o3,n3,z3,rfl,hat⟩,h2,m2,k2⟩);(exact ⟨rfl,Or.inl ⟨p,by simp only [selS,hp,if_true,hk,hw,Bool.not_true,Bool.and_false,Bool.false_eq_true,if_false,hq],rfl,((Kp.refl (Own1 R) w).alloc _).trans (k14.trans k2)⟩⟩);have HQ : Hid (selS st l = .ok (cs,m)):=(by show _ = _;simp only [selS,hp,if_true,hk,hw,Bool.not_true,Bool.and_false,Bool.false_eq_true,if_false,hq]);have K2:=k14.trans k2;have hz : w.heap.size + 1 ≤ w4.heap.size:=(by have:=k14.size;simpa using this);obtain ⟨c0,c1,c2,c3,c4,c5,c6,cf⟩:=row7 (new_row K2 (fun e => by have e' : w.heap.size = R:=e;omega));have wv : Hid (w4.heap.size ≤ w2.heap.size):=k2.size)
    | (refine (inline_any ST S3 nt).mono ?_;rintro e w2 (⟨p,hq,rfl,k2⟩ | ⟨cs,m,v,hq,rfl,⟨kk,ta,tn,tO,o1,n1,z1,o2,n2,z2,o3,n3,z3,rfl,hat⟩,h2,m2,k2⟩);(exact ⟨rfl,Or.inl ⟨p,by simp only [selS,hp,if_true,hk,Bool.false_and,Bool.false_eq_true,if_false,hq],rfl,((Kp.refl (Own1 R) w).alloc _).trans (k13.trans k2)⟩⟩);have HQ : Hid (selS st l = .ok (cs,m)):=(by show _ = _;simp only [selS,hp,if_true,hk,Bool.false_and,Bool.false_eq_true,if_false,hq]);have K2:=k13.trans k2;have hz : w.heap.size + 1 ≤ w3.heap.size:=(by have:=k13.size;simpa using this);obtain ⟨c0,c1,c2,c3,c4,c5,c6,cf⟩:=row7 (new_row K2 (fun e => by have e' : w.heap.size = R:=e;omega));have wv : Hid (w3.heap.size ≤ w2.heap.size):=k2.size))
  | (go_at_call 103;cases hw : isW onB l.tail <;> (have A:=seeW_any onB S3 nt;rw [hw] at A;refine A.mono ?_;rintro e w4 ⟨rfl,k4⟩;have S4:=S3.non k4;have k14:=k13.trans k4.any))
  | (go_at_call 110;have nt:=h.next (by simp) hp;cases hk : isK 1 l.tail <;> (have A:=seeK_any 1 h1 nt;rw [hk] at A;refine A.mono ?_;rintro e w3 ⟨rfl,k3⟩;have S3:=h1.non k3;have k13:=k1.trans k3.any))
  | (go_at_call 146;refine TK.mono ?_;rintro e w1 (⟨hp,rfl,h1,k1⟩ | ⟨hp,rfl,h1,k1⟩)))
 all_goals
  obtain ⟨r1,r2⟩:=ret7 K2 h2 hR hg (.int .i64 kk) (.string ta) (.string tn) (.string tO) (.slice o1 n1 z1) (.slice o2 n2 z2) (.slice o3 n3 z3)
  refine bodyPost_ret (v:=.agg #[.int .i64 kk,.string ta,.string tn,.string tO,.slice o1 n1 z1,.slice o2 n2 z2,.slice o3 n3 z3]) (by simp [results,Tryz.results155,go_sem,c0,c1,c2,c3,c4,c5,c6]) rfl (Or.inr ⟨cs,m,_,HQ.out,rfl,⟨_,_,_,_,_,_,_,_,_,_,_,_,_,rfl,?_⟩,r1,m2,r2⟩)
  exact ats_up (by omega) hat (own7 w.heap.size _ _ _ _ _ _ _) (by omega)
end
end Go.Proofs.YtgmlbjfgfmfliaaGreatDoor
