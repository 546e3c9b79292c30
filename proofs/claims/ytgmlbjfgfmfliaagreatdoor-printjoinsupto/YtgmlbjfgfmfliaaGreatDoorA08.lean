/- A whole document. -/
import Derived.Test.YtgmlbjfgfmfliaaGreatDoorA07
import Derived.Test.YtgmlbjfgfmfliaaGreatDoorB4
namespace Go.Proofs.YtgmlbjfgfmfliaaGreatDoor
open Go Go.RowKit
section
variable {R g cap : Nat} {T : List Tok} {a : Nat}
theorem set_shut {w : World} {l : List Tok} {inner : Option (List Tok → Rs (List (List CT)))} (h : Sx R g cap T w l false a 0 0) (hl : l ≠ []) (hp : isP [123] l = false) : Calls Tryz.prog 107 #[.pointer (some ⟨R,0,none⟩)] w (Out R g cap T w false a 0 0 (setG inner l) (RowV 48 7 w.heap.size)):=by
 have hS0 : Sx R g cap T (preA R 46 w) l false a 0 0:=(h.alloc _).alloc _
 have X:=open0_shut [123] hS0 hl hp
 have HQ : Hid (setG inner l = .error (atT l,60)):=by show _ = _;unfold setG;rw [if_neg (by rw [hp];simp)]
 go_enter Tryz.func107,Tryz.ntmps107
 go_wp2_with (go_at_call 153;refine X.mono ?_;rintro e w1 ⟨rfl,k1⟩)
 exact ⟨rfl,Or.inl ⟨_,HQ.out,rfl,(((Kp.refl (Own1 R) w).alloc _).alloc _).trans k1⟩⟩
theorem set_deep {w : World} {l : List Tok} (h : Sx R g cap T w l false 32 0 0) (hl : l ≠ []) (hp : isP [123] l = true) : Calls Tryz.prog 107 #[.pointer (some ⟨R,0,none⟩)] w (Out R g cap T w false 32 0 0 (setG none l) (RowV 48 7 w.heap.size)):=by
 have hS0 : Sx R g cap T (preA R 46 w) l false 32 0 0:=(h.alloc _).alloc _
 have X:=open0_deep [123] hS0 hl hp
 have HQ : Hid (setG none l = .error (atT l,61)):=by show _ = _;unfold setG;rw [if_pos hp]
 go_enter Tryz.func107,Tryz.ntmps107
 go_wp2_with (go_at_call 153;refine X.mono ?_;rintro e w1 ⟨rfl,k1⟩)
 exact ⟨rfl,Or.inl ⟨_,HQ.out,rfl,(((Kp.refl (Own1 R) w).alloc _).alloc _).trans k1⟩⟩
set_option maxRecDepth 100000 in
set_option maxHeartbeats 4000000 in
theorem set_inner {w : World} {l : List Tok} {st : List Tok → Rs (List (List CT))} (hst : Eats st) (ST : SetC R g cap T (a + 1) st) (ha : a < 32) (h : Sx R g cap T w l false a 0 0) (hl : l ≠ []) (hp : isP [123] l = true) : Calls Tryz.prog 107 #[.pointer (some ⟨R,0,none⟩)] w (Out R g cap T w false a 0 0 (setG (some st) l) (RowV 48 7 w.heap.size)):=by
 have hmf : ∀ (fn : Fn) (first cap : Array Value) (w : World),(Instr.makeFunc fn first cap).run Tryz.prog w = .ok (.func fn first cap) w:=fun _ _ _ _ => rfl
 have hR:=h.ltR
 have hg:=h.lt
 have pl:=preA_pl hR hg
 have hS0 : Sx R g cap T (preA R 46 w) l false a 0 0:=(h.alloc _).alloc _
 have OP:=open0_any [123] (by simp) hS0 hl hp ha
 have hE:=selS_eats hst.keeps
 have HA : Hid _:=some_any 154 #[.pointer (some ⟨w.heap.size + 1,0,none⟩),.pointer (some ⟨w.heap.size,0,none⟩)] (fun _ _ => rfl) [125] (selS st) hE _ (Kp (Own1 R) w) (Jr.kp (cur:=#[.slice none 0 0]) (ty:=46) (tp:=118) (i:=0) (E:=48) (sz:=7) (W0:=preA R 46 w) pl) (oneR_of (preA_size _ _ _).symm hE w (preA_kp R _ w) (set1_item pl (by decide) st (sel_any ST)))
 have HQ : Hid (setG (some st) l = someS (selS st) [125] l.tail):=by show _ = _;unfold setG;rw [if_pos hp]
 have haI : ((a : Nat) : Int) < 32:=by omega
 have haI0 : (0 : Int) ≤ ((a : Nat) : Int):=by omega
 clear ST hE
 go_enter Tryz.func107,Tryz.ntmps107
 go_wp2_with (first
  | (go_at_call 64;refine (HA.out [] _ _ (preA_start hR k1 h1 (Nat.le_refl _)) h1 n1).mono ?_;rintro e w2 (⟨p,hq,rfl,k2⟩ | ⟨ys,m,hq,rfl,⟨⟨lv,xs,D,hj⟩,hlen,k2⟩,h2,n2⟩);(exact ⟨rfl,Or.inl ⟨p,HQ.out.trans hq,rfl,k2⟩⟩);obtain ⟨o,lc,rfl⟩:=hj.slice;have v0:=hj.cell (by decide);have p0:=hj.ptr;have r3:=h2.c3;have g3:=h2.free 3;have HJ : Hid _:=hj;have KR : Hid _:=preA_kp R _ w _ k2;have H2 : Hid _:=h2;have HQ2 : Hid _:=hq;clear hj h2 hq k2)
  | (go_at_call 153;refine OP.mono ?_;rintro e w1 ⟨rfl,h1,n1,k1⟩;have cP1:=(row1 (old_row (preA_P R _ w) k1 (fun e => by have e' : w.heap.size = R:=e;omega))).1))
 go_region
 all_goals go_wp2
 all_goals go_ret
 have K3 : Kp (Own1 R) w2 (w2.setCell ⟨R,3,none⟩ (.int .i64 (a : Int))).drew:=(Kp.own R 3 _).drew
 exact Or.inr ⟨ys,m,_,HQ.out.trans HQ2.out,rfl,row_told (HJ.out.kp pl K3),(H2.out.set3 (a : Int) a rfl (by omega)).drew,n2 (by simp),KR.out.trans K3⟩
/-- A set, wherever the reader stands. -/
theorem set_all : ∀ (n a : Nat),a + n = 32 → SetC R g cap T a (setF n)
 | n,a,ha => by
  intro w l h hl
  cases hp : isP [123] l with
  | false => cases n <;> exact set_shut h hl hp
  | true =>
   cases n with
   | zero =>
    obtain rfl : a = 32:=by omega
    exact set_deep h hl hp
   | succ n => exact set_inner (setF_eats n) (set_all n (a + 1) (by omega)) (by omega) h hl hp
end
end Go.Proofs.YtgmlbjfgfmfliaaGreatDoor
namespace Go.Proofs.YtgmlbjfgfmfliaaGreatDoor
open Go Go.RowKit
section
variable {R g cap : Nat} {T : List Tok} {a : Nat}
abbrev IntV : Int → Value → World → Prop:=fun k v _ => v = .int .i64 k
def OpV (lo : Nat) (cs : List CT) (v : Value) (w : World) : Prop:=∃ (k : Int) (t : ByteArray) (o1 : Option Addr) (n1 z1 : Nat) (o2 : Option Addr) (n2 z2 : Nat) (o3 : Option Addr) (n3 z3 : Nat),v = .agg #[.int .i64 k,.string t,.slice o1 n1 z1,.slice o2 n2 z2,.slice o3 n3 z3] ∧ Ats w (Iv lo w.heap.size) cs [.int .i64 k,.string t,.slice o1 n1 z1,.slice o2 n2 z2,.slice o3 n3 z3]
def FragV (lo : Nat) (cs : List CT) (v : Value) (w : World) : Prop:=∃ (t u : ByteArray) (o1 : Option Addr) (n1 z1 : Nat) (o2 : Option Addr) (n2 z2 : Nat),v = .agg #[.string t,.string u,.slice o1 n1 z1,.slice o2 n2 z2] ∧ Ats w (Iv lo w.heap.size) cs [.string t,.string u,.slice o1 n1 z1,.slice o2 n2 z2]
set_option maxRecDepth 100000 in
theorem opKind_any {w : World} {l : List Tok} (h : Sx R g cap T w l false a 0 0) (hl : l ≠ []) : Calls Tryz.prog 109 #[.pointer (some ⟨R,0,none⟩)] w (Out R g cap T w false a 0 0 (kindS l) IntV):=by
 have A:=ytakeW_any [113,117,101,114,121] h hl
 go_enter Tryz.func109,Tryz.ntmps109
 go_wp2_with (first
  | (go_at_call 148;refine (yfault_any _ h3 hl).mono ?_;rintro e w4 ⟨rfl,k4⟩)
  | (go_at_call 66;(with_reducible refine (ytakeW_any [115,117,98,115,99,114,105,112,116,105,111,110] h2 hl).mono ?_);rintro e w3 (⟨hc,rfl,h3,k3⟩ | ⟨hc,rfl,h3,k3⟩))
  | (go_at_call 66;(with_reducible refine (ytakeW_any [109,117,116,97,116,105,111,110] h1 hl).mono ?_);rintro e w2 (⟨hb,rfl,h2,k2⟩ | ⟨hb,rfl,h2,k2⟩))
  | (go_at_call 66;(with_reducible refine A.mono ?_);rintro e w1 (⟨hp,rfl,h1,k1⟩ | ⟨hp,rfl,h1,k1⟩)))
 ·go_ret
  exact Or.inr ⟨0,l.tail,_,by simp only [kindS,hp,if_true],rfl,rfl,h1,h.nextW hp,k1⟩
 ·go_ret
  exact Or.inr ⟨1,l.tail,_,by simp only [kindS,hp,hb,Bool.false_eq_true,if_false,if_true],rfl,rfl,h2,h.nextW hb,k1.trans k2⟩
 ·go_ret
  exact Or.inr ⟨2,l.tail,_,by simp only [kindS,hp,hb,hc,Bool.false_eq_true,if_false,if_true],rfl,rfl,h3,h.nextW hc,(k1.trans k2).trans k3⟩
 ·exact ⟨rfl,Or.inl ⟨(atT l,60),by simp only [kindS,hp,hb,hc,Bool.false_eq_true,if_false],rfl,((k1.trans k2).trans k3).trans k4.any⟩⟩
abbrev zO : Obj:=.cells #[.int .i64 0,.string ⟨#[]⟩,.slice none 0 0,.slice none 0 0,.slice none 0 0] 51
theorem preO_X (w : World) : ((w.alloc zO).alloc zO).heap[w.heap.size]? = some (.cells #[.int .i64 0,.string ⟨#[]⟩,.slice none 0 0,.slice none 0 0,.slice none 0 0] 51 (0,0)) :=
 old_row (heap_alloc_new w zO) ((Kp.refl Non _).alloc zO) (fun e => e)
theorem preO_Y (w : World) : ((w.alloc zO).alloc zO).heap[w.heap.size + 1]? = some (.cells #[.int .i64 0,.string ⟨#[]⟩,.slice none 0 0,.slice none 0 0,.slice none 0 0] 51 (0,0)):=by
 have:=heap_alloc_new (w.alloc zO) zO
 rw [World.size_alloc] at this
 exact this
abbrev zF : Obj:=.cells #[.string ⟨#[]⟩,.string ⟨#[]⟩,.slice none 0 0,.slice none 0 0] 65
theorem preF_X (w : World) : ((w.alloc zF).alloc zF).heap[w.heap.size]? = some (.cells #[.string ⟨#[]⟩,.string ⟨#[]⟩,.slice none 0 0,.slice none 0 0] 65 (0,0)) :=
 old_row (heap_alloc_new w zF) ((Kp.refl Non _).alloc zF) (fun e => e)
theorem preF_Y (w : World) : ((w.alloc zF).alloc zF).heap[w.heap.size + 1]? = some (.cells #[.string ⟨#[]⟩,.string ⟨#[]⟩,.slice none 0 0,.slice none 0 0] 65 (0,0)):=by
 have:=heap_alloc_new (w.alloc zF) zF
 rw [World.size_alloc] at this
 exact this
set_option maxRecDepth 100000 in
set_option maxHeartbeats 4000000 in
theorem op_short {w : World} {l : List Tok} (h : Sx R g cap T w l false 0 0 0) (hl : l ≠ []) (hp : isP [123] l = true) : Calls Tryz.prog 68 #[.pointer (some ⟨R,0,none⟩)] w (Out R g cap T w false 0 0 0 (opS l) (OpV w.heap.size)):=by
 have hR:=h.ltR
 have hg:=h.lt
 have hS0 : Sx R g cap T ((w.alloc zO).alloc zO) l false 0 0 0:=(h.alloc _).alloc _
 have A:=see_any [123] hS0 hl
 rw [hp] at A
 have ST : SetC R g cap T 0 (setF 32):=set_all 32 0 rfl
 go_enter Tryz.func68,Tryz.ntmps68
 go_wp2_with (first
  | (go_at_call 107;refine (ST _ _ (hS0.non k1) hl).mono ?_;rintro e w2 (⟨p,hq,rfl,k2⟩ | ⟨ss,l2,v,hq,rfl,⟨⟨o2,i2,z2,rfl⟩,hv2⟩,h2,n2,k2⟩);(exact ⟨rfl,Or.inl ⟨p,by simp only [opS,hp,if_true,hq,go_error],rfl,(((Kp.refl (Own1 R) w).alloc _).alloc _).trans (k1.any.trans k2)⟩⟩);have bY1:=keepY hR (preO_Y w) k1.any;have hz1:=lt_of_block bY1;have bY2:=keepY hR bY1 k2;have bX2:=keepX hR (preO_X w) (k1.any.trans k2);have KW2:=(((Kp.refl (Own1 R) w).alloc zO).alloc zO).trans (k1.any.trans k2);obtain ⟨y0,y1,y2,y3,y4,yf⟩:=row5 bY2;obtain ⟨x0,x1,x2,x3,x4,xf⟩:=row5 bX2)
  | (go_at_call 108;refine A.mono ?_;rintro e w1 ⟨rfl,k1⟩))
 have KQ:=own5 (w:=w2.setCell ⟨w.heap.size + 1,4,none⟩ (.slice o2 i2 z2)) w.heap.size (.int .i64 0) (.string ⟨#[]⟩) (.slice none 0 0) (.slice none 0 0) (.slice o2 i2 z2)
 have K2 : Kp (fun k => k < w.heap.size + 1 + 1) w2 _:=(((Kp.own (w.heap.size + 1) 4 (.slice o2 i2 z2))).low (by omega)).trans (KQ.low (by omega))
 refine bodyPost_ret (v:=.agg #[.int .i64 0,.string ⟨#[]⟩,.slice none 0 0,.slice none 0 0,.slice o2 i2 z2]) (by simp [results,Tryz.results68,go_sem,x0,x1,x2,x3,x4]) rfl (Or.inr ⟨opC 0 [] [] [] ss,l2,_,by simp only [opS,hp,if_true,hq,go_ok],rfl,⟨_,_,_,_,_,_,_,_,_,_,_,rfl,?_⟩,(h2.setY hR hg 4 _).kp KQ (fun e => by have e' : R = w.heap.size:=e;omega) (fun e => by have e' : g = w.heap.size:=e;omega),n2,(KW2.setY 4 _).ret KQ (Nat.le_refl _)⟩)
 have u2:=hv2.later (lo':=w.heap.size) K2 (Nat.le_refl _) (fun k h1 h2 e => by omega) (by omega) K2.size
 exact ((((Ats.nil.cons u2).cons (.nil _ _)).cons (.nil _ _)).cons (.lf _)).cons (.lf _)
set_option maxRecDepth 100000 in
set_option maxHeartbeats 8000000 in
theorem op_long {w : World} {l : List Tok} (h : Sx R g cap T w l false 0 0 0) (hl : l ≠ []) (hp : isP [123] l = false) : Calls Tryz.prog 68 #[.pointer (some ⟨R,0,none⟩)] w (Out R g cap T w false 0 0 0 (opS l) (OpV w.heap.size)):=by
 have hR:=h.ltR
 have hg:=h.lt
 have hS0 : Sx R g cap T ((w.alloc zO).alloc zO) l false 0 0 0:=(h.alloc _).alloc _
 have A:=see_any [123] hS0 hl
 rw [hp] at A
 have ST : SetC R g cap T 0 (setF 32):=set_all 32 0 rfl
 have XV : ValP R g cap T false 0 0 0 32:=value_all 32 0 rfl
 go_enter Tryz.func68,Tryz.ntmps68
 go_wp2_with (first
  | (go_at_call 107;refine (ST _ _ (h6.setY hR hg 3 (.slice o6 i6 z6)) n6).mono ?_;rintro e w7 (⟨p,hq7,rfl,k7⟩ | ⟨ss,l7,v,hq7,rfl,⟨⟨o7,i7,z7,rfl⟩,hv7⟩,h7,n7,k7⟩);(exact ⟨rfl,Or.inl ⟨p,by simp only [opS,hp,Bool.false_eq_true,if_false,hq2,go_ok,HN.out,hq5,hq6,hq7,go_error],rfl,(KW6.setY 3 _).trans k7⟩⟩);have bYp:=heap_setCell_same _ (w.heap.size + 1) 3 _ _ (.slice o6 i6 z6) bY6;have hz7:=lt_of_block bYp;have bY7:=keepY hR bYp k7;have bX7:=keepX hR (xrow bX6 3 _) k7;have KW7:=(KW6.setY 3 _).trans k7;clear bYp;obtain ⟨y0,y1,y2,y3,y4,yf⟩:=row5 bY7;obtain ⟨x0,x1,x2,x3,x4,xf⟩:=row5 bX7)
  | (go_at_call 106;refine (dirs_any XV (h5.setY hR hg 2 (.slice o5 i5 z5)) n5).mono ?_;rintro e w6 (⟨p,hq6,rfl,k6⟩ | ⟨ds,l6,v,hq6,rfl,⟨⟨o6,i6,z6,rfl⟩,hv6⟩,h6,n6,k6⟩);(exact ⟨rfl,Or.inl ⟨p,by simp only [opS,hp,Bool.false_eq_true,if_false,hq2,go_ok,HN.out,hq5,hq6,go_error],rfl,(KW5.setY 2 _).trans k6⟩⟩);have bYp:=heap_setCell_same _ (w.heap.size + 1) 2 _ _ (.slice o5 i5 z5) bY5;have hz6:=lt_of_block bYp;have bY6:=keepY hR bYp k6;have bX6:=keepX hR (xrow bX5 2 _) k6;have KW6:=(KW5.setY 2 _).trans k6;clear bYp;obtain ⟨y0,y1,y2,y3,y4,yf⟩:=row5 bY6)
  | (go_at_call 111;first
    | (refine (vars_any (h4.setY hR hg 1 (.string ⟨x.toArray⟩)) n4).mono ?_;rintro e w5 (⟨p,hq5,rfl,k5⟩ | ⟨vs,l5,v,hq5,rfl,⟨⟨o5,i5,z5,rfl⟩,hv5⟩,h5,n5,k5⟩);(exact ⟨rfl,Or.inl ⟨p,by simp only [opS,hp,Bool.false_eq_true,if_false,hq2,go_ok,titleS,hk,if_true,hq4,hq5,go_error],rfl,(KW4.setY 1 _).trans k5⟩⟩);have bYp:=heap_setCell_same _ (w.heap.size + 1) 1 _ _ (.string ⟨x.toArray⟩) bY4;have hz5:=lt_of_block bYp;have bY5:=keepY hR bYp k5;have bX5:=keepX hR (xrow bX4 1 _) k5;have KW5:=(KW4.setY 1 _).trans k5;clear bYp;have HN : Hid (titleS l2 = .ok (x,l4)):=(by show _ = _;simp only [titleS,hk,if_true,hq4]);obtain ⟨y0,y1,y2,y3,y4,yf⟩:=row5 bY5)
    | (refine (vars_any S3 n2).mono ?_;rintro e w5 (⟨p,hq5,rfl,k5⟩ | ⟨vs,l5,v,hq5,rfl,⟨⟨o5,i5,z5,rfl⟩,hv5⟩,h5,n5,k5⟩);(exact ⟨rfl,Or.inl ⟨p,by simp only [opS,hp,Bool.false_eq_true,if_false,hq2,go_ok,titleS,hk,hq5,go_error],rfl,KW3.trans k5⟩⟩);have hz5:=lt_of_block bY3;have bY5:=keepY hR bY3 k5;have bX5:=keepX hR bX3 k5;have KW5:=KW3.trans k5;have HN : Hid (titleS l2 = .ok ([],l2)):=(by show _ = _;simp only [titleS,hk,Bool.false_eq_true,if_false]);obtain ⟨y0,y1,y2,y3,y4,yf⟩:=row5 bY5))
  | (go_at_call 105;refine (name_any S3 n2).mono ?_;rintro e w4 (⟨p,hq4,rfl,k4⟩ | ⟨x,l4,v,hq4,rfl,rfl,h4,n4,k4⟩);(exact ⟨rfl,Or.inl ⟨p,by simp only [opS,hp,Bool.false_eq_true,if_false,hq2,go_ok,titleS,hk,if_true,hq4,go_error],rfl,KW3.trans k4⟩⟩);have bY4:=keepY hR bY3 k4;have bX4:=keepX hR bX3 k4;have KW4:=KW3.trans k4;obtain ⟨y0,y1,y2,y3,y4,yf⟩:=row5 bY4)
  | (go_at_call 110;have S2:=h2.setY hR hg 0 (.int .i64 kk);cases hk : isK 1 l2 <;> (have A2:=seeK_any 1 S2 n2;rw [hk] at A2;refine A2.mono ?_;rintro e w3 ⟨rfl,k3⟩;have S3:=S2.non k3;have bY3:=keepY hR (heap_setCell_same _ (w.heap.size + 1) 0 _ _ (.int .i64 kk) bY2) k3.any;have bX3:=keepX hR (xrow bX2 0 _) k3.any;have KW3:=(KW2.setY 0 _).trans k3.any;obtain ⟨y0,y1,y2,y3,y4,yf⟩:=row5 bY3))
  | (go_at_call 109;refine (opKind_any (hS0.non k1) hl).mono ?_;rintro e w2 (⟨p,hq2,rfl,k2⟩ | ⟨kk,l2,v,hq2,rfl,rfl,h2,n2,k2⟩);(exact ⟨rfl,Or.inl ⟨p,by simp only [opS,hp,Bool.false_eq_true,if_false,hq2,go_error],rfl,(((Kp.refl (Own1 R) w).alloc _).alloc _).trans (k1.any.trans k2)⟩⟩);have bY2:=keepY hR (preO_Y w) (k1.any.trans k2);have bX2:=keepX hR (preO_X w) (k1.any.trans k2);have KW2:=(((Kp.refl (Own1 R) w).alloc zO).alloc zO).trans (k1.any.trans k2);obtain ⟨y0,y1,y2,y3,y4,yf⟩:=row5 bY2)
  | (go_at_call 108;refine A.mono ?_;rintro e w1 ⟨rfl,k1⟩))
 ·have KQ:=own5 (w:=w7.setCell ⟨w.heap.size + 1,4,none⟩ (.slice o7 i7 z7)) w.heap.size (.int .i64 kk) (.string ⟨#[]⟩) (.slice o5 i5 z5) (.slice o6 i6 z6) (.slice o7 i7 z7)
  have K7 : Kp (fun k => k < w.heap.size + 1 + 1) w7 _:=(((Kp.own (w.heap.size + 1) 4 (.slice o7 i7 z7))).low (by omega)).trans (KQ.low (by omega))
  have K6:=((Kp.refl (fun k => k < w.heap.size + 1 + 1) w6).lowset (w.heap.size + 1) 3 (.slice o6 i6 z6) (by omega)).trans ((k7.low (by omega)).trans K7)
  have K5:=((Kp.refl (fun k => k < w.heap.size + 1 + 1) w5).lowset (w.heap.size + 1) 2 (.slice o5 i5 z5) (by omega)).trans ((k6.low (by omega)).trans K6)
  refine bodyPost_ret (v:=.agg #[.int .i64 kk,.string ⟨#[]⟩,.slice o5 i5 z5,.slice o6 i6 z6,.slice o7 i7 z7]) (by simp [results,Tryz.results68,go_sem,x0,x1,x2,x3,x4]) rfl (Or.inr ⟨opC kk [] vs ds ss,l7,_,by simp only [opS,hp,Bool.false_eq_true,if_false,hq2,go_ok,HN.out,hq5,hq6,hq7],rfl,⟨_,_,_,_,_,_,_,_,_,_,_,rfl,?_⟩,(h7.setY hR hg 4 _).kp KQ (fun e => by have e' : R = w.heap.size:=e;omega) (fun e => by have e' : g = w.heap.size:=e;omega),n7,(KW7.setY 4 _).ret KQ (Nat.le_refl _)⟩)
  have u5:=hv5.later (lo':=w.heap.size) K5 (Nat.le_refl _) (fun k h1 h2 e => by omega) (by omega) K5.size
  have u6:=hv6.later (lo':=w.heap.size) K6 (Nat.le_refl _) (fun k h1 h2 e => by omega) (by omega) K6.size
  have u7:=hv7.later (lo':=w.heap.size) K7 (Nat.le_refl _) (fun k h1 h2 e => by omega) (by omega) K7.size
  exact ((((Ats.nil.cons u7).cons u6).cons u5).cons (.lf _)).cons (.lf _)
 ·have KQ:=own5 (w:=w7.setCell ⟨w.heap.size + 1,4,none⟩ (.slice o7 i7 z7)) w.heap.size (.int .i64 kk) (.string ⟨x.toArray⟩) (.slice o5 i5 z5) (.slice o6 i6 z6) (.slice o7 i7 z7)
  have K7 : Kp (fun k => k < w.heap.size + 1 + 1) w7 _:=(((Kp.own (w.heap.size + 1) 4 (.slice o7 i7 z7))).low (by omega)).trans (KQ.low (by omega))
  have K6:=((Kp.refl (fun k => k < w.heap.size + 1 + 1) w6).lowset (w.heap.size + 1) 3 (.slice o6 i6 z6) (by omega)).trans ((k7.low (by omega)).trans K7)
  have K5:=((Kp.refl (fun k => k < w.heap.size + 1 + 1) w5).lowset (w.heap.size + 1) 2 (.slice o5 i5 z5) (by omega)).trans ((k6.low (by omega)).trans K6)
  refine bodyPost_ret (v:=.agg #[.int .i64 kk,.string ⟨x.toArray⟩,.slice o5 i5 z5,.slice o6 i6 z6,.slice o7 i7 z7]) (by simp [results,Tryz.results68,go_sem,x0,x1,x2,x3,x4]) rfl (Or.inr ⟨opC kk x vs ds ss,l7,_,by simp only [opS,hp,Bool.false_eq_true,if_false,hq2,go_ok,HN.out,hq5,hq6,hq7],rfl,⟨_,_,_,_,_,_,_,_,_,_,_,rfl,?_⟩,(h7.setY hR hg 4 _).kp KQ (fun e => by have e' : R = w.heap.size:=e;omega) (fun e => by have e' : g = w.heap.size:=e;omega),n7,(KW7.setY 4 _).ret KQ (Nat.le_refl _)⟩)
  have u5:=hv5.later (lo':=w.heap.size) K5 (Nat.le_refl _) (fun k h1 h2 e => by omega) (by omega) K5.size
  have u6:=hv6.later (lo':=w.heap.size) K6 (Nat.le_refl _) (fun k h1 h2 e => by omega) (by omega) K6.size
  have u7:=hv7.later (lo':=w.heap.size) K7 (Nat.le_refl _) (fun k h1 h2 e => by omega) (by omega) K7.size
  exact ((((Ats.nil.cons u7).cons u6).cons u5).cons (.lf _)).cons (.lf _)
theorem op_any {w : World} {l : List Tok} (h : Sx R g cap T w l false 0 0 0) (hl : l ≠ []) : Calls Tryz.prog 68 #[.pointer (some ⟨R,0,none⟩)] w (Out R g cap T w false 0 0 0 (opS l) (OpV w.heap.size)):=by
 cases hp : isP [123] l with
 | true => exact op_short h hl hp
 | false => exact op_long h hl hp
set_option maxRecDepth 100000 in
set_option maxHeartbeats 8000000 in
theorem frag_any {w : World} {l : List Tok} (h : Sx R g cap T w l false 0 0 0) (hl : l ≠ []) : Calls Tryz.prog 67 #[.pointer (some ⟨R,0,none⟩)] w (Out R g cap T w false 0 0 0 (fragS l) (FragV w.heap.size)):=by
 have hR:=h.ltR
 have hg:=h.lt
 have hS0 : Sx R g cap T ((w.alloc zF).alloc zF) l false 0 0 0:=(h.alloc _).alloc _
 have A:=seeW_any onB hS0 hl
 have ST : SetC R g cap T 0 (setF 32):=set_all 32 0 rfl
 have XV : ValP R g cap T false 0 0 0 32:=value_all 32 0 rfl
 cases hp : isW onB l with
 | true =>
  rw [hp] at A
  go_enter Tryz.func67,Tryz.ntmps67
  go_wp2_with (first
   | (go_at_call 104;refine (need_dies (hS0.non k1) hl).mono ?_;rintro e w2 ⟨rfl,k2⟩)
   | (go_at_call 103;refine A.mono ?_;rintro e w1 ⟨rfl,k1⟩))
  exact ⟨rfl,Or.inl ⟨(atT l,60),by simp only [fragS,notOn,hp,if_true,go_error],rfl,(((Kp.refl (Own1 R) w).alloc _).alloc _).trans (k1.trans k2).any⟩⟩
 | false =>
  rw [hp] at A
  go_enter Tryz.func67,Tryz.ntmps67
  go_wp2_with (first
   | (go_at_call 107;refine (ST _ _ (h5.setY hR hg 2 (.slice o5 i5 z5)) n5).mono ?_;rintro e w6 (⟨p,hq6,rfl,k6⟩ | ⟨ss,l6,v,hq6,rfl,⟨⟨o6,i6,z6,rfl⟩,hv6⟩,h6,n6,k6⟩);(exact ⟨rfl,Or.inl ⟨p,by simp only [fragS,notOn,hp,Bool.false_eq_true,if_false,go_ok,hq2,mustW,hb,if_true,hq4,hq5,hq6,go_error],rfl,(KW5.setY 2 _).trans k6⟩⟩);have bYp:=heap_setCell_same _ (w.heap.size + 1) 2 _ _ (.slice o5 i5 z5) bY5;have hz6:=lt_of_block bYp;have bY6:=keepY hR bYp k6;have bX6:=keepX hR (xrow bX5 2 _) k6;have KW6:=(KW5.setY 2 _).trans k6;clear bYp;obtain ⟨y0,y1,y2,y3,yf⟩:=row4 bY6;obtain ⟨x0,x1,x2,x3,xf⟩:=row4 bX6)
   | (go_at_call 106;refine (dirs_any XV (h4.setY hR hg 1 (.string ⟨u.toArray⟩)) n4).mono ?_;rintro e w5 (⟨p,hq5,rfl,k5⟩ | ⟨ds,l5,v,hq5,rfl,⟨⟨o5,i5,z5,rfl⟩,hv5⟩,h5,n5,k5⟩);(exact ⟨rfl,Or.inl ⟨p,by simp only [fragS,notOn,hp,Bool.false_eq_true,if_false,go_ok,hq2,mustW,hb,if_true,hq4,hq5,go_error],rfl,(KW4.setY 1 _).trans k5⟩⟩);have bYp:=heap_setCell_same _ (w.heap.size + 1) 1 _ _ (.string ⟨u.toArray⟩) bY4;have hz5:=lt_of_block bYp;have bY5:=keepY hR bYp k5;have bX5:=keepX hR (xrow bX4 1 _) k5;have KW5:=(KW4.setY 1 _).trans k5;clear bYp;obtain ⟨y0,y1,y2,y3,yf⟩:=row4 bY5)
   | (go_at_call 105;(with_reducible refine (name_any h3 (h2.nextW hb)).mono ?_);rintro e w4 (⟨p,hq4,rfl,k4⟩ | ⟨u,l4,v,hq4,rfl,rfl,h4,n4,k4⟩);(exact ⟨rfl,Or.inl ⟨p,by simp only [fragS,notOn,hp,Bool.false_eq_true,if_false,go_ok,hq2,mustW,hb,if_true,hq4,go_error],rfl,KW3.trans k4⟩⟩);have bY4:=keepY hR bY3 k4;have bX4:=keepX hR bX3 k4;have KW4:=KW3.trans k4;obtain ⟨y0,y1,y2,y3,yf⟩:=row4 bY4)
   | (go_at_call 104;first
     | ((with_reducible refine (need_dies h3 n2).mono ?_);rintro e w3' ⟨rfl,k3'⟩;(exact ⟨rfl,Or.inl ⟨(atT l2,60),by simp only [fragS,notOn,hp,Bool.false_eq_true,if_false,go_ok,hq2,mustW,hb,go_error],rfl,KW3.trans k3'.any⟩⟩))
     | ((with_reducible refine (yneed_yes _).mono ?_);rintro e w1' ⟨rfl,rfl⟩))
   | (go_at_call 66;refine (ytakeW_any onB (h2.setY hR hg 0 (.string ⟨x.toArray⟩)) n2).mono ?_;(rintro e w3 (⟨hb,rfl,h3,k3⟩ | ⟨hb,rfl,h3,k3⟩) <;> (have bY3:=keepY hR (heap_setCell_same _ (w.heap.size + 1) 0 _ _ (.string ⟨x.toArray⟩) bY2) k3;have bX3:=keepX hR (xrow bX2 0 _) k3;have KW3:=(KW2.setY 0 _).trans k3)))
   | (go_at_call 105;(with_reducible refine (name_any (hS0.non k1) hl).mono ?_);rintro e w2 (⟨p,hq2,rfl,k2⟩ | ⟨x,l2,v,hq2,rfl,rfl,h2,n2,k2⟩);(exact ⟨rfl,Or.inl ⟨p,by simp only [fragS,notOn,hp,Bool.false_eq_true,if_false,go_ok,hq2,go_error],rfl,(((Kp.refl (Own1 R) w).alloc _).alloc _).trans (k1.any.trans k2)⟩⟩);have bY2:=keepY hR (preF_Y w) (k1.any.trans k2);have bX2:=keepX hR (preF_X w) (k1.any.trans k2);have KW2:=(((Kp.refl (Own1 R) w).alloc zF).alloc zF).trans (k1.any.trans k2);obtain ⟨y0,y1,y2,y3,yf⟩:=row4 bY2)
   | (go_at_call 103;refine A.mono ?_;rintro e w1 ⟨rfl,k1⟩))
  have KQ:=own4 (w:=w6.setCell ⟨w.heap.size + 1,3,none⟩ (.slice o6 i6 z6)) w.heap.size (.string ⟨x.toArray⟩) (.string ⟨u.toArray⟩) (.slice o5 i5 z5) (.slice o6 i6 z6)
  have K6 : Kp (fun k => k < w.heap.size + 1 + 1) w6 _:=(((Kp.own (w.heap.size + 1) 3 (.slice o6 i6 z6))).low (by omega)).trans (KQ.low (by omega))
  have K5:=((Kp.refl (fun k => k < w.heap.size + 1 + 1) w5).lowset (w.heap.size + 1) 2 (.slice o5 i5 z5) (by omega)).trans ((k6.low (by omega)).trans K6)
  refine bodyPost_ret (v:=.agg #[.string ⟨x.toArray⟩,.string ⟨u.toArray⟩,.slice o5 i5 z5,.slice o6 i6 z6]) (by simp [results,Tryz.results67,go_sem,x0,x1,x2,x3]) rfl (Or.inr ⟨fragC x u ds ss,l6,_,by simp only [fragS,notOn,hp,Bool.false_eq_true,if_false,go_ok,hq2,mustW,hb,if_true,hq4,hq5,hq6],rfl,⟨_,_,_,_,_,_,_,_,rfl,?_⟩,(h6.setY hR hg 3 _).kp KQ (fun e => by have e' : R = w.heap.size:=e;omega) (fun e => by have e' : g = w.heap.size:=e;omega),n6,(KW6.setY 3 _).ret KQ (Nat.le_refl _)⟩)
  have u5:=hv5.later (lo':=w.heap.size) K5 (Nat.le_refl _) (fun k h1 h2 e => by omega) (by omega) K5.size
  have u6:=hv6.later (lo':=w.heap.size) K6 (Nat.le_refl _) (fun k h1 h2 e => by omega) (by omega) K6.size
  exact (((Ats.nil.cons u6).cons u5).cons (.lf _)).cons (.lf _)
end
end Go.Proofs.YtgmlbjfgfmfliaaGreatDoor
namespace Go.Proofs.YtgmlbjfgfmfliaaGreatDoor
open Go Go.RowKit
theorem Tryz.infoOp : (Tryz.prog.info? 51).map (fun i => (i.zero,i.size,i.bytes)) = some (some (.agg #[.int .i64 0,.string ⟨#[]⟩,.slice none 0 0,.slice none 0 0,.slice none 0 0]),5,96):=by kernel_rfl
theorem Tryz.infoFrag : (Tryz.prog.info? 65).map (fun i => (i.zero,i.size,i.bytes)) = some (some (.agg #[.string ⟨#[]⟩,.string ⟨#[]⟩,.slice none 0 0,.slice none 0 0]),4,80):=by kernel_rfl
section
variable {R g cap : Nat} {T : List Tok} {fx : Bool} {a b c : Nat} {V P B : Nat} {cur : Array Value} {ty tp : TypeId} {i E sz : Nat}
theorem item_endC {w w1 W2 w2 w4 : World} {m : List Tok} {els : List (List CT)} {el : List CT} {us : List Value} {lv : Value} {xs : List Value} {D : Nat → Prop} {q cp : Nat} (hj : Js R V P B cur ty tp i E sz w els lv xs D) (pl : Pl R g V P B) (hk : Kp (Own1 R) w w1)
  (hel : Ats w1 (Iv w.heap.size w1.heap.size) el us) (hW2 : Kp Non w1 W2) (hgr : W2.grownBy w2 lv.ownBlock) {H : Nat} (hH : W2.heap.size = H) (hat : lv.ownBlock = some q ∨ q = H) (own2 : w2.ownsRow B E sz (.slice (some ⟨q,0,none⟩) (els.length + 1) cp) (els.length + 1) (xs ++ us)) (h1 : Sx R g cap T w1 m fx a b c)
  (h4 : w4 = w2.setCell ⟨V,i,none⟩ (.slice (some ⟨q,0,none⟩) (els.length + 1) cp)) :
  (∃ lv' xs' D',Js R V P B cur ty tp i E sz w4 (els ++ [el]) lv' xs' D' ∧ (∀ k,lv'.ownBlock = some k → lv.ownBlock = some k ∨ w.heap.size ≤ k) ∧ (∀ k,D' k → D k ∨ w.heap.size ≤ k)) ∧ Kp (fun k => k = R ∨ k = V ∨ lv.ownBlock = some k) w w4 ∧ Sx R g cap T w4 m fx a b c:=by
 have hv2:=hj.var2 pl (Kp.refl Non w) hk hW2 hgr
 have hBq : B ≤ q:=(own_block own2 rfl).1
 have p1:=pl.bV;have p2:=pl.bg;have p3:=pl.bR
 have z1:=hk.size;have z2:=hW2.size
 subst h4
 have K4 : Kp (fun k => k = q ∨ k = V) w2 (w2.setCell ⟨V,i,none⟩ (.slice (some ⟨q,0,none⟩) (els.length + 1) cp)):=(Kp.own V i _).mono (fun _ _ e => Or.inr e)
 have var4 : (w2.setCell ⟨V,i,none⟩ (.slice (some ⟨q,0,none⟩) (els.length + 1) cp)).heap[V]? = some (.cells (cur.setIfInBounds i (.slice (some ⟨q,0,none⟩) (els.length + 1) cp)) ty (0,0)):=by
  rw [heap_setCell_same _ V i _ _ _ hv2]
  simp
 obtain ⟨hj4,k4⟩:=hj.push pl (Kp.refl Non w) hk hel hW2 hgr (by rcases hat with e | e;exact Or.inl e;exact Or.inr (by omega)) K4 var4 (ownsRow_setCell_below own2 (a:=⟨V,i,none⟩) p1 _)
 have KS : Kp (fun k => lv.ownBlock = some k ∨ k = q ∨ k = V) w1 (w2.setCell ⟨V,i,none⟩ (.slice (some ⟨q,0,none⟩) (els.length + 1) cp)):=(hW2.any.grew hgr (fun k e => Or.inr (Or.inl e))).trans (K4.mono (fun _ _ e => Or.inr e))
 refine ⟨⟨_,_,_,hj4,?_,?_⟩,k4,h1.kp KS ?_ ?_⟩
 ·intro k e
  have e2 : q = k:=by simpa [Value.ownBlock] using e
  subst e2
  rcases hat with e | e
  ·exact Or.inl e
  ·exact Or.inr (by omega)
 ·rintro k (e | e)
  ·exact Or.inl e
  ·exact Or.inr e.1
 ·rintro (e | e | e)
  ·have:=(own_block hj.own e).1;omega
  ·omega
  ·exact pl.VR e.symm
 ·rintro (e | e | e)
  ·have:=(own_block hj.own e).1;omega
  ·omega
  ·exact pl.Vg e.symm
end
abbrev curO (fv : Value) : Array Value:=#[.slice none 0 0,fv]
abbrev curF (ov : Value) : Array Value:=#[ov,.slice none 0 0]
/-- The operations, and the fragments. -/
structure Jd (R V P B : Nat) (w : World) (ops frs : List (List CT)) (ov fv : Value) (os fs : List Value) (D E : Nat → Prop) : Prop where
 jo : Js R V P B (curO fv) 25 118 0 51 5 w ops ov os D
 jf : Js R V P B (curF ov) 25 118 1 65 4 w frs fv fs E
 ap : ∀ q,ov.ownBlock = some q → fv.ownBlock ≠ some q ∧ ¬ E q
 ap' : ∀ q,fv.ownBlock = some q → ¬ D q
section
variable {R g cap : Nat} {T : List Tok} {V P B : Nat} {w : World} {ops frs : List (List CT)} {ov fv : Value} {os fs : List Value} {D E : Nat → Prop}
theorem Jd.kp {w' : World} (h : Jd R V P B w ops frs ov fv os fs D E) (pl : Pl R g V P B) (k : Kp (Own1 R) w w') : Jd R V P B w' ops frs ov fv os fs D E:=⟨h.jo.kp pl k,h.jf.kp pl k,h.ap,h.ap'⟩
theorem Jd.op {w4 : World} {el : List CT} {ov' : Value} {os' : List Value} {D' : Nat → Prop} (h : Jd R V P B w ops frs ov fv os fs D E) (pl : Pl R g V P B) (j : Js R V P B (curO fv) 25 118 0 51 5 w4 (ops ++ [el]) ov' os' D')
  (h1 : ∀ k,ov'.ownBlock = some k → ov.ownBlock = some k ∨ w.heap.size ≤ k) (h2 : ∀ k,D' k → D k ∨ w.heap.size ≤ k) (k : Kp (fun k => k = R ∨ k = V ∨ ov.ownBlock = some k) w w4) : Jd R V P B w4 (ops ++ [el]) frs ov' fv os' fs D' E where
 jo:=j
 jf:=h.jf.other pl k (by rw [j.var];rfl) (fun q e => ⟨(own_block h.jo.own e).1,(h.ap q e).1,(h.ap q e).2⟩)
 ap:=fun q e => by
  rcases h1 q e with e1 | e1
  ·exact h.ap q e1
  ·exact ⟨fun e2 => by have:=(own_block h.jf.own e2).2;omega,fun e2 => by have:=(h.jf.far q e2).2.1;omega⟩
 ap':=fun q e e2 => by
  rcases h2 q e2 with e1 | e1
  ·exact h.ap' q e e1
  ·have:=(own_block h.jf.own e).2;omega
theorem Jd.frag {w4 : World} {el : List CT} {fv' : Value} {fs' : List Value} {E' : Nat → Prop} (h : Jd R V P B w ops frs ov fv os fs D E) (pl : Pl R g V P B) (j : Js R V P B (curF ov) 25 118 1 65 4 w4 (frs ++ [el]) fv' fs' E')
  (h1 : ∀ k,fv'.ownBlock = some k → fv.ownBlock = some k ∨ w.heap.size ≤ k) (h2 : ∀ k,E' k → E k ∨ w.heap.size ≤ k) (k : Kp (fun k => k = R ∨ k = V ∨ fv.ownBlock = some k) w w4) : Jd R V P B w4 ops (frs ++ [el]) ov fv' os fs' D E' where
 jo:=h.jo.other pl k (by rw [j.var];rfl) (fun q e => ⟨(own_block h.jf.own e).1,fun e2 => (h.ap q e2).1 e,h.ap' q e⟩)
 jf:=j
 ap:=fun q e => by
  refine ⟨fun e2 => ?_,fun e2 => ?_⟩
  ·rcases h1 q e2 with e1 | e1
   ·exact (h.ap q e).1 e1
   ·have:=(own_block h.jo.own e).2;omega
  ·rcases h2 q e2 with e1 | e1
   ·exact (h.ap q e).2 e1
   ·have:=(own_block h.jo.own e).2;omega
 ap':=fun q e e2 => by
  rcases h1 q e with e1 | e1
  ·exact h.ap' q e1 e2
  ·have:=(h.jo.far q e2).2.1;omega
theorem opsOf_op (xs : List (Bool × List CT)) (x : List CT) : opsOf (xs ++ [(false,x)]) = opsOf xs ++ [x] ∧ fragsOf (xs ++ [(false,x)]) = fragsOf xs:=by simp [opsOf,fragsOf,List.filter_append]
theorem opsOf_frag (xs : List (Bool × List CT)) (x : List CT) : opsOf (xs ++ [(true,x)]) = opsOf xs ∧ fragsOf (xs ++ [(true,x)]) = fragsOf xs ++ [x]:=by simp [opsOf,fragsOf,List.filter_append]
theorem opsOf_len (xs : List (Bool × List CT)) : (opsOf xs).length ≤ xs.length ∧ (fragsOf xs).length ≤ xs.length:=by
 unfold opsOf fragsOf
 rw [List.length_map,List.length_map]
 exact ⟨List.length_filter_le _ _,List.length_filter_le _ _⟩
attribute [local go_sem ↓] Go.wp_at_zero Go.wp_at_succ
set_option maxRecDepth 100000 in
set_option maxHeartbeats 16000000 in
theorem doc1_any (pl : Pl R g V P B) (l : List Tok) (hj : Jd R V P B w ops frs ov fv os fs D E) (hn : ops.length ≤ 2049 ∧ frs.length ≤ 2049) (h : Sx R g cap T w l false 0 0 0) (hl : l ≠ []) :
  Calls Tryz.prog 65 #[.pointer (some ⟨P,0,none⟩),.pointer (some ⟨V,0,none⟩)] w fun e w' => (∃ p,itemS l = .error p ∧ e = DiesY p ∧ Kp (Own1 R) w w') ∨ (∃ x m,itemS l = .ok (x,m) ∧ e = .returned (.tuple #[]) ∧ (∃ ov' fv' os' fs' D' E',Jd R V P B w' (if x.1 then ops else ops ++ [x.2]) (if x.1 then frs ++ [x.2] else frs) ov' fv' os' fs' D' E') ∧ Kp (fun k => k = R ∨ k = V ∨ ov.ownBlock = some k ∨ fv.ownBlock = some k) w w' ∧ Sx R g cap T w' m false 0 0 0 ∧ m ≠ []):=by
 obtain ⟨oo,oc,rfl⟩:=hj.jo.slice
 obtain ⟨fo,fc,rfl⟩:=hj.jf.slice
 obtain ⟨n1,n2⟩:=hn
 have cP:=hj.jo.ptr
 have TK:=ytakeW_any fragB h hl
 have HJ : Hid (Jd R V P B w ops frs (.slice oo ops.length oc) (.slice fo frs.length fc) os fs D E):=hj
 have HS : Hid (Sx R g cap T w l false 0 0 0):=h
 have hsz:=hj.jo.size
 obtain ⟨ti,hti,hy0,hy1,hy2⟩:=info_parts Tryz.infoOp
 obtain ⟨si,hsi,sy0,sy1,sy2⟩:=info_parts Tryz.infoFrag
 clear hj h
 go_enter Tryz.func65,Tryz.ntmps65
 go_wp2_with (go_at_call 66;refine TK.mono ?_;rintro e w1 (⟨hp,rfl,h1,k1⟩ | ⟨hp,rfl,h1,k1⟩))
 ·have j1:=HJ.out.kp pl k1
  have c1:=j1.jf.cell (by simp)
  have p1:=j1.jf.ptr
  have XA:=frag_any h1.drew (HS.out.nextW hp)
  have K1 : Hid _:=k1
  have hz1 : w.heap.size ≤ w1.heap.size:=k1.size
  clear j1 k1 h1
  go_region_law (first
   | (refine step_append_lies _ (by rfl) (.tmp 5) (.tmp 8) 23 (by rfl) B 65 si _ 4 80 Tryz.underlying23 hsi sy0 sy1 sy2 rfl (by decide) (.slice fo frs.length fc) frs.length fs (by rfl) (HO.out.alloc _) ⟨w2.heap.size,0,none⟩ 1 1 [.string t0,.string t1,.slice o1 i1 z1,.slice o2 i2 z2] (by rfl) rfl (World.news_of_block (heap_alloc_new _ _)) (by intro u hu;simp at hu;rcases hu with rfl | rfl | rfl | rfl <;> rfl) (by decide) (by unfold maxLen;omega) (by omega) (by simp;omega) (w2.heap.size + 1) (by simp) ?_;intro q cp w3 own2 hgr hor hlt2;have OW : Hid _:=own2;have GR : Hid _:=hgr;have OR : Hid _:=hor;clear own2 hgr hor;have hv2:=HJ.out.jf.var2 pl (Kp.refl Non w) K2.out ((Kp.refl Non w2).alloc _) GR.out;obtain ⟨e0,e1,ef⟩:=row2 hv2;clear hv2)
   | (go_simp;go_wp2_with (first
     | (go_at_call 67;(with_reducible refine XA.mono ?_);rintro e w2 (⟨p,hq,rfl,k2⟩ | ⟨cs,m,v,hq,rfl,⟨t0,t1,o1,i1,z1,o2,i2,z2,rfl,hat⟩,h2,m2,k2⟩);(exact ⟨rfl,Or.inl ⟨p,by simp only [itemS,hp,if_true,hq,go_error],rfl,K1.out.trans (((Kp.refl (Own1 R) w1).drew).trans k2)⟩⟩);have K2 : Hid _:=K1.out.trans (((Kp.refl (Own1 R) w1).drew).trans k2);have j2:=HJ.out.kp pl K2.out;have v2:=j2.jf.cell (by simp);have f2:=j2.jf.free 1;have p2:=j2.jf.ptr;have aV:=fun o => cell_on (al1 w2 o) v2;have HO : Hid (w2.ownsRow B 65 4 (.slice fo frs.length fc) frs.length fs):=j2.jf.own;have hz2 : w1.heap.size ≤ w2.heap.size:=k2.size;have AT : Hid _:=hat;have H2 : Hid _:=h2;have HQ : Hid _:=hq;clear k2 hat h2 hq j2)
     | fail))
   | fail)
  all_goals go_end0
  all_goals
   obtain ⟨⟨fv',fs',E',g1,g2,g3⟩,g4,g5⟩:=item_endC HJ.out.jf pl K2.out (AT.out.mono (fun k hk => ⟨Nat.le_trans hz1 hk.1,hk.2⟩)) ((Kp.refl Non w2).alloc _) GR.out (World.size_alloc _ _) OR.out OW.out H2.out rfl
   exact Or.inr ⟨(true,cs),m,by simp only [itemS,hp,if_true,HQ.out,go_ok],rfl,⟨_,_,_,_,_,_,HJ.out.frag pl g1 g2 g3 g4⟩,g4.mono (fun _ _ e => by rcases e with e | e | e;exact Or.inl e;exact Or.inr (Or.inl e);exact Or.inr (Or.inr (Or.inr e))),g5,m2⟩
 ·have j1:=HJ.out.kp pl k1
  have c1:=j1.jo.cell (by simp)
  have p1:=j1.jo.ptr
  have XA:=op_any h1.drew hl
  have K1 : Hid _:=k1
  have hz1 : w.heap.size ≤ w1.heap.size:=k1.size
  clear j1 k1 h1
  go_region_law (first
   | (refine step_append_lies _ (by rfl) (.tmp 12) (.tmp 15) 22 (by rfl) B 51 ti _ 5 96 Tryz.underlying22 hti hy0 hy1 hy2 rfl (by decide) (.slice oo ops.length oc) ops.length os (by rfl) (HO.out.alloc _) ⟨w2.heap.size,0,none⟩ 1 1 [.int .i64 kk,.string t1,.slice o1 i1 z1,.slice o2 i2 z2,.slice o3 i3 z3] (by rfl) rfl (World.news_of_block (heap_alloc_new _ _)) (by intro u hu;simp at hu;rcases hu with rfl | rfl | rfl | rfl | rfl <;> rfl) (by decide) (by unfold maxLen;omega) (by omega) (by simp;omega) (w2.heap.size + 1) (by simp) ?_;intro q cp w3 own2 hgr hor hlt2;have OW : Hid _:=own2;have GR : Hid _:=hgr;have OR : Hid _:=hor;clear own2 hgr hor;have hv2:=HJ.out.jo.var2 pl (Kp.refl Non w) K2.out ((Kp.refl Non w2).alloc _) GR.out;obtain ⟨e0,e1,ef⟩:=row2 hv2;clear hv2)
   | (go_simp;go_wp2_with (first
     | (go_at_call 68;(with_reducible refine XA.mono ?_);rintro e w2 (⟨p,hq,rfl,k2⟩ | ⟨cs,m,v,hq,rfl,⟨kk,t1,o1,i1,z1,o2,i2,z2,o3,i3,z3,rfl,hat⟩,h2,m2,k2⟩);(exact ⟨rfl,Or.inl ⟨p,by simp only [itemS,hp,Bool.false_eq_true,if_false,hq,go_error],rfl,K1.out.trans (((Kp.refl (Own1 R) w1).drew).trans k2)⟩⟩);have K2 : Hid _:=K1.out.trans (((Kp.refl (Own1 R) w1).drew).trans k2);have j2:=HJ.out.kp pl K2.out;have v2:=j2.jo.cell (by simp);have f2:=j2.jo.free 0;have p2:=j2.jo.ptr;have aV:=fun o => cell_on (al1 w2 o) v2;have HO : Hid (w2.ownsRow B 51 5 (.slice oo ops.length oc) ops.length os):=j2.jo.own;have hz2 : w1.heap.size ≤ w2.heap.size:=k2.size;have AT : Hid _:=hat;have H2 : Hid _:=h2;have HQ : Hid _:=hq;clear k2 hat h2 hq j2)
     | fail))
   | fail)
  all_goals go_end0
  all_goals
   obtain ⟨⟨ov',os',D',g1,g2,g3⟩,g4,g5⟩:=item_endC HJ.out.jo pl K2.out (AT.out.mono (fun k hk => ⟨Nat.le_trans hz1 hk.1,hk.2⟩)) ((Kp.refl Non w2).alloc _) GR.out (World.size_alloc _ _) OR.out OW.out H2.out rfl
   exact Or.inr ⟨(false,cs),m,by simp only [itemS,hp,Bool.false_eq_true,if_false,HQ.out,go_ok],rfl,⟨_,_,_,_,_,_,HJ.out.op pl g1 g2 g3 g4⟩,g4.mono (fun _ _ e => by rcases e with e | e | e;exact Or.inl e;exact Or.inr (Or.inl e);exact Or.inr (Or.inr (Or.inl e))),g5,m2⟩
end
end Go.Proofs.YtgmlbjfgfmfliaaGreatDoor
namespace Go.Proofs.YtgmlbjfgfmfliaaGreatDoor
open Go Go.RowKit
def DocV (lo : Nat) (cs : List CT) (v : Value) (w : World) : Prop:=∃ (o1 : Option Addr) (n1 z1 : Nat) (o2 : Option Addr) (n2 z2 : Nat),v = .agg #[.slice o1 n1 z1,.slice o2 n2 z2] ∧ Ats w (Iv lo w.heap.size) cs [.slice o1 n1 z1,.slice o2 n2 z2]
def Jw (R V P B : Nat) (W0 : World) (xs : List (Bool × List CT)) (l : List Tok) (w : World) : Prop :=
 (∃ ov fv os fs D E,Jd R V P B w (opsOf xs) (fragsOf xs) ov fv os fs D E) ∧ xs.length + l.length ≤ 2049 ∧ Kp (fun k => k = R ∨ k = V) W0 w
section
variable {R g cap : Nat} {T : List Tok}
theorem Jw.kp {V P B : Nat} {W0 : World} (pl : Pl R g V P B) : ∀ xs l m w w',Jw R V P B W0 xs l w → Kp (Own1 R) w w' → m.length ≤ l.length → Jw R V P B W0 xs m w':=by
 rintro xs l m w w' ⟨⟨ov,fv,os,fs,D,E,hj⟩,hn,hk⟩ k hm
 exact ⟨⟨ov,fv,os,fs,D,E,hj.kp pl k⟩,by omega,hk.trans (k.mono (fun _ _ e => Or.inl e))⟩
theorem oneR_doc {V P B : Nat} {W0 : World} (hB : B = W0.heap.size) (w0 : World) (hw0 : ∀ w',Kp (fun k => k = R ∨ k = V) W0 w' → Kp (Own1 R) w0 w') (pl : Pl R g V P B) :
  OneR R g cap T false 0 0 0 65 #[.pointer (some ⟨P,0,none⟩),.pointer (some ⟨V,0,none⟩)] itemS (Jw R V P B W0) (Kp (Own1 R) w0):=by
 rintro xs l w ⟨⟨ov,fv,os,fs,D,E,hj⟩,hn,hk⟩ h hl
 have hlen:=opsOf_len xs
 refine (doc1_any pl l hj ⟨by omega,by omega⟩ h hl).mono ?_
 rintro e w' (⟨p,hp,rfl,k⟩ | ⟨⟨bb,x⟩,m,hp,rfl,hj',k,h',n'⟩)
 ·exact Or.inl ⟨p,hp,rfl,hw0 _ (hk.trans (k.mono (fun _ _ e => Or.inl e)))⟩
 ·refine Or.inr ⟨(bb,x),m,hp,rfl,⟨?_,?_,hk.trans2 k (fun k hk e => ?_)⟩,h',n'⟩
  ·cases bb with
   | true => rw [(opsOf_frag xs x).1,(opsOf_frag xs x).2];exact hj'
   | false => rw [(opsOf_op xs x).1,(opsOf_op xs x).2];exact hj'
  ·have:=itemS_eats _ _ _ hp
   rw [List.length_append]
   simp;omega
  ·rcases e with e | e | e | e
   ·exact Or.inl e
   ·exact Or.inr e
   ·have:=(own_block hj.jo.own e).1
    omega
   ·have:=(own_block hj.jf.own e).1
    omega
abbrev preD (R : Nat) (w : World) : World:=((w.alloc (.cells #[.pointer (some ⟨R,0,none⟩)] 118)).alloc (.cells #[.slice none 0 0,.slice none 0 0] 25)).alloc (.cells #[.slice none 0 0,.slice none 0 0] 25)
set_option maxRecDepth 100000 in
set_option maxHeartbeats 4000000 in
theorem doc_any {w : World} {l : List Tok} (h : Sx R g cap T w l false 0 0 0) (hl : l ≠ []) : Calls Tryz.prog 35 #[.pointer (some ⟨R,0,none⟩)] w fun e w' => (∃ p,docS l = .error p ∧ e = DiesY p ∧ Kp (Own1 R) w w') ∨ (∃ cs m v,docS l = .ok (cs,m) ∧ e = .returned v ∧ DocV w.heap.size cs v w' ∧ Kp (Own1 R) w w'):=by
 have hmf : ∀ (fn : Fn) (first cap : Array Value) (w : World),(Instr.makeFunc fn first cap).run Tryz.prog w = .ok (.func fn first cap) w:=fun _ _ _ _ => rfl
 have hR:=h.ltR
 have hg:=h.lt
 have hS0 : Sx R g cap T (preD R w) l false 0 0 0:=((h.alloc _).alloc _).alloc _
 have hz0 : (preD R w).heap.size = w.heap.size + 3:=by simp
 have pl : Pl R g (w.heap.size + 1 + 1) w.heap.size (w.heap.size + 3):=⟨by omega,by omega,by omega,by omega,by omega,by omega,by omega,by omega⟩
 have bP : (preD R w).heap[w.heap.size]? = some (.cells #[.pointer (some ⟨R,0,none⟩)] 118 (0,0)) :=
  old_row (heap_alloc_new w (.cells #[.pointer (some ⟨R,0,none⟩)] 118)) (((Kp.refl Non _).alloc _).alloc _) (fun e => e)
 have bX : (preD R w).heap[w.heap.size + 1]? = some (.cells #[.slice none 0 0,.slice none 0 0] 25 (0,0)):=by
  have:=old_row (heap_alloc_new (w.alloc (.cells #[.pointer (some ⟨R,0,none⟩)] 118)) (.cells #[.slice none 0 0,.slice none 0 0] 25)) ((Kp.refl Non _).alloc (.cells #[.slice none 0 0,.slice none 0 0] 25)) (fun e => e)
  rw [World.size_alloc] at this
  exact this
 have bV : (preD R w).heap[w.heap.size + 1 + 1]? = some (.cells #[.slice none 0 0,.slice none 0 0] 25 (0,0)):=by
  have:=heap_alloc_new ((w.alloc (.cells #[.pointer (some ⟨R,0,none⟩)] 118)).alloc (.cells #[.slice none 0 0,.slice none 0 0] 25)) (.cells #[.slice none 0 0,.slice none 0 0] 25)
  rw [World.size_alloc,World.size_alloc] at this
  exact this
 have KW : ∀ w',Kp (fun k => k = R ∨ k = w.heap.size + 1 + 1) (preD R w) w' → Kp (Own1 R) w w':=fun w' k => ((((Kp.refl (Own1 R) w).alloc _).alloc _).alloc _).trans2 k (fun j hj e => by rcases e with e | e;exact e;omega)
 have hle:=h.le
 have hsm:=h.full.small
 have J0 : Jw R (w.heap.size + 1 + 1) w.heap.size (w.heap.size + 3) (preD R w) [] l (preD R w):=⟨⟨_,_,_,_,_,_,⟨Js.new bV bP (by omega),Js.new bV bP (by omega),(fun _ e => by cases e),(fun _ e => by cases e)⟩⟩,by simp;omega,Kp.refl _ _⟩
 have AN:=some_any 65 #[.pointer (some ⟨w.heap.size,0,none⟩),.pointer (some ⟨w.heap.size + 1 + 1,0,none⟩)] (fun _ _ => rfl) [] itemS itemS_eats _ (Kp (Own1 R) w) (Jw.kp (W0:=preD R w) pl) (oneR_doc hz0.symm w KW pl) [] l (preD R w) J0 hS0 hl
 have HB : Hid _:=bX
 have HKW : Hid _:=KW
 clear bP bV J0 KW bX
 go_enter Tryz.func35,Tryz.ntmps35
 go_wp2_with (go_at_call 64;refine AN.mono ?_;rintro e w2 (⟨p,hq,rfl,k2⟩ | ⟨ys,m,hq,rfl,⟨⟨ov,fv,os,fs,D,E,hj⟩,hlen,k2⟩,h2,n2⟩);(exact ⟨rfl,Or.inl ⟨p,by unfold docS;rw [hq,go_error],rfl,k2⟩⟩);obtain ⟨oo,oc,rfl⟩:=hj.jo.slice;obtain ⟨fo,fc,rfl⟩:=hj.jf.slice;obtain ⟨v0,v1,vf⟩:=row2 hj.jo.var;obtain ⟨x0,x1,xf⟩:=row2 (old_row HB.out k2 (by rintro (e | e) <;> omega));have HJ : Hid _:=hj;have K2 : Hid _:=k2;clear hj k2)
 have KQ:=own2 (w:=w2) (w.heap.size + 1) (.slice oo (opsOf ([] ++ ys)).length oc) (.slice fo (fragsOf ([] ++ ys)).length fc)
 have KA : Kp (fun k => k = w.heap.size + 1) w2 _:=KQ
 have u1:=HJ.out.jo.at.later (lo':=w.heap.size) KA (Nat.le_refl _) (by rintro k h1 h2 e;omega) (by omega) KA.size
 have u2:=HJ.out.jf.at.later (lo':=w.heap.size) KA (Nat.le_refl _) (by rintro k h1 h2 e;omega) (by omega) KA.size
 refine bodyPost_ret (v:=.agg #[.slice oo (opsOf ([] ++ ys)).length oc,.slice fo (fragsOf ([] ++ ys)).length fc]) (by simp [results,Tryz.results35,go_sem,x0,x1]) rfl (Or.inr ⟨docC ([] ++ ys),m,_,by unfold docS;rw [hq,go_ok];rfl,rfl,⟨_,_,_,_,_,_,rfl,(Ats.nil.cons u2).cons u1⟩,(HKW.out _ K2.out).ret KQ (Nat.le_succ _)⟩)
end
end Go.Proofs.YtgmlbjfgfmfliaaGreatDoor
