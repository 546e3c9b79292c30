/- Operations and fragments. -/
import Derived.Test.YtgppemlciohjcaaGreatDoorB11
import Derived.Test.YtgppemlciohjcaaGreatDoorB06
namespace Go.Proofs.YtgppemlciohjcaaGreatDoor
section
open Go Go.RowKit
section
variable {R g cap : Nat} {T : List Tok} {a : Nat}
abbrev IntV : Int → Value → World → Prop:=fun k v _ => v = .int .i64 k
def OpV (lo : Nat) (cs : List CT) (v : Value) (w : World) : Prop:=∃ (k : Int) (t : ByteArray) (o1 : Option Addr) (n1 z1 : Nat) (o2 : Option Addr) (n2 z2 : Nat) (o3 : Option Addr) (n3 z3 : Nat),v = .agg #[.int .i64 k,.string t,.slice o1 n1 z1,.slice o2 n2 z2,.slice o3 n3 z3] ∧ Ats w (Iv lo w.heap.size) cs [.int .i64 k,.string t,.slice o1 n1 z1,.slice o2 n2 z2,.slice o3 n3 z3]
def FragV (lo : Nat) (cs : List CT) (v : Value) (w : World) : Prop:=∃ (t u : ByteArray) (o1 : Option Addr) (n1 z1 : Nat) (o2 : Option Addr) (n2 z2 : Nat),v = .agg #[.string t,.string u,.slice o1 n1 z1,.slice o2 n2 z2] ∧ Ats w (Iv lo w.heap.size) cs [.string t,.string u,.slice o1 n1 z1,.slice o2 n2 z2]
set_option maxRecDepth 100000 in
theorem opKind_any {w : World} {l : List Tok} (h : Sx R g cap T w l false a 0 0) (hl : l ≠ []) : Calls Tryz.prog 60 #[.pointer (some ⟨R,0,none⟩)] w (Out R g cap T w false a 0 0 (kindS l) IntV):=by
 have A:=ytakeW_any [113,117,101,114,121] h hl
 go_enter Tryz.func60,Tryz.ntmps60
 go_wp2_with (first
  | (go_at_call 89;refine (yfault_any _ h3 hl).mono ?_;rintro e w4 ⟨rfl,k4⟩)
  | (go_at_call 35;(with_reducible refine (ytakeW_any [115,117,98,115,99,114,105,112,116,105,111,110] h2 hl).mono ?_);rintro e w3 (⟨hc,rfl,h3,k3⟩ | ⟨hc,rfl,h3,k3⟩))
  | (go_at_call 35;(with_reducible refine (ytakeW_any [109,117,116,97,116,105,111,110] h1 hl).mono ?_);rintro e w2 (⟨hb,rfl,h2,k2⟩ | ⟨hb,rfl,h2,k2⟩))
  | (go_at_call 35;(with_reducible refine A.mono ?_);rintro e w1 (⟨hp,rfl,h1,k1⟩ | ⟨hp,rfl,h1,k1⟩)))
 ·go_ret
  exact Or.inr ⟨0,l.tail,_,by simp only [kindS,hp,if_true],rfl,rfl,h1,h.nextW hp,k1⟩
 ·go_ret
  exact Or.inr ⟨1,l.tail,_,by simp only [kindS,hp,hb,Bool.false_eq_true,if_false,if_true],rfl,rfl,h2,h.nextW hb,k1.trans k2⟩
 ·go_ret
  exact Or.inr ⟨2,l.tail,_,by simp only [kindS,hp,hb,hc,Bool.false_eq_true,if_false,if_true],rfl,rfl,h3,h.nextW hc,(k1.trans k2).trans k3⟩
 ·exact ⟨rfl,Or.inl ⟨(atT l,60),by simp only [kindS,hp,hb,hc,Bool.false_eq_true,if_false],rfl,((k1.trans k2).trans k3).trans k4.any⟩⟩
abbrev zO : Obj:=.cells #[.int .i64 0,.string ⟨#[]⟩,.slice none 0 0,.slice none 0 0,.slice none 0 0] 61
theorem preO_X (w : World) : ((w.alloc zO).alloc zO).heap[w.heap.size]? = some (.cells #[.int .i64 0,.string ⟨#[]⟩,.slice none 0 0,.slice none 0 0,.slice none 0 0] 61 (0,0)) :=
 old_row (heap_alloc_new w zO) ((Kp.refl Non _).alloc zO) (fun e => e)
theorem preO_Y (w : World) : ((w.alloc zO).alloc zO).heap[w.heap.size + 1]? = some (.cells #[.int .i64 0,.string ⟨#[]⟩,.slice none 0 0,.slice none 0 0,.slice none 0 0] 61 (0,0)):=by
 have:=heap_alloc_new (w.alloc zO) zO
 rw [World.size_alloc] at this
 exact this
abbrev zF : Obj:=.cells #[.string ⟨#[]⟩,.string ⟨#[]⟩,.slice none 0 0,.slice none 0 0] 57
theorem preF_X (w : World) : ((w.alloc zF).alloc zF).heap[w.heap.size]? = some (.cells #[.string ⟨#[]⟩,.string ⟨#[]⟩,.slice none 0 0,.slice none 0 0] 57 (0,0)) :=
 old_row (heap_alloc_new w zF) ((Kp.refl Non _).alloc zF) (fun e => e)
theorem preF_Y (w : World) : ((w.alloc zF).alloc zF).heap[w.heap.size + 1]? = some (.cells #[.string ⟨#[]⟩,.string ⟨#[]⟩,.slice none 0 0,.slice none 0 0] 57 (0,0)):=by
 have:=heap_alloc_new (w.alloc zF) zF
 rw [World.size_alloc] at this
 exact this
set_option maxRecDepth 100000 in
set_option maxHeartbeats 4000000 in
theorem op_short {w : World} {l : List Tok} (h : Sx R g cap T w l false 0 0 0) (hl : l ≠ []) (hp : isP [123] l = true) : Calls Tryz.prog 37 #[.pointer (some ⟨R,0,none⟩)] w (Out R g cap T w false 0 0 0 (opS l) (OpV w.heap.size)):=by
 have hR:=h.ltR
 have hg:=h.lt
 have hS0 : Sx R g cap T ((w.alloc zO).alloc zO) l false 0 0 0:=(h.alloc _).alloc _
 have A:=see_any [123] hS0 hl
 rw [hp] at A
 have ST : SetC R g cap T 0 (setF 32):=set_all 32 0 rfl
 go_enter Tryz.func37,Tryz.ntmps37
 go_wp2_with (first
  | (go_at_call 58;refine (ST _ _ (hS0.non k1) hl).mono ?_;rintro e w2 (⟨p,hq,rfl,k2⟩ | ⟨ss,l2,v,hq,rfl,⟨⟨o2,i2,z2,rfl⟩,hv2⟩,h2,n2,k2⟩);(exact ⟨rfl,Or.inl ⟨p,by simp only [opS,hp,if_true,hq,go_error],rfl,(((Kp.refl (Own1 R) w).alloc _).alloc _).trans (k1.any.trans k2)⟩⟩);have bY1:=keepY hR (preO_Y w) k1.any;have hz1:=lt_of_block bY1;have bY2:=keepY hR bY1 k2;have bX2:=keepX hR (preO_X w) (k1.any.trans k2);have KW2:=(((Kp.refl (Own1 R) w).alloc zO).alloc zO).trans (k1.any.trans k2);obtain ⟨y0,y1,y2,y3,y4,yf⟩:=row5 bY2;obtain ⟨x0,x1,x2,x3,x4,xf⟩:=row5 bX2)
  | (go_at_call 59;refine A.mono ?_;rintro e w1 ⟨rfl,k1⟩))
 have KQ:=own5 (w:=w2.setCell ⟨w.heap.size + 1,4,none⟩ (.slice o2 i2 z2)) w.heap.size (.int .i64 0) (.string ⟨#[]⟩) (.slice none 0 0) (.slice none 0 0) (.slice o2 i2 z2)
 have K2 : Kp (fun k => k < w.heap.size + 1 + 1) w2 _:=(((Kp.own (w.heap.size + 1) 4 (.slice o2 i2 z2))).low (by omega)).trans (KQ.low (by omega))
 refine bodyPost_ret (v:=.agg #[.int .i64 0,.string ⟨#[]⟩,.slice none 0 0,.slice none 0 0,.slice o2 i2 z2]) (by simp [results,Tryz.results37,go_sem,x0,x1,x2,x3,x4]) rfl (Or.inr ⟨opC 0 [] [] [] ss,l2,_,by simp only [opS,hp,if_true,hq,go_ok],rfl,⟨_,_,_,_,_,_,_,_,_,_,_,rfl,?_⟩,(h2.setY hR hg 4 _).kp KQ (fun e => by have e' : R = w.heap.size:=e;omega) (fun e => by have e' : g = w.heap.size:=e;omega),n2,(KW2.setY 4 _).ret KQ (Nat.le_refl _)⟩)
 have u2:=hv2.later (lo':=w.heap.size) K2 (Nat.le_refl _) (fun k h1 h2 e => by omega) (by omega) K2.size
 exact ((((Ats.nil.cons u2).cons (.nil _ _)).cons (.nil _ _)).cons (.lf _)).cons (.lf _)
set_option maxRecDepth 100000 in
set_option maxHeartbeats 8000000 in
theorem op_long {w : World} {l : List Tok} (h : Sx R g cap T w l false 0 0 0) (hl : l ≠ []) (hp : isP [123] l = false) : Calls Tryz.prog 37 #[.pointer (some ⟨R,0,none⟩)] w (Out R g cap T w false 0 0 0 (opS l) (OpV w.heap.size)):=by
 have hR:=h.ltR
 have hg:=h.lt
 have hS0 : Sx R g cap T ((w.alloc zO).alloc zO) l false 0 0 0:=(h.alloc _).alloc _
 have A:=see_any [123] hS0 hl
 rw [hp] at A
 have ST : SetC R g cap T 0 (setF 32):=set_all 32 0 rfl
 have XV : ValP R g cap T false 0 0 0 32:=value_all 32 0 rfl
 go_enter Tryz.func37,Tryz.ntmps37
 go_wp2_with (first
  | (go_at_call 58;refine (ST _ _ (h6.setY hR hg 3 (.slice o6 i6 z6)) n6).mono ?_;rintro e w7 (⟨p,hq7,rfl,k7⟩ | ⟨ss,l7,v,hq7,rfl,⟨⟨o7,i7,z7,rfl⟩,hv7⟩,h7,n7,k7⟩);(exact ⟨rfl,Or.inl ⟨p,by simp only [opS,hp,Bool.false_eq_true,if_false,hq2,go_ok,HN.out,hq5,hq6,hq7,go_error],rfl,(KW6.setY 3 _).trans k7⟩⟩);have bYp:=heap_setCell_same _ (w.heap.size + 1) 3 _ _ (.slice o6 i6 z6) bY6;have hz7:=lt_of_block bYp;have bY7:=keepY hR bYp k7;have bX7:=keepX hR (xrow bX6 3 _) k7;have KW7:=(KW6.setY 3 _).trans k7;clear bYp;obtain ⟨y0,y1,y2,y3,y4,yf⟩:=row5 bY7;obtain ⟨x0,x1,x2,x3,x4,xf⟩:=row5 bX7)
  | (go_at_call 57;refine (dirs_any XV (h5.setY hR hg 2 (.slice o5 i5 z5)) n5).mono ?_;rintro e w6 (⟨p,hq6,rfl,k6⟩ | ⟨ds,l6,v,hq6,rfl,⟨⟨o6,i6,z6,rfl⟩,hv6⟩,h6,n6,k6⟩);(exact ⟨rfl,Or.inl ⟨p,by simp only [opS,hp,Bool.false_eq_true,if_false,hq2,go_ok,HN.out,hq5,hq6,go_error],rfl,(KW5.setY 2 _).trans k6⟩⟩);have bYp:=heap_setCell_same _ (w.heap.size + 1) 2 _ _ (.slice o5 i5 z5) bY5;have hz6:=lt_of_block bYp;have bY6:=keepY hR bYp k6;have bX6:=keepX hR (xrow bX5 2 _) k6;have KW6:=(KW5.setY 2 _).trans k6;clear bYp;obtain ⟨y0,y1,y2,y3,y4,yf⟩:=row5 bY6)
  | (go_at_call 62;first
    | (refine (vars_any (h4.setY hR hg 1 (.string ⟨x.toArray⟩)) n4).mono ?_;rintro e w5 (⟨p,hq5,rfl,k5⟩ | ⟨vs,l5,v,hq5,rfl,⟨⟨o5,i5,z5,rfl⟩,hv5⟩,h5,n5,k5⟩);(exact ⟨rfl,Or.inl ⟨p,by simp only [opS,hp,Bool.false_eq_true,if_false,hq2,go_ok,titleS,hk,if_true,hq4,hq5,go_error],rfl,(KW4.setY 1 _).trans k5⟩⟩);have bYp:=heap_setCell_same _ (w.heap.size + 1) 1 _ _ (.string ⟨x.toArray⟩) bY4;have hz5:=lt_of_block bYp;have bY5:=keepY hR bYp k5;have bX5:=keepX hR (xrow bX4 1 _) k5;have KW5:=(KW4.setY 1 _).trans k5;clear bYp;have HN : Hid (titleS l2 = .ok (x,l4)):=(by show _ = _;simp only [titleS,hk,if_true,hq4]);obtain ⟨y0,y1,y2,y3,y4,yf⟩:=row5 bY5)
    | (refine (vars_any S3 n2).mono ?_;rintro e w5 (⟨p,hq5,rfl,k5⟩ | ⟨vs,l5,v,hq5,rfl,⟨⟨o5,i5,z5,rfl⟩,hv5⟩,h5,n5,k5⟩);(exact ⟨rfl,Or.inl ⟨p,by simp only [opS,hp,Bool.false_eq_true,if_false,hq2,go_ok,titleS,hk,hq5,go_error],rfl,KW3.trans k5⟩⟩);have hz5:=lt_of_block bY3;have bY5:=keepY hR bY3 k5;have bX5:=keepX hR bX3 k5;have KW5:=KW3.trans k5;have HN : Hid (titleS l2 = .ok ([],l2)):=(by show _ = _;simp only [titleS,hk,Bool.false_eq_true,if_false]);obtain ⟨y0,y1,y2,y3,y4,yf⟩:=row5 bY5))
  | (go_at_call 56;refine (name_any S3 n2).mono ?_;rintro e w4 (⟨p,hq4,rfl,k4⟩ | ⟨x,l4,v,hq4,rfl,rfl,h4,n4,k4⟩);(exact ⟨rfl,Or.inl ⟨p,by simp only [opS,hp,Bool.false_eq_true,if_false,hq2,go_ok,titleS,hk,if_true,hq4,go_error],rfl,KW3.trans k4⟩⟩);have bY4:=keepY hR bY3 k4;have bX4:=keepX hR bX3 k4;have KW4:=KW3.trans k4;obtain ⟨y0,y1,y2,y3,y4,yf⟩:=row5 bY4)
  | (go_at_call 61;have S2:=h2.setY hR hg 0 (.int .i64 kk);cases hk : isK 1 l2 <;> (have A2:=seeK_any 1 S2 n2;rw [hk] at A2;refine A2.mono ?_;rintro e w3 ⟨rfl,k3⟩;have S3:=S2.non k3;have bY3:=keepY hR (heap_setCell_same _ (w.heap.size + 1) 0 _ _ (.int .i64 kk) bY2) k3.any;have bX3:=keepX hR (xrow bX2 0 _) k3.any;have KW3:=(KW2.setY 0 _).trans k3.any;obtain ⟨y0,y1,y2,y3,y4,yf⟩:=row5 bY3))
  | (go_at_call 60;refine (opKind_any (hS0.non k1) hl).mono ?_;rintro e w2 (⟨p,hq2,rfl,k2⟩ | ⟨kk,l2,v,hq2,rfl,rfl,h2,n2,k2⟩);(exact ⟨rfl,Or.inl ⟨p,by simp only [opS,hp,Bool.false_eq_true,if_false,hq2,go_error],rfl,(((Kp.refl (Own1 R) w).alloc _).alloc _).trans (k1.any.trans k2)⟩⟩);have bY2:=keepY hR (preO_Y w) (k1.any.trans k2);have bX2:=keepX hR (preO_X w) (k1.any.trans k2);have KW2:=(((Kp.refl (Own1 R) w).alloc zO).alloc zO).trans (k1.any.trans k2);obtain ⟨y0,y1,y2,y3,y4,yf⟩:=row5 bY2)
  | (go_at_call 59;refine A.mono ?_;rintro e w1 ⟨rfl,k1⟩))
 ·have KQ:=own5 (w:=w7.setCell ⟨w.heap.size + 1,4,none⟩ (.slice o7 i7 z7)) w.heap.size (.int .i64 kk) (.string ⟨#[]⟩) (.slice o5 i5 z5) (.slice o6 i6 z6) (.slice o7 i7 z7)
  have K7 : Kp (fun k => k < w.heap.size + 1 + 1) w7 _:=(((Kp.own (w.heap.size + 1) 4 (.slice o7 i7 z7))).low (by omega)).trans (KQ.low (by omega))
  have K6:=((Kp.refl (fun k => k < w.heap.size + 1 + 1) w6).lowset (w.heap.size + 1) 3 (.slice o6 i6 z6) (by omega)).trans ((k7.low (by omega)).trans K7)
  have K5:=((Kp.refl (fun k => k < w.heap.size + 1 + 1) w5).lowset (w.heap.size + 1) 2 (.slice o5 i5 z5) (by omega)).trans ((k6.low (by omega)).trans K6)
  refine bodyPost_ret (v:=.agg #[.int .i64 kk,.string ⟨#[]⟩,.slice o5 i5 z5,.slice o6 i6 z6,.slice o7 i7 z7]) (by simp [results,Tryz.results37,go_sem,x0,x1,x2,x3,x4]) rfl (Or.inr ⟨opC kk [] vs ds ss,l7,_,by simp only [opS,hp,Bool.false_eq_true,if_false,hq2,go_ok,HN.out,hq5,hq6,hq7],rfl,⟨_,_,_,_,_,_,_,_,_,_,_,rfl,?_⟩,(h7.setY hR hg 4 _).kp KQ (fun e => by have e' : R = w.heap.size:=e;omega) (fun e => by have e' : g = w.heap.size:=e;omega),n7,(KW7.setY 4 _).ret KQ (Nat.le_refl _)⟩)
  have u5:=hv5.later (lo':=w.heap.size) K5 (Nat.le_refl _) (fun k h1 h2 e => by omega) (by omega) K5.size
  have u6:=hv6.later (lo':=w.heap.size) K6 (Nat.le_refl _) (fun k h1 h2 e => by omega) (by omega) K6.size
  have u7:=hv7.later (lo':=w.heap.size) K7 (Nat.le_refl _) (fun k h1 h2 e => by omega) (by omega) K7.size
  exact ((((Ats.nil.cons u7).cons u6).cons u5).cons (.lf _)).cons (.lf _)
 ·have KQ:=own5 (w:=w7.setCell ⟨w.heap.size + 1,4,none⟩ (.slice o7 i7 z7)) w.heap.size (.int .i64 kk) (.string ⟨x.toArray⟩) (.slice o5 i5 z5) (.slice o6 i6 z6) (.slice o7 i7 z7)
  have K7 : Kp (fun k => k < w.heap.size + 1 + 1) w7 _:=(((Kp.own (w.heap.size + 1) 4 (.slice o7 i7 z7))).low (by omega)).trans (KQ.low (by omega))
  have K6:=((Kp.refl (fun k => k < w.heap.size + 1 + 1) w6).lowset (w.heap.size + 1) 3 (.slice o6 i6 z6) (by omega)).trans ((k7.low (by omega)).trans K7)
  have K5:=((Kp.refl (fun k => k < w.heap.size + 1 + 1) w5).lowset (w.heap.size + 1) 2 (.slice o5 i5 z5) (by omega)).trans ((k6.low (by omega)).trans K6)
  refine bodyPost_ret (v:=.agg #[.int .i64 kk,.string ⟨x.toArray⟩,.slice o5 i5 z5,.slice o6 i6 z6,.slice o7 i7 z7]) (by simp [results,Tryz.results37,go_sem,x0,x1,x2,x3,x4]) rfl (Or.inr ⟨opC kk x vs ds ss,l7,_,by simp only [opS,hp,Bool.false_eq_true,if_false,hq2,go_ok,HN.out,hq5,hq6,hq7],rfl,⟨_,_,_,_,_,_,_,_,_,_,_,rfl,?_⟩,(h7.setY hR hg 4 _).kp KQ (fun e => by have e' : R = w.heap.size:=e;omega) (fun e => by have e' : g = w.heap.size:=e;omega),n7,(KW7.setY 4 _).ret KQ (Nat.le_refl _)⟩)
  have u5:=hv5.later (lo':=w.heap.size) K5 (Nat.le_refl _) (fun k h1 h2 e => by omega) (by omega) K5.size
  have u6:=hv6.later (lo':=w.heap.size) K6 (Nat.le_refl _) (fun k h1 h2 e => by omega) (by omega) K6.size
  have u7:=hv7.later (lo':=w.heap.size) K7 (Nat.le_refl _) (fun k h1 h2 e => by omega) (by omega) K7.size
  exact ((((Ats.nil.cons u7).cons u6).cons u5).cons (.lf _)).cons (.lf _)
theorem op_any {w : World} {l : List Tok} (h : Sx R g cap T w l false 0 0 0) (hl : l ≠ []) : Calls Tryz.prog 37 #[.pointer (some ⟨R,0,none⟩)] w (Out R g cap T w false 0 0 0 (opS l) (OpV w.heap.size)):=by
 cases hp : isP [123] l with
 | true => exact op_short h hl hp
 | false => exact op_long h hl hp
set_option maxRecDepth 100000 in
set_option maxHeartbeats 8000000 in
theorem frag_any {w : World} {l : List Tok} (h : Sx R g cap T w l false 0 0 0) (hl : l ≠ []) : Calls Tryz.prog 36 #[.pointer (some ⟨R,0,none⟩)] w (Out R g cap T w false 0 0 0 (fragS l) (FragV w.heap.size)):=by
 have hR:=h.ltR
 have hg:=h.lt
 have hS0 : Sx R g cap T ((w.alloc zF).alloc zF) l false 0 0 0:=(h.alloc _).alloc _
 have A:=seeW_any onB hS0 hl
 have ST : SetC R g cap T 0 (setF 32):=set_all 32 0 rfl
 have XV : ValP R g cap T false 0 0 0 32:=value_all 32 0 rfl
 cases hp : isW onB l with
 | true =>
  rw [hp] at A
  go_enter Tryz.func36,Tryz.ntmps36
  go_wp2_with (first
   | (go_at_call 55;refine (need_dies (hS0.non k1) hl).mono ?_;rintro e w2 ⟨rfl,k2⟩)
   | (go_at_call 54;refine A.mono ?_;rintro e w1 ⟨rfl,k1⟩))
  exact ⟨rfl,Or.inl ⟨(atT l,60),by simp only [fragS,notOn,hp,if_true,go_error],rfl,(((Kp.refl (Own1 R) w).alloc _).alloc _).trans (k1.trans k2).any⟩⟩
 | false =>
  rw [hp] at A
  go_enter Tryz.func36,Tryz.ntmps36
  go_wp2_with (first
   | (go_at_call 58;refine (ST _ _ (h5.setY hR hg 2 (.slice o5 i5 z5)) n5).mono ?_;rintro e w6 (⟨p,hq6,rfl,k6⟩ | ⟨ss,l6,v,hq6,rfl,⟨⟨o6,i6,z6,rfl⟩,hv6⟩,h6,n6,k6⟩);(exact ⟨rfl,Or.inl ⟨p,by simp only [fragS,notOn,hp,Bool.false_eq_true,if_false,go_ok,hq2,mustW,hb,if_true,hq4,hq5,hq6,go_error],rfl,(KW5.setY 2 _).trans k6⟩⟩);have bYp:=heap_setCell_same _ (w.heap.size + 1) 2 _ _ (.slice o5 i5 z5) bY5;have hz6:=lt_of_block bYp;have bY6:=keepY hR bYp k6;have bX6:=keepX hR (xrow bX5 2 _) k6;have KW6:=(KW5.setY 2 _).trans k6;clear bYp;obtain ⟨y0,y1,y2,y3,yf⟩:=row4 bY6;obtain ⟨x0,x1,x2,x3,xf⟩:=row4 bX6)
   | (go_at_call 57;refine (dirs_any XV (h4.setY hR hg 1 (.string ⟨u.toArray⟩)) n4).mono ?_;rintro e w5 (⟨p,hq5,rfl,k5⟩ | ⟨ds,l5,v,hq5,rfl,⟨⟨o5,i5,z5,rfl⟩,hv5⟩,h5,n5,k5⟩);(exact ⟨rfl,Or.inl ⟨p,by simp only [fragS,notOn,hp,Bool.false_eq_true,if_false,go_ok,hq2,mustW,hb,if_true,hq4,hq5,go_error],rfl,(KW4.setY 1 _).trans k5⟩⟩);have bYp:=heap_setCell_same _ (w.heap.size + 1) 1 _ _ (.string ⟨u.toArray⟩) bY4;have hz5:=lt_of_block bYp;have bY5:=keepY hR bYp k5;have bX5:=keepX hR (xrow bX4 1 _) k5;have KW5:=(KW4.setY 1 _).trans k5;clear bYp;obtain ⟨y0,y1,y2,y3,yf⟩:=row4 bY5)
   | (go_at_call 56;(with_reducible refine (name_any h3 (h2.nextW hb)).mono ?_);rintro e w4 (⟨p,hq4,rfl,k4⟩ | ⟨u,l4,v,hq4,rfl,rfl,h4,n4,k4⟩);(exact ⟨rfl,Or.inl ⟨p,by simp only [fragS,notOn,hp,Bool.false_eq_true,if_false,go_ok,hq2,mustW,hb,if_true,hq4,go_error],rfl,KW3.trans k4⟩⟩);have bY4:=keepY hR bY3 k4;have bX4:=keepX hR bX3 k4;have KW4:=KW3.trans k4;obtain ⟨y0,y1,y2,y3,yf⟩:=row4 bY4)
   | (go_at_call 55;first
     | ((with_reducible refine (need_dies h3 n2).mono ?_);rintro e w3' ⟨rfl,k3'⟩;(exact ⟨rfl,Or.inl ⟨(atT l2,60),by simp only [fragS,notOn,hp,Bool.false_eq_true,if_false,go_ok,hq2,mustW,hb,go_error],rfl,KW3.trans k3'.any⟩⟩))
     | ((with_reducible refine (yneed_yes _).mono ?_);rintro e w1' ⟨rfl,rfl⟩))
   | (go_at_call 35;refine (ytakeW_any onB (h2.setY hR hg 0 (.string ⟨x.toArray⟩)) n2).mono ?_;(rintro e w3 (⟨hb,rfl,h3,k3⟩ | ⟨hb,rfl,h3,k3⟩) <;> (have bY3:=keepY hR (heap_setCell_same _ (w.heap.size + 1) 0 _ _ (.string ⟨x.toArray⟩) bY2) k3;have bX3:=keepX hR (xrow bX2 0 _) k3;have KW3:=(KW2.setY 0 _).trans k3)))
   | (go_at_call 56;(with_reducible refine (name_any (hS0.non k1) hl).mono ?_);rintro e w2 (⟨p,hq2,rfl,k2⟩ | ⟨x,l2,v,hq2,rfl,rfl,h2,n2,k2⟩);(exact ⟨rfl,Or.inl ⟨p,by simp only [fragS,notOn,hp,Bool.false_eq_true,if_false,go_ok,hq2,go_error],rfl,(((Kp.refl (Own1 R) w).alloc _).alloc _).trans (k1.any.trans k2)⟩⟩);have bY2:=keepY hR (preF_Y w) (k1.any.trans k2);have bX2:=keepX hR (preF_X w) (k1.any.trans k2);have KW2:=(((Kp.refl (Own1 R) w).alloc zF).alloc zF).trans (k1.any.trans k2);obtain ⟨y0,y1,y2,y3,yf⟩:=row4 bY2)
   | (go_at_call 54;refine A.mono ?_;rintro e w1 ⟨rfl,k1⟩))
  have KQ:=own4 (w:=w6.setCell ⟨w.heap.size + 1,3,none⟩ (.slice o6 i6 z6)) w.heap.size (.string ⟨x.toArray⟩) (.string ⟨u.toArray⟩) (.slice o5 i5 z5) (.slice o6 i6 z6)
  have K6 : Kp (fun k => k < w.heap.size + 1 + 1) w6 _:=(((Kp.own (w.heap.size + 1) 3 (.slice o6 i6 z6))).low (by omega)).trans (KQ.low (by omega))
  have K5:=((Kp.refl (fun k => k < w.heap.size + 1 + 1) w5).lowset (w.heap.size + 1) 2 (.slice o5 i5 z5) (by omega)).trans ((k6.low (by omega)).trans K6)
  refine bodyPost_ret (v:=.agg #[.string ⟨x.toArray⟩,.string ⟨u.toArray⟩,.slice o5 i5 z5,.slice o6 i6 z6]) (by simp [results,Tryz.results36,go_sem,x0,x1,x2,x3]) rfl (Or.inr ⟨fragC x u ds ss,l6,_,by simp only [fragS,notOn,hp,Bool.false_eq_true,if_false,go_ok,hq2,mustW,hb,if_true,hq4,hq5,hq6],rfl,⟨_,_,_,_,_,_,_,_,rfl,?_⟩,(h6.setY hR hg 3 _).kp KQ (fun e => by have e' : R = w.heap.size:=e;omega) (fun e => by have e' : g = w.heap.size:=e;omega),n6,(KW6.setY 3 _).ret KQ (Nat.le_refl _)⟩)
  have u5:=hv5.later (lo':=w.heap.size) K5 (Nat.le_refl _) (fun k h1 h2 e => by omega) (by omega) K5.size
  have u6:=hv6.later (lo':=w.heap.size) K6 (Nat.le_refl _) (fun k h1 h2 e => by omega) (by omega) K6.size
  exact (((Ats.nil.cons u6).cons u5).cons (.lf _)).cons (.lf _)
end
end
section
open Go Go.RowKit
theorem Tryz.infoOp : (Tryz.prog.info? 61).map (fun i => (i.zero,i.size,i.bytes)) = some (some (.agg #[.int .i64 0,.string ⟨#[]⟩,.slice none 0 0,.slice none 0 0,.slice none 0 0]),5,96):=by kernel_rfl
theorem Tryz.infoFrag : (Tryz.prog.info? 57).map (fun i => (i.zero,i.size,i.bytes)) = some (some (.agg #[.string ⟨#[]⟩,.string ⟨#[]⟩,.slice none 0 0,.slice none 0 0]),4,80):=by kernel_rfl
section
variable {R g cap : Nat} {T : List Tok} {fx : Bool} {a b c : Nat} {V P B : Nat} {cur : Array Value} {ty tp : TypeId} {i E sz : Nat}
theorem item_endC {w w1 W2 w2 w4 : World} {m : List Tok} {els : List (List CT)} {el : List CT} {us : List Value} {lv : Value} {xs : List Value} {D : Nat → Prop} {q cp : Nat} (hj : Js R V P B cur ty tp i E sz w els lv xs D) (pl : Pl R g V P B) (hk : Kp (Own1 R) w w1)
  (hel : Ats w1 (Iv w.heap.size w1.heap.size) el us) (hW2 : Kp Non w1 W2) (hgr : W2.grownBy w2 lv.ownBlock) {H : Nat} (hH : W2.heap.size = H) (hat : lv.ownBlock = some q ∨ q = H) (own2 : w2.ownsRow B E sz (.slice (some ⟨q,0,none⟩) (els.length + 1) cp) (els.length + 1) (xs ++ us)) (h1 : Sx R g cap T w1 m fx a b c)
  (h4 : w4 = w2.setCell ⟨V,i,none⟩ (.slice (some ⟨q,0,none⟩) (els.length + 1) cp)) :
  (∃ lv' xs' D',Js R V P B cur ty tp i E sz w4 (els ++ [el]) lv' xs' D' ∧ (∀ k,lv'.ownBlock = some k → lv.ownBlock = some k ∨ w.heap.size ≤ k) ∧ (∀ k,D' k → D k ∨ w.heap.size ≤ k)) ∧ Kp (fun k => k = R ∨ k = V ∨ lv.ownBlock = some k) w w4 ∧ Sx R g cap T w4 m fx a b c:=by
 have hv2:=hj.var2 pl (Kp.refl Non w) hk hW2 hgr
 have hBq : B ≤ q:=(own_block own2 rfl).1
 have p1:=pl.bV;have p2:=pl.bg;have p3:=pl.bR
 have z1:=hk.size;have z2:=hW2.size
 subst h4
 have K4 : Kp (fun k => k = q ∨ k = V) w2 (w2.setCell ⟨V,i,none⟩ (.slice (some ⟨q,0,none⟩) (els.length + 1) cp)):=(Kp.own V i _).mono (fun _ _ e => Or.inr e)
 have var4 : (w2.setCell ⟨V,i,none⟩ (.slice (some ⟨q,0,none⟩) (els.length + 1) cp)).heap[V]? = some (.cells (cur.setIfInBounds i (.slice (some ⟨q,0,none⟩) (els.length + 1) cp)) ty (0,0)):=by
  rw [heap_setCell_same _ V i _ _ _ hv2]
  simp
 obtain ⟨hj4,k4⟩:=hj.push pl (Kp.refl Non w) hk hel hW2 hgr (by rcases hat with e | e;exact Or.inl e;exact Or.inr (by omega)) K4 var4 (ownsRow_setCell_below own2 (a:=⟨V,i,none⟩) p1 _)
 have KS : Kp (fun k => lv.ownBlock = some k ∨ k = q ∨ k = V) w1 (w2.setCell ⟨V,i,none⟩ (.slice (some ⟨q,0,none⟩) (els.length + 1) cp)):=(hW2.any.grew hgr (fun k e => Or.inr (Or.inl e))).trans (K4.mono (fun _ _ e => Or.inr e))
 refine ⟨⟨_,_,_,hj4,?_,?_⟩,k4,h1.kp KS ?_ ?_⟩
 ·intro k e
  have e2 : q = k:=by simpa [Value.ownBlock] using e
  subst e2
  rcases hat with e | e
  ·exact Or.inl e
  ·exact Or.inr (by omega)
 ·rintro k (e | e)
  ·exact Or.inl e
  ·exact Or.inr e.1
 ·rintro (e | e | e)
  ·have:=(own_block hj.own e).1;omega
  ·omega
  ·exact pl.VR e.symm
 ·rintro (e | e | e)
  ·have:=(own_block hj.own e).1;omega
  ·omega
  ·exact pl.Vg e.symm
end
abbrev curO (fv : Value) : Array Value:=#[.slice none 0 0,fv]
abbrev curF (ov : Value) : Array Value:=#[ov,.slice none 0 0]
structure Jd (R V P B : Nat) (w : World) (ops frs : List (List CT)) (ov fv : Value) (os fs : List Value) (D E : Nat → Prop) : Prop where
 jo : Js R V P B (curO fv) 25 82 0 61 5 w ops ov os D
 jf : Js R V P B (curF ov) 25 82 1 57 4 w frs fv fs E
 ap : ∀ q,ov.ownBlock = some q → fv.ownBlock ≠ some q ∧ ¬ E q
 ap' : ∀ q,fv.ownBlock = some q → ¬ D q
section
variable {R g cap : Nat} {T : List Tok} {V P B : Nat} {w : World} {ops frs : List (List CT)} {ov fv : Value} {os fs : List Value} {D E : Nat → Prop}
theorem Jd.kp {w' : World} (h : Jd R V P B w ops frs ov fv os fs D E) (pl : Pl R g V P B) (k : Kp (Own1 R) w w') : Jd R V P B w' ops frs ov fv os fs D E:=⟨h.jo.kp pl k,h.jf.kp pl k,h.ap,h.ap'⟩
theorem Jd.op {w4 : World} {el : List CT} {ov' : Value} {os' : List Value} {D' : Nat → Prop} (h : Jd R V P B w ops frs ov fv os fs D E) (pl : Pl R g V P B) (j : Js R V P B (curO fv) 25 82 0 61 5 w4 (ops ++ [el]) ov' os' D')
  (h1 : ∀ k,ov'.ownBlock = some k → ov.ownBlock = some k ∨ w.heap.size ≤ k) (h2 : ∀ k,D' k → D k ∨ w.heap.size ≤ k) (k : Kp (fun k => k = R ∨ k = V ∨ ov.ownBlock = some k) w w4) : Jd R V P B w4 (ops ++ [el]) frs ov' fv os' fs D' E where
 jo:=j
 jf:=h.jf.other pl k (by rw [j.var];rfl) (fun q e => ⟨(own_block h.jo.own e).1,(h.ap q e).1,(h.ap q e).2⟩)
 ap:=fun q e => by
  rcases h1 q e with e1 | e1
  ·exact h.ap q e1
  ·exact ⟨fun e2 => by have:=(own_block h.jf.own e2).2;omega,fun e2 => by have:=(h.jf.far q e2).2.1;omega⟩
 ap':=fun q e e2 => by
  rcases h2 q e2 with e1 | e1
  ·exact h.ap' q e e1
  ·have:=(own_block h.jf.own e).2;omega
theorem Jd.frag {w4 : World} {el : List CT} {fv' : Value} {fs' : List Value} {E' : Nat → Prop} (h : Jd R V P B w ops frs ov fv os fs D E) (pl : Pl R g V P B) (j : Js R V P B (curF ov) 25 82 1 57 4 w4 (frs ++ [el]) fv' fs' E')
  (h1 : ∀ k,fv'.ownBlock = some k → fv.ownBlock = some k ∨ w.heap.size ≤ k) (h2 : ∀ k,E' k → E k ∨ w.heap.size ≤ k) (k : Kp (fun k => k = R ∨ k = V ∨ fv.ownBlock = some k) w w4) : Jd R V P B w4 ops (frs ++ [el]) ov fv' os fs' D E' where
 jo:=h.jo.other pl k (by rw [j.var];rfl) (fun q e => ⟨(own_block h.jf.own e).1,fun e2 => (h.ap q e2).1 e,h.ap' q e⟩)
 jf:=j
 ap:=fun q e => by
  refine ⟨fun e2 => ?_,fun e2 => ?_⟩
  ·rcases h1 q e2 with e1 | e1
   ·exact (h.ap q e).1 e1
   ·have:=(own_block h.jo.own e).2;omega
  ·rcases h2 q e2 with e1 | e1
   ·exact (h.ap q e).2 e1
   ·have:=(own_block h.jo.own e).2;omega
 ap':=fun q e e2 => by
  rcases h1 q e with e1 | e1
  ·exact h.ap' q e1 e2
  ·have:=(h.jo.far q e2).2.1;omega
theorem opsOf_op (xs : List (Bool × List CT)) (x : List CT) : opsOf (xs ++ [(false,x)]) = opsOf xs ++ [x] ∧ fragsOf (xs ++ [(false,x)]) = fragsOf xs:=by simp [opsOf,fragsOf,List.filter_append]
theorem opsOf_frag (xs : List (Bool × List CT)) (x : List CT) : opsOf (xs ++ [(true,x)]) = opsOf xs ∧ fragsOf (xs ++ [(true,x)]) = fragsOf xs ++ [x]:=by simp [opsOf,fragsOf,List.filter_append]
theorem opsOf_len (xs : List (Bool × List CT)) : (opsOf xs).length ≤ xs.length ∧ (fragsOf xs).length ≤ xs.length:=by
 unfold opsOf fragsOf
 rw [List.length_map,List.length_map]
 exact ⟨List.length_filter_le _ _,List.length_filter_le _ _⟩
attribute [local go_sem ↓] Go.wp_at_zero Go.wp_at_succ
set_option maxRecDepth 100000 in
set_option maxHeartbeats 16000000 in
theorem doc1_any (pl : Pl R g V P B) (l : List Tok) (hj : Jd R V P B w ops frs ov fv os fs D E) (hn : ops.length ≤ 2049 ∧ frs.length ≤ 2049) (h : Sx R g cap T w l false 0 0 0) (hl : l ≠ []) :
  Calls Tryz.prog 34 #[.pointer (some ⟨P,0,none⟩),.pointer (some ⟨V,0,none⟩)] w fun e w' => (∃ p,itemS l = .error p ∧ e = DiesY p ∧ Kp (Own1 R) w w') ∨ (∃ x m,itemS l = .ok (x,m) ∧ e = .returned (.tuple #[]) ∧ (∃ ov' fv' os' fs' D' E',Jd R V P B w' (if x.1 then ops else ops ++ [x.2]) (if x.1 then frs ++ [x.2] else frs) ov' fv' os' fs' D' E') ∧ Kp (fun k => k = R ∨ k = V ∨ ov.ownBlock = some k ∨ fv.ownBlock = some k) w w' ∧ Sx R g cap T w' m false 0 0 0 ∧ m ≠ []):=by
 obtain ⟨oo,oc,rfl⟩:=hj.jo.slice
 obtain ⟨fo,fc,rfl⟩:=hj.jf.slice
 obtain ⟨n1,n2⟩:=hn
 have cP:=hj.jo.ptr
 have TK:=ytakeW_any fragB h hl
 have HJ : Hid (Jd R V P B w ops frs (.slice oo ops.length oc) (.slice fo frs.length fc) os fs D E):=hj
 have HS : Hid (Sx R g cap T w l false 0 0 0):=h
 have hsz:=hj.jo.size
 obtain ⟨ti,hti,hy0,hy1,hy2⟩:=info_parts Tryz.infoOp
 obtain ⟨si,hsi,sy0,sy1,sy2⟩:=info_parts Tryz.infoFrag
 clear hj h
 go_enter Tryz.func34,Tryz.ntmps34
 go_wp2_with (go_at_call 35;refine TK.mono ?_;rintro e w1 (⟨hp,rfl,h1,k1⟩ | ⟨hp,rfl,h1,k1⟩))
 ·have j1:=HJ.out.kp pl k1
  have c1:=j1.jf.cell (by simp)
  have p1:=j1.jf.ptr
  have XA:=frag_any h1.drew (HS.out.nextW hp)
  have K1 : Hid _:=k1
  have hz1 : w.heap.size ≤ w1.heap.size:=k1.size
  clear j1 k1 h1
  go_region_law (first
   | (refine step_append_lies _ (by rfl) (.tmp 5) (.tmp 8) 23 (by rfl) B 57 si _ 4 80 Tryz.underlying23 hsi sy0 sy1 sy2 rfl (by decide) (.slice fo frs.length fc) frs.length fs (by rfl) (HO.out.alloc _) ⟨w2.heap.size,0,none⟩ 1 1 [.string t0,.string t1,.slice o1 i1 z1,.slice o2 i2 z2] (by rfl) rfl (World.news_of_block (heap_alloc_new _ _)) (by intro u hu;simp at hu;rcases hu with rfl | rfl | rfl | rfl <;> rfl) (by decide) (by unfold maxLen;omega) (by omega) (by simp;omega) (w2.heap.size + 1) (by simp) ?_;intro q cp w3 own2 hgr hor hlt2;have OW : Hid _:=own2;have GR : Hid _:=hgr;have OR : Hid _:=hor;clear own2 hgr hor;have hv2:=HJ.out.jf.var2 pl (Kp.refl Non w) K2.out ((Kp.refl Non w2).alloc _) GR.out;obtain ⟨e0,e1,ef⟩:=row2 hv2;clear hv2)
   | (go_simp;go_wp2_with (first
     | (go_at_call 36;(with_reducible refine XA.mono ?_);rintro e w2 (⟨p,hq,rfl,k2⟩ | ⟨cs,m,v,hq,rfl,⟨t0,t1,o1,i1,z1,o2,i2,z2,rfl,hat⟩,h2,m2,k2⟩);(exact ⟨rfl,Or.inl ⟨p,by simp only [itemS,hp,if_true,hq,go_error],rfl,K1.out.trans (((Kp.refl (Own1 R) w1).drew).trans k2)⟩⟩);have K2 : Hid _:=K1.out.trans (((Kp.refl (Own1 R) w1).drew).trans k2);have j2:=HJ.out.kp pl K2.out;have v2:=j2.jf.cell (by simp);have f2:=j2.jf.free 1;have p2:=j2.jf.ptr;have aV:=fun o => cell_on (al1 w2 o) v2;have HO : Hid (w2.ownsRow B 57 4 (.slice fo frs.length fc) frs.length fs):=j2.jf.own;have hz2 : w1.heap.size ≤ w2.heap.size:=k2.size;have AT : Hid _:=hat;have H2 : Hid _:=h2;have HQ : Hid _:=hq;clear k2 hat h2 hq j2)
     | fail))
   | fail)
  all_goals go_end0
  all_goals
   obtain ⟨⟨fv',fs',E',g1,g2,g3⟩,g4,g5⟩:=item_endC HJ.out.jf pl K2.out (AT.out.mono (fun k hk => ⟨Nat.le_trans hz1 hk.1,hk.2⟩)) ((Kp.refl Non w2).alloc _) GR.out (World.size_alloc _ _) OR.out OW.out H2.out rfl
   exact Or.inr ⟨(true,cs),m,by simp only [itemS,hp,if_true,HQ.out,go_ok],rfl,⟨_,_,_,_,_,_,HJ.out.frag pl g1 g2 g3 g4⟩,g4.mono (fun _ _ e => by rcases e with e | e | e;exact Or.inl e;exact Or.inr (Or.inl e);exact Or.inr (Or.inr (Or.inr e))),g5,m2⟩
 ·have j1:=HJ.out.kp pl k1
  have c1:=j1.jo.cell (by simp)
  have p1:=j1.jo.ptr
  have XA:=op_any h1.drew hl
  have K1 : Hid _:=k1
  have hz1 : w.heap.size ≤ w1.heap.size:=k1.size
  clear j1 k1 h1
  go_region_law (first
   | (refine step_append_lies _ (by rfl) (.tmp 12) (.tmp 15) 22 (by rfl) B 61 ti _ 5 96 Tryz.underlying22 hti hy0 hy1 hy2 rfl (by decide) (.slice oo ops.length oc) ops.length os (by rfl) (HO.out.alloc _) ⟨w2.heap.size,0,none⟩ 1 1 [.int .i64 kk,.string t1,.slice o1 i1 z1,.slice o2 i2 z2,.slice o3 i3 z3] (by rfl) rfl (World.news_of_block (heap_alloc_new _ _)) (by intro u hu;simp at hu;rcases hu with rfl | rfl | rfl | rfl | rfl <;> rfl) (by decide) (by unfold maxLen;omega) (by omega) (by simp;omega) (w2.heap.size + 1) (by simp) ?_;intro q cp w3 own2 hgr hor hlt2;have OW : Hid _:=own2;have GR : Hid _:=hgr;have OR : Hid _:=hor;clear own2 hgr hor;have hv2:=HJ.out.jo.var2 pl (Kp.refl Non w) K2.out ((Kp.refl Non w2).alloc _) GR.out;obtain ⟨e0,e1,ef⟩:=row2 hv2;clear hv2)
   | (go_simp;go_wp2_with (first
     | (go_at_call 37;(with_reducible refine XA.mono ?_);rintro e w2 (⟨p,hq,rfl,k2⟩ | ⟨cs,m,v,hq,rfl,⟨kk,t1,o1,i1,z1,o2,i2,z2,o3,i3,z3,rfl,hat⟩,h2,m2,k2⟩);(exact ⟨rfl,Or.inl ⟨p,by simp only [itemS,hp,Bool.false_eq_true,if_false,hq,go_error],rfl,K1.out.trans (((Kp.refl (Own1 R) w1).drew).trans k2)⟩⟩);have K2 : Hid _:=K1.out.trans (((Kp.refl (Own1 R) w1).drew).trans k2);have j2:=HJ.out.kp pl K2.out;have v2:=j2.jo.cell (by simp);have f2:=j2.jo.free 0;have p2:=j2.jo.ptr;have aV:=fun o => cell_on (al1 w2 o) v2;have HO : Hid (w2.ownsRow B 61 5 (.slice oo ops.length oc) ops.length os):=j2.jo.own;have hz2 : w1.heap.size ≤ w2.heap.size:=k2.size;have AT : Hid _:=hat;have H2 : Hid _:=h2;have HQ : Hid _:=hq;clear k2 hat h2 hq j2)
     | fail))
   | fail)
  all_goals go_end0
  all_goals
   obtain ⟨⟨ov',os',D',g1,g2,g3⟩,g4,g5⟩:=item_endC HJ.out.jo pl K2.out (AT.out.mono (fun k hk => ⟨Nat.le_trans hz1 hk.1,hk.2⟩)) ((Kp.refl Non w2).alloc _) GR.out (World.size_alloc _ _) OR.out OW.out H2.out rfl
   exact Or.inr ⟨(false,cs),m,by simp only [itemS,hp,Bool.false_eq_true,if_false,HQ.out,go_ok],rfl,⟨_,_,_,_,_,_,HJ.out.op pl g1 g2 g3 g4⟩,g4.mono (fun _ _ e => by rcases e with e | e | e;exact Or.inl e;exact Or.inr (Or.inl e);exact Or.inr (Or.inr (Or.inl e))),g5,m2⟩
end
end
section
open Go Go.RowKit
def DocV (lo : Nat) (cs : List CT) (v : Value) (w : World) : Prop:=∃ (o1 : Option Addr) (n1 z1 : Nat) (o2 : Option Addr) (n2 z2 : Nat),v = .agg #[.slice o1 n1 z1,.slice o2 n2 z2] ∧ Ats w (Iv lo w.heap.size) cs [.slice o1 n1 z1,.slice o2 n2 z2]
def Jw (R V P B : Nat) (W0 : World) (xs : List (Bool × List CT)) (l : List Tok) (w : World) : Prop :=
 (∃ ov fv os fs D E,Jd R V P B w (opsOf xs) (fragsOf xs) ov fv os fs D E) ∧ xs.length + l.length ≤ 2049 ∧ Kp (fun k => k = R ∨ k = V) W0 w
section
variable {R g cap : Nat} {T : List Tok}
theorem Jw.kp {V P B : Nat} {W0 : World} (pl : Pl R g V P B) : ∀ xs l m w w',Jw R V P B W0 xs l w → Kp (Own1 R) w w' → m.length ≤ l.length → Jw R V P B W0 xs m w':=by
 rintro xs l m w w' ⟨⟨ov,fv,os,fs,D,E,hj⟩,hn,hk⟩ k hm
 exact ⟨⟨ov,fv,os,fs,D,E,hj.kp pl k⟩,by omega,hk.trans (k.mono (fun _ _ e => Or.inl e))⟩
theorem oneR_doc {V P B : Nat} {W0 : World} (hB : B = W0.heap.size) (w0 : World) (hw0 : ∀ w',Kp (fun k => k = R ∨ k = V) W0 w' → Kp (Own1 R) w0 w') (pl : Pl R g V P B) :
  OneR R g cap T false 0 0 0 34 #[.pointer (some ⟨P,0,none⟩),.pointer (some ⟨V,0,none⟩)] itemS (Jw R V P B W0) (Kp (Own1 R) w0):=by
 rintro xs l w ⟨⟨ov,fv,os,fs,D,E,hj⟩,hn,hk⟩ h hl
 have hlen:=opsOf_len xs
 refine (doc1_any pl l hj ⟨by omega,by omega⟩ h hl).mono ?_
 rintro e w' (⟨p,hp,rfl,k⟩ | ⟨⟨bb,x⟩,m,hp,rfl,hj',k,h',n'⟩)
 ·exact Or.inl ⟨p,hp,rfl,hw0 _ (hk.trans (k.mono (fun _ _ e => Or.inl e)))⟩
 ·refine Or.inr ⟨(bb,x),m,hp,rfl,⟨?_,?_,hk.trans2 k (fun k hk e => ?_)⟩,h',n'⟩
  ·cases bb with
   | true => rw [(opsOf_frag xs x).1,(opsOf_frag xs x).2];exact hj'
   | false => rw [(opsOf_op xs x).1,(opsOf_op xs x).2];exact hj'
  ·have:=itemS_eats _ _ _ hp
   rw [List.length_append]
   simp;omega
  ·rcases e with e | e | e | e
   ·exact Or.inl e
   ·exact Or.inr e
   ·have:=(own_block hj.jo.own e).1
    omega
   ·have:=(own_block hj.jf.own e).1
    omega
abbrev preD (R : Nat) (w : World) : World:=((w.alloc (.cells #[.pointer (some ⟨R,0,none⟩)] 82)).alloc (.cells #[.slice none 0 0,.slice none 0 0] 25)).alloc (.cells #[.slice none 0 0,.slice none 0 0] 25)
set_option maxRecDepth 100000 in
set_option maxHeartbeats 4000000 in
theorem doc_any {w : World} {l : List Tok} (h : Sx R g cap T w l false 0 0 0) (hl : l ≠ []) : Calls Tryz.prog 20 #[.pointer (some ⟨R,0,none⟩)] w fun e w' => (∃ p,docS l = .error p ∧ e = DiesY p ∧ Kp (Own1 R) w w') ∨ (∃ cs m v,docS l = .ok (cs,m) ∧ e = .returned v ∧ DocV w.heap.size cs v w' ∧ Kp (Own1 R) w w'):=by
 have hmf : ∀ (fn : Fn) (first cap : Array Value) (w : World),(Instr.makeFunc fn first cap).run Tryz.prog w = .ok (.func fn first cap) w:=fun _ _ _ _ => rfl
 have hR:=h.ltR
 have hg:=h.lt
 have hS0 : Sx R g cap T (preD R w) l false 0 0 0:=((h.alloc _).alloc _).alloc _
 have hz0 : (preD R w).heap.size = w.heap.size + 3:=by simp
 have pl : Pl R g (w.heap.size + 1 + 1) w.heap.size (w.heap.size + 3):=⟨by omega,by omega,by omega,by omega,by omega,by omega,by omega,by omega⟩
 have bP : (preD R w).heap[w.heap.size]? = some (.cells #[.pointer (some ⟨R,0,none⟩)] 82 (0,0)) :=
  old_row (heap_alloc_new w (.cells #[.pointer (some ⟨R,0,none⟩)] 82)) (((Kp.refl Non _).alloc _).alloc _) (fun e => e)
 have bX : (preD R w).heap[w.heap.size + 1]? = some (.cells #[.slice none 0 0,.slice none 0 0] 25 (0,0)):=by
  have:=old_row (heap_alloc_new (w.alloc (.cells #[.pointer (some ⟨R,0,none⟩)] 82)) (.cells #[.slice none 0 0,.slice none 0 0] 25)) ((Kp.refl Non _).alloc (.cells #[.slice none 0 0,.slice none 0 0] 25)) (fun e => e)
  rw [World.size_alloc] at this
  exact this
 have bV : (preD R w).heap[w.heap.size + 1 + 1]? = some (.cells #[.slice none 0 0,.slice none 0 0] 25 (0,0)):=by
  have:=heap_alloc_new ((w.alloc (.cells #[.pointer (some ⟨R,0,none⟩)] 82)).alloc (.cells #[.slice none 0 0,.slice none 0 0] 25)) (.cells #[.slice none 0 0,.slice none 0 0] 25)
  rw [World.size_alloc,World.size_alloc] at this
  exact this
 have KW : ∀ w',Kp (fun k => k = R ∨ k = w.heap.size + 1 + 1) (preD R w) w' → Kp (Own1 R) w w':=fun w' k => ((((Kp.refl (Own1 R) w).alloc _).alloc _).alloc _).trans2 k (fun j hj e => by rcases e with e | e;exact e;omega)
 have hle:=h.le
 have hsm:=h.full.small
 have J0 : Jw R (w.heap.size + 1 + 1) w.heap.size (w.heap.size + 3) (preD R w) [] l (preD R w):=⟨⟨_,_,_,_,_,_,⟨Js.new bV bP (by omega),Js.new bV bP (by omega),(fun _ e => by cases e),(fun _ e => by cases e)⟩⟩,by simp;omega,Kp.refl _ _⟩
 have AN:=some_any 34 #[.pointer (some ⟨w.heap.size,0,none⟩),.pointer (some ⟨w.heap.size + 1 + 1,0,none⟩)] (fun _ _ => rfl) [] itemS itemS_eats _ (Kp (Own1 R) w) (Jw.kp (W0:=preD R w) pl) (oneR_doc hz0.symm w KW pl) [] l (preD R w) J0 hS0 hl
 have HB : Hid _:=bX
 have HKW : Hid _:=KW
 clear bP bV J0 KW bX
 go_enter Tryz.func20,Tryz.ntmps20
 go_wp2_with (go_at_call 33;refine AN.mono ?_;rintro e w2 (⟨p,hq,rfl,k2⟩ | ⟨ys,m,hq,rfl,⟨⟨ov,fv,os,fs,D,E,hj⟩,hlen,k2⟩,h2,n2⟩);(exact ⟨rfl,Or.inl ⟨p,by unfold docS;rw [hq,go_error],rfl,k2⟩⟩);obtain ⟨oo,oc,rfl⟩:=hj.jo.slice;obtain ⟨fo,fc,rfl⟩:=hj.jf.slice;obtain ⟨v0,v1,vf⟩:=row2 hj.jo.var;obtain ⟨x0,x1,xf⟩:=row2 (old_row HB.out k2 (by rintro (e | e) <;> omega));have HJ : Hid _:=hj;have K2 : Hid _:=k2;clear hj k2)
 have KQ:=own2 (w:=w2) (w.heap.size + 1) (.slice oo (opsOf ([] ++ ys)).length oc) (.slice fo (fragsOf ([] ++ ys)).length fc)
 have KA : Kp (fun k => k = w.heap.size + 1) w2 _:=KQ
 have u1:=HJ.out.jo.at.later (lo':=w.heap.size) KA (Nat.le_refl _) (by rintro k h1 h2 e;omega) (by omega) KA.size
 have u2:=HJ.out.jf.at.later (lo':=w.heap.size) KA (Nat.le_refl _) (by rintro k h1 h2 e;omega) (by omega) KA.size
 refine bodyPost_ret (v:=.agg #[.slice oo (opsOf ([] ++ ys)).length oc,.slice fo (fragsOf ([] ++ ys)).length fc]) (by simp [results,Tryz.results20,go_sem,x0,x1]) rfl (Or.inr ⟨docC ([] ++ ys),m,_,by unfold docS;rw [hq,go_ok];rfl,rfl,⟨_,_,_,_,_,_,rfl,(Ats.nil.cons u2).cons u1⟩,(HKW.out _ K2.out).ret KQ (Nat.le_succ _)⟩)
end
end
section
open Go Go.RowKit Go.Shelf
theorem ahead_ne {l r : Bs} (h : r.length < l.length) : ahead l r ≠ []:=by
 intro e
 have:=congrArg List.length e
 unfold ahead at this
 rw [List.length_take] at this
 simp at this
 omega
theorem wrt_ok {k k' : Int} {l r t r' : Bs} (h : wrt k l r = .ok k' t r') : k = k' ∧ t = ahead l r ∧ r = r':=by
 unfold wrt at h
 injection h with h1 h2 h3
 exact ⟨h1,h2.symm,h3⟩
theorem numS_kind {l : Bs} {p : Int × Bs} (h : numS l = some p) : p.1 ≠ 0:=by
 unfold numS at h
 obtain ⟨l1,_,h⟩:=Option.bind_eq_some_iff.1 h
 obtain ⟨q,hq,h⟩:=Option.bind_eq_some_iff.1 h
 obtain ⟨u,hu,h⟩:=Option.bind_eq_some_iff.1 h
 have hq1 : q.1 ≠ 0:=by
  unfold numB at hq
  split at hq
  ·obtain ⟨z,_,hz⟩:=Option.map_eq_some_iff.1 hq
   rw [← hz];simp
  ·injection hq with hq;rw [← hq];simp
 have hu1 : u.1 ≠ 0:=by
  unfold numC at hu
  split at hu
  ·obtain ⟨z,_,hz⟩:=Option.map_eq_some_iff.1 hu
   rw [← hz];simp
  ·injection hu with hu;rw [← hu];exact hq1
 unfold numD at h
 split at h
 ·cases h
 ·injection h with h;rw [← h];exact hu1
theorem tokS_text {x : UInt8} {l t r : Bs} {k : Int} (h : tokS (x :: l) = .ok k t r) : ¬ (k = 0 ∧ t = []):=by
 have hf:=(tokS_facts h).2
 rintro ⟨rfl,rfl⟩
 unfold tokS at h
 split at h
 ·obtain ⟨_,e,rfl⟩:=wrt_ok h
  exact ahead_ne hf e.symm
 split at h
 ·obtain ⟨_,e,rfl⟩:=wrt_ok h
  exact ahead_ne hf e.symm
 split at h
 ·obtain ⟨e,_⟩:=wrt_ok h
  cases e
 split at h
 ·cases hn : numS (x :: l) with
  | none => rw [hn] at h;cases h
  | some p =>
   rw [hn] at h
   obtain ⟨e,_⟩:=wrt_ok h
   exact numS_kind hn e
 split at h
 ·cases hn : textS (x :: l) with
  | none => rw [hn] at h;cases h
  | some p => rw [hn] at h;cases h
 ·cases h
theorem lexF_full (N : Nat) : ∀ (n c : Nat) (l : Bs) (ts : List Tok),c ≤ 2048 → lexF N n c l = .inr ts → ts.length + c ≤ 2048 ∧ ∀ t ∈ ts,¬ (t.k = 0 ∧ t.t = [])
 | 0,c,l,ts,hc,h => by
  cases h
  exact ⟨by simpa using hc,by simp⟩
 | n + 1,c,l,ts,hc,h => by
  unfold lexF at h
  cases hs : skipS l with
  | inr k => rw [hs] at h;cases h
  | inl q =>
   rw [hs] at h
   cases q with
   | nil => cases h;exact ⟨by simpa using hc,by simp⟩
   | cons x l1 =>
    simp only at h
    by_cases h2 : c = 2048
    ·rw [if_pos h2] at h;cases h
    ·rw [if_neg h2] at h
     cases ht : tokS (x :: l1) with
     | bad e => rw [ht] at h;cases h
     | ok k t r =>
      rw [ht] at h
      simp only at h
      cases hr : lexF N n (c + 1) r with
      | inl p => rw [hr] at h;cases h
      | inr us =>
       rw [hr] at h
       injection h with h
       subst h
       obtain ⟨i1,i2⟩:=lexF_full N n (c + 1) r us (by omega) hr
       refine ⟨by simp;omega,?_⟩
       intro u hu
       rcases List.mem_cons.1 hu with rfl | hu
       ·exact tokS_text ht
       ·exact i2 u hu
theorem lexS_full {s : Bs} {ts : List Tok} (h : lexS s = .inr ts) : ts.length ≤ 2048 ∧ s.length ≤ 16384 ∧ ∀ t ∈ ts,¬ (t.k = 0 ∧ t.t = []):=by
 unfold lexS at h
 split at h
 ·cases h
 ·obtain ⟨h1,h2⟩:=lexF_full _ _ 0 _ _ (by omega) h
  exact ⟨by omega,by omega,h2⟩
theorem full_of {s : Bs} {ts : List Tok} (h : lexS s = .inr ts) : Full (ts ++ [eofT s.length]):=by
 obtain ⟨h1,_,h2⟩:=lexS_full h
 exact ⟨⟨ts,s.length,rfl,h2⟩,by simp;omega⟩
theorem cellsT_get : ∀ (ts : List Tok) (i : Nat) (t : Tok),ts[i]? = some t → (cellsT ts)[i * 4]? = some (.int .i64 t.k) ∧ (cellsT ts)[i * 4 + 1]? = some (.string ⟨t.t.toArray⟩) ∧ (cellsT ts)[i * 4 + 2]? = some (.int .i64 (t.b : Int)) ∧ (cellsT ts)[i * 4 + 3]? = some (.int .i64 (t.e : Int))
 | [],_,_,h => by simp at h
 | t :: ts,0,t',h => by
  simp at h
  subst h
  simp [cellsT]
 | t :: ts,i + 1,t',h => by
  have ih:=cellsT_get ts i t' (by simpa using h)
  have e : cellsT (t :: ts) = [.int .i64 t.k,.string ⟨t.t.toArray⟩,.int .i64 (t.b : Int),.int .i64 (t.e : Int)] ++ cellsT ts:=by simp [cellsT]
  have f : ∀ j,(cellsT (t :: ts))[(i + 1) * 4 + j]? = (cellsT ts)[i * 4 + j]?:=fun j => by
   rw [e,List.getElem?_append_right (by simp;omega)]
   congr 1
   simp
   omega
  exact ⟨(f 0).trans ih.1,(f 1).trans ih.2.1,(f 2).trans ih.2.2.1,(f 3).trans ih.2.2.2⟩
theorem sx_start {w : World} {B g cap : Nat} {T : List Tok} (full : Full T) (own : w.ownsRow B 40 4 (.slice (some ⟨g,0,none⟩) T.length cap) T.length (cellsT T)) :
  Sx w.heap.size g cap T (w.alloc (.cells #[.slice (some ⟨g,0,none⟩) T.length cap,.int .i64 0,.bool false,.int .i64 0,.int .i64 0,.int .i64 0] 49)) T false 0 0 0:=by
 have hg : g < w.heap.size:=(own_block own rfl).2
 refine ⟨?_,?_,List.suffix_refl _,by omega,by simp;omega,full,by omega⟩
 ·rw [heap_alloc_new]
  simp
 ·intro i t hi
  have hc:=cellsT_get T i t hi
  have hlen:=own.1
  have f : ∀ j x,(cellsT T)[j]? = some x → (w.alloc (.cells #[.slice (some ⟨g,0,none⟩) T.length cap,.int .i64 0,.bool false,.int .i64 0,.int .i64 0,.int .i64 0] 49)).cell? ⟨g,j,none⟩ = some x:=fun j x hj => by
   have hlt : j < T.length * 4:=by rw [← hlen];exact (List.getElem?_eq_some_iff.1 hj).1
   refine cell_on (al1 w _) ?_
   rw [own.cellAt j (by omega)]
   exact hj
  exact ⟨f _ _ hc.1,f _ _ hc.2.1,f _ _ hc.2.2.1,f _ _ hc.2.2.2⟩
end
section
open Go Go.RowKit Go.Shelf
abbrev zD : Obj:=.cells #[.slice none 0 0,.slice none 0 0] 25
set_option maxRecDepth 100000 in
theorem ytold_any (p : Nat × Int) (w : World) : Calls Tryz.prog 19 #[.iface 46 (.agg #[.int .i64 (p.1 : Int),.int .i64 p.2])] w fun e w' => e = .returned (.tuple #[.agg #[.slice none 0 0,.slice none 0 0],.int .i64 (p.1 : Int),.int .i64 p.2]) ∧ Kp Non w w':=by
 have hta : ∀ w : World,(Instr.typeAssert (.iface 46 (.agg #[.int .i64 (p.1 : Int),.int .i64 p.2])) 20 46 false).run Tryz.prog w = .ok (.agg #[.int .i64 (p.1 : Int),.int .i64 p.2]) w:=fun _ => by kernel_rfl
 go_enter Tryz.func19,Tryz.ntmps19
 go_wp2
 go_region
 all_goals go_wp2
 refine bodyPost_ret (v:=.tuple #[.agg #[.slice none 0 0,.slice none 0 0],.int .i64 (p.1 : Int),.int .i64 p.2]) (by simp [results,Tryz.results19,go_sem]) rfl ⟨rfl,?_⟩
 exact (((Kp.refl Non w).alloc _).alloc _).drew
structure ResY (W : World) (B : Nat) (u v : Value) (y z : Int) : Prop where
 bd : W.heap[B]? = some (.cells #[u,v] 25 (0,0))
 ba : W.heap[B + 1]? = some (.cells #[.int .i64 y] 3 (0,0))
 be : W.heap[B + 2]? = some (.cells #[.int .i64 z] 26 (0,0))
theorem ResY.kp {S : Nat → Prop} {W W' : World} {B : Nat} {u v : Value} {y z : Int} (h : ResY W B u v y z) (k : Kp S W W') (h0 : ¬ S B) (h1 : ¬ S (B + 1)) (h2 : ¬ S (B + 2)) : ResY W' B u v y z:=⟨old_row h.bd k h0,old_row h.ba k h1,old_row h.be k h2⟩
set_option maxRecDepth 100000 in
set_option maxHeartbeats 1000000 in
theorem ycatch_dies (B : Nat) (p : Nat × Int) (o1 o2 : Option Addr) (n1 z1 n2 z2 : Nat) (y z : Int) (older : List PanicEntry) (W : World) (h : ResY W B (.slice o1 n1 z1) (.slice o2 n2 z2) y z) :
  CallsD Tryz.prog 18 #[.pointer (some ⟨B,0,none⟩),.pointer (some ⟨B + 1,0,none⟩),.pointer (some ⟨B + 2,0,none⟩)] (.panicking ({ v:=.iface 46 (.agg #[.int .i64 (p.1 : Int),.int .i64 p.2]),recovered:=false } :: older)) W fun e u' w' =>
   e = .returned (.tuple #[]) ∧ u' = .panicking ({ v:=.iface 46 (.agg #[.int .i64 (p.1 : Int),.int .i64 p.2]),recovered:=true } :: older) ∧ ResY w' B (.slice none 0 0) (.slice none 0 0) p.1 p.2 ∧ Kp (fun k => k = B ∨ k = B + 1 ∨ k = B + 2) W w':=by
 refine callsD_of_wpS Tryz.func18 rfl fun c₀ cs hu => ?_
 apply wpS_seq
 apply wpS_region
 simp [wpOpsS,go_sem,recoverD,hu,Tryz.ntmps18,Exit.thenS]
 refine wpS_of_wp ?_
 go_wp2_with (go_at_call 19;refine (ytold_any p _).mono ?_;rintro e w1 ⟨rfl,k1⟩;have r1:=h.kp k1 (fun e => e) (fun e => e) (fun e => e);obtain ⟨d0,d1,df⟩:=row2 r1.bd;obtain ⟨e0,ef⟩:=row1 r1.ba;obtain ⟨g0,gf⟩:=row1 r1.be)
 refine ⟨rfl,_,rfl,.tuple #[],results_none rfl _ _ _,rfl,rfl,⟨?_,?_,?_⟩,?_⟩
 ·exact old_row (heap_setCell_same _ B 1 _ _ _ (heap_setCell_same _ B 0 _ _ _ r1.bd)) (((Kp.own (B + 1) 0 (.int .i64 (p.1 : Int))).mono (fun _ _ e => Or.inl e)).trans ((Kp.own (B + 2) 0 (.int .i64 p.2)).mono (fun _ _ e => Or.inr e)) : Kp (fun k => k = B + 1 ∨ k = B + 2) _ _) (by omega)
 ·refine old_row (heap_setCell_same _ (B + 1) 0 _ _ _ (old_row r1.ba ((Kp.own B 0 (.slice none 0 0)).set B 1 (.slice none 0 0) (Or.inr rfl)) ?_)) (Kp.own (B + 2) 0 (.int .i64 p.2)) ?_
  ·intro e;have e' : B + 1 = B:=e;omega
  ·intro e;have e' : B + 1 = B + 2:=e;omega
 ·refine heap_setCell_same _ (B + 2) 0 _ _ _ (old_row (old_row r1.be ((Kp.own B 0 (.slice none 0 0)).set B 1 (.slice none 0 0) (Or.inr rfl)) ?_) (Kp.own (B + 1) 0 (.int .i64 (p.1 : Int))) ?_)
  ·intro e;have e' : B + 2 = B:=e;omega
  ·intro e;have e' : B + 2 = B + 1:=e;omega
 ·exact (((k1.any.set B 0 _ (Or.inr (Or.inl rfl))).set B 1 _ (Or.inr (Or.inl rfl))).set (B + 1) 0 _ (Or.inr (Or.inr (Or.inl rfl)))).set (B + 2) 0 _ (Or.inr (Or.inr (Or.inr rfl)))
theorem ycatch_idle (B : Nat) (W : World) :
  CallsD Tryz.prog 18 #[.pointer (some ⟨B,0,none⟩),.pointer (some ⟨B + 1,0,none⟩),.pointer (some ⟨B + 2,0,none⟩)] .returning W fun e u' w' => e = .returned (.tuple #[]) ∧ u' = .returning ∧ w' = W:=by
 refine callsD_of_wpS Tryz.func18 rfl fun c₀ cs hu => ?_
 apply wpS_seq
 apply wpS_region
 simp [wpOpsS,go_sem,recoverD,hu,Tryz.ntmps18,Exit.thenS]
 refine wpS_of_wp ?_
 go_wp2
 refine ⟨rfl,.returning,?_,.tuple #[],results_none rfl _ _ _,rfl,rfl,rfl⟩
 cases c₀
 simp_all
theorem own_slice {w : World} {B E sz n : Nat} {v : Value} {xs : List Value} (h : w.ownsRow B E sz v n xs) : ∃ o c,v = .slice o n c:=by
 rcases h.2 with ⟨h1,h2⟩ | ⟨q,cp,cu,hv,_⟩
 ·exact ⟨none,0,by rw [h1,h2]⟩
 ·exact ⟨_,_,hv⟩
def ParseP (w : World) (r : Except (Nat × Int) (List CT)) (e : Ending) (w' : World) : Prop:=(match r with
 | .error p => e = .returned (.tuple #[.agg #[.slice none 0 0,.slice none 0 0],.int .i64 (p.1 : Int),.int .i64 p.2])
 | .ok cs => ∃ v,e = .returned (.tuple #[v,.int .i64 0,.int .i64 0]) ∧ DocV w.heap.size cs v w') ∧ Below w.heap.size w w'
abbrev preY (w : World) : World:=((w.alloc zD).alloc (.cells #[.int .i64 0] 3)).alloc (.cells #[.int .i64 0] 26)
theorem preY_res (w : World) : ResY (preY w) w.heap.size (.slice none 0 0) (.slice none 0 0) 0 0:=by
 refine ⟨old_row (heap_alloc_new w zD) (((Kp.refl Non _).alloc _).alloc _) (fun e => e),?_,?_⟩
 ·have:=old_row (heap_alloc_new (w.alloc zD) (.cells #[.int .i64 0] 3)) ((Kp.refl Non _).alloc (.cells #[.int .i64 0] 26)) (fun e => e)
  rw [World.size_alloc] at this
  exact this
 ·have:=heap_alloc_new ((w.alloc zD).alloc (.cells #[.int .i64 0] 3)) (.cells #[.int .i64 0] 26)
  rw [World.size_alloc,World.size_alloc] at this
  exact this
theorem preY_size (w : World) : (preY w).heap.size = w.heap.size + 3:=by simp
theorem preY_below (w : World) : Below w.heap.size w (preY w):=(((Below.refl _ w).alloc (Nat.le_refl _) _).alloc (by simp) _).alloc (by simp;omega) _
set_option maxRecDepth 100000 in
set_option maxHeartbeats 4000000 in
theorem parse_lex (s : Bs) (p : Nat × Int) (hs : lexS s = .inl p) (hp : p.2 ≠ 0) (w : World) (gl : Gl w) : Calls Tryz.prog 9 #[.string ⟨s.toArray⟩] w (ParseP w (.error p)):=by
 have hmf : ∀ (fn : Fn) (first cap : Array Value) (w : World),(Instr.makeFunc fn first cap).run Tryz.prog w = .ok (.func fn first cap) w:=fun _ _ _ _ => rfl
 have TO:=tokens_any s (preY w) (gl.below (preY_below w) (Nat.le_refl _))
 rw [hs] at TO
 have hp' : (p.2 == 0) = false:=by simpa using hp
 clear hs hp
 go_enter_defers Tryz.func9,Tryz.ntmps9
 go_wp2_with (go_at_call 17;refine TO.mono ?_;rintro e w1 ⟨rfl,hb⟩;have r1:=(preY_res w).kp (Kp.of_below (S:=Non) hb) (fun e => e) (fun e => e) (fun e => e);obtain ⟨d0,d1,df⟩:=row2 r1.bd;obtain ⟨e0,ef⟩:=row1 r1.ba;obtain ⟨g0,gf⟩:=row1 r1.be)
 have r2 : ResY ((w1.setCell ⟨w.heap.size + 1,0,none⟩ (.int .i64 (p.1 : Int))).setCell ⟨w.heap.size + 1 + 1,0,none⟩ (.int .i64 p.2)) w.heap.size (.slice none 0 0) (.slice none 0 0) p.1 p.2:=by
  refine ⟨?_,?_,?_⟩
  ·exact old_row r1.bd (((Kp.own (w.heap.size + 1) 0 (.int .i64 (p.1 : Int))).mono (fun _ _ e => Or.inl e)).trans ((Kp.own (w.heap.size + 1 + 1) 0 (.int .i64 p.2)).mono (fun _ _ e => Or.inr e)) : Kp (fun k => k = w.heap.size + 1 ∨ k = w.heap.size + 1 + 1) _ _) (by omega)
  ·exact old_row (heap_setCell_same _ (w.heap.size + 1) 0 _ _ _ r1.ba) (Kp.own (w.heap.size + 1 + 1) 0 (.int .i64 p.2)) (by intro e;have e' : w.heap.size + 1 = w.heap.size + 1 + 1:=e;omega)
  ·exact heap_setCell_same _ (w.heap.size + 1 + 1) 0 _ _ _ (old_row r1.be (Kp.own (w.heap.size + 1) 0 (.int .i64 (p.1 : Int))) (by intro e;have e' : w.heap.size + 2 = w.heap.size + 1:=e;omega))
 have hb2 : Below w.heap.size w ((w1.setCell ⟨w.heap.size + 1,0,none⟩ (.int .i64 (p.1 : Int))).setCell ⟨w.heap.size + 1 + 1,0,none⟩ (.int .i64 p.2)):=(((preY_below w).trans (hb.mono (by rw [preY_size];omega))).setCell (p:=⟨w.heap.size + 1,0,none⟩) (by show _ ≤ _ + 1;omega) _).setCell (p:=⟨w.heap.size + 1 + 1,0,none⟩) (by show _ ≤ _ + 1 + 1;omega) _
 generalize (w1.setCell ⟨w.heap.size + 1,0,none⟩ (.int .i64 (p.1 : Int))).setCell ⟨w.heap.size + 1 + 1,0,none⟩ (.int .i64 p.2) = w2 at *
 refine leaves_cons (f:=18) (args:=#[.pointer (some ⟨w.heap.size,0,none⟩),.pointer (some ⟨w.heap.size + 1,0,none⟩),.pointer (some ⟨w.heap.size + 1 + 1,0,none⟩)]) (by simp) (by simp [go_sem]) ?_
 refine (ycatch_dies w.heap.size p none none 0 0 0 0 p.1 p.2 [] _ r2).mono ?_
 rintro e u' w'' ⟨rfl,rfl,r3,k3⟩
 obtain ⟨x0,x1,xf⟩:=row2 r3.bd
 obtain ⟨y0,yf⟩:=row1 r3.ba
 obtain ⟨z0,zf⟩:=row1 r3.be
 simp [Leaves,settle,results,Tryz.results9,go_sem,x0,x1,y0,z0]
 exact ⟨rfl,hb2.trans (k3.below hb2.size (fun k hk e => by omega))⟩
theorem toks_face {w w1 : World} {ts : List Tok} {v : Value} (ht : Toks w1 (preY w).heap.size v ts) (hb : Below (preY w).heap.size (preY w) w1) (s : Bs) : ∃ o lc,v = .slice o ts.length lc ∧ ResY w1 w.heap.size (.slice none 0 0) (.slice none 0 0) 0 0 ∧ w.heap.size + 3 ≤ w1.heap.size ∧
  Hid ((((w1.setCell ⟨w.heap.size + 1,0,none⟩ (.int .i64 0)).setCell ⟨w.heap.size + 1 + 1,0,none⟩ (.int .i64 0)).alloc (.cells #[.int .i64 0,.string ⟨#[]⟩,.int .i64 (s.length : Int),.int .i64 0] 40)).ownsRow (w.heap.size + 3) 40 4 (.slice o ts.length lc) ts.length (cellsT ts)) ∧ Hid ((((w1.setCell ⟨w.heap.size + 1,0,none⟩ (.int .i64 0)).setCell ⟨w.heap.size + 1 + 1,0,none⟩ (.int .i64 0)).alloc (.cells #[.int .i64 0,.string ⟨#[]⟩,.int .i64 (s.length : Int),.int .i64 0] 40)).heap[w1.heap.size]? = some (.cells #[.int .i64 0,.string ⟨#[]⟩,.int .i64 (s.length : Int),.int .i64 0] 40 (0,0))):=by
 rw [preY_size] at ht
 obtain ⟨o,lc,rfl⟩:=own_slice ht
 have hz1:=hb.size
 rw [preY_size] at hz1
 have hT:=heap_alloc_new ((w1.setCell ⟨w.heap.size + 1,0,none⟩ (.int .i64 0)).setCell ⟨w.heap.size + 1 + 1,0,none⟩ (.int .i64 0)) (.cells #[.int .i64 0,.string ⟨#[]⟩,.int .i64 (s.length : Int),.int .i64 0] 40)
 rw [show ((w1.setCell ⟨w.heap.size + 1,0,none⟩ (.int .i64 0)).setCell ⟨w.heap.size + 1 + 1,0,none⟩ (.int .i64 0)).heap.size = w1.heap.size by simp [World.setCell]] at hT
 exact ⟨o,lc,rfl,(preY_res w).kp (Kp.of_below (S:=Non) hb) (fun e => e) (fun e => e) (fun e => e),hz1,(ownsRow_setCell_below (ownsRow_setCell_below ht (a:=⟨w.heap.size + 1,0,none⟩) (by show _ + 1 < _;omega) (.int .i64 0)) (a:=⟨w.heap.size + 1 + 1,0,none⟩) (by show _ + 1 + 1 < _;omega) (.int .i64 0)).alloc _,hT⟩
theorem face_mid {w w1 w2 : World} {lv : Value} {s : Bs} (r1 : ResY w1 w.heap.size (.slice none 0 0) (.slice none 0 0) 0 0) (hb : Below w.heap.size w w1) (hlv : ∀ k,lv.ownBlock = some k → w.heap.size + 3 ≤ k) (hgr : (((w1.setCell ⟨w.heap.size + 1,0,none⟩ (.int .i64 0)).setCell ⟨w.heap.size + 1 + 1,0,none⟩ (.int .i64 0)).alloc (.cells #[.int .i64 0,.string ⟨#[]⟩,.int .i64 (s.length : Int),.int .i64 0] 40)).grownBy w2 lv.ownBlock) : ResY w2 w.heap.size (.slice none 0 0) (.slice none 0 0) 0 0 ∧ Below w.heap.size w w2:=by
 have hsz : ((w1.setCell ⟨w.heap.size + 1,0,none⟩ (.int .i64 0)).setCell ⟨w.heap.size + 1 + 1,0,none⟩ (.int .i64 0)).heap.size = w1.heap.size:=by simp [World.setCell]
 have K1 : Kp (fun k => lv.ownBlock = some k) ((w1.setCell ⟨w.heap.size + 1,0,none⟩ (.int .i64 0)).setCell ⟨w.heap.size + 1 + 1,0,none⟩ (.int .i64 0)) w2:=((Kp.refl _ ((w1.setCell ⟨w.heap.size + 1,0,none⟩ (.int .i64 0)).setCell ⟨w.heap.size + 1 + 1,0,none⟩ (.int .i64 0))).alloc (.cells #[.int .i64 0,.string ⟨#[]⟩,.int .i64 (s.length : Int),.int .i64 0] 40)).grew hgr (fun k e => Or.inr e)
 have r2 : ResY ((w1.setCell ⟨w.heap.size + 1,0,none⟩ (.int .i64 0)).setCell ⟨w.heap.size + 1 + 1,0,none⟩ (.int .i64 0)) w.heap.size (.slice none 0 0) (.slice none 0 0) 0 0:=by
  refine ⟨?_,?_,?_⟩
  ·exact old_row r1.bd (((Kp.own (w.heap.size + 1) 0 (.int .i64 0)).mono (fun _ _ e => Or.inl e)).trans ((Kp.own (w.heap.size + 1 + 1) 0 (.int .i64 0)).mono (fun _ _ e => Or.inr e)) : Kp (fun k => k = w.heap.size + 1 ∨ k = w.heap.size + 1 + 1) _ _) (by omega)
  ·exact old_row (heap_setCell_same _ (w.heap.size + 1) 0 _ _ _ r1.ba) (Kp.own (w.heap.size + 1 + 1) 0 (.int .i64 0)) (by intro e;have e' : w.heap.size + 1 = w.heap.size + 1 + 1:=e;omega)
  ·exact heap_setCell_same _ (w.heap.size + 1 + 1) 0 _ _ _ (old_row r1.be (Kp.own (w.heap.size + 1) 0 (.int .i64 0)) (by intro e;have e' : w.heap.size + 2 = w.heap.size + 1:=e;omega))
 have hb2 : Below w.heap.size w ((w1.setCell ⟨w.heap.size + 1,0,none⟩ (.int .i64 0)).setCell ⟨w.heap.size + 1 + 1,0,none⟩ (.int .i64 0)):=(hb.setCell (p:=⟨w.heap.size + 1,0,none⟩) (by show _ ≤ _ + 1;omega) _).setCell (p:=⟨w.heap.size + 1 + 1,0,none⟩) (by show _ ≤ _ + 1 + 1;omega) _
 exact ⟨r2.kp K1 (fun e => by have:=hlv _ e;omega) (fun e => by have:=hlv _ e;omega) (fun e => by have:=hlv _ e;omega),hb2.trans (K1.below hb2.size (fun k hk e => by have:=hlv _ e;omega))⟩
theorem face_doc {w w2 : World} {s : Bs} {ts : List Tok} {q cp : Nat} (hfull : Full (ts ++ [eofT s.length])) (own : w2.ownsRow (w.heap.size + 3) 40 4 (.slice (some ⟨q,0,none⟩) (ts.length + 1) cp) (ts.length + 1) (cellsT ts ++ [.int .i64 0,.string ⟨#[]⟩,.int .i64 (s.length : Int),.int .i64 0])) :
  Calls Tryz.prog 20 #[.pointer (some ⟨w2.heap.size,0,none⟩)] (w2.alloc (.cells #[.slice (some ⟨q,0,none⟩) (ts.length + 1) cp,.int .i64 0,.bool false,.int .i64 0,.int .i64 0,.int .i64 0] 49)) fun e w' => (∃ p,docS (ts ++ [eofT s.length]) = .error p ∧ e = DiesY p ∧ Kp Non w2 w') ∨ (∃ cs m o1 n1 z1 o2 n2 z2,docS (ts ++ [eofT s.length]) = .ok (cs,m) ∧ e = .returned (.agg #[.slice o1 n1 z1,.slice o2 n2 z2]) ∧ Ats w' (Iv (w2.heap.size + 1) w'.heap.size) cs [.slice o1 n1 z1,.slice o2 n2 z2] ∧ Kp Non w2 w'):=by
 have e1 : (ts ++ [eofT s.length]).length = ts.length + 1:=by simp
 have OW : w2.ownsRow (w.heap.size + 3) 40 4 (.slice (some ⟨q,0,none⟩) (ts ++ [eofT s.length]).length cp) (ts ++ [eofT s.length]).length (cellsT (ts ++ [eofT s.length])):=by
  rw [e1,cellsT_snoc];exact own
 have DC:=doc_any (sx_start hfull OW) (by simp)
 rw [e1] at DC
 refine DC.mono ?_
 rintro e w3 (⟨p,hq,rfl,k3⟩ | ⟨cs,m,v,hq,rfl,⟨o1,n1,z1,o2,n2,z2,rfl,hv⟩,k3⟩)
 ·exact Or.inl ⟨p,hq,rfl,((Kp.refl Non w2).alloc _).trans2 k3 (fun k hk e => by have e' : k = w2.heap.size:=e;omega)⟩
 ·rw [World.size_alloc] at hv
  exact Or.inr ⟨cs,m,o1,n1,z1,o2,n2,z2,hq,rfl,hv,((Kp.refl Non w2).alloc _).trans2 k3 (fun k hk e => by have e' : k = w2.heap.size:=e;omega)⟩
theorem tokS_bad {l : Bs} {e : Int} (h : tokS l = .bad e) : e ≠ 0:=by
 unfold tokS at h
 split at h
 ·cases h
 split at h
 ·cases h
 split at h
 ·cases h
 split at h
 ·cases hn : numS l with
  | none => rw [hn] at h;cases h;simp
  | some p => rw [hn] at h;cases h
 split at h
 ·cases hn : textS l with
  | none => rw [hn] at h;cases h;simp
  | some p => rw [hn] at h;cases h
 ·cases h;simp
theorem lexF_bad (N : Nat) : ∀ (n c : Nat) (l : Bs) (p : Nat × Int),lexF N n c l = .inl p → p.2 ≠ 0
 | 0,c,l,p,h => by cases h
 | n + 1,c,l,p,h => by
  unfold lexF at h
  cases hs : skipS l with
  | inr k => rw [hs] at h;cases h;simp
  | inl q =>
   rw [hs] at h
   cases q with
   | nil => cases h
   | cons x l1 =>
    simp only at h
    by_cases h2 : c = 2048
    ·rw [if_pos h2] at h;cases h;simp
    ·rw [if_neg h2] at h
     cases ht : tokS (x :: l1) with
     | bad e => rw [ht] at h;cases h;exact tokS_bad ht
     | ok k t r =>
      rw [ht] at h
      simp only at h
      cases hr : lexF N n (c + 1) r with
      | inl p' => rw [hr] at h;cases h;exact lexF_bad N n (c + 1) r _ hr
      | inr us => rw [hr] at h;cases h
theorem lexS_bad {s : Bs} {p : Nat × Int} (h : lexS s = .inl p) : p.2 ≠ 0:=by
 unfold lexS at h
 split at h
 ·cases h;simp
 ·exact lexF_bad _ _ _ _ _ h
set_option maxRecDepth 100000 in
set_option maxHeartbeats 4000000 in
theorem parse_toks (s : Bs) (ts : List Tok) (hs : lexS s = .inr ts) (w : World) (gl : Gl w) : Calls Tryz.prog 9 #[.string ⟨s.toArray⟩] w (ParseP w (match docS (ts ++ [eofT s.length]) with | .error p => .error p | .ok p => .ok p.1)):=by
 have hmf : ∀ (fn : Fn) (first cap : Array Value) (w : World),(Instr.makeFunc fn first cap).run Tryz.prog w = .ok (.func fn first cap) w:=fun _ _ _ _ => rfl
 have TO:=tokens_any s (preY w) (gl.below (preY_below w) (Nat.le_refl _))
 rw [hs] at TO
 have hfull:=full_of hs
 obtain ⟨hn1,hn2,_⟩:=lexS_full hs
 have hsz:=size_of s
 have hne : ts ++ [eofT s.length] ≠ []:=by simp
 obtain ⟨ti,hti,hy0,hy1,hy2⟩:=info_parts Tryz.infoTok
 clear hs
 obtain ⟨r,hr⟩ : ∃ r,(match docS (ts ++ [eofT s.length]) with | .error p => .error p | .ok p => .ok p.1 : Except (Nat × Int) (List CT)) = r:=⟨_,rfl⟩
 rw [hr]
 go_enter_defers Tryz.func9,Tryz.ntmps9
 go_wp2_with (first
  | (at_builtin;refine wpList_append_lies _ rfl _ _ _ rfl (w.heap.size + 3) 40 ti _ 4 40 Tryz.underlying33 hti hy0 hy1 hy2 rfl (by decide) (.slice o ts.length lc) ts.length (cellsT ts) rfl HO.out ⟨w1.heap.size,0,none⟩ 1 1 [.int .i64 0,.string ⟨#[]⟩,.int .i64 (s.length : Int),.int .i64 0] rfl rfl (World.news_of_block bT.out) (by intro u hu;simp at hu;rcases hu with rfl | rfl | rfl | rfl <;> rfl) (by decide) (by unfold maxLen;omega) (by omega) (by simp;omega) (w1.heap.size + 1) (by simp) ?_;intro q cp w2 own2 hgr hor hlt2;have DC:=face_doc hfull own2;have FM:=face_mid r1 ((preY_below w).trans (hb.mono (by rw [preY_size];omega))) (fun k e => (own_block HO.out e).1) hgr;clear own2 hgr hor)
  | (go_at_call 20;refine DC.mono ?_;(rintro e w3 (⟨p,hq,rfl,k3⟩ | ⟨cs,m,o1,n1,z1,o2,n2,z2,hq,rfl,hv,k3⟩) <;> (have r3:=FM.1.kp k3 (fun e => e) (fun e => e) (fun e => e);have hb3:=FM.2.trans (k3.bel.mono FM.2.size);have hz2 : w.heap.size + 3 ≤ w2.heap.size:=lt_of_block FM.1.be;obtain ⟨x0,x1,xf⟩:=row2 r3.bd;obtain ⟨y0,yf⟩:=row1 r3.ba;obtain ⟨z0,zf⟩:=row1 r3.be)))
  | (go_at_call 17;refine TO.mono ?_;rintro e w1 ⟨⟨v,rfl,ht⟩,hb⟩;obtain ⟨o,lc,rfl,r1,hz1,HO,bT⟩:=toks_face ht hb s;obtain ⟨d0,d1,df⟩:=row2 r1.bd;obtain ⟨e0,ef⟩:=row1 r1.ba;obtain ⟨g0,gf⟩:=row1 r1.be))
 ·rw [hq] at hr
  subst hr
  refine leaves_cons (f:=18) (args:=#[.pointer (some ⟨w.heap.size,0,none⟩),.pointer (some ⟨w.heap.size + 1,0,none⟩),.pointer (some ⟨w.heap.size + 1 + 1,0,none⟩)]) (by simp) (by simp [go_sem]) ?_
  refine (ycatch_dies w.heap.size p none none 0 0 0 0 0 0 [] _ r3).mono ?_
  rintro e u' w'' ⟨rfl,rfl,r4,k4⟩
  obtain ⟨a0,a1,af⟩:=row2 r4.bd
  obtain ⟨b0,bf⟩:=row1 r4.ba
  obtain ⟨c0,cf⟩:=row1 r4.be
  simp [Leaves,settle,results,Tryz.results9,go_sem,a0,a1,b0,c0]
  exact ⟨rfl,hb3.trans (k4.below hb3.size (fun k hk e => by omega))⟩
 ·rw [hq] at hr
  subst hr
  have KF : Kp (fun k => k < w.heap.size + 3) w3 ((((w3.setCell ⟨w.heap.size,0,none⟩ (.slice o1 n1 z1)).setCell ⟨w.heap.size,1,none⟩ (.slice o2 n2 z2)).setCell ⟨w.heap.size + 1,0,none⟩ (.int .i64 0)).setCell ⟨w.heap.size + 1 + 1,0,none⟩ (.int .i64 0)):=((((Kp.refl (fun k => k < w.heap.size + 3) w3).lowset w.heap.size 0 (.slice o1 n1 z1) (by omega)).lowset w.heap.size 1 (.slice o2 n2 z2) (by omega)).lowset (w.heap.size + 1) 0 (.int .i64 0) (by omega)).lowset (w.heap.size + 1 + 1) 0 (.int .i64 0) (by omega)
  have hbF : Below w.heap.size w ((((w3.setCell ⟨w.heap.size,0,none⟩ (.slice o1 n1 z1)).setCell ⟨w.heap.size,1,none⟩ (.slice o2 n2 z2)).setCell ⟨w.heap.size + 1,0,none⟩ (.int .i64 0)).setCell ⟨w.heap.size + 1 + 1,0,none⟩ (.int .i64 0)):=(((hb3.setCell (p:=⟨w.heap.size,0,none⟩) (Nat.le_refl _) _).setCell (p:=⟨w.heap.size,1,none⟩) (Nat.le_refl _) _).setCell (p:=⟨w.heap.size + 1,0,none⟩) (by show _ ≤ _ + 1;omega) _).setCell (p:=⟨w.heap.size + 1 + 1,0,none⟩) (by show _ ≤ _ + 1 + 1;omega) _
  have a0 : ((((w3.setCell ⟨w.heap.size,0,none⟩ (.slice o1 n1 z1)).setCell ⟨w.heap.size,1,none⟩ (.slice o2 n2 z2)).setCell ⟨w.heap.size + 1,0,none⟩ (.int .i64 0)).setCell ⟨w.heap.size + 1 + 1,0,none⟩ (.int .i64 0)).cell? ⟨w.heap.size,0,none⟩ = some (.slice o1 n1 z1):=by simp [go_sem,x0]
  have a1 : ((((w3.setCell ⟨w.heap.size,0,none⟩ (.slice o1 n1 z1)).setCell ⟨w.heap.size,1,none⟩ (.slice o2 n2 z2)).setCell ⟨w.heap.size + 1,0,none⟩ (.int .i64 0)).setCell ⟨w.heap.size + 1 + 1,0,none⟩ (.int .i64 0)).cell? ⟨w.heap.size,1,none⟩ = some (.slice o2 n2 z2):=by simp [go_sem,x1]
  have b0 : ((((w3.setCell ⟨w.heap.size,0,none⟩ (.slice o1 n1 z1)).setCell ⟨w.heap.size,1,none⟩ (.slice o2 n2 z2)).setCell ⟨w.heap.size + 1,0,none⟩ (.int .i64 0)).setCell ⟨w.heap.size + 1 + 1,0,none⟩ (.int .i64 0)).cell? ⟨w.heap.size + 1,0,none⟩ = some (.int .i64 0):=by simp [go_sem,y0]
  have c0 : ((((w3.setCell ⟨w.heap.size,0,none⟩ (.slice o1 n1 z1)).setCell ⟨w.heap.size,1,none⟩ (.slice o2 n2 z2)).setCell ⟨w.heap.size + 1,0,none⟩ (.int .i64 0)).setCell ⟨w.heap.size + 1 + 1,0,none⟩ (.int .i64 0)).cell? ⟨w.heap.size + 1 + 1,0,none⟩ = some (.int .i64 0):=by
   have z0' : w3.cell? ⟨w.heap.size + 1 + 1,0,none⟩ = some (.int .i64 0):=z0
   simp [go_sem,z0']
  generalize (((w3.setCell ⟨w.heap.size,0,none⟩ (.slice o1 n1 z1)).setCell ⟨w.heap.size,1,none⟩ (.slice o2 n2 z2)).setCell ⟨w.heap.size + 1,0,none⟩ (.int .i64 0)).setCell ⟨w.heap.size + 1 + 1,0,none⟩ (.int .i64 0) = w4 at *
  refine leaves_cons (f:=18) (args:=#[.pointer (some ⟨w.heap.size,0,none⟩),.pointer (some ⟨w.heap.size + 1,0,none⟩),.pointer (some ⟨w.heap.size + 1 + 1,0,none⟩)]) (by simp) (by simp [go_sem]) ?_
  refine (ycatch_idle w.heap.size w4).mono ?_
  rintro e u' w'' ⟨rfl,rfl,rfl⟩
  simp [Leaves,settle,results,Tryz.results9,go_sem,a0,a1,b0,c0]
  exact ⟨⟨_,rfl,⟨_,_,_,_,_,_,rfl,hv.later KF (Nat.le_refl _) (fun k h1 h2 e => by omega) (by omega) KF.size⟩⟩,hbF⟩
theorem parse_any (s : Bs) (w : World) (gl : Gl w) : Calls Tryz.prog 9 #[.string ⟨s.toArray⟩] w (ParseP w (parseS s)):=by
 unfold parseS
 cases hs : lexS s with
 | inl p => exact parse_lex s p hs (lexS_bad hs) w gl
 | inr ts => exact parse_toks s ts hs w gl
end
section
open Go Go.RowKit Go.Shelf
def oneK (s : Bs) : Int:=match lexS s with
 | .inr [t] => if (t.e : Int) - (t.b : Int) = (s.length : Int) then t.k else -1
 | _ => -1
def numK (s : Bs) : Int:=if oneK s = 2 ∨ oneK s = 3 then oneK s else -1
def nameK (s : Bs) : Bool:=oneK s == 1
theorem below_drewN {B : Nat} {w w1 : World} (h : Below B w w1) (n : Nat) : Below B w (w1.drewN n):=⟨h.os,h.tape,h.output,h.size,h.block⟩
theorem one_cells {W : World} {B : Nat} {v : Value} {t : Tok} (h : Toks W B v [t]) : ∃ q lc,v = .slice (some ⟨q,0,none⟩) 1 lc ∧ W.cell? ⟨q,0,none⟩ = some (.int .i64 t.k) ∧ W.cell? ⟨q,2,none⟩ = some (.int .i64 (t.b : Int)) ∧ W.cell? ⟨q,3,none⟩ = some (.int .i64 (t.e : Int)):=by
 obtain ⟨q,cp,rfl,_,_⟩:=World.ownsRow.form h (by simp)
 exact ⟨q,cp,rfl,by rw [World.ownsRow.cellAt h 0 (by simp)];rfl,by rw [World.ownsRow.cellAt h 2 (by simp)];rfl,by rw [World.ownsRow.cellAt h 3 (by simp)];rfl⟩
theorem lexF_ends (N : Nat) : ∀ (n c : Nat) (l : Bs) (ts : List Tok),lexF N n c l = .inr ts → ∀ t ∈ ts,t.b ≤ N ∧ t.e ≤ N
 | 0,c,l,ts,h => by cases h;simp
 | n + 1,c,l,ts,h => by
  unfold lexF at h
  cases hs : skipS l with
  | inr k => rw [hs] at h;cases h
  | inl q =>
   rw [hs] at h
   cases q with
   | nil => cases h;simp
   | cons x l1 =>
    simp only at h
    by_cases h2 : c = 2048
    ·rw [if_pos h2] at h;cases h
    ·rw [if_neg h2] at h
     cases ht : tokS (x :: l1) with
     | bad e => rw [ht] at h;cases h
     | ok k t r =>
      rw [ht] at h
      simp only at h
      cases hr : lexF N n (c + 1) r with
      | inl p => rw [hr] at h;cases h
      | inr us =>
       rw [hr] at h
       injection h with h
       subst h
       intro u hu
       rcases List.mem_cons.1 hu with rfl | hu
       ·exact ⟨Nat.sub_le _ _,Nat.sub_le _ _⟩
       ·exact lexF_ends N n (c + 1) r us hr u hu
theorem tok_small {s : Bs} {t : Tok} (h : lexS s = .inr [t]) : t.b ≤ 16384 ∧ t.e ≤ 16384:=by
 have hl:=(lexS_full h).2.1
 unfold lexS at h
 rw [if_neg (by omega)] at h
 have:=lexF_ends _ _ _ _ _ h t (by simp)
 omega
set_option maxRecDepth 100000 in
set_option maxHeartbeats 2000000 in
theorem only_any (s : Bs) (w : World) (gl : Gl w) : Calls Tryz.prog 28 #[.string ⟨s.toArray⟩] w fun e w' => e = .returned (.int .i64 (oneK s)) ∧ Below w.heap.size w w':=by
 have TO:=tokens_any s w gl
 have hsz:=size_of s
 unfold oneK
 cases hs : lexS s with
 | inl p =>
  rw [hs] at TO
  have hp0:=lexS_bad hs
  obtain ⟨a,x⟩:=p
  have hp : (x != 0) = true:=by simpa using hp0
  have hp2 : (x == 0) = false:=by simpa using hp0
  clear hs hp0
  go_enter Tryz.func28,Tryz.ntmps28
  go_wp2_with (go_at_call 17;refine TO.mono ?_;rintro e w1 ⟨rfl,hb⟩)
  go_quiet (fail)
  go_wp2
  go_ret
  exact ⟨rfl,below_drewN hb _⟩
 | inr ts =>
  rw [hs] at TO
  obtain ⟨hn1,hn2,_⟩:=lexS_full hs
  have hs0:=hs
  clear hs
  by_cases h1 : ts.length = 1
  ·obtain ⟨t,rfl⟩:=List.length_eq_one_iff.1 h1
   simp only
   by_cases h2 : (t.e : Int) - (t.b : Int) = (s.length : Int)
   ·rw [if_pos h2]
    have h3 : ((t.e : Int) - (t.b : Int) == (s.length : Int)) = true:=by simpa using h2
    have h4 : ((t.e : Int) - (t.b : Int) != (s.length : Int)) = false:=by simpa using h2
    have b1 : IntKind.i64.wrap ((t.e : Int) - (t.b : Int)) = (t.e : Int) - (t.b : Int):=by rw [IntKind.wrap_i64,h2];omega
    clear h1 h2
    go_enter Tryz.func28,Tryz.ntmps28
    go_wp2_with (go_at_call 17;refine TO.mono ?_;rintro e w1 ⟨⟨v,rfl,ht⟩,hb⟩;obtain ⟨q,lc,rfl,c0,c2,c3⟩:=one_cells ht)
    go_quiet (fail)
    go_wp2
    go_ret
    exact ⟨rfl,below_drewN hb _⟩
   ·rw [if_neg h2]
    have hl:=tok_small hs0
    have h3 : ((t.e : Int) - (t.b : Int) == (s.length : Int)) = false:=by simpa using h2
    have h4 : ((t.e : Int) - (t.b : Int) != (s.length : Int)) = true:=by simpa using h2
    have b1 : IntKind.i64.wrap ((t.e : Int) - (t.b : Int)) = (t.e : Int) - (t.b : Int):=by rw [IntKind.wrap_i64];omega
    clear h1 h2
    go_enter Tryz.func28,Tryz.ntmps28
    go_wp2_with (go_at_call 17;refine TO.mono ?_;rintro e w1 ⟨⟨v,rfl,ht⟩,hb⟩;obtain ⟨q,lc,rfl,c0,c2,c3⟩:=one_cells ht)
    go_quiet (fail)
    go_wp2
    go_ret
    exact ⟨rfl,below_drewN hb _⟩
  ·have HQ : Hid ((match (Sum.inr ts : (Nat × Int) ⊕ List Tok) with | .inr [t] => if (t.e : Int) - (t.b : Int) = (s.length : Int) then t.k else -1 | _ => -1) = (-1 : Int)):=by
    show _ = _
    match ts,h1 with
    | [],_ => rfl
    | [_],h => exact absurd rfl h
    | _ :: _ :: _,_ => rfl
   rw [HQ.out]
   have h2 : ((ts.length : Int) == 1) = false:=by rw [beq_eq_false_iff_ne];omega
   have h3 : ((ts.length : Int) != 1) = true:=by simp only [bne,h2];rfl
   clear h1
   go_enter Tryz.func28,Tryz.ntmps28
   go_wp2_with (go_at_call 17;refine TO.mono ?_;rintro e w1 ⟨⟨v,rfl,ht⟩,hb⟩;obtain ⟨o,lc,rfl⟩:=own_slice ht)
   go_quiet (fail)
   go_wp2
   go_ret
   exact ⟨rfl,below_drewN hb _⟩
set_option maxRecDepth 100000 in
theorem ynumber_any (s : Bs) (w : World) (gl : Gl w) : Calls Tryz.prog 13 #[.string ⟨s.toArray⟩] w fun e w' => e = .returned (.int .i64 (numK s)) ∧ Below w.heap.size w w':=by
 have O:=only_any s w gl
 unfold numK
 generalize oneK s = k at *
 by_cases h2 : k = 2
 ·subst h2
  go_enter Tryz.func13,Tryz.ntmps13
  go_wp2_with (go_at_call 28;refine O.mono ?_;rintro e w1 ⟨rfl,hb⟩)
  go_ret
  exact ⟨rfl,hb⟩
 ·by_cases h3 : k = 3
  ·subst h3
   go_enter Tryz.func13,Tryz.ntmps13
   go_wp2_with (go_at_call 28;refine O.mono ?_;rintro e w1 ⟨rfl,hb⟩)
   go_ret
   exact ⟨rfl,hb⟩
  ·rw [if_neg (by rintro (e | e);exact h2 e;exact h3 e)]
   have a1 : (k == 2) = false:=by simpa using h2
   have a2 : (k == 3) = false:=by simpa using h3
   have a3 : (k != 2) = true:=by simpa using h2
   have a4 : (k != 3) = true:=by simpa using h3
   go_enter Tryz.func13,Tryz.ntmps13
   go_wp2_with (go_at_call 28;refine O.mono ?_;rintro e w1 ⟨rfl,hb⟩)
   go_ret
   exact ⟨rfl,hb⟩
theorem yname_any (s : Bs) (w : World) (gl : Gl w) : Calls Tryz.prog 15 #[.string ⟨s.toArray⟩] w fun e w' => e = .returned (.bool (nameK s)) ∧ Below w.heap.size w w':=by
 have O:=only_any s w gl
 unfold nameK
 generalize oneK s = k at *
 go_enter Tryz.func15,Tryz.ntmps15
 go_wp2_with (go_at_call 28;refine O.mono ?_;rintro e w1 ⟨rfl,hb⟩)
 go_ret
 exact ⟨rfl,hb⟩
end
section
open Go Go.RowKit Go.Shelf
theorem At.leaf {w : World} {D : Nat → Prop} {v u : Value} (h : At w D (.lf v) u) : u = v:=by cases h;rfl
theorem At.rowInv {w : World} {D : Nat → Prop} {E sz n : Nat} {ys : List CT} {u : Value} (h : At w D (.rw E sz n ys) u) : ∃ o cp,u = .slice o n cp ∧ (0 < n → ∃ q cur,o = some ⟨q,0,none⟩ ∧ n ≤ cp ∧ w.heap[q]? = some (.cells cur E (0,0)) ∧ D q ∧ n * sz ≤ cur.size ∧ ys.length = n * sz ∧ ∀ (j : Nat) y,ys[j]? = some y → ∃ x,w.cell? ⟨q,j,none⟩ = some x ∧ At w D y x):=by
 cases h with
 | nil => exact ⟨_,_,rfl,fun h => absurd h (Nat.lt_irrefl _)⟩
 | row hb hD hn hl hc hy =>
  rename_i q cp cur
  refine ⟨_,_,rfl,fun _ => ⟨q,cur,rfl,hn,hb,hD,hc,hl,fun j y hj => ?_⟩⟩
  have hlt : j < cur.size:=by
   have:=(List.getElem?_eq_some_iff.1 hj).1
   omega
  refine ⟨cur[j],by simp [World.cell?,hb,hlt],hy j y _ hj (by simp [hlt])⟩
abbrev fxD : Bs:=[123,97,58,98,40,99,58,91,49,44,36,100,93,44,101,58,123,102,58,110,117,108,108,125,41,32,64,103,123,46,46,46,104,32,46,46,46,111,110,32,73,123,106,125,125,125]
abbrev fxQ : Bs:=[113,117,101,114,121,40,36,97,58,91,73,110,116,33,93,33,61,91,93,41,123,97,125]
structure FxD (w : World) (q0 q1 q2 : Nat) (c1 c2 : Nat) (oa od : Option Addr) (ca cd : Nat) : Prop where
 s : w.cell? ⟨q0,4,none⟩ = some (.slice (some ⟨q1,0,none⟩) 1 c1)
 x0 : w.cell? ⟨q1,0,none⟩ = some (.int .i64 0)
 x1 : w.cell? ⟨q1,1,none⟩ = some (.string ⟨#[97]⟩)
 x2 : w.cell? ⟨q1,2,none⟩ = some (.string ⟨#[98]⟩)
 x3 : w.cell? ⟨q1,3,none⟩ = some (.string ⟨#[]⟩)
 x4 : w.cell? ⟨q1,4,none⟩ = some (.slice oa 2 ca)
 x5 : w.cell? ⟨q1,5,none⟩ = some (.slice od 1 cd)
 x6 : w.cell? ⟨q1,6,none⟩ = some (.slice (some ⟨q2,0,none⟩) 2 c2)
 y : w.cell? ⟨q2,0,none⟩ = some (.int .i64 1)
theorem FxD.keep {w w' : World} {q0 q1 q2 c1 c2 : Nat} {oa od : Option Addr} {ca cd : Nat} (h : FxD w q0 q1 q2 c1 c2 oa od ca cd) (hb : Below w.heap.size w w') : FxD w' q0 q1 q2 c1 c2 oa od ca cd :=
 ⟨cell_on hb h.s,cell_on hb h.x0,cell_on hb h.x1,cell_on hb h.x2,cell_on hb h.x3,cell_on hb h.x4,cell_on hb h.x5,cell_on hb h.x6,cell_on hb h.y⟩
structure FxQ (w : World) (p0 p1 : Nat) (c1 : Nat) : Prop where
 v : w.cell? ⟨p0,2,none⟩ = some (.slice (some ⟨p1,0,none⟩) 1 c1)
 n : w.cell? ⟨p1,1,none⟩ = some (.string ⟨#[73,110,116]⟩)
 r : w.cell? ⟨p1,2,none⟩ = some (.string ⟨#[33,91,33]⟩)
 h : w.cell? ⟨p1,3,none⟩ = some (.bool true)
abbrev fxSel : List CT:=selC 0 [97] [98] [] [sC [99] :: valC 8 [] [valC 4 [49] [] [],valC 3 [100] [] []] [],sC [101] :: valC 9 [] [valC 0 [] [] []] [[sC [102]]]] [[sC [103],rowC 121 5 []]] [selC 1 [] [104] [] [] [] [],selC 2 [] [] [73] [] [] [selC 0 [] [106] [] [] [] []]]
abbrev fxVar : List CT:=[sC [97],sC [73,110,116],sC [33,91,33],bC true] ++ valC 8 [] [] [] ++ [rowC 97 2 []]
set_option maxRecDepth 100000 in
theorem fxD_eq : parseS fxD = .ok (docC [(false,opC 0 [] [] [] [fxSel])]):=by kernel_rfl
set_option maxRecDepth 100000 in
theorem fxQ_eq : parseS fxQ = .ok (docC [(false,opC 0 [] [fxVar] [] [selC 0 [] [97] [] [] [] []])]):=by kernel_rfl
set_option maxRecDepth 100000 in
theorem fxT_eq : parseS [123,97,40,98,58,36,41,125] = .error (6,60):=by kernel_rfl
set_option maxRecDepth 100000 in
theorem fxE_eq : parseS [123,97] = .error (2,60):=by kernel_rfl
theorem fxN1 : numK [45,49,46,53] = 3:=by kernel_rfl
theorem fxN2 : numK [48,49] = -1:=by kernel_rfl
theorem fxN3 : nameK [95,97] = true:=by kernel_rfl
theorem fxN4 : nameK [97,32] = false:=by kernel_rfl
theorem fxD_cells {w : World} {lo : Nat} {v : Value} (h : DocV lo (docC [(false,opC 0 [] [] [] [fxSel])]) v w) : ∃ q0 c0 o2 n2 z2 q1 q2 c1 c2 oa od ca cd,v = .agg #[.slice (some ⟨q0,0,none⟩) 1 c0,.slice o2 n2 z2] ∧ FxD w q0 q1 q2 c1 c2 oa od ca cd:=by
 obtain ⟨o1,n1,z1,o2,n2,z2,rfl,ha⟩:=h
 obtain ⟨o,cp,e,hr⟩:=(ha.all 0 _ _ rfl rfl).rowInv
 injection e with e1 e2 e3
 subst e1 e2 e3
 obtain ⟨q0,cur,rfl,_,_,_,_,_,hc⟩:=hr (by decide)
 obtain ⟨x,cx,ax⟩:=hc 4 _ rfl
 obtain ⟨o',cp',rfl,hr'⟩:=ax.rowInv
 obtain ⟨q1,cur',rfl,_,_,_,_,_,hc'⟩:=hr' (by decide)
 obtain ⟨y0,d0,b0⟩:=hc' 0 _ rfl
 obtain ⟨y1,d1,b1⟩:=hc' 1 _ rfl
 obtain ⟨y2,d2,b2⟩:=hc' 2 _ rfl
 obtain ⟨y3,d3,b3⟩:=hc' 3 _ rfl
 obtain ⟨y4,d4,b4⟩:=hc' 4 _ rfl
 obtain ⟨y5,d5,b5⟩:=hc' 5 _ rfl
 obtain ⟨y6,d6,b6⟩:=hc' 6 _ rfl
 obtain rfl:=b0.leaf
 obtain rfl:=b1.leaf
 obtain rfl:=b2.leaf
 obtain rfl:=b3.leaf
 obtain ⟨oa,ca,rfl,_⟩:=b4.rowInv
 obtain ⟨od,cd,rfl,_⟩:=b5.rowInv
 obtain ⟨os,cs,rfl,hs⟩:=b6.rowInv
 obtain ⟨q2,cur2,rfl,_,_,_,_,_,hc2⟩:=hs (by decide)
 obtain ⟨z,dz,bz⟩:=hc2 0 _ rfl
 obtain rfl:=bz.leaf
 exact ⟨q0,_,_,_,_,q1,q2,_,_,_,_,_,_,rfl,⟨cx,d0,d1,d2,d3,d4,d5,d6,dz⟩⟩
theorem fxQ_cells {w : World} {lo : Nat} {v : Value} (h : DocV lo (docC [(false,opC 0 [] [fxVar] [] [selC 0 [] [97] [] [] [] []])]) v w) : ∃ p0 c0 o2 n2 z2 p1 c1,v = .agg #[.slice (some ⟨p0,0,none⟩) 1 c0,.slice o2 n2 z2] ∧ FxQ w p0 p1 c1:=by
 obtain ⟨o1,n1,z1,o2,n2,z2,rfl,ha⟩:=h
 obtain ⟨o,cp,e,hr⟩:=(ha.all 0 _ _ rfl rfl).rowInv
 injection e with e1 e2 e3
 subst e1 e2 e3
 obtain ⟨p0,cur,rfl,_,_,_,_,_,hc⟩:=hr (by decide)
 obtain ⟨x,cx,ax⟩:=hc 2 _ rfl
 obtain ⟨o',cp',rfl,hr'⟩:=ax.rowInv
 obtain ⟨p1,cur',rfl,_,_,_,_,_,hc'⟩:=hr' (by decide)
 obtain ⟨y1,d1,b1⟩:=hc' 1 _ rfl
 obtain ⟨y2,d2,b2⟩:=hc' 2 _ rfl
 obtain ⟨y3,d3,b3⟩:=hc' 3 _ rfl
 obtain rfl:=b1.leaf
 obtain rfl:=b2.leaf
 obtain rfl:=b3.leaf
 exact ⟨p0,_,_,_,_,p1,_,rfl,⟨cx,d1,d2,d3⟩⟩
structure Ok6 (w w' : World) : Prop where
 bel : Below w.heap.size w w'
 gl : Gl w'
theorem Ok6.go {w w1 w2 : World} (h : Ok6 w w1) (hb : Below w1.heap.size w1 w2) : Ok6 w w2:=⟨h.bel.trans (hb.mono h.bel.size),h.gl.below hb (Nat.le_refl _)⟩
theorem Ok6.alloc {w w1 : World} (h : Ok6 w w1) (o : Obj) : Ok6 w (w1.alloc o):=h.go (al1 w1 o)
theorem fy1 {w0 w : World} (ok : Ok6 w0 w) : Calls Tryz.prog 9 #[.string ⟨#[123,97,58,98,40,99,58,91,49,44,36,100,93,44,101,58,123,102,58,110,117,108,108,125,41,32,64,103,123,46,46,46,104,32,46,46,46,111,110,32,73,123,106,125,125,125]⟩] w fun e w' => ∃ q0 c0 o2 n2 z2 q1 q2 c1 c2 oa od ca cd,e = .returned (.tuple #[.agg #[.slice (some ⟨q0,0,none⟩) 1 c0,.slice o2 n2 z2],.int .i64 0,.int .i64 0]) ∧ Ok6 w0 w' ∧ FxD w' q0 q1 q2 c1 c2 oa od ca cd:=by
 have P:=parse_any fxD w ok.gl
 rw [fxD_eq] at P
 refine P.mono ?_
 rintro e w' ⟨⟨v,rfl,hv⟩,hb⟩
 obtain ⟨q0,c0,o2,n2,z2,q1,q2,c1,c2,oa,od,ca,cd,rfl,fx⟩:=fxD_cells hv
 exact ⟨q0,c0,o2,n2,z2,q1,q2,c1,c2,oa,od,ca,cd,rfl,ok.go hb,fx⟩
theorem fy2 {w0 w : World} (ok : Ok6 w0 w) : Calls Tryz.prog 9 #[.string ⟨#[123,97,40,98,58,36,41,125]⟩] w fun e w' => e = .returned (.tuple #[.agg #[.slice none 0 0,.slice none 0 0],.int .i64 6,.int .i64 60]) ∧ Ok6 w0 w' ∧ Below w.heap.size w w':=by
 have P:=parse_any [123,97,40,98,58,36,41,125] w ok.gl
 rw [fxT_eq] at P
 exact P.mono (fun e w' h => ⟨h.1,ok.go h.2,h.2⟩)
theorem fy3 {w0 w : World} (ok : Ok6 w0 w) : Calls Tryz.prog 9 #[.string ⟨#[123,97]⟩] w fun e w' => e = .returned (.tuple #[.agg #[.slice none 0 0,.slice none 0 0],.int .i64 2,.int .i64 60]) ∧ Ok6 w0 w' ∧ Below w.heap.size w w':=by
 have P:=parse_any [123,97] w ok.gl
 rw [fxE_eq] at P
 exact P.mono (fun e w' h => ⟨h.1,ok.go h.2,h.2⟩)
theorem fy4 {w0 w : World} (ok : Ok6 w0 w) : Calls Tryz.prog 9 #[.string ⟨#[113,117,101,114,121,40,36,97,58,91,73,110,116,33,93,33,61,91,93,41,123,97,125]⟩] w fun e w' => ∃ p0 c0 o2 n2 z2 p1 c1,e = .returned (.tuple #[.agg #[.slice (some ⟨p0,0,none⟩) 1 c0,.slice o2 n2 z2],.int .i64 0,.int .i64 0]) ∧ Ok6 w0 w' ∧ FxQ w' p0 p1 c1 ∧ Below w.heap.size w w':=by
 have P:=parse_any fxQ w ok.gl
 rw [fxQ_eq] at P
 refine P.mono ?_
 rintro e w' ⟨⟨v,rfl,hv⟩,hb⟩
 obtain ⟨p0,c0,o2,n2,z2,p1,c1,rfl,fx⟩:=fxQ_cells hv
 exact ⟨p0,c0,o2,n2,z2,p1,c1,rfl,ok.go hb,fx,hb⟩
end
end Go.Proofs.YtgppemlciohjcaaGreatDoor
