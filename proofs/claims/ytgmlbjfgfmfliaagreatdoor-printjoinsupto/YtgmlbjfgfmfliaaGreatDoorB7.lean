/- The writer of documents: each of a list, and a list between two signs. -/
import Derived.Test.YtgmlbjfgfmfliaaGreatDoorA22
namespace Go.Proofs.YtgmlbjfgfmfliaaGreatDoor
open Go Go.RowKit Go.Shelf
theorem row_step {α : Type} {g : α → Option (List Bs)} {l : List α} {j : Nat} {x : α} {ys us : List Bs} (h : rowW g (l.take j) = some ys) (hx : l[j]? = some x) (hg : g x = some us) : rowW g (l.take (j + 1)) = some (ys ++ us):=by
 rw [List.take_add_one,hx,rowW_app,h]
 show andW (some ys) (andW (g x) (some [])) = _
 rw [hg]
 simp [andW]
theorem row_no {α : Type} {g : α → Option (List Bs)} {l : List α} {j : Nat} {x : α} {ts ys : List Bs} (h : rowW g (l.take j) = some ys) (hx : l[j]? = some x) (hg : ∀ us,g x = some us → 16385 < szW ((ts ++ ys) ++ us)) : ∀ us,rowW g l = some us → 16385 < szW (ts ++ us):=by
 intro us hu
 have hj : j < l.length:=(List.getElem?_eq_some_iff.1 hx).1
 have e : l = l.take j ++ (x :: l.drop (j + 1)):=by
  have e1 : l.drop j = x :: l.drop (j + 1):=by
   rw [List.drop_eq_getElem_cons hj]
   rw [List.getElem?_eq_getElem hj] at hx
   injection hx with hx
   rw [hx]
  rw [← e1,List.take_append_drop]
 rw [e,rowW_app,h] at hu
 obtain ⟨a,b,h1,h2,rfl⟩:=andW_some hu
 cases h1
 obtain ⟨c,d,h3,h4,rfl⟩:=andW_some h2
 have:=hg c h3
 rw [← List.append_assoc,← List.append_assoc,szW_app]
 omega
theorem Bt.inv_rw {w : World} {D : Nat → Prop} {E sz n : Nat} {ys : List CT} {u : Value} (h : Bt w D (.rw E sz n ys) u) : ∃ (a : Option Addr) (k c : Nat),u = .slice a k c:=by cases h;exact ⟨_,_,_,rfl⟩
theorem cells_Value {w : World} {D : Nat → Prop} {x : Vl} {us : List Value} (h : Bts w D (ctV x) us) : ∃ (z0 : Int) (s1 : ByteArray) (a2 : Option Addr) (n2 m2 : Nat) (a3 : Option Addr) (n3 m3 : Nat),us = [.int .i64 z0,.string s1,.slice a2 n2 m2,.slice a3 n3 m3]:=by
 obtain ⟨k,t,vs,ns⟩:=x
 rw [ctV] at h
 obtain ⟨_,_,rfl,h0,h⟩:=Bts.inv h
 obtain ⟨_,_,rfl,h1,h⟩:=Bts.inv h
 obtain ⟨_,_,rfl,h2,h⟩:=Bts.inv h
 obtain ⟨_,_,rfl,h3,h⟩:=Bts.inv h
 obtain rfl:=h.inv0
 obtain rfl:=h0.inv_lf
 obtain rfl:=h1.inv_lf
 obtain ⟨a2,n2,m2,rfl⟩:=h2.inv_rw
 obtain ⟨a3,n3,m3,rfl⟩:=h3.inv_rw
 exact ⟨_,_,_,_,_,_,_,_,rfl⟩
set_option maxRecDepth 100000 in
set_option maxHeartbeats 2000000 in
theorem all_Value {V : Nat} {w : World} {ts : List Bs} (fx : Bool) (g : Vl → Option (List Bs)) (l : List Vl) (lv : Value) (h : Wk V w ts) (hl : l.length ≤ rwM) (hB : Bt w (fun k => k < V) (rowC 35 4 (l.map ctV)) lv)
  (H : ∀ x ∈ l,∀ (W : World) (zs : List Bs) (us : List Value),Wk V W zs → Bts W (fun k => k < V) (ctV x) us → Calls Tryz.prog 29 #[wrV V fx,.agg us.toArray] W (OutB V W (g x) zs)) :
  Calls Tryz.prog 92 #[lv,.func (.func 29) #[wrV V fx] #[]] w (OutB V w (rowW g l) ts):=by
 obtain ⟨a,cp,rfl,_,hr⟩:=brow_at hB ctV_len
 have hV:=Nat.le_of_lt h.lt
 have hl' : l.length ≤ 140737488355328:=hl
 clear hB
 go_enter Tryz.func92,Tryz.ntmps92
 go_wp2
 go_loopw [9] (fun i wr => ∃ (j : Nat) (ys : List Bs),i = .int .i64 (j : Int) ∧ j ≤ l.length ∧ rowW g (l.take j) = some ys ∧ Wk V wr (ts ++ ys) ∧ FrW V w wr) (fun i _ => l.length - (RowKit.intOf i).toNat)
 case atStart => exact ⟨0,[],rfl,Nat.zero_le _,rfl,by rw [List.append_nil];exact h,FrW.refl _ _⟩
 case round =>
  obtain ⟨j,ys,rfl,hj,hy,hW,hF⟩:=hrel
  by_cases hlt : j < l.length
  ·obtain ⟨x,hx⟩ : ∃ x,l[j]? = some x:=⟨_,List.getElem?_eq_getElem hlt⟩
   obtain ⟨b,o,us,rfl,hD,hus,hBt,hc⟩:=hr j x hx
   obtain ⟨z0,s1,a2,n2,m2,a3,n3,m3,rfl⟩:=cells_Value hBt
   have c0 : wr.cell? ⟨b,o + j * 4,none⟩ = some (.int .i64 z0):=(cell_keep (hF.blk hV hD)).trans (hc 0 _ rfl)
   have c1 : wr.cell? ⟨b,o + j * 4 + 1,none⟩ = some (.string s1):=(cell_keep (hF.blk hV hD)).trans (hc 1 _ rfl)
   have c2 : wr.cell? ⟨b,o + j * 4 + 2,none⟩ = some (.slice a2 n2 m2):=(cell_keep (hF.blk hV hD)).trans (hc 2 _ rfl)
   have c3 : wr.cell? ⟨b,o + j * 4 + 3,none⟩ = some (.slice a3 n3 m3):=(cell_keep (hF.blk hV hD)).trans (hc 3 _ rfl)
   have CL:=H x (List.mem_of_getElem? hx) (wr.alloc (.cells #[.int .i64 z0,.string s1,.slice a2 n2 m2,.slice a3 n3 m3] 35)) (ts ++ ys) [.int .i64 z0,.string s1,.slice a2 n2 m2,.slice a3 n3 m3] (hW.al _) ((hBt.frw hF hV).frw (al1V _) (Nat.le_of_lt hW.lt))
   have l1 : ((j : Nat) : Int) < (l.length : Int):=by omega
   have hjN : ((j : Nat) : Int).toNat = j:=by omega
   have hz : Hid (j + 1 ≤ l.length):=hlt
   have HX : Hid (l[j]? = some x):=hx
   have HY : Hid (rowW g (l.take j) = some ys):=hy
   clear hr hx hy hlt hBt H hc
   go_wp2_with (first
    | (go_at_call 29;(with_reducible refine CL.mono ?_);rintro e w2 (⟨hq,rfl,f2⟩ | ⟨us2,hq,rfl,h2,f2⟩);(focus (go_wp2;go_ret;exact outb_last (row_no HY.out HX.out hq) (hF.trans ((al1V _).trans f2)))))
    | fail)
   refine ⟨⟨j + 1,ys ++ us2,by simp,hz.out,row_step HY.out HX.out hq.out,by rw [← List.append_assoc];exact h2,hF.trans ((al1V _).trans f2)⟩,?_⟩
   have:=hz.out
   simp [RowKit.intOf]
   omega
  ·have l2 : decide (((j : Nat) : Int) < (l.length : Int)) = false:=by simp;omega
   have l3 : decide (j < l.length) = false:=by simp;omega
   have hjl : l.take j = l:=List.take_of_length_le (by omega)
   rw [hjl] at hy
   have HY : Hid (rowW g l = some ys):=hy
   clear hr hlt hj H hy
   go_wp2
   go_ret
   exact outb_end HY hW hF
theorem cells_Arg {w : World} {D : Nat → Prop} {x : Ar} {us : List Value} (h : Bts w D (ctA x) us) : ∃ (s0 : ByteArray) (z1 : Int) (s2 : ByteArray) (a3 : Option Addr) (n3 m3 : Nat) (a4 : Option Addr) (n4 m4 : Nat),us = [.string s0,.int .i64 z1,.string s2,.slice a3 n3 m3,.slice a4 n4 m4]:=by
 obtain ⟨n,⟨k,t,vs,ns⟩⟩:=x
 rw [ctA,ctV] at h
 obtain ⟨_,_,rfl,h0,h⟩:=Bts.inv h
 obtain ⟨_,_,rfl,h1,h⟩:=Bts.inv h
 obtain ⟨_,_,rfl,h2,h⟩:=Bts.inv h
 obtain ⟨_,_,rfl,h3,h⟩:=Bts.inv h
 obtain ⟨_,_,rfl,h4,h⟩:=Bts.inv h
 obtain rfl:=h.inv0
 obtain rfl:=h0.inv_lf
 obtain rfl:=h1.inv_lf
 obtain rfl:=h2.inv_lf
 obtain ⟨a3,n3,m3,rfl⟩:=h3.inv_rw
 obtain ⟨a4,n4,m4,rfl⟩:=h4.inv_rw
 exact ⟨_,_,_,_,_,_,_,_,_,rfl⟩
set_option maxRecDepth 100000 in
set_option maxHeartbeats 2000000 in
theorem all_Arg {V : Nat} {w : World} {ts : List Bs} (fx : Bool) (g : Ar → Option (List Bs)) (l : List Ar) (lv : Value) (h : Wk V w ts) (hl : l.length ≤ rwM) (hB : Bt w (fun k => k < V) (rowC 43 5 (l.map ctA)) lv)
  (H : ∀ x ∈ l,∀ (W : World) (zs : List Bs) (us : List Value),Wk V W zs → Bts W (fun k => k < V) (ctA x) us → Calls Tryz.prog 93 #[wrV V fx,.agg us.toArray] W (OutB V W (g x) zs)) :
  Calls Tryz.prog 212 #[lv,.func (.func 93) #[wrV V fx] #[]] w (OutB V w (rowW g l) ts):=by
 obtain ⟨a,cp,rfl,_,hr⟩:=brow_at hB ctA_len
 have hV:=Nat.le_of_lt h.lt
 have hl' : l.length ≤ 140737488355328:=hl
 clear hB
 go_enter Tryz.func212,Tryz.ntmps212
 go_wp2
 go_loopw [9] (fun i wr => ∃ (j : Nat) (ys : List Bs),i = .int .i64 (j : Int) ∧ j ≤ l.length ∧ rowW g (l.take j) = some ys ∧ Wk V wr (ts ++ ys) ∧ FrW V w wr) (fun i _ => l.length - (RowKit.intOf i).toNat)
 case atStart => exact ⟨0,[],rfl,Nat.zero_le _,rfl,by rw [List.append_nil];exact h,FrW.refl _ _⟩
 case round =>
  obtain ⟨j,ys,rfl,hj,hy,hW,hF⟩:=hrel
  by_cases hlt : j < l.length
  ·obtain ⟨x,hx⟩ : ∃ x,l[j]? = some x:=⟨_,List.getElem?_eq_getElem hlt⟩
   obtain ⟨b,o,us,rfl,hD,hus,hBt,hc⟩:=hr j x hx
   obtain ⟨s0,z1,s2,a3,n3,m3,a4,n4,m4,rfl⟩:=cells_Arg hBt
   have c0 : wr.cell? ⟨b,o + j * 5,none⟩ = some (.string s0):=(cell_keep (hF.blk hV hD)).trans (hc 0 _ rfl)
   have c1 : wr.cell? ⟨b,o + j * 5 + 1,none⟩ = some (.int .i64 z1):=(cell_keep (hF.blk hV hD)).trans (hc 1 _ rfl)
   have c2 : wr.cell? ⟨b,o + j * 5 + 2,none⟩ = some (.string s2):=(cell_keep (hF.blk hV hD)).trans (hc 2 _ rfl)
   have c3 : wr.cell? ⟨b,o + j * 5 + 3,none⟩ = some (.slice a3 n3 m3):=(cell_keep (hF.blk hV hD)).trans (hc 3 _ rfl)
   have c4 : wr.cell? ⟨b,o + j * 5 + 4,none⟩ = some (.slice a4 n4 m4):=(cell_keep (hF.blk hV hD)).trans (hc 4 _ rfl)
   have CL:=H x (List.mem_of_getElem? hx) (wr.alloc (.cells #[.string s0,.int .i64 z1,.string s2,.slice a3 n3 m3,.slice a4 n4 m4] 43)) (ts ++ ys) [.string s0,.int .i64 z1,.string s2,.slice a3 n3 m3,.slice a4 n4 m4] (hW.al _) ((hBt.frw hF hV).frw (al1V _) (Nat.le_of_lt hW.lt))
   have l1 : ((j : Nat) : Int) < (l.length : Int):=by omega
   have hjN : ((j : Nat) : Int).toNat = j:=by omega
   have hz : Hid (j + 1 ≤ l.length):=hlt
   have HX : Hid (l[j]? = some x):=hx
   have HY : Hid (rowW g (l.take j) = some ys):=hy
   clear hr hx hy hlt hBt H hc
   go_wp2_with (first
    | (go_at_call 93;(with_reducible refine CL.mono ?_);rintro e w2 (⟨hq,rfl,f2⟩ | ⟨us2,hq,rfl,h2,f2⟩);(focus (go_wp2;go_ret;exact outb_last (row_no HY.out HX.out hq) (hF.trans ((al1V _).trans f2)))))
    | fail)
   refine ⟨⟨j + 1,ys ++ us2,by simp,hz.out,row_step HY.out HX.out hq.out,by rw [← List.append_assoc];exact h2,hF.trans ((al1V _).trans f2)⟩,?_⟩
   have:=hz.out
   simp [RowKit.intOf]
   omega
  ·have l2 : decide (((j : Nat) : Int) < (l.length : Int)) = false:=by simp;omega
   have l3 : decide (j < l.length) = false:=by simp;omega
   have hjl : l.take j = l:=List.take_of_length_le (by omega)
   rw [hjl] at hy
   have HY : Hid (rowW g l = some ys):=hy
   clear hr hlt hj H hy
   go_wp2
   go_ret
   exact outb_end HY hW hF
theorem cells_Directive {w : World} {D : Nat → Prop} {x : Dr} {us : List Value} (h : Bts w D (ctD x) us) : ∃ (s0 : ByteArray) (a1 : Option Addr) (n1 m1 : Nat),us = [.string s0,.slice a1 n1 m1]:=by
 skip
 unfold ctD at h
 obtain ⟨_,_,rfl,h0,h⟩:=Bts.inv h
 obtain ⟨_,_,rfl,h1,h⟩:=Bts.inv h
 obtain rfl:=h.inv0
 obtain rfl:=h0.inv_lf
 obtain ⟨a1,n1,m1,rfl⟩:=h1.inv_rw
 exact ⟨_,_,_,_,rfl⟩
set_option maxRecDepth 100000 in
set_option maxHeartbeats 2000000 in
theorem all_Directive {V : Nat} {w : World} {ts : List Bs} (fx : Bool) (g : Dr → Option (List Bs)) (l : List Dr) (lv : Value) (h : Wk V w ts) (hl : l.length ≤ rwM) (hB : Bt w (fun k => k < V) (rowC 102 2 (l.map ctD)) lv)
  (H : ∀ x ∈ l,∀ (W : World) (zs : List Bs) (us : List Value),Wk V W zs → Bts W (fun k => k < V) (ctD x) us → Calls Tryz.prog 118 #[wrV V fx,.agg us.toArray] W (OutB V W (g x) zs)) :
  Calls Tryz.prog 117 #[lv,.func (.func 118) #[wrV V fx] #[]] w (OutB V w (rowW g l) ts):=by
 obtain ⟨a,cp,rfl,_,hr⟩:=brow_at hB ctD_len
 have hV:=Nat.le_of_lt h.lt
 have hl' : l.length ≤ 140737488355328:=hl
 clear hB
 go_enter Tryz.func117,Tryz.ntmps117
 go_wp2
 go_loopw [9] (fun i wr => ∃ (j : Nat) (ys : List Bs),i = .int .i64 (j : Int) ∧ j ≤ l.length ∧ rowW g (l.take j) = some ys ∧ Wk V wr (ts ++ ys) ∧ FrW V w wr) (fun i _ => l.length - (RowKit.intOf i).toNat)
 case atStart => exact ⟨0,[],rfl,Nat.zero_le _,rfl,by rw [List.append_nil];exact h,FrW.refl _ _⟩
 case round =>
  obtain ⟨j,ys,rfl,hj,hy,hW,hF⟩:=hrel
  by_cases hlt : j < l.length
  ·obtain ⟨x,hx⟩ : ∃ x,l[j]? = some x:=⟨_,List.getElem?_eq_getElem hlt⟩
   obtain ⟨b,o,us,rfl,hD,hus,hBt,hc⟩:=hr j x hx
   obtain ⟨s0,a1,n1,m1,rfl⟩:=cells_Directive hBt
   have c0 : wr.cell? ⟨b,o + j * 2,none⟩ = some (.string s0):=(cell_keep (hF.blk hV hD)).trans (hc 0 _ rfl)
   have c1 : wr.cell? ⟨b,o + j * 2 + 1,none⟩ = some (.slice a1 n1 m1):=(cell_keep (hF.blk hV hD)).trans (hc 1 _ rfl)
   have CL:=H x (List.mem_of_getElem? hx) (wr.alloc (.cells #[.string s0,.slice a1 n1 m1] 102)) (ts ++ ys) [.string s0,.slice a1 n1 m1] (hW.al _) ((hBt.frw hF hV).frw (al1V _) (Nat.le_of_lt hW.lt))
   have l1 : ((j : Nat) : Int) < (l.length : Int):=by omega
   have hjN : ((j : Nat) : Int).toNat = j:=by omega
   have hz : Hid (j + 1 ≤ l.length):=hlt
   have HX : Hid (l[j]? = some x):=hx
   have HY : Hid (rowW g (l.take j) = some ys):=hy
   clear hr hx hy hlt hBt H hc
   go_wp2_with (first
    | (go_at_call 118;(with_reducible refine CL.mono ?_);rintro e w2 (⟨hq,rfl,f2⟩ | ⟨us2,hq,rfl,h2,f2⟩);(focus (go_wp2;go_ret;exact outb_last (row_no HY.out HX.out hq) (hF.trans ((al1V _).trans f2)))))
    | fail)
   refine ⟨⟨j + 1,ys ++ us2,by simp,hz.out,row_step HY.out HX.out hq.out,by rw [← List.append_assoc];exact h2,hF.trans ((al1V _).trans f2)⟩,?_⟩
   have:=hz.out
   simp [RowKit.intOf]
   omega
  ·have l2 : decide (((j : Nat) : Int) < (l.length : Int)) = false:=by simp;omega
   have l3 : decide (j < l.length) = false:=by simp;omega
   have hjl : l.take j = l:=List.take_of_length_le (by omega)
   rw [hjl] at hy
   have HY : Hid (rowW g l = some ys):=hy
   clear hr hlt hj H hy
   go_wp2
   go_ret
   exact outb_end HY hW hF
theorem cells_Sel {w : World} {D : Nat → Prop} {x : Se} {us : List Value} (h : Bts w D (ctS x) us) : ∃ (z0 : Int) (s1 : ByteArray) (s2 : ByteArray) (s3 : ByteArray) (a4 : Option Addr) (n4 m4 : Nat) (a5 : Option Addr) (n5 m5 : Nat) (a6 : Option Addr) (n6 m6 : Nat),us = [.int .i64 z0,.string s1,.string s2,.string s3,.slice a4 n4 m4,.slice a5 n5 m5,.slice a6 n6 m6]:=by
 obtain ⟨k,a,n,o,az,ds,ss⟩:=x
 rw [ctS] at h
 obtain ⟨_,_,rfl,h0,h⟩:=Bts.inv h
 obtain ⟨_,_,rfl,h1,h⟩:=Bts.inv h
 obtain ⟨_,_,rfl,h2,h⟩:=Bts.inv h
 obtain ⟨_,_,rfl,h3,h⟩:=Bts.inv h
 obtain ⟨_,_,rfl,h4,h⟩:=Bts.inv h
 obtain ⟨_,_,rfl,h5,h⟩:=Bts.inv h
 obtain ⟨_,_,rfl,h6,h⟩:=Bts.inv h
 obtain rfl:=h.inv0
 obtain rfl:=h0.inv_lf
 obtain rfl:=h1.inv_lf
 obtain rfl:=h2.inv_lf
 obtain rfl:=h3.inv_lf
 obtain ⟨a4,n4,m4,rfl⟩:=h4.inv_rw
 obtain ⟨a5,n5,m5,rfl⟩:=h5.inv_rw
 obtain ⟨a6,n6,m6,rfl⟩:=h6.inv_rw
 exact ⟨_,_,_,_,_,_,_,_,_,_,_,_,_,rfl⟩
set_option maxRecDepth 100000 in
set_option maxHeartbeats 2000000 in
theorem all_Sel {V : Nat} {w : World} {ts : List Bs} (fx : Bool) (g : Se → Option (List Bs)) (l : List Se) (lv : Value) (h : Wk V w ts) (hl : l.length ≤ rwM) (hB : Bt w (fun k => k < V) (rowC 48 7 (l.map ctS)) lv)
  (H : ∀ x ∈ l,∀ (W : World) (zs : List Bs) (us : List Value),Wk V W zs → Bts W (fun k => k < V) (ctS x) us → Calls Tryz.prog 113 #[wrV V fx,.agg us.toArray] W (OutB V W (g x) zs)) :
  Calls Tryz.prog 158 #[lv,.func (.func 113) #[wrV V fx] #[]] w (OutB V w (rowW g l) ts):=by
 obtain ⟨a,cp,rfl,_,hr⟩:=brow_at hB ctS_len
 have hV:=Nat.le_of_lt h.lt
 have hl' : l.length ≤ 140737488355328:=hl
 clear hB
 go_enter Tryz.func158,Tryz.ntmps158
 go_wp2
 go_loopw [9] (fun i wr => ∃ (j : Nat) (ys : List Bs),i = .int .i64 (j : Int) ∧ j ≤ l.length ∧ rowW g (l.take j) = some ys ∧ Wk V wr (ts ++ ys) ∧ FrW V w wr) (fun i _ => l.length - (RowKit.intOf i).toNat)
 case atStart => exact ⟨0,[],rfl,Nat.zero_le _,rfl,by rw [List.append_nil];exact h,FrW.refl _ _⟩
 case round =>
  obtain ⟨j,ys,rfl,hj,hy,hW,hF⟩:=hrel
  by_cases hlt : j < l.length
  ·obtain ⟨x,hx⟩ : ∃ x,l[j]? = some x:=⟨_,List.getElem?_eq_getElem hlt⟩
   obtain ⟨b,o,us,rfl,hD,hus,hBt,hc⟩:=hr j x hx
   obtain ⟨z0,s1,s2,s3,a4,n4,m4,a5,n5,m5,a6,n6,m6,rfl⟩:=cells_Sel hBt
   have c0 : wr.cell? ⟨b,o + j * 7,none⟩ = some (.int .i64 z0):=(cell_keep (hF.blk hV hD)).trans (hc 0 _ rfl)
   have c1 : wr.cell? ⟨b,o + j * 7 + 1,none⟩ = some (.string s1):=(cell_keep (hF.blk hV hD)).trans (hc 1 _ rfl)
   have c2 : wr.cell? ⟨b,o + j * 7 + 2,none⟩ = some (.string s2):=(cell_keep (hF.blk hV hD)).trans (hc 2 _ rfl)
   have c3 : wr.cell? ⟨b,o + j * 7 + 3,none⟩ = some (.string s3):=(cell_keep (hF.blk hV hD)).trans (hc 3 _ rfl)
   have c4 : wr.cell? ⟨b,o + j * 7 + 4,none⟩ = some (.slice a4 n4 m4):=(cell_keep (hF.blk hV hD)).trans (hc 4 _ rfl)
   have c5 : wr.cell? ⟨b,o + j * 7 + 5,none⟩ = some (.slice a5 n5 m5):=(cell_keep (hF.blk hV hD)).trans (hc 5 _ rfl)
   have c6 : wr.cell? ⟨b,o + j * 7 + 6,none⟩ = some (.slice a6 n6 m6):=(cell_keep (hF.blk hV hD)).trans (hc 6 _ rfl)
   have CL:=H x (List.mem_of_getElem? hx) (wr.alloc (.cells #[.int .i64 z0,.string s1,.string s2,.string s3,.slice a4 n4 m4,.slice a5 n5 m5,.slice a6 n6 m6] 48)) (ts ++ ys) [.int .i64 z0,.string s1,.string s2,.string s3,.slice a4 n4 m4,.slice a5 n5 m5,.slice a6 n6 m6] (hW.al _) ((hBt.frw hF hV).frw (al1V _) (Nat.le_of_lt hW.lt))
   have l1 : ((j : Nat) : Int) < (l.length : Int):=by omega
   have hjN : ((j : Nat) : Int).toNat = j:=by omega
   have hz : Hid (j + 1 ≤ l.length):=hlt
   have HX : Hid (l[j]? = some x):=hx
   have HY : Hid (rowW g (l.take j) = some ys):=hy
   clear hr hx hy hlt hBt H hc
   go_wp2_with (first
    | (go_at_call 113;(with_reducible refine CL.mono ?_);rintro e w2 (⟨hq,rfl,f2⟩ | ⟨us2,hq,rfl,h2,f2⟩);(focus (go_wp2;go_ret;exact outb_last (row_no HY.out HX.out hq) (hF.trans ((al1V _).trans f2)))))
    | fail)
   refine ⟨⟨j + 1,ys ++ us2,by simp,hz.out,row_step HY.out HX.out hq.out,by rw [← List.append_assoc];exact h2,hF.trans ((al1V _).trans f2)⟩,?_⟩
   have:=hz.out
   simp [RowKit.intOf]
   omega
  ·have l2 : decide (((j : Nat) : Int) < (l.length : Int)) = false:=by simp;omega
   have l3 : decide (j < l.length) = false:=by simp;omega
   have hjl : l.take j = l:=List.take_of_length_le (by omega)
   rw [hjl] at hy
   have HY : Hid (rowW g l = some ys):=hy
   clear hr hlt hj H hy
   go_wp2
   go_ret
   exact outb_end HY hW hF
theorem cells_Var {w : World} {D : Nat → Prop} {x : Va} {us : List Value} (h : Bts w D (ctX x) us) : ∃ (s0 : ByteArray) (s1 : ByteArray) (s2 : ByteArray) (q3 : Bool) (z4 : Int) (s5 : ByteArray) (a6 : Option Addr) (n6 m6 : Nat) (a7 : Option Addr) (n7 m7 : Nat) (a8 : Option Addr) (n8 m8 : Nat),us = [.string s0,.string s1,.string s2,.bool q3,.int .i64 z4,.string s5,.slice a6 n6 m6,.slice a7 n7 m7,.slice a8 n8 m8]:=by
 obtain ⟨n,t,x,q,⟨k,t2,vs,ns⟩,ds⟩:=x
 rw [ctX,ctV] at h
 obtain ⟨_,_,rfl,h0,h⟩:=Bts.inv h
 obtain ⟨_,_,rfl,h1,h⟩:=Bts.inv h
 obtain ⟨_,_,rfl,h2,h⟩:=Bts.inv h
 obtain ⟨_,_,rfl,h3,h⟩:=Bts.inv h
 obtain ⟨_,_,rfl,h4,h⟩:=Bts.inv h
 obtain ⟨_,_,rfl,h5,h⟩:=Bts.inv h
 obtain ⟨_,_,rfl,h6,h⟩:=Bts.inv h
 obtain ⟨_,_,rfl,h7,h⟩:=Bts.inv h
 obtain ⟨_,_,rfl,h8,h⟩:=Bts.inv h
 obtain rfl:=h.inv0
 obtain rfl:=h0.inv_lf
 obtain rfl:=h1.inv_lf
 obtain rfl:=h2.inv_lf
 obtain rfl:=h3.inv_lf
 obtain rfl:=h4.inv_lf
 obtain rfl:=h5.inv_lf
 obtain ⟨a6,n6,m6,rfl⟩:=h6.inv_rw
 obtain ⟨a7,n7,m7,rfl⟩:=h7.inv_rw
 obtain ⟨a8,n8,m8,rfl⟩:=h8.inv_rw
 exact ⟨_,_,_,_,_,_,_,_,_,_,_,_,_,_,_,rfl⟩
set_option maxRecDepth 100000 in
set_option maxHeartbeats 2000000 in
theorem all_Var {V : Nat} {w : World} {ts : List Bs} (fx : Bool) (g : Va → Option (List Bs)) (l : List Va) (lv : Value) (h : Wk V w ts) (hl : l.length ≤ rwM) (hB : Bt w (fun k => k < V) (rowC 99 9 (l.map ctX)) lv)
  (H : ∀ x ∈ l,∀ (W : World) (zs : List Bs) (us : List Value),Wk V W zs → Bts W (fun k => k < V) (ctX x) us → Calls Tryz.prog 116 #[wrV V fx,.agg us.toArray] W (OutB V W (g x) zs)) :
  Calls Tryz.prog 163 #[lv,.func (.func 116) #[wrV V fx] #[]] w (OutB V w (rowW g l) ts):=by
 obtain ⟨a,cp,rfl,_,hr⟩:=brow_at hB ctX_len
 have hV:=Nat.le_of_lt h.lt
 have hl' : l.length ≤ 140737488355328:=hl
 clear hB
 go_enter Tryz.func163,Tryz.ntmps163
 go_wp2
 go_loopw [9] (fun i wr => ∃ (j : Nat) (ys : List Bs),i = .int .i64 (j : Int) ∧ j ≤ l.length ∧ rowW g (l.take j) = some ys ∧ Wk V wr (ts ++ ys) ∧ FrW V w wr) (fun i _ => l.length - (RowKit.intOf i).toNat)
 case atStart => exact ⟨0,[],rfl,Nat.zero_le _,rfl,by rw [List.append_nil];exact h,FrW.refl _ _⟩
 case round =>
  obtain ⟨j,ys,rfl,hj,hy,hW,hF⟩:=hrel
  by_cases hlt : j < l.length
  ·obtain ⟨x,hx⟩ : ∃ x,l[j]? = some x:=⟨_,List.getElem?_eq_getElem hlt⟩
   obtain ⟨b,o,us,rfl,hD,hus,hBt,hc⟩:=hr j x hx
   obtain ⟨s0,s1,s2,q3,z4,s5,a6,n6,m6,a7,n7,m7,a8,n8,m8,rfl⟩:=cells_Var hBt
   have c0 : wr.cell? ⟨b,o + j * 9,none⟩ = some (.string s0):=(cell_keep (hF.blk hV hD)).trans (hc 0 _ rfl)
   have c1 : wr.cell? ⟨b,o + j * 9 + 1,none⟩ = some (.string s1):=(cell_keep (hF.blk hV hD)).trans (hc 1 _ rfl)
   have c2 : wr.cell? ⟨b,o + j * 9 + 2,none⟩ = some (.string s2):=(cell_keep (hF.blk hV hD)).trans (hc 2 _ rfl)
   have c3 : wr.cell? ⟨b,o + j * 9 + 3,none⟩ = some (.bool q3):=(cell_keep (hF.blk hV hD)).trans (hc 3 _ rfl)
   have c4 : wr.cell? ⟨b,o + j * 9 + 4,none⟩ = some (.int .i64 z4):=(cell_keep (hF.blk hV hD)).trans (hc 4 _ rfl)
   have c5 : wr.cell? ⟨b,o + j * 9 + 5,none⟩ = some (.string s5):=(cell_keep (hF.blk hV hD)).trans (hc 5 _ rfl)
   have c6 : wr.cell? ⟨b,o + j * 9 + 6,none⟩ = some (.slice a6 n6 m6):=(cell_keep (hF.blk hV hD)).trans (hc 6 _ rfl)
   have c7 : wr.cell? ⟨b,o + j * 9 + 7,none⟩ = some (.slice a7 n7 m7):=(cell_keep (hF.blk hV hD)).trans (hc 7 _ rfl)
   have c8 : wr.cell? ⟨b,o + j * 9 + 8,none⟩ = some (.slice a8 n8 m8):=(cell_keep (hF.blk hV hD)).trans (hc 8 _ rfl)
   have CL:=H x (List.mem_of_getElem? hx) (wr.alloc (.cells #[.string s0,.string s1,.string s2,.bool q3,.int .i64 z4,.string s5,.slice a6 n6 m6,.slice a7 n7 m7,.slice a8 n8 m8] 99)) (ts ++ ys) [.string s0,.string s1,.string s2,.bool q3,.int .i64 z4,.string s5,.slice a6 n6 m6,.slice a7 n7 m7,.slice a8 n8 m8] (hW.al _) ((hBt.frw hF hV).frw (al1V _) (Nat.le_of_lt hW.lt))
   have l1 : ((j : Nat) : Int) < (l.length : Int):=by omega
   have hjN : ((j : Nat) : Int).toNat = j:=by omega
   have hz : Hid (j + 1 ≤ l.length):=hlt
   have HX : Hid (l[j]? = some x):=hx
   have HY : Hid (rowW g (l.take j) = some ys):=hy
   clear hr hx hy hlt hBt H hc
   go_wp2_with (first
    | (go_at_call 116;(with_reducible refine CL.mono ?_);rintro e w2 (⟨hq,rfl,f2⟩ | ⟨us2,hq,rfl,h2,f2⟩);(focus (go_wp2;go_ret;exact outb_last (row_no HY.out HX.out hq) (hF.trans ((al1V _).trans f2)))))
    | fail)
   refine ⟨⟨j + 1,ys ++ us2,by simp,hz.out,row_step HY.out HX.out hq.out,by rw [← List.append_assoc];exact h2,hF.trans ((al1V _).trans f2)⟩,?_⟩
   have:=hz.out
   simp [RowKit.intOf]
   omega
  ·have l2 : decide (((j : Nat) : Int) < (l.length : Int)) = false:=by simp;omega
   have l3 : decide (j < l.length) = false:=by simp;omega
   have hjl : l.take j = l:=List.take_of_length_le (by omega)
   rw [hjl] at hy
   have HY : Hid (rowW g l = some ys):=hy
   clear hr hlt hj H hy
   go_wp2
   go_ret
   exact outb_end HY hW hF
theorem cells_Op {w : World} {D : Nat → Prop} {x : Oq} {us : List Value} (h : Bts w D (ctO x) us) : ∃ (z0 : Int) (s1 : ByteArray) (a2 : Option Addr) (n2 m2 : Nat) (a3 : Option Addr) (n3 m3 : Nat) (a4 : Option Addr) (n4 m4 : Nat),us = [.int .i64 z0,.string s1,.slice a2 n2 m2,.slice a3 n3 m3,.slice a4 n4 m4]:=by
 skip
 unfold ctO at h
 obtain ⟨_,_,rfl,h0,h⟩:=Bts.inv h
 obtain ⟨_,_,rfl,h1,h⟩:=Bts.inv h
 obtain ⟨_,_,rfl,h2,h⟩:=Bts.inv h
 obtain ⟨_,_,rfl,h3,h⟩:=Bts.inv h
 obtain ⟨_,_,rfl,h4,h⟩:=Bts.inv h
 obtain rfl:=h.inv0
 obtain rfl:=h0.inv_lf
 obtain rfl:=h1.inv_lf
 obtain ⟨a2,n2,m2,rfl⟩:=h2.inv_rw
 obtain ⟨a3,n3,m3,rfl⟩:=h3.inv_rw
 obtain ⟨a4,n4,m4,rfl⟩:=h4.inv_rw
 exact ⟨_,_,_,_,_,_,_,_,_,_,_,rfl⟩
set_option maxRecDepth 100000 in
set_option maxHeartbeats 2000000 in
theorem all_Op {V : Nat} {w : World} {ts : List Bs} (fx : Bool) (g : Oq → Option (List Bs)) (l : List Oq) (lv : Value) (h : Wk V w ts) (hl : l.length ≤ rwM) (hB : Bt w (fun k => k < V) (rowC 51 5 (l.map ctO)) lv)
  (H : ∀ x ∈ l,∀ (W : World) (zs : List Bs) (us : List Value),Wk V W zs → Bts W (fun k => k < V) (ctO x) us → Calls Tryz.prog 41 #[wrV V fx,.agg us.toArray] W (OutB V W (g x) zs)) :
  Calls Tryz.prog 40 #[lv,.func (.func 41) #[wrV V fx] #[]] w (OutB V w (rowW g l) ts):=by
 obtain ⟨a,cp,rfl,_,hr⟩:=brow_at hB ctO_len
 have hV:=Nat.le_of_lt h.lt
 have hl' : l.length ≤ 140737488355328:=hl
 clear hB
 go_enter Tryz.func40,Tryz.ntmps40
 go_wp2
 go_loopw [9] (fun i wr => ∃ (j : Nat) (ys : List Bs),i = .int .i64 (j : Int) ∧ j ≤ l.length ∧ rowW g (l.take j) = some ys ∧ Wk V wr (ts ++ ys) ∧ FrW V w wr) (fun i _ => l.length - (RowKit.intOf i).toNat)
 case atStart => exact ⟨0,[],rfl,Nat.zero_le _,rfl,by rw [List.append_nil];exact h,FrW.refl _ _⟩
 case round =>
  obtain ⟨j,ys,rfl,hj,hy,hW,hF⟩:=hrel
  by_cases hlt : j < l.length
  ·obtain ⟨x,hx⟩ : ∃ x,l[j]? = some x:=⟨_,List.getElem?_eq_getElem hlt⟩
   obtain ⟨b,o,us,rfl,hD,hus,hBt,hc⟩:=hr j x hx
   obtain ⟨z0,s1,a2,n2,m2,a3,n3,m3,a4,n4,m4,rfl⟩:=cells_Op hBt
   have c0 : wr.cell? ⟨b,o + j * 5,none⟩ = some (.int .i64 z0):=(cell_keep (hF.blk hV hD)).trans (hc 0 _ rfl)
   have c1 : wr.cell? ⟨b,o + j * 5 + 1,none⟩ = some (.string s1):=(cell_keep (hF.blk hV hD)).trans (hc 1 _ rfl)
   have c2 : wr.cell? ⟨b,o + j * 5 + 2,none⟩ = some (.slice a2 n2 m2):=(cell_keep (hF.blk hV hD)).trans (hc 2 _ rfl)
   have c3 : wr.cell? ⟨b,o + j * 5 + 3,none⟩ = some (.slice a3 n3 m3):=(cell_keep (hF.blk hV hD)).trans (hc 3 _ rfl)
   have c4 : wr.cell? ⟨b,o + j * 5 + 4,none⟩ = some (.slice a4 n4 m4):=(cell_keep (hF.blk hV hD)).trans (hc 4 _ rfl)
   have CL:=H x (List.mem_of_getElem? hx) (wr.alloc (.cells #[.int .i64 z0,.string s1,.slice a2 n2 m2,.slice a3 n3 m3,.slice a4 n4 m4] 51)) (ts ++ ys) [.int .i64 z0,.string s1,.slice a2 n2 m2,.slice a3 n3 m3,.slice a4 n4 m4] (hW.al _) ((hBt.frw hF hV).frw (al1V _) (Nat.le_of_lt hW.lt))
   have l1 : ((j : Nat) : Int) < (l.length : Int):=by omega
   have hjN : ((j : Nat) : Int).toNat = j:=by omega
   have hz : Hid (j + 1 ≤ l.length):=hlt
   have HX : Hid (l[j]? = some x):=hx
   have HY : Hid (rowW g (l.take j) = some ys):=hy
   clear hr hx hy hlt hBt H hc
   go_wp2_with (first
    | (go_at_call 41;(with_reducible refine CL.mono ?_);rintro e w2 (⟨hq,rfl,f2⟩ | ⟨us2,hq,rfl,h2,f2⟩);(focus (go_wp2;go_ret;exact outb_last (row_no HY.out HX.out hq) (hF.trans ((al1V _).trans f2)))))
    | fail)
   refine ⟨⟨j + 1,ys ++ us2,by simp,hz.out,row_step HY.out HX.out hq.out,by rw [← List.append_assoc];exact h2,hF.trans ((al1V _).trans f2)⟩,?_⟩
   have:=hz.out
   simp [RowKit.intOf]
   omega
  ·have l2 : decide (((j : Nat) : Int) < (l.length : Int)) = false:=by simp;omega
   have l3 : decide (j < l.length) = false:=by simp;omega
   have hjl : l.take j = l:=List.take_of_length_le (by omega)
   rw [hjl] at hy
   have HY : Hid (rowW g l = some ys):=hy
   clear hr hlt hj H hy
   go_wp2
   go_ret
   exact outb_end HY hW hF
theorem cells_Frag {w : World} {D : Nat → Prop} {x : Fg} {us : List Value} (h : Bts w D (ctF x) us) : ∃ (s0 : ByteArray) (s1 : ByteArray) (a2 : Option Addr) (n2 m2 : Nat) (a3 : Option Addr) (n3 m3 : Nat),us = [.string s0,.string s1,.slice a2 n2 m2,.slice a3 n3 m3]:=by
 skip
 unfold ctF at h
 obtain ⟨_,_,rfl,h0,h⟩:=Bts.inv h
 obtain ⟨_,_,rfl,h1,h⟩:=Bts.inv h
 obtain ⟨_,_,rfl,h2,h⟩:=Bts.inv h
 obtain ⟨_,_,rfl,h3,h⟩:=Bts.inv h
 obtain rfl:=h.inv0
 obtain rfl:=h0.inv_lf
 obtain rfl:=h1.inv_lf
 obtain ⟨a2,n2,m2,rfl⟩:=h2.inv_rw
 obtain ⟨a3,n3,m3,rfl⟩:=h3.inv_rw
 exact ⟨_,_,_,_,_,_,_,_,rfl⟩
set_option maxRecDepth 100000 in
set_option maxHeartbeats 2000000 in
theorem all_Frag {V : Nat} {w : World} {ts : List Bs} (fx : Bool) (g : Fg → Option (List Bs)) (l : List Fg) (lv : Value) (h : Wk V w ts) (hl : l.length ≤ rwM) (hB : Bt w (fun k => k < V) (rowC 65 4 (l.map ctF)) lv)
  (H : ∀ x ∈ l,∀ (W : World) (zs : List Bs) (us : List Value),Wk V W zs → Bts W (fun k => k < V) (ctF x) us → Calls Tryz.prog 43 #[wrV V fx,.agg us.toArray] W (OutB V W (g x) zs)) :
  Calls Tryz.prog 42 #[lv,.func (.func 43) #[wrV V fx] #[]] w (OutB V w (rowW g l) ts):=by
 obtain ⟨a,cp,rfl,_,hr⟩:=brow_at hB ctF_len
 have hV:=Nat.le_of_lt h.lt
 have hl' : l.length ≤ 140737488355328:=hl
 clear hB
 go_enter Tryz.func42,Tryz.ntmps42
 go_wp2
 go_loopw [9] (fun i wr => ∃ (j : Nat) (ys : List Bs),i = .int .i64 (j : Int) ∧ j ≤ l.length ∧ rowW g (l.take j) = some ys ∧ Wk V wr (ts ++ ys) ∧ FrW V w wr) (fun i _ => l.length - (RowKit.intOf i).toNat)
 case atStart => exact ⟨0,[],rfl,Nat.zero_le _,rfl,by rw [List.append_nil];exact h,FrW.refl _ _⟩
 case round =>
  obtain ⟨j,ys,rfl,hj,hy,hW,hF⟩:=hrel
  by_cases hlt : j < l.length
  ·obtain ⟨x,hx⟩ : ∃ x,l[j]? = some x:=⟨_,List.getElem?_eq_getElem hlt⟩
   obtain ⟨b,o,us,rfl,hD,hus,hBt,hc⟩:=hr j x hx
   obtain ⟨s0,s1,a2,n2,m2,a3,n3,m3,rfl⟩:=cells_Frag hBt
   have c0 : wr.cell? ⟨b,o + j * 4,none⟩ = some (.string s0):=(cell_keep (hF.blk hV hD)).trans (hc 0 _ rfl)
   have c1 : wr.cell? ⟨b,o + j * 4 + 1,none⟩ = some (.string s1):=(cell_keep (hF.blk hV hD)).trans (hc 1 _ rfl)
   have c2 : wr.cell? ⟨b,o + j * 4 + 2,none⟩ = some (.slice a2 n2 m2):=(cell_keep (hF.blk hV hD)).trans (hc 2 _ rfl)
   have c3 : wr.cell? ⟨b,o + j * 4 + 3,none⟩ = some (.slice a3 n3 m3):=(cell_keep (hF.blk hV hD)).trans (hc 3 _ rfl)
   have CL:=H x (List.mem_of_getElem? hx) (wr.alloc (.cells #[.string s0,.string s1,.slice a2 n2 m2,.slice a3 n3 m3] 65)) (ts ++ ys) [.string s0,.string s1,.slice a2 n2 m2,.slice a3 n3 m3] (hW.al _) ((hBt.frw hF hV).frw (al1V _) (Nat.le_of_lt hW.lt))
   have l1 : ((j : Nat) : Int) < (l.length : Int):=by omega
   have hjN : ((j : Nat) : Int).toNat = j:=by omega
   have hz : Hid (j + 1 ≤ l.length):=hlt
   have HX : Hid (l[j]? = some x):=hx
   have HY : Hid (rowW g (l.take j) = some ys):=hy
   clear hr hx hy hlt hBt H hc
   go_wp2_with (first
    | (go_at_call 43;(with_reducible refine CL.mono ?_);rintro e w2 (⟨hq,rfl,f2⟩ | ⟨us2,hq,rfl,h2,f2⟩);(focus (go_wp2;go_ret;exact outb_last (row_no HY.out HX.out hq) (hF.trans ((al1V _).trans f2)))))
    | fail)
   refine ⟨⟨j + 1,ys ++ us2,by simp,hz.out,row_step HY.out HX.out hq.out,by rw [← List.append_assoc];exact h2,hF.trans ((al1V _).trans f2)⟩,?_⟩
   have:=hz.out
   simp [RowKit.intOf]
   omega
  ·have l2 : decide (((j : Nat) : Int) < (l.length : Int)) = false:=by simp;omega
   have l3 : decide (j < l.length) = false:=by simp;omega
   have hjl : l.take j = l:=List.take_of_length_le (by omega)
   rw [hjl] at hy
   have HY : Hid (rowW g l = some ys):=hy
   clear hr hlt hj H hy
   go_wp2
   go_ret
   exact outb_end HY hW hF
set_option maxRecDepth 100000 in
set_option maxHeartbeats 2000000 in
theorem within_Value {V : Nat} {w : World} {ts : List Bs} (fx : Bool) (g : Vl → Option (List Bs)) (l : List Vl) (lv : Value) (c d : Bs) (h : Wk V w ts) (hl : l.length ≤ rwM) (hc : c.length ≤ txM) (hd : d.length ≤ txM) (hB : Bt w (fun k => k < V) (rowC 35 4 (l.map ctV)) lv)
  (H : ∀ x ∈ l,∀ (W : World) (zs : List Bs) (us : List Value),Wk V W zs → Bts W (fun k => k < V) (ctV x) us → Calls Tryz.prog 29 #[wrV V fx,.agg us.toArray] W (OutB V W (g x) zs)) :
  Calls Tryz.prog 55 #[putV V,.string ⟨c.toArray⟩,lv,.func (.func 29) #[wrV V fx] #[],.string ⟨d.toArray⟩] w (OutB V w (inW c (rowW g l) d) ts):=by
 have hV:=Nat.le_of_lt h.lt
 unfold inW
 go_enter Tryz.func55,Tryz.ntmps55
 go_wp2_with (first
  | (go_at_call 18;(with_reducible refine (put_any d h2 hd).mono ?_);rintro e w3 (⟨hq3,rfl,f3⟩ | ⟨us3,hq3,rfl,h3,f3⟩);(focus (go_wp2;go_ret;exact OutB.seq hq1 f1 (OutB.seq hq2 f2 (outb_last hq3 f3)))))
  | (go_at_call 92;(with_reducible refine (all_Value fx g l lv h1 hl (hB.frw f1 hV) H).mono ?_);rintro e w2 (⟨hq2,rfl,f2⟩ | ⟨us2,hq2,rfl,h2,f2⟩);(focus (go_wp2;go_ret;exact OutB.seq hq1 f1 (outb_no hq2 f2))))
  | (go_at_call 18;(with_reducible refine (put_any c h hc).mono ?_);rintro e w1 (⟨hq1,rfl,f1⟩ | ⟨us1,hq1,rfl,h1,f1⟩);(focus (go_wp2;go_ret;exact outb_no hq1 f1)))
  | fail)
 go_ret
 exact OutB.seq hq1 f1 (OutB.seq hq2 f2 (outb_end hq3 h3 f3))
set_option maxRecDepth 100000 in
set_option maxHeartbeats 2000000 in
theorem within_Arg {V : Nat} {w : World} {ts : List Bs} (fx : Bool) (g : Ar → Option (List Bs)) (l : List Ar) (lv : Value) (c d : Bs) (h : Wk V w ts) (hl : l.length ≤ rwM) (hc : c.length ≤ txM) (hd : d.length ≤ txM) (hB : Bt w (fun k => k < V) (rowC 43 5 (l.map ctA)) lv)
  (H : ∀ x ∈ l,∀ (W : World) (zs : List Bs) (us : List Value),Wk V W zs → Bts W (fun k => k < V) (ctA x) us → Calls Tryz.prog 93 #[wrV V fx,.agg us.toArray] W (OutB V W (g x) zs)) :
  Calls Tryz.prog 194 #[putV V,.string ⟨c.toArray⟩,lv,.func (.func 93) #[wrV V fx] #[],.string ⟨d.toArray⟩] w (OutB V w (inW c (rowW g l) d) ts):=by
 have hV:=Nat.le_of_lt h.lt
 unfold inW
 go_enter Tryz.func194,Tryz.ntmps194
 go_wp2_with (first
  | (go_at_call 18;(with_reducible refine (put_any d h2 hd).mono ?_);rintro e w3 (⟨hq3,rfl,f3⟩ | ⟨us3,hq3,rfl,h3,f3⟩);(focus (go_wp2;go_ret;exact OutB.seq hq1 f1 (OutB.seq hq2 f2 (outb_last hq3 f3)))))
  | (go_at_call 212;(with_reducible refine (all_Arg fx g l lv h1 hl (hB.frw f1 hV) H).mono ?_);rintro e w2 (⟨hq2,rfl,f2⟩ | ⟨us2,hq2,rfl,h2,f2⟩);(focus (go_wp2;go_ret;exact OutB.seq hq1 f1 (outb_no hq2 f2))))
  | (go_at_call 18;(with_reducible refine (put_any c h hc).mono ?_);rintro e w1 (⟨hq1,rfl,f1⟩ | ⟨us1,hq1,rfl,h1,f1⟩);(focus (go_wp2;go_ret;exact outb_no hq1 f1)))
  | fail)
 go_ret
 exact OutB.seq hq1 f1 (OutB.seq hq2 f2 (outb_end hq3 h3 f3))
set_option maxRecDepth 100000 in
set_option maxHeartbeats 2000000 in
theorem within_Sel {V : Nat} {w : World} {ts : List Bs} (fx : Bool) (g : Se → Option (List Bs)) (l : List Se) (lv : Value) (c d : Bs) (h : Wk V w ts) (hl : l.length ≤ rwM) (hc : c.length ≤ txM) (hd : d.length ≤ txM) (hB : Bt w (fun k => k < V) (rowC 48 7 (l.map ctS)) lv)
  (H : ∀ x ∈ l,∀ (W : World) (zs : List Bs) (us : List Value),Wk V W zs → Bts W (fun k => k < V) (ctS x) us → Calls Tryz.prog 113 #[wrV V fx,.agg us.toArray] W (OutB V W (g x) zs)) :
  Calls Tryz.prog 112 #[putV V,.string ⟨c.toArray⟩,lv,.func (.func 113) #[wrV V fx] #[],.string ⟨d.toArray⟩] w (OutB V w (inW c (rowW g l) d) ts):=by
 have hV:=Nat.le_of_lt h.lt
 unfold inW
 go_enter Tryz.func112,Tryz.ntmps112
 go_wp2_with (first
  | (go_at_call 18;(with_reducible refine (put_any d h2 hd).mono ?_);rintro e w3 (⟨hq3,rfl,f3⟩ | ⟨us3,hq3,rfl,h3,f3⟩);(focus (go_wp2;go_ret;exact OutB.seq hq1 f1 (OutB.seq hq2 f2 (outb_last hq3 f3)))))
  | (go_at_call 158;(with_reducible refine (all_Sel fx g l lv h1 hl (hB.frw f1 hV) H).mono ?_);rintro e w2 (⟨hq2,rfl,f2⟩ | ⟨us2,hq2,rfl,h2,f2⟩);(focus (go_wp2;go_ret;exact OutB.seq hq1 f1 (outb_no hq2 f2))))
  | (go_at_call 18;(with_reducible refine (put_any c h hc).mono ?_);rintro e w1 (⟨hq1,rfl,f1⟩ | ⟨us1,hq1,rfl,h1,f1⟩);(focus (go_wp2;go_ret;exact outb_no hq1 f1)))
  | fail)
 go_ret
 exact OutB.seq hq1 f1 (OutB.seq hq2 f2 (outb_end hq3 h3 f3))
set_option maxRecDepth 100000 in
set_option maxHeartbeats 2000000 in
theorem within_Var {V : Nat} {w : World} {ts : List Bs} (fx : Bool) (g : Va → Option (List Bs)) (l : List Va) (lv : Value) (c d : Bs) (h : Wk V w ts) (hl : l.length ≤ rwM) (hc : c.length ≤ txM) (hd : d.length ≤ txM) (hB : Bt w (fun k => k < V) (rowC 99 9 (l.map ctX)) lv)
  (H : ∀ x ∈ l,∀ (W : World) (zs : List Bs) (us : List Value),Wk V W zs → Bts W (fun k => k < V) (ctX x) us → Calls Tryz.prog 116 #[wrV V fx,.agg us.toArray] W (OutB V W (g x) zs)) :
  Calls Tryz.prog 115 #[putV V,.string ⟨c.toArray⟩,lv,.func (.func 116) #[wrV V fx] #[],.string ⟨d.toArray⟩] w (OutB V w (inW c (rowW g l) d) ts):=by
 have hV:=Nat.le_of_lt h.lt
 unfold inW
 go_enter Tryz.func115,Tryz.ntmps115
 go_wp2_with (first
  | (go_at_call 18;(with_reducible refine (put_any d h2 hd).mono ?_);rintro e w3 (⟨hq3,rfl,f3⟩ | ⟨us3,hq3,rfl,h3,f3⟩);(focus (go_wp2;go_ret;exact OutB.seq hq1 f1 (OutB.seq hq2 f2 (outb_last hq3 f3)))))
  | (go_at_call 163;(with_reducible refine (all_Var fx g l lv h1 hl (hB.frw f1 hV) H).mono ?_);rintro e w2 (⟨hq2,rfl,f2⟩ | ⟨us2,hq2,rfl,h2,f2⟩);(focus (go_wp2;go_ret;exact OutB.seq hq1 f1 (outb_no hq2 f2))))
  | (go_at_call 18;(with_reducible refine (put_any c h hc).mono ?_);rintro e w1 (⟨hq1,rfl,f1⟩ | ⟨us1,hq1,rfl,h1,f1⟩);(focus (go_wp2;go_ret;exact outb_no hq1 f1)))
  | fail)
 go_ret
 exact OutB.seq hq1 f1 (OutB.seq hq2 f2 (outb_end hq3 h3 f3))
end Go.Proofs.YtgmlbjfgfmfliaaGreatDoor
