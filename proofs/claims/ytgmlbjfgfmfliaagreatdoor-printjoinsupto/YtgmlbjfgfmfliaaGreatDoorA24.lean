/- The writer of documents: each kind of selection. -/
import Derived.Test.YtgmlbjfgfmfliaaGreatDoorA23
namespace Go.Proofs.YtgmlbjfgfmfliaaGreatDoor
open Go Go.RowKit Go.Shelf
set_option maxRecDepth 100000 in
set_option maxHeartbeats 4000000 in
theorem wargs_0 {V : Nat} {w : World} {ts : List Bs} (fx : Bool) (a : Option Addr) (c : Nat) (h : Wk V w ts) : Calls Tryz.prog 166 #[wrV V fx,.slice a 0 c] w (OutB V w (some []) ts):=by
 obtain ⟨w0,hw0⟩ : ∃ w0,w0 = w.alloc (boxW V fx):=⟨_,rfl⟩
 have h0 : Wk V w0 ts:=by rw [hw0];exact h.al _
 have f0 : FrW V w w0:=by rw [hw0];exact al1V _
 go_enter Tryz.func166,Tryz.ntmps166
 go_wp2
 go_ret
 rw [← hw0]
 exact outb_skip h0 f0
set_option maxRecDepth 100000 in
set_option maxHeartbeats 4000000 in
theorem wargs_1 {V : Nat} {w : World} {ts : List Bs} (fx : Bool) (n : Nat) (az : List Ar) (a : Option Addr) (c : Nat) (h : Wk V w ts) (L : ArsL az) (hn : n ≠ 0) (hA : AsAt w (fun k => k < V) (.slice a n c) az) : Calls Tryz.prog 166 #[wrV V fx,.slice a n c] w (OutB V w (inW [40] (rowW (argW fx) az) [41]) ts):=by
 obtain ⟨w0,hw0⟩ : ∃ w0,w0 = w.alloc (boxW V fx):=⟨_,rfl⟩
 have h0 : Wk V w0 ts:=by rw [hw0];exact h.al _
 have f0 : FrW V w w0:=by rw [hw0];exact al1V _
 have hV:=Nat.le_of_lt h.lt
 have hV0:=Nat.le_of_lt h0.lt
 have F0 : FrW V w0 w0:=FrW.refl _ _
 have A : Hid (∀ W,FrW V w0 W → W.heap[w.heap.size]? = some (.cells #[putV V,.bool fx] 56 (0,0)) ∧ True):=fun W F => ⟨box1 (by rw [← hw0];exact F) h.lt,trivial⟩
 obtain ⟨L1,L2⟩:=L
 have HH : ∀ x ∈ az,∀ (W : World) (zs : List Bs) (us : List Value),Wk V W zs → Bts W (fun k => k < V) (ctA x) us → Calls Tryz.prog 93 #[wrV V fx,.agg us.toArray] W (OutB V W (argW fx x) zs):=fun x hx W zs us hW hB => warg_any fx x us hW (L2 x hx) hB
 have hA0:=hA.frw f0 hV
 have l1 : (((n : Nat) : Int) == 0) = false:=by rw [beq_eq_false_iff_ne];omega
 go_enter Tryz.func166,Tryz.ntmps166
 go_wp2_with (first
  | (go_at_call 194;rw [← hw0];(with_reducible refine (within_Arg fx (argW fx) az (.slice a n c) [40] [41] h0 L1 (by decide) (by decide) hA0 HH).mono ?_);rintro e w1 (⟨hq1,rfl,f1⟩ | ⟨us1,hq1,rfl,h1,f1⟩);(focus (go_wp2;go_ret;exact (outb_last hq1 f1).mono0 f0)))
  | fail)
 go_ret
 exact (outb_end hq1 h1 f1).mono0 f0
theorem wargs_any {V : Nat} {w : World} {ts : List Bs} (fx : Bool) (az : List Ar) (lv : Value) (h : Wk V w ts) (L : ArsL az) (hA : AsAt w (fun k => k < V) lv az) : Calls Tryz.prog 166 #[wrV V fx,lv] w (OutB V w (argsW fx az) ts):=by
 obtain ⟨a,c,rfl⟩:=row_sl hA
 unfold argsW
 by_cases h0 : az = []
 ·subst h0
  rw [if_pos rfl]
  exact wargs_0 fx a c h
 ·rw [if_neg h0]
  exact wargs_1 fx az.length az a c h L (fun e => h0 (List.length_eq_zero_iff.1 e)) hA
set_option maxRecDepth 100000 in
set_option maxHeartbeats 4000000 in
theorem wdirective_of {V : Nat} {w : World} {ts : List Bs} (fx : Bool) (x : Dr) (n : Nat) (a : Option Addr) (c : Nat) (h : Wk V w ts) (L : DrL x) (hA : AsAt w (fun k => k < V) (.slice a n c) x.az) : Calls Tryz.prog 118 #[wrV V fx,.agg #[.string ⟨x.n.toArray⟩,.slice a n c]] w (OutB V w (dirW fx x) ts):=by
 unfold dirW
 obtain ⟨w0,hw0⟩ : ∃ w0,w0 = (w.alloc (boxW V fx)).alloc (.cells #[.string ⟨x.n.toArray⟩,.slice a n c] 102):=⟨_,rfl⟩
 have h0 : Wk V w0 ts:=by rw [hw0];exact (h.al _).al _
 have f0 : FrW V w w0:=by rw [hw0];exact (al1V _).trans (al1V _)
 have hV:=Nat.le_of_lt h.lt
 have hV0:=Nat.le_of_lt h0.lt
 have F0 : FrW V w0 w0:=FrW.refl _ _
 have A : Hid (∀ W,FrW V w0 W → W.heap[w.heap.size]? = some (.cells #[putV V,.bool fx] 56 (0,0)) ∧ W.heap[w.heap.size + 1]? = some (.cells #[.string ⟨x.n.toArray⟩,.slice a n c] 102 (0,0))):=fun W F => box2 (by rw [← hw0];exact F) h.lt (by decide)
 obtain ⟨L1,L2⟩:=L
 have hA0:=hA.frw f0 hV
 go_enter Tryz.func118,Tryz.ntmps118
 go_wp2_with (first
  | (go_at_call 166;(with_reducible refine (wargs_any fx x.az (.slice a n c) h2 L2 (hA0.frw F2 hV0)).mono ?_);rintro e w3 (⟨hq3,rfl,f3⟩ | ⟨us3,hq3,rfl,h3,f3⟩);(focus (go_wp2;go_ret;exact (OutB.seq hq1 f1 (OutB.seq hq2 f2 (outb_last hq3 f3))).mono0 f0)))
  | (go_at_call 73;(with_reducible refine (wname_any fx x.n h1 L1).mono ?_);rintro e w2 (⟨hq2,rfl,f2⟩ | ⟨us2,hq2,rfl,h2,f2⟩);(focus (go_wp2;go_ret;exact (OutB.seq hq1 f1 (outb_no hq2 f2)).mono0 f0));have F2 : FrW V w0 w2:=F1.trans f2;obtain ⟨P2,Q2⟩:=A.out _ F2;obtain ⟨p20,p21,_⟩:=row2 P2;obtain ⟨q20,q21,_⟩:=row2 Q2)
  | (go_at_call 18;rw [← hw0];(with_reducible refine (put_any [64] h0 (by decide)).mono ?_);rintro e w1 (⟨hq1,rfl,f1⟩ | ⟨us1,hq1,rfl,h1,f1⟩);(focus (go_wp2;go_ret;exact (outb_no hq1 f1).mono0 f0));have F1 : FrW V w0 w1:=F0.trans f1;obtain ⟨P1,Q1⟩:=A.out _ F1;obtain ⟨p10,p11,_⟩:=row2 P1;obtain ⟨q10,q11,_⟩:=row2 Q1)
  | fail)
 go_ret
 exact (OutB.seq hq1 f1 (OutB.seq hq2 f2 (outb_end hq3 h3 f3))).mono0 f0
theorem wdirective_any {V : Nat} {w : World} {ts : List Bs} (fx : Bool) (x : Dr) (us : List Value) (h : Wk V w ts) (L : DrL x) (hB : Bts w (fun k => k < V) (ctD x) us) : Calls Tryz.prog 118 #[wrV V fx,.agg us.toArray] w (OutB V w (dirW fx x) ts):=by
 obtain ⟨a,c,rfl,hA⟩:=dir_cells hB
 exact wdirective_of fx x _ a c h L hA
set_option maxRecDepth 100000 in
set_option maxHeartbeats 4000000 in
theorem wdirectives_of {V : Nat} {w : World} {ts : List Bs} (fx : Bool) (ds : List Dr) (n : Nat) (a : Option Addr) (c : Nat) (h : Wk V w ts) (L : DrsL ds) (hA : DsAt w (fun k => k < V) (.slice a n c) ds) : Calls Tryz.prog 75 #[wrV V fx,.slice a n c] w (OutB V w (dirsW fx ds) ts):=by
 unfold dirsW
 obtain ⟨w0,hw0⟩ : ∃ w0,w0 = w.alloc (boxW V fx):=⟨_,rfl⟩
 have h0 : Wk V w0 ts:=by rw [hw0];exact h.al _
 have f0 : FrW V w w0:=by rw [hw0];exact al1V _
 have hV:=Nat.le_of_lt h.lt
 have hV0:=Nat.le_of_lt h0.lt
 have F0 : FrW V w0 w0:=FrW.refl _ _
 have A : Hid (∀ W,FrW V w0 W → W.heap[w.heap.size]? = some (.cells #[putV V,.bool fx] 56 (0,0)) ∧ True):=fun W F => ⟨box1 (by rw [← hw0];exact F) h.lt,trivial⟩
 obtain ⟨L1,L2⟩:=L
 have HH : ∀ x ∈ ds,∀ (W : World) (zs : List Bs) (us : List Value),Wk V W zs → Bts W (fun k => k < V) (ctD x) us → Calls Tryz.prog 118 #[wrV V fx,.agg us.toArray] W (OutB V W (dirW fx x) zs):=fun x hx W zs us hW hB => wdirective_any fx x us hW (L2 x hx) hB
 have hA0:=hA.frw f0 hV
 go_enter Tryz.func75,Tryz.ntmps75
 go_wp2_with (first
  | (go_at_call 117;rw [← hw0];(with_reducible refine (all_Directive fx (dirW fx) ds (.slice a n c) h0 L1 hA0 HH).mono ?_);rintro e w1 (⟨hq1,rfl,f1⟩ | ⟨us1,hq1,rfl,h1,f1⟩);(focus (go_wp2;go_ret;exact (outb_last hq1 f1).mono0 f0)))
  | fail)
 go_ret
 exact (outb_end hq1 h1 f1).mono0 f0
theorem wdirectives_any {V : Nat} {w : World} {ts : List Bs} (fx : Bool) (ds : List Dr) (lv : Value) (h : Wk V w ts) (L : DrsL ds) (hA : DsAt w (fun k => k < V) lv ds) : Calls Tryz.prog 75 #[wrV V fx,lv] w (OutB V w (dirsW fx ds) ts):=by
 obtain ⟨a,c,rfl⟩:=row_sl hA
 exact wdirectives_of fx ds _ a c h L hA
set_option maxRecDepth 100000 in
set_option maxHeartbeats 4000000 in
theorem wdefault_1 {V : Nat} {w : World} {ts : List Bs} (fx : Bool) (x : Va) (z0 : Int) (s1 : ByteArray) (a2 : Option Addr) (n2 m2 : Nat) (a3 : Option Addr) (n3 m3 : Nat) (a : Option Addr) (n c : Nat) (h : Wk V w ts) (L : VaL x) (hv : Bts w (fun k => k < V) (ctV x.d) [.int .i64 z0,.string s1,.slice a2 n2 m2,.slice a3 n3 m3]) : Calls Tryz.prog 165 #[wrV V fx,.agg #[.string ⟨x.n.toArray⟩,.string ⟨x.t.toArray⟩,.string ⟨x.x.toArray⟩,.bool true,.int .i64 z0,.string s1,.slice a2 n2 m2,.slice a3 n3 m3,.slice a n c]] w (OutB V w (andW (some [[61]]) (valW fx x.d)) ts):=by
 obtain ⟨w0,hw0⟩ : ∃ w0,w0 = (w.alloc (boxW V fx)).alloc (.cells #[.string ⟨x.n.toArray⟩,.string ⟨x.t.toArray⟩,.string ⟨x.x.toArray⟩,.bool true,.int .i64 z0,.string s1,.slice a2 n2 m2,.slice a3 n3 m3,.slice a n c] 99):=⟨_,rfl⟩
 have h0 : Wk V w0 ts:=by rw [hw0];exact (h.al _).al _
 have f0 : FrW V w w0:=by rw [hw0];exact (al1V _).trans (al1V _)
 have hV:=Nat.le_of_lt h.lt
 have hV0:=Nat.le_of_lt h0.lt
 have F0 : FrW V w0 w0:=FrW.refl _ _
 have A : Hid (∀ W,FrW V w0 W → W.heap[w.heap.size]? = some (.cells #[putV V,.bool fx] 56 (0,0)) ∧ W.heap[w.heap.size + 1]? = some (.cells #[.string ⟨x.n.toArray⟩,.string ⟨x.t.toArray⟩,.string ⟨x.x.toArray⟩,.bool true,.int .i64 z0,.string s1,.slice a2 n2 m2,.slice a3 n3 m3,.slice a n c] 99 (0,0))):=fun W F => box2 (by rw [← hw0];exact F) h.lt (by decide)
 obtain ⟨L1,L2,L3⟩:=L
 have hv0:=hv.frw f0 hV
 go_enter Tryz.func165,Tryz.ntmps165
 go_wp2_with (first
  | (go_at_call 29;(with_reducible refine (wvalue_any fx x.d L2 _ _ _ h1 (hv0.frw F1 hV0)).mono ?_);rintro e w2 (⟨hq2,rfl,f2⟩ | ⟨us2,hq2,rfl,h2,f2⟩);(focus (go_wp2;go_ret;exact (OutB.seq hq1 f1 (outb_last hq2 f2)).mono0 f0)))
  | (go_at_call 18;rw [← hw0];(with_reducible refine (put_any [61] h0 (by decide)).mono ?_);rintro e w1 (⟨hq1,rfl,f1⟩ | ⟨us1,hq1,rfl,h1,f1⟩);(focus (go_wp2;go_ret;exact (outb_no hq1 f1).mono0 f0));have F1 : FrW V w0 w1:=F0.trans f1;obtain ⟨P1,Q1⟩:=A.out _ F1;obtain ⟨p10,p11,_⟩:=row2 P1;obtain ⟨q10,q11,q12,q13,q14,q15,q16,q17,q18,_⟩:=row9 Q1)
  | fail)
 go_ret
 exact (OutB.seq hq1 f1 (outb_end hq2 h2 f2)).mono0 f0
set_option maxRecDepth 100000 in
set_option maxHeartbeats 4000000 in
theorem wdefault_0 {V : Nat} {w : World} {ts : List Bs} (fx : Bool) (x : Va) (z0 : Int) (s1 : ByteArray) (a2 : Option Addr) (n2 m2 : Nat) (a3 : Option Addr) (n3 m3 : Nat) (a : Option Addr) (n c : Nat) (h : Wk V w ts) (L : VaL x) (hv : Bts w (fun k => k < V) (ctV x.d) [.int .i64 z0,.string s1,.slice a2 n2 m2,.slice a3 n3 m3]) : Calls Tryz.prog 165 #[wrV V fx,.agg #[.string ⟨x.n.toArray⟩,.string ⟨x.t.toArray⟩,.string ⟨x.x.toArray⟩,.bool false,.int .i64 z0,.string s1,.slice a2 n2 m2,.slice a3 n3 m3,.slice a n c]] w (OutB V w (if isZ x.d then some [] else none) ts):=by
 obtain ⟨w0,hw0⟩ : ∃ w0,w0 = (w.alloc (boxW V fx)).alloc (.cells #[.string ⟨x.n.toArray⟩,.string ⟨x.t.toArray⟩,.string ⟨x.x.toArray⟩,.bool false,.int .i64 z0,.string s1,.slice a2 n2 m2,.slice a3 n3 m3,.slice a n c] 99):=⟨_,rfl⟩
 have h0 : Wk V w0 ts:=by rw [hw0];exact (h.al _).al _
 have f0 : FrW V w w0:=by rw [hw0];exact (al1V _).trans (al1V _)
 have hV:=Nat.le_of_lt h.lt
 have Z:=isZero_any x.d _ (hv.frw f0 hV) L.2.1
 cases hz : isZ x.d with
 | true =>
  rw [hz] at Z
  clear hz
  rw [if_pos rfl]
  go_enter Tryz.func165,Tryz.ntmps165
  go_wp2_with (first
   | (go_at_call 193;rw [← hw0];(with_reducible refine Z.mono ?_);rintro e w1 ⟨rfl,hb1⟩)
   | fail)
  go_ret
  exact outb_skip (h0.on hb1) (f0.trans (frw_of hb1))
 | false =>
  rw [hz] at Z
  clear hz
  rw [if_neg (by simp)]
  go_enter Tryz.func165,Tryz.ntmps165
  go_wp2_with (first
   | (go_at_call 193;rw [← hw0];(with_reducible refine Z.mono ?_);rintro e w1 ⟨rfl,hb1⟩)
   | fail)
  go_ret
  exact outb_none rfl (f0.trans (frw_of hb1))
end Go.Proofs.YtgmlbjfgfmfliaaGreatDoor
namespace Go.Proofs.YtgmlbjfgfmfliaaGreatDoor
open Go Go.RowKit Go.Shelf
set_option maxRecDepth 100000 in
set_option maxHeartbeats 4000000 in
theorem wset_0 {V : Nat} {w : World} {ts : List Bs} (a : Option Addr) (c : Nat) : Calls Tryz.prog 71 #[wrV V false,.slice a 0 c] w (OutB V w (none) ts):=by
 obtain ⟨w0,hw0⟩ : ∃ w0,w0 = w.alloc (boxW V false):=⟨_,rfl⟩
 have f0 : FrW V w w0:=by rw [hw0];exact al1V _
 go_enter Tryz.func71,Tryz.ntmps71
 go_wp2
 go_ret
 rw [← hw0]
 exact outb_none rfl f0
set_option maxRecDepth 100000 in
set_option maxHeartbeats 4000000 in
theorem wset_1 {V : Nat} {w : World} {ts : List Bs} (n : Nat) (ss : List Se) (a : Option Addr) (c : Nat) (h : Wk V w ts) (hn : n ≠ 0) (hl : ss.length ≤ rwM) (hA : SsAt w (fun k => k < V) (.slice a n c) ss) (H : ∀ x ∈ ss,∀ (W : World) (zs : List Bs) (us : List Value),Wk V W zs → Bts W (fun k => k < V) (ctS x) us → Calls Tryz.prog 113 #[wrV V false,.agg us.toArray] W (OutB V W (selW x) zs)) : Calls Tryz.prog 71 #[wrV V false,.slice a n c] w (OutB V w (inW [123] (rowW selW ss) [125]) ts):=by
 obtain ⟨w0,hw0⟩ : ∃ w0,w0 = w.alloc (boxW V false):=⟨_,rfl⟩
 have h0 : Wk V w0 ts:=by rw [hw0];exact h.al _
 have f0 : FrW V w w0:=by rw [hw0];exact al1V _
 have hV:=Nat.le_of_lt h.lt
 have hV0:=Nat.le_of_lt h0.lt
 have F0 : FrW V w0 w0:=FrW.refl _ _
 have A : Hid (∀ W,FrW V w0 W → W.heap[w.heap.size]? = some (.cells #[putV V,.bool false] 56 (0,0)) ∧ True):=fun W F => ⟨box1 (by rw [← hw0];exact F) h.lt,trivial⟩
 have hA0:=hA.frw f0 hV
 have l1 : decide ((0 : Int) < ((n : Nat) : Int)) = true:=decide_eq_true (by omega)
 go_enter Tryz.func71,Tryz.ntmps71
 go_wp2_with (first
  | (go_at_call 112;rw [← hw0];(with_reducible refine (within_Sel false selW ss (.slice a n c) [123] [125] h0 hl (by decide) (by decide) hA0 H).mono ?_);rintro e w1 (⟨hq1,rfl,f1⟩ | ⟨us1,hq1,rfl,h1,f1⟩);(focus (go_wp2;go_ret;exact (outb_last hq1 f1).mono0 f0)))
  | fail)
 go_ret
 exact (outb_end hq1 h1 f1).mono0 f0
theorem wset_of {V : Nat} {w : World} {ts : List Bs} (ss : List Se) (lv : Value) (h : Wk V w ts) (hl : ss.length ≤ rwM) (hA : SsAt w (fun k => k < V) lv ss) (H : ∀ x ∈ ss,∀ (W : World) (zs : List Bs) (us : List Value),Wk V W zs → Bts W (fun k => k < V) (ctS x) us → Calls Tryz.prog 113 #[wrV V false,.agg us.toArray] W (OutB V W (selW x) zs)) : Calls Tryz.prog 71 #[wrV V false,lv] w (OutB V w (setW ss) ts):=by
 obtain ⟨a,c,rfl⟩:=row_sl hA
 unfold setW
 by_cases h0 : ss = []
 ·subst h0
  rw [if_pos rfl]
  exact wset_0 a c
 ·rw [if_neg h0]
  exact wset_1 ss.length ss a c h (fun e => h0 (List.length_eq_zero_iff.1 e)) hl hA H
theorem wbut_on {V : Nat} {w : World} {ts : List Bs} (fx : Bool) (n : Bs) (h : Wk V w ts) (hn : n.length ≤ txM) : Calls Tryz.prog 73 #[wrV V fx,.string ⟨n.toArray⟩,.slice (some ⟨w.heap.size,0,none⟩) 1 1] (w.alloc (.cells #[.string ⟨#[111,110]⟩] 9)) (OutB V w (butW [onB] n) ts) :=
 (wbut_any fx [onB] n (h.al (.cells #[.string ⟨#[111,110]⟩] 9)) hn (by decide) (heap_alloc_new w _)).mono fun _ _ o => o.mono0 (al1V _)
set_option maxRecDepth 100000 in
set_option maxHeartbeats 8000000 in
theorem wfield_A {V : Nat} {w : World} {ts : List Bs} (p1 p2 p3 : Option Addr) (c1 c2 c3 n2 : Nat) (n1 : Nat) (n : Bs) (hn : n.length ≤ txM) (az : List Ar) (ds : List Dr) (h : Wk V w ts) (La : ArsL az) (Ld : DrsL ds) (hA : AsAt w (fun k => k < V) (.slice p1 n1 c1) az) (hD : DsAt w (fun k => k < V) (.slice p2 n2 c2) ds) : Calls Tryz.prog 159 #[wrV V false,.agg #[.int .i64 0,.string ⟨#[]⟩,.string ⟨n.toArray⟩,.string ⟨#[]⟩,.slice p1 n1 c1,.slice p2 n2 c2,.slice p3 0 c3]] w (OutB V w (andW (nameW n) (andW (argsW false az) (dirsW false ds))) ts):=by
 obtain ⟨w0,hw0⟩ : ∃ w0,w0 = (w.alloc (boxW V false)).alloc (.cells #[.int .i64 0,.string ⟨#[]⟩,.string ⟨n.toArray⟩,.string ⟨#[]⟩,.slice p1 n1 c1,.slice p2 n2 c2,.slice p3 0 c3] 48):=⟨_,rfl⟩
 have h0 : Wk V w0 ts:=by rw [hw0];exact (h.al _).al _
 have f0 : FrW V w w0:=by rw [hw0];exact (al1V _).trans (al1V _)
 have hV:=Nat.le_of_lt h.lt
 have hV0:=Nat.le_of_lt h0.lt
 have F0 : FrW V w0 w0:=FrW.refl _ _
 have A : Hid (∀ W,FrW V w0 W → W.heap[w.heap.size]? = some (.cells #[putV V,.bool false] 56 (0,0)) ∧ W.heap[w.heap.size + 1]? = some (.cells #[.int .i64 0,.string ⟨#[]⟩,.string ⟨n.toArray⟩,.string ⟨#[]⟩,.slice p1 n1 c1,.slice p2 n2 c2,.slice p3 0 c3] 48 (0,0))):=fun W F => box2 (by rw [← hw0];exact F) h.lt (by decide)
 have hA0:=hA.frw f0 hV
 have hD0:=hD.frw f0 hV
 go_enter Tryz.func159,Tryz.ntmps159
 go_wp2_with (first
  | (go_at_call 75;(with_reducible refine (wdirectives_any false ds (.slice p2 n2 c2) h2 Ld (hD0.frw F2 hV0)).mono ?_);rintro e w3 (⟨hq3,rfl,f3⟩ | ⟨us3,hq3,rfl,h3,f3⟩);(focus (go_wp2;go_ret;exact (OutB.seq hq1 f1 (OutB.seq hq2 f2 (outb_last hq3 f3))).mono0 f0));have F3 : FrW V w0 w3:=F2.trans f3;obtain ⟨P3,Q3⟩:=A.out _ F3;obtain ⟨p30,p31,_⟩:=row2 P3;obtain ⟨q30,q31,q32,q33,q34,q35,q36,_⟩:=row7 Q3)
  | (go_at_call 166;(with_reducible refine (wargs_any false az (.slice p1 n1 c1) h1 La (hA0.frw F1 hV0)).mono ?_);rintro e w2 (⟨hq2,rfl,f2⟩ | ⟨us2,hq2,rfl,h2,f2⟩);(focus (go_wp2;go_ret;exact (OutB.seq hq1 f1 (outb_no hq2 f2)).mono0 f0));have F2 : FrW V w0 w2:=F1.trans f2;obtain ⟨P2,Q2⟩:=A.out _ F2;obtain ⟨p20,p21,_⟩:=row2 P2;obtain ⟨q20,q21,q22,q23,q24,q25,q26,_⟩:=row7 Q2)
  | (go_at_call 73;rw [← hw0];(with_reducible refine (wname_any false n h0 hn).mono ?_);rintro e w1 (⟨hq1,rfl,f1⟩ | ⟨us1,hq1,rfl,h1,f1⟩);(focus (go_wp2;go_ret;exact (outb_no hq1 f1).mono0 f0));have F1 : FrW V w0 w1:=F0.trans f1;obtain ⟨P1,Q1⟩:=A.out _ F1;obtain ⟨p10,p11,_⟩:=row2 P1;obtain ⟨q10,q11,q12,q13,q14,q15,q16,_⟩:=row7 Q1)
  | fail)
 go_ret
 exact (OutB.seq hq1 f1 (OutB.seq hq2 f2 (outb_end hq3 h3 f3))).mono0 f0
set_option maxRecDepth 100000 in
set_option maxHeartbeats 8000000 in
theorem wfield_B {V : Nat} {w : World} {ts : List Bs} (p1 p2 p3 : Option Addr) (c1 c2 c3 n2 : Nat) (n1 : Nat) (a : Bs) (ha : a ≠ []) (hal : a.length ≤ txM) (n : Bs) (hn : n.length ≤ txM) (az : List Ar) (ds : List Dr) (h : Wk V w ts) (La : ArsL az) (Ld : DrsL ds) (hA : AsAt w (fun k => k < V) (.slice p1 n1 c1) az) (hD : DsAt w (fun k => k < V) (.slice p2 n2 c2) ds) : Calls Tryz.prog 159 #[wrV V false,.agg #[.int .i64 0,.string ⟨a.toArray⟩,.string ⟨n.toArray⟩,.string ⟨#[]⟩,.slice p1 n1 c1,.slice p2 n2 c2,.slice p3 0 c3]] w (OutB V w (andW (nameW a) (andW (some [[58]]) (andW (nameW n) (andW (argsW false az) (dirsW false ds))))) ts):=by
 obtain ⟨w0,hw0⟩ : ∃ w0,w0 = (w.alloc (boxW V false)).alloc (.cells #[.int .i64 0,.string ⟨a.toArray⟩,.string ⟨n.toArray⟩,.string ⟨#[]⟩,.slice p1 n1 c1,.slice p2 n2 c2,.slice p3 0 c3] 48):=⟨_,rfl⟩
 have h0 : Wk V w0 ts:=by rw [hw0];exact (h.al _).al _
 have f0 : FrW V w w0:=by rw [hw0];exact (al1V _).trans (al1V _)
 have hV:=Nat.le_of_lt h.lt
 have hV0:=Nat.le_of_lt h0.lt
 have F0 : FrW V w0 w0:=FrW.refl _ _
 have A : Hid (∀ W,FrW V w0 W → W.heap[w.heap.size]? = some (.cells #[putV V,.bool false] 56 (0,0)) ∧ W.heap[w.heap.size + 1]? = some (.cells #[.int .i64 0,.string ⟨a.toArray⟩,.string ⟨n.toArray⟩,.string ⟨#[]⟩,.slice p1 n1 c1,.slice p2 n2 c2,.slice p3 0 c3] 48 (0,0))):=fun W F => box2 (by rw [← hw0];exact F) h.lt (by decide)
 have hA0:=hA.frw f0 hV
 have hD0:=hD.frw f0 hV
 have ha' : (a == []) = false:=by simpa using ha
 have ha3 : a.isEmpty = false:=by simpa using ha
 go_enter Tryz.func159,Tryz.ntmps159
 go_wp2_with (first
  | (go_at_call 75;(with_reducible refine (wdirectives_any false ds (.slice p2 n2 c2) h4 Ld (hD0.frw F4 hV0)).mono ?_);rintro e w5 (⟨hq5,rfl,f5⟩ | ⟨us5,hq5,rfl,h5,f5⟩);(focus (go_wp2;go_ret;exact (OutB.seq hq1 f1 (OutB.seq hq2 f2 (OutB.seq hq3 f3 (OutB.seq hq4 f4 (outb_last hq5 f5))))).mono0 f0));have F5 : FrW V w0 w5:=F4.trans f5;obtain ⟨P5,Q5⟩:=A.out _ F5;obtain ⟨p50,p51,_⟩:=row2 P5;obtain ⟨q50,q51,q52,q53,q54,q55,q56,_⟩:=row7 Q5)
  | (go_at_call 166;(with_reducible refine (wargs_any false az (.slice p1 n1 c1) h3 La (hA0.frw F3 hV0)).mono ?_);rintro e w4 (⟨hq4,rfl,f4⟩ | ⟨us4,hq4,rfl,h4,f4⟩);(focus (go_wp2;go_ret;exact (OutB.seq hq1 f1 (OutB.seq hq2 f2 (OutB.seq hq3 f3 (outb_no hq4 f4)))).mono0 f0));have F4 : FrW V w0 w4:=F3.trans f4;obtain ⟨P4,Q4⟩:=A.out _ F4;obtain ⟨p40,p41,_⟩:=row2 P4;obtain ⟨q40,q41,q42,q43,q44,q45,q46,_⟩:=row7 Q4)
  | (go_at_call 73;(with_reducible refine (wname_any false n h2 hn).mono ?_);rintro e w3 (⟨hq3,rfl,f3⟩ | ⟨us3,hq3,rfl,h3,f3⟩);(focus (go_wp2;go_ret;exact (OutB.seq hq1 f1 (OutB.seq hq2 f2 (outb_no hq3 f3))).mono0 f0));have F3 : FrW V w0 w3:=F2.trans f3;obtain ⟨P3,Q3⟩:=A.out _ F3;obtain ⟨p30,p31,_⟩:=row2 P3;obtain ⟨q30,q31,q32,q33,q34,q35,q36,_⟩:=row7 Q3)
  | (go_at_call 18;(with_reducible refine (put_any [58] h1 (by decide)).mono ?_);rintro e w2 (⟨hq2,rfl,f2⟩ | ⟨us2,hq2,rfl,h2,f2⟩);(focus (go_wp2;go_ret;exact (OutB.seq hq1 f1 (outb_no hq2 f2)).mono0 f0));have F2 : FrW V w0 w2:=F1.trans f2;obtain ⟨P2,Q2⟩:=A.out _ F2;obtain ⟨p20,p21,_⟩:=row2 P2;obtain ⟨q20,q21,q22,q23,q24,q25,q26,_⟩:=row7 Q2)
  | (go_at_call 73;rw [← hw0];(with_reducible refine (wname_any false a h0 hal).mono ?_);rintro e w1 (⟨hq1,rfl,f1⟩ | ⟨us1,hq1,rfl,h1,f1⟩);(focus (go_wp2;go_ret;exact (outb_no hq1 f1).mono0 f0));have F1 : FrW V w0 w1:=F0.trans f1;obtain ⟨P1,Q1⟩:=A.out _ F1;obtain ⟨p10,p11,_⟩:=row2 P1;obtain ⟨q10,q11,q12,q13,q14,q15,q16,_⟩:=row7 Q1)
  | fail)
 go_ret
 exact (OutB.seq hq1 f1 (OutB.seq hq2 f2 (OutB.seq hq3 f3 (OutB.seq hq4 f4 (outb_end hq5 h5 f5))))).mono0 f0
set_option maxRecDepth 100000 in
set_option maxHeartbeats 8000000 in
theorem wfield_C {V : Nat} {w : World} {ts : List Bs} (p1 p2 p3 : Option Addr) (c1 c2 c3 n2 : Nat) (n1 : Nat) (n3 : Nat) (n : Bs) (hn : n.length ≤ txM) (ss : List Se) (hz3 : n3 ≠ 0) (az : List Ar) (ds : List Dr) (h : Wk V w ts) (La : ArsL az) (Ld : DrsL ds) (hA : AsAt w (fun k => k < V) (.slice p1 n1 c1) az) (hD : DsAt w (fun k => k < V) (.slice p2 n2 c2) ds) (HS : ∀ (W : World) (zs : List Bs),Wk V W zs → FrW V w W → Calls Tryz.prog 71 #[wrV V false,.slice p3 n3 c3] W (OutB V W (setW ss) zs)) : Calls Tryz.prog 159 #[wrV V false,.agg #[.int .i64 0,.string ⟨#[]⟩,.string ⟨n.toArray⟩,.string ⟨#[]⟩,.slice p1 n1 c1,.slice p2 n2 c2,.slice p3 n3 c3]] w (OutB V w (andW (nameW n) (andW (argsW false az) (andW (dirsW false ds) (setW ss)))) ts):=by
 obtain ⟨w0,hw0⟩ : ∃ w0,w0 = (w.alloc (boxW V false)).alloc (.cells #[.int .i64 0,.string ⟨#[]⟩,.string ⟨n.toArray⟩,.string ⟨#[]⟩,.slice p1 n1 c1,.slice p2 n2 c2,.slice p3 n3 c3] 48):=⟨_,rfl⟩
 have h0 : Wk V w0 ts:=by rw [hw0];exact (h.al _).al _
 have f0 : FrW V w w0:=by rw [hw0];exact (al1V _).trans (al1V _)
 have hV:=Nat.le_of_lt h.lt
 have hV0:=Nat.le_of_lt h0.lt
 have F0 : FrW V w0 w0:=FrW.refl _ _
 have A : Hid (∀ W,FrW V w0 W → W.heap[w.heap.size]? = some (.cells #[putV V,.bool false] 56 (0,0)) ∧ W.heap[w.heap.size + 1]? = some (.cells #[.int .i64 0,.string ⟨#[]⟩,.string ⟨n.toArray⟩,.string ⟨#[]⟩,.slice p1 n1 c1,.slice p2 n2 c2,.slice p3 n3 c3] 48 (0,0))):=fun W F => box2 (by rw [← hw0];exact F) h.lt (by decide)
 have hA0:=hA.frw f0 hV
 have hD0:=hD.frw f0 hV
 have l3 : (((n3 : Nat) : Int) == 0) = false:=by rw [beq_eq_false_iff_ne];omega
 go_enter Tryz.func159,Tryz.ntmps159
 go_wp2_with (first
  | (go_at_call 71;(with_reducible refine (HS _ _ h3 (f0.trans F3)).mono ?_);rintro e w4 (⟨hq4,rfl,f4⟩ | ⟨us4,hq4,rfl,h4,f4⟩);(focus (go_wp2;go_ret;exact (OutB.seq hq1 f1 (OutB.seq hq2 f2 (OutB.seq hq3 f3 (outb_last hq4 f4)))).mono0 f0)))
  | (go_at_call 75;(with_reducible refine (wdirectives_any false ds (.slice p2 n2 c2) h2 Ld (hD0.frw F2 hV0)).mono ?_);rintro e w3 (⟨hq3,rfl,f3⟩ | ⟨us3,hq3,rfl,h3,f3⟩);(focus (go_wp2;go_ret;exact (OutB.seq hq1 f1 (OutB.seq hq2 f2 (outb_no hq3 f3))).mono0 f0));have F3 : FrW V w0 w3:=F2.trans f3;obtain ⟨P3,Q3⟩:=A.out _ F3;obtain ⟨p30,p31,_⟩:=row2 P3;obtain ⟨q30,q31,q32,q33,q34,q35,q36,_⟩:=row7 Q3)
  | (go_at_call 166;(with_reducible refine (wargs_any false az (.slice p1 n1 c1) h1 La (hA0.frw F1 hV0)).mono ?_);rintro e w2 (⟨hq2,rfl,f2⟩ | ⟨us2,hq2,rfl,h2,f2⟩);(focus (go_wp2;go_ret;exact (OutB.seq hq1 f1 (outb_no hq2 f2)).mono0 f0));have F2 : FrW V w0 w2:=F1.trans f2;obtain ⟨P2,Q2⟩:=A.out _ F2;obtain ⟨p20,p21,_⟩:=row2 P2;obtain ⟨q20,q21,q22,q23,q24,q25,q26,_⟩:=row7 Q2)
  | (go_at_call 73;rw [← hw0];(with_reducible refine (wname_any false n h0 hn).mono ?_);rintro e w1 (⟨hq1,rfl,f1⟩ | ⟨us1,hq1,rfl,h1,f1⟩);(focus (go_wp2;go_ret;exact (outb_no hq1 f1).mono0 f0));have F1 : FrW V w0 w1:=F0.trans f1;obtain ⟨P1,Q1⟩:=A.out _ F1;obtain ⟨p10,p11,_⟩:=row2 P1;obtain ⟨q10,q11,q12,q13,q14,q15,q16,_⟩:=row7 Q1)
  | fail)
 go_ret
 exact (OutB.seq hq1 f1 (OutB.seq hq2 f2 (OutB.seq hq3 f3 (outb_end hq4 h4 f4)))).mono0 f0
set_option maxRecDepth 100000 in
set_option maxHeartbeats 8000000 in
theorem wfield_D {V : Nat} {w : World} {ts : List Bs} (p1 p2 p3 : Option Addr) (c1 c2 c3 n2 : Nat) (n1 : Nat) (n3 : Nat) (a : Bs) (ha : a ≠ []) (hal : a.length ≤ txM) (n : Bs) (hn : n.length ≤ txM) (ss : List Se) (hz3 : n3 ≠ 0) (az : List Ar) (ds : List Dr) (h : Wk V w ts) (La : ArsL az) (Ld : DrsL ds) (hA : AsAt w (fun k => k < V) (.slice p1 n1 c1) az) (hD : DsAt w (fun k => k < V) (.slice p2 n2 c2) ds) (HS : ∀ (W : World) (zs : List Bs),Wk V W zs → FrW V w W → Calls Tryz.prog 71 #[wrV V false,.slice p3 n3 c3] W (OutB V W (setW ss) zs)) : Calls Tryz.prog 159 #[wrV V false,.agg #[.int .i64 0,.string ⟨a.toArray⟩,.string ⟨n.toArray⟩,.string ⟨#[]⟩,.slice p1 n1 c1,.slice p2 n2 c2,.slice p3 n3 c3]] w (OutB V w (andW (nameW a) (andW (some [[58]]) (andW (nameW n) (andW (argsW false az) (andW (dirsW false ds) (setW ss)))))) ts):=by
 obtain ⟨w0,hw0⟩ : ∃ w0,w0 = (w.alloc (boxW V false)).alloc (.cells #[.int .i64 0,.string ⟨a.toArray⟩,.string ⟨n.toArray⟩,.string ⟨#[]⟩,.slice p1 n1 c1,.slice p2 n2 c2,.slice p3 n3 c3] 48):=⟨_,rfl⟩
 have h0 : Wk V w0 ts:=by rw [hw0];exact (h.al _).al _
 have f0 : FrW V w w0:=by rw [hw0];exact (al1V _).trans (al1V _)
 have hV:=Nat.le_of_lt h.lt
 have hV0:=Nat.le_of_lt h0.lt
 have F0 : FrW V w0 w0:=FrW.refl _ _
 have A : Hid (∀ W,FrW V w0 W → W.heap[w.heap.size]? = some (.cells #[putV V,.bool false] 56 (0,0)) ∧ W.heap[w.heap.size + 1]? = some (.cells #[.int .i64 0,.string ⟨a.toArray⟩,.string ⟨n.toArray⟩,.string ⟨#[]⟩,.slice p1 n1 c1,.slice p2 n2 c2,.slice p3 n3 c3] 48 (0,0))):=fun W F => box2 (by rw [← hw0];exact F) h.lt (by decide)
 have hA0:=hA.frw f0 hV
 have hD0:=hD.frw f0 hV
 have ha' : (a == []) = false:=by simpa using ha
 have ha3 : a.isEmpty = false:=by simpa using ha
 have l3 : (((n3 : Nat) : Int) == 0) = false:=by rw [beq_eq_false_iff_ne];omega
 go_enter Tryz.func159,Tryz.ntmps159
 go_wp2_with (first
  | (go_at_call 71;(with_reducible refine (HS _ _ h5 (f0.trans F5)).mono ?_);rintro e w6 (⟨hq6,rfl,f6⟩ | ⟨us6,hq6,rfl,h6,f6⟩);(focus (go_wp2;go_ret;exact (OutB.seq hq1 f1 (OutB.seq hq2 f2 (OutB.seq hq3 f3 (OutB.seq hq4 f4 (OutB.seq hq5 f5 (outb_last hq6 f6)))))).mono0 f0)))
  | (go_at_call 75;(with_reducible refine (wdirectives_any false ds (.slice p2 n2 c2) h4 Ld (hD0.frw F4 hV0)).mono ?_);rintro e w5 (⟨hq5,rfl,f5⟩ | ⟨us5,hq5,rfl,h5,f5⟩);(focus (go_wp2;go_ret;exact (OutB.seq hq1 f1 (OutB.seq hq2 f2 (OutB.seq hq3 f3 (OutB.seq hq4 f4 (outb_no hq5 f5))))).mono0 f0));have F5 : FrW V w0 w5:=F4.trans f5;obtain ⟨P5,Q5⟩:=A.out _ F5;obtain ⟨p50,p51,_⟩:=row2 P5;obtain ⟨q50,q51,q52,q53,q54,q55,q56,_⟩:=row7 Q5)
  | (go_at_call 166;(with_reducible refine (wargs_any false az (.slice p1 n1 c1) h3 La (hA0.frw F3 hV0)).mono ?_);rintro e w4 (⟨hq4,rfl,f4⟩ | ⟨us4,hq4,rfl,h4,f4⟩);(focus (go_wp2;go_ret;exact (OutB.seq hq1 f1 (OutB.seq hq2 f2 (OutB.seq hq3 f3 (outb_no hq4 f4)))).mono0 f0));have F4 : FrW V w0 w4:=F3.trans f4;obtain ⟨P4,Q4⟩:=A.out _ F4;obtain ⟨p40,p41,_⟩:=row2 P4;obtain ⟨q40,q41,q42,q43,q44,q45,q46,_⟩:=row7 Q4)
  | (go_at_call 73;(with_reducible refine (wname_any false n h2 hn).mono ?_);rintro e w3 (⟨hq3,rfl,f3⟩ | ⟨us3,hq3,rfl,h3,f3⟩);(focus (go_wp2;go_ret;exact (OutB.seq hq1 f1 (OutB.seq hq2 f2 (outb_no hq3 f3))).mono0 f0));have F3 : FrW V w0 w3:=F2.trans f3;obtain ⟨P3,Q3⟩:=A.out _ F3;obtain ⟨p30,p31,_⟩:=row2 P3;obtain ⟨q30,q31,q32,q33,q34,q35,q36,_⟩:=row7 Q3)
  | (go_at_call 18;(with_reducible refine (put_any [58] h1 (by decide)).mono ?_);rintro e w2 (⟨hq2,rfl,f2⟩ | ⟨us2,hq2,rfl,h2,f2⟩);(focus (go_wp2;go_ret;exact (OutB.seq hq1 f1 (outb_no hq2 f2)).mono0 f0));have F2 : FrW V w0 w2:=F1.trans f2;obtain ⟨P2,Q2⟩:=A.out _ F2;obtain ⟨p20,p21,_⟩:=row2 P2;obtain ⟨q20,q21,q22,q23,q24,q25,q26,_⟩:=row7 Q2)
  | (go_at_call 73;rw [← hw0];(with_reducible refine (wname_any false a h0 hal).mono ?_);rintro e w1 (⟨hq1,rfl,f1⟩ | ⟨us1,hq1,rfl,h1,f1⟩);(focus (go_wp2;go_ret;exact (outb_no hq1 f1).mono0 f0));have F1 : FrW V w0 w1:=F0.trans f1;obtain ⟨P1,Q1⟩:=A.out _ F1;obtain ⟨p10,p11,_⟩:=row2 P1;obtain ⟨q10,q11,q12,q13,q14,q15,q16,_⟩:=row7 Q1)
  | fail)
 go_ret
 exact (OutB.seq hq1 f1 (OutB.seq hq2 f2 (OutB.seq hq3 f3 (OutB.seq hq4 f4 (OutB.seq hq5 f5 (outb_end hq6 h6 f6)))))).mono0 f0
set_option maxRecDepth 100000 in
set_option maxHeartbeats 4000000 in
theorem wspread_any {V : Nat} {w : World} {ts : List Bs} (p1 p2 p3 : Option Addr) (c1 c2 c3 n2 : Nat) (n : Bs) (hn : n.length ≤ txM) (ds : List Dr) (h : Wk V w ts) (Ld : DrsL ds) (hD : DsAt w (fun k => k < V) (.slice p2 n2 c2) ds) : Calls Tryz.prog 160 #[wrV V false,.agg #[.int .i64 1,.string ⟨#[]⟩,.string ⟨n.toArray⟩,.string ⟨#[]⟩,.slice p1 0 c1,.slice p2 n2 c2,.slice p3 0 c3]] w (OutB V w (andW (some [dotsB]) (andW (butW [onB] n) (dirsW false ds))) ts):=by
 obtain ⟨w0,hw0⟩ : ∃ w0,w0 = (w.alloc (boxW V false)).alloc (.cells #[.int .i64 1,.string ⟨#[]⟩,.string ⟨n.toArray⟩,.string ⟨#[]⟩,.slice p1 0 c1,.slice p2 n2 c2,.slice p3 0 c3] 48):=⟨_,rfl⟩
 have h0 : Wk V w0 ts:=by rw [hw0];exact (h.al _).al _
 have f0 : FrW V w w0:=by rw [hw0];exact (al1V _).trans (al1V _)
 have hV:=Nat.le_of_lt h.lt
 have hV0:=Nat.le_of_lt h0.lt
 have F0 : FrW V w0 w0:=FrW.refl _ _
 have A : Hid (∀ W,FrW V w0 W → W.heap[w.heap.size]? = some (.cells #[putV V,.bool false] 56 (0,0)) ∧ W.heap[w.heap.size + 1]? = some (.cells #[.int .i64 1,.string ⟨#[]⟩,.string ⟨n.toArray⟩,.string ⟨#[]⟩,.slice p1 0 c1,.slice p2 n2 c2,.slice p3 0 c3] 48 (0,0))):=fun W F => box2 (by rw [← hw0];exact F) h.lt (by decide)
 have hD0:=hD.frw f0 hV
 go_enter Tryz.func160,Tryz.ntmps160
 go_wp2_with (first
  | (go_at_call 75;(with_reducible refine (wdirectives_any false ds (.slice p2 n2 c2) h2 Ld (hD0.frw F2 hV0)).mono ?_);rintro e w3 (⟨hq3,rfl,f3⟩ | ⟨us3,hq3,rfl,h3,f3⟩);(focus (go_wp2;go_ret;exact (OutB.seq hq1 f1 (OutB.seq hq2 f2 (outb_last hq3 f3))).mono0 f0)))
  | (go_at_call 73;(with_reducible refine (wbut_on false n h1 hn).mono ?_);rintro e w2 (⟨hq2,rfl,f2⟩ | ⟨us2,hq2,rfl,h2,f2⟩);(focus (go_wp2;go_ret;exact (OutB.seq hq1 f1 (outb_no hq2 f2)).mono0 f0));have F2 : FrW V w0 w2:=F1.trans f2;obtain ⟨P2,Q2⟩:=A.out _ F2;obtain ⟨p20,p21,_⟩:=row2 P2;obtain ⟨q20,q21,q22,q23,q24,q25,q26,_⟩:=row7 Q2)
  | (go_at_call 18;rw [← hw0];(with_reducible refine (put_any [46,46,46] h0 (by decide)).mono ?_);rintro e w1 (⟨hq1,rfl,f1⟩ | ⟨us1,hq1,rfl,h1,f1⟩);(focus (go_wp2;go_ret;exact (outb_no hq1 f1).mono0 f0));have F1 : FrW V w0 w1:=F0.trans f1;obtain ⟨P1,Q1⟩:=A.out _ F1;obtain ⟨p10,p11,_⟩:=row2 P1;obtain ⟨q10,q11,q12,q13,q14,q15,q16,_⟩:=row7 Q1)
  | fail)
 go_ret
 exact (OutB.seq hq1 f1 (OutB.seq hq2 f2 (outb_end hq3 h3 f3))).mono0 f0
set_option maxRecDepth 100000 in
set_option maxHeartbeats 4000000 in
theorem winline_A {V : Nat} {w : World} {ts : List Bs} (p1 p2 p3 : Option Addr) (c1 c2 c3 n2 : Nat) (n3 : Nat) (ss : List Se) (ds : List Dr) (h : Wk V w ts) (Ld : DrsL ds) (hD : DsAt w (fun k => k < V) (.slice p2 n2 c2) ds) (HS : ∀ (W : World) (zs : List Bs),Wk V W zs → FrW V w W → Calls Tryz.prog 71 #[wrV V false,.slice p3 n3 c3] W (OutB V W (setW ss) zs)) : Calls Tryz.prog 161 #[wrV V false,.agg #[.int .i64 2,.string ⟨#[]⟩,.string ⟨#[]⟩,.string ⟨#[]⟩,.slice p1 0 c1,.slice p2 n2 c2,.slice p3 n3 c3]] w (OutB V w (andW (some [dotsB]) (andW (dirsW false ds) (setW ss))) ts):=by
 obtain ⟨w0,hw0⟩ : ∃ w0,w0 = (w.alloc (boxW V false)).alloc (.cells #[.int .i64 2,.string ⟨#[]⟩,.string ⟨#[]⟩,.string ⟨#[]⟩,.slice p1 0 c1,.slice p2 n2 c2,.slice p3 n3 c3] 48):=⟨_,rfl⟩
 have h0 : Wk V w0 ts:=by rw [hw0];exact (h.al _).al _
 have f0 : FrW V w w0:=by rw [hw0];exact (al1V _).trans (al1V _)
 have hV:=Nat.le_of_lt h.lt
 have hV0:=Nat.le_of_lt h0.lt
 have F0 : FrW V w0 w0:=FrW.refl _ _
 have A : Hid (∀ W,FrW V w0 W → W.heap[w.heap.size]? = some (.cells #[putV V,.bool false] 56 (0,0)) ∧ W.heap[w.heap.size + 1]? = some (.cells #[.int .i64 2,.string ⟨#[]⟩,.string ⟨#[]⟩,.string ⟨#[]⟩,.slice p1 0 c1,.slice p2 n2 c2,.slice p3 n3 c3] 48 (0,0))):=fun W F => box2 (by rw [← hw0];exact F) h.lt (by decide)
 have hD0:=hD.frw f0 hV
 go_enter Tryz.func161,Tryz.ntmps161
 go_wp2_with (first
  | (go_at_call 71;(with_reducible refine (HS _ _ h2 (f0.trans F2)).mono ?_);rintro e w3 (⟨hq3,rfl,f3⟩ | ⟨us3,hq3,rfl,h3,f3⟩);(focus (go_wp2;go_ret;exact (OutB.seq hq1 f1 (OutB.seq hq2 f2 (outb_last hq3 f3))).mono0 f0)))
  | (go_at_call 75;(with_reducible refine (wdirectives_any false ds (.slice p2 n2 c2) h1 Ld (hD0.frw F1 hV0)).mono ?_);rintro e w2 (⟨hq2,rfl,f2⟩ | ⟨us2,hq2,rfl,h2,f2⟩);(focus (go_wp2;go_ret;exact (OutB.seq hq1 f1 (outb_no hq2 f2)).mono0 f0));have F2 : FrW V w0 w2:=F1.trans f2;obtain ⟨P2,Q2⟩:=A.out _ F2;obtain ⟨p20,p21,_⟩:=row2 P2;obtain ⟨q20,q21,q22,q23,q24,q25,q26,_⟩:=row7 Q2)
  | (go_at_call 18;rw [← hw0];(with_reducible refine (put_any [46,46,46] h0 (by decide)).mono ?_);rintro e w1 (⟨hq1,rfl,f1⟩ | ⟨us1,hq1,rfl,h1,f1⟩);(focus (go_wp2;go_ret;exact (outb_no hq1 f1).mono0 f0));have F1 : FrW V w0 w1:=F0.trans f1;obtain ⟨P1,Q1⟩:=A.out _ F1;obtain ⟨p10,p11,_⟩:=row2 P1;obtain ⟨q10,q11,q12,q13,q14,q15,q16,_⟩:=row7 Q1)
  | fail)
 go_ret
 exact (OutB.seq hq1 f1 (OutB.seq hq2 f2 (outb_end hq3 h3 f3))).mono0 f0
set_option maxRecDepth 100000 in
set_option maxHeartbeats 4000000 in
theorem winline_B {V : Nat} {w : World} {ts : List Bs} (p1 p2 p3 : Option Addr) (c1 c2 c3 n2 : Nat) (n3 : Nat) (o : Bs) (ho : o ≠ []) (hol : o.length ≤ txM) (ss : List Se) (ds : List Dr) (h : Wk V w ts) (Ld : DrsL ds) (hD : DsAt w (fun k => k < V) (.slice p2 n2 c2) ds) (HS : ∀ (W : World) (zs : List Bs),Wk V W zs → FrW V w W → Calls Tryz.prog 71 #[wrV V false,.slice p3 n3 c3] W (OutB V W (setW ss) zs)) : Calls Tryz.prog 161 #[wrV V false,.agg #[.int .i64 2,.string ⟨#[]⟩,.string ⟨#[]⟩,.string ⟨o.toArray⟩,.slice p1 0 c1,.slice p2 n2 c2,.slice p3 n3 c3]] w (OutB V w (andW (some [dotsB]) (andW (onW o) (andW (dirsW false ds) (setW ss)))) ts):=by
 obtain ⟨w0,hw0⟩ : ∃ w0,w0 = (w.alloc (boxW V false)).alloc (.cells #[.int .i64 2,.string ⟨#[]⟩,.string ⟨#[]⟩,.string ⟨o.toArray⟩,.slice p1 0 c1,.slice p2 n2 c2,.slice p3 n3 c3] 48):=⟨_,rfl⟩
 have h0 : Wk V w0 ts:=by rw [hw0];exact (h.al _).al _
 have f0 : FrW V w w0:=by rw [hw0];exact (al1V _).trans (al1V _)
 have hV:=Nat.le_of_lt h.lt
 have hV0:=Nat.le_of_lt h0.lt
 have F0 : FrW V w0 w0:=FrW.refl _ _
 have A : Hid (∀ W,FrW V w0 W → W.heap[w.heap.size]? = some (.cells #[putV V,.bool false] 56 (0,0)) ∧ W.heap[w.heap.size + 1]? = some (.cells #[.int .i64 2,.string ⟨#[]⟩,.string ⟨#[]⟩,.string ⟨o.toArray⟩,.slice p1 0 c1,.slice p2 n2 c2,.slice p3 n3 c3] 48 (0,0))):=fun W F => box2 (by rw [← hw0];exact F) h.lt (by decide)
 have hD0:=hD.frw f0 hV
 have ho' : (o == []) = false:=by simpa using ho
 have ho3 : o.isEmpty = false:=by simpa using ho
 go_enter Tryz.func161,Tryz.ntmps161
 go_wp2_with (first
  | (go_at_call 71;(with_reducible refine (HS _ _ h3 (f0.trans F3)).mono ?_);rintro e w4 (⟨hq4,rfl,f4⟩ | ⟨us4,hq4,rfl,h4,f4⟩);(focus (go_wp2;go_ret;exact (OutB.seq hq1 f1 (OutB.seq hq2 f2 (OutB.seq hq3 f3 (outb_last hq4 f4)))).mono0 f0)))
  | (go_at_call 75;(with_reducible refine (wdirectives_any false ds (.slice p2 n2 c2) h2 Ld (hD0.frw F2 hV0)).mono ?_);rintro e w3 (⟨hq3,rfl,f3⟩ | ⟨us3,hq3,rfl,h3,f3⟩);(focus (go_wp2;go_ret;exact (OutB.seq hq1 f1 (OutB.seq hq2 f2 (outb_no hq3 f3))).mono0 f0));have F3 : FrW V w0 w3:=F2.trans f3;obtain ⟨P3,Q3⟩:=A.out _ F3;obtain ⟨p30,p31,_⟩:=row2 P3;obtain ⟨q30,q31,q32,q33,q34,q35,q36,_⟩:=row7 Q3)
  | (go_at_call 76;(with_reducible refine (won_any false o h1 hol).mono ?_);rintro e w2 (⟨hq2,rfl,f2⟩ | ⟨us2,hq2,rfl,h2,f2⟩);(focus (go_wp2;go_ret;exact (OutB.seq hq1 f1 (outb_no hq2 f2)).mono0 f0));have F2 : FrW V w0 w2:=F1.trans f2;obtain ⟨P2,Q2⟩:=A.out _ F2;obtain ⟨p20,p21,_⟩:=row2 P2;obtain ⟨q20,q21,q22,q23,q24,q25,q26,_⟩:=row7 Q2)
  | (go_at_call 18;rw [← hw0];(with_reducible refine (put_any [46,46,46] h0 (by decide)).mono ?_);rintro e w1 (⟨hq1,rfl,f1⟩ | ⟨us1,hq1,rfl,h1,f1⟩);(focus (go_wp2;go_ret;exact (outb_no hq1 f1).mono0 f0));have F1 : FrW V w0 w1:=F0.trans f1;obtain ⟨P1,Q1⟩:=A.out _ F1;obtain ⟨p10,p11,_⟩:=row2 P1;obtain ⟨q10,q11,q12,q13,q14,q15,q16,_⟩:=row7 Q1)
  | fail)
 go_ret
 exact (OutB.seq hq1 f1 (OutB.seq hq2 f2 (OutB.seq hq3 f3 (outb_end hq4 h4 f4)))).mono0 f0
end Go.Proofs.YtgmlbjfgfmfliaaGreatDoor
namespace Go.Proofs.YtgmlbjfgfmfliaaGreatDoor
open Go Go.RowKit Go.Shelf
theorem cat_mk (a b : Bs) : (⟨a.toArray⟩ : ByteArray) ++ ⟨b.toArray⟩ = ⟨(a ++ b).toArray⟩:=by
 apply ByteArray.ext
 apply Array.toList_inj.1
 simp
theorem cat_ne {a b : Bs} (h : ¬ (a = [] ∧ b = [])) : ¬ ((⟨a.toArray⟩ : ByteArray) ++ ⟨b.toArray⟩).toList = []:=by
 rw [cat_mk,ByteArray.toList_eq]
 exact fun e => h (List.append_eq_nil_iff.1 e)
theorem cat_len {a b : Bs} (h : a.length ≤ txM) (h2 : b.length ≤ txM) : ¬ 9223372036854775807 < List.length a + List.length b:=by
 have h' : a.length ≤ 140737488355328:=h
 have h2' : b.length ≤ 140737488355328:=h2
 omega
theorem nil_cat : ((⟨#[]⟩ : ByteArray) ++ ⟨#[]⟩).toList = []:=by
 have:=cat_mk [] []
 rw [List.append_nil] at this
 rw [show (⟨#[]⟩ : ByteArray) = ⟨([] : Bs).toArray⟩ from rfl,this,ByteArray.toList_eq]
set_option maxRecDepth 100000 in
set_option maxHeartbeats 4000000 in
theorem wsel_0 {V : Nat} {w : World} {ts : List Bs} (p1 p2 p3 : Option Addr) (c1 c2 c3 n2 : Nat) (a n : Bs) (n1 n3 : Nat) (x : Option (List Bs)) (h : Wk V w ts) (HX : ∀ (W : World) (zs : List Bs),Wk V W zs → FrW V w W → Calls Tryz.prog 159 #[wrV V false,.agg #[.int .i64 0,.string ⟨a.toArray⟩,.string ⟨n.toArray⟩,.string ⟨#[]⟩,.slice p1 n1 c1,.slice p2 n2 c2,.slice p3 n3 c3]] W (OutB V W x zs)) : Calls Tryz.prog 113 #[wrV V false,.agg #[.int .i64 0,.string ⟨a.toArray⟩,.string ⟨n.toArray⟩,.string ⟨#[]⟩,.slice p1 n1 c1,.slice p2 n2 c2,.slice p3 n3 c3]] w (OutB V w (x) ts):=by
 obtain ⟨w0,hw0⟩ : ∃ w0,w0 = (w.alloc (boxW V false)).alloc (.cells #[.int .i64 0,.string ⟨a.toArray⟩,.string ⟨n.toArray⟩,.string ⟨#[]⟩,.slice p1 n1 c1,.slice p2 n2 c2,.slice p3 n3 c3] 48):=⟨_,rfl⟩
 have h0 : Wk V w0 ts:=by rw [hw0];exact (h.al _).al _
 have f0 : FrW V w w0:=by rw [hw0];exact (al1V _).trans (al1V _)
 have hV:=Nat.le_of_lt h.lt
 have hV0:=Nat.le_of_lt h0.lt
 have F0 : FrW V w0 w0:=FrW.refl _ _
 have A : Hid (∀ W,FrW V w0 W → W.heap[w.heap.size]? = some (.cells #[putV V,.bool false] 56 (0,0)) ∧ W.heap[w.heap.size + 1]? = some (.cells #[.int .i64 0,.string ⟨a.toArray⟩,.string ⟨n.toArray⟩,.string ⟨#[]⟩,.slice p1 n1 c1,.slice p2 n2 c2,.slice p3 n3 c3] 48 (0,0))):=fun W F => box2 (by rw [← hw0];exact F) h.lt (by decide)
 go_enter Tryz.func113,Tryz.ntmps113
 go_wp2_with (first
  | (go_at_call 159;rw [← hw0];(with_reducible refine (HX _ _ h0 (f0.trans F0)).mono ?_);rintro e w1 (⟨hq1,rfl,f1⟩ | ⟨us1,hq1,rfl,h1,f1⟩);(focus (go_wp2;go_ret;exact (outb_last hq1 f1).mono0 f0)))
  | fail)
 go_ret
 exact (outb_end hq1 h1 f1).mono0 f0
set_option maxRecDepth 100000 in
set_option maxHeartbeats 4000000 in
theorem wsel_0o {V : Nat} {w : World} {ts : List Bs} (p1 p2 p3 : Option Addr) (c1 c2 c3 n2 : Nat) (a n o : Bs) (n1 n3 : Nat) (ho : o ≠ []) : Calls Tryz.prog 113 #[wrV V false,.agg #[.int .i64 0,.string ⟨a.toArray⟩,.string ⟨n.toArray⟩,.string ⟨o.toArray⟩,.slice p1 n1 c1,.slice p2 n2 c2,.slice p3 n3 c3]] w (OutB V w (none) ts):=by
 obtain ⟨w0,hw0⟩ : ∃ w0,w0 = (w.alloc (boxW V false)).alloc (.cells #[.int .i64 0,.string ⟨a.toArray⟩,.string ⟨n.toArray⟩,.string ⟨o.toArray⟩,.slice p1 n1 c1,.slice p2 n2 c2,.slice p3 n3 c3] 48):=⟨_,rfl⟩
 have f0 : FrW V w w0:=by rw [hw0];exact (al1V _).trans (al1V _)
 have ho' : (o == []) = false:=by simpa using ho
 have ho3 : o.isEmpty = false:=by simpa using ho
 go_enter Tryz.func113,Tryz.ntmps113
 go_wp2
 go_ret
 rw [← hw0]
 exact outb_none rfl f0
set_option maxRecDepth 100000 in
set_option maxHeartbeats 4000000 in
theorem wsel_1 {V : Nat} {w : World} {ts : List Bs} (p1 p2 p3 : Option Addr) (c1 c2 c3 n2 : Nat) (n : Bs) (x : Option (List Bs)) (h : Wk V w ts) (HX : ∀ (W : World) (zs : List Bs),Wk V W zs → FrW V w W → Calls Tryz.prog 160 #[wrV V false,.agg #[.int .i64 1,.string ⟨#[]⟩,.string ⟨n.toArray⟩,.string ⟨#[]⟩,.slice p1 0 c1,.slice p2 n2 c2,.slice p3 0 c3]] W (OutB V W x zs)) : Calls Tryz.prog 113 #[wrV V false,.agg #[.int .i64 1,.string ⟨#[]⟩,.string ⟨n.toArray⟩,.string ⟨#[]⟩,.slice p1 0 c1,.slice p2 n2 c2,.slice p3 0 c3]] w (OutB V w (x) ts):=by
 obtain ⟨w0,hw0⟩ : ∃ w0,w0 = (w.alloc (boxW V false)).alloc (.cells #[.int .i64 1,.string ⟨#[]⟩,.string ⟨n.toArray⟩,.string ⟨#[]⟩,.slice p1 0 c1,.slice p2 n2 c2,.slice p3 0 c3] 48):=⟨_,rfl⟩
 have h0 : Wk V w0 ts:=by rw [hw0];exact (h.al _).al _
 have f0 : FrW V w w0:=by rw [hw0];exact (al1V _).trans (al1V _)
 have hV:=Nat.le_of_lt h.lt
 have hV0:=Nat.le_of_lt h0.lt
 have F0 : FrW V w0 w0:=FrW.refl _ _
 have A : Hid (∀ W,FrW V w0 W → W.heap[w.heap.size]? = some (.cells #[putV V,.bool false] 56 (0,0)) ∧ W.heap[w.heap.size + 1]? = some (.cells #[.int .i64 1,.string ⟨#[]⟩,.string ⟨n.toArray⟩,.string ⟨#[]⟩,.slice p1 0 c1,.slice p2 n2 c2,.slice p3 0 c3] 48 (0,0))):=fun W F => box2 (by rw [← hw0];exact F) h.lt (by decide)
 have he : ((⟨#[]⟩ : ByteArray) ++ ⟨#[]⟩).toList = []:=nil_cat
 go_enter Tryz.func113,Tryz.ntmps113
 go_wp2_with (first
  | (go_at_call 160;rw [← hw0];(with_reducible refine (HX _ _ h0 (f0.trans F0)).mono ?_);rintro e w1 (⟨hq1,rfl,f1⟩ | ⟨us1,hq1,rfl,h1,f1⟩);(focus (go_wp2;go_ret;exact (outb_last hq1 f1).mono0 f0)))
  | fail)
 go_ret
 exact (outb_end hq1 h1 f1).mono0 f0
set_option maxRecDepth 100000 in
set_option maxHeartbeats 4000000 in
theorem wsel_1l {V : Nat} {w : World} {ts : List Bs} (p1 p2 p3 : Option Addr) (c1 c2 c3 n2 : Nat) (n : Bs) (n1 n3 : Nat) (hn1 : n1 ≤ 140737488355328) (hn3 : n3 ≤ 140737488355328) (hz : ¬ (n1 = 0 ∧ n3 = 0)) : Calls Tryz.prog 113 #[wrV V false,.agg #[.int .i64 1,.string ⟨#[]⟩,.string ⟨n.toArray⟩,.string ⟨#[]⟩,.slice p1 n1 c1,.slice p2 n2 c2,.slice p3 n3 c3]] w (OutB V w (none) ts):=by
 obtain ⟨w0,hw0⟩ : ∃ w0,w0 = (w.alloc (boxW V false)).alloc (.cells #[.int .i64 1,.string ⟨#[]⟩,.string ⟨n.toArray⟩,.string ⟨#[]⟩,.slice p1 n1 c1,.slice p2 n2 c2,.slice p3 n3 c3] 48):=⟨_,rfl⟩
 have f0 : FrW V w w0:=by rw [hw0];exact (al1V _).trans (al1V _)
 have he : ((⟨#[]⟩ : ByteArray) ++ ⟨#[]⟩).toList = []:=nil_cat
 have hne : (((n1 : Nat) : Int) + ((n3 : Nat) : Int) == 0) = false:=by rw [beq_eq_false_iff_ne];omega
 have hs:=len_sum hn1 hn3
 go_enter Tryz.func113,Tryz.ntmps113
 go_wp2
 go_ret
 rw [← hw0]
 exact outb_none rfl f0
set_option maxRecDepth 100000 in
set_option maxHeartbeats 4000000 in
theorem wsel_1a {V : Nat} {w : World} {ts : List Bs} (p1 p2 p3 : Option Addr) (c1 c2 c3 n2 : Nat) (a n o : Bs) (n1 n3 : Nat) (hao : ¬ (a = [] ∧ o = [])) (hal : a.length ≤ txM) (hol : o.length ≤ txM) : Calls Tryz.prog 113 #[wrV V false,.agg #[.int .i64 1,.string ⟨a.toArray⟩,.string ⟨n.toArray⟩,.string ⟨o.toArray⟩,.slice p1 n1 c1,.slice p2 n2 c2,.slice p3 n3 c3]] w (OutB V w (none) ts):=by
 obtain ⟨w0,hw0⟩ : ∃ w0,w0 = (w.alloc (boxW V false)).alloc (.cells #[.int .i64 1,.string ⟨a.toArray⟩,.string ⟨n.toArray⟩,.string ⟨o.toArray⟩,.slice p1 n1 c1,.slice p2 n2 c2,.slice p3 n3 c3] 48):=⟨_,rfl⟩
 have f0 : FrW V w w0:=by rw [hw0];exact (al1V _).trans (al1V _)
 have hsum : ¬ 9223372036854775807 < List.length a + List.length o:=cat_len hal hol
 have he : ¬ ((⟨a.toArray⟩ : ByteArray) ++ ⟨o.toArray⟩).toList = []:=cat_ne hao
 go_enter Tryz.func113,Tryz.ntmps113
 go_wp2
 go_ret
 rw [← hw0]
 exact outb_none rfl f0
set_option maxRecDepth 100000 in
set_option maxHeartbeats 4000000 in
theorem wsel_2 {V : Nat} {w : World} {ts : List Bs} (p1 p2 p3 : Option Addr) (c1 c2 c3 n2 : Nat) (o : Bs) (n3 : Nat) (x : Option (List Bs)) (h : Wk V w ts) (HX : ∀ (W : World) (zs : List Bs),Wk V W zs → FrW V w W → Calls Tryz.prog 161 #[wrV V false,.agg #[.int .i64 2,.string ⟨#[]⟩,.string ⟨#[]⟩,.string ⟨o.toArray⟩,.slice p1 0 c1,.slice p2 n2 c2,.slice p3 n3 c3]] W (OutB V W x zs)) : Calls Tryz.prog 113 #[wrV V false,.agg #[.int .i64 2,.string ⟨#[]⟩,.string ⟨#[]⟩,.string ⟨o.toArray⟩,.slice p1 0 c1,.slice p2 n2 c2,.slice p3 n3 c3]] w (OutB V w (x) ts):=by
 obtain ⟨w0,hw0⟩ : ∃ w0,w0 = (w.alloc (boxW V false)).alloc (.cells #[.int .i64 2,.string ⟨#[]⟩,.string ⟨#[]⟩,.string ⟨o.toArray⟩,.slice p1 0 c1,.slice p2 n2 c2,.slice p3 n3 c3] 48):=⟨_,rfl⟩
 have h0 : Wk V w0 ts:=by rw [hw0];exact (h.al _).al _
 have f0 : FrW V w w0:=by rw [hw0];exact (al1V _).trans (al1V _)
 have hV:=Nat.le_of_lt h.lt
 have hV0:=Nat.le_of_lt h0.lt
 have F0 : FrW V w0 w0:=FrW.refl _ _
 have A : Hid (∀ W,FrW V w0 W → W.heap[w.heap.size]? = some (.cells #[putV V,.bool false] 56 (0,0)) ∧ W.heap[w.heap.size + 1]? = some (.cells #[.int .i64 2,.string ⟨#[]⟩,.string ⟨#[]⟩,.string ⟨o.toArray⟩,.slice p1 0 c1,.slice p2 n2 c2,.slice p3 n3 c3] 48 (0,0))):=fun W F => box2 (by rw [← hw0];exact F) h.lt (by decide)
 have he : ((⟨#[]⟩ : ByteArray) ++ ⟨#[]⟩).toList = []:=nil_cat
 go_enter Tryz.func113,Tryz.ntmps113
 go_wp2_with (first
  | (go_at_call 161;rw [← hw0];(with_reducible refine (HX _ _ h0 (f0.trans F0)).mono ?_);rintro e w1 (⟨hq1,rfl,f1⟩ | ⟨us1,hq1,rfl,h1,f1⟩);(focus (go_wp2;go_ret;exact (outb_last hq1 f1).mono0 f0)))
  | fail)
 go_ret
 exact (outb_end hq1 h1 f1).mono0 f0
set_option maxRecDepth 100000 in
set_option maxHeartbeats 4000000 in
theorem wsel_2l {V : Nat} {w : World} {ts : List Bs} (p1 p2 p3 : Option Addr) (c1 c2 c3 n2 : Nat) (o : Bs) (n1 n3 : Nat) (hz : n1 ≠ 0) : Calls Tryz.prog 113 #[wrV V false,.agg #[.int .i64 2,.string ⟨#[]⟩,.string ⟨#[]⟩,.string ⟨o.toArray⟩,.slice p1 n1 c1,.slice p2 n2 c2,.slice p3 n3 c3]] w (OutB V w (none) ts):=by
 obtain ⟨w0,hw0⟩ : ∃ w0,w0 = (w.alloc (boxW V false)).alloc (.cells #[.int .i64 2,.string ⟨#[]⟩,.string ⟨#[]⟩,.string ⟨o.toArray⟩,.slice p1 n1 c1,.slice p2 n2 c2,.slice p3 n3 c3] 48):=⟨_,rfl⟩
 have f0 : FrW V w w0:=by rw [hw0];exact (al1V _).trans (al1V _)
 have he : ((⟨#[]⟩ : ByteArray) ++ ⟨#[]⟩).toList = []:=nil_cat
 have hne : (((n1 : Nat) : Int) == 0) = false:=by rw [beq_eq_false_iff_ne];omega
 go_enter Tryz.func113,Tryz.ntmps113
 go_wp2
 go_ret
 rw [← hw0]
 exact outb_none rfl f0
set_option maxRecDepth 100000 in
set_option maxHeartbeats 4000000 in
theorem wsel_2a {V : Nat} {w : World} {ts : List Bs} (p1 p2 p3 : Option Addr) (c1 c2 c3 n2 : Nat) (a n o : Bs) (n1 n3 : Nat) (hao : ¬ (a = [] ∧ n = [])) (hal : a.length ≤ txM) (hol : n.length ≤ txM) : Calls Tryz.prog 113 #[wrV V false,.agg #[.int .i64 2,.string ⟨a.toArray⟩,.string ⟨n.toArray⟩,.string ⟨o.toArray⟩,.slice p1 n1 c1,.slice p2 n2 c2,.slice p3 n3 c3]] w (OutB V w (none) ts):=by
 obtain ⟨w0,hw0⟩ : ∃ w0,w0 = (w.alloc (boxW V false)).alloc (.cells #[.int .i64 2,.string ⟨a.toArray⟩,.string ⟨n.toArray⟩,.string ⟨o.toArray⟩,.slice p1 n1 c1,.slice p2 n2 c2,.slice p3 n3 c3] 48):=⟨_,rfl⟩
 have f0 : FrW V w w0:=by rw [hw0];exact (al1V _).trans (al1V _)
 have hsum : ¬ 9223372036854775807 < List.length a + List.length n:=cat_len hal hol
 have he : ¬ ((⟨a.toArray⟩ : ByteArray) ++ ⟨n.toArray⟩).toList = []:=cat_ne hao
 go_enter Tryz.func113,Tryz.ntmps113
 go_wp2
 go_ret
 rw [← hw0]
 exact outb_none rfl f0
set_option maxRecDepth 100000 in
set_option maxHeartbeats 4000000 in
theorem wsel_x {V : Nat} {w : World} {ts : List Bs} (p1 p2 p3 : Option Addr) (c1 c2 c3 n2 : Nat) (a n o : Bs) (n1 n3 : Nat) (k : Int) (h0 : k ≠ 0) (h1 : k ≠ 1) (h2 : k ≠ 2) : Calls Tryz.prog 113 #[wrV V false,.agg #[.int .i64 k,.string ⟨a.toArray⟩,.string ⟨n.toArray⟩,.string ⟨o.toArray⟩,.slice p1 n1 c1,.slice p2 n2 c2,.slice p3 n3 c3]] w (OutB V w (none) ts):=by
 obtain ⟨w0,hw0⟩ : ∃ w0,w0 = (w.alloc (boxW V false)).alloc (.cells #[.int .i64 k,.string ⟨a.toArray⟩,.string ⟨n.toArray⟩,.string ⟨o.toArray⟩,.slice p1 n1 c1,.slice p2 n2 c2,.slice p3 n3 c3] 48):=⟨_,rfl⟩
 have f0 : FrW V w w0:=by rw [hw0];exact (al1V _).trans (al1V _)
 have l0 : (k == 0) = false:=by simpa using h0
 have l1 : (k == 1) = false:=by simpa using h1
 have l2 : (k == 2) = false:=by simpa using h2
 go_enter Tryz.func113,Tryz.ntmps113
 go_wp2
 go_ret
 rw [← hw0]
 exact outb_none rfl f0
end Go.Proofs.YtgmlbjfgfmfliaaGreatDoor
