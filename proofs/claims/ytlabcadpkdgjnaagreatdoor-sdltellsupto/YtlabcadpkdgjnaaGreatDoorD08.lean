/- The document's writer of schemas: Print, walked. -/
import Derived.Test.YtlabcadpkdgjnaaGreatDoorD05
import Derived.Test.YtlabcadpkdgjnaaGreatDoorE7
import Derived.Test.YtlabcadpkdgjnaaGreatDoorE6
import Derived.Test.YtlabcadpkdgjnaaGreatDoorD01
import Derived.Test.YtlabcadpkdgjnaaGreatDoorLxG5
import Derived.OwnWalk
import Derived.OneCell
import Derived.Laws.OwnMore
import Derived.Laws.IdiomStrings
import Derived.Lib.AppendStr
import Derived.Lib.UnsafeStr
import Derived.Deep.AppendLies
import Derived.Test.YtlabcadpkdgjnaaGreatDoorD07
namespace Go.Proofs.YtlabcadpkdgjnaaGreatDoor
section
open Go Go.RowKit Go.Shelf
def ParsZ (w : World) (r : Except (Nat × Int) Sch) (e : Ending) (w' : World) : Prop:=(match r with
 | .error p => e = .returned (.tuple #[.agg #[.slice none 0 0,.slice none 0 0],.int .i64 (p.1 : Int),.int .i64 p.2])
 | .ok s => ∃ p1 n1 m1 p2 n2 m2,e = .returned (.tuple #[.agg #[.slice p1 n1 m1,.slice p2 n2 m2],.int .i64 0,.int .i64 0]) ∧ SchAt w' (.slice p1 n1 m1) (.slice p2 n2 m2) s) ∧ Below w.heap.size w w'
theorem zparse_any (s : Bs) (w : World) : Calls Tryz.prog 9 #[.string ⟨s.toArray⟩] w (ParsZ w (parseD s)):=by
 unfold parseD
 cases hs : lexS s with
 | inl p => exact (zparse_lex s p hs w).mono fun e w' h => h
 | inr ts =>
  refine (zparse_toks s ts hs w).mono ?_
  intro e w' h
  have hg:=ag_schema (ts:=ts) (N:=s.length) (fun t ht => (lexS_full hs).2.2 t ht)
  show ParsZ w (match schemaD (ts ++ [eofT s.length]) with | .error p => .error p | .ok p => .ok p.1) e w'
  unfold ParsM at h
  cases hd : schemaD (ts ++ [eofT s.length]) with
  | error p =>
   rw [hd] at hg
   obtain ⟨h1,h2⟩:=hg
   rw [if_pos (by omega)] at h
   obtain ⟨b,d⟩:=p
   simp only at h1
   subst h1
   rw [h2] at h
   exact ⟨h.1,h.2⟩
  | ok p =>
   rw [hd] at hg
   obtain ⟨h1,h2⟩:=hg
   rw [if_neg (by omega),h1] at h
   obtain ⟨p1,n1,m1,p2,n2,m2,he,hS,hb⟩:=h
   exact ⟨⟨p1,n1,m1,p2,n2,m2,he,hS⟩,hb⟩
theorem zpar_err {x : Bs} {p : Nat × Int} (h : parseD x = .error p) (W : World) : Calls Tryz.prog 9 #[.string ⟨x.toArray⟩] W fun e w' => e = .returned (.tuple #[.agg #[.slice none 0 0,.slice none 0 0],.int .i64 (p.1 : Int),.int .i64 p.2]) ∧ Below W.heap.size W w':=by
 have C:=zparse_any x W
 rw [h] at C
 exact C.mono fun e w' h => h
theorem zpar_ok {x : Bs} {c : Sch} (h : parseD x = .ok c) (W : World) : Calls Tryz.prog 9 #[.string ⟨x.toArray⟩] W fun e w' => ∃ p1 n1 m1 p2 n2 m2,e = .returned (.tuple #[.agg #[.slice p1 n1 m1,.slice p2 n2 m2],.int .i64 0,.int .i64 0]) ∧ SchAt w' (.slice p1 n1 m1) (.slice p2 n2 m2) c ∧ Below W.heap.size W w':=by
 have C:=zparse_any x W
 rw [h] at C
 exact C.mono fun e w' ⟨⟨p1,n1,m1,p2,n2,m2,he,hS⟩,hb⟩ => ⟨p1,n1,m1,p2,n2,m2,he,hS,hb⟩
end
section
open Go Go.RowKit
section
variable {N : Nat}
end
end
section
open Go Go.RowKit
theorem Tryz.infoByteI : (Tryz.prog.info? 5).map (fun i => (i.zero,i.size,i.bytes)) = some (some (.int .u8 0),1,1):=by kernel_rfl
abbrev BytesI (w : World) (B : Nat) (v : Value) (l : List UInt8) : Prop:=w.ownsRow B 5 1 v l.length (Lib.byteCells l)
theorem owns_belowI {W W' : World} {B e sz n : Nat} {v : Value} {xs : List Value} (h : W.ownsRow B e sz v n xs) (hb : Below W.heap.size W W') : W'.ownsRow B e sz v n xs:=by
 refine ⟨h.1,?_⟩
 rcases h.2 with h2 | ⟨g,cap,cur,hv,hg,hh,r⟩
 ·exact Or.inl h2
 ·exact Or.inr ⟨g,cap,cur,hv,hg,(hb.block g (lt_of_block hh)).trans hh,r⟩
theorem not_noneI {w : World} {B e n : Nat} {v : Value} {xs : List Value} (h : w.ownsRow B e 1 v n xs) (hn : v ≠ .slice none 0 0) : ∃ g cap,v = .slice (some ⟨g,0,none⟩) n cap:=by
 rcases h.2 with ⟨h1,_⟩ | ⟨g,cap,cur,h1,_⟩
 ·exact absurd h1 hn
 ·exact ⟨g,cap,h1⟩
theorem own_nobI (w : World) : BytesI (w.alloc (.cells #[] 5)) w.heap.size (.slice (some ⟨w.heap.size,0,none⟩) 0 0) [] :=
 ⟨rfl,Or.inr ⟨w.heap.size,0,#[],rfl,Nat.le_refl _,heap_alloc_new _ _,Nat.le_refl _,Nat.zero_le _,rfl,rfl⟩⟩
end
section
open Go Go.RowKit Go.Shelf
theorem bytes_addY (x y : Bs) : (⟨x.toArray⟩ : ByteArray) ++ ⟨y.toArray⟩ = ⟨(x ++ y).toArray⟩:=by
 apply ByteArray.ext
 simp [ByteArray.data_append]
structure Rb (B : Nat) (W : World) (v : Value) (L : Bs) : Prop where
 own : BytesI W B v L
 nn : v ≠ .slice none 0 0
theorem Rb.start (w1 : World) : Rb w1.heap.size (w1.alloc (.cells #[] 5)) (.slice (some ⟨w1.heap.size,0,none⟩) 0 0) []:=⟨own_nobI w1,by simp⟩
theorem Rb.on {B : Nat} {W W' : World} {v : Value} {L : Bs} (h : Rb B W v L) (b : Below W.heap.size W W') : Rb B W' v L:=⟨owns_belowI h.own b,h.nn⟩
theorem Rb.grow {B : Nat} {W W' : World} {v v' : Value} {L p : Bs} {PB : ByteArray} (h : Rb B W v L) (e : PB = ⟨p.toArray⟩) (ho : W'.ownsRow B 5 1 v' (L.length + PB.size) (Lib.byteCells L ++ Lib.strCells PB)) (hg : W.grownBy W' v.ownBlock) (hn : v' = .slice none 0 0 ↔ v = .slice none 0 0 ∧ PB.size = 0) : Rb B W' v' (L ++ p) ∧ Gt B 5 W W':=by
 subst e
 refine ⟨⟨?_,fun q => h.nn (hn.1 q).1⟩,gt_grown h.own hg⟩
 unfold BytesI
 rw [cells_app,List.length_append,← strCells_eq p]
 exact ho
def PrZ (w : World) (r : Option Bs) (e : Ending) (w' : World) : Prop:=(match r with
 | none => e = .returned (.tuple #[.string ⟨#[]⟩,.int .i64 81])
 | some t => e = .returned (.tuple #[.string ⟨t.toArray⟩,.int .i64 0])) ∧ Below w.heap.size w w'
theorem byte_at (s : Bs) {k : Nat} {c : UInt8} (h : s[k]? = some c) : ∀ hh,(((ByteArray.mk s.toArray)[k]'hh).toNat : Int) = (c.toNat : Int):=fun hh => by
 obtain ⟨h1,h2⟩:=List.getElem?_eq_some_iff.1 h
 rw [← h2]
 rfl
theorem conv_from1 {W : World} {B g cap : Nat} {c : UInt8} {l : List UInt8} (h : W.ownsRow B 5 1 (.slice (some ⟨g,0,none⟩) (c :: l).length cap) (c :: l).length (Lib.byteCells (c :: l))) :
  (convert 40 9 (.slice (some ⟨g,1,none⟩) l.length (cap - 1))).run Tryz.prog W = .ok (.string ⟨l.toArray⟩) W:=by
 refine run_convert_bytes_back (P:=Tryz.prog) W 40 9 5 ⟨g,1,none⟩ (cap - 1) l Tryz.underlying40 Tryz.underlying5 Tryz.underlying9 ?_
 intro j hj
 rw [Addr.add_lit,Nat.add_comm 1 j,h.cellAt (j + 1) (by simp;omega)]
 simp [Lib.byteCells,hj]
theorem joinW_pos {u : Bs} (hu : u ≠ []) : ∀ l : List Bs,1 ≤ (joinW (u :: l)).length
 | [] => by show 1 ≤ u.length;exact List.length_pos_iff.2 hu
 | y :: l => by
  have:=List.length_pos_iff.2 hu
  simp only [joinW,List.length_append]
  omega
theorem schT_pos {s : Sch} (h : schT s ≠ []) : 1 ≤ (joinW (schT s)).length:=by
 have key : ∃ u l,schT s = u :: l ∧ u ≠ []:=by
  unfold schT at *
  cases ho : s.os with
  | cons o l => exact ⟨typeB,_,rfl,by decide⟩
  | nil =>
   cases he : s.es with
   | cons e l => exact ⟨enumB,_,rfl,by decide⟩
   | nil => rw [ho,he] at h;exact absurd rfl h
 obtain ⟨u,l,e,hu⟩:=key
 rw [e]
 exact joinW_pos hu l
set_option maxRecDepth 100000 in
set_option maxHeartbeats 4000000 in
theorem zprint_no {w : World} {ov ev : Value} {s : Sch} (h : SchAt w ov ev s) (hf : fineS s = false) : Calls Tryz.prog 13 #[.agg #[ov,ev]] w (PrZ w none):=by
 obtain ⟨a1,c1,rfl,k1,m1⟩:=slD h.os
 obtain ⟨a3,c3,rfl,k3,m3⟩:=slD h.es
 obtain ⟨w0,hw0⟩ : ∃ w0,w0 = w.alloc (.cells #[.slice a1 s.os.length c1,.slice a3 s.es.length c3] 25):=⟨_,rfl⟩
 have b0 : Below w.heap.size w w0:=by rw [hw0];exact al1 w _
 have P1 : w0.heap[w.heap.size]? = some (.cells #[.slice a1 s.os.length c1,.slice a3 s.es.length c3] 25 (0,0)):=by rw [hw0];exact heap_alloc_new w _
 have h0:=h.on b0
 have A : Hid (∀ W,Below w0.heap.size w0 W → W.cell? ⟨w.heap.size,0,none⟩ = some (.slice a1 s.os.length c1) ∧ W.cell? ⟨w.heap.size,1,none⟩ = some (.slice a3 s.es.length c3)):=(fun W F => row2' ((F.block _ (lt_of_block P1)).trans P1))
 have HH : Hid (SchAt w0 (.slice a1 s.os.length c1) (.slice a3 s.es.length c3) s):=h0
 have CF:=dfine_any h0
 obtain ⟨q1,q2⟩:=A.out w0 (Below.refl _ _)
 rw [hf] at CF
 clear h h0 P1
 go_enter Tryz.func13,Tryz.ntmps13
 go_wp2_with (first
  | (go_at_call 29;rw [← hw0];(with_reducible refine CF.mono ?_);rintro e w1 ⟨rfl,b1⟩)
  | fail)
 exact bodyPost_ret (v:=.tuple #[.string ⟨#[]⟩,.int .i64 81]) (by simp [results,Tryz.results13,go_sem]) rfl ⟨rfl,ble b0 b1⟩
set_option maxRecDepth 100000 in
set_option maxHeartbeats 40000000 in
theorem zprint_yes {w : World} {ov ev : Value} {s : Sch} (h : SchAt w ov ev s) (hz : szS s ≤ 1048576) (hf : fineS s = true) : Calls Tryz.prog 13 #[.agg #[ov,ev]] w (PrZ w (match parseD (joinW (schT s)) with | .error _ => none | .ok _ => some (joinW (schT s)))):=by
 obtain ⟨r0,hr0⟩ : ∃ r0,(match parseD (joinW (schT s)) with | .error _ => none | .ok _ => some (joinW (schT s)) : Option Bs) = r0:=⟨_,rfl⟩
 rw [hr0]
 have HR0 : Hid ((match parseD (joinW (schT s)) with | .error _ => none | .ok _ => some (joinW (schT s)) : Option Bs) = r0):=hr0
 have HNE : Hid (schT s ≠ []):=schT_ne hf
 clear hr0
 obtain ⟨a1,c1,rfl,k1,m1⟩:=slD h.os
 obtain ⟨a3,c3,rfl,k3,m3⟩:=slD h.es
 obtain ⟨w0,hw0⟩ : ∃ w0,w0 = w.alloc (.cells #[.slice a1 s.os.length c1,.slice a3 s.es.length c3] 25):=⟨_,rfl⟩
 have b0 : Below w.heap.size w w0:=by rw [hw0];exact al1 w _
 have P1 : w0.heap[w.heap.size]? = some (.cells #[.slice a1 s.os.length c1,.slice a3 s.es.length c3] 25 (0,0)):=by rw [hw0];exact heap_alloc_new w _
 have h0:=h.on b0
 have A : Hid (∀ W,Below w0.heap.size w0 W → W.cell? ⟨w.heap.size,0,none⟩ = some (.slice a1 s.os.length c1) ∧ W.cell? ⟨w.heap.size,1,none⟩ = some (.slice a3 s.es.length c3)):=(fun W F => row2' ((F.block _ (lt_of_block P1)).trans P1))
 have HH : Hid (SchAt w0 (.slice a1 s.os.length c1) (.slice a3 s.es.length c3) s):=h0
 have CF:=dfine_any h0
 obtain ⟨q1,q2⟩:=A.out w0 (Below.refl _ _)
 rw [hf] at CF
 have HZ : Hid (szS s ≤ 1048576):=hz
 obtain ⟨i1,hi1,hy0,hy1,hy2⟩:=info_parts Tryz.infoByteI
 clear h h0 P1 hz hf
 go_enter Tryz.func13,Tryz.ntmps13
 go_wp2_with (first
  | (go_at_call 29;rw [← hw0];(with_reducible refine CF.mono ?_);rintro e w1 ⟨rfl,b1⟩)
  | fail)
 have GS : Gt w1.heap.size 5 w1 (w1.alloc (.cells #[] 5)):=gt_of (al1 w1 _)
 have HB1 : Hid (Below w0.heap.size w0 w1):=b1
 clear hw0 q1 q2 CF
 obtain ⟨B0,hB0⟩ : ∃ B0,w1.heap.size = B0:=⟨_,rfl⟩
 have RS : Rb B0 (w1.alloc (.cells #[] 5)) (.slice (some ⟨w1.heap.size,0,none⟩) 0 0) []:=by rw [← hB0];exact Rb.start w1
 rw [hB0] at GS
 have HB0 : Hid (w1.heap.size = B0):=hB0
 have K : Hid (∀ W,Gt B0 5 w1 W → Below w0.heap.size w0 W):=(fun W g => ble b1 (by have:=g.below (show B0 ≤ w1.heap.size by omega);rw [← hB0] at this;exact this))
 clear b1 hB0
 go_loopw [4,5] (fun b i wr => ∃ (j : Nat) (vb : Value) (L : Bs),i = .int .i64 (j : Int) ∧ b = vb ∧ j ≤ s.os.length ∧ Rb B0 wr vb L ∧ Hid (L = blkW (((s.os.take j).map objT).flatten)) ∧ Gt B0 5 w1 wr) (fun _ i _ => s.os.length - (RowKit.intOf i).toNat)
 case atStart => exact ⟨0,_,[],rfl,rfl,Nat.zero_le _,RS,rfl,GS⟩
 case round =>
  obtain ⟨j,vb,L,rfl,rfl,hj,hR,hL,hG⟩:=hrel
  obtain ⟨p1,p2⟩:=A.out _ (K.out _ hG)
  have lL : L.length ≤ 14680064:=by have:=obsT_len s j;have:=HZ.out;rw [hL.out];omega
  by_cases hlt : j < s.os.length
  ·obtain ⟨x,hx⟩ : ∃ x,s.os[j]? = some x:=⟨_,List.getElem?_eq_getElem hlt⟩
   have hxm : x ∈ s.os:=List.mem_of_getElem? hx
   obtain ⟨b1,o1,_,f1,g1,ee,hb1,_,e0,e1,hf1⟩:=obD (HH.out.os.on (K.out _ hG)) hx
   cases ee
   have l1 : ((j : Nat) : Int) < (s.os.length : Int):=by omega
   have hjN : ((j : Nat) : Int).toNat = j:=by omega
   have hz : Hid (j + 1 ≤ s.os.length):=hlt
   have HX : Hid (s.os[j]? = some x):=hx
   have HXM : Hid (x ∈ s.os):=hxm
   have hnl : x.n.length ≤ 1048576:=by have:=ob_len hxm;have:=HZ.out;omega
   have hc1 : ¬ (9223372036854775807 < 6 + x.n.length):=by omega
   have hc2 : ¬ (9223372036854775807 < 6 + x.n.length + 2):=by omega
   have hBz : B0 ≤ wr.heap.size:=by have:=hG.size;have:=HB0.out;omega
   clear hx hlt hxm hf1
   go_wp2_with (first
    | (at_builtin;refine Lib.wpList_append_own_string _ rfl _ _ 40 9 rfl B0 5 i1 Tryz.underlying40 Tryz.underlying9 hi1 hy0 hy1 hy2 _ _ _ rfl hR.own _ rfl (by simp only [ByteArray.size,maxLen];simp;omega) (by simp only [ByteArray.size];simp;omega) (by omega) ?_;intro vb4 w4 ho4 hg4 hn4;obtain ⟨R4,g4⟩:=hR.grow (p:=(([32,116,121,112,101,32] ++ x.n) ++ [32,123])) (by rw [bytes_addY,bytes_addY]) ho4 hg4 hn4;clear ho4 hg4 hn4;obtain ⟨L4,hL4⟩ : ∃ L4,L ++ (([32,116,121,112,101,32] ++ x.n) ++ [32,123]) = L4:=⟨_,rfl⟩;rw [hL4] at R4;have l4 : L4.length ≤ 20000000:=(by rw [← hL4];simp;omega);have H4 : Hid (L ++ (([32,116,121,112,101,32] ++ x.n) ++ [32,123]) = L4):=hL4;clear hL4)
    | fail)
   have G4:=hG.trans g4
   clear p1 p2 e0 e1 hc1 hc2 g4
   generalize wr = wA at *
   go_loopw [4,6] (fun b i wr => ∃ (k : Nat) (vb : Value) (L2 : Bs),i = .int .i64 (k : Int) ∧ b = vb ∧ k ≤ x.fs.length ∧ Rb B0 wr vb L2 ∧ Hid (L2 = L4 ++ blkW (((x.fs.take k).map fieldT).flatten)) ∧ Gt B0 5 w1 wr) (fun _ i _ => x.fs.length - (RowKit.intOf i).toNat)
   case atStart => exact ⟨0,_,L4,rfl,rfl,Nat.zero_le _,R4,(by show L4 = L4 ++ [];rw [List.append_nil]),G4⟩
   case round =>
    obtain ⟨k,vb2,L2,rfl,rfl,hk,hR2,hL2,hG2⟩:=hrel
    obtain ⟨p1,p2⟩:=A.out _ (K.out _ hG2)
    obtain ⟨b2,o2,_,f2,g2,ee,hb2,_,e0,e1,hf1⟩:=obD (HH.out.os.on (K.out _ hG2)) HX.out
    cases ee
    have hBz2 : B0 ≤ wr.heap.size:=by have:=hG2.size;have:=HB0.out;omega
    have lL2 : L2.length ≤ 40000000:=by have:=fldsT_len HXM.out k;have:=HZ.out;rw [hL2.out,List.length_append];omega
    by_cases hlk : k < x.fs.length
    ·obtain ⟨f,hff⟩ : ∃ f,x.fs[k]? = some f:=⟨_,List.getElem?_eq_getElem hlk⟩
     have mf1 : x.fs.length ≤ g2:=(slD hf1).elim fun _ q => q.elim fun _ r => (by have:=r.1;cases this;exact r.2.1)
     have mf3 : x.fs.length ≤ 140737488355328:=(slD hf1).elim fun _ q => q.elim fun _ r => r.2.2
     obtain ⟨b3,o3,rfl,hb3,y0,y1,y2,y3,y4⟩:=fldD2 hf1 hff
     have lk : ((k : Nat) : Int) < (x.fs.length : Int):=by omega
     have hkN : ((k : Nat) : Int).toNat = k:=by omega
     have hzk : Hid (k + 1 ≤ x.fs.length):=hlk
     have HFF : Hid (x.fs[k]? = some f):=hff
     have hfl:=fld_len HXM.out (List.mem_of_getElem? hff)
     have hZZ:=HZ.out
     obtain ⟨fn,ft,fw,fs,fi⟩:=f
     simp only at y0 y1 y2 y3 y4 hfl
     have ln : fn.length ≤ 1048576:=by omega
     have lt' : ft.length ≤ 1048576:=by omega
     have lw : fw.length ≤ 1048576:=by omega
     have li : fi.length ≤ 1048576:=by omega
     have hc1 : ¬ (9223372036854775807 < 1 + fn.length):=by omega
     have hc2 : ¬ (9223372036854775807 < 1 + fn.length + 2):=by omega
     have hc3 : ¬ (9223372036854775807 < 1 + ft.length):=by omega
     have hc4 : ¬ (9223372036854775807 < 24 + fi.length):=by omega
     have hc5 : ¬ (9223372036854775807 < 24 + fi.length + 2):=by omega
     obtain ⟨V0,hV0⟩ : ∃ V0,V0 = wr.alloc (.cells #[.string ⟨fn.toArray⟩,.string ⟨ft.toArray⟩,.string ⟨fw.toArray⟩,.bool fs,.string ⟨fi.toArray⟩] 63):=⟨_,rfl⟩
     have RV:=hR2.on (al1 wr (.cells #[.string ⟨fn.toArray⟩,.string ⟨ft.toArray⟩,.string ⟨fw.toArray⟩,.bool fs,.string ⟨fi.toArray⟩] 63))
     rw [← hV0] at RV
     have gV : Gt B0 5 wr V0:=by rw [hV0];exact gt_of (al1 wr _)
     have hzV : B0 ≤ V0.heap.size:=by have:=gV.size;omega
     have Q5 : V0.heap[wr.heap.size]? = some (.cells #[.string ⟨fn.toArray⟩,.string ⟨ft.toArray⟩,.string ⟨fw.toArray⟩,.bool fs,.string ⟨fi.toArray⟩] 63 (0,0)):=by rw [hV0];exact heap_alloc_new wr _
     have C : Hid (∀ W,Gt B0 5 V0 W → W.cell? ⟨wr.heap.size,0,none⟩ = some (.string ⟨fn.toArray⟩) ∧ W.cell? ⟨wr.heap.size,1,none⟩ = some (.string ⟨ft.toArray⟩) ∧ W.cell? ⟨wr.heap.size,2,none⟩ = some (.string ⟨fw.toArray⟩) ∧ W.cell? ⟨wr.heap.size,3,none⟩ = some (.bool fs) ∧ W.cell? ⟨wr.heap.size,4,none⟩ = some (.string ⟨fi.toArray⟩)):=(fun W g => by
      have r:=rowZ5 (g.block _ _ Q5 (Or.inr fun cur e => by cases e))
      exact ⟨r.1,r.2.1,r.2.2.1,r.2.2.2.1,r.2.2.2.2.1⟩)
     obtain ⟨c0,c1',c2,c3',c4⟩:=C.out V0 (Gt.refl _ _ _)
     have GV:=Gt.refl B0 5 V0
     clear Q5 hff hlk hf1 hfl hZZ
     go_wp2_with (first
      | (at_builtin;rw [← hV0];refine Lib.wpList_append_own_string _ rfl _ _ 40 9 rfl B0 5 i1 Tryz.underlying40 Tryz.underlying9 hi1 hy0 hy1 hy2 _ _ _ rfl RV.own _ rfl (by simp only [ByteArray.size,maxLen];simp;omega) (by simp only [ByteArray.size];simp;omega) (by omega) ?_;intro vb5 w5 ho5 hg5 hn5;obtain ⟨R5,g5⟩:=RV.grow (p:=(([32] ++ fn) ++ [32,58])) (by rw [bytes_addY,bytes_addY]) ho5 hg5 hn5;clear ho5 hg5 hn5;obtain ⟨L5,hL5⟩ : ∃ L5,L2 ++ (([32] ++ fn) ++ [32,58]) = L5:=⟨_,rfl⟩;rw [hL5] at R5;have l5 : L5.length ≤ 45000000:=(by rw [← hL5];simp;omega);have H5 : Hid (L2 ++ (([32] ++ fn) ++ [32,58]) = L5):=hL5;clear hL5;have G5:=GV.trans g5;obtain ⟨d50,d51,d52,d53,d54⟩:=C.out w5 G5)
      | fail)
     clear hV0 p1 p2 e0 e1 y0 y1 y2 y3 y4 c0 c1' c2 c3' c4 d50 d51 d52 d53 d54 hc1 hc2
     generalize wr = wB at *
     go_loopw [8,9] (fun lf i wr => ∃ (m : Nat) (lb : Bool),i = .int .i64 (m : Int) ∧ lf = .bool lb ∧ m ≤ fw.length ∧ Hid (lb = (fw.take m).contains 91) ∧ Below w5.heap.size w5 wr) (fun _ i _ => fw.length - (RowKit.intOf i).toNat)
     case atStart => exact ⟨0,false,rfl,rfl,Nat.zero_le _,rfl,Below.refl _ _⟩
     case round =>
      obtain ⟨m,lb,rfl,rfl,hm,hlb,hb5⟩:=hrel
      have G5b:=G5.trans (gt_of (B:=B0) (E:=5) hb5)
      have R5b:=R5.on hb5
      obtain ⟨d50,d51,d52,d53,d54⟩:=C.out _ G5b
      have hz5 : B0 ≤ wr.heap.size:=by have:=G5b.size;omega
      by_cases hlm : m < fw.length
      ·obtain ⟨c,hc⟩ : ∃ c,fw[m]? = some c:=⟨_,List.getElem?_eq_getElem hlm⟩
       have gX:=byte_at fw hc
       have l3 : ((m : Nat) : Int) < (fw.length : Int):=by omega
       have hmN : ((m : Nat) : Int).toNat = m:=by omega
       have hzm : Hid (m + 1 ≤ fw.length):=hlm
       have HNX:=open_next hc
       rw [← hlb.out] at HNX
       have HNX' : Hid ((fw.take (m + 1)).contains 91 = (lb || (c == 91))):=HNX
       clear hlm hc HNX
       cases lb with
       | true =>
        go_wp2
        refine ⟨⟨m + 1,true,by simp,rfl,hzm.out,HNX'.out.symm,hb5⟩,?_⟩
        have:=hzm.out
        simp [RowKit.intOf]
        omega
       | false =>
        by_cases h91 : c = 91
        ·have m3 : ((c.toNat : Int) == 91) = true:=by rw [h91];rfl
         have HN2 : Hid ((fw.take (m + 1)).contains 91 = true):=by show _ = _;rw [HNX'.out,h91];rfl
         clear h91
         go_wp2
         refine ⟨⟨m + 1,true,by simp,rfl,hzm.out,HN2.out.symm,hb5⟩,?_⟩
         have:=hzm.out
         simp [RowKit.intOf]
         omega
        ·have m3 : ((c.toNat : Int) == 91) = false:=beq_eq_false_iff_ne.2 (fun e => h91 (UInt8.toNat_inj.1 (by rw [show (91 : UInt8).toNat = 91 from rfl];omega)))
         have HN2 : Hid ((fw.take (m + 1)).contains 91 = false):=by show _ = _;rw [HNX'.out];simpa using h91
         clear h91
         go_wp2
         refine ⟨⟨m + 1,false,by simp,rfl,hzm.out,HN2.out.symm,hb5⟩,?_⟩
         have:=hzm.out
         simp [RowKit.intOf]
         omega
      ·have lm2 : decide (((m : Nat) : Int) < (fw.length : Int)) = false:=by simp;omega
       have lm3 : decide (m < fw.length) = false:=by simp;omega
       have hop0 : lb = fw.contains 91:=by rw [hlb.out,List.take_of_length_le (by omega)]
       clear hlm hlb
       cases lb with
       | true =>
        have hop : Hid (fw.contains 91 = true):=hop0.symm
        clear hop0
        go_wp2_with (first
         | (at_builtin;refine Lib.wpList_append_own_string _ rfl _ _ 40 9 rfl B0 5 i1 Tryz.underlying40 Tryz.underlying9 hi1 hy0 hy1 hy2 _ _ _ rfl R6.own _ rfl (by simp only [ByteArray.size,maxLen];simp;omega) (by simp only [ByteArray.size];simp;omega) (by have:=G6.size;omega) ?_;intro vb7 w7 ho7 hg7 hn7;obtain ⟨R7,g7⟩:=R6.grow (p:=([32] ++ ft)) (by rw [bytes_addY]) ho7 hg7 hn7;clear ho7 hg7 hn7;obtain ⟨L7,hL7⟩ : ∃ L7,L6 ++ ([32] ++ ft) = L7:=⟨_,rfl⟩;rw [hL7] at R7;have l7 : L7.length ≤ 55000000:=(by rw [← hL7];simp;omega);have H7 : Hid (L6 ++ ([32] ++ ft) = L7):=hL7;clear hL7;have G7:=G6.trans g7;obtain ⟨d70,d71,d72,d73,d74⟩:=C.out w7 G7)
         | (at_builtin;refine Lib.wpList_append_own_string _ rfl _ _ 40 9 rfl B0 5 i1 Tryz.underlying40 Tryz.underlying9 hi1 hy0 hy1 hy2 _ _ _ rfl R5b.own _ rfl (by simp only [ByteArray.size,maxLen];simp;omega) (by simp only [ByteArray.size];simp;omega) (by omega) ?_;intro vb6 w6 ho6 hg6 hn6;obtain ⟨R6,g6⟩:=R5b.grow (p:=[32,91]) (by rfl) ho6 hg6 hn6;clear ho6 hg6 hn6;obtain ⟨L6,hL6⟩ : ∃ L6,L5 ++ [32,91] = L6:=⟨_,rfl⟩;rw [hL6] at R6;have l6 : L6.length ≤ 50000000:=(by rw [← hL6];simp;omega);have H6 : Hid (L5 ++ [32,91] = L6):=hL6;clear hL6;have G6:=G5b.trans g6;obtain ⟨d60,d61,d62,d63,d64⟩:=C.out w6 G6)
         | fail)
        clear d70 d71 d72 d73 d74 d60 d61 d62 d63 d64
        generalize wr = wC at *
        go_loopw [4,10] (fun b i wr => ∃ (m : Nat) (vb : Value) (L8 : Bs),i = .int .i64 (m : Int) ∧ b = vb ∧ m ≤ fw.length ∧ Rb B0 wr vb L8 ∧ Hid (L8 = L7 ++ blkW (signsW (fw.take m))) ∧ Gt B0 5 V0 wr) (fun _ i _ => fw.length - (RowKit.intOf i).toNat)
        case atStart => exact ⟨0,_,L7,rfl,rfl,Nat.zero_le _,R7,(by show L7 = L7 ++ [];rw [List.append_nil]),G7⟩
        case round =>
         obtain ⟨m8,vb8,L8,rfl,rfl,hm8,R8,hL8,G8⟩:=hrel
         obtain ⟨d80,d81,d82,d83,d84⟩:=C.out _ G8
         have hz8 : B0 ≤ wr.heap.size:=by have:=G8.size;omega
         have l8 : L8.length ≤ 60000000:=by
          have h1:=signs_len (fw.take m8)
          have h2 : (fw.take m8).length ≤ fw.length:=by simp;omega
          rw [hL8.out,List.length_append]
          omega
         by_cases hlm8 : m8 < fw.length
         ·obtain ⟨c,hc⟩ : ∃ c,fw[m8]? = some c:=⟨_,List.getElem?_eq_getElem hlm8⟩
          have gX:=byte_at fw hc
          have l3 : ((m8 : Nat) : Int) < (fw.length : Int):=by omega
          have hmN : ((m8 : Nat) : Int).toNat = m8:=by omega
          have hzm : Hid (m8 + 1 ≤ fw.length):=hlm8
          have HC8 : Hid (fw[m8]? = some c):=hc
          clear hlm8 hc
          by_cases h91 : c = 91
          ·have m3 : ((c.toNat : Int) == 91) = true:=by rw [h91];rfl
           have hb : (c == 91) = true:=by rw [h91];rfl
           clear h91
           go_wp2_with (first
            | (at_builtin;refine Lib.wpList_append_own_string _ rfl _ _ 40 9 rfl B0 5 i1 Tryz.underlying40 Tryz.underlying9 hi1 hy0 hy1 hy2 _ _ _ rfl R8.own _ rfl (by simp only [ByteArray.size,maxLen];simp;omega) (by simp only [ByteArray.size];simp;omega) (by omega) ?_;intro vb11 w11 ho11 hg11 hn11;obtain ⟨R11,g11⟩:=R8.grow (p:=[32,93]) (by rfl) ho11 hg11 hn11;clear ho11 hg11 hn11;obtain ⟨L11,hL11⟩ : ∃ L11,L8 ++ [32,93] = L11:=⟨_,rfl⟩;rw [hL11] at R11;have l11 : L11.length ≤ 70000000:=(by rw [← hL11];simp;omega);have H11 : Hid (L8 ++ [32,93] = L11):=hL11;clear hL11;have G11:=G8.trans g11;obtain ⟨d110,d111,d112,d113,d114⟩:=C.out w11 G11)
            | fail)
           have HLm : Hid (L11 = L7 ++ blkW (signsW (fw.take (m8 + 1)))):=by
            show L11 = _
            rw [signs_next HC8.out,← H11.out,hL8.out,hb,List.append_assoc]
            rfl
           refine ⟨⟨m8 + 1,_,L11,by simp,rfl,hzm.out,R11,HLm,G11⟩,?_⟩
           have:=hzm.out
           simp [RowKit.intOf]
           omega
          ·have m3 : ((c.toNat : Int) == 91) = false:=beq_eq_false_iff_ne.2 (fun e => h91 (UInt8.toNat_inj.1 (by rw [show (91 : UInt8).toNat = 91 from rfl];omega)))
           have hb : (c == 91) = false:=by simpa using h91
           clear h91
           go_wp2_with (first
            | (at_builtin;refine Lib.wpList_append_own_string _ rfl _ _ 40 9 rfl B0 5 i1 Tryz.underlying40 Tryz.underlying9 hi1 hy0 hy1 hy2 _ _ _ rfl R8.own _ rfl (by simp only [ByteArray.size,maxLen];simp;omega) (by simp only [ByteArray.size];simp;omega) (by omega) ?_;intro vb11 w11 ho11 hg11 hn11;obtain ⟨R11,g11⟩:=R8.grow (p:=[32,33]) (by rfl) ho11 hg11 hn11;clear ho11 hg11 hn11;obtain ⟨L11,hL11⟩ : ∃ L11,L8 ++ [32,33] = L11:=⟨_,rfl⟩;rw [hL11] at R11;have l11 : L11.length ≤ 70000000:=(by rw [← hL11];simp;omega);have H11 : Hid (L8 ++ [32,33] = L11):=hL11;clear hL11;have G11:=G8.trans g11;obtain ⟨d110,d111,d112,d113,d114⟩:=C.out w11 G11)
            | fail)
           have HLm : Hid (L11 = L7 ++ blkW (signsW (fw.take (m8 + 1)))):=by
            show L11 = _
            rw [signs_next HC8.out,← H11.out,hL8.out,hb,List.append_assoc]
            rfl
           refine ⟨⟨m8 + 1,_,L11,by simp,rfl,hzm.out,R11,HLm,G11⟩,?_⟩
           have:=hzm.out
           simp [RowKit.intOf]
           omega
         ·have lm2 : decide (((m8 : Nat) : Int) < (fw.length : Int)) = false:=by simp;omega
          have lm3 : decide (m8 < fw.length) = false:=by simp;omega
          replace hm8 : fw.length ≤ m8:=by omega
          clear hlm8
          generalize wr = wD at *
          cases fs with
          | true =>
           cases hfi : (fi == []) with
           | true =>
            have hem : Hid ((fi == []) = true):=hfi
            have e4 : fi.isEmpty = true:=by cases fi <;> simp_all
            clear hfi
            go_wp2_with (first
             | (at_builtin;refine Lib.wpList_append_own_string _ rfl _ _ 40 9 rfl B0 5 i1 Tryz.underlying40 Tryz.underlying9 hi1 hy0 hy1 hy2 _ _ _ rfl R8.own _ rfl (by simp only [ByteArray.size,maxLen];simp;omega) (by simp only [ByteArray.size];simp;omega) (by omega) ?_;intro vb9 w9 ho9 hg9 hn9;obtain ⟨R9,g9⟩:=R8.grow (p:=[32,64,32,115,101,97,114,99,104]) (by rfl) ho9 hg9 hn9;clear ho9 hg9 hn9;obtain ⟨L9,hL9⟩ : ∃ L9,L8 ++ [32,64,32,115,101,97,114,99,104] = L9:=⟨_,rfl⟩;rw [hL9] at R9;have l9 : L9.length ≤ 70000000:=(by rw [← hL9];simp;omega);have H9 : Hid (L8 ++ [32,64,32,115,101,97,114,99,104] = L9):=hL9;clear hL9;have G9:=G8.trans g9;obtain ⟨d90,d91,d92,d93,d94⟩:=C.out w9 G9)
             | fail)
            have HLn : Hid (L9 = L4 ++ blkW (((x.fs.take (k + 1)).map fieldT).flatten)):=by
             show L9 = _
             rw [blk_next fieldT HFF.out,fieldT_blk]
             simp only [← H9.out,hL8.out,← H7.out,← H6.out,← H5.out,hL2.out]
             have hq : (91 : UInt8) ∈ fw:=by simpa using hop.out
             simp [hq,hem.out,List.take_of_length_le hm8]
            refine ⟨⟨k + 1,_,L9,by simp,rfl,hzk.out,R9,HLn,(hG2.trans gV).trans G9⟩,?_⟩
            have:=hzk.out
            simp [RowKit.intOf]
            omega
           | false =>
            have hem : Hid ((fi == []) = false):=hfi
            have e4 : fi.isEmpty = false:=by cases fi <;> simp_all
            clear hfi
            go_wp2_with (first
             | (at_builtin;refine Lib.wpList_append_own_string _ rfl _ _ 40 9 rfl B0 5 i1 Tryz.underlying40 Tryz.underlying9 hi1 hy0 hy1 hy2 _ _ _ rfl R9.own _ rfl (by simp only [ByteArray.size,maxLen];simp;omega) (by simp only [ByteArray.size];simp;omega) (by have:=G9.size;omega) ?_;intro vb10 w10 ho10 hg10 hn10;obtain ⟨R10,g10⟩:=R9.grow (p:=(([32,64,32,104,97,115,73,110,118,101,114,115,101,32,40,32,102,105,101,108,100,32,58,32] ++ fi) ++ [32,41])) (by rw [bytes_addY,bytes_addY]) ho10 hg10 hn10;clear ho10 hg10 hn10;obtain ⟨L10,hL10⟩ : ∃ L10,L9 ++ (([32,64,32,104,97,115,73,110,118,101,114,115,101,32,40,32,102,105,101,108,100,32,58,32] ++ fi) ++ [32,41]) = L10:=⟨_,rfl⟩;rw [hL10] at R10;have l10 : L10.length ≤ 80000000:=(by rw [← hL10];simp;omega);have H10 : Hid (L9 ++ (([32,64,32,104,97,115,73,110,118,101,114,115,101,32,40,32,102,105,101,108,100,32,58,32] ++ fi) ++ [32,41]) = L10):=hL10;clear hL10;have G10:=G9.trans g10;obtain ⟨d100,d101,d102,d103,d104⟩:=C.out w10 G10)
             | (at_builtin;refine Lib.wpList_append_own_string _ rfl _ _ 40 9 rfl B0 5 i1 Tryz.underlying40 Tryz.underlying9 hi1 hy0 hy1 hy2 _ _ _ rfl R8.own _ rfl (by simp only [ByteArray.size,maxLen];simp;omega) (by simp only [ByteArray.size];simp;omega) (by omega) ?_;intro vb9 w9 ho9 hg9 hn9;obtain ⟨R9,g9⟩:=R8.grow (p:=[32,64,32,115,101,97,114,99,104]) (by rfl) ho9 hg9 hn9;clear ho9 hg9 hn9;obtain ⟨L9,hL9⟩ : ∃ L9,L8 ++ [32,64,32,115,101,97,114,99,104] = L9:=⟨_,rfl⟩;rw [hL9] at R9;have l9 : L9.length ≤ 70000000:=(by rw [← hL9];simp;omega);have H9 : Hid (L8 ++ [32,64,32,115,101,97,114,99,104] = L9):=hL9;clear hL9;have G9:=G8.trans g9;obtain ⟨d90,d91,d92,d93,d94⟩:=C.out w9 G9)
             | fail)
            have HLn : Hid (L10 = L4 ++ blkW (((x.fs.take (k + 1)).map fieldT).flatten)):=by
             show L10 = _
             rw [blk_next fieldT HFF.out,fieldT_blk]
             simp only [← H10.out,← H9.out,hL8.out,← H7.out,← H6.out,← H5.out,hL2.out]
             have hq : (91 : UInt8) ∈ fw:=by simpa using hop.out
             simp [hq,hem.out,List.take_of_length_le hm8]
            refine ⟨⟨k + 1,_,L10,by simp,rfl,hzk.out,R10,HLn,(hG2.trans gV).trans G10⟩,?_⟩
            have:=hzk.out
            simp [RowKit.intOf]
            omega
          | false =>
           cases hfi : (fi == []) with
           | true =>
            have hem : Hid ((fi == []) = true):=hfi
            have e4 : fi.isEmpty = true:=by cases fi <;> simp_all
            clear hfi
            go_wp2
            have HLn : Hid (L8 = L4 ++ blkW (((x.fs.take (k + 1)).map fieldT).flatten)):=by
             show L8 = _
             rw [blk_next fieldT HFF.out,fieldT_blk]
             simp only [hL8.out,← H7.out,← H6.out,← H5.out,hL2.out]
             have hq : (91 : UInt8) ∈ fw:=by simpa using hop.out
             simp [hq,hem.out,List.take_of_length_le hm8]
            refine ⟨⟨k + 1,_,L8,by simp,rfl,hzk.out,R8,HLn,(hG2.trans gV).trans G8⟩,?_⟩
            have:=hzk.out
            simp [RowKit.intOf]
            omega
           | false =>
            have hem : Hid ((fi == []) = false):=hfi
            have e4 : fi.isEmpty = false:=by cases fi <;> simp_all
            clear hfi
            go_wp2_with (first
             | (at_builtin;refine Lib.wpList_append_own_string _ rfl _ _ 40 9 rfl B0 5 i1 Tryz.underlying40 Tryz.underlying9 hi1 hy0 hy1 hy2 _ _ _ rfl R8.own _ rfl (by simp only [ByteArray.size,maxLen];simp;omega) (by simp only [ByteArray.size];simp;omega) (by omega) ?_;intro vb10 w10 ho10 hg10 hn10;obtain ⟨R10,g10⟩:=R8.grow (p:=(([32,64,32,104,97,115,73,110,118,101,114,115,101,32,40,32,102,105,101,108,100,32,58,32] ++ fi) ++ [32,41])) (by rw [bytes_addY,bytes_addY]) ho10 hg10 hn10;clear ho10 hg10 hn10;obtain ⟨L10,hL10⟩ : ∃ L10,L8 ++ (([32,64,32,104,97,115,73,110,118,101,114,115,101,32,40,32,102,105,101,108,100,32,58,32] ++ fi) ++ [32,41]) = L10:=⟨_,rfl⟩;rw [hL10] at R10;have l10 : L10.length ≤ 80000000:=(by rw [← hL10];simp;omega);have H10 : Hid (L8 ++ (([32,64,32,104,97,115,73,110,118,101,114,115,101,32,40,32,102,105,101,108,100,32,58,32] ++ fi) ++ [32,41]) = L10):=hL10;clear hL10;have G10:=G8.trans g10;obtain ⟨d100,d101,d102,d103,d104⟩:=C.out w10 G10)
             | fail)
            have HLn : Hid (L10 = L4 ++ blkW (((x.fs.take (k + 1)).map fieldT).flatten)):=by
             show L10 = _
             rw [blk_next fieldT HFF.out,fieldT_blk]
             simp only [← H10.out,hL8.out,← H7.out,← H6.out,← H5.out,hL2.out]
             have hq : (91 : UInt8) ∈ fw:=by simpa using hop.out
             simp [hq,hem.out,List.take_of_length_le hm8]
            refine ⟨⟨k + 1,_,L10,by simp,rfl,hzk.out,R10,HLn,(hG2.trans gV).trans G10⟩,?_⟩
            have:=hzk.out
            simp [RowKit.intOf]
            omega
       | false =>
        have hop : Hid (fw.contains 91 = false):=hop0.symm
        clear hop0
        go_wp2_with (first
         | (at_builtin;refine Lib.wpList_append_own_string _ rfl _ _ 40 9 rfl B0 5 i1 Tryz.underlying40 Tryz.underlying9 hi1 hy0 hy1 hy2 _ _ _ rfl R5b.own _ rfl (by simp only [ByteArray.size,maxLen];simp;omega) (by simp only [ByteArray.size];simp;omega) (by omega) ?_;intro vb7 w7 ho7 hg7 hn7;obtain ⟨R7,g7⟩:=R5b.grow (p:=([32] ++ ft)) (by rw [bytes_addY]) ho7 hg7 hn7;clear ho7 hg7 hn7;obtain ⟨L7,hL7⟩ : ∃ L7,L5 ++ ([32] ++ ft) = L7:=⟨_,rfl⟩;rw [hL7] at R7;have l7 : L7.length ≤ 55000000:=(by rw [← hL7];simp;omega);have H7 : Hid (L5 ++ ([32] ++ ft) = L7):=hL7;clear hL7;have G7:=G5b.trans g7;obtain ⟨d70,d71,d72,d73,d74⟩:=C.out w7 G7)
         | fail)
        clear d70 d71 d72 d73 d74
        generalize wr = wC at *
        go_loopw [4,10] (fun b i wr => ∃ (m : Nat) (vb : Value) (L8 : Bs),i = .int .i64 (m : Int) ∧ b = vb ∧ m ≤ fw.length ∧ Rb B0 wr vb L8 ∧ Hid (L8 = L7 ++ blkW (signsW (fw.take m))) ∧ Gt B0 5 V0 wr) (fun _ i _ => fw.length - (RowKit.intOf i).toNat)
        case atStart => exact ⟨0,_,L7,rfl,rfl,Nat.zero_le _,R7,(by show L7 = L7 ++ [];rw [List.append_nil]),G7⟩
        case round =>
         obtain ⟨m8,vb8,L8,rfl,rfl,hm8,R8,hL8,G8⟩:=hrel
         obtain ⟨d80,d81,d82,d83,d84⟩:=C.out _ G8
         have hz8 : B0 ≤ wr.heap.size:=by have:=G8.size;omega
         have l8 : L8.length ≤ 60000000:=by
          have h1:=signs_len (fw.take m8)
          have h2 : (fw.take m8).length ≤ fw.length:=by simp;omega
          rw [hL8.out,List.length_append]
          omega
         by_cases hlm8 : m8 < fw.length
         ·obtain ⟨c,hc⟩ : ∃ c,fw[m8]? = some c:=⟨_,List.getElem?_eq_getElem hlm8⟩
          have gX:=byte_at fw hc
          have l3 : ((m8 : Nat) : Int) < (fw.length : Int):=by omega
          have hmN : ((m8 : Nat) : Int).toNat = m8:=by omega
          have hzm : Hid (m8 + 1 ≤ fw.length):=hlm8
          have HC8 : Hid (fw[m8]? = some c):=hc
          clear hlm8 hc
          by_cases h91 : c = 91
          ·have m3 : ((c.toNat : Int) == 91) = true:=by rw [h91];rfl
           have hb : (c == 91) = true:=by rw [h91];rfl
           clear h91
           go_wp2_with (first
            | (at_builtin;refine Lib.wpList_append_own_string _ rfl _ _ 40 9 rfl B0 5 i1 Tryz.underlying40 Tryz.underlying9 hi1 hy0 hy1 hy2 _ _ _ rfl R8.own _ rfl (by simp only [ByteArray.size,maxLen];simp;omega) (by simp only [ByteArray.size];simp;omega) (by omega) ?_;intro vb11 w11 ho11 hg11 hn11;obtain ⟨R11,g11⟩:=R8.grow (p:=[32,93]) (by rfl) ho11 hg11 hn11;clear ho11 hg11 hn11;obtain ⟨L11,hL11⟩ : ∃ L11,L8 ++ [32,93] = L11:=⟨_,rfl⟩;rw [hL11] at R11;have l11 : L11.length ≤ 70000000:=(by rw [← hL11];simp;omega);have H11 : Hid (L8 ++ [32,93] = L11):=hL11;clear hL11;have G11:=G8.trans g11;obtain ⟨d110,d111,d112,d113,d114⟩:=C.out w11 G11)
            | fail)
           have HLm : Hid (L11 = L7 ++ blkW (signsW (fw.take (m8 + 1)))):=by
            show L11 = _
            rw [signs_next HC8.out,← H11.out,hL8.out,hb,List.append_assoc]
            rfl
           refine ⟨⟨m8 + 1,_,L11,by simp,rfl,hzm.out,R11,HLm,G11⟩,?_⟩
           have:=hzm.out
           simp [RowKit.intOf]
           omega
          ·have m3 : ((c.toNat : Int) == 91) = false:=beq_eq_false_iff_ne.2 (fun e => h91 (UInt8.toNat_inj.1 (by rw [show (91 : UInt8).toNat = 91 from rfl];omega)))
           have hb : (c == 91) = false:=by simpa using h91
           clear h91
           go_wp2_with (first
            | (at_builtin;refine Lib.wpList_append_own_string _ rfl _ _ 40 9 rfl B0 5 i1 Tryz.underlying40 Tryz.underlying9 hi1 hy0 hy1 hy2 _ _ _ rfl R8.own _ rfl (by simp only [ByteArray.size,maxLen];simp;omega) (by simp only [ByteArray.size];simp;omega) (by omega) ?_;intro vb11 w11 ho11 hg11 hn11;obtain ⟨R11,g11⟩:=R8.grow (p:=[32,33]) (by rfl) ho11 hg11 hn11;clear ho11 hg11 hn11;obtain ⟨L11,hL11⟩ : ∃ L11,L8 ++ [32,33] = L11:=⟨_,rfl⟩;rw [hL11] at R11;have l11 : L11.length ≤ 70000000:=(by rw [← hL11];simp;omega);have H11 : Hid (L8 ++ [32,33] = L11):=hL11;clear hL11;have G11:=G8.trans g11;obtain ⟨d110,d111,d112,d113,d114⟩:=C.out w11 G11)
            | fail)
           have HLm : Hid (L11 = L7 ++ blkW (signsW (fw.take (m8 + 1)))):=by
            show L11 = _
            rw [signs_next HC8.out,← H11.out,hL8.out,hb,List.append_assoc]
            rfl
           refine ⟨⟨m8 + 1,_,L11,by simp,rfl,hzm.out,R11,HLm,G11⟩,?_⟩
           have:=hzm.out
           simp [RowKit.intOf]
           omega
         ·have lm2 : decide (((m8 : Nat) : Int) < (fw.length : Int)) = false:=by simp;omega
          have lm3 : decide (m8 < fw.length) = false:=by simp;omega
          replace hm8 : fw.length ≤ m8:=by omega
          clear hlm8
          generalize wr = wD at *
          cases fs with
          | true =>
           cases hfi : (fi == []) with
           | true =>
            have hem : Hid ((fi == []) = true):=hfi
            have e4 : fi.isEmpty = true:=by cases fi <;> simp_all
            clear hfi
            go_wp2_with (first
             | (at_builtin;refine Lib.wpList_append_own_string _ rfl _ _ 40 9 rfl B0 5 i1 Tryz.underlying40 Tryz.underlying9 hi1 hy0 hy1 hy2 _ _ _ rfl R8.own _ rfl (by simp only [ByteArray.size,maxLen];simp;omega) (by simp only [ByteArray.size];simp;omega) (by omega) ?_;intro vb9 w9 ho9 hg9 hn9;obtain ⟨R9,g9⟩:=R8.grow (p:=[32,64,32,115,101,97,114,99,104]) (by rfl) ho9 hg9 hn9;clear ho9 hg9 hn9;obtain ⟨L9,hL9⟩ : ∃ L9,L8 ++ [32,64,32,115,101,97,114,99,104] = L9:=⟨_,rfl⟩;rw [hL9] at R9;have l9 : L9.length ≤ 70000000:=(by rw [← hL9];simp;omega);have H9 : Hid (L8 ++ [32,64,32,115,101,97,114,99,104] = L9):=hL9;clear hL9;have G9:=G8.trans g9;obtain ⟨d90,d91,d92,d93,d94⟩:=C.out w9 G9)
             | fail)
            have HLn : Hid (L9 = L4 ++ blkW (((x.fs.take (k + 1)).map fieldT).flatten)):=by
             show L9 = _
             rw [blk_next fieldT HFF.out,fieldT_blk]
             simp only [← H9.out,hL8.out,← H7.out,← H5.out,hL2.out]
             have hq : ¬ (91 : UInt8) ∈ fw:=by simpa using hop.out
             simp [hq,hem.out,List.take_of_length_le hm8]
            refine ⟨⟨k + 1,_,L9,by simp,rfl,hzk.out,R9,HLn,(hG2.trans gV).trans G9⟩,?_⟩
            have:=hzk.out
            simp [RowKit.intOf]
            omega
           | false =>
            have hem : Hid ((fi == []) = false):=hfi
            have e4 : fi.isEmpty = false:=by cases fi <;> simp_all
            clear hfi
            go_wp2_with (first
             | (at_builtin;refine Lib.wpList_append_own_string _ rfl _ _ 40 9 rfl B0 5 i1 Tryz.underlying40 Tryz.underlying9 hi1 hy0 hy1 hy2 _ _ _ rfl R9.own _ rfl (by simp only [ByteArray.size,maxLen];simp;omega) (by simp only [ByteArray.size];simp;omega) (by have:=G9.size;omega) ?_;intro vb10 w10 ho10 hg10 hn10;obtain ⟨R10,g10⟩:=R9.grow (p:=(([32,64,32,104,97,115,73,110,118,101,114,115,101,32,40,32,102,105,101,108,100,32,58,32] ++ fi) ++ [32,41])) (by rw [bytes_addY,bytes_addY]) ho10 hg10 hn10;clear ho10 hg10 hn10;obtain ⟨L10,hL10⟩ : ∃ L10,L9 ++ (([32,64,32,104,97,115,73,110,118,101,114,115,101,32,40,32,102,105,101,108,100,32,58,32] ++ fi) ++ [32,41]) = L10:=⟨_,rfl⟩;rw [hL10] at R10;have l10 : L10.length ≤ 80000000:=(by rw [← hL10];simp;omega);have H10 : Hid (L9 ++ (([32,64,32,104,97,115,73,110,118,101,114,115,101,32,40,32,102,105,101,108,100,32,58,32] ++ fi) ++ [32,41]) = L10):=hL10;clear hL10;have G10:=G9.trans g10;obtain ⟨d100,d101,d102,d103,d104⟩:=C.out w10 G10)
             | (at_builtin;refine Lib.wpList_append_own_string _ rfl _ _ 40 9 rfl B0 5 i1 Tryz.underlying40 Tryz.underlying9 hi1 hy0 hy1 hy2 _ _ _ rfl R8.own _ rfl (by simp only [ByteArray.size,maxLen];simp;omega) (by simp only [ByteArray.size];simp;omega) (by omega) ?_;intro vb9 w9 ho9 hg9 hn9;obtain ⟨R9,g9⟩:=R8.grow (p:=[32,64,32,115,101,97,114,99,104]) (by rfl) ho9 hg9 hn9;clear ho9 hg9 hn9;obtain ⟨L9,hL9⟩ : ∃ L9,L8 ++ [32,64,32,115,101,97,114,99,104] = L9:=⟨_,rfl⟩;rw [hL9] at R9;have l9 : L9.length ≤ 70000000:=(by rw [← hL9];simp;omega);have H9 : Hid (L8 ++ [32,64,32,115,101,97,114,99,104] = L9):=hL9;clear hL9;have G9:=G8.trans g9;obtain ⟨d90,d91,d92,d93,d94⟩:=C.out w9 G9)
             | fail)
            have HLn : Hid (L10 = L4 ++ blkW (((x.fs.take (k + 1)).map fieldT).flatten)):=by
             show L10 = _
             rw [blk_next fieldT HFF.out,fieldT_blk]
             simp only [← H10.out,← H9.out,hL8.out,← H7.out,← H5.out,hL2.out]
             have hq : ¬ (91 : UInt8) ∈ fw:=by simpa using hop.out
             simp [hq,hem.out,List.take_of_length_le hm8]
            refine ⟨⟨k + 1,_,L10,by simp,rfl,hzk.out,R10,HLn,(hG2.trans gV).trans G10⟩,?_⟩
            have:=hzk.out
            simp [RowKit.intOf]
            omega
          | false =>
           cases hfi : (fi == []) with
           | true =>
            have hem : Hid ((fi == []) = true):=hfi
            have e4 : fi.isEmpty = true:=by cases fi <;> simp_all
            clear hfi
            go_wp2
            have HLn : Hid (L8 = L4 ++ blkW (((x.fs.take (k + 1)).map fieldT).flatten)):=by
             show L8 = _
             rw [blk_next fieldT HFF.out,fieldT_blk]
             simp only [hL8.out,← H7.out,← H5.out,hL2.out]
             have hq : ¬ (91 : UInt8) ∈ fw:=by simpa using hop.out
             simp [hq,hem.out,List.take_of_length_le hm8]
            refine ⟨⟨k + 1,_,L8,by simp,rfl,hzk.out,R8,HLn,(hG2.trans gV).trans G8⟩,?_⟩
            have:=hzk.out
            simp [RowKit.intOf]
            omega
           | false =>
            have hem : Hid ((fi == []) = false):=hfi
            have e4 : fi.isEmpty = false:=by cases fi <;> simp_all
            clear hfi
            go_wp2_with (first
             | (at_builtin;refine Lib.wpList_append_own_string _ rfl _ _ 40 9 rfl B0 5 i1 Tryz.underlying40 Tryz.underlying9 hi1 hy0 hy1 hy2 _ _ _ rfl R8.own _ rfl (by simp only [ByteArray.size,maxLen];simp;omega) (by simp only [ByteArray.size];simp;omega) (by omega) ?_;intro vb10 w10 ho10 hg10 hn10;obtain ⟨R10,g10⟩:=R8.grow (p:=(([32,64,32,104,97,115,73,110,118,101,114,115,101,32,40,32,102,105,101,108,100,32,58,32] ++ fi) ++ [32,41])) (by rw [bytes_addY,bytes_addY]) ho10 hg10 hn10;clear ho10 hg10 hn10;obtain ⟨L10,hL10⟩ : ∃ L10,L8 ++ (([32,64,32,104,97,115,73,110,118,101,114,115,101,32,40,32,102,105,101,108,100,32,58,32] ++ fi) ++ [32,41]) = L10:=⟨_,rfl⟩;rw [hL10] at R10;have l10 : L10.length ≤ 80000000:=(by rw [← hL10];simp;omega);have H10 : Hid (L8 ++ (([32,64,32,104,97,115,73,110,118,101,114,115,101,32,40,32,102,105,101,108,100,32,58,32] ++ fi) ++ [32,41]) = L10):=hL10;clear hL10;have G10:=G8.trans g10;obtain ⟨d100,d101,d102,d103,d104⟩:=C.out w10 G10)
             | fail)
            have HLn : Hid (L10 = L4 ++ blkW (((x.fs.take (k + 1)).map fieldT).flatten)):=by
             show L10 = _
             rw [blk_next fieldT HFF.out,fieldT_blk]
             simp only [← H10.out,hL8.out,← H7.out,← H5.out,hL2.out]
             have hq : ¬ (91 : UInt8) ∈ fw:=by simpa using hop.out
             simp [hq,hem.out,List.take_of_length_le hm8]
            refine ⟨⟨k + 1,_,L10,by simp,rfl,hzk.out,R10,HLn,(hG2.trans gV).trans G10⟩,?_⟩
            have:=hzk.out
            simp [RowKit.intOf]
            omega
    ·have lk2 : decide (((k : Nat) : Int) < (x.fs.length : Int)) = false:=by simp;omega
     have lk3 : decide (k < x.fs.length) = false:=by simp;omega
     have hkf : x.fs.length ≤ k:=by omega
     clear hlk
     go_wp2_with (first
      | (at_builtin;refine Lib.wpList_append_own_string _ rfl _ _ 40 9 rfl B0 5 i1 Tryz.underlying40 Tryz.underlying9 hi1 hy0 hy1 hy2 _ _ _ rfl hR2.own _ rfl (by simp only [ByteArray.size,maxLen];simp;omega) (by simp only [ByteArray.size];simp;omega) (by omega) ?_;intro vb12 w12 ho12 hg12 hn12;obtain ⟨R12,g12⟩:=hR2.grow (p:=[32,125]) (by rfl) ho12 hg12 hn12;clear ho12 hg12 hn12;obtain ⟨L12,hL12⟩ : ∃ L12,L2 ++ [32,125] = L12:=⟨_,rfl⟩;rw [hL12] at R12;have l12 : L12.length ≤ 50000000:=(by rw [← hL12];simp;omega);have H12 : Hid (L2 ++ [32,125] = L12):=hL12;clear hL12)
      | fail)
     have HLn : Hid (L12 = blkW (((s.os.take (j + 1)).map objT).flatten)):=by
      show L12 = _
      rw [blk_next objT HX.out,objT_blk,← hL.out,← H12.out,hL2.out,← H4.out,List.take_of_length_le hkf]
      simp
     refine ⟨⟨j + 1,_,L12,by simp,rfl,hz.out,R12,HLn,hG2.trans g12⟩,?_⟩
     have:=hz.out
     simp [RowKit.intOf]
     omega
  ·have l2 : decide (((j : Nat) : Int) < (s.os.length : Int)) = false:=by simp;omega
   have l3 : decide (j < s.os.length) = false:=by simp;omega
   have HLO : Hid (L = blkW ((s.os.map objT).flatten)):=by show L = _;rw [hL.out,List.take_of_length_le (by omega)]
   generalize wr = wZ at *
   clear hlt hj hL
   go_wp2
   go_loopw [4,11] (fun b i wr => ∃ (j : Nat) (vb : Value) (LE : Bs),i = .int .i64 (j : Int) ∧ b = vb ∧ j ≤ s.es.length ∧ Rb B0 wr vb LE ∧ Hid (LE = L ++ blkW (((s.es.take j).map enuT).flatten)) ∧ Gt B0 5 w1 wr) (fun _ i _ => s.es.length - (RowKit.intOf i).toNat)
   case atStart => exact ⟨0,_,L,rfl,rfl,Nat.zero_le _,hR,(by show L = L ++ [];rw [List.append_nil]),hG⟩
   case round =>
    obtain ⟨j,vbE,LE,rfl,rfl,hj,hRE,hLE,hGE⟩:=hrel
    obtain ⟨p1,p2⟩:=A.out _ (K.out _ hGE)
    have lLE : LE.length ≤ 30000000:=by have:=ensT_len s j;have:=HZ.out;rw [hLE.out,List.length_append];omega
    have hBz : B0 ≤ wr.heap.size:=by have:=hGE.size;have:=HB0.out;omega
    by_cases hlt : j < s.es.length
    ·obtain ⟨x,hx⟩ : ∃ x,s.es[j]? = some x:=⟨_,List.getElem?_eq_getElem hlt⟩
     have hxm : x ∈ s.es:=List.mem_of_getElem? hx
     obtain ⟨b1,o1,_,f1,g1,ee,hb1,_,e0,e1,hf1⟩:=enD (HH.out.es.on (K.out _ hGE)) hx
     cases ee
     have l1 : ((j : Nat) : Int) < (s.es.length : Int):=by omega
     have hjN : ((j : Nat) : Int).toNat = j:=by omega
     have hz : Hid (j + 1 ≤ s.es.length):=hlt
     have HX : Hid (s.es[j]? = some x):=hx
     have HXM : Hid (x ∈ s.es):=hxm
     have hnl : x.n.length ≤ 1048576:=by have:=en_len hxm;have:=HZ.out;omega
     have hc1 : ¬ (9223372036854775807 < 6 + x.n.length):=by omega
     have hc2 : ¬ (9223372036854775807 < 6 + x.n.length + 2):=by omega
     clear hx hlt hxm hf1
     go_wp2_with (first
      | (at_builtin;refine Lib.wpList_append_own_string _ rfl _ _ 40 9 rfl B0 5 i1 Tryz.underlying40 Tryz.underlying9 hi1 hy0 hy1 hy2 _ _ _ rfl hRE.own _ rfl (by simp only [ByteArray.size,maxLen];simp;omega) (by simp only [ByteArray.size];simp;omega) (by omega) ?_;intro vb14 w14 ho14 hg14 hn14;obtain ⟨R14,g14⟩:=hRE.grow (p:=(([32,101,110,117,109,32] ++ x.n) ++ [32,123])) (by rw [bytes_addY,bytes_addY]) ho14 hg14 hn14;clear ho14 hg14 hn14;obtain ⟨L14,hL14⟩ : ∃ L14,LE ++ (([32,101,110,117,109,32] ++ x.n) ++ [32,123]) = L14:=⟨_,rfl⟩;rw [hL14] at R14;have l14 : L14.length ≤ 40000000:=(by rw [← hL14];simp;omega);have H14 : Hid (LE ++ (([32,101,110,117,109,32] ++ x.n) ++ [32,123]) = L14):=hL14;clear hL14)
      | fail)
     have G14:=hGE.trans g14
     clear p1 p2 e0 e1 hc1 hc2 g14
     generalize wr = wA at *
     go_loopw [4,12] (fun b i wr => ∃ (k : Nat) (vb : Value) (L2 : Bs),i = .int .i64 (k : Int) ∧ b = vb ∧ k ≤ x.ws.length ∧ Rb B0 wr vb L2 ∧ Hid (L2 = L14 ++ blkW (x.ws.take k)) ∧ Gt B0 5 w1 wr) (fun _ i _ => x.ws.length - (RowKit.intOf i).toNat)
     case atStart => exact ⟨0,_,L14,rfl,rfl,Nat.zero_le _,R14,(by show L14 = L14 ++ [];rw [List.append_nil]),G14⟩
     case round =>
      obtain ⟨k,vb2,L2,rfl,rfl,hk,hR2,hL2,hG2⟩:=hrel
      obtain ⟨p1,p2⟩:=A.out _ (K.out _ hG2)
      obtain ⟨b2,o2,_,f2,g2,ee,hb2,_,e0,e1,hf1⟩:=enD (HH.out.es.on (K.out _ hG2)) HX.out
      cases ee
      have hBz2 : B0 ≤ wr.heap.size:=by have:=hG2.size;have:=HB0.out;omega
      have lL2 : L2.length ≤ 60000000:=by have:=wdsT_len HXM.out k;have:=HZ.out;rw [hL2.out,List.length_append];omega
      by_cases hlk : k < x.ws.length
      ·obtain ⟨u,hu⟩ : ∃ u,x.ws[k]? = some u:=⟨_,List.getElem?_eq_getElem hlk⟩
       have mf1 : x.ws.length ≤ g2:=(slD hf1).elim fun _ q => q.elim fun _ r => (by have:=r.1;cases this;exact r.2.1)
       have mf3 : x.ws.length ≤ 140737488355328:=(slD hf1).elim fun _ q => q.elim fun _ r => r.2.2
       obtain ⟨b3,o3,_,ee2,hb3,_,y0⟩:=wdD hf1 hu
       cases ee2
       have lk : ((k : Nat) : Int) < (x.ws.length : Int):=by omega
       have hkN : ((k : Nat) : Int).toNat = k:=by omega
       have hzk : Hid (k + 1 ≤ x.ws.length):=hlk
       have HU : Hid (x.ws[k]? = some u):=hu
       have lu : u.length ≤ 1048576:=by have:=wd_len HXM.out (List.mem_of_getElem? hu);have:=HZ.out;omega
       have hc1 : ¬ (9223372036854775807 < 1 + u.length):=by omega
       clear hu hlk hf1
       go_wp2_with (first
        | (at_builtin;refine Lib.wpList_append_own_string _ rfl _ _ 40 9 rfl B0 5 i1 Tryz.underlying40 Tryz.underlying9 hi1 hy0 hy1 hy2 _ _ _ rfl hR2.own _ rfl (by simp only [ByteArray.size,maxLen];simp;omega) (by simp only [ByteArray.size];simp;omega) (by omega) ?_;intro vb15 w15 ho15 hg15 hn15;obtain ⟨R15,g15⟩:=hR2.grow (p:=([32] ++ u)) (by rw [bytes_addY]) ho15 hg15 hn15;clear ho15 hg15 hn15;obtain ⟨L15,hL15⟩ : ∃ L15,L2 ++ ([32] ++ u) = L15:=⟨_,rfl⟩;rw [hL15] at R15;have l15 : L15.length ≤ 70000000:=(by rw [← hL15];simp;omega);have H15 : Hid (L2 ++ ([32] ++ u) = L15):=hL15;clear hL15)
        | fail)
       have HLn : Hid (L15 = L14 ++ blkW (x.ws.take (k + 1))):=by
        show L15 = _
        rw [blk_nextW HU.out,← H15.out,hL2.out]
        simp
       refine ⟨⟨k + 1,_,L15,by simp,rfl,hzk.out,R15,HLn,hG2.trans g15⟩,?_⟩
       have:=hzk.out
       simp [RowKit.intOf]
       omega
      ·have lk2 : decide (((k : Nat) : Int) < (x.ws.length : Int)) = false:=by simp;omega
       have lk3 : decide (k < x.ws.length) = false:=by simp;omega
       have hkf : x.ws.length ≤ k:=by omega
       clear hlk hf1
       go_wp2_with (first
        | (at_builtin;refine Lib.wpList_append_own_string _ rfl _ _ 40 9 rfl B0 5 i1 Tryz.underlying40 Tryz.underlying9 hi1 hy0 hy1 hy2 _ _ _ rfl hR2.own _ rfl (by simp only [ByteArray.size,maxLen];simp;omega) (by simp only [ByteArray.size];simp;omega) (by omega) ?_;intro vb16 w16 ho16 hg16 hn16;obtain ⟨R16,g16⟩:=hR2.grow (p:=[32,125]) (by rfl) ho16 hg16 hn16;clear ho16 hg16 hn16;obtain ⟨L16,hL16⟩ : ∃ L16,L2 ++ [32,125] = L16:=⟨_,rfl⟩;rw [hL16] at R16;have l16 : L16.length ≤ 70000000:=(by rw [← hL16];simp;omega);have H16 : Hid (L2 ++ [32,125] = L16):=hL16;clear hL16)
        | fail)
       have HLn : Hid (L16 = L ++ blkW (((s.es.take (j + 1)).map enuT).flatten)):=by
        show L16 = _
        rw [blk_next enuT HX.out,enuT_blk,← H16.out,hL2.out,← H14.out,hLE.out,List.take_of_length_le hkf]
        simp
       refine ⟨⟨j + 1,_,L16,by simp,rfl,hz.out,R16,HLn,hG2.trans g16⟩,?_⟩
       have:=hz.out
       simp [RowKit.intOf]
       omega
    ·have l2 : decide (((j : Nat) : Int) < (s.es.length : Int)) = false:=by simp;omega
     have l3 : decide (j < s.es.length) = false:=by simp;omega
     obtain ⟨TT,hTT⟩ : ∃ TT,joinW (schT s) = TT:=⟨_,rfl⟩
     have hLT : LE = 32 :: TT:=by
      rw [hLE.out,HLO.out,List.take_of_length_le (by omega),← hTT,← blkW_join _ HNE.out]
      show _ = blkW (schT s)
      unfold schT
      rw [blkW_app]
     have HR1:=HR0.out
     rw [hTT] at HR1
     have HR2 : Hid ((match parseD TT with | .error _ => none | .ok _ => some TT : Option Bs) = r0):=HR1
     have HTP : Hid (1 ≤ TT.length):=by show _ ≤ _;rw [← hTT];exact schT_pos HNE.out
     clear hlt hj hLE HLO HR1 hTT
     subst hLT
     obtain ⟨g7,cap7,rfl⟩:=not_noneI hRE.own hRE.nn
     have hcp : TT.length + 1 ≤ cap7:=by
      rcases hRE.own.2 with ⟨h1,_⟩ | ⟨g,cap,cur,h1,_,_,h2,_⟩
      ·cases h1
      ·cases h1;exact h2
     have hps : 1 ≤ TT.length:=HTP.out
     have CV:=conv_from1 hRE.own
     have hl1 : (1 : Int) ≤ ((TT.length : Nat) : Int) + 1:=by omega
     have hcp1 : ¬ cap7 = 1:=by omega
     have hBw:=K.out _ hGE
     cases hp : parseD TT with
     | error p =>
      have PZ:=fun W => zpar_err hp W
      have hp0:=parseD_bad hp
      have HR3 : Hid (none = r0):=by have h:=HR2.out;rw [hp] at h;exact h
      obtain ⟨pb,pd⟩:=p
      simp only at PZ hp0
      have x1 : (pd == 0) = false:=by simpa using hp0
      have x2 : (pd != 0) = true:=by simp only [bne,x1];rfl
      clear hp hp0
      go_wp2_with (first
       | (go_at_call 9;(with_reducible refine (PZ _).mono ?_);rintro e w20 ⟨rfl,b20⟩)
       | fail)
      refine bodyPost_ret (v:=.tuple #[.string ⟨#[]⟩,.int .i64 81]) (by simp [results,Tryz.results13,go_sem]) rfl ?_
      rw [← HR3.out]
      exact ⟨rfl,ble b0 (ble hBw (ble b20 (al1 w20 _)))⟩
     | ok c =>
      have PZ:=fun W => zpar_ok hp W
      have HR3 : Hid (some TT = r0):=by have h:=HR2.out;rw [hp] at h;exact h
      clear hp
      go_wp2_with (first
       | (go_at_call 9;(with_reducible refine (PZ _).mono ?_);rintro e w20 ⟨p2,n2,m2,q2,k2,l2',rfl,S2,b20⟩)
       | fail)
      refine bodyPost_ret (v:=.tuple #[.string ⟨TT.toArray⟩,.int .i64 0]) (by simp [results,Tryz.results13,go_sem]) rfl ?_
      rw [← HR3.out]
      exact ⟨rfl,ble b0 (ble hBw (ble b20 (al1 w20 _)))⟩
end
end Go.Proofs.YtlabcadpkdgjnaaGreatDoor
