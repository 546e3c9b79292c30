/- PrintPuts: a value stands in a document's text as its own text. -/
import Derived.Test.YtgmlbjfgfmfliaaGreatDoorA21
import Derived.Test.YtgmlbjfgfmfliaaGreatDoorA27
import Derived.Test.YtgmlbjfgfmfliaaGreatDoorRows
import Derived.Test.YtgmlbjfgfmfliaaGreatDoorTie
import Derived.Test.YtgmlbjfgfmfliaaGreatDoorCards
import Derived.Test.YtgmlbjfgfmfliaaGreatDoorA29
import Derived.ProofKit
import Derived.OpenShut
import Derived.ShutString
import Derived.ChangeOld
import Derived.SizedLaws
import Derived.LaidMore
import Derived.Lay
import Derived.SevenTiedAt
import Derived.Stop.Joined
import Derived.Shelf.Vars
import Derived.Carry
namespace Go.Proofs.YtgmlbjfgfmfliaaGreatDoor
open Go Go.RowKit
/-- The document with one field, of one argument. -/
def putO (f n : Bs) (v : Vl) : Oq:=⟨0,[],[],[],[.mk 0 [] f [] [⟨n,v⟩] [] []]⟩
theorem docW_put {f n : Bs} {v : Vl} {us : List Bs} (hf : nameK f = true) (hn : nameK n = true) (hv : valW false v = some us) : docW [putO f n v] [] = some ([123] :: f :: [40] :: n :: [58] :: (us ++ [[41],[125]])):=by
 simp [docW,rowW,opW,putO,setW,selW,argsW,argW,inW,andW,nameW,dirsW,hf,hn,hv]
theorem docW_put_inv {f n : Bs} {v : Vl} {U : List Bs} (hf : nameK f = true) (h : docW [putO f n v] [] = some U) : nameK n = true ∧ ∃ us,valW false v = some us:=by
 cases hn : nameK n with
 | false => simp [docW,rowW,opW,putO,setW,selW,argsW,argW,inW,andW,nameW,hf,hn] at h
 | true =>
  cases hv : valW false v with
  | none => simp [docW,rowW,opW,putO,setW,selW,argsW,argW,inW,andW,nameW,hf,hn,hv] at h
  | some us => exact ⟨rfl,us,rfl⟩
theorem good_put (f n f' n' : Bs) (v : Vl) : goodDoc [putO f n v] [] = goodDoc [putO f' n' v] []:=by
 have e : goodSet 32 [Se.mk 0 [] f [] [⟨n,v⟩] [] []] = goodSet 32 [Se.mk 0 [] f' [] [⟨n',v⟩] [] []]:=by
  show List.all _ (goodS (goodSet 31)) = List.all _ (goodS (goodSet 31))
  rfl
 simp [goodDoc,goodO,putO,e]
theorem joinW_two : ∀ {a b : List Bs},a ≠ [] → b ≠ [] → joinW (a ++ b) = joinW a ++ 32 :: joinW b
 | [],_,h,_ => absurd rfl h
 | [x],b,_,hb => by
  cases b with
  | nil => exact absurd rfl hb
  | cons y l => rfl
 | x :: y :: a,b,_,hb => by
  have:=joinW_two (a:=y :: a) (b:=b) (by simp) hb
  simp only [List.cons_append] at this
  simp only [List.cons_append,joinW,List.append_assoc,this]
theorem valW_ne2 {fx : Bool} {v : Vl} {us : List Bs} (h : valW fx v = some us) : us ≠ []:=by
 intro e
 subst e
 have h2:=val_first (l:=[⟨0,[9],0,0⟩]) (m:=[⟨0,[9],0,0⟩]) h ⟨[],rfl,rfl⟩
 have:=h2 [9] (by decide) (by decide) (by decide)
 simp [isP] at this
theorem join_put {f n : Bs} {us : List Bs} (h : us ≠ []) : joinW ([123] :: f :: [40] :: n :: [58] :: (us ++ [[41],[125]])) = [123,32] ++ f ++ [32,40,32] ++ n ++ [32,58,32] ++ joinW us ++ [32,41,32,125]:=by
 have e:=joinW_two (a:=us) (b:=[[41],[125]]) h (by simp)
 cases us with
 | nil => exact absurd rfl h
 | cons x l =>
  simp only [List.cons_append] at e ⊢
  simp only [joinW,e,List.append_assoc,List.cons_append,List.nil_append]
/-- What Value tells, put another way. -/
theorem valueP_some {v : Vl} {s : Bs} : valueP v = some s ↔ ∃ us,valW false v = some us ∧ Short ([123] :: [97] :: [40] :: [98] :: [58] :: (us ++ [[41],[125]])) ∧ goodDoc [putO [97] [98] v] [] = true ∧ s = joinW us:=by
 unfold valueP takenP
 constructor
 ·intro h
  split at h
  ·cases h
  ·rename_i us hv
   have hd:=docW_put (f:=[97]) (n:=[98]) (by decide) (by decide) hv
   have e:=join_put (f:=[97]) (n:=[98]) (valW_ne2 hv)
   simp only [List.cons_append,List.nil_append] at e h
   rw [← e] at h
   split at h
   ·cases h
   ·rename_i x hp
    injection h with h
    obtain ⟨h1,h2,_⟩:=parse_inv hd hp
    exact ⟨us,hv,h1,h2,h.symm⟩
 ·rintro ⟨us,hv,h1,h2,rfl⟩
  have hd:=docW_put (f:=[97]) (n:=[98]) (by decide) (by decide) hv
  have e:=join_put (f:=[97]) (n:=[98]) (valW_ne2 hv)
  have P:=parse_yes hd h1 h2
  rw [hv]
  simp only [List.cons_append,List.nil_append] at e ⊢
  rw [← e,P]
theorem value_len {v : Vl} {s : Bs} (h : valueP v = some s) : s.length ≤ 16384:=by
 obtain ⟨us,hv,hS,_,rfl⟩:=valueP_some.1 h
 have:=hS.2
 rw [join_put (valW_ne2 hv)] at this
 simp only [List.length_append,List.length_cons,List.length_nil] at this
 omega
theorem putP_no {v : Vl} {n : Bs} (h : valueP v = none ∨ nameK n = false) : printP [putO [102] n v] [] = none:=by
 cases hp : printP [putO [102] n v] [] with
 | none => rfl
 | some t =>
  exfalso
  obtain ⟨U,hd,hS,hg,_⟩:=printP_some.1 hp
  obtain ⟨hn,us,hv⟩:=docW_put_inv (by decide) hd
  rcases h with h | h
  ·rw [docW_put (by decide) hn hv] at hd
   cases hd
   have l1:=hS.1
   have l2:=hS.2
   rw [join_put (valW_ne2 hv)] at l2
   have hn0 : 1 ≤ n.length:=by
    cases n with
    | nil => cases hn
    | cons c l => simp
   have : valueP v = some (joinW us):=valueP_some.2 ⟨us,hv,⟨by simpa using l1,by
    rw [join_put (valW_ne2 hv)]
    simp only [List.length_append,List.length_cons,List.length_nil] at l2 ⊢
    omega⟩,by rw [good_put _ _ [102] n];exact hg,rfl⟩
   rw [h] at this
   cases this
  ·rw [hn] at h
   cases h
theorem putP_yes {v : Vl} {n s : Bs} (h : valueP v = some s) (hn : nameK n = true) : (printP [putO [102] n v] [] = none ∧ 16000 < s.length + n.length) ∨ printP [putO [102] n v] [] = some ([123,32,102,32,40,32] ++ n ++ [32,58,32] ++ s ++ [32,41,32,125]):=by
 obtain ⟨us,hv,hS,hg,rfl⟩:=valueP_some.1 h
 have hd:=docW_put (f:=[102]) (n:=n) (by decide) hn hv
 have e:=join_put (f:=[102]) (n:=n) (valW_ne2 hv)
 have l1:=hS.1
 cases hp : printP [putO [102] n v] [] with
 | none =>
  refine Or.inl ⟨rfl,Nat.lt_of_not_le fun hle => ?_⟩
  have : printP [putO [102] n v] [] = some (joinW ([123] :: [102] :: [40] :: n :: [58] :: (us ++ [[41],[125]]))):=printP_some.2 ⟨_,hd,⟨by simpa using l1,by
   rw [e]
   simp only [List.length_append,List.length_cons,List.length_nil]
   omega⟩,by rw [good_put _ _ [97] [98]];exact hg,rfl⟩
  rw [hp] at this
  cases this
 | some t =>
  obtain ⟨U,hd2,_,_,rfl⟩:=printP_some.1 hp
  rw [hd] at hd2
  cases hd2
  refine Or.inr ?_
  rw [e]
  simp
end Go.Proofs.YtgmlbjfgfmfliaaGreatDoor
namespace Go.Proofs.YtgmlbjfgfmfliaaGreatDoor
open Go Go.RowKit Go.Shelf
/-- A row of one thing. -/
theorem one_at {α : Type} {w : World} {D : Nat → Prop} {E sz T g : Nat} {ct : α → List CT} {a : α} {us : List Value} (hg : w.heap[g]? = some (.cells us.toArray T (0,0))) (hD : D g) (hs : (ct a).length = sz) (hB : Bts w D (ct a) us) : Bt w D (rowC E sz ([a].map ct)) (.slice (some ⟨g,0,none⟩) 1 1):=by
 have hl : us.length = sz:=hB.len ▸ hs
 refine .row (b:=g) (o:=0) (fun j => (us[j]?).getD (.bool true)) (Nat.le_refl _) (by simp [hs]) (fun _ => ⟨rfl,hD⟩) (fun j hj => ?_) (fun j y hy => ?_)
 ·have hj2 : j < us.length:=by
   simp at hj
   omega
  unfold World.cell?
  rw [hg]
  simp [hj2]
 ·have hy2 : (ct a)[j]? = some y:=by simpa using hy
  have hj2 : j < us.length:=by
   have:=(List.getElem?_eq_some_iff.1 hy2).1
   omega
  show Bt w D y ((us[j]?).getD (.bool true))
  rw [List.getElem?_eq_getElem hj2]
  exact hB.all j y _ hy2 (List.getElem?_eq_getElem hj2)
theorem put_text (n s : Bs) : ((⟨#[123,32,102,32,40,32]⟩ : ByteArray) ++ ⟨n.toArray⟩ ++ ⟨#[32,58,32]⟩ ++ ⟨s.toArray⟩ ++ ⟨#[32,41,32,125]⟩).toList = [123,32,102,32,40,32] ++ n ++ [32,58,32] ++ s ++ [32,41,32,125]:=by
 rw [cat_mk,cat_mk,cat_mk,cat_mk,ByteArray.toList_eq]
theorem at_new {w : World} {o : Obj} {i : Nat} {x : Obj} (h : w.heap[i]? = some x) : (w.alloc o).heap[i]? = some x:=by
 rw [(al1 w o).block i (lt_of_block h)]
 exact h
theorem put_print {w : World} (v : Vl) (n : Bs) (k : Int) (s1 : ByteArray) (a2 a3 : Option Addr) (n2 m2 n3 m3 : Nat) (hB : Bts w (fun k => k < w.heap.size) (ctV v) [.int .i64 k,.string s1,.slice a2 n2 m2,.slice a3 n3 m3]) (L : VlL v) (hn : n.length ≤ txM) (gl : Gl w) (tz : Tz w) :
  Calls Tryz.prog 9 #[.agg #[.slice (some ⟨w.heap.size + 1 + 1,0,none⟩) 1 1,.slice none 0 0]]
   ((((w.alloc (.cells #[.string ⟨n.toArray⟩,.int .i64 k,.string s1,.slice a2 n2 m2,.slice a3 n3 m3] 43)).alloc (.cells #[.int .i64 0,.string ⟨#[]⟩,.string ⟨#[102]⟩,.string ⟨#[]⟩,.slice (some ⟨w.heap.size,0,none⟩) 1 1,.slice none 0 0,.slice none 0 0] 48)).alloc (.cells #[.int .i64 0,.string ⟨#[]⟩,.slice none 0 0,.slice none 0 0,.slice (some ⟨w.heap.size + 1,0,none⟩) 1 1] 51)).alloc (.cells #[.slice (some ⟨w.heap.size + 1 + 1,0,none⟩) 1 1,.slice none 0 0] 25))
   (PrntP w (printP [putO [102] n v] [])):=by
 obtain ⟨W1,e1⟩ : ∃ W1,W1 = w.alloc (.cells #[.string ⟨n.toArray⟩,.int .i64 k,.string s1,.slice a2 n2 m2,.slice a3 n3 m3] 43):=⟨_,rfl⟩
 rw [← e1]
 obtain ⟨W2,e2⟩ : ∃ W2,W2 = W1.alloc (.cells #[.int .i64 0,.string ⟨#[]⟩,.string ⟨#[102]⟩,.string ⟨#[]⟩,.slice (some ⟨w.heap.size,0,none⟩) 1 1,.slice none 0 0,.slice none 0 0] 48):=⟨_,rfl⟩
 rw [← e2]
 obtain ⟨W3,e3⟩ : ∃ W3,W3 = W2.alloc (.cells #[.int .i64 0,.string ⟨#[]⟩,.slice none 0 0,.slice none 0 0,.slice (some ⟨w.heap.size + 1,0,none⟩) 1 1] 51):=⟨_,rfl⟩
 rw [← e3]
 obtain ⟨W4,e4⟩ : ∃ W4,W4 = W3.alloc (.cells #[.slice (some ⟨w.heap.size + 1 + 1,0,none⟩) 1 1,.slice none 0 0] 25):=⟨_,rfl⟩
 rw [← e4]
 have z1 : W1.heap.size = w.heap.size + 1:=by rw [e1,World.size_alloc]
 have z2 : W2.heap.size = w.heap.size + 1 + 1:=by rw [e2,World.size_alloc,z1]
 have z3 : W3.heap.size = w.heap.size + 1 + 1 + 1:=by rw [e3,World.size_alloc,z2]
 have z4 : W4.heap.size = w.heap.size + 1 + 1 + 1 + 1:=by rw [e4,World.size_alloc,z3]
 have h1 : W4.heap[w.heap.size]? = some (.cells #[.string ⟨n.toArray⟩,.int .i64 k,.string s1,.slice a2 n2 m2,.slice a3 n3 m3] 43 (0,0)):=by
  rw [e4];refine at_new ?_;rw [e3];refine at_new ?_;rw [e2];refine at_new ?_;rw [e1];exact heap_alloc_new w _
 have h2 : W4.heap[w.heap.size + 1]? = some (.cells #[.int .i64 0,.string ⟨#[]⟩,.string ⟨#[102]⟩,.string ⟨#[]⟩,.slice (some ⟨w.heap.size,0,none⟩) 1 1,.slice none 0 0,.slice none 0 0] 48 (0,0)):=by
  rw [e4];refine at_new ?_;rw [e3];refine at_new ?_;rw [e2,← z1];exact heap_alloc_new W1 _
 have h3 : W4.heap[w.heap.size + 1 + 1]? = some (.cells #[.int .i64 0,.string ⟨#[]⟩,.slice none 0 0,.slice none 0 0,.slice (some ⟨w.heap.size + 1,0,none⟩) 1 1] 51 (0,0)):=by
  rw [e4];refine at_new ?_;rw [e3,← z2];exact heap_alloc_new W2 _
 have b4 : Below w.heap.size w W4:=by
  rw [e4,e3,e2,e1]
  exact ((((Kp.refl Non w).alloc _).alloc _).alloc _ |>.alloc _).bel
 have hV : Bts W4 (fun k => k < W4.heap.size) (ctV v) [.int .i64 k,.string s1,.slice a2 n2 m2,.slice a3 n3 m3]:=hB.up b4 fun k hk => Nat.lt_of_lt_of_le hk b4.size
 have hA : Bt W4 (fun k => k < W4.heap.size) (rowC 43 5 (([⟨n,v⟩] : List Ar).map ctA)) (.slice (some ⟨w.heap.size,0,none⟩) 1 1):=one_at (us:=[.string ⟨n.toArray⟩,.int .i64 k,.string s1,.slice a2 n2 m2,.slice a3 n3 m3]) h1 (by show _ < _;omega) (ctA_len _) (.cons (.lf _) hV)
 have hS : Bt W4 (fun k => k < W4.heap.size) (rowC 48 7 (([.mk 0 [] [102] [] [⟨n,v⟩] [] []] : List Se).map ctS)) (.slice (some ⟨w.heap.size + 1,0,none⟩) 1 1):=one_at (us:=[.int .i64 0,.string ⟨#[]⟩,.string ⟨#[102]⟩,.string ⟨#[]⟩,.slice (some ⟨w.heap.size,0,none⟩) 1 1,.slice none 0 0,.slice none 0 0]) h2 (by show _ < _;omega) (ctS_len _) (by
  rw [ctS,ctSs_map]
  exact .cons (.lf _) (.cons (.lf _) (.cons (.lf _) (.cons (.lf _) (.cons hA (.cons (none_at ..) (.cons (none_at ..) .nil)))))))
 have hO : OsAt W4 (fun k => k < W4.heap.size) (.slice (some ⟨w.heap.size + 1 + 1,0,none⟩) 1 1) [putO [102] n v]:=one_at (us:=[.int .i64 0,.string ⟨#[]⟩,.slice none 0 0,.slice none 0 0,.slice (some ⟨w.heap.size + 1,0,none⟩) 1 1]) h3 (by show _ < _;omega) (ctO_len _) (.cons (.lf _) (.cons (.lf _) (.cons (none_at ..) (.cons (none_at ..) (.cons hS .nil)))))
 have P:=print_any (w:=W4) [putO [102] n v] [] _ none 1 1 0 0 hO (none_at ..) ⟨by show 1 ≤ 140737488355328;decide,by decide,fun x hx => (by
  simp only [List.mem_singleton] at hx
  subst hx
  simp [putO,OqL,DrsL,SeRL,SeL,ArsL,ArL,SesL,rwM,L]
  exact ⟨by decide,hn⟩),fun x hx => (by cases hx)⟩ (gl.below b4 (Nat.le_refl _)) (tz.below b4 (Nat.le_refl _))
 exact P.mono fun e w' h => h.mk b4
set_option maxRecDepth 100000 in
set_option maxHeartbeats 8000000 in
theorem puts_any {w : World} (v : Vl) (us : List Value) (n : Bs) (hB : Bts w (fun k => k < w.heap.size) (ctV v) us) (L : VlL v) (hn : n.length ≤ txM) (gl : Gl w) (tz : Tz w) : Calls Tryz.prog 7 #[.agg us.toArray,.string ⟨n.toArray⟩] w fun e w' => e = .returned (.bool true) ∧ Below w.heap.size w w':=by
  obtain ⟨k,s1,a2,n2,m2,a3,n3,m3,rfl⟩:=cells_Value hB
  obtain ⟨w0,hw0⟩ : ∃ w0,w0 = w.alloc (.cells #[.int .i64 k,.string s1,.slice a2 n2 m2,.slice a3 n3 m3] 35):=⟨_,rfl⟩
  have b0 : Below w.heap.size w w0:=by rw [hw0];exact al1 w _
  have ok0 : Ok7 w w0:=⟨b0,gl.below b0 (Nat.le_refl _),tz.below b0 (Nat.le_refl _)⟩
  have p0 : w0.heap[w.heap.size]? = some (.cells #[.int .i64 k,.string s1,.slice a2 n2 m2,.slice a3 n3 m3] 35 (0,0)):=by rw [hw0];exact heap_alloc_new w _
  have hB0:=hB.up b0 fun k hk => Nat.lt_of_lt_of_le hk b0.size
  have C0:=value_any (w:=w0) v _ hB0 L ok0.gl ok0.tz
  obtain ⟨x0,x1,x2,x3,_⟩:=row4 p0
  go_enter Tryz.func7,Tryz.ntmps7
  go_wp2_with (first
    | (go_at_call 17;(with_reducible refine (yname_any n _ ok3.gl).mono ?_);rintro e w5 ⟨rfl,b5⟩;cases hk : nameK n)
    | (go_at_call 11;(with_reducible refine (fixed_any _ ok2.gl ok2.tz).mono ?_);rintro e w4 ⟨rfl,b4⟩;have ok3:=ok2.next b4)
    | (go_at_call 9;(with_reducible refine (put_print v n k s1 a2 a3 n2 m2 n3 m3 hB1 L hn ok1.gl ok1.tz).mono ?_);rintro e w3 hP2;rcases hP2.two with ⟨rfl,r0,b3⟩ | ⟨t,rfl,r0,b3⟩ <;> have ok2:=ok1.next b3)
    | (go_at_call 13;rw [← hw0];(with_reducible refine C0.mono ?_);rintro e w1 hP;rcases hP.two with ⟨rfl,q0,b1⟩ | ⟨s,rfl,q0,b1⟩ <;> (have y0:=cell_on b1 x0;have y1:=cell_on b1 x1;have y2:=cell_on b1 x2;have y3:=cell_on b1 x3;have ok1:=ok0.next b1;have hB1:=hB0.up b1 fun k hk => Nat.lt_of_lt_of_le hk b1.size;first | (have sl:=value_len q0.out;have f0 : n.length ≤ 140737488355328:=hn;have f1 : ¬ 9223372036854775807 < 6 + List.length n:=(by omega);have f2 : ¬ 9223372036854775807 < 6 + List.length n + 3:=(by omega);have f3 : ¬ 9223372036854775807 < 6 + List.length n + 3 + List.length s:=(by omega);have f4 : ¬ 9223372036854775807 < 6 + List.length n + 3 + List.length s + 4:=(by omega);have f5 : wrap64 ((List.length s : Int) + (List.length n : Int)) = (List.length s : Int) + (List.length n : Int):=(by unfold wrap64;omega)) | skip))
    | fail)
  all_goals go_ret
  all_goals refine ⟨?_,by first | exact (ok3.next b5).bel | exact ok3.bel⟩
  all_goals first
    | rfl
    | (exfalso;have:=putP_no (n:=n) (Or.inl q0.out);rw [r0.out] at this;cases this)
    | (exfalso;have:=putP_no (v:=v) (n:=n) (Or.inr hk);rw [r0.out] at this;cases this)
    | (rcases putP_yes q0.out hk with ⟨_,hl⟩ | hl
       · have q : (16000 : Int) < (List.length s : Int) + (List.length n : Int):=by omega
         show Ending.returned (.bool (decide ((16000 : Int) < (List.length s : Int) + (List.length n : Int)))) = _
         rw [decide_eq_true q]
       · (exfalso;rw [r0.out] at hl;cases hl))
    | (rcases putP_yes q0.out hk with ⟨hl,_⟩ | hl
       · (exfalso;rw [r0.out] at hl;cases hl)
       · show Ending.returned (.bool (t == ((⟨#[123,32,102,32,40,32]⟩ : ByteArray) ++ ⟨n.toArray⟩ ++ ⟨#[32,58,32]⟩ ++ ⟨s.toArray⟩ ++ ⟨#[32,41,32,125]⟩).toList)) = _
         rw [put_text,← Option.some.inj (r0.out.symm.trans hl),beq_self_eq_true])
end Go.Proofs.YtgmlbjfgfmfliaaGreatDoor
namespace Go.Proofs.YtgmlbjfgfmfliaaGreatDoor
open Go.ChangeShapes Go.WideShapes Go.ChangeAt Go.RowKit
open Go.ChangeMaps (open_string shut_string)
theorem Tryz.own : ownKnob Tryz.prog.godebug = none:=by kernel_rfl
theorem Tryz.laidOut : laidOutB Tryz.prog = true:=by kernel_rfl
/-- The road from the contract to the row where the contract is handed both what is listed and the world's shape. -/
theorem lifted_by {H : Type} {enc : TypeId × Value → H} {C : Checked} {os : Os} {f : FuncId} {fn : Func} {s : ChangeSpec} {conds : List PathCond} {apart fresh handsOn again : Bool} {X : World → Array Value → Prop}
  (hX : ∀ (w w' : World) (args : Array Value),w.heap = w'.heap → X w args → X w' args)
  (own : ownKnob C.prog.godebug = none) (started : os.Started) (noInit : C.prog.inits.idxOf? f = none) (hfn : C.prog.funcs[f]? = some fn)
  (witness : ∃ (w : World) (tape : Tape) (i : Input),w.os = os ∧ (w.forCall tape i).Shaped C.prog ∧ i.vars = [] ∧ Input.okWide C.prog (w.forCall tape i) .any w.heap.size f i ∧
   ((s.pre enc C.prog fn conds apart (w.forCall tape i).memory i.args ∧ X (w.forCall tape i).memory i.args) ∧ sizedMet enc C.prog fn (OpenSpec.ofChange s) apart (w.forCall tape i).memory i.args) ∧ ({} : Assume).holds C.prog (lone (Frame.enter C.prog f i.args .normal) [] (w.forCall tape i)))
  (contract : ∀ (W : World) (base : Nat) (args : Array Value) (ds gs : List (DataW H)) (before : List MemPlace),
   (∀ (j : Nat) t v,fn.params[j]? = some t → args[j]? = some v → Value.okWide C.prog W .any base t v) →
   DataW.Whole enc C.prog fn.params.toList s.vars apart W args.toList ds gs before →
   (DataW.weightsEach C.prog (fn.params.toList ++ s.plain.varTypes C.prog) (ds ++ gs)).all (· ≤ reachBytes) = true → W.ShapedOpen C.prog → X W args →
   Calls C.prog f args W fun e W' => ∃ v,e = .returned v ∧ s.post enc C.prog fn apart fresh handsOn again W args v W') :
  ReturnsInHanded {} C os f .any (fun w args => (s.pre enc C.prog fn conds apart w args ∧ X w args) ∧ sizedMet enc C.prog fn (OpenSpec.ofChange s) apart w args) (s.post enc C.prog fn apart fresh handsOn again):=by
 refine returnsInHanded_of_calls own started noInit witness ?_
 intro w tape i _ hsh _ hok hpre _
 obtain ⟨_,_,_,fn',hfn',_,_,_,_,hval⟩:=hok
 obtain rfl : fn' = fn:=Option.some.inj (hfn'.symm.trans hfn)
 obtain ⟨⟨⟨ds,gs,before,hw,_⟩,hx⟩,hz⟩:=hpre
 refine (contract (w.forCall tape i) w.heap.size i.args ds gs before hval (DataW.Whole.of_heap (w':=w.forCall tape i) (by rfl) hw) (hz.weights hw) hsh (hX _ _ _ (by rfl) hx)).mono fun e W' ⟨v,he,hp⟩ => ?_
 subst he
 exact ChangeSpec.post_blind hp
set_option maxRecDepth 100000 in
theorem printPuts_lifted (os : Os) (started : os.Started) (H : Type) (enc : TypeId × Value → H) :
  ReturnsInHanded {} Tryz.checked os 7 .any (fun w args => (Rows.printPutsSpec.pre enc Tryz.prog Tryz.f7 Rows.printPutsRow.domain false w args ∧ laidMetH Tryz.prog listed w) ∧ sizedMet enc Tryz.prog Tryz.f7 (OpenSpec.ofChange Rows.printPutsSpec) false w args)
   (Rows.printPutsSpec.post enc Tryz.prog Tryz.f7 false true false false):=by
 refine lifted_by (C:=Tryz.checked) (X:=fun w _ => laidMetH Tryz.prog listed w) (fun _ _ _ hh h => h.of_heap hh) Tryz.own started (by kernel_rfl) Tryz.func7
  (ChangeSpec.witness_shaped (enc:=enc) (C:=Tryz.checked) (os:=os) (X:=fun w _ => laidMetH Tryz.prog listed w) false (World.laidAll Tryz.prog os listed) #[.agg #[.int .i64 0,.string ByteArray.empty,.slice none 0 0,.slice none 0 0],.string ByteArray.empty] 8 (World.laidAll_os _ _ _)
   (World.shaped_of_ZipB (by kernel_rfl) (by kernel_rfl)) (by kernel_rfl) (by kernel_rfl) (by kernel_rfl)
   (by rw [MakeChecks.laidMetH_plain _ _ _ (by kernel_rfl)];exact laidMet_laidAll _ (by kernel_rfl) (by kernel_rfl))) ?_
 intro W base args ds gs before hval0 hW hsz hsh hL
 have hval : ∀ (j : Nat) t v,Tryz.f7.params[j]? = some t → args[j]? = some v → Value.okWide Tryz.prog W .any base t v:=hval0
 have hW':=hW
 obtain ⟨p,q,hA0,hV,rfl,hfz,hnd⟩:=hW
 have hA : DataW.TrodAll enc Tryz.prog W 0 (fun _ => true) true Tryz.f7.params.toList args.toList ds p:=hA0
 rw [Tryz.params7] at hA hval
 obtain ⟨v0,vs0,d0,ds0,p0,q0,hargs,rfl,rfl,h0,r0⟩:=trodAll_cons hA
 obtain ⟨v1,vs1,d1,ds1,p1,q1,rfl,rfl,rfl,h1,r1⟩:=trodAll_cons r0
 obtain ⟨rfl,rfl,rfl⟩:=trodAll_nil r1
 obtain rfl : args = #[v0,v1]:=by cases args;simp_all
 obtain ⟨rfl,rfl⟩:=trodVars_none hV
 obtain ⟨c0,rfl,_⟩:=okWide_struct Tryz.underlying35 (hval 0 35 v0 rfl rfl)
 obtain ⟨u0,hu0⟩ : ∃ u : List Value,c0 = u.toArray:=⟨c0.toList,by simp⟩
 subst hu0
 have k0:=h0
 have lt0 : ∀ x ∈ p0,x.block < W.heap.size:=by obtain ⟨m,hm⟩:=k0;exact DataW.trod_lt m _ _ _ hm
 have wt0 : Wt 35 d0:=fun n hn => by
  have:=List.all_eq_true.1 hsz n (DataW.weights_mem_each (j:=0) rfl rfl n hn)
  simpa using this
 obtain ⟨x0,L0,B0⟩ : ∃ x : Vl,VlL x ∧ Bts W (fun k => k < W.heap.size) (ctV x) u0:=by
  obtain ⟨fuel,hf⟩:=h0
  have:=open_val _ (Nat.lt_succ_self _) hf wt0
  simpa [Value.cells] using this
 have wt1 : Wt 9 d1:=fun n hn => by
  have:=List.all_eq_true.1 hsz n (DataW.weights_mem_each (j:=1) rfl rfl n hn)
  simpa using this
 obtain ⟨a1,rfl,rfl,rfl,w1⟩:=open_string Tryz.underlying9 (hval 1 9 v1 rfl rfl) h1
 have n1 : a1.data.toList.length ≤ txM:=by
  have h1:=wt1 a1.data.toList.length (by simp [DataW.weights])
  have h2:=reachBytes_lt
  show a1.data.toList.length ≤ 140737488355328
  omega
 have hL2 : laidMetH Tryz.prog listed W:=hL
 rw [MakeChecks.laidMetH_plain _ _ _ (by kernel_rfl)] at hL2
 have gl:=gl_laid hL2 hsh
 clear hA0 hval0 hL hL2 hsz
 have wk:=puts_any x0 _ a1.data.toList B0 L0 n1 gl.1 gl.2
 refine wk.mono fun e W' ⟨he,bel⟩ => ?_
 subst he
 exact ⟨_,rfl,_,_,_,[],_,[],hW',trodAll_mk1 (shut_bool Tryz.underlying4 _),(trodAll_cons_mk (Below.trod Tryz.laidOut (by kernel_rfl) (of_decide_eq_true (by kernel_rfl)) k0 bel lt0) (trodAll_cons_mk (shut_string Tryz.underlying9 w1) trodAll_mk0)),rfl,bel.frame _,fun h => by cases h⟩
theorem printPuts_row : Rows.PrintPutsSaid :=
 OpenClaim.holds_of_wide 7 Tryz.f7 rfl rfl rfl rfl rfl rfl rfl ⟨rfl,rfl,rfl,rfl,rfl⟩ rfl rfl rfl rfl rfl (by kernel_rfl) Tryz.func7 (by kernel_rfl)
  (of_decide_eq_true (by kernel_rfl)) (by unfold Func.isWrapper;first | (rw [if_pos (by decide +kernel)];kernel_rfl) | (rw [if_neg (by decide +kernel)];exact ⟨rfl,rfl⟩))
  (fun os started H enc _ => printPuts_lifted os started H enc)
theorem printPuts_holds : Rows.PrintPutsCardSaid :=
 Claim7.holds_tied_plain_at .later [] _ _ _ _ printPuts_row (fun _ h => by cases h) (by kernel_rfl) (fun _ h => by cases h) printPuts_row_tie rfl ⟨rfl,rfl⟩ (by kernel_rfl) rfl
  (fun f fn hf hfn => by
   obtain rfl : f = 7:=Option.some.inj ((show Tryz.prog.funcNamed "rhizome/rhizomelaw07.PrintPuts" = some 7 by kernel_rfl).symm.trans hf) |>.symm
   obtain rfl : fn = Tryz.f7:=(Option.some.inj (Tryz.func7.symm.trans hfn)).symm
   exact ⟨by kernel_rfl,fun j t ht => by
    rw [Tryz.params7] at ht
    have hm : t ∈ [35,9]:=by simpa using Array.mem_of_getElem? ht
    have hall : ([35,9].all fun u => !Tryz.prog.wantsStandIn u) = true:=by kernel_rfl
    exact (show Tryz.prog.wantsStandIn t = false by simpa using List.all_eq_true.1 hall t hm)⟩)
  (by kernel_rfl)
#print axioms printPuts_holds
end Go.Proofs.YtgmlbjfgfmfliaaGreatDoor
