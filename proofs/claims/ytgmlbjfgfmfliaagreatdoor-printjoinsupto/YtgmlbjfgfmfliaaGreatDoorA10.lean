/- Digits of base sixteen. -/
import Derived.Test.YtgmlbjfgfmfliaaGreatDoorB5
import Derived.Lib.ConvBytes
namespace Go.Proofs.YtgmlbjfgfmfliaaGreatDoor
open Go Go.RowKit
theorem spanR_lt (S l : Bs) (h : headIn S l = true) : (spanR S l).length < l.length:=by
 rw [← spanR_head S l h]
 have:=(spanR_suf S (l.drop 1)).length_le
 rw [List.length_drop] at this
 cases l with
 | nil => cases h
 | cons c l => simp only [List.length_cons] at this ⊢;omega
theorem prefix_le {p l : Bs} (h : p.isPrefixOf l = true) : p.length ≤ l.length:=(List.isPrefixOf_iff_prefix.1 h).length_le
theorem comS_lt {l m : Bs} (h : comS l = some (.inl m)) : m.length < l.length:=by
 unfold comS at h
 by_cases hp : List.isPrefixOf [35] l = true
 ·rw [if_pos hp] at h
  have h1:=prefix_le hp
  have h2:=(spanN_suf endL (l.drop 1)).length_le
  rw [List.length_drop] at h2
  simp only [List.length_cons,List.length_nil] at h1
  have e : m = spanN endL (l.drop 1):=by
   cases hs : srcB (ahead l (spanN endL (l.drop 1))) with
   | none => rw [hs] at h;injection h with h;injection h with h;exact h.symm
   | some k => rw [hs] at h;simp at h
  rw [e];omega
 ·rw [if_neg hp] at h;cases h
theorem skipF_fuel : ∀ (n m : Nat) (l : Bs),l.length < n → l.length < m → skipF n l = skipF m l
 | 0,_,_,h,_ => absurd h (Nat.not_lt_zero _)
 | _ + 1,0,_,_,h => absurd h (Nat.not_lt_zero _)
 | n + 1,m + 1,l,hn,hm => by
  unfold skipF
  by_cases h1 : headIn ignL l = true
  ·rw [if_pos h1,if_pos h1]
   have:=spanR_lt ignL l h1
   exact skipF_fuel n m _ (by omega) (by omega)
  ·rw [if_neg h1,if_neg h1]
   by_cases h2 : List.isPrefixOf [239,187,191] l = true
   ·rw [if_pos h2,if_pos h2]
    have:=prefix_le h2
    simp only [List.length_cons,List.length_nil] at this
    exact skipF_fuel n m _ (by rw [List.length_drop];omega) (by rw [List.length_drop];omega)
   ·rw [if_neg h2,if_neg h2]
    cases hc : comS l with
    | none => rfl
    | some x =>
     cases x with
     | inl r =>
      have:=comS_lt hc
      exact skipF_fuel n m _ (by omega) (by omega)
     | inr k => rfl
theorem skipS_ign {l : Bs} (h : headIn ignL l = true) : skipS l = skipS (spanR ignL l):=by
 have:=spanR_lt ignL l h
 show skipF (l.length + 1) l = _
 unfold skipF
 rw [if_pos h]
 exact skipF_fuel _ _ _ (by omega) (by omega)
theorem skipS_mark {l : Bs} (h : headIn ignL l = false) (h2 : List.isPrefixOf [239,187,191] l = true) : skipS l = skipS (l.drop 3):=by
 have:=prefix_le h2
 simp only [List.length_cons,List.length_nil] at this
 show skipF (l.length + 1) l = _
 unfold skipF
 rw [if_neg (by rw [h];simp),if_pos h2]
 exact skipF_fuel _ _ _ (by rw [List.length_drop];omega) (by omega)
theorem skipS_com {l : Bs} (h : headIn ignL l = false) (h2 : List.isPrefixOf [239,187,191] l = false) : skipS l = match comS l with
  | none => .inl l
  | some (.inl r) => skipS r
  | some (.inr k) => .inr (l.length - k):=by
 show skipF (l.length + 1) l = _
 unfold skipF
 rw [if_neg (by rw [h];simp),if_neg (by rw [h2];simp)]
 cases hc : comS l with
 | none => rfl
 | some x =>
  cases x with
  | inl r =>
   have:=comS_lt hc
   exact skipF_fuel _ _ _ (by omega) (by omega)
  | inr k => rfl
section
variable {R : Nat} {s : Bs} {b : Nat}
theorem comment_any (l : Bs) (w : World) (h : Rd w R s b l) : Calls Tryz.prog 139 #[.pointer (some ⟨R,0,none⟩)] w (ComP R s b w l (comS l)):=by
 by_cases hp : List.isPrefixOf [35] l = true
 ·rcases sourceS_cases (ahead l (spanN endL (l.drop 1))) with ⟨h1,h2⟩ | ⟨k,hk,h1,h2⟩
  ·rw [show comS l = some (.inl (spanN endL (l.drop 1))) by unfold comS;rw [if_pos hp,h1]]
   rcases walkF_source ⟨(ahead l (spanN endL (l.drop 1))).toArray⟩ ((ByteArray.mk (ahead l (spanN endL (l.drop 1))).toArray).size - 0) 0 with hs | ⟨q,_,hs⟩
   ·refine com_walk l w h hp _ rfl 0 0 hs _ (fun _ w' h1 h2 => ⟨⟨rfl,h1⟩,h2⟩) (fun h => absurd rfl h) (by decide) (by decide)
   ·have hs' : sourceS ⟨(ahead l (spanN endL (l.drop 1))).toArray⟩ = ((q : Int),10):=hs
    rw [hs'] at h2
    cases h2
  ·rw [show comS l = some (.inr k) by unfold comS;rw [if_pos hp,h1]]
   have hle:=h.le
   have hsm:=h.small
   have hkl : k ≤ 16384:=by
    unfold ahead at hk
    rw [List.length_take] at hk
    omega
   refine com_walk l w h hp _ rfl (k : Int) 10 h2 _ (fun h => by cases h) (fun _ w' h1 => ⟨?_,h1⟩) (by omega) (by omega)
   show _ = Dies _ _
   unfold Dies
   rw [Int.natCast_add]
 ·have hp' : List.isPrefixOf [35] l = false:=Bool.eq_false_iff.2 hp
  rw [show comS l = none by unfold comS;rw [if_neg hp]]
  have T:=take_no (R:=R) (s:=s) (b:=b) [35] l hp' w h
  have c2:=h.c2
  go_enter Tryz.func139,Tryz.ntmps139
  go_wp2_with (go_at_call 138;refine T.mono ?_;rintro e w1 ⟨rfl,hr1,hk1⟩)
  go_ret
  exact ⟨⟨rfl,hr1⟩,hk1⟩
/-- What 'next' comes to. -/
def NextP (R : Nat) (s : Bs) (w : World) (r : Bs ⊕ Nat) (e : Ending) (w' : World) : Prop:=(match r with
  | .inl m => e = .returned (.bool (!m.isEmpty)) ∧ Rd w' R s (s.length - m.length) m
  | .inr k => e = Dies (s.length - k) 50) ∧ Kp (Own1 R) w w'
set_option maxHeartbeats 4000000 in
theorem next_any (l : Bs) (w : World) (h : Rd w R s b l) : Calls Tryz.prog 99 #[.pointer (some ⟨R,0,none⟩)] w (NextP R s w (skipS l)):=by
 go_enter Tryz.func99,Tryz.ntmps99
 go_wp2
 go_loopw [12] (fun _ wr => ∃ l',Rd wr R s b l' ∧ skipS l' = skipS l ∧ Kp (Own1 R) w wr) (fun _ wr => s.length - (atOf wr R).toNat)
 case atStart => exact ⟨_,h,rfl,Kp.refl _ _⟩
 case round =>
  clear h
  obtain ⟨l',hr,hsp,hk⟩:=hrel
  have ha:=atOf_eq hr
  have hle:=hr.le
  have HA : Hid (atOf wr R = ((s.length - l'.length : Nat) : Int)):=ha
  clear ha
  by_cases h1 : headIn ignL l' = true
  ·have O:=row_any ignL l' wr hr
   rw [h1] at O
   have HSP : Hid (skipS (spanR ignL l') = skipS l):=(skipS_ign h1).symm.trans hsp
   have HLT : Hid ((spanR ignL l').length < l'.length):=spanR_lt ignL l' h1
   clear hsp h1 hr
   go_wp2_with (go_at_call 137;refine O.mono ?_;rintro e w1 ⟨rfl,hr1,hk1⟩)
   refine ⟨⟨_,hr1,HSP.out,hk.trans hk1⟩,?_⟩
   rw [atOf_eq hr1,HA.out]
   have:=HLT.out
   simp only [Int.toNat_natCast]
   omega
  ·have h1' : headIn ignL l' = false:=Bool.eq_false_iff.2 h1
   have O:=row_any ignL l' wr hr
   rw [h1',spanR_stop ignL l' h1'] at O
   by_cases h2 : List.isPrefixOf [239,187,191] l' = true
   ·have T:=take_yes (R:=R) (s:=s) (b:=b) [239,187,191] l' h2
    have HSP : Hid (skipS (l'.drop 3) = skipS l):=(skipS_mark h1' h2).symm.trans hsp
    have HLT : Hid ((l'.drop 3).length < l'.length):=by
     have:=prefix_le h2
     simp only [List.length_cons,List.length_nil] at this
     show (l'.drop 3).length < _
     rw [List.length_drop];omega
    clear hsp h1 h1' h2
    go_wp2_with (first
     | (go_at_call 138;refine (T _ hr1).mono ?_;rintro e w2 ⟨rfl,hr2,hk2⟩)
     | (go_at_call 137;refine O.mono ?_;rintro e w1 ⟨rfl,hr1,hk1⟩)
     | fail)
    refine ⟨⟨_,hr2,HSP.out,(hk.trans hk1).trans hk2⟩,?_⟩
    have hr2' : Rd w2 R s b (l'.drop 3):=hr2
    rw [atOf_eq hr2',HA.out]
    have:=HLT.out
    simp only [Int.toNat_natCast]
    omega
   ·have h2' : List.isPrefixOf [239,187,191] l' = false:=Bool.eq_false_iff.2 h2
    have T:=take_no (R:=R) (s:=s) (b:=b) [239,187,191] l' h2'
    have M:=fun w h => comment_any (R:=R) (s:=s) (b:=b) l' w h
    have HSP:=(skipS_com h1' h2').symm.trans hsp
    clear hsp h1 h1' h2 h2'
    cases hc : comS l' with
    | none =>
     rw [hc] at HSP M
     have HQ : Hid ((.inl l' : Bs ⊕ Nat) = skipS l):=HSP
     clear HSP hc
     have fin : ∀ w3,Rd w3 R s b l' → w3.cell? ⟨R,2,none⟩ = some (.int .i64 ((s.length - l'.length : Nat) : Int)) ∧ w3.frozen? ⟨R,1,none⟩ = false ∧ w3.cell? ⟨R,1,none⟩ = some (.int .i64 (b : Int)):=fun w3 h3 => ⟨h3.c2,h3.free 1,h3.c1⟩
     cases l' with
     | nil =>
      have E:=fun w (h : Rd w R s (s.length - ([] : Bs).length) []) => ends_yes w h
      go_wp2_with (first
       | (go_at_call 140;refine (E _ (hr3.begin _ _ rfl)).mono ?_;rintro e w4 ⟨rfl,m,rfl⟩)
       | (go_at_call 139;refine (M _ hr2).mono ?_;rintro e w3 ⟨⟨rfl,hr3⟩,hk3⟩;obtain ⟨d2,f1,d1⟩:=fin _ hr3)
       | (go_at_call 138;refine (T _ hr1).mono ?_;rintro e w2 ⟨rfl,hr2,hk2⟩)
       | (go_at_call 137;refine O.mono ?_;rintro e w1 ⟨rfl,hr1,hk1⟩)
       | fail)
      go_ret
      rw [← HQ.out]
      exact ⟨⟨rfl,(hr3.begin _ _ rfl).drewN _⟩,((((hk.trans hk1).trans hk2).trans hk3).trans (Kp.own R 1 _)).drewN _⟩
     | cons c l' =>
      have E:=fun w (h : Rd w R s (s.length - (c :: l').length) (c :: l')) => ends_no c l' w h
      generalize hn : s.length - (c :: l').length = A at *
      go_wp2_with (first
       | (go_at_call 140;refine (E _ (hr3.begin _ _ rfl)).mono ?_;rintro e w4 ⟨rfl,m,rfl⟩)
       | (go_at_call 139;refine (M _ hr2).mono ?_;rintro e w3 ⟨⟨rfl,hr3⟩,hk3⟩;obtain ⟨d2,f1,d1⟩:=fin _ hr3)
       | (go_at_call 138;refine (T _ hr1).mono ?_;rintro e w2 ⟨rfl,hr2,hk2⟩)
       | (go_at_call 137;refine O.mono ?_;rintro e w1 ⟨rfl,hr1,hk1⟩)
       | fail)
      go_ret
      rw [← HQ.out]
      subst hn
      exact ⟨⟨rfl,(hr3.begin _ _ rfl).drewN _⟩,((((hk.trans hk1).trans hk2).trans hk3).trans (Kp.own R 1 _)).drewN _⟩
    | some x =>
     rw [hc] at HSP M
     cases x with
     | inl m =>
      have HQ : Hid (skipS m = skipS l):=HSP
      have HLT : Hid (m.length < l'.length):=comS_lt hc
      clear HSP hc
      go_wp2_with (first
       | (go_at_call 139;refine (M _ hr2).mono ?_;rintro e w3 ⟨⟨rfl,hr3⟩,hk3⟩)
       | (go_at_call 138;refine (T _ hr1).mono ?_;rintro e w2 ⟨rfl,hr2,hk2⟩)
       | (go_at_call 137;refine O.mono ?_;rintro e w1 ⟨rfl,hr1,hk1⟩)
       | fail)
      refine ⟨⟨_,hr3,HQ.out,((hk.trans hk1).trans hk2).trans hk3⟩,?_⟩
      rw [atOf_eq hr3,HA.out]
      have:=HLT.out
      simp only [Int.toNat_natCast]
      omega
     | inr k =>
      have HQ : Hid ((.inr (l'.length - k) : Bs ⊕ Nat) = skipS l):=HSP
      have HK : Hid (s.length - l'.length + k = s.length - (l'.length - k)):=by
       show _ = _
       rcases sourceS_cases (ahead l' (spanN endL (l'.drop 1))) with ⟨h1,_⟩ | ⟨q,hq,h1,_⟩
       ·unfold comS at hc
        by_cases hp : List.isPrefixOf [35] l' = true
        ·rw [if_pos hp,h1] at hc;simp at hc
        ·rw [if_neg hp] at hc;cases hc
       ·unfold comS at hc
        by_cases hp : List.isPrefixOf [35] l' = true
        ·rw [if_pos hp,h1] at hc
         simp at hc
         unfold ahead at hq
         rw [List.length_take] at hq
         omega
        ·rw [if_neg hp] at hc;cases hc
      clear HSP hc
      go_wp2_with (first
       | (go_at_call 139;refine (M _ hr2).mono ?_;rintro e w3 ⟨rfl,hk3⟩)
       | (go_at_call 138;refine (T _ hr1).mono ?_;rintro e w2 ⟨rfl,hr2,hk2⟩)
       | (go_at_call 137;refine O.mono ?_;rintro e w1 ⟨rfl,hr1,hk1⟩)
       | fail)
      refine ⟨rfl,?_⟩
      rw [← HQ.out]
      refine ⟨?_,((hk.trans hk1).trans hk2).trans hk3⟩
      show _ = Dies _ _
      rw [← HK.out]
      unfold Dies
      rw [Int.natCast_add]
end
end Go.Proofs.YtgmlbjfgfmfliaaGreatDoor
namespace Go.Proofs.YtgmlbjfgfmfliaaGreatDoor
open Go Go.RowKit
def hexF : Bs → Nat → Option Nat
 | [],a => some a
 | c :: l,a => (hexV c).bind fun d => hexF l (a * 16 + d)
theorem lower_all : ∀ n : Fin 256,(97 ≤ n.val ∧ n.val ≤ 122 → bits .or .u8 (n.val : Int) 32 = (n.val : Int)) ∧ (65 ≤ n.val ∧ n.val ≤ 90 → bits .or .u8 (n.val : Int) 32 = (n.val : Int) + 32) ∧ (¬ (65 ≤ n.val ∧ n.val ≤ 90) → ¬ (97 ≤ n.val ∧ n.val ≤ 122) → bits .or .u8 (n.val : Int) 32 < 97 ∨ 122 < bits .or .u8 (n.val : Int) 32):=by decide +kernel
theorem bytes_below (w : World) (e : TypeId) (s : ByteArray) : Below w.heap.size w (Lib.bytesWorld w e s) :=
 ⟨rfl,rfl,rfl,by rw [Lib.bytesWorld_size];omega,fun b hb => Lib.bytesWorld_at_old w e s b hb⟩
/-- What the parsing of a row comes to. -/
def UintP (w : World) (r : Option Nat) (e : Ending) (w' : World) : Prop:=(match r with
  | some v => e = .returned (.tuple #[.int .u64 (v : Int),.nilIface])
  | none => e = .returned (.tuple #[.int .u64 0,.iface 245 (.int .i64 2)])) ∧ Below w.heap.size w w'
set_option maxRecDepth 100000 in
set_option maxHeartbeats 4000000 in
theorem iuint_any (c0 : UInt8) (L0 : Bs) (hL : L0.length ≤ 3) (w : World) : Calls Tryz.prog 244 #[.string ⟨(c0 :: L0).toArray⟩,.int .i64 16,.int .i64 64] w (UintP w (hexF (c0 :: L0) 0)):=by
 have hne : (ByteArray.mk (c0 :: L0).toArray).toList.isEmpty = false:=by
  rw [ByteArray.toList_eq];rfl
 have hsz : (ByteArray.mk (c0 :: L0).toArray).size = (c0 :: L0).length:=rfl
 generalize hLL : c0 :: L0 = L at *
 have hL4 : L.length ≤ 4:=by rw [← hLL];simp;omega
 clear hLL hL
 have hcv:=fun W : World => Lib.run_convert_string_bytes (P:=Tryz.prog) W 9 60 5 ⟨L.toArray⟩ Tryz.underlying9 Tryz.underlying60 Tryz.underlying5
 have hmx : IntKind.u64.wrap (IntKind.u64.wrap 18446744073709551616 - 1) = 18446744073709551615:=by decide
 have hcell:=fun j (hj : j < L.length) => Lib.bytesWorld_cell w 5 ⟨L.toArray⟩ j hj
 have hB : Below w.heap.size w (Lib.bytesWorld w 5 ⟨L.toArray⟩):=bytes_below w _ _
 have hcell2 : ∀ j (hj : j < L.length),(Lib.bytesWorld w 5 ⟨L.toArray⟩).cell? ⟨w.heap.size,j,none⟩ = some (.int .u8 ((L[j]).toNat : Int)):=fun j hj => by
  rw [hcell j hj,List.getD_eq_getElem?_getD,List.getElem?_eq_getElem hj]
  rfl
 clear hcell
 generalize hD : ByteArray.mk L.toArray = D at *
 clear hD
 go_enter Tryz.func244,Tryz.ntmps244
 go_wp2
 generalize Lib.bytesWorld w 5 D = W0 at *
 go_loopw [12,13,101] (fun u n i wr => ∃ (j : Nat) (a : Nat),j ≤ L.length ∧ a < 16 ^ j ∧ hexF (L.drop j) a = hexF L 0 ∧ u = .bool false ∧ i = .int .i64 j ∧ n = .int .u64 ((a : Nat) : Int) ∧ wr = W0) (fun _ _ i _ => L.length - (intOf i).toNat)
 case atStart => exact ⟨0,0,Nat.zero_le _,by decide,rfl,rfl,rfl,rfl,rfl⟩
 case round =>
  obtain ⟨j,a,hj,ha,hx,rfl,rfl,rfl,rfl⟩:=hrel
  have hAJ : 16 ^ j ≤ 16 ^ 4:=Nat.pow_le_pow_right (by decide) (by omega)
  have ha4 : a ≤ 65535:=by omega
  by_cases hlt : j < L.length
  ·have hcj:=hcell2 j hlt
   have hjI : (j : Int) < (L.length : Int):=by omega
   have hdrop : L.drop j = L[j] :: L.drop (j + 1):=List.drop_eq_getElem_cons hlt
   have HX : Hid ((hexV L[j]).bind (fun d => hexF (L.drop (j + 1)) (a * 16 + d)) = hexF L 0):=by
    show _ = _
    rw [← hx,hdrop];rfl
   have HA : Hid (a < 16 ^ j):=ha
   have HJ : Hid (j < L.length):=hlt
   have hlt8:=(L[j]).toNat_lt
   obtain ⟨l1,l2,l3⟩:=lower_all ⟨(L[j]).toNat,hlt8⟩
   have LW:=fun w => Tryz.internal_strconv_lower ((L[j]).toNat : Int) w
   clear hx hdrop hcell2 ha hAJ
   generalize L[j] = c at *
   clear hlt
   simp only at l1 l2 l3
   have h16 : 16 ^ (j + 1) = 16 ^ j * 16:=Nat.pow_succ 16 j
   have HP : Hid (16 ^ (j + 1) = 16 ^ j * 16):=h16
   clear h16
   by_cases k1 : 48 ≤ c.toNat ∧ c.toNat ≤ 57
   ·have HV : Hid (hexV c = some (c.toNat - 48)):=by show hexV c = _;unfold hexV;rw [if_pos k1]
    have y1 : (48 : Int) ≤ c.toNat:=by omega
    have y2 : (c.toNat : Int) ≤ 57:=by omega
    have y3 : ((c.toNat : Int) == 95) = false:=by rw [beq_eq_false_iff_ne];omega
    have HS2 : Hid (((a * 16 + (c.toNat - 48) : Nat) : Int) = (a : Int) * 16 + ((c.toNat : Int) - 48)):=by show _ = _;omega
    have HS3 : Hid (c.toNat - 48 < 16):=by show _ < _;omega
    have hn : (a : Int) ≤ 65535:=by omega
    have hn0 : (0 : Int) ≤ a:=by omega
    clear k1 l1 l2 l3 hlt8 ha4
    have HC : Hid (hexF (L.drop (j + 1)) (a * 16 + (c.toNat - 48)) = hexF L 0):=by
     have:=HX.out
     rw [HV.out] at this
     exact this
    generalize c.toNat - 48 = d at *
    generalize (c.toNat : Int) = X at *
    have HM : Hid ((a : Int) = (a : Int)):=rfl
    obtain ⟨M,hM⟩ : ∃ M : Int,(a : Int) = M:=⟨_,rfl⟩
    have HMM : Hid ((a : Int) = M):=hM
    rw [hM] at hn hn0 HS2 ⊢
    clear hM HX HV LW HM
    go_wp2
    refine ⟨⟨j + 1,a * 16 + d,by have:=HJ.out;omega,?_,HC.out,rfl,by go_num,?_,trivial⟩,?_⟩
    ·rw [HP.out];have:=HA.out;have:=HS3.out;omega
    ·rw [HS2.out]
    ·have:=HJ.out;simp [intOf];omega
   ·by_cases k2 : 97 ≤ c.toNat ∧ c.toNat ≤ 102
    ·have HV : Hid (hexV c = some (c.toNat - 87)):=by show hexV c = _;unfold hexV;rw [if_neg k1,if_pos k2]
     rw [l1 (by omega)] at LW
     have y1 : (97 : Int) ≤ c.toNat:=by omega
     have y2 : (c.toNat : Int) ≤ 102:=by omega
     have y3 : ((c.toNat : Int) == 95) = false:=by rw [beq_eq_false_iff_ne];omega
     have HS2 : Hid (((a * 16 + (c.toNat - 87) : Nat) : Int) = (a : Int) * 16 + ((c.toNat : Int) - 87)):=by show _ = _;omega
     have HS3 : Hid (c.toNat - 87 < 16):=by show _ < _;omega
     have hn : (a : Int) ≤ 65535:=by omega
     have hn0 : (0 : Int) ≤ a:=by omega
     clear k1 k2 l1 l2 l3 hlt8 ha4
     have HC : Hid (hexF (L.drop (j + 1)) (a * 16 + (c.toNat - 87)) = hexF L 0):=by
      have:=HX.out
      rw [HV.out] at this
      exact this
     generalize c.toNat - 87 = d at *
     generalize (c.toNat : Int) = X at *
     obtain ⟨M,hM⟩ : ∃ M : Int,(a : Int) = M:=⟨_,rfl⟩
     rw [hM] at hn hn0 HS2 ⊢
     clear hM HX HV
     have y4 : ¬ X ≤ 57:=by omega
     have y5 : (48 : Int) ≤ X:=by omega
     have y6 : X ≤ 122:=by omega
     go_wp2_with (go_at_call 258;refine (LW _).mono ?_;rintro e w1 ⟨rfl,rfl⟩)
     refine ⟨⟨j + 1,a * 16 + d,by have:=HJ.out;omega,?_,HC.out,rfl,by go_num,?_,trivial⟩,?_⟩
     ·rw [HP.out];have:=HA.out;have:=HS3.out;omega
     ·rw [HS2.out]
      have e : X - 97 + 10 = X - 87:=by omega
      rw [e]
     ·have:=HJ.out;simp [intOf];omega
    ·by_cases k3 : 65 ≤ c.toNat ∧ c.toNat ≤ 70
     ·have HV : Hid (hexV c = some (c.toNat - 55)):=by show hexV c = _;unfold hexV;rw [if_neg k1,if_neg k2,if_pos k3]
      rw [l2 (by omega)] at LW
      have y1 : (65 : Int) ≤ c.toNat:=by omega
      have y2 : (c.toNat : Int) ≤ 70:=by omega
      have y3 : ((c.toNat : Int) == 95) = false:=by rw [beq_eq_false_iff_ne];omega
      have HS2 : Hid (((a * 16 + (c.toNat - 55) : Nat) : Int) = (a : Int) * 16 + ((c.toNat : Int) - 55)):=by show _ = _;omega
      have HS3 : Hid (c.toNat - 55 < 16):=by show _ < _;omega
      have hn : (a : Int) ≤ 65535:=by omega
      have hn0 : (0 : Int) ≤ a:=by omega
      clear k1 k2 k3 l1 l2 l3 hlt8 ha4
      have HC : Hid (hexF (L.drop (j + 1)) (a * 16 + (c.toNat - 55)) = hexF L 0):=by
       have:=HX.out
       rw [HV.out] at this
       exact this
      generalize c.toNat - 55 = d at *
      generalize (c.toNat : Int) = X at *
      obtain ⟨M,hM⟩ : ∃ M : Int,(a : Int) = M:=⟨_,rfl⟩
      rw [hM] at hn hn0 HS2 ⊢
      clear hM HX HV
      have y4 : ¬ X ≤ 57:=by omega
      have y5 : (48 : Int) ≤ X:=by omega
      have y6 : (97 : Int) ≤ X + 32:=by omega
      have y7 : X + 32 ≤ 122:=by omega
      go_wp2_with (go_at_call 258;refine (LW _).mono ?_;rintro e w1 ⟨rfl,rfl⟩)
      refine ⟨⟨j + 1,a * 16 + d,by have:=HJ.out;omega,?_,HC.out,rfl,by go_num,?_,trivial⟩,?_⟩
      ·rw [HP.out];have:=HA.out;have:=HS3.out;omega
      ·rw [HS2.out]
       have e : X + 32 - 97 + 10 = X - 55:=by omega
       rw [e]
      ·have:=HJ.out;simp [intOf];omega
     ·have HN : Hid (hexF L 0 = none):=by
       show hexF L 0 = none
       rw [← HX.out,show hexV c = none by unfold hexV;rw [if_neg k1,if_neg k2,if_neg k3]]
       rfl
      have y3 : ((c.toNat : Int) == 95) = false ∨ ((c.toNat : Int) == 95) = true:=by
       cases h : ((c.toNat : Int) == 95) <;> simp
      have y0 : (0 : Int) ≤ c.toNat:=by omega
      have y8 : (c.toNat : Int) ≤ 255:=by omega
      by_cases k4 : (65 ≤ c.toNat ∧ c.toNat ≤ 90) ∨ (97 ≤ c.toNat ∧ c.toNat ≤ 122)
      ·have LY : ∃ Y : Int,103 ≤ Y ∧ Y ≤ 122 ∧ bits .or .u8 (c.toNat : Int) 32 = Y:=by
        rcases k4 with k4 | k4
        ·exact ⟨_,by omega,by omega,l2 k4⟩
        ·exact ⟨_,by omega,by omega,l1 k4⟩
       obtain ⟨Y,hY1,hY2,hY3⟩:=LY
       rw [hY3] at LW
       have z1 : decide (48 ≤ (c.toNat : Int)) = true ∨ decide (48 ≤ (c.toNat : Int)) = false:=by cases decide (48 ≤ (c.toNat : Int)) <;> simp
       have z2 : ¬ ((c.toNat : Int) ≤ 57):=by omega
       have z3 : (48 : Int) ≤ c.toNat:=by omega
       have z4 : (97 : Int) ≤ Y:=by omega
       have z5 : (16 : Int) ≤ Y - 97 + 10:=by omega
       clear k1 k2 k3 k4 l1 l2 l3 hlt8 ha4 hY3 HX z1
       generalize (c.toNat : Int) = X at *
       rcases y3 with y3 | y3
       all_goals
        go_wp2_with (go_at_call 258;refine (LW _).mono ?_;rintro e w1 ⟨rfl,rfl⟩)
        go_ret2
        refine ⟨?_,hB⟩
        rw [HN.out]
        rfl
      ·have l4:=l3 (fun h => k4 (Or.inl h)) (fun h => k4 (Or.inr h))
       obtain ⟨Y,hY⟩ : ∃ Y,bits .or .u8 (c.toNat : Int) 32 = Y:=⟨_,rfl⟩
       rw [hY] at LW l4
       by_cases z3 : (48 : Int) ≤ c.toNat
       ·have z2 : ¬ ((c.toNat : Int) ≤ 57):=by omega
        by_cases z4 : (97 : Int) ≤ Y
        all_goals
         have z5 : Y < 97 ∨ 122 < Y:=l4
         clear k1 k2 k3 k4 l1 l2 l3 l4 hlt8 ha4 hY HX
         generalize (c.toNat : Int) = X at *
        ·have z6 : ¬ Y ≤ 122:=by omega
         clear z5
         rcases y3 with y3 | y3
         all_goals
          go_wp2_with (go_at_call 258;refine (LW _).mono ?_;rintro e w1 ⟨rfl,rfl⟩)
          go_ret2
          refine ⟨?_,hB⟩
          rw [HN.out]
          rfl
        ·clear z5
         rcases y3 with y3 | y3
         all_goals
          go_wp2_with (go_at_call 258;refine (LW _).mono ?_;rintro e w1 ⟨rfl,rfl⟩)
          go_ret2
          refine ⟨?_,hB⟩
          rw [HN.out]
          rfl
       ·have z6 : ¬ (97 : Int) ≤ Y:=by
         have : ∀ n : Fin 256,n.val < 48 → bits .or .u8 (n.val : Int) 32 < 97:=by decide +kernel
         have:=this ⟨c.toNat,hlt8⟩ (by simp only;omega)
         simp only at this
         omega
        clear k1 k2 k3 k4 l1 l2 l3 l4 hlt8 ha4 hY HX
        generalize (c.toNat : Int) = X at *
        rcases y3 with y3 | y3
        all_goals
         go_wp2_with (go_at_call 258;refine (LW _).mono ?_;rintro e w1 ⟨rfl,rfl⟩)
         go_ret2
         refine ⟨?_,hB⟩
         rw [HN.out]
         rfl
  ·have e : j = L.length:=by omega
   subst e
   have HX : Hid (some a = hexF L 0):=by
    show _ = _
    rw [← hx,List.drop_length];rfl
   clear hx
   go_wp2
   go_ret2
   refine ⟨?_,hB⟩
   rw [← HX.out]
   rfl
end Go.Proofs.YtgmlbjfgfmfliaaGreatDoor
