/- Digits of base sixteen. -/
import Derived.Test.YtgppemlciohjcaaGreatDoorB02
import Derived.Lib.ConvBytes
import Derived.WalkSpells
import Derived.WalkLawsBesides
namespace Go.Proofs.YtgppemlciohjcaaGreatDoor
section
open Go Go.RowKit
def hexF : Bs → Nat → Option Nat
 | [],a => some a
 | c :: l,a => (hexV c).bind fun d => hexF l (a * 16 + d)
theorem lower_all : ∀ n : Fin 256,(97 ≤ n.val ∧ n.val ≤ 122 → bits .or .u8 (n.val : Int) 32 = (n.val : Int)) ∧ (65 ≤ n.val ∧ n.val ≤ 90 → bits .or .u8 (n.val : Int) 32 = (n.val : Int) + 32) ∧ (¬ (65 ≤ n.val ∧ n.val ≤ 90) → ¬ (97 ≤ n.val ∧ n.val ≤ 122) → bits .or .u8 (n.val : Int) 32 < 97 ∨ 122 < bits .or .u8 (n.val : Int) 32):=by decide +kernel
theorem bytes_below (w : World) (e : TypeId) (s : ByteArray) : Below w.heap.size w (Lib.bytesWorld w e s) :=
 ⟨rfl,rfl,rfl,by rw [Lib.bytesWorld_size];omega,fun b hb => Lib.bytesWorld_at_old w e s b hb⟩
def UintP (w : World) (r : Option Nat) (e : Ending) (w' : World) : Prop:=(match r with
  | some v => e = .returned (.tuple #[.int .u64 (v : Int),.nilIface])
  | none => e = .returned (.tuple #[.int .u64 0,.iface 181 (.int .i64 2)])) ∧ Below w.heap.size w w'
set_option maxRecDepth 100000 in
set_option maxHeartbeats 4000000 in
theorem iuint_any (c0 : UInt8) (L0 : Bs) (hL : L0.length ≤ 3) (w : World) : Calls Tryz.prog 170 #[.string ⟨(c0 :: L0).toArray⟩,.int .i64 16,.int .i64 64] w (UintP w (hexF (c0 :: L0) 0)):=by
 have hne : (ByteArray.mk (c0 :: L0).toArray).toList.isEmpty = false:=by
  rw [ByteArray.toList_eq];rfl
 have hsz : (ByteArray.mk (c0 :: L0).toArray).size = (c0 :: L0).length:=rfl
 generalize hLL : c0 :: L0 = L at *
 have hL4 : L.length ≤ 4:=by rw [← hLL];simp;omega
 clear hLL hL
 have hcv:=fun W : World => Lib.run_convert_string_bytes (P:=Tryz.prog) W 9 37 5 ⟨L.toArray⟩ Tryz.underlying9 Tryz.underlying37 Tryz.underlying5
 have hmx : IntKind.u64.wrap (IntKind.u64.wrap 18446744073709551616 - 1) = 18446744073709551615:=by decide
 have hcell:=fun j (hj : j < L.length) => Lib.bytesWorld_cell w 5 ⟨L.toArray⟩ j hj
 have hB : Below w.heap.size w (Lib.bytesWorld w 5 ⟨L.toArray⟩):=bytes_below w _ _
 have hcell2 : ∀ j (hj : j < L.length),(Lib.bytesWorld w 5 ⟨L.toArray⟩).cell? ⟨w.heap.size,j,none⟩ = some (.int .u8 ((L[j]).toNat : Int)):=fun j hj => by
  rw [hcell j hj,List.getD_eq_getElem?_getD,List.getElem?_eq_getElem hj]
  rfl
 clear hcell
 generalize hD : ByteArray.mk L.toArray = D at *
 clear hD
 go_enter Tryz.func170,Tryz.ntmps170
 go_wp2
 generalize Lib.bytesWorld w 5 D = W0 at *
 go_loopw [12,13,101] (fun u n i wr => ∃ (j : Nat) (a : Nat),j ≤ L.length ∧ a < 16 ^ j ∧ hexF (L.drop j) a = hexF L 0 ∧ u = .bool false ∧ i = .int .i64 j ∧ n = .int .u64 ((a : Nat) : Int) ∧ wr = W0) (fun _ _ i _ => L.length - (intOf i).toNat)
 case atStart => exact ⟨0,0,Nat.zero_le _,by decide,rfl,rfl,rfl,rfl,rfl⟩
 case round =>
  obtain ⟨j,a,hj,ha,hx,rfl,rfl,rfl,rfl⟩:=hrel
  have hAJ : 16 ^ j ≤ 16 ^ 4:=Nat.pow_le_pow_right (by decide) (by omega)
  have ha4 : a ≤ 65535:=by omega
  by_cases hlt : j < L.length
  ·have hcj:=hcell2 j hlt
   have hjI : (j : Int) < (L.length : Int):=by omega
   have hdrop : L.drop j = L[j] :: L.drop (j + 1):=List.drop_eq_getElem_cons hlt
   have HX : Hid ((hexV L[j]).bind (fun d => hexF (L.drop (j + 1)) (a * 16 + d)) = hexF L 0):=by
    show _ = _
    rw [← hx,hdrop];rfl
   have HA : Hid (a < 16 ^ j):=ha
   have HJ : Hid (j < L.length):=hlt
   have hlt8:=(L[j]).toNat_lt
   obtain ⟨l1,l2,l3⟩:=lower_all ⟨(L[j]).toNat,hlt8⟩
   have LW:=fun w => Tryz.internal_strconv_lower ((L[j]).toNat : Int) w
   clear hx hdrop hcell2 ha hAJ
   generalize L[j] = c at *
   clear hlt
   simp only at l1 l2 l3
   have h16 : 16 ^ (j + 1) = 16 ^ j * 16:=Nat.pow_succ 16 j
   have HP : Hid (16 ^ (j + 1) = 16 ^ j * 16):=h16
   clear h16
   by_cases k1 : 48 ≤ c.toNat ∧ c.toNat ≤ 57
   ·have HV : Hid (hexV c = some (c.toNat - 48)):=by show hexV c = _;unfold hexV;rw [if_pos k1]
    have y1 : (48 : Int) ≤ c.toNat:=by omega
    have y2 : (c.toNat : Int) ≤ 57:=by omega
    have y3 : ((c.toNat : Int) == 95) = false:=by rw [beq_eq_false_iff_ne];omega
    have HS2 : Hid (((a * 16 + (c.toNat - 48) : Nat) : Int) = (a : Int) * 16 + ((c.toNat : Int) - 48)):=by show _ = _;omega
    have HS3 : Hid (c.toNat - 48 < 16):=by show _ < _;omega
    have hn : (a : Int) ≤ 65535:=by omega
    have hn0 : (0 : Int) ≤ a:=by omega
    clear k1 l1 l2 l3 hlt8 ha4
    have HC : Hid (hexF (L.drop (j + 1)) (a * 16 + (c.toNat - 48)) = hexF L 0):=by
     have:=HX.out
     rw [HV.out] at this
     exact this
    generalize c.toNat - 48 = d at *
    generalize (c.toNat : Int) = X at *
    have HM : Hid ((a : Int) = (a : Int)):=rfl
    obtain ⟨M,hM⟩ : ∃ M : Int,(a : Int) = M:=⟨_,rfl⟩
    have HMM : Hid ((a : Int) = M):=hM
    rw [hM] at hn hn0 HS2 ⊢
    clear hM HX HV LW HM
    go_wp2
    refine ⟨⟨j + 1,a * 16 + d,by have:=HJ.out;omega,?_,HC.out,rfl,by go_num,?_,trivial⟩,?_⟩
    ·rw [HP.out];have:=HA.out;have:=HS3.out;omega
    ·rw [HS2.out]
    ·have:=HJ.out;simp [intOf];omega
   ·by_cases k2 : 97 ≤ c.toNat ∧ c.toNat ≤ 102
    ·have HV : Hid (hexV c = some (c.toNat - 87)):=by show hexV c = _;unfold hexV;rw [if_neg k1,if_pos k2]
     rw [l1 (by omega)] at LW
     have y1 : (97 : Int) ≤ c.toNat:=by omega
     have y2 : (c.toNat : Int) ≤ 102:=by omega
     have y3 : ((c.toNat : Int) == 95) = false:=by rw [beq_eq_false_iff_ne];omega
     have HS2 : Hid (((a * 16 + (c.toNat - 87) : Nat) : Int) = (a : Int) * 16 + ((c.toNat : Int) - 87)):=by show _ = _;omega
     have HS3 : Hid (c.toNat - 87 < 16):=by show _ < _;omega
     have hn : (a : Int) ≤ 65535:=by omega
     have hn0 : (0 : Int) ≤ a:=by omega
     clear k1 k2 l1 l2 l3 hlt8 ha4
     have HC : Hid (hexF (L.drop (j + 1)) (a * 16 + (c.toNat - 87)) = hexF L 0):=by
      have:=HX.out
      rw [HV.out] at this
      exact this
     generalize c.toNat - 87 = d at *
     generalize (c.toNat : Int) = X at *
     obtain ⟨M,hM⟩ : ∃ M : Int,(a : Int) = M:=⟨_,rfl⟩
     rw [hM] at hn hn0 HS2 ⊢
     clear hM HX HV
     have y4 : ¬ X ≤ 57:=by omega
     have y5 : (48 : Int) ≤ X:=by omega
     have y6 : X ≤ 122:=by omega
     go_wp2_with (go_at_call 179;refine (LW _).mono ?_;rintro e w1 ⟨rfl,rfl⟩)
     refine ⟨⟨j + 1,a * 16 + d,by have:=HJ.out;omega,?_,HC.out,rfl,by go_num,?_,trivial⟩,?_⟩
     ·rw [HP.out];have:=HA.out;have:=HS3.out;omega
     ·rw [HS2.out]
      have e : X - 97 + 10 = X - 87:=by omega
      rw [e]
     ·have:=HJ.out;simp [intOf];omega
    ·by_cases k3 : 65 ≤ c.toNat ∧ c.toNat ≤ 70
     ·have HV : Hid (hexV c = some (c.toNat - 55)):=by show hexV c = _;unfold hexV;rw [if_neg k1,if_neg k2,if_pos k3]
      rw [l2 (by omega)] at LW
      have y1 : (65 : Int) ≤ c.toNat:=by omega
      have y2 : (c.toNat : Int) ≤ 70:=by omega
      have y3 : ((c.toNat : Int) == 95) = false:=by rw [beq_eq_false_iff_ne];omega
      have HS2 : Hid (((a * 16 + (c.toNat - 55) : Nat) : Int) = (a : Int) * 16 + ((c.toNat : Int) - 55)):=by show _ = _;omega
      have HS3 : Hid (c.toNat - 55 < 16):=by show _ < _;omega
      have hn : (a : Int) ≤ 65535:=by omega
      have hn0 : (0 : Int) ≤ a:=by omega
      clear k1 k2 k3 l1 l2 l3 hlt8 ha4
      have HC : Hid (hexF (L.drop (j + 1)) (a * 16 + (c.toNat - 55)) = hexF L 0):=by
       have:=HX.out
       rw [HV.out] at this
       exact this
      generalize c.toNat - 55 = d at *
      generalize (c.toNat : Int) = X at *
      obtain ⟨M,hM⟩ : ∃ M : Int,(a : Int) = M:=⟨_,rfl⟩
      rw [hM] at hn hn0 HS2 ⊢
      clear hM HX HV
      have y4 : ¬ X ≤ 57:=by omega
      have y5 : (48 : Int) ≤ X:=by omega
      have y6 : (97 : Int) ≤ X + 32:=by omega
      have y7 : X + 32 ≤ 122:=by omega
      go_wp2_with (go_at_call 179;refine (LW _).mono ?_;rintro e w1 ⟨rfl,rfl⟩)
      refine ⟨⟨j + 1,a * 16 + d,by have:=HJ.out;omega,?_,HC.out,rfl,by go_num,?_,trivial⟩,?_⟩
      ·rw [HP.out];have:=HA.out;have:=HS3.out;omega
      ·rw [HS2.out]
       have e : X + 32 - 97 + 10 = X - 55:=by omega
       rw [e]
      ·have:=HJ.out;simp [intOf];omega
     ·have HN : Hid (hexF L 0 = none):=by
       show hexF L 0 = none
       rw [← HX.out,show hexV c = none by unfold hexV;rw [if_neg k1,if_neg k2,if_neg k3]]
       rfl
      have y3 : ((c.toNat : Int) == 95) = false ∨ ((c.toNat : Int) == 95) = true:=by
       cases h : ((c.toNat : Int) == 95) <;> simp
      have y0 : (0 : Int) ≤ c.toNat:=by omega
      have y8 : (c.toNat : Int) ≤ 255:=by omega
      by_cases k4 : (65 ≤ c.toNat ∧ c.toNat ≤ 90) ∨ (97 ≤ c.toNat ∧ c.toNat ≤ 122)
      ·have LY : ∃ Y : Int,103 ≤ Y ∧ Y ≤ 122 ∧ bits .or .u8 (c.toNat : Int) 32 = Y:=by
        rcases k4 with k4 | k4
        ·exact ⟨_,by omega,by omega,l2 k4⟩
        ·exact ⟨_,by omega,by omega,l1 k4⟩
       obtain ⟨Y,hY1,hY2,hY3⟩:=LY
       rw [hY3] at LW
       have z1 : decide (48 ≤ (c.toNat : Int)) = true ∨ decide (48 ≤ (c.toNat : Int)) = false:=by cases decide (48 ≤ (c.toNat : Int)) <;> simp
       have z2 : ¬ ((c.toNat : Int) ≤ 57):=by omega
       have z3 : (48 : Int) ≤ c.toNat:=by omega
       have z4 : (97 : Int) ≤ Y:=by omega
       have z5 : (16 : Int) ≤ Y - 97 + 10:=by omega
       clear k1 k2 k3 k4 l1 l2 l3 hlt8 ha4 hY3 HX z1
       generalize (c.toNat : Int) = X at *
       rcases y3 with y3 | y3
       all_goals
        go_wp2_with (go_at_call 179;refine (LW _).mono ?_;rintro e w1 ⟨rfl,rfl⟩)
        go_ret2
        refine ⟨?_,hB⟩
        rw [HN.out]
        rfl
      ·have l4:=l3 (fun h => k4 (Or.inl h)) (fun h => k4 (Or.inr h))
       obtain ⟨Y,hY⟩ : ∃ Y,bits .or .u8 (c.toNat : Int) 32 = Y:=⟨_,rfl⟩
       rw [hY] at LW l4
       by_cases z3 : (48 : Int) ≤ c.toNat
       ·have z2 : ¬ ((c.toNat : Int) ≤ 57):=by omega
        by_cases z4 : (97 : Int) ≤ Y
        all_goals
         have z5 : Y < 97 ∨ 122 < Y:=l4
         clear k1 k2 k3 k4 l1 l2 l3 l4 hlt8 ha4 hY HX
         generalize (c.toNat : Int) = X at *
        ·have z6 : ¬ Y ≤ 122:=by omega
         clear z5
         rcases y3 with y3 | y3
         all_goals
          go_wp2_with (go_at_call 179;refine (LW _).mono ?_;rintro e w1 ⟨rfl,rfl⟩)
          go_ret2
          refine ⟨?_,hB⟩
          rw [HN.out]
          rfl
        ·clear z5
         rcases y3 with y3 | y3
         all_goals
          go_wp2_with (go_at_call 179;refine (LW _).mono ?_;rintro e w1 ⟨rfl,rfl⟩)
          go_ret2
          refine ⟨?_,hB⟩
          rw [HN.out]
          rfl
       ·have z6 : ¬ (97 : Int) ≤ Y:=by
         have : ∀ n : Fin 256,n.val < 48 → bits .or .u8 (n.val : Int) 32 < 97:=by decide +kernel
         have:=this ⟨c.toNat,hlt8⟩ (by simp only;omega)
         simp only at this
         omega
        clear k1 k2 k3 k4 l1 l2 l3 l4 hlt8 ha4 hY HX
        generalize (c.toNat : Int) = X at *
        rcases y3 with y3 | y3
        all_goals
         go_wp2_with (go_at_call 179;refine (LW _).mono ?_;rintro e w1 ⟨rfl,rfl⟩)
         go_ret2
         refine ⟨?_,hB⟩
         rw [HN.out]
         rfl
  ·have e : j = L.length:=by omega
   subst e
   have HX : Hid (some a = hexF L 0):=by
    show _ = _
    rw [← hx,List.drop_length];rfl
   clear hx
   go_wp2
   go_ret2
   refine ⟨?_,hB⟩
   rw [← HX.out]
   rfl
end
section
open Go Go.RowKit Go.Lib
theorem suint_yes (c0 : UInt8) (L0 : Bs) (hL : L0.length ≤ 3) (v : Nat) (hv : hexF (c0 :: L0) 0 = some v) (w : World) : Calls Tryz.prog 155 #[.string ⟨(c0 :: L0).toArray⟩,.int .i64 16,.int .i64 64] w fun e w' => e = .returned (.tuple #[.int .u64 (v : Int),.nilIface]) ∧ Below w.heap.size w w':=by
 have P:=iuint_any c0 L0 hL w
 rw [hv] at P
 clear hv
 generalize (c0 :: L0).toArray = A at *
 go_enter Tryz.func155,Tryz.ntmps155
 go_wp2_with (go_at_call 170;refine P.mono ?_;rintro e w1 ⟨rfl,hb1⟩)
 go_ret2
 exact ⟨rfl,hb1⟩
set_option maxRecDepth 100000 in
theorem iuint_empty (w : World) : Calls Tryz.prog 170 #[.string ⟨#[]⟩,.int .i64 16,.int .i64 64] w fun e w' => e = .returned (.tuple #[.int .u64 0,.iface 181 (.int .i64 2)]) ∧ Below w.heap.size w w':=by
 go_enter Tryz.func170,Tryz.ntmps170
 go_wp2
 go_ret2
 exact ⟨rfl,Below.refl _ _⟩
theorem suint_no (L : Bs) (hL : L.length ≤ 4) (hv : L = [] ∨ hexF L 0 = none) (w : World) (g : Gl w) : Calls Tryz.prog 155 #[.string ⟨L.toArray⟩,.int .i64 16,.int .i64 64] w fun e w' => (∃ N,e = .returned (.tuple #[.int .u64 0,.iface 184 (.pointer (some ⟨N,0,none⟩))])) ∧ Below w.heap.size w w':=by
 have P : Calls Tryz.prog 170 #[.string ⟨L.toArray⟩,.int .i64 16,.int .i64 64] w fun e w' => e = .returned (.tuple #[.int .u64 0,.iface 181 (.int .i64 2)]) ∧ Below w.heap.size w w':=by
  cases L with
  | nil => exact iuint_empty w
  | cons c L =>
   have P:=iuint_any c L (by simp at hL;omega) w
   rcases hv with hv | hv
   ·cases hv
   ·rw [hv] at P;exact P
 have hsz:=size_of L
 have E:=fun (w' : World) (hb : Below w.heap.size w w') (ev : Value) (h1 : w'.cell? ⟨gE,0,none⟩ = some ev) (h2 : ev = .nilIface ∨ ∃ te pe,ev = .iface te pe) => Tryz.strconv_toError_syntax ⟨#[80,97,114,115,101,85,105,110,116]⟩ ⟨L.toArray⟩ 16 64 ev w' (by rw [hsz];omega) h1 h2
 clear hv hsz
 generalize L.toArray = A at *
 go_enter Tryz.func155,Tryz.ntmps155
 go_wp2_with (first
  | (go_at_call 171;refine (E w1 hb1 ev h1 h2).mono ?_;rintro e w2 ⟨N,rfl,_,_,hb2⟩)
  | (go_at_call 170;refine P.mono ?_;rintro e w1 ⟨rfl,hb1⟩;obtain ⟨ev,h1,h2⟩:=(g.below hb1 (Nat.le_refl _)).es)
  | fail)
 go_ret2
 exact ⟨⟨N,rfl⟩,hb1.trans (hb2.mono hb1.size)⟩
theorem isHalf_any (c : Int) (w : World) : Calls Tryz.prog 156 #[.int .i64 c] w fun e w' => e = .returned (.bool (decide (55296 ≤ c ∧ c ≤ 57343))) ∧ w' = w:=by
 go_enter Tryz.func156,Tryz.ntmps156
 go_wp2
 all_goals (go_ret;refine ⟨ret_bool ?_,rfl⟩;first | rfl | (symm;simp;omega) | (simp;omega))
theorem cell_new (w : World) (cs : Array Value) (t : TypeId) (j : Nat) : (w.alloc (.cells cs t)).cell? ((⟨w.heap.size,0,none⟩ : Addr).add j) = cs[j]?:=by
 rw [Addr.add_lit,Nat.zero_add]
 unfold World.cell?
 rw [show (w.alloc (.cells cs t)).heap[w.heap.size]? = some (.cells cs t (0,0)) from heap_alloc_new _ _]
 rfl
theorem u8_cell (x : Nat) (y : Int) (hx : x < 256) (hy : y = x) : Value.int .u8 y = .int .u8 ((x.toUInt8).toNat : Int):=by
 rw [hy]
 simp
 omega
theorem hconv (n : Nat) (w : World) (h0 : 2048 ≤ n) (h1 : n < 65536) :
  (convert 37 9 (.slice (some ⟨w.heap.size,0,none⟩) 3 3)).run Tryz.prog (w.alloc (.cells #[.int .u8 (224 + (n : Int) / 4096),.int .u8 (128 + (n : Int) / 64 % 64),.int .u8 (128 + (n : Int) % 64)] 5)) = .ok (.string ⟨(halfS n).toArray⟩) (w.alloc (.cells #[.int .u8 (224 + (n : Int) / 4096),.int .u8 (128 + (n : Int) / 64 % 64),.int .u8 (128 + (n : Int) % 64)] 5)) :=
 run_convert_bytes_back (P:=Tryz.prog) (w.alloc (.cells #[.int .u8 (224 + (n : Int) / 4096),.int .u8 (128 + (n : Int) / 64 % 64),.int .u8 (128 + (n : Int) % 64)] 5)) 37 9 5 ⟨w.heap.size,0,none⟩ 3 (halfS n) Tryz.underlying37 Tryz.underlying5 Tryz.underlying9 (by
   intro j hj
   match j,hj with
   | 0,_ => exact (cell_new w _ _ _).trans (congrArg some (u8_cell _ _ (by omega) (by omega)))
   | 1,_ => exact (cell_new w _ _ _).trans (congrArg some (u8_cell _ _ (by omega) (by omega)))
   | 2,_ => exact (cell_new w _ _ _).trans (congrArg some (u8_cell _ _ (by omega) (by omega)))
   | n + 3,hj => exact absurd (show n + 3 < 3 from hj) (by omega))
set_option maxRecDepth 100000 in
set_option maxHeartbeats 1000000 in
theorem half_any (n : Nat) (w : World) (h0 : 2048 ≤ n) (h1 : n < 65536) : Calls Tryz.prog 157 #[.int .i64 (n : Int)] w fun e w' => e = .returned (.string ⟨(halfS n).toArray⟩) ∧ Below w.heap.size w w':=by
 have hcv:=hconv n w h0 h1
 have h0' : 2048 ≤ (n : Int):=by omega
 have h1' : (n : Int) < 65536:=by omega
 clear h0 h1
 generalize halfS n = H at *
 generalize (n : Int) = c at *
 go_enter Tryz.func157,Tryz.ntmps157
 go_wp2
 go_ret
 exact ⟨rfl,(Below.refl _ _).alloc (Nat.le_refl _) _⟩
end
section
open Go Go.RowKit
section
variable {R : Nat} {s : Bs} {b : Nat}
theorem hexV_lt {c : UInt8} {d : Nat} (h : hexV c = some d) : d < 16:=by
 unfold hexV at h
 by_cases h1 : 48 ≤ c.toNat ∧ c.toNat ≤ 57
 ·rw [if_pos h1] at h;cases h;omega
 ·rw [if_neg h1] at h
  by_cases h2 : 97 ≤ c.toNat ∧ c.toNat ≤ 102
  ·rw [if_pos h2] at h;cases h;omega
  ·rw [if_neg h2] at h
   by_cases h3 : 65 ≤ c.toNat ∧ c.toNat ≤ 70
   ·rw [if_pos h3] at h;cases h;omega
   ·rw [if_neg h3] at h;cases h
theorem nmbS_eq (a b c d : UInt8) (r : Bs) : nmbS (a :: b :: c :: d :: r) = (hexF [a,b,c,d] 0).map fun V => (unitS V,r):=by
 have e : nmbS (a :: b :: c :: d :: r) = (hexV a).bind fun x => (hexV b).bind fun y => (hexV c).bind fun z => (hexV d).bind fun t => some (unitS (x * 4096 + y * 256 + z * 16 + t),r):=rfl
 rw [e]
 simp only [hexF]
 cases hexV a with
 | none => rfl
 | some x =>
  cases hexV b with
  | none => rfl
  | some y =>
   cases hexV c with
   | none => rfl
   | some z =>
    cases hexV d with
    | none => rfl
    | some t =>
     simp only [Option.bind_some,Option.map_some]
     have e : x * 4096 + y * 256 + z * 16 + t = (((0 * 16 + x) * 16 + y) * 16 + z) * 16 + t:=by omega
     rw [e]
theorem hexF_lt : ∀ (l : Bs) (a n : Nat) (V : Nat),a < 16 ^ n → hexF l a = some V → V < 16 ^ (n + l.length)
 | [],a,n,V,ha,h => by
  have e : a = V:=by simpa [hexF] using h
  subst e
  exact ha
 | c :: l,a,n,V,ha,h => by
  unfold hexF at h
  cases hc : hexV c with
  | none => rw [hc] at h;cases h
  | some d =>
   rw [hc] at h
   have:=hexF_lt l (a * 16 + d) (n + 1) V (by have:=hexV_lt hc;rw [Nat.pow_succ];omega) h
   rw [List.length_cons,show n + (l.length + 1) = n + 1 + l.length by omega]
   exact this
def StrP (R : Nat) (s : Bs) (b : Nat) (w : World) (r : Option (Bs × Bs)) (e : Ending) (w' : World) : Prop:=(match r with
  | some p => e = .returned (.string ⟨p.1.toArray⟩) ∧ Rd w' R s b p.2
  | none => e = Dies b 52) ∧ Kp (Own1 R) w w'
theorem cut_take {s l : Bs} (h : l <:+ s) (n : Nat) : (ByteArray.mk s.toArray).extract (s.length - l.length) (s.length - l.length + n) = ⟨(l.take n).toArray⟩:=by
 obtain ⟨p,rfl⟩:=h
 have e : (p ++ l).length - l.length = p.length:=by simp
 rw [e]
 apply ByteArray.ext;apply Array.toList_inj.1;simp
set_option maxHeartbeats 2000000 in
theorem nmb_short (l : Bs) (hl : l.length < 4) (w : World) (h : Rd w R s b l) : Calls Tryz.prog 147 #[.pointer (some ⟨R,0,none⟩)] w fun e w' => e = Dies b 52 ∧ Kp (Own1 R) w w':=by
 have c0:=h.c0
 have c2:=h.c2
 have hle:=h.le
 have hsm:=h.small
 obtain ⟨h1,h2,h3⟩:=suf_facts h.suf
 have U : ∀ (w : World),Gl w → Calls Tryz.prog 155 #[.string ⟨l.toArray⟩,.int .i64 16,.int .i64 64] w fun e w' => (∃ x ev,e = .returned (.tuple #[.int .u64 x,ev])) ∧ Below w.heap.size w w':=by
  intro w g
  cases l with
  | nil =>
   refine (suint_no [] (by simp) (Or.inl rfl) w g).mono ?_
   rintro e w' ⟨⟨N,rfl⟩,hb⟩
   exact ⟨⟨_,_,rfl⟩,hb⟩
  | cons c l =>
   cases hx : hexF (c :: l) 0 with
   | none =>
    refine (suint_no (c :: l) (by omega) (Or.inr hx) w g).mono ?_
    rintro e w' ⟨⟨N,rfl⟩,hb⟩
    exact ⟨⟨_,_,rfl⟩,hb⟩
   | some v =>
    refine (suint_yes c l (by simp at hl;omega) v hx w).mono ?_
    rintro e w' ⟨rfl,hb⟩
    exact ⟨⟨_,_,rfl⟩,hb⟩
 have hz:=size_of l
 have g1 : (l.length : Int) < 4:=by omega
 have g2 : (0 : Int) ≤ ((s.length - l.length : Nat) : Int):=by omega
 have g3 : ((s.length - l.length : Nat) : Int) ≤ (s.length : Int):=by omega
 have g4 : ¬ (((s.length - l.length : Nat) : Int) + 4 < (s.length : Int)):=by omega
 have g5 : (s.length : Int) < ((s.length - l.length : Nat) : Int) + 4:=by omega
 have g6 : ((s.length - l.length : Nat) : Int) ≤ 16384:=by omega
 have g7 : min (((s.length - l.length : Nat) : Int) + 4) (s.length : Int) = (s.length : Int):=by omega
 have HH : Hid (Rd w R s b l):=h
 have gD : Gl w.drew:=(h.drewN 1).gl
 have rD : Rd w.drew R s b l:=h.drewN 1
 have HD : Hid (Rd w.drew R s b l):=rD
 clear h hle hsm h3 rD
 generalize s.length - l.length = A at *
 generalize (ByteArray.mk s.toArray) = D at *
 generalize (ByteArray.mk l.toArray) = X at *
 go_enter Tryz.func147,Tryz.ntmps147
 go_wp2
 go_region
 all_goals
  go_wp2_with (first
   | (go_at_call 51;refine (fail_any _ _ _ hr1).mono ?_;rintro e w2 ⟨rfl,rfl⟩)
   | (go_at_call 155;refine (U _ gD).mono ?_;rintro e w1 ⟨⟨x,ev,rfl⟩,hb1⟩;have hr1:=HD.out.below hb1 HH.out.lt)
   | fail)
  exact ⟨rfl,rfl,(Kp.refl _ w).drew.then_below hb1⟩
set_option maxHeartbeats 2000000 in
theorem nmb_bad (x0 x1 x2 x3 : UInt8) (r : Bs) (hx : hexF [x0,x1,x2,x3] 0 = none) (w : World) (h : Rd w R s b (x0 :: x1 :: x2 :: x3 :: r)) : Calls Tryz.prog 147 #[.pointer (some ⟨R,0,none⟩)] w fun e w' => e = Dies b 52 ∧ Kp (Own1 R) w w':=by
 have c0:=h.c0
 have c2:=h.c2
 have hle:=h.le
 have hsm:=h.small
 have h1:=size_of s
 have h2:=cut_take h.suf 4
 have U:=fun w g => suint_no [x0,x1,x2,x3] (by simp) (Or.inr hx) w g
 rw [show List.take 4 (x0 :: x1 :: x2 :: x3 :: r) = [x0,x1,x2,x3] from rfl] at h2
 have hz : (ByteArray.mk [x0,x1,x2,x3].toArray).size = 4:=rfl
 simp only [List.length_cons] at hle
 have g2 : (0 : Int) ≤ ((s.length - (x0 :: x1 :: x2 :: x3 :: r).length : Nat) : Int):=by omega
 have g3 : ((s.length - (x0 :: x1 :: x2 :: x3 :: r).length : Nat) : Int) + 4 ≤ (s.length : Int):=by simp only [List.length_cons];omega
 have g6 : ((s.length - (x0 :: x1 :: x2 :: x3 :: r).length : Nat) : Int) ≤ 16384:=by omega
 have g7 : min (((s.length - (x0 :: x1 :: x2 :: x3 :: r).length : Nat) : Int) + 4) (s.length : Int) = ((s.length - (x0 :: x1 :: x2 :: x3 :: r).length : Nat) : Int) + 4:=by omega
 have g8 : (((s.length - (x0 :: x1 :: x2 :: x3 :: r).length : Nat) : Int) + 4).toNat = s.length - (x0 :: x1 :: x2 :: x3 :: r).length + 4:=by omega
 have gD : Gl w.drew:=(h.drewN 1).gl
 have HD : Hid (Rd w.drew R s b (x0 :: x1 :: x2 :: x3 :: r)):=h.drewN 1
 have HL : Hid (R < w.heap.size):=h.lt
 clear h hle hsm hx
 generalize s.length - (x0 :: x1 :: x2 :: x3 :: r).length = A at *
 generalize (ByteArray.mk s.toArray) = D at *
 generalize (ByteArray.mk [x0,x1,x2,x3].toArray) = X at *
 go_enter Tryz.func147,Tryz.ntmps147
 go_wp2
 go_region
 all_goals
  go_wp2_with (first
   | (go_at_call 51;refine (fail_any _ _ _ hr1).mono ?_;rintro e w2 ⟨rfl,rfl⟩)
   | (go_at_call 155;refine (U _ gD).mono ?_;rintro e w1 ⟨⟨N,rfl⟩,hb1⟩;have hr1:=HD.out.below hb1 HL.out)
   | fail)
  exact ⟨rfl,rfl,(Kp.refl _ w).drew.then_below hb1⟩
set_option maxHeartbeats 2000000 in
theorem nmb_walkA (x0 x1 x2 x3 : UInt8) (r : Bs) (VV : Int) (T : ByteArray) (gV : VV < 65536) (gV0 : 0 ≤ VV) (U : ∀ w,Calls Tryz.prog 155 #[.string ⟨[x0,x1,x2,x3].toArray⟩,.int .i64 16,.int .i64 64] w fun e w' => e = .returned (.tuple #[.int .u64 VV,.nilIface]) ∧ Below w.heap.size w w')
  (H : ∀ w,Calls Tryz.prog 156 #[.int .i64 VV] w fun e w' => e = .returned (.bool true) ∧ w' = w) (B : ∀ w,Calls Tryz.prog 157 #[.int .i64 VV] w fun e w' => e = .returned (.string T) ∧ Below w.heap.size w w') (w : World) (h : Rd w R s b (x0 :: x1 :: x2 :: x3 :: r)) :
  Calls Tryz.prog 147 #[.pointer (some ⟨R,0,none⟩)] w fun e w' => e = .returned (.string T) ∧ Rd w' R s b r ∧ Kp (Own1 R) w w':=by
 have c0:=h.c0
 have c2:=h.c2
 have hle:=h.le
 have hsm:=h.small
 have h1:=size_of s
 have h2:=cut_take h.suf 4
 rw [show List.take 4 (x0 :: x1 :: x2 :: x3 :: r) = [x0,x1,x2,x3] from rfl] at h2
 have hz : (ByteArray.mk [x0,x1,x2,x3].toArray).size = 4:=rfl
 simp only [List.length_cons] at hle
 have g2 : (0 : Int) ≤ ((s.length - (x0 :: x1 :: x2 :: x3 :: r).length : Nat) : Int):=by omega
 have g3 : ((s.length - (x0 :: x1 :: x2 :: x3 :: r).length : Nat) : Int) + 4 ≤ (s.length : Int):=by simp only [List.length_cons];omega
 have g6 : ((s.length - (x0 :: x1 :: x2 :: x3 :: r).length : Nat) : Int) ≤ 16384:=by omega
 have g7 : min (((s.length - (x0 :: x1 :: x2 :: x3 :: r).length : Nat) : Int) + 4) (s.length : Int) = ((s.length - (x0 :: x1 :: x2 :: x3 :: r).length : Nat) : Int) + 4:=by omega
 have g8 : (((s.length - (x0 :: x1 :: x2 :: x3 :: r).length : Nat) : Int) + 4).toNat = s.length - (x0 :: x1 :: x2 :: x3 :: r).length + 4:=by omega
 have HG : Hid (((s.length - (x0 :: x1 :: x2 :: x3 :: r).length : Nat) : Int) + 4 = ((s.length - r.length : Nat) : Int)):=by
  show _ = _
  simp only [List.length_cons];omega
 have HD : Hid (Rd w.drew R s b (x0 :: x1 :: x2 :: x3 :: r)):=h.drewN 1
 have HL : Hid (R < w.heap.size):=h.lt
 have HS : Hid (r <:+ x0 :: x1 :: x2 :: x3 :: r):=⟨[x0,x1,x2,x3],rfl⟩
 have fin : ∀ w3,Rd w3 R s b (x0 :: x1 :: x2 :: x3 :: r) → w3.cell? ⟨R,2,none⟩ = some (.int .i64 ((s.length - (x0 :: x1 :: x2 :: x3 :: r).length : Nat) : Int)) ∧ w3.frozen? ⟨R,2,none⟩ = false:=fun w3 h3 => ⟨h3.c2,h3.free 2⟩
 have mv : Hid (∀ w3,Rd w3 R s b (x0 :: x1 :: x2 :: x3 :: r) → Rd (w3.setCell ⟨R,2,none⟩ (.int .i64 (((s.length - (x0 :: x1 :: x2 :: x3 :: r).length : Nat) : Int) + 4))) R s b r):=fun w3 h3 => h3.move HS.out _ HG.out
 clear h hle hsm
 generalize hA : s.length - (x0 :: x1 :: x2 :: x3 :: r).length = A at *
 generalize (ByteArray.mk s.toArray) = D at *
 generalize (ByteArray.mk [x0,x1,x2,x3].toArray) = X at *
 clear hA
 go_enter Tryz.func147,Tryz.ntmps147
 go_wp2
 go_region
 all_goals
  go_wp2_with (first
   | (go_at_call 157;refine (B _).mono ?_;rintro e w3 ⟨rfl,hb3⟩)
   | (go_at_call 156;refine (H _).mono ?_;rintro e w2 ⟨rfl,rfl⟩)
   | (go_at_call 155;refine (U _).mono ?_;rintro e w1 ⟨rfl,hb1⟩;have hr1:=HD.out.below hb1 HL.out;obtain ⟨d2,f2⟩:=fin _ hr1)
   | fail)
  go_ret
  exact ⟨rfl,(mv.out _ hr1).below hb3 (mv.out _ hr1).lt,(((Kp.refl _ w).drew.then_below hb1).trans (Kp.own R 2 _)).trans (Kp.of_below hb3)⟩
set_option maxHeartbeats 2000000 in
theorem nmb_walkB (x0 x1 x2 x3 : UInt8) (r : Bs) (VV : Int) (T : ByteArray) (gV : VV < 65536) (gV0 : 0 ≤ VV) (U : ∀ w,Calls Tryz.prog 155 #[.string ⟨[x0,x1,x2,x3].toArray⟩,.int .i64 16,.int .i64 64] w fun e w' => e = .returned (.tuple #[.int .u64 VV,.nilIface]) ∧ Below w.heap.size w w')
  (H : ∀ w,Calls Tryz.prog 156 #[.int .i64 VV] w fun e w' => e = .returned (.bool false) ∧ w' = w) (B : ∀ w,Calls Tryz.prog 158 #[.int .i64 VV] w fun e w' => e = .returned (.tuple #[.string T,.int .i64 0]) ∧ w' = w) (w : World) (h : Rd w R s b (x0 :: x1 :: x2 :: x3 :: r)) :
  Calls Tryz.prog 147 #[.pointer (some ⟨R,0,none⟩)] w fun e w' => e = .returned (.string T) ∧ Rd w' R s b r ∧ Kp (Own1 R) w w':=by
 have c0:=h.c0
 have c2:=h.c2
 have hle:=h.le
 have hsm:=h.small
 have h1:=size_of s
 have h2:=cut_take h.suf 4
 rw [show List.take 4 (x0 :: x1 :: x2 :: x3 :: r) = [x0,x1,x2,x3] from rfl] at h2
 have hz : (ByteArray.mk [x0,x1,x2,x3].toArray).size = 4:=rfl
 simp only [List.length_cons] at hle
 have g2 : (0 : Int) ≤ ((s.length - (x0 :: x1 :: x2 :: x3 :: r).length : Nat) : Int):=by omega
 have g3 : ((s.length - (x0 :: x1 :: x2 :: x3 :: r).length : Nat) : Int) + 4 ≤ (s.length : Int):=by simp only [List.length_cons];omega
 have g6 : ((s.length - (x0 :: x1 :: x2 :: x3 :: r).length : Nat) : Int) ≤ 16384:=by omega
 have g7 : min (((s.length - (x0 :: x1 :: x2 :: x3 :: r).length : Nat) : Int) + 4) (s.length : Int) = ((s.length - (x0 :: x1 :: x2 :: x3 :: r).length : Nat) : Int) + 4:=by omega
 have g8 : (((s.length - (x0 :: x1 :: x2 :: x3 :: r).length : Nat) : Int) + 4).toNat = s.length - (x0 :: x1 :: x2 :: x3 :: r).length + 4:=by omega
 have HG : Hid (((s.length - (x0 :: x1 :: x2 :: x3 :: r).length : Nat) : Int) + 4 = ((s.length - r.length : Nat) : Int)):=by
  show _ = _
  simp only [List.length_cons];omega
 have HD : Hid (Rd w.drew R s b (x0 :: x1 :: x2 :: x3 :: r)):=h.drewN 1
 have HL : Hid (R < w.heap.size):=h.lt
 have HS : Hid (r <:+ x0 :: x1 :: x2 :: x3 :: r):=⟨[x0,x1,x2,x3],rfl⟩
 have fin : ∀ w3,Rd w3 R s b (x0 :: x1 :: x2 :: x3 :: r) → w3.cell? ⟨R,2,none⟩ = some (.int .i64 ((s.length - (x0 :: x1 :: x2 :: x3 :: r).length : Nat) : Int)) ∧ w3.frozen? ⟨R,2,none⟩ = false:=fun w3 h3 => ⟨h3.c2,h3.free 2⟩
 have mv : Hid (∀ w3,Rd w3 R s b (x0 :: x1 :: x2 :: x3 :: r) → Rd (w3.setCell ⟨R,2,none⟩ (.int .i64 (((s.length - (x0 :: x1 :: x2 :: x3 :: r).length : Nat) : Int) + 4))) R s b r):=fun w3 h3 => h3.move HS.out _ HG.out
 clear h hle hsm
 generalize hA : s.length - (x0 :: x1 :: x2 :: x3 :: r).length = A at *
 generalize (ByteArray.mk s.toArray) = D at *
 generalize (ByteArray.mk [x0,x1,x2,x3].toArray) = X at *
 clear hA
 go_enter Tryz.func147,Tryz.ntmps147
 go_wp2
 go_region
 all_goals
  go_wp2_with (first
   | (go_at_call 158;refine (B _).mono ?_;rintro e w3 ⟨rfl,rfl⟩)
   | (go_at_call 156;refine (H _).mono ?_;rintro e w2 ⟨rfl,rfl⟩)
   | (go_at_call 155;refine (U _).mono ?_;rintro e w1 ⟨rfl,hb1⟩;have hr1:=HD.out.below hb1 HL.out;obtain ⟨d2,f2⟩:=fin _ hr1)
   | fail)
  go_ret
  exact ⟨rfl,mv.out _ hr1,((Kp.refl _ w).drew.then_below hb1).trans (Kp.own R 2 _)⟩
theorem mk_toList (B : ByteArray) : ByteArray.mk B.data.toList.toArray = B:=by
 apply ByteArray.ext;apply Array.toList_inj.1;simp
theorem unitS_else (V : Nat) (hh : ¬ (55296 ≤ V ∧ V ≤ 57343)) : unitS V = (Utf8.encode (V : Int)).data.toList:=by
 unfold unitS
 generalize (Utf8.encode (V : Int)).data.toList = E
 rw [if_neg hh]
theorem charB_small (c : Int) (h0 : 0 ≤ c) (h1 : c < 65536) (h2 : ¬ (55296 ≤ c ∧ c ≤ 57343)) : charB c = true:=by
 unfold charB validB
 simp
 omega
theorem nmb_good (x0 x1 x2 x3 : UInt8) (r : Bs) (V : Nat) (hx : hexF [x0,x1,x2,x3] 0 = some V) (w : World) (h : Rd w R s b (x0 :: x1 :: x2 :: x3 :: r)) : Calls Tryz.prog 147 #[.pointer (some ⟨R,0,none⟩)] w fun e w' => e = .returned (.string ⟨(unitS V).toArray⟩) ∧ Rd w' R s b r ∧ Kp (Own1 R) w w':=by
 have hV : V < 65536:=by
  have:=hexF_lt [x0,x1,x2,x3] 0 0 V (by decide) hx
  simpa using this
 have U:=fun w => suint_yes x0 [x1,x2,x3] (by simp) V hx w
 by_cases hh : 55296 ≤ V ∧ V ≤ 57343
 ·rw [show unitS V = halfS V from if_pos hh]
  refine nmb_walkA x0 x1 x2 x3 r (V : Int) _ (by omega) (by omega) U (fun w => ?_) (fun w => half_any V w (by omega) hV) w h
  have H:=isHalf_any (V : Int) w
  rw [decide_eq_true (by omega)] at H
  exact H
 ·rw [unitS_else V hh,mk_toList]
  refine nmb_walkB x0 x1 x2 x3 r (V : Int) _ (by omega) (by omega) U (fun w => ?_) (fun w => put_yes (V : Int) w (charB_small _ (by omega) (by omega) (by omega))) w h
  have H:=isHalf_any (V : Int) w
  rw [decide_eq_false (by omega)] at H
  exact H
theorem nmb_any (l : Bs) (w : World) (h : Rd w R s b l) : Calls Tryz.prog 147 #[.pointer (some ⟨R,0,none⟩)] w (StrP R s b w (nmbS l)):=by
 match l,h with
 | [],h => exact nmb_short [] (by simp) w h
 | [_],h => exact nmb_short [_] (by simp) w h
 | [_,_],h => exact nmb_short [_,_] (by simp) w h
 | [_,_,_],h => exact nmb_short [_,_,_] (by simp) w h
 | x0 :: x1 :: x2 :: x3 :: r,h =>
  rw [nmbS_eq]
  cases hx : hexF [x0,x1,x2,x3] 0 with
  | none => exact nmb_bad x0 x1 x2 x3 r hx w h
  | some V => exact (nmb_good x0 x1 x2 x3 r V hx w h).mono fun e w' ⟨h1,h2,h3⟩ => ⟨⟨h1,h2⟩,h3⟩
end
end
section
open Go Go.RowKit
theorem encode_le (c : Int) : (Utf8.encode c).data.toList.length ≤ 4:=by
 unfold Utf8.encode
 simp only []
 repeat' split
 all_goals simp
theorem unitS_le (V : Nat) : (unitS V).length ≤ 4:=by
 by_cases hh : 55296 ≤ V ∧ V ≤ 57343
 ·rw [show unitS V = halfS V from if_pos hh];simp [halfS]
 ·rw [unitS_else V hh];exact encode_le _
theorem nmbS_facts {l t r : Bs} (h : nmbS l = some (t,r)) : t.length ≤ 4 ∧ r.length < l.length ∧ r <:+ l:=by
 match l,h with
 | [],h => cases h
 | [_],h => cases h
 | [_,_],h => cases h
 | [_,_,_],h => cases h
 | x0 :: x1 :: x2 :: x3 :: q,h =>
  rw [nmbS_eq] at h
  cases hx : hexF [x0,x1,x2,x3] 0 with
  | none => rw [hx] at h;cases h
  | some V =>
   rw [hx,Option.map_some] at h
   injection h with h
   injection h with h1 h2
   subst h1 h2
   exact ⟨unitS_le V,by simp only [List.length_cons];omega,⟨[x0,x1,x2,x3],rfl⟩⟩
theorem escS_facts {l t r : Bs} (h : escS l = some (t,r)) : t.length ≤ 4 ∧ r.length < l.length ∧ r <:+ l:=by
 unfold escS at h
 by_cases hp : List.isPrefixOf [117] l = true
 ·rw [if_pos hp] at h
  obtain ⟨h1,h2,h3⟩:=nmbS_facts h
  rw [List.length_drop] at h2
  exact ⟨h1,by omega,h3.trans (drop_suf 1 l)⟩
 ·rw [if_neg hp] at h
  cases l with
  | nil => cases h
  | cons c l =>
   simp only at h
   by_cases hc : escL.contains c = true
   ·rw [if_pos hc] at h
    injection h with h
    injection h with h1 h2
    subst h1 h2
    exact ⟨by simp,by simp,tail_suf c l⟩
   ·rw [if_neg hc] at h;cases h
def lineS (l : Bs) : Option (Bs × Bs):=lineF (l.length + 1) l
theorem lineF_fuel : ∀ (n m : Nat) (l : Bs),l.length < n → l.length < m → lineF n l = lineF m l
 | 0,_,_,h,_ => absurd h (Nat.not_lt_zero _)
 | _ + 1,0,_,_,h => absurd h (Nat.not_lt_zero _)
 | n + 1,m + 1,l,hn,hm => by
  unfold lineF
  by_cases h1 : List.isPrefixOf [34] l = true
  ·rw [if_pos h1,if_pos h1]
  ·rw [if_neg h1,if_neg h1]
   by_cases h2 : List.isPrefixOf [92] l = true
   ·rw [if_pos h2,if_pos h2]
    cases he : escS (l.drop 1) with
    | none => rfl
    | some p =>
     have:=(escS_facts (show escS (l.drop 1) = some (p.1,p.2) from he)).2.1
     rw [List.length_drop] at this
     simp only [Option.bind_some]
     rw [lineF_fuel n m p.2 (by omega) (by omega)]
   ·rw [if_neg h2,if_neg h2]
    cases l with
    | nil => rfl
    | cons c r =>
     simp only [List.length_cons] at hn hm
     simp only
     rw [lineF_fuel n m r (by omega) (by omega)]
theorem lineS_esc {l : Bs} (h1 : List.isPrefixOf [34] l = false) (h2 : List.isPrefixOf [92] l = true) : lineS l = (escS (l.drop 1)).bind fun p => (lineS p.2).map fun q => (p.1 ++ q.1,q.2):=by
 show lineF (l.length + 1) l = _
 unfold lineF
 rw [if_neg (by rw [h1];simp),if_pos h2]
 cases he : escS (l.drop 1) with
 | none => rfl
 | some p =>
  have:=(escS_facts (show escS (l.drop 1) = some (p.1,p.2) from he)).2.1
  rw [List.length_drop] at this
  simp only [Option.bind_some]
  rw [lineF_fuel l.length (p.2.length + 1) p.2 (by omega) (by omega)]
  rfl
theorem lineS_stop {l : Bs} (h1 : List.isPrefixOf [34] l = true) : lineS l = some ([],l.drop 1):=by
 show lineF (l.length + 1) l = _
 unfold lineF
 rw [if_pos h1]
theorem lineS_end {c : UInt8} {r : Bs} (h1 : List.isPrefixOf [34] (c :: r) = false) (h2 : List.isPrefixOf [92] (c :: r) = false) (h3 : endL.contains c = true) : lineS (c :: r) = none:=by
 show lineF ((c :: r).length + 1) (c :: r) = _
 unfold lineF
 rw [if_neg (by rw [h1];simp),if_neg (by rw [h2];simp)]
 show (if endL.contains c then _ else _) = _
 rw [if_pos h3]
theorem lineS_chr {c : UInt8} {r : Bs} (h1 : List.isPrefixOf [34] (c :: r) = false) (h2 : List.isPrefixOf [92] (c :: r) = false) (h3 : endL.contains c = false) : lineS (c :: r) = (lineS r).map fun q => (c :: q.1,q.2):=by
 show lineF ((c :: r).length + 1) (c :: r) = _
 unfold lineF
 rw [if_neg (by rw [h1];simp),if_neg (by rw [h2];simp)]
 show (if endL.contains c then _ else _) = _
 rw [if_neg (by rw [h3];simp)]
 rfl
section
variable {R : Nat} {s : Bs} {b : Nat}
theorem said_at (c : UInt8) (h : escL.contains c = true) : ∃ i : Nat,i < 8 ∧ Lib.indexByte escL c = (i : Int) ∧ (ByteArray.mk #[34,92,47,8,12,10,13,9]).extract i (i + 1) = ⟨#[saidL.getD (escL.idxOf c) 0]⟩:=by
 have h' : c = 34 ∨ c = 92 ∨ c = 47 ∨ c = 98 ∨ c = 102 ∨ c = 110 ∨ c = 114 ∨ c = 116:=by
  simpa [escL] using h
 rcases h' with rfl | rfl | rfl | rfl | rfl | rfl | rfl | rfl
 ·exact ⟨0,by decide,by decide,by decide⟩
 ·exact ⟨1,by decide,by decide,by decide⟩
 ·exact ⟨2,by decide,by decide,by decide⟩
 ·exact ⟨3,by decide,by decide,by decide⟩
 ·exact ⟨4,by decide,by decide,by decide⟩
 ·exact ⟨5,by decide,by decide,by decide⟩
 ·exact ⟨6,by decide,by decide,by decide⟩
 ·exact ⟨7,by decide,by decide,by decide⟩
set_option maxHeartbeats 1000000 in
theorem esc_any (l : Bs) (w : World) (h : Rd w R s b l) : Calls Tryz.prog 137 #[.pointer (some ⟨R,0,none⟩)] w (StrP R s b w (escS l)):=by
 by_cases hp : List.isPrefixOf [117] l = true
 ·have T:=take_yes (R:=R) (s:=s) (b:=b) [117] l hp w h
  rw [show escS l = nmbS (l.drop 1) by unfold escS;rw [if_pos hp]]
  have N:=fun w h => nmb_any (R:=R) (s:=s) (b:=b) (l.drop 1) w h
  cases hn : nmbS (l.drop 1) with
  | none =>
   rw [hn] at N
   clear hn hp
   go_enter Tryz.func137,Tryz.ntmps137
   go_wp2_with (first
    | (go_at_call 147;refine (N _ hr1).mono ?_;rintro e w2 ⟨rfl,hk2⟩)
    | (go_at_call 79;refine T.mono ?_;rintro e w1 ⟨rfl,hr1,hk1⟩)
    | fail)
   exact ⟨rfl,rfl,hk1.trans hk2⟩
  | some p =>
   rw [hn] at N
   clear hn hp
   go_enter Tryz.func137,Tryz.ntmps137
   go_wp2_with (first
    | (go_at_call 147;refine (N _ hr1).mono ?_;rintro e w2 ⟨⟨rfl,hr2⟩,hk2⟩)
    | (go_at_call 79;refine T.mono ?_;rintro e w1 ⟨rfl,hr1,hk1⟩)
    | fail)
   go_ret
   exact ⟨⟨rfl,hr2⟩,hk1.trans hk2⟩
 ·have hp' : List.isPrefixOf [117] l = false:=Bool.eq_false_iff.2 hp
  have T:=take_no (R:=R) (s:=s) (b:=b) [117] l hp' w h
  by_cases hs : headIn escL l = true
  ·cases l with
   | nil => cases hs
   | cons c l =>
    have hc : escL.contains c = true:=hs
    obtain ⟨i,hi,hix,hex⟩:=said_at c hc
    rw [show escS (c :: l) = some ([saidL.getD (escL.idxOf c) 0],l) by unfold escS;rw [if_neg hp];simp only;rw [if_pos hc]]
    have E:=sees_is (R:=R) (s:=s) (b:=b) escL (c :: l) true hs
    have Y:=fun w h => byte_any (R:=R) (s:=s) (b:=b) c l w h
    have I:=fun w => Tryz.strings_IndexByte ⟨escL.toArray⟩ (c.toNat : Int) w
    have e8 : ((c.toNat : Int)).toNat.toUInt8 = c:=by simp
    rw [e8] at I
    have I' : ∀ w,Calls Tryz.prog 108 #[.string ⟨escL.toArray⟩,.int .u8 (c.toNat : Int)] w fun e w' => e = .returned (.int .i64 (i : Int)) ∧ w' = w:=by
     intro w
     rw [← hix]
     exact I w
    have i0 : (0 : Int) ≤ (i : Int):=by omega
    have i1 : (i : Int) < 8:=by omega
    have i2 : ((i : Int) + 1).toNat = i + 1:=by omega
    clear hix I e8 hi hp hp' hs hc
    generalize saidL.getD (escL.idxOf c) 0 = x at *
    go_enter Tryz.func137,Tryz.ntmps137
    go_wp2_with (first
     | (go_at_call 108;refine (I' _).mono ?_;rintro e w4 ⟨rfl,rfl⟩)
     | (go_at_call 106;refine (Y _ hr2).mono ?_;rintro e w3 ⟨rfl,hr3,hk3⟩)
     | (go_at_call 84;refine (E _ hr1).mono ?_;rintro e w2 ⟨rfl,hr2,hk2⟩)
     | (go_at_call 79;refine T.mono ?_;rintro e w1 ⟨rfl,hr1,hk1⟩)
     | fail)
    go_ret
    exact ⟨⟨rfl,hr3⟩,(hk1.trans hk2).trans hk3⟩
  ·have hs' : headIn escL l = false:=Bool.eq_false_iff.2 hs
   have E:=sees_is (R:=R) (s:=s) (b:=b) escL l false hs'
   rw [show escS l = none by
    unfold escS
    rw [if_neg hp]
    cases l with
    | nil => rfl
    | cons c l => simp only;rw [if_neg (show ¬ escL.contains c = true from hs)]]
   clear hp hp' hs hs'
   go_enter Tryz.func137,Tryz.ntmps137
   go_wp2_with (first
    | (go_at_call 51;refine (fail_any _ _ _ hr2).mono ?_;rintro e w3 ⟨rfl,rfl⟩)
    | (go_at_call 84;refine (E _ hr1).mono ?_;rintro e w2 ⟨rfl,hr2,hk2⟩)
    | (go_at_call 79;refine T.mono ?_;rintro e w1 ⟨rfl,hr1,hk1⟩)
    | fail)
   exact ⟨rfl,rfl,hk1.trans hk2⟩
end
end
section
open Go Go.RowKit
section
variable {R : Nat} {s : Bs} {b : Nat}
theorem ends_is (l : Bs) (w : World) (h : Rd w R s b l) : Calls Tryz.prog 81 #[.pointer (some ⟨R,0,none⟩)] w fun e w' => e = .returned (.bool l.isEmpty) ∧ Rd w' R s b l ∧ Kp (Own1 R) w w':=by
 cases l with
 | nil =>
  refine (ends_yes w h).mono ?_
  rintro e w' ⟨rfl,m,rfl⟩
  exact ⟨rfl,h.drewN m,Kp.n w m⟩
 | cons c l =>
  refine (ends_no c l w h).mono ?_
  rintro e w' ⟨rfl,m,rfl⟩
  exact ⟨rfl,h.drewN m,Kp.n w m⟩
abbrev isBl (B : Nat) (acc : Bs) (w : World) : Prop:=Lib.IsBuilder 145 5 B B (Lib.byteCells acc) w
theorem ws_any (B : Nat) (acc c : Bs) (w : World) (h : isBl B acc w) (hl : acc.length + c.length ≤ 1048576) (hB : B ≤ w.heap.size) :
  Calls Tryz.prog 134 #[.pointer (some ⟨B,0,none⟩),.string ⟨c.toArray⟩] w fun e w' => (∃ v,e = .returned v) ∧ isBl B (acc ++ c) w' ∧ Below B w w':=by
 refine (Tryz.Builder_WriteString B B (Lib.byteCells acc) ⟨c.toArray⟩ w h (by rw [size_of,cells_len];omega) hB).mono ?_
 rintro e w' ⟨rfl,h1,h2⟩
 exact ⟨⟨_,rfl⟩,Or.inr (by rw [cells_app];exact h1),h2⟩
theorem wb_any (B : Nat) (acc : Bs) (c : UInt8) (w : World) (h : isBl B acc w) (hl : acc.length + 1 ≤ 1048576) (hB : B ≤ w.heap.size) :
  Calls Tryz.prog 135 #[.pointer (some ⟨B,0,none⟩),.int .u8 (c.toNat : Int)] w fun e w' => (∃ v,e = .returned v) ∧ isBl B (acc ++ [c]) w' ∧ Below B w w':=by
 refine (Tryz.Builder_WriteByte B B (Lib.byteCells acc) (c.toNat : Int) w h (by rw [cells_len];omega) hB).mono ?_
 rintro e w' ⟨rfl,h1,h2⟩
 exact ⟨⟨_,rfl⟩,Or.inr (by rw [cells_app];exact h1),h2⟩
structure LoopS (R : Nat) (s : Bs) (b : Nat) (w : World) (f : Bs → Option (Bs × Bs)) (l1 : Bs) (wr : World) (l' acc : Bs) : Prop where
 rd : Rd wr R s b l'
 eq : (f l').map (fun q => (acc ++ q.1,q.2)) = f l1
 len : acc.length + 4 * l'.length ≤ 65536
 bl : isBl w.heap.size acc wr
 kp : Kp (Own1 R) w wr
theorem LoopS.next {w wr w' : World} {f : Bs → Option (Bs × Bs)} {l1 l' acc m c : Bs} (h : LoopS R s b w f l1 wr l' acc) (hf : f l' = (f m).map fun q => (c ++ q.1,q.2)) (hm : m.length < l'.length) (hc : c.length ≤ 4)
  (hr : Rd w' R s b m) (hb : isBl w.heap.size (acc ++ c) w') (hk : Kp (Own1 R) w w') : LoopS R s b w f l1 w' m (acc ++ c):=by
 refine ⟨hr,?_,?_,hb,hk⟩
 ·rw [← h.eq,hf]
  cases f m with
  | none => rfl
  | some q => simp [List.append_assoc]
 ·have:=h.len
  rw [List.length_append];omega
set_option maxHeartbeats 4000000 in
theorem line_any (l : Bs) (w : World) (h : Rd w R s b l) (hq : List.isPrefixOf [34] l = true) : Calls Tryz.prog 112 #[.pointer (some ⟨R,0,none⟩)] w (StrP R s b w (lineS (l.drop 1))):=by
 have hR:=h.lt
 have T:=take_yes (R:=R) (s:=s) (b:=b) [34] l hq _ (h.alloc (.cells #[.pointer none,.slice none 0 0] 145))
 have hB:=isB_new w
 have hle:=h.le
 have hsm:=h.small
 have hk0 : Kp (Own1 R) w (w.alloc (.cells #[.pointer none,.slice none 0 0] 145)):=(Kp.refl _ w).alloc _
 clear h
 go_enter Tryz.func112,Tryz.ntmps112
 go_wp2_with (go_at_call 79;refine T.mono ?_;rintro e w1 ⟨rfl,hr1,hk1⟩)
 go_loopw [26] (fun _ wr => ∃ l' acc,LoopS R s b w lineS (l.drop 1) wr l' acc) (fun _ wr => s.length - (atOf wr R).toNat)
 case atStart =>
  refine ⟨_,[],hr1,?_,?_,kp_isB hB hk1 hR,hk0.trans hk1⟩
  ·show (lineS (l.drop 1)).map _ = _
   cases lineS (l.drop 1) <;> rfl
  ·show 0 + 4 * (l.drop 1).length ≤ 65536
   rw [List.length_drop];omega
 case round =>
  clear T hr1 hk1 hB hk0 hq hle
  obtain ⟨l',acc,hL⟩:=hrel
  have hr:=hL.rd
  have hk:=hL.kp
  have hz:=hk.size
  have hle':=hr.le
  have hlen:=hL.len
  have HA : Hid (atOf wr R = ((s.length - l'.length : Nat) : Int)):=atOf_eq hr
  by_cases h1 : List.isPrefixOf [34] l' = true
  ·have T:=take_yes (R:=R) (s:=s) (b:=b) [34] l' h1 wr hr
   have S:=fun w2 (hb : isBl w.heap.size acc w2) (hz : w.heap.size ≤ w2.heap.size) => Tryz.Builder_String_any w.heap.size w.heap.size acc w2 hb hz
   have HE : Hid (some (acc,l'.drop 1) = lineS (l.drop 1)):=by
    show _ = _
    rw [← hL.eq,lineS_stop h1]
    simp
   have bl:=hL.bl
   clear h1 hL
   go_wp2_with (first
    | (go_at_call 136;refine (S _ hb1 (by omega)).mono ?_;rintro e w2 ⟨rfl,hb2⟩)
    | (go_at_call 79;refine T.mono ?_;rintro e w1 ⟨rfl,hr1,hk1⟩;have hb1:=kp_isB bl hk1 hR;have hz1:=hk1.size)
    | fail)
   go_ret
   rw [← HE.out]
   exact ⟨⟨rfl,hr1.below hb2 hR⟩,(hk.trans hk1).then_below hb2⟩
  ·have h1' : List.isPrefixOf [34] l' = false:=Bool.eq_false_iff.2 h1
   have T:=take_no (R:=R) (s:=s) (b:=b) [34] l' h1' wr hr
   by_cases h2 : List.isPrefixOf [92] l' = true
   ·have T2:=take_yes (R:=R) (s:=s) (b:=b) [92] l' h2
    have E:=fun w h => esc_any (R:=R) (s:=s) (b:=b) (l'.drop 1) w h
    cases he : escS (l'.drop 1) with
    | none =>
     rw [he] at E
     have HE : Hid (none = lineS (l.drop 1)):=by
      show _ = _
      rw [← hL.eq,lineS_esc h1' h2,he];rfl
     clear he h1 h1' h2 hL
     go_wp2_with (first
      | (go_at_call 137;refine (E _ hr2).mono ?_;rintro e w3 ⟨rfl,hk3⟩)
      | (go_at_call 79;refine (T2 _ hr1).mono ?_;rintro e w2 ⟨rfl,hr2,hk2⟩)
      | (go_at_call 79;refine T.mono ?_;rintro e w1 ⟨rfl,hr1,hk1⟩)
      | fail)
     refine ⟨rfl,?_⟩
     rw [← HE.out]
     exact ⟨rfl,((hk.trans hk1).trans hk2).trans hk3⟩
    | some p =>
     rw [he] at E
     obtain ⟨hp1,hp2,_⟩:=escS_facts (show escS (l'.drop 1) = some (p.1,p.2) from he)
     rw [List.length_drop] at hp2
     have hW:=fun w2 (hb : isBl w.heap.size acc w2) (hz : w.heap.size ≤ w2.heap.size) => ws_any w.heap.size acc p.1 w2 hb (by omega) hz
     have HN : Hid (lineS l' = (lineS p.2).map fun q => (p.1 ++ q.1,q.2)):=by
      show _ = _
      rw [lineS_esc h1' h2,he];rfl
     have HL : Hid (LoopS R s b w lineS (l.drop 1) wr l' acc):=hL
     have bl:=hL.bl
     clear he h1 h1' h2 hL
     go_wp2_with (first
      | (go_at_call 134;refine (hW _ hb3 (by omega)).mono ?_;rintro e w4 ⟨⟨v4,rfl⟩,bl4,hb4⟩)
      | (go_at_call 137;refine (E _ hr2).mono ?_;rintro e w3 ⟨⟨rfl,hr3⟩,hk3⟩;have hb3:=kp_isB (kp_isB (kp_isB bl hk1 hR) hk2 hR) hk3 hR;have hz3:=((hk1.trans hk2).trans hk3).size)
      | (go_at_call 79;refine (T2 _ hr1).mono ?_;rintro e w2 ⟨rfl,hr2,hk2⟩)
      | (go_at_call 79;refine T.mono ?_;rintro e w1 ⟨rfl,hr1,hk1⟩)
      | fail)
     have hr4:=hr3.below hb4 hR
     refine ⟨⟨_,_,HL.out.next HN.out (by omega) hp1 hr4 bl4 ((((hk.trans hk1).trans hk2).trans hk3).then_below hb4)⟩,?_⟩
     rw [atOf_eq hr4,HA.out]
     simp only [Int.toNat_natCast]
     omega
   ·have h2' : List.isPrefixOf [92] l' = false:=Bool.eq_false_iff.2 h2
    have T2:=take_no (R:=R) (s:=s) (b:=b) [92] l' h2'
    have E:=fun w h => ends_is (R:=R) (s:=s) (b:=b) l' w h
    cases l' with
    | nil =>
     have HE : Hid (none = lineS (l.drop 1)):=by
      show _ = _
      rw [← hL.eq];rfl
     clear h1 h1' h2 h2' hL
     go_wp2_with (first
      | (go_at_call 51;refine (fail_any _ _ _ hr3).mono ?_;rintro e w4 ⟨rfl,rfl⟩)
      | (go_at_call 81;refine (E _ hr2).mono ?_;rintro e w3 ⟨rfl,hr3,hk3⟩)
      | (go_at_call 79;refine (T2 _ hr1).mono ?_;rintro e w2 ⟨rfl,hr2,hk2⟩)
      | (go_at_call 79;refine T.mono ?_;rintro e w1 ⟨rfl,hr1,hk1⟩)
      | fail)
     refine ⟨rfl,?_⟩
     rw [← HE.out]
     exact ⟨rfl,((hk.trans hk1).trans hk2).trans hk3⟩
    | cons c l' =>
     by_cases h3 : endL.contains c = true
     ·have S:=sees_is (R:=R) (s:=s) (b:=b) endL (c :: l') true h3
      have HE : Hid (none = lineS (l.drop 1)):=by
       show _ = _
       rw [← hL.eq,lineS_end h1' h2' h3];rfl
      clear h1 h1' h2 h2' h3 hL
      go_wp2_with (first
       | (go_at_call 51;refine (fail_any _ _ _ hr4).mono ?_;rintro e w5 ⟨rfl,rfl⟩)
       | (go_at_call 84;refine (S _ hr3).mono ?_;rintro e w4 ⟨rfl,hr4,hk4⟩)
       | (go_at_call 81;refine (E _ hr2).mono ?_;rintro e w3 ⟨rfl,hr3,hk3⟩)
       | (go_at_call 79;refine (T2 _ hr1).mono ?_;rintro e w2 ⟨rfl,hr2,hk2⟩)
       | (go_at_call 79;refine T.mono ?_;rintro e w1 ⟨rfl,hr1,hk1⟩)
       | fail)
      refine ⟨rfl,?_⟩
      rw [← HE.out]
      exact ⟨rfl,(((hk.trans hk1).trans hk2).trans hk3).trans hk4⟩
     ·have h3' : endL.contains c = false:=Bool.eq_false_iff.2 h3
      have S:=sees_is (R:=R) (s:=s) (b:=b) endL (c :: l') false h3'
      have Y:=fun w h => byte_any (R:=R) (s:=s) (b:=b) c l' w h
      have hW:=fun w2 (hb : isBl w.heap.size acc w2) (hz : w.heap.size ≤ w2.heap.size) => wb_any w.heap.size acc c w2 hb (by omega) hz
      have HN : Hid (lineS (c :: l') = (lineS l').map fun q => ([c] ++ q.1,q.2)):=lineS_chr h1' h2' h3'
      have HL : Hid (LoopS R s b w lineS (l.drop 1) wr (c :: l') acc):=hL
      have bl:=hL.bl
      clear h1 h1' h2 h2' h3 h3' hL
      go_wp2_with (first
       | (go_at_call 135;refine (hW _ hb5 (by omega)).mono ?_;rintro e w6 ⟨⟨v6,rfl⟩,bl6,hb6⟩)
       | (go_at_call 106;refine (Y _ hr4).mono ?_;rintro e w5 ⟨rfl,hr5,hk5⟩;have hb5:=kp_isB bl ((((hk1.trans hk2).trans hk3).trans hk4).trans hk5) hR;have hz5:=((((hk1.trans hk2).trans hk3).trans hk4).trans hk5).size)
       | (go_at_call 84;refine (S _ hr3).mono ?_;rintro e w4 ⟨rfl,hr4,hk4⟩)
       | (go_at_call 81;refine (E _ hr2).mono ?_;rintro e w3 ⟨rfl,hr3,hk3⟩)
       | (go_at_call 79;refine (T2 _ hr1).mono ?_;rintro e w2 ⟨rfl,hr2,hk2⟩)
       | (go_at_call 79;refine T.mono ?_;rintro e w1 ⟨rfl,hr1,hk1⟩)
       | fail)
      have hr6:=hr5.below hb6 hR
      refine ⟨⟨_,_,HL.out.next HN.out (by simp) (by simp) hr6 bl6 ((((((hk.trans hk1).trans hk2).trans hk3).trans hk4).trans hk5).then_below hb6)⟩,?_⟩
      rw [atOf_eq hr6,HA.out]
      simp only [Int.toNat_natCast,List.length_cons] at hle' ⊢
      omega
end
end
section
open Go Go.RowKit
def rawS (l : Bs) : Option (Bs × Bs):=rawF (l.length + 1) l
theorem rawF_fuel : ∀ (n m : Nat) (l : Bs),l.length < n → l.length < m → rawF n l = rawF m l
 | 0,_,_,h,_ => absurd h (Nat.not_lt_zero _)
 | _ + 1,0,_,_,h => absurd h (Nat.not_lt_zero _)
 | n + 1,m + 1,l,hn,hm => by
  unfold rawF
  by_cases h1 : List.isPrefixOf [34,34,34] l = true
  ·rw [if_pos h1,if_pos h1]
  ·rw [if_neg h1,if_neg h1]
   by_cases h2 : List.isPrefixOf [92,34,34,34] l = true
   ·rw [if_pos h2,if_pos h2]
    have:=prefix_le h2
    simp only [List.length_cons,List.length_nil] at this
    rw [rawF_fuel n m (l.drop 4) (by rw [List.length_drop];omega) (by rw [List.length_drop];omega)]
   ·rw [if_neg h2,if_neg h2]
    cases l with
    | nil => rfl
    | cons c r =>
     simp only [List.length_cons] at hn hm
     simp only
     rw [rawF_fuel n m r (by omega) (by omega)]
theorem rawS_stop {l : Bs} (h1 : List.isPrefixOf [34,34,34] l = true) : rawS l = some ([],l.drop 3):=by
 show rawF (l.length + 1) l = _
 unfold rawF
 rw [if_pos h1]
theorem rawS_esc {l : Bs} (h1 : List.isPrefixOf [34,34,34] l = false) (h2 : List.isPrefixOf [92,34,34,34] l = true) : rawS l = (rawS (l.drop 4)).map fun q => ([34,34,34] ++ q.1,q.2):=by
 show rawF (l.length + 1) l = _
 unfold rawF
 rw [if_neg (by rw [h1];simp),if_pos h2]
 have:=prefix_le h2
 simp only [List.length_cons,List.length_nil] at this
 rw [rawF_fuel l.length ((l.drop 4).length + 1) (l.drop 4) (by rw [List.length_drop];omega) (by omega)]
 rfl
theorem rawS_chr {c : UInt8} {r : Bs} (h1 : List.isPrefixOf [34,34,34] (c :: r) = false) (h2 : List.isPrefixOf [92,34,34,34] (c :: r) = false) : rawS (c :: r) = (rawS r).map fun q => ([c] ++ q.1,q.2):=by
 show rawF ((c :: r).length + 1) (c :: r) = _
 unfold rawF
 rw [if_neg (by rw [h1];simp),if_neg (by rw [h2];simp)]
 rfl
section
variable {R : Nat} {s : Bs} {b : Nat}
set_option maxHeartbeats 4000000 in
theorem raw_any (l : Bs) (w : World) (h : Rd w R s b l) : Calls Tryz.prog 111 #[.pointer (some ⟨R,0,none⟩)] w (StrP R s b w (rawS l)):=by
 have hR:=h.lt
 have hr0:=h.alloc (.cells #[.pointer none,.slice none 0 0] 145)
 have hB:=isB_new w
 have hle:=h.le
 have hsm:=h.small
 have hk0 : Kp (Own1 R) w (w.alloc (.cells #[.pointer none,.slice none 0 0] 145)):=(Kp.refl _ w).alloc _
 clear h
 go_enter Tryz.func111,Tryz.ntmps111
 go_wp2
 go_loopw [18] (fun _ wr => ∃ l' acc,LoopS R s b w rawS l wr l' acc) (fun _ wr => s.length - (atOf wr R).toNat)
 case atStart =>
  refine ⟨_,[],hr0,?_,?_,hB,hk0⟩
  ·show (rawS l).map _ = _
   cases rawS l <;> rfl
  ·show 0 + 4 * l.length ≤ 65536
   omega
 case round =>
  clear hr0 hB hk0 hle
  obtain ⟨l',acc,hL⟩:=hrel
  have hr:=hL.rd
  have hk:=hL.kp
  have hz:=hk.size
  have hle':=hr.le
  have hlen:=hL.len
  have HA : Hid (atOf wr R = ((s.length - l'.length : Nat) : Int)):=atOf_eq hr
  by_cases h1 : List.isPrefixOf [34,34,34] l' = true
  ·have T:=take_yes (R:=R) (s:=s) (b:=b) [34,34,34] l' h1 wr hr
   have S:=fun w2 (hb : isBl w.heap.size acc w2) (hz : w.heap.size ≤ w2.heap.size) => Tryz.Builder_String_any w.heap.size w.heap.size acc w2 hb hz
   have HE : Hid (some (acc,l'.drop 3) = rawS l):=by
    show _ = _
    rw [← hL.eq,rawS_stop h1]
    simp
   have bl:=hL.bl
   clear h1 hL
   go_wp2_with (first
    | (go_at_call 136;refine (S _ hb1 (by omega)).mono ?_;rintro e w2 ⟨rfl,hb2⟩)
    | (go_at_call 79;refine T.mono ?_;rintro e w1 ⟨rfl,hr1,hk1⟩;have hb1:=kp_isB bl hk1 hR;have hz1:=hk1.size)
    | fail)
   go_ret
   rw [← HE.out]
   exact ⟨⟨rfl,hr1.below hb2 hR⟩,(hk.trans hk1).then_below hb2⟩
  ·have h1' : List.isPrefixOf [34,34,34] l' = false:=Bool.eq_false_iff.2 h1
   have T:=take_no (R:=R) (s:=s) (b:=b) [34,34,34] l' h1' wr hr
   by_cases h2 : List.isPrefixOf [92,34,34,34] l' = true
   ·have T2:=take_yes (R:=R) (s:=s) (b:=b) [92,34,34,34] l' h2
    have hp2:=prefix_le h2
    simp only [List.length_cons,List.length_nil] at hp2
    have hW:=fun w2 (hb : isBl w.heap.size acc w2) (hz : w.heap.size ≤ w2.heap.size) => ws_any w.heap.size acc [34,34,34] w2 hb (by simp only [List.length_cons,List.length_nil];omega) hz
    have HN : Hid (rawS l' = (rawS (l'.drop 4)).map fun q => ([34,34,34] ++ q.1,q.2)):=rawS_esc h1' h2
    have HL : Hid (LoopS R s b w rawS l wr l' acc):=hL
    have bl:=hL.bl
    clear h1 h1' h2 hL
    go_wp2_with (first
     | (go_at_call 134;refine (hW _ hb2 (by omega)).mono ?_;rintro e w4 ⟨⟨v4,rfl⟩,bl4,hb4⟩)
     | (go_at_call 79;refine (T2 _ hr1).mono ?_;rintro e w2 ⟨rfl,hr2,hk2⟩;have hb2:=kp_isB (kp_isB bl hk1 hR) hk2 hR;have hz2:=(hk1.trans hk2).size)
     | (go_at_call 79;refine T.mono ?_;rintro e w1 ⟨rfl,hr1,hk1⟩)
     | fail)
    have hr4 : Rd w4 R s b (l'.drop 4):=hr2.below hb4 hR
    refine ⟨⟨_,_,HL.out.next HN.out (by rw [List.length_drop];omega) (by decide) hr4 bl4 (((hk.trans hk1).trans hk2).then_below hb4)⟩,?_⟩
    rw [atOf_eq hr4,HA.out,List.length_drop]
    simp only [Int.toNat_natCast]
    omega
   ·have h2' : List.isPrefixOf [92,34,34,34] l' = false:=Bool.eq_false_iff.2 h2
    have T2:=take_no (R:=R) (s:=s) (b:=b) [92,34,34,34] l' h2'
    have E:=fun w h => ends_is (R:=R) (s:=s) (b:=b) l' w h
    cases l' with
    | nil =>
     have HE : Hid (none = rawS l):=by
      show _ = _
      rw [← hL.eq];rfl
     clear h1 h1' h2 h2' hL
     go_wp2_with (first
      | (go_at_call 51;refine (fail_any _ _ _ hr3).mono ?_;rintro e w4 ⟨rfl,rfl⟩)
      | (go_at_call 81;refine (E _ hr2).mono ?_;rintro e w3 ⟨rfl,hr3,hk3⟩)
      | (go_at_call 79;refine (T2 _ hr1).mono ?_;rintro e w2 ⟨rfl,hr2,hk2⟩)
      | (go_at_call 79;refine T.mono ?_;rintro e w1 ⟨rfl,hr1,hk1⟩)
      | fail)
     refine ⟨rfl,?_⟩
     rw [← HE.out]
     exact ⟨rfl,((hk.trans hk1).trans hk2).trans hk3⟩
    | cons c l' =>
     have Y:=fun w h => byte_any (R:=R) (s:=s) (b:=b) c l' w h
     have hW:=fun w2 (hb : isBl w.heap.size acc w2) (hz : w.heap.size ≤ w2.heap.size) => wb_any w.heap.size acc c w2 hb (by omega) hz
     have HN : Hid (rawS (c :: l') = (rawS l').map fun q => ([c] ++ q.1,q.2)):=rawS_chr h1' h2'
     have HL : Hid (LoopS R s b w rawS l wr (c :: l') acc):=hL
     have bl:=hL.bl
     clear h1 h1' h2 h2' hL
     go_wp2_with (first
      | (go_at_call 135;refine (hW _ hb5 (by omega)).mono ?_;rintro e w6 ⟨⟨v6,rfl⟩,bl6,hb6⟩)
      | (go_at_call 106;refine (Y _ hr3).mono ?_;rintro e w5 ⟨rfl,hr5,hk5⟩;have hb5:=kp_isB bl (((hk1.trans hk2).trans hk3).trans hk5) hR;have hz5:=(((hk1.trans hk2).trans hk3).trans hk5).size)
      | (go_at_call 81;refine (E _ hr2).mono ?_;rintro e w3 ⟨rfl,hr3,hk3⟩)
      | (go_at_call 79;refine (T2 _ hr1).mono ?_;rintro e w2 ⟨rfl,hr2,hk2⟩)
      | (go_at_call 79;refine T.mono ?_;rintro e w1 ⟨rfl,hr1,hk1⟩)
      | fail)
     have hr6:=hr5.below hb6 hR
     refine ⟨⟨_,_,HL.out.next HN.out (by simp) (by simp) hr6 bl6 (((((hk.trans hk1).trans hk2).trans hk3).trans hk5).then_below hb6)⟩,?_⟩
     rw [atOf_eq hr6,HA.out]
     simp only [Int.toNat_natCast,List.length_cons] at hle' ⊢
     omega
end
end
end Go.Proofs.YtgppemlciohjcaaGreatDoor
