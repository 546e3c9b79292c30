/- A Builder written to. -/
import Derived.Test.YtgmlbjfgfmfliaaGreatDoorA10
import Derived.WalkSpells
import Derived.WalkLawsBesides
import Derived.Test.YtgmlbjfgfmfliaaGreatDoorShelf2
import Derived.Shelf.Strings.Builder1
import Derived.Shelf.Strings.Builder2
import Derived.Lib.Builder
import Derived.Test.YtgmlbjfgfmfliaaGreatDoorA02
namespace Go.Proofs.YtgmlbjfgfmfliaaGreatDoor
open Go Go.RowKit Go.Lib
theorem suint_yes (c0 : UInt8) (L0 : Bs) (hL : L0.length ≤ 3) (v : Nat) (hv : hexF (c0 :: L0) 0 = some v) (w : World) : Calls Tryz.prog 228 #[.string ⟨(c0 :: L0).toArray⟩,.int .i64 16,.int .i64 64] w fun e w' => e = .returned (.tuple #[.int .u64 (v : Int),.nilIface]) ∧ Below w.heap.size w w':=by
 have P:=iuint_any c0 L0 hL w
 rw [hv] at P
 clear hv
 generalize (c0 :: L0).toArray = A at *
 go_enter Tryz.func228,Tryz.ntmps228
 go_wp2_with (go_at_call 244;refine P.mono ?_;rintro e w1 ⟨rfl,hb1⟩)
 go_ret2
 exact ⟨rfl,hb1⟩
set_option maxRecDepth 100000 in
theorem iuint_empty (w : World) : Calls Tryz.prog 244 #[.string ⟨#[]⟩,.int .i64 16,.int .i64 64] w fun e w' => e = .returned (.tuple #[.int .u64 0,.iface 245 (.int .i64 2)]) ∧ Below w.heap.size w w':=by
 go_enter Tryz.func244,Tryz.ntmps244
 go_wp2
 go_ret2
 exact ⟨rfl,Below.refl _ _⟩
theorem suint_no (L : Bs) (hL : L.length ≤ 4) (hv : L = [] ∨ hexF L 0 = none) (w : World) (g : Gl w) : Calls Tryz.prog 228 #[.string ⟨L.toArray⟩,.int .i64 16,.int .i64 64] w fun e w' => (∃ N,e = .returned (.tuple #[.int .u64 0,.iface 247 (.pointer (some ⟨N,0,none⟩))])) ∧ Below w.heap.size w w':=by
 have P : Calls Tryz.prog 244 #[.string ⟨L.toArray⟩,.int .i64 16,.int .i64 64] w fun e w' => e = .returned (.tuple #[.int .u64 0,.iface 245 (.int .i64 2)]) ∧ Below w.heap.size w w':=by
  cases L with
  | nil => exact iuint_empty w
  | cons c L =>
   have P:=iuint_any c L (by simp at hL;omega) w
   rcases hv with hv | hv
   ·cases hv
   ·rw [hv] at P;exact P
 have hsz:=size_of L
 have E:=fun (w' : World) (hb : Below w.heap.size w w') (ev : Value) (h1 : w'.cell? ⟨gE,0,none⟩ = some ev) (h2 : ev = .nilIface ∨ ∃ te pe,ev = .iface te pe) => Tryz.strconv_toError_syntax ⟨#[80,97,114,115,101,85,105,110,116]⟩ ⟨L.toArray⟩ 16 64 ev w' (by rw [hsz];omega) h1 h2
 clear hv hsz
 generalize L.toArray = A at *
 go_enter Tryz.func228,Tryz.ntmps228
 go_wp2_with (first
  | (go_at_call 245;refine (E w1 hb1 ev h1 h2).mono ?_;rintro e w2 ⟨N,rfl,_,_,hb2⟩)
  | (go_at_call 244;refine P.mono ?_;rintro e w1 ⟨rfl,hb1⟩;obtain ⟨ev,h1,h2⟩:=(g.below hb1 (Nat.le_refl _)).es)
  | fail)
 go_ret2
 exact ⟨⟨N,rfl⟩,hb1.trans (hb2.mono hb1.size)⟩
theorem isHalf_any (c : Int) (w : World) : Calls Tryz.prog 213 #[.int .i64 c] w fun e w' => e = .returned (.bool (decide (55296 ≤ c ∧ c ≤ 57343))) ∧ w' = w:=by
 go_enter Tryz.func213,Tryz.ntmps213
 go_wp2
 all_goals (go_ret;refine ⟨ret_bool ?_,rfl⟩;first | rfl | (symm;simp;omega) | (simp;omega))
theorem cell_new (w : World) (cs : Array Value) (t : TypeId) (j : Nat) : (w.alloc (.cells cs t)).cell? ((⟨w.heap.size,0,none⟩ : Addr).add j) = cs[j]?:=by
 rw [Addr.add_lit,Nat.zero_add]
 unfold World.cell?
 rw [show (w.alloc (.cells cs t)).heap[w.heap.size]? = some (.cells cs t (0,0)) from heap_alloc_new _ _]
 rfl
theorem u8_cell (x : Nat) (y : Int) (hx : x < 256) (hy : y = x) : Value.int .u8 y = .int .u8 ((x.toUInt8).toNat : Int):=by
 rw [hy]
 simp
 omega
theorem hconv (n : Nat) (w : World) (h0 : 2048 ≤ n) (h1 : n < 65536) :
  (convert 60 9 (.slice (some ⟨w.heap.size,0,none⟩) 3 3)).run Tryz.prog (w.alloc (.cells #[.int .u8 (224 + (n : Int) / 4096),.int .u8 (128 + (n : Int) / 64 % 64),.int .u8 (128 + (n : Int) % 64)] 5)) = .ok (.string ⟨(halfS n).toArray⟩) (w.alloc (.cells #[.int .u8 (224 + (n : Int) / 4096),.int .u8 (128 + (n : Int) / 64 % 64),.int .u8 (128 + (n : Int) % 64)] 5)) :=
 run_convert_bytes_back (P:=Tryz.prog) (w.alloc (.cells #[.int .u8 (224 + (n : Int) / 4096),.int .u8 (128 + (n : Int) / 64 % 64),.int .u8 (128 + (n : Int) % 64)] 5)) 60 9 5 ⟨w.heap.size,0,none⟩ 3 (halfS n) Tryz.underlying60 Tryz.underlying5 Tryz.underlying9 (by
   intro j hj
   match j,hj with
   | 0,_ => exact (cell_new w _ _ _).trans (congrArg some (u8_cell _ _ (by omega) (by omega)))
   | 1,_ => exact (cell_new w _ _ _).trans (congrArg some (u8_cell _ _ (by omega) (by omega)))
   | 2,_ => exact (cell_new w _ _ _).trans (congrArg some (u8_cell _ _ (by omega) (by omega)))
   | n + 3,hj => exact absurd (show n + 3 < 3 from hj) (by omega))
set_option maxRecDepth 100000 in
set_option maxHeartbeats 1000000 in
theorem half_any (n : Nat) (w : World) (h0 : 2048 ≤ n) (h1 : n < 65536) : Calls Tryz.prog 214 #[.int .i64 (n : Int)] w fun e w' => e = .returned (.string ⟨(halfS n).toArray⟩) ∧ Below w.heap.size w w':=by
 have hcv:=hconv n w h0 h1
 have h0' : 2048 ≤ (n : Int):=by omega
 have h1' : (n : Int) < 65536:=by omega
 clear h0 h1
 generalize halfS n = H at *
 generalize (n : Int) = c at *
 go_enter Tryz.func214,Tryz.ntmps214
 go_wp2
 go_ret
 exact ⟨rfl,(Below.refl _ _).alloc (Nat.le_refl _) _⟩
end Go.Proofs.YtgmlbjfgfmfliaaGreatDoor
namespace Go.Proofs
open Go Go.RowKit Go.Shelf
def Tryz.lays167_ren : Go.Shelf.Ren:=⟨fun | 167 => 175 | 240 => 119 | 276 => 167 | n => n,fun | 0 => 0 | 3 => 3 | 4 => 4 | 5 => 5 | 9 => 9 | 20 => 20 | 37 => 60 | 70 => 125 | 72 => 127 | 75 => 130 | 80 => 58 | 164 => 182 | n => n,fun | n => n⟩
theorem Tryz.lays167 : Go.Proofs.Lays.n167 Tryz.prog Tryz.lays167_ren:={
 mixed:=by kernel_rfl
 f167:=Tryz.func175.trans (congrArg some (by kernel_rfl))
 f240:=Tryz.func119.trans (congrArg some (by kernel_rfl))
 f276:=Tryz.func167.trans (congrArg some (by kernel_rfl))
 t0:=Tryz.underlying0
 a0:=Tryz.isAgg0
 z0:=Tryz.sizeOf0
 v0:=Tryz.zeroValue0
 t4:=Tryz.underlying4
 a4:=Tryz.isAgg4
 z4:=Tryz.sizeOf4
 v4:=Tryz.zeroValue4
 t5:=Tryz.underlying5
 a5:=Tryz.isAgg5
 z5:=Tryz.sizeOf5
 v5:=Tryz.zeroValue5
 t9:=Tryz.underlying9
 a9:=Tryz.isAgg9
 z9:=Tryz.sizeOf9
 v9:=Tryz.zeroValue9
 t20:=Tryz.underlying20
 a20:=Tryz.isAgg20
 z20:=Tryz.sizeOf20
 v20:=Tryz.zeroValue20
 t37:=Tryz.underlying60
 a37:=Tryz.isAgg60
 z37:=Tryz.sizeOf60
 v37:=Tryz.zeroValue60
 t70:=Tryz.underlying125
 a70:=Tryz.isAgg125
 z70:=Tryz.sizeOf125
 v70:=Tryz.zeroValue125
 t72:=Tryz.underlying127
 a72:=Tryz.isAgg127
 z72:=Tryz.sizeOf127
 v72:=Tryz.zeroValue127
 t75:=Tryz.underlying130
 a75:=Tryz.isAgg130
 z75:=Tryz.sizeOf130
 v75:=Tryz.zeroValue130
 t164:=Tryz.underlying182
 a164:=Tryz.isAgg182
 z164:=Tryz.sizeOf182
 v164:=Tryz.zeroValue182 }
theorem Tryz.Builder_Extra_167 : Builder.Extra Tryz.prog Tryz.lays167_ren:={
 sizeBuilder:=by kernel_rfl
 liesBuilder:=by kernel_rfl
 t5:=Tryz.underlying5
 a5:=Tryz.isAgg5
 z5:=Tryz.sizeOf5
 v5:=Tryz.zeroValue5
 infoByte:=by kernel_rfl
 cellsByte:=by kernel_rfl
 sizeByte:=by kernel_rfl
 neB5:=by decide }
theorem Tryz.Builder_WriteByte (B b : Nat) (bs : List Value) (c : Int) (w : World) (h : Lib.IsBuilder 127 5 B b bs w) (hlen : bs.length + 1 ≤ 140737488355328) (hBw : B ≤ w.heap.size) :
  Calls Tryz.prog 175 #[.pointer (some ⟨b,0,none⟩),.int .u8 c] w fun e w' => e = .returned .nilIface ∧ (Lib.BuilderAt 127 5 B b (.pointer (some ⟨b,0,none⟩)) (bs ++ [.int .u8 c]) w' ∧ Below B w w'):=Any.Builder_WriteByte Tryz.lays167 Tryz.Builder_Extra_167 B b bs c w h hlen hBw
theorem Tryz.Builder_WriteString (B b : Nat) (bs : List Value) (s : ByteArray) (w : World) (h : Lib.IsBuilder 127 5 B b bs w) (hlen : bs.length + s.size ≤ 140737488355328) (hBw : B ≤ w.heap.size) :
  Calls Tryz.prog 78 #[.pointer (some ⟨b,0,none⟩),.string s] w fun e w' => e = .returned (.tuple #[.int .i64 s.size,.nilIface]) ∧ (Lib.BuilderAt 127 5 B b (.pointer (some ⟨b,0,none⟩)) (bs ++ Lib.strCells s) w' ∧ Below B w w') :=
 Any.Builder_WriteString ({ Tryz.lays155 with } : Lays.n166 Tryz.prog Tryz.lays155_ren) Tryz.Builder_Extra_155 B b bs s w h hlen hBw
end Go.Proofs
namespace Go.Proofs.YtgmlbjfgfmfliaaGreatDoor
open Go Go.RowKit
theorem isB_new (w : World) : Lib.IsBuilder 127 5 w.heap.size w.heap.size (Lib.byteCells []) (w.alloc (.cells #[.pointer none,.slice none 0 0] 127)) :=
 Or.inl ⟨Nat.le_refl _,_,heap_alloc_new _ _,World.ownsRow_nil _ _ _ _,by simp [Value.ownBlock]⟩
theorem strCells_eq (l : Bs) : Lib.strCells ⟨l.toArray⟩ = Lib.byteCells l:=rfl
theorem cells_app (l m : Bs) : Lib.byteCells (l ++ m) = Lib.byteCells l ++ Lib.byteCells m:=by simp [Lib.byteCells]
theorem cells_one (c : UInt8) : Lib.byteCells [c] = [.int .u8 (c.toNat : Int)]:=rfl
theorem cells_len (l : Bs) : (Lib.byteCells l).length = l.length:=by simp [Lib.byteCells]
theorem kp_isB {T e B b R : Nat} {bs : List Value} {w w' : World} (h : Lib.IsBuilder T e B b bs w) (hk : Kp (Own1 R) w w') (hR : R < B) : Lib.IsBuilder T e B b bs w':=by
 have one : ∀ p,Lib.BuilderAt T e B b p bs w → Lib.BuilderAt T e B b p bs w':=by
  rintro p ⟨hB,v,hb,hown,hne⟩
  refine ⟨hB,v,(hk.block b (lt_of_block hb) (fun e => by have e' : b = R:=e;omega)).trans hb,⟨hown.1,?_⟩,hne⟩
  rcases hown.2 with h2 | ⟨g,cap,cur,hv,hg,hh,r⟩
  ·exact Or.inl h2
  ·exact Or.inr ⟨g,cap,cur,hv,hg,(hk.block g (lt_of_block hh) (fun e => by have e' : g = R:=e;omega)).trans hh,r⟩
 rcases h with h | h
 ·exact Or.inl (one _ h)
 ·exact Or.inr (one _ h)
end Go.Proofs.YtgmlbjfgfmfliaaGreatDoor
