/- From what the row lists of the package-level variables to the facts that the walks ask. -/
import Derived.Test.YtbemidnhljjfnaaGreatDoorRows
import Derived.Test.YtbemidnhljjfnaaGreatDoorTabs
import Derived.Lib.LaidU8
import Derived.LaidMore
import Derived.Stop.LaidErr
import Derived.Lay
namespace Go.Proofs.YtbemidnhljjfnaaGreatDoor
open Go Go.RowKit Go.Lib

def listed : List (String × DataW Unit) := Rows.floatsCmpsRow.laid

theorem at_var {w : World} {n : String} {d : DataW Unit} {g t : Nat} (h : VarReads Tryz.prog w n d) (hg : Tryz.prog.globalNamed n = some g) (ht : (Tryz.prog.globals[g]?).map (·.type) = some t) :
    ∃ (cs : Array Value) (fuel : Nat) (p : List MemPlace), w.var? Tryz.prog n = some cs ∧ DataW.trod (fun _ => ()) Tryz.prog w 0 (fun _ => true) false fuel t cs.toList = some (d, p) ∧ ∀ i, w.cell? ⟨g, i, none⟩ = cs.toList[i]? := by
  obtain ⟨g', t', cs, fuel, p, hg', ht', hv, hd⟩ := h
  obtain rfl := Option.some.inj (hg.symm.trans hg')
  obtain rfl := Option.some.inj (ht.symm.trans ht')
  exact ⟨cs, fuel, p, hv, hd, fun i => by rw [World.var?_cell hg hv i, Array.getElem?_toList]⟩

theorem opt_of {w : World} (h : VarReads Tryz.prog w "internal/strconv.optimize" Rows.laid_internal_strconv_optimize) : w.cell? ⟨2, 0, none⟩ = some (.bool true) := by
  obtain ⟨cs, fuel, p, _, hd, hc⟩ := at_var h (g := 2) (t := 4) (by kernel_rfl) (by kernel_rfl)
  obtain ⟨b, e1, e2⟩ := DataW.trod_bool Tryz.underlying4 hd
  rw [hc, e1]
  simp only [Rows.laid_internal_strconv_optimize, Prod.mk.injEq, DataW.lit.injEq, Lit.bool.injEq] at e2
  rw [← e2.1]
  rfl

theorem mant_of {w : World} (h : VarReads Tryz.prog w "internal/strconv.float64info" Rows.laid_internal_strconv_float64info) : w.cell? ⟨7, 0, none⟩ = some (.int .u64 52) := by
  obtain ⟨cs, fuel, p, _, hd, hc⟩ := at_var h (g := 7) (t := 168) (by kernel_rfl) (by kernel_rfl)
  obtain ⟨xs, n, _, hx, _, hl, hall⟩ := DataW.trod_struct Tryz.underlying168 hd
  have h0 := hall 0 _ rfl
  have c1 : Tryz.prog.cellsOf 35 = 1 := by kernel_rfl
  cases hxs : xs with
  | nil => rw [hxs] at hl; simp at hl
  | cons x r =>
    rw [hxs] at h0 hx
    obtain ⟨z, e1, e2, _⟩ := DataW.trod_int Tryz.underlying35 h0
    simp only [Rows.laid_internal_strconv_float64info, Prod.mk.injEq, DataW.agg.injEq, List.map_cons, List.cons.injEq] at hx
    rw [e2] at hx
    simp only [DataW.lit.injEq, Lit.int.injEq, true_and] at hx
    have e3 : List.take (Tryz.prog.cellsOf 35) (List.drop 0 cs.toList) = [.int .u64 z] := e1
    rw [c1] at e3
    rw [hc, hx.1.1]
    have := congrArg (·[0]?) e3
    simpa [List.getElem?_take] using this

theorem tens_of {w : World} (h : VarReads Tryz.prog w "internal/strconv.uint64pow10" Rows.laid_internal_strconv_uint64pow10) : TabIs Tryz.prog w "internal/strconv.uint64pow10" .u64 pow10Tab := by
  obtain ⟨cs, fuel, p, hv, hd, _⟩ := at_var h (g := 5) (t := 148) (by kernel_rfl) (by kernel_rfl)
  have hd' : DataW.trod (fun _ => ()) Tryz.prog w 0 (fun _ => true) false fuel 148 cs.toList = some (tabData .u64 pow10Tab, p) := hd
  unfold TabIs
  rw [hv, ← cells_of_tab Tryz.underlying148 Tryz.underlying22 (by kernel_rfl) (by kernel_rfl) hd']

theorem pow_of {w : World} (h : VarReads Tryz.prog w "internal/strconv.float64pow10" Rows.laid_internal_strconv_float64pow10) :
    ∃ a cap, w.cell? ⟨14, 0, none⟩ = some (.slice (some a) 23 cap) ∧ w.cell? ⟨a.block, a.off + 1, none⟩ = some (.float .f64 4621819117588971520) := by
  obtain ⟨cs, fuel, p, _, hd, hc⟩ := at_var h (g := 14) (t := 198) (by kernel_rfl) (by kernel_rfl)
  obtain ⟨a, cap, e1, _, hel⟩ := open_row Tryz.underlying198 (by kernel_rfl) hd
  refine ⟨a, cap, by rw [hc, e1]; rfl, ?_⟩
  obtain ⟨v, n, q, hv, ht⟩ := hel 1 _ rfl
  cases n with
  | zero => simp [DataW.trod] at ht
  | succ n =>
    have hu := Tryz.underlying37
    have hv' : w.cell? ⟨a.block, a.off + 1, none⟩ = some v := hv
    rw [hv']
    simp only [DataW.trod, hu] at ht
    split at ht
    all_goals simp_all

theorem pair_of {w : World} (h : VarReads Tryz.prog w "internal/strconv.pow10Tab" Rows.laid_internal_strconv_pow10Tab) (i : Nat) (hi : i < 696) (x y : Int) (hxy : (match Rows.laid_internal_strconv_pow10Tab with | .agg ds => ds[i]? | _ => none) = some (.agg ([x, y].map fun z => .lit (.int .u64 z)))) :
    w.cell? ⟨8, 2 * i, none⟩ = some (.int .u64 x) ∧ w.cell? ⟨8, 2 * i + 1, none⟩ = some (.int .u64 y) := by
  obtain ⟨cs, fuel, p, _, hd, hc⟩ := at_var h (g := 8) (t := 182) (by kernel_rfl) (by kernel_rfl)
  have c2 : Tryz.prog.cellsOf 181 = 2 := by kernel_rfl
  have c1 : Tryz.prog.cellsOf 22 = 1 := by kernel_rfl
  generalize Rows.laid_internal_strconv_pow10Tab = D at hd hxy
  cases D with
  | agg ds =>
    obtain ⟨fuel', d, q, hdi, he⟩ := array_elem Tryz.underlying182 hd i hi
    have hxy' : ds[i]? = some (.agg ([x, y].map fun z => .lit (.int .u64 z))) := hxy
    obtain rfl := Option.some.inj (hdi.symm.trans hxy')
    rw [c2] at he
    have hcs := ints_of_struct Tryz.underlying181 (fun j f hj => by
      match j, hj with
      | 0, hj => simp at hj; subst hj; exact ⟨Tryz.underlying22, rfl, c1⟩
      | 1, hj => simp at hj; subst hj; exact ⟨Tryz.underlying22, rfl, c1⟩
      | j + 2, hj => simp at hj) (by rw [c2]; rfl) he
    have e0 := congrArg (·[0]?) hcs
    have e1 := congrArg (·[1]?) hcs
    simp only [List.getElem?_take, List.getElem?_drop] at e0 e1
    rw [hc, hc]
    constructor
    · simpa [Nat.mul_comm] using e0
    · simpa [Nat.mul_comm] using e1
  | _ => cases hxy

theorem err_of {w : World} (h : VarReads Tryz.prog w "strconv.ErrRange" Rows.laid_strconv_ErrRange) : ∃ te pe, w.cell? ⟨4, 0, none⟩ = some (.iface te pe) := by
  obtain ⟨cs, fuel, p, _, hd, hc⟩ := at_var h (g := 4) (t := 57) (by kernel_rfl) (by kernel_rfl)
  cases fuel with
  | zero => simp [DataW.trod] at hd
  | succ n =>
    have hu := Tryz.underlying57
    simp only [DataW.trod, hu, Rows.laid_strconv_ErrRange] at hd
    rw [hc]
    split at hd
    all_goals simp_all

theorem tabs_of {w : World} (hL : laidMet Tryz.prog listed w) : Tabs w := by
  have hT := tens_of (laidMet.reads hL (.tail _ (.tail _ (.tail _ (.tail _ (.tail _ (.tail _ (.tail _ (.tail _ (.head _))))))))))
  have hP : VarReads Tryz.prog w "internal/strconv.pow10Tab" Rows.laid_internal_strconv_pow10Tab := laidMet.reads hL (.tail _ (.tail _ (.tail _ (.tail _ (.tail _ (.tail _ (.tail _ (.tail _ (.tail _ (.tail _ (.tail _ (.tail _ (.tail _ (.head _))))))))))))))
  have hA := pair_of hP 366 (by decide) 16000000000000000000 0 (by kernel_rfl)
  have hB := pair_of hP 688 (by decide) 12648080533535911531 1472767802899791691 (by kernel_rfl)
  refine ⟨opt_of (laidMet.reads hL (.tail _ (.tail _ (.tail _ (.tail _ (.head _)))))), mant_of (laidMet.reads hL (.tail _ (.tail _ (.tail _ (.head _))))), pow_of (laidMet.reads hL (.tail _ (.tail _ (.tail _ (.tail _ (.tail _ (.tail _ (.head _)))))))), hT, ?_, hA.1, hA.2, hB.1, hB.2, err_of (laidMet.reads hL (.tail _ (.tail _ (.tail _ (.tail _ (.tail _ (.tail _ (.tail _ (.tail _ (.tail _ (.tail _ (.head _))))))))))))⟩
  exact hT.cell (by kernel_rfl) 17 (by decide)
end Go.Proofs.YtbemidnhljjfnaaGreatDoor
