/- The kind of any bits is the one that the document says: for every word of 64 bits; the listed package variables are as the program's text lays them (tied). -/
import Derived.Test.YtbhpkehafobkcaaGreatDoorKind
namespace Go.Proofs.YtbhpkehafobkcaaGreatDoor
open Go

theorem floatsKinds_holds : Rows.FloatsKindsCardSaid :=
  Claim7.holds_tied_plain_at .later [] [.data, .data, .widerDeep, .widerDeep, .data, .data, .data, .data, .data, .data, .sentinel, .sentinel, .pinned, .pinned, .pinned] true (true, "92976b00be3c060d1b1cfc2893c47f6c3f4e0991fbc84512367ccc5d7068718a") true
    floatsKinds_row (fun _ h => by cases h) (by kernel_rfl) (fun _ h => by cases h) floatsKinds_row_tie rfl ⟨rfl, rfl⟩ (by kernel_rfl) rfl
    (fun f fn hf hfn => by
      obtain rfl : f = 3 := Option.some.inj ((show Tryz.prog.funcNamed "rhizome/rhizomelaw02.FloatsKinds" = some 3 by kernel_rfl).symm.trans hf) |>.symm
      obtain rfl : fn = Tryz.f3 := (Option.some.inj (Tryz.func3.symm.trans hfn)).symm
      exact ⟨by kernel_rfl, fun j t ht => by
        rw [Tryz.params3] at ht
        have hm : t ∈ [22] := by simpa using Array.mem_of_getElem? ht
        have hall : ([22].all fun u => !Tryz.prog.wantsStandIn u) = true := by kernel_rfl
        exact (show Tryz.prog.wantsStandIn t = false by simpa using List.all_eq_true.1 hall t hm)⟩)
    (by kernel_rfl)
#print axioms floatsKinds_holds
end Go.Proofs.YtbhpkehafobkcaaGreatDoor
