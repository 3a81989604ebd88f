/- What the rows' condition on the table of half bytes gives. -/
import Derived.Test.YtljmggemdkfbiaaDoorSu3
import Derived.Test.YtljmggemdkfbiaaDoorTie
import Derived.Test.YtljmggemdkfbiaaDoorCards
import Derived.ProofKit
import Derived.LaidMore
import Derived.OpenShut
import Derived.Stop.Joined
import Derived.Stop.LaidErr
import Derived.SevenTiedAt
namespace Go.Proofs.YtljmggemdkfbiaaDoor
open Go.RowKit
set_option maxRecDepth 100000

theorem ownKH : ownKnob Tryd.prog.godebug = none := by kernel_rfl
/-- The list of variables that the rows lay. -/
def laidH : List (String × DataW Unit) := Rows.sumOfRow.laid
theorem door_metH (os : Os) (args : Array Value) : laidMetH Tryd.prog laidH ((World.doorLaid Tryd.prog 14 os).forCall (fun _ _ => 0) ⟨#[], args, []⟩).memory :=
  laidMetH_of_parts3 (fuel := 8) (laidMet_of_run' 8 (by kernel_rfl) (by kernel_rfl)) (by kernel_rfl) (by kernel_rfl)
theorem tab_of_laid {W : World} (h : laidMetH Tryd.prog laidH W) : HalfTab W := by
  rw [MakeChecks.laidMetH_plain _ _ _ (by kernel_rfl)] at h
  exact Lib.tabIs_of_head (g := 0) (t := 32) (e := 24) (n := 16) (k := .u32) (zs := tabZ) (by kernel_rfl) (by kernel_rfl) Tryd.underlying32 Tryd.underlying24 (by kernel_rfl) (by kernel_rfl) h
end Go.Proofs.YtljmggemdkfbiaaDoor
