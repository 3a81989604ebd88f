/- What the rows' condition on the library's table gives. -/
import Derived.Test.YtkigikccdoaljaaDoorFx3
import Derived.Test.YtkigikccdoaljaaDoorTie
import Derived.Test.YtkigikccdoaljaaDoorCards
import Derived.ProofKit
import Derived.LaidMore
import Derived.OpenShut
import Derived.Stop.Joined
import Derived.Stop.LaidErr
import Derived.SevenTiedAt
namespace Go.Proofs.YtkigikccdoaljaaDoor
open Go.RowKit
set_option maxRecDepth 100000

theorem ownK : ownKnob Tryd.prog.godebug = none := by kernel_rfl
/-- The list of variables that the rows lay. -/
def laidL : List (String × DataW Unit) := Rows.fxProductsRow.laid
theorem door_met (os : Os) (args : Array Value) : laidMetH Tryd.prog laidL ((World.doorLaid Tryd.prog 24 os).forCall (fun _ _ => 0) ⟨#[], args, []⟩).memory :=
  laidMetH_of_parts3 (fuel := 8) (laidMet_of_run' 8 (by kernel_rfl) (by kernel_rfl)) (by kernel_rfl) (by kernel_rfl)
theorem pow_of_laid {W : World} (h : laidMetH Tryd.prog laidL W) : PowTab W := by
  rw [MakeChecks.laidMetH_plain _ _ _ (by kernel_rfl)] at h
  have h' := h.tail.tail
  exact Lib.tabIs_of_head (g := 2) (t := 72) (e := 36) (n := 20) (k := .u64) (zs := Lib.pow10Tab) (by kernel_rfl) (by kernel_rfl) Tryd.underlying72 Tryd.underlying36 (by kernel_rfl) (by kernel_rfl) h'
end Go.Proofs.YtkigikccdoaljaaDoor
