/- Contracts of layer 6's Same, Alike. -/
import Derived.Test.YtlbmkjicbkfmjaaGreatMaH
import Derived.Test.YtlbmkjicbkfmjaaGreatWlr
namespace Go.Proofs.YtlbmkjicbkfmjaaGreat
open Go.RowKit
set_option linter.unusedSimpArgs false
set_option linter.unusedVariables false

theorem neq_selfV (r : Fr) (w : World) : (binOp .neq 66 (frV r) (frV r)).run Tryz.prog w = .ok (.bool false) w := by
  rw [neq_fr, eqR_self]; rfl
end Go.Proofs.YtlbmkjicbkfmjaaGreat
