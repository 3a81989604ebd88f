/- Contracts of house's away, less, of fractions (layer 8). Written by genHu.py. -/
import Derived.Test.YtljmggemdkfbiaaGreatHuBF
import Derived.Test.YtljmggemdkfbiaaGreatTrRF
import Derived.Test.YtljmggemdkfbiaaGreatVeHF
import Derived.Test.YtljmggemdkfbiaaGreatHsQ
namespace Go.Proofs.YtljmggemdkfbiaaGreat
open Go.RowKit Go.Shelf
set_option linter.unusedSimpArgs false
set_option linter.unusedVariables false
attribute [local go_sem] Oper.semAt_some

theorem Tryz.hSignF (x : Value) (w : World) : (method 327 34 x "Sign").run Tryz.prog w = .ok (191, x) w := by kernel_rfl
theorem Tryz.hNegF (x : Value) (w : World) : (method 327 34 x "Neg").run Tryz.prog w = .ok (188, x) w := by kernel_rfl
theorem Tryz.hAddF (x : Value) (w : World) : (method 327 34 x "Add").run Tryz.prog w = .ok (184, x) w := by kernel_rfl
/-- Whether it is below 0. -/
def lowFr (x : Fr) : Bool := decide (signR x < 0)
end Go.Proofs.YtljmggemdkfbiaaGreat
