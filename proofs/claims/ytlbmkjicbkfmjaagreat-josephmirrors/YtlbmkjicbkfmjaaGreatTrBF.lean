/- Contracts of tri's Clear, Root, of fractions (layer 7). Written by genTr.py. -/
import Derived.Test.YtlbmkjicbkfmjaaGreatTrAF
import Derived.Test.YtlbmkjicbkfmjaaGreatMaEF
namespace Go.Proofs.YtlbmkjicbkfmjaaGreat
open Go.RowKit
set_option linter.unusedSimpArgs false
set_option linter.unusedVariables false

theorem Tryz.mDivF (x : Value) (w : World) : (method 332 66 x "Div").run Tryz.prog w = .ok (224, x) w := by kernel_rfl
theorem Tryz.mRootF (x : Value) (w : World) : (method 332 66 x "Root").run Tryz.prog w = .ok (229, x) w := by kernel_rfl
/-- A matrix with z above its diagonal. -/
def clrF (f : Nat → Nat → Fr) (i k : Nat) : Fr := if k ≤ i then f i k else wholeF 0
end Go.Proofs.YtlbmkjicbkfmjaaGreat
