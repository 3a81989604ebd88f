/- Contracts of tri's Clear, Root, of enclosed numbers (layer 7). Written by genTr.py. -/
import Derived.Test.YtlbmkjicbkfmjaaGreatTrAN
import Derived.Test.YtlbmkjicbkfmjaaGreatMaEN
namespace Go.Proofs.YtlbmkjicbkfmjaaGreat
open Go.RowKit
set_option linter.unusedSimpArgs false
set_option linter.unusedVariables false

theorem Tryz.mDivN (x : Value) (w : World) : (method 332 28 x "Div").run Tryz.prog w = .ok (202, x) w := by kernel_rfl
theorem Tryz.mRootN (x : Value) (w : World) : (method 332 28 x "Root").run Tryz.prog w = .ok (205, x) w := by kernel_rfl
/-- A matrix with z above its diagonal. -/
def clrN (f : Nat → Nat → En) (i k : Nat) : En := if k ≤ i then f i k else wholeN 0
end Go.Proofs.YtlbmkjicbkfmjaaGreat
