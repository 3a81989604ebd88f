/- Contracts of tri's Clear, Root, of enclosed numbers (layer 7). Written by genTr.py. -/
import Derived.Test.YtbfdkahbnfpabaaGreatTrAN
import Derived.Test.YtbfdkahbnfpabaaGreatMaEN
namespace Go.Proofs.YtbfdkahbnfpabaaGreat
open Go.RowKit
set_option linter.unusedSimpArgs false
set_option linter.unusedVariables false

theorem Tryz.mDivN (x : Value) (w : World) : (method 268 40 x "Div").run Tryz.prog w = .ok (144, x) w := by kernel_rfl
theorem Tryz.mRootN (x : Value) (w : World) : (method 268 40 x "Root").run Tryz.prog w = .ok (147, x) w := by kernel_rfl
/-- A matrix with z above its diagonal. -/
def clrN (f : Nat → Nat → En) (i k : Nat) : En := if k ≤ i then f i k else wholeN 0
end Go.Proofs.YtbfdkahbnfpabaaGreat
