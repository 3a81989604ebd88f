/- The contract of the document's Root. -/
import Derived.Test.YtljmggemdkfbiaaGreatTimes
namespace Go.Proofs.YtljmggemdkfbiaaGreat
open Go.RowKit
set_option linter.unusedSimpArgs false
set_option linter.unusedVariables false

theorem pow_step (j : Nat) : (2 : Int) ^ (j + 1) / 2 = 2 ^ j ∧ (2 : Int) ^ (j + 1) = 2 ^ j + 2 ^ j := by
  rw [Int.pow_succ]; omega

end Go.Proofs.YtljmggemdkfbiaaGreat
