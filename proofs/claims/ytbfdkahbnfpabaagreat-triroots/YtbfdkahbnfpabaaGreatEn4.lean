/- The contract of env's Neg (layer 3). -/
import Derived.Test.YtbfdkahbnfpabaaGreatEn3
namespace Go.Proofs.YtbfdkahbnfpabaaGreat
open Go.RowKit
set_option linter.unusedSimpArgs false
set_option linter.unusedVariables false

def negE (a : En) : En := subE (ptE 0 true) a
end Go.Proofs.YtbfdkahbnfpabaaGreat
