/- What is done with enclosed numbers. -/
import Derived.Test.YtljmggemdkfbiaaGreatHsM
import Derived.Test.YtljmggemdkfbiaaGreatVeHN
import Derived.Test.YtljmggemdkfbiaaGreatEn4
namespace Go.Proofs.YtljmggemdkfbiaaGreat
open Go.RowKit
set_option linter.unusedSimpArgs false
set_option linter.unusedVariables false

def kdN : Kd En := { z := wholeN 0, add := addE, sub := subE, mul := mulE, div := divE, root := rootE, neg := negE, dot := dotN }
end Go.Proofs.YtljmggemdkfbiaaGreat
