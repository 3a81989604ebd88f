/- What is done with enclosed numbers. -/
import Derived.Test.YtlbmkjicbkfmjaaGreatHsM
import Derived.Test.YtlbmkjicbkfmjaaGreatVeHN
import Derived.Test.YtlbmkjicbkfmjaaGreatEn4
namespace Go.Proofs.YtlbmkjicbkfmjaaGreat
open Go.RowKit
set_option linter.unusedSimpArgs false
set_option linter.unusedVariables false

def kdN : Kd En := { z := wholeN 0, add := addE, sub := subE, mul := mulE, div := divE, root := rootE, neg := negE, dot := dotN }
end Go.Proofs.YtlbmkjicbkfmjaaGreat
