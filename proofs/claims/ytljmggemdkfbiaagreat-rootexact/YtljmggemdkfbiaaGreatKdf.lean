/- What is done with fractions. -/
import Derived.Test.YtljmggemdkfbiaaGreatHsM
import Derived.Test.YtljmggemdkfbiaaGreatVeHF
namespace Go.Proofs.YtljmggemdkfbiaaGreat
open Go.RowKit
set_option linter.unusedSimpArgs false
set_option linter.unusedVariables false

def kdF : Kd Fr := { z := wholeF 0, add := addR, sub := subR, mul := mulR, div := divR, root := rootR, neg := negR, dot := dotF }
end Go.Proofs.YtljmggemdkfbiaaGreat
