/- What is done with enclosed numbers. -/
import Derived.Test.YthnadgbloamlaaaGreatHsM
import Derived.Test.YthnadgbloamlaaaGreatVeHN
import Derived.Test.YthnadgbloamlaaaGreatEn4
namespace Go.Proofs.YthnadgbloamlaaaGreat
open Go.RowKit
set_option linter.unusedSimpArgs false
set_option linter.unusedVariables false

def kdN : Kd En := { z := wholeN 0, add := addE, sub := subE, mul := mulE, div := divE, root := rootE, neg := negE, dot := dotN }
end Go.Proofs.YthnadgbloamlaaaGreat
