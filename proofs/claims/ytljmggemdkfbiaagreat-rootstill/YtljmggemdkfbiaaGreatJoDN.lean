/- Contract of joseph's Predict, of enclosed numbers (layer 9). Written by genJo.py. -/
import Derived.Test.YtljmggemdkfbiaaGreatJoCN
import Derived.Test.YtljmggemdkfbiaaGreatMaZN
namespace Go.Proofs.YtljmggemdkfbiaaGreat
open Go.RowKit
set_option linter.unusedSimpArgs false
set_option linter.unusedVariables false

end Go.Proofs.YtljmggemdkfbiaaGreat
