/- Contract of joseph's Update, of enclosed numbers (layer 9): what does not go together. Written by genJo.py. -/
import Derived.Test.YtljmggemdkfbiaaGreatJoE0N
namespace Go.Proofs.YtljmggemdkfbiaaGreat
open Go.RowKit
set_option linter.unusedSimpArgs false
set_option linter.unusedVariables false

end Go.Proofs.YtljmggemdkfbiaaGreat
