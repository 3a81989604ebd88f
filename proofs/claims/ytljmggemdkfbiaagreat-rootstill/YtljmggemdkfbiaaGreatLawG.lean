/- The walk of WideDivides. -/
import Derived.Test.YtljmggemdkfbiaaGreatRefD
namespace Go.Proofs.YtljmggemdkfbiaaGreat
open Go.RowKit
set_option linter.unusedSimpArgs false
set_option linter.unusedVariables false

end Go.Proofs.YtljmggemdkfbiaaGreat
