/- The walk of WideDivides. -/
import Derived.Test.YtbfdkahbnfpabaaGreatRefD
namespace Go.Proofs.YtbfdkahbnfpabaaGreat
open Go.RowKit
set_option linter.unusedSimpArgs false
set_option linter.unusedVariables false

end Go.Proofs.YtbfdkahbnfpabaaGreat
