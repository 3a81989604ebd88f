/- The walk of WideDivides. -/
import Derived.Test.YtokbmbgiimbkpaaRefD
namespace Go.Proofs.Ytokbmbgiimbkpaa
open Go.RowKit
set_option linter.unusedSimpArgs false
set_option linter.unusedVariables false

end Go.Proofs.Ytokbmbgiimbkpaa
