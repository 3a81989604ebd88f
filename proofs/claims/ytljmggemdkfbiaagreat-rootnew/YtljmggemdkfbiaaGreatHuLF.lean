/- Contract of house's less, of fractions (layer 8). Written by genHu.py. -/
import Derived.Test.YtljmggemdkfbiaaGreatHuCF
namespace Go.Proofs.YtljmggemdkfbiaaGreat
open Go.RowKit Go.Shelf
set_option linter.unusedSimpArgs false
set_option linter.unusedVariables false
attribute [local go_sem] Oper.semAt_some

end Go.Proofs.YtljmggemdkfbiaaGreat
