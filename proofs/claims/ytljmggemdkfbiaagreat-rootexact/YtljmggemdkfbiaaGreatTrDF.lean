/- Contract of tri's Diagonal, of fractions (layer 7). Written by genTr.py. -/
import Derived.Test.YtljmggemdkfbiaaGreatTrBF
import Derived.Test.YtljmggemdkfbiaaGreatMaGF
import Derived.Test.YtljmggemdkfbiaaGreatRegA
import Derived.Laws.EntriesVeiled
namespace Go.Proofs.YtljmggemdkfbiaaGreat
open Go.RowKit Go.Shelf
set_option linter.unusedSimpArgs false
set_option linter.unusedVariables false
attribute [local go_sem] Oper.semAt_some

end Go.Proofs.YtljmggemdkfbiaaGreat
