/- Contracts of tri's Root, of fractions (layer 7). Written by genTr.py. -/
import Derived.Test.YtljmggemdkfbiaaGreatTrBF
import Derived.Test.YtljmggemdkfbiaaGreatFr6
namespace Go.Proofs.YtljmggemdkfbiaaGreat
open Go.RowKit
set_option linter.unusedSimpArgs false
set_option linter.unusedVariables false

/-- What Root tells of a place, of what it is so far. -/
def rootVF (P g : Nat → Nat → Fr) (i k : Nat) : Fr := if i = k then rootR (subR (P i k) (dotF (rowM k g i) (rowM k g k))) else divR (subR (P i k) (dotF (rowM k g i) (rowM k g k))) (g k k)
end Go.Proofs.YtljmggemdkfbiaaGreat
