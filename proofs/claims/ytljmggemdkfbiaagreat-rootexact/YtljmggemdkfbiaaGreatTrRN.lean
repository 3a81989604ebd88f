/- Contracts of tri's Root, of enclosed numbers (layer 7). Written by genTr.py. -/
import Derived.Test.YtljmggemdkfbiaaGreatTrBN
import Derived.Test.YtljmggemdkfbiaaGreatEn3
namespace Go.Proofs.YtljmggemdkfbiaaGreat
open Go.RowKit
set_option linter.unusedSimpArgs false
set_option linter.unusedVariables false

/-- What Root tells of a place, of what it is so far. -/
def rootVN (P g : Nat → Nat → En) (i k : Nat) : En := if i = k then rootE (subE (P i k) (dotN (rowM k g i) (rowM k g k))) else divE (subE (P i k) (dotN (rowM k g i) (rowM k g k))) (g k k)
end Go.Proofs.YtljmggemdkfbiaaGreat
