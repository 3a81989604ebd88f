/- Contracts of wide.outward, rounded, Compare. -/
import Derived.Test.YtljmggemdkfbiaaDoorMid
namespace Go.Proofs.YtljmggemdkfbiaaDoor
open Go.RowKit
set_option linter.unusedSimpArgs false
set_option linter.unusedVariables false

/-- Does rounding go away from 0? -/
def outB (cut rest gap : Int) (below : Bool) (mode : Int) : Bool :=
  if mode = 1 then below && decide (0 < rest) else if mode = 2 then !below && decide (0 < rest) else
    decide (gap < 2 * rest) || (decide (2 * rest = gap) && decide (cut % 2 = 1))

/-- What is left of a size that was cut off, rounded; and whether it may be. -/
def upI (cut : Int) (o : Bool) : Int := if o then cut + 1 else cut
def rdN (c : Int) (below : Bool) : Int := if 4611686018427387903 < c then 0 else if below then -c else c
def rdB (c : Int) : Bool := decide (c ≤ 4611686018427387903)

end Go.Proofs.YtljmggemdkfbiaaDoor
