/- Contracts of the leaves of package wide: Right, isMode, size, sign, cmp.Compare; over the landed code. -/
import Derived.Test.YtljmggemdkfbiaaDoorRows
import Derived.WalkKit
import Derived.WalkSpells
import Derived.RowKit3
import Derived.Laws.MathBits
namespace Go.Proofs.YtljmggemdkfbiaaDoor
open Go.RowKit
set_option linter.unusedSimpArgs false
set_option linter.unusedVariables false

/-- An int64. -/
def I64 (x : Int) : Prop := -9223372036854775808 ≤ x ∧ x ≤ 9223372036854775807
/-- A word. -/
def U64 (x : Int) : Prop := 0 ≤ x ∧ x < 18446744073709551616
/-- May the number be (P1.1)? -/
def rightB (n : Int) : Bool := decide (-4611686018427387903 ≤ n) && decide (n ≤ 4611686018427387903)
/-- Is it one of the three modes? -/
def modeB (m : Int) : Bool := decide (m = 0) || decide (m = 1) || decide (m = 2)
/-- -1, 0, 1, as x is below, the same as, above y. -/
def cmpI (x y : Int) : Int := if x < y then -1 else if y < x then 1 else 0
/-- The size of a number. -/
def szI (n : Int) : Int := if n < 0 then -n else n

theorem rightB_eq {n : Int} (h : -4611686018427387903 ≤ n ∧ n ≤ 4611686018427387903) : rightB n = true := by simp [rightB, h]
theorem ret_int {k : IntKind} {a b : Int} (h : a = b) : Ending.returned (.int k a) = .returned (.int k b) := by rw [h]
end Go.Proofs.YtljmggemdkfbiaaDoor
