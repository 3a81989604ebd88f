/- Contracts of what the statements of layer 4 ask with: small, Lowest, fine, Same, Square. -/
import Derived.Test.YtljmggemdkfbiaaGreatFr5
import Derived.Test.YtljmggemdkfbiaaGreatRefC
namespace Go.Proofs.YtljmggemdkfbiaaGreat
open Go.RowKit
set_option linter.unusedSimpArgs false
set_option linter.unusedVariables false

theorem ret_bool {a b : Bool} (h : a = b) : Ending.returned (.bool a) = .returned (.bool b) := by rw [h]
/-- Is n by d the same as m by e? -/
def sameB (n d m e : Int) : Bool := cmpI (n * e) (m * d) == 0
theorem cmpI_zero {x y : Int} : cmpI x y = 0 ↔ x = y := by
  constructor
  · intro h; rcases cmpI_three x y with ⟨a, b⟩ | ⟨a, b⟩ | ⟨a, b⟩ <;> omega
  · intro h; exact cmpI_eq h
theorem sameB_iff {n d m e : Int} : sameB n d m e = true ↔ n * e = m * d := by
  unfold sameB; rw [beq_iff_eq, cmpI_zero]
/-- The root of a square; -1, if it is none. -/
def sqR (n : Int) : Int := if rtF n * rtF n = n then rtF n else -1
end Go.Proofs.YtljmggemdkfbiaaGreat
