/- Rows of whole numbers as they lie in memory (layer 5). -/
import Derived.Test.YtljmggemdkfbiaaGreatVeR
import Derived.Test.YtljmggemdkfbiaaGreatTimes
namespace Go.Proofs.YtljmggemdkfbiaaGreat
open Go.RowKit
set_option linter.unusedSimpArgs false
set_option linter.unusedVariables false

theorem Tryz.info_I : (Tryz.prog.info? 3).map (fun i => (i.zero, i.size, i.bytes)) = some (some (.int .i64 0), 1, 8) := by kernel_rfl
/-- A number's cells. -/
def cellsI (x : Int) : List Value := [.int .i64 x]
theorem cellsI_len (x : Int) : (cellsI x).length = 1 := rfl
theorem oneI_cells (x : Int) : ∀ u ∈ cellsI x, u.oneCell' = true := by
  intro u hu
  unfold cellsI at hu
  simp only [List.mem_cons, List.not_mem_nil, or_false] at hu
  rcases hu with rfl
  rfl
end Go.Proofs.YtljmggemdkfbiaaGreat
