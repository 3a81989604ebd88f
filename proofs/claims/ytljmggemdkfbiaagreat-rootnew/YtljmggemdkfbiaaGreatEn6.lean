/- What the document fixes of a third (layer 3). -/
import Derived.Test.YtljmggemdkfbiaaGreatEn5
namespace Go.Proofs.YtljmggemdkfbiaaGreat
open Go.RowKit
set_option linter.unusedSimpArgs false
set_option linter.unusedVariables false

def thirdE : En := ⟨5592405, 5592405, 5592406, false⟩
theorem third_div : divE (ptE 16777216 true) (ptE 50331648 true) = thirdE := by kernel_rfl
theorem third_encl : enclB thirdE 1 3 = true := by kernel_rfl
theorem third_meet : meetB thirdE thirdE = true := by kernel_rfl
theorem third_fine : fineB thirdE = true := by kernel_rfl
theorem third_sign : signE thirdE = 1 := by kernel_rfl
theorem pointU (w : World) : Calls Tryz.prog 24 #[.int .i64 16777216] w fun e w' => e = .returned (enV (ptE 16777216 true)) ∧ Bl w w' := pointE_any 16777216 w
theorem point3U (w : World) : Calls Tryz.prog 24 #[.int .i64 50331648] w fun e w' => e = .returned (enV (ptE 50331648 true)) ∧ Bl w w' := pointE_any 50331648 w
theorem divU (w : World) : Calls Tryz.prog 203 #[enV (ptE 16777216 true), enV (ptE 50331648 true)] w fun e w' => e = .returned (.agg #[.int .i64 5592405, .int .i64 5592405, .int .i64 5592406, .bool false]) ∧ Bl w w' := by
  have := ediv_any (ptE 16777216 true) (ptE 50331648 true) w
  rw [third_div] at this
  exact this
theorem enclU (w : World) : Calls Tryz.prog 39 #[.agg #[.int .i64 5592405, .int .i64 5592405, .int .i64 5592406, .bool false], .int .i64 1, .int .i64 3] w fun e w' => e = .returned (.bool true) ∧ Bl w w' := by
  have := encl_any thirdE 1 3 w
  rw [third_encl] at this
  exact this
theorem fineU (w : World) : Calls Tryz.prog 82 #[.agg #[.int .i64 5592405, .int .i64 5592405, .int .i64 5592406, .bool false]] w fun e w' => e = .returned (.bool true) ∧ Bl w w' := by
  have := fine_any thirdE w
  rw [third_fine] at this
  exact this
theorem signU (w : World) : Calls Tryz.prog 207 #[.agg #[.int .i64 5592405, .int .i64 5592405, .int .i64 5592406, .bool false]] w fun e w' => e = .returned (.int .i64 1) ∧ Bl w w' := by
  have := signE_any thirdE w
  rw [third_sign] at this
  exact this
theorem wrongU (w : World) : Calls Tryz.prog 110 #[] w fun e w' => e = .returned (.agg #[.int .i64 0, .int .i64 0, .int .i64 0, .bool true]) ∧ Bl w w' := wrong_any w

theorem field_bad (x y z b : Value) (w : World) : (Instr.field 52 (.agg #[x, y, z, b]) 3).run Tryz.prog w = .ok b w := by kernel_rfl

end Go.Proofs.YtljmggemdkfbiaaGreat
