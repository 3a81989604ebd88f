/- What the document fixes of a third (layer 3). -/
import Derived.Test.YtgidengfnelggaaEn5
namespace Go.Proofs.Ytgidengfnelggaa
open Go.RowKit
set_option linter.unusedSimpArgs false
set_option linter.unusedVariables false

def thirdE : En := ⟨5592405, 5592405, 5592406, false⟩
theorem third_div : divE (ptE 16777216 true) (ptE 50331648 true) = thirdE := by kernel_rfl
theorem third_encl : enclB thirdE 1 3 = true := by kernel_rfl
theorem third_meet : meetB thirdE thirdE = true := by kernel_rfl
theorem third_fine : fineB thirdE = true := by kernel_rfl
theorem third_sign : signE thirdE = 1 := by kernel_rfl
theorem pointU (w : World) : Calls Try.prog 21 #[.int .i64 16777216] w fun e w' => e = .returned (enV (ptE 16777216 true)) ∧ Bl w w' := pointE_any 16777216 w
theorem point3U (w : World) : Calls Try.prog 21 #[.int .i64 50331648] w fun e w' => e = .returned (enV (ptE 50331648 true)) ∧ Bl w w' := pointE_any 50331648 w
theorem divU (w : World) : Calls Try.prog 14 #[enV (ptE 16777216 true), enV (ptE 50331648 true)] w fun e w' => e = .returned (.agg #[.int .i64 5592405, .int .i64 5592405, .int .i64 5592406, .bool false]) ∧ Bl w w' := by
  have := ediv_any (ptE 16777216 true) (ptE 50331648 true) w
  rw [third_div] at this
  exact this
theorem enclU (w : World) : Calls Try.prog 27 #[.agg #[.int .i64 5592405, .int .i64 5592405, .int .i64 5592406, .bool false], .int .i64 1, .int .i64 3] w fun e w' => e = .returned (.bool true) ∧ Bl w w' := by
  have := encl_any thirdE 1 3 w
  rw [third_encl] at this
  exact this
theorem meetU (w : World) : Calls Try.prog 26 #[.agg #[.int .i64 5592405, .int .i64 5592405, .int .i64 5592406, .bool false], .agg #[.int .i64 5592405, .int .i64 5592405, .int .i64 5592406, .bool false]] w fun e w' => e = .returned (.bool true) ∧ Bl w w' := by
  have := meet_any thirdE thirdE w
  rw [third_meet] at this
  exact this
theorem fineU (w : World) : Calls Try.prog 18 #[.agg #[.int .i64 5592405, .int .i64 5592405, .int .i64 5592406, .bool false]] w fun e w' => e = .returned (.bool true) ∧ Bl w w' := by
  have := fine_any thirdE w
  rw [third_fine] at this
  exact this
theorem signU (w : World) : Calls Try.prog 24 #[.agg #[.int .i64 5592405, .int .i64 5592405, .int .i64 5592406, .bool false]] w fun e w' => e = .returned (.int .i64 1) ∧ Bl w w' := by
  have := signE_any thirdE w
  rw [third_sign] at this
  exact this
theorem wrongU (w : World) : Calls Try.prog 22 #[] w fun e w' => e = .returned (.agg #[.int .i64 0, .int .i64 0, .int .i64 0, .bool true]) ∧ Bl w w' := wrong_any w

theorem field_bad (x y z b : Value) (w : World) : (Instr.field 23 (.agg #[x, y, z, b]) 3).run Try.prog w = .ok b w := by kernel_rfl

set_option maxHeartbeats 1000000 in
theorem awake3_any (w : World) :
    Calls Try.prog 20 #[] w fun e w' => e = .returned (.bool true) ∧ Bl w w' := by
  have fb := field_bad (.int .i64 0) (.int .i64 0) (.int .i64 0) (.bool true)
  go_enter Try.func20, Try.ntmps20
  go_wp2_with fail
  refine (pointU _).mono ?_
  rintro e w1 ⟨rfl, h1⟩
  go_wp2_with fail
  refine (point3U _).mono ?_
  rintro e w2 ⟨rfl, h2⟩
  go_wp2_with fail
  refine (divU _).mono ?_
  rintro e w3 ⟨rfl, h3⟩
  obtain ⟨W, hW⟩ : ∃ W, W = w3.alloc (.cells #[.int .i64 5592405, .int .i64 5592405, .int .i64 5592406, .bool false] 23) := ⟨_, rfl⟩
  have x0 : Box W w3.heap.size thirdE := by rw [hW]; exact Box.new w3 thirdE _
  have b0 := ((h1.trans h2).trans h3).alloc (.cells #[.int .i64 5592405, .int .i64 5592405, .int .i64 5592406, .bool false] 23)
  rw [← hW] at b0
  have HW := hideP hW
  have HX := hideP x0
  clear hW x0 h1 h2 h3
  go_wp2_with fail
  rw [← HW.out]
  refine (enclU _).mono ?_
  rintro e w4 ⟨rfl, h4⟩
  obtain ⟨c0, c1, c2, c3, _, _, _, _, _⟩ := HX.out.later h4
  unfold thirdE at c0 c1 c2 c3
  go_wp2_with fail
  refine (meetU _).mono ?_
  rintro e w5 ⟨rfl, h5⟩
  go_wp2_with fail
  refine (wrongU _).mono ?_
  rintro e w6 ⟨rfl, h6⟩
  obtain ⟨d0, d1, d2, d3, _, _, _, _, _⟩ := HX.out.later ((h4.trans h5).trans h6)
  unfold thirdE at d0 d1 d2 d3
  go_wp2_with fail
  refine (fineU _).mono ?_
  rintro e w7 ⟨rfl, h7⟩
  obtain ⟨e0, e1, e2, e3, _, _, _, _, _⟩ := HX.out.later (((h4.trans h5).trans h6).trans h7)
  unfold thirdE at e0 e1 e2 e3
  go_wp2_with fail
  refine (signU _).mono ?_
  rintro e w8 ⟨rfl, h8⟩
  go_wp2
  go_ret
  exact ⟨rfl, b0.trans ((((h4.trans h5).trans h6).trans h7).trans h8)⟩
end Go.Proofs.Ytgidengfnelggaa
