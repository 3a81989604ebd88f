/- The walk of WideDivides. -/
import Derived.Test.YthnadgbloamlaaaGreatRefD
namespace Go.Proofs.YthnadgbloamlaaaGreat
open Go.RowKit
set_option linter.unusedSimpArgs false
set_option linter.unusedVariables false

set_option maxHeartbeats 1000000 in
theorem refMulDiv_bad (a b c mode : Int) (w : World)
    (hw : rightB a = false ∨ (rightB a = true ∧ rightB b = false) ∨ (rightB a = true ∧ rightB b = true ∧ rightB c = false) ∨ (rightB a = true ∧ rightB b = true ∧ rightB c = true ∧ (c == 0) = true) ∨
      (rightB a = true ∧ rightB b = true ∧ rightB c = true ∧ (c == 0) = false ∧ mode < 0) ∨ (rightB a = true ∧ rightB b = true ∧ rightB c = true ∧ (c == 0) = false ∧ 2 < mode)) :
    Calls Tryz.prog 209 #[.int .i64 a, .int .i64 b, .int .i64 c, .int .i64 mode] w fun e w' => e = .returned (.tuple #[.int .i64 0, .bool false]) ∧ Bl w w' := by
  rcases hw with h1 | ⟨h1, h2⟩ | ⟨h1, h2, h3⟩ | ⟨h1, h2, h3, h4⟩ | ⟨h1, h2, h3, h4, h5⟩ | ⟨h1, h2, h3, h4, h5⟩
  · go_enter Tryz.func209, Tryz.ntmps209
    go_wp2_with (go_at_call 221; refine (refRight_any _ _).mono ?_; rintro e w' ⟨rfl, rfl⟩)
    go_ret2
    exact ⟨rfl, Bl.refl _⟩
  · go_enter Tryz.func209, Tryz.ntmps209
    go_wp2_with (go_at_call 221; refine (refRight_any _ _).mono ?_; rintro e w' ⟨rfl, rfl⟩)
    go_ret2
    exact ⟨rfl, Bl.refl _⟩
  · go_enter Tryz.func209, Tryz.ntmps209
    go_wp2_with (go_at_call 221; refine (refRight_any _ _).mono ?_; rintro e w' ⟨rfl, rfl⟩)
    go_ret2
    exact ⟨rfl, Bl.refl _⟩
  · go_enter Tryz.func209, Tryz.ntmps209
    go_wp2_with (go_at_call 221; refine (refRight_any _ _).mono ?_; rintro e w' ⟨rfl, rfl⟩)
    go_ret2
    exact ⟨rfl, Bl.refl _⟩
  · have kd : decide (mode < 0) = true := decide_eq_true h5
    go_enter Tryz.func209, Tryz.ntmps209
    go_wp2_with (go_at_call 221; refine (refRight_any _ _).mono ?_; rintro e w' ⟨rfl, rfl⟩)
    go_ret2
    exact ⟨rfl, Bl.refl _⟩
  · have kd : decide (mode < 0) = false := decide_eq_false (by omega)
    go_enter Tryz.func209, Tryz.ntmps209
    go_wp2_with (go_at_call 221; refine (refRight_any _ _).mono ?_; rintro e w' ⟨rfl, rfl⟩)
    go_ret2
    exact ⟨rfl, Bl.refl _⟩

theorem refMulDiv_any (a b c mode : Int) (w : World) :
    Calls Tryz.prog 209 #[.int .i64 a, .int .i64 b, .int .i64 c, .int .i64 mode] w fun e w' =>
      e = .returned (.tuple #[.int .i64 (mdN a b c mode), .bool (mdB a b c mode)]) ∧ Bl w w' := by
  cases ha : rightB a
  · have x := md_bad a b c mode (mdG_bad (.inl ha))
    rw [x.1, x.2]
    exact refMulDiv_bad a b c mode w (.inl ha)
  cases hb : rightB b
  · have x := md_bad a b c mode (mdG_bad (.inr (.inl hb)))
    rw [x.1, x.2]
    exact refMulDiv_bad a b c mode w (.inr (.inl ⟨ha, hb⟩))
  cases hc : rightB c
  · have x := md_bad a b c mode (mdG_bad (.inr (.inr hc)))
    rw [x.1, x.2]
    exact refMulDiv_bad a b c mode w (.inr (.inr (.inl ⟨ha, hb, hc⟩)))
  cases hz : (c == 0)
  case true =>
    have x := md_bad a b c mode (by unfold mdG; rw [hz]; simp)
    rw [x.1, x.2]
    exact refMulDiv_bad a b c mode w (.inr (.inr (.inr (.inl ⟨ha, hb, hc, hz⟩))))
  case false =>
    by_cases hm : 0 ≤ mode ∧ mode ≤ 2
    · have hg : mdG a b c mode = true := by unfold mdG; rw [ha, hb, hc, hz, mode_of (by omega)]; rfl
      have := refMulDiv_good a b c mode ha hb hc hz hm.1 hm.2 w
      unfold mdN mdB
      rw [hg, if_pos rfl, Bool.true_and]
      exact this
    · have hmb : modeB mode = false := by
        unfold modeB
        rw [decide_eq_false (by omega), decide_eq_false (by omega), decide_eq_false (by omega)]; rfl
      have x := md_bad a b c mode (by unfold mdG; rw [hmb]; simp)
      rw [x.1, x.2]
      rcases (by omega : mode < 0 ∨ 2 < mode) with k | k
      · exact refMulDiv_bad a b c mode w (.inr (.inr (.inr (.inr (.inl ⟨ha, hb, hc, hz, k⟩)))))
      · exact refMulDiv_bad a b c mode w (.inr (.inr (.inr (.inr (.inr ⟨ha, hb, hc, hz, k⟩)))))

end Go.Proofs.YthnadgbloamlaaaGreat
