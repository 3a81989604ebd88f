/- The walk of WideCompares. -/
import Derived.Test.YtgkggdljehgdiaaRefC
import Derived.Test.YtgkggdljehgdiaaLawA
namespace Go.Proofs.Ytgkggdljehgdiaa
open Go.RowKit
set_option linter.unusedSimpArgs false
set_option linter.unusedVariables false

theorem cmpI_swap (x y : Int) : cmpI y x = -(cmpI x y) := by
  rcases cmpI_three x y with ⟨h, e⟩ | ⟨h, e⟩ | ⟨h, e⟩ <;> rw [e]
  · exact cmpI_gt h
  · exact cmpI_eq h.symm
  · exact cmpI_lt h

set_option maxHeartbeats 1000000 in
theorem walk_WideCompares (a b c d : Int) (w : World) :
    Calls Try.prog 4 #[.int .i64 a, .int .i64 b, .int .i64 c, .int .i64 d] w fun e w' => e = .returned (.bool true) ∧ Bl w w' := by
  have M := compare_any a b c d
  by_cases hg : rightB a = true ∧ rightB b = true ∧ rightB c = true ∧ rightB d = true
  · obtain ⟨ha, hb, hc, hd⟩ := hg
    have N := compare_any c d a b
    have R := fun w => refCompare_any a b c d w ha hb hc hd
    have e1 : cmpS a b c d = cmpI (a * b) (c * d) := by unfold cmpS; rw [ha, hb, hc, hd]; rfl
    have e2 : cmpS c d a b = -(cmpI (a * b) (c * d)) := by unfold cmpS; rw [ha, hb, hc, hd, ← cmpI_swap]; rfl
    rw [e1] at M
    rw [e2] at N
    have B := cmpI_bd (a * b) (c * d)
    generalize cmpI (a * b) (c * d) = n at *
    obtain ⟨B1, B2⟩ := B
    have H1 := hideP M
    have H2 := hideP R
    have H3 := hideP N
    clear M N R e1 e2
    go_enter Try.func4, Try.ntmps4
    go_wp2_with fail
    refine (H1.out _).mono ?_
    rintro e w1 ⟨rfl, h1⟩
    go_wp2_with (go_at_call 14; refine (refRight_any _ _).mono ?_; rintro e w' ⟨rfl, rfl⟩)
    refine (H2.out _).mono ?_
    rintro e w2 ⟨rfl, h2⟩
    go_wp2_with fail
    refine (H3.out _).mono ?_
    rintro e w3 ⟨rfl, h3⟩
    go_wp2_with fail
    refine (awake_any _).mono ?_
    rintro e w4 ⟨rfl, h4⟩
    go_wp2
    go_ret
    exact ⟨rfl, ((h1.trans h2).trans h3).trans h4⟩
  · have e1 : cmpS a b c d = 0 := by
      unfold cmpS
      rw [if_neg]
      simp only [Bool.and_eq_true]
      intro h
      exact hg ⟨h.1.1.1, h.1.1.2, h.1.2, h.2⟩
    rw [e1] at M
    have H1 := hideP M
    clear M e1
    have go : ∀ (ra rb rc rd : Bool), rightB a = ra → rightB b = rb → rightB c = rc → rightB d = rd → (ra = false ∨ (ra = true ∧ rb = false) ∨ (ra = true ∧ rb = true ∧ rc = false) ∨ (ra = true ∧ rb = true ∧ rc = true ∧ rd = false)) → Calls Try.prog 4 #[.int .i64 a, .int .i64 b, .int .i64 c, .int .i64 d] w fun e w' => e = .returned (.bool true) ∧ Bl w w' := by
      intro ra rb rc rd e1 e2 e3 e4 hh
      clear hg
      rcases hh with rfl | ⟨rfl, rfl⟩ | ⟨rfl, rfl, rfl⟩ | ⟨rfl, rfl, rfl, rfl⟩
      all_goals
        go_enter Try.func4, Try.ntmps4
        go_wp2_with fail
        refine (H1.out _).mono ?_
        rintro e w1 ⟨rfl, h1⟩
        go_wp2_with (first
          | (go_at_call 14; refine (refRight_any _ _).mono ?_; rintro e w' ⟨rfl, rfl⟩)
          | (go_at_call 15; refine (awake_any _).mono ?_; rintro e w' ⟨rfl, h5⟩))
        go_ret
        exact ⟨rfl, h1.trans h5⟩
    refine go _ _ _ _ rfl rfl rfl rfl ?_
    cases ha : rightB a <;> cases hb : rightB b <;> cases hc : rightB c <;> cases hd : rightB d <;> simp_all
end Go.Proofs.Ytgkggdljehgdiaa
