/- Contracts of vec's Scale, Clone, and of what is done of a pair, of fractions (layer 5). Written by genVe.py. -/
import Derived.Test.YtbfdkahbnfpabaaGreatVeAF
namespace Go.Proofs.YtbfdkahbnfpabaaGreat
open Go.RowKit
set_option linter.unusedSimpArgs false
set_option linter.unusedVariables false

theorem dAddF (a b : Fr) (w : World) :
    Calls Tryz.prog 114 #[frV a, frV b] w fun e w' => e = .returned (frV (addR a b)) ∧ Bl w w' := by
  have iv := Tryz.mAddF
  obtain ⟨W, X⟩ := threeR_ex w a b
  have T := hideP (radd_any a b)
  have HX := hideP X
  clear X
  generalize addR a b = r at *
  go_enter Tryz.func114, Tryz.ntmps114
  go_wp2_with fail
  rw [← HX.out.eq]
  refine (T.out _).mono ?_
  rintro e w1 ⟨rfl, h1⟩
  obtain ⟨c0, c1, c2, f0, f1, f2, lt⟩ := HX.out.bz.later h1
  clear iv
  go_wp2
  simp [bodyPost, results, Tryz.results114, go_sem, c0, c1, c2]
  exact Bl.set3 (HX.out.bl.trans h1) (by omega) _ _ _

theorem dSubF (a b : Fr) (w : World) :
    Calls Tryz.prog 117 #[frV a, frV b] w fun e w' => e = .returned (frV (subR a b)) ∧ Bl w w' := by
  have iv := Tryz.mSubF
  obtain ⟨W, X⟩ := threeR_ex w a b
  have T := hideP (rsub_any a b)
  have HX := hideP X
  clear X
  generalize subR a b = r at *
  go_enter Tryz.func117, Tryz.ntmps117
  go_wp2_with fail
  rw [← HX.out.eq]
  refine (T.out _).mono ?_
  rintro e w1 ⟨rfl, h1⟩
  obtain ⟨c0, c1, c2, f0, f1, f2, lt⟩ := HX.out.bz.later h1
  clear iv
  go_wp2
  simp [bodyPost, results, Tryz.results117, go_sem, c0, c1, c2]
  exact Bl.set3 (HX.out.bl.trans h1) (by omega) _ _ _

theorem dMulF (a b : Fr) (w : World) :
    Calls Tryz.prog 56 #[frV a, frV b] w fun e w' => e = .returned (frV (mulR a b)) ∧ Bl w w' := by
  have iv := Tryz.mMulF
  obtain ⟨W, X⟩ := threeR_ex w a b
  have T := hideP (rmul_any a b)
  have HX := hideP X
  clear X
  generalize mulR a b = r at *
  go_enter Tryz.func56, Tryz.ntmps56
  go_wp2_with fail
  rw [← HX.out.eq]
  refine (T.out _).mono ?_
  rintro e w1 ⟨rfl, h1⟩
  obtain ⟨c0, c1, c2, f0, f1, f2, lt⟩ := HX.out.bz.later h1
  clear iv
  go_wp2
  simp [bodyPost, results, Tryz.results56, go_sem, c0, c1, c2]
  exact Bl.set3 (HX.out.bl.trans h1) (by omega) _ _ _

end Go.Proofs.YtbfdkahbnfpabaaGreat
