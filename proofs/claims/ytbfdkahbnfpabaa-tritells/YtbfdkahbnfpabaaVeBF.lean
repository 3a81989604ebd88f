/- Contracts of vec's Scale, Clone, and of what is done of a pair, of fractions (layer 5). Written by genVe.py. -/
import Derived.Test.YtbfdkahbnfpabaaVeAF
namespace Go.Proofs.Ytbfdkahbnfpabaa
open Go.RowKit
set_option linter.unusedSimpArgs false
set_option linter.unusedVariables false

theorem dAddF (a b : Fr) (w : World) :
    Calls Try.prog 82 #[frV a, frV b] w fun e w' => e = .returned (frV (addR a b)) ∧ Bl w w' := by
  have iv := Try.mAddF
  obtain ⟨W, X⟩ := threeR_ex w a b
  have T := hideP (radd_any a b)
  have HX := hideP X
  clear X
  generalize addR a b = r at *
  go_enter Try.func82, Try.ntmps82
  go_wp2_with fail
  rw [← HX.out.eq]
  refine (T.out _).mono ?_
  rintro e w1 ⟨rfl, h1⟩
  obtain ⟨c0, c1, c2, f0, f1, f2, lt⟩ := HX.out.bz.later h1
  clear iv
  go_wp2
  simp [bodyPost, results, Try.results82, go_sem, c0, c1, c2]
  exact Bl.set3 (HX.out.bl.trans h1) (by omega) _ _ _

theorem dSubF (a b : Fr) (w : World) :
    Calls Try.prog 83 #[frV a, frV b] w fun e w' => e = .returned (frV (subR a b)) ∧ Bl w w' := by
  have iv := Try.mSubF
  obtain ⟨W, X⟩ := threeR_ex w a b
  have T := hideP (rsub_any a b)
  have HX := hideP X
  clear X
  generalize subR a b = r at *
  go_enter Try.func83, Try.ntmps83
  go_wp2_with fail
  rw [← HX.out.eq]
  refine (T.out _).mono ?_
  rintro e w1 ⟨rfl, h1⟩
  obtain ⟨c0, c1, c2, f0, f1, f2, lt⟩ := HX.out.bz.later h1
  clear iv
  go_wp2
  simp [bodyPost, results, Try.results83, go_sem, c0, c1, c2]
  exact Bl.set3 (HX.out.bl.trans h1) (by omega) _ _ _

theorem dMulF (a b : Fr) (w : World) :
    Calls Try.prog 47 #[frV a, frV b] w fun e w' => e = .returned (frV (mulR a b)) ∧ Bl w w' := by
  have iv := Try.mMulF
  obtain ⟨W, X⟩ := threeR_ex w a b
  have T := hideP (rmul_any a b)
  have HX := hideP X
  clear X
  generalize mulR a b = r at *
  go_enter Try.func47, Try.ntmps47
  go_wp2_with fail
  rw [← HX.out.eq]
  refine (T.out _).mono ?_
  rintro e w1 ⟨rfl, h1⟩
  obtain ⟨c0, c1, c2, f0, f1, f2, lt⟩ := HX.out.bz.later h1
  clear iv
  go_wp2
  simp [bodyPost, results, Try.results47, go_sem, c0, c1, c2]
  exact Bl.set3 (HX.out.bl.trans h1) (by omega) _ _ _

end Go.Proofs.Ytbfdkahbnfpabaa
