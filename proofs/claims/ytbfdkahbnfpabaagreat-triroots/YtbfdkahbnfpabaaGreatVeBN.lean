/- Contracts of vec's Scale, Clone, and of what is done of a pair, of enclosed numbers (layer 5). Written by genVe.py. -/
import Derived.Test.YtbfdkahbnfpabaaGreatVeAN
namespace Go.Proofs.YtbfdkahbnfpabaaGreat
open Go.RowKit
set_option linter.unusedSimpArgs false
set_option linter.unusedVariables false

theorem dAddN (a b : En) (w : World) :
    Calls Tryz.prog 141 #[enV a, enV b] w fun e w' => e = .returned (enV (addE a b)) ∧ Bl w w' := by
  have iv := Tryz.mAddN
  obtain ⟨W, X⟩ := three_ex w a b
  have T := hideP (eadd_any a b)
  have HX := hideP X
  clear X
  generalize addE a b = r at *
  go_enter Tryz.func141, Tryz.ntmps141
  go_wp2_with fail
  rw [← HX.out.eq]
  refine (T.out _).mono ?_
  rintro e w1 ⟨rfl, h1⟩
  obtain ⟨c0, c1, c2, c3, f0, f1, f2, f3, lt⟩ := HX.out.bz.later h1
  clear iv
  go_wp2
  simp [bodyPost, results, Tryz.results141, go_sem, c0, c1, c2, c3]
  exact Bl.set4 (HX.out.bl.trans h1) (by omega) _ _ _ _

theorem dSubN (a b : En) (w : World) :
    Calls Tryz.prog 142 #[enV a, enV b] w fun e w' => e = .returned (enV (subE a b)) ∧ Bl w w' := by
  have iv := Tryz.mSubN
  obtain ⟨W, X⟩ := three_ex w a b
  have T := hideP (esub_any a b)
  have HX := hideP X
  clear X
  generalize subE a b = r at *
  go_enter Tryz.func142, Tryz.ntmps142
  go_wp2_with fail
  rw [← HX.out.eq]
  refine (T.out _).mono ?_
  rintro e w1 ⟨rfl, h1⟩
  obtain ⟨c0, c1, c2, c3, f0, f1, f2, f3, lt⟩ := HX.out.bz.later h1
  clear iv
  go_wp2
  simp [bodyPost, results, Tryz.results142, go_sem, c0, c1, c2, c3]
  exact Bl.set4 (HX.out.bl.trans h1) (by omega) _ _ _ _

theorem dMulN (a b : En) (w : World) :
    Calls Tryz.prog 61 #[enV a, enV b] w fun e w' => e = .returned (enV (mulE a b)) ∧ Bl w w' := by
  have iv := Tryz.mMulN
  obtain ⟨W, X⟩ := three_ex w a b
  have T := hideP (emul_any a b)
  have HX := hideP X
  clear X
  generalize mulE a b = r at *
  go_enter Tryz.func61, Tryz.ntmps61
  go_wp2_with fail
  rw [← HX.out.eq]
  refine (T.out _).mono ?_
  rintro e w1 ⟨rfl, h1⟩
  obtain ⟨c0, c1, c2, c3, f0, f1, f2, f3, lt⟩ := HX.out.bz.later h1
  clear iv
  go_wp2
  simp [bodyPost, results, Tryz.results61, go_sem, c0, c1, c2, c3]
  exact Bl.set4 (HX.out.bl.trans h1) (by omega) _ _ _ _

end Go.Proofs.YtbfdkahbnfpabaaGreat
