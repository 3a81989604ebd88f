/- Contracts of vec's Scale, Clone, and of what is done of a pair, of enclosed numbers (layer 5). Written by genVe.py. -/
import Derived.Test.YtfbioinmgchdcaaVeAN
namespace Go.Proofs.Ytfbioinmgchdcaa
open Go.RowKit
set_option linter.unusedSimpArgs false
set_option linter.unusedVariables false

theorem dMulN (a b : En) (w : World) :
    Calls Try.prog 38 #[enV a, enV b] w fun e w' => e = .returned (enV (mulE a b)) ∧ Bl w w' := by
  have iv := Try.mMulN
  obtain ⟨W, X⟩ := three_ex w a b
  have T := hideP (emul_any a b)
  have HX := hideP X
  clear X
  generalize mulE a b = r at *
  go_enter Try.func38, Try.ntmps38
  go_wp2_with fail
  rw [← HX.out.eq]
  refine (T.out _).mono ?_
  rintro e w1 ⟨rfl, h1⟩
  obtain ⟨c0, c1, c2, c3, f0, f1, f2, f3, lt⟩ := HX.out.bz.later h1
  clear iv
  go_wp2
  simp [bodyPost, results, Try.results38, go_sem, c0, c1, c2, c3]
  exact Bl.set4 (HX.out.bl.trans h1) (by omega) _ _ _ _

end Go.Proofs.Ytfbioinmgchdcaa
