/- Contracts of vec's Add, Sub, Dot, of enclosed numbers (layer 5). Written by genVe.py. -/
import Derived.Test.YtfbioinmgchdcaaVeFN
namespace Go.Proofs.Ytfbioinmgchdcaa
open Go.RowKit Go.Shelf
set_option linter.unusedSimpArgs false
set_option linter.unusedVariables false

/-- The sum of the products of all pairs. -/
def dotN (xs ys : List En) : En := sumN (List.zipWith mulE xs ys)
theorem vDotN (va vb : Value) (xs ys : List En) (w : World) (ha : Rq 4 cellsN w va xs) (hb : Rq 4 cellsN w vb ys) (hl : xs.length ≤ 1000000) (hm : ys.length ≤ 1000000) :
    Calls Try.prog 19 #[va, vb] w fun e w' => e = .returned (enV (dotN xs ys)) ∧ Bl w w' := by
  obtain ⟨W, hW⟩ : ∃ W, W = w.alloc (.cells #[.int .i64 0, .int .i64 0, .int .i64 0, .bool false] 37) := ⟨_, rfl⟩
  have b0 : Bl w W := by rw [hW]; exact (Bl.refl _).alloc _
  have x0 : Box W w.heap.size zeroE := by rw [hW]; exact Box.new w zeroE _
  have E := hideP (eachN 38 mulE dMulN (enters_of Try.func38 (by kernel_rfl) rfl) va vb xs ys W (ha.later b0) (hb.later b0) hl hm)
  have HL := hideP (show (List.zipWith mulE xs ys).length ≤ 1000000 by simp; omega)
  generalize hr0 : dotN xs ys = r
  have HR0 := hideP hr0
  clear hr0
  have HW := hideP hW
  clear ha hb hW
  go_enter Try.func19, Try.ntmps19
  go_wp2_with fail
  rw [← HW.out]
  refine E.out.mono ?_
  rintro e w1 ⟨u, rfl, hr, h1⟩
  have S0 := vsumN u _ w1 hr.q HL.out
  rw [show sumN (List.zipWith mulE xs ys) = r from HR0.out] at S0
  have S := hideP S0
  clear hr S0
  go_wp2_with fail
  refine S.out.mono ?_
  rintro e w2 ⟨rfl, h2⟩
  obtain ⟨c0, c1, c2, c3, f0, f1, f2, f3, lt⟩ := x0.later (h1.trans h2)
  go_wp2
  simp [bodyPost, results, Try.results19, go_sem, c0, c1, c2, c3]
  exact Bl.set4 (b0.trans (h1.trans h2)) (Nat.le_refl _) _ _ _ _
end Go.Proofs.Ytfbioinmgchdcaa
