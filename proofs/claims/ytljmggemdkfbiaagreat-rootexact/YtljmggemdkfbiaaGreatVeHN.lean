/- Contracts of vec's Add, Sub, Dot, of enclosed numbers (layer 5). Written by genVe.py. -/
import Derived.Test.YtljmggemdkfbiaaGreatVeFN
namespace Go.Proofs.YtljmggemdkfbiaaGreat
open Go.RowKit Go.Shelf
set_option linter.unusedSimpArgs false
set_option linter.unusedVariables false

theorem vAddN' (va vb : Value) (xs ys : List En) (w : World) (ha : Rq 4 cellsN w va xs) (hb : Rq 4 cellsN w vb ys) (hl : xs.length ≤ 1000000) (hm : ys.length ≤ 1000000) :
    Calls Tryz.prog 77 #[va, vb] w fun e w' => ∃ u, e = .returned u ∧ Rw 4 cellsN w' u (List.zipWith addE xs ys) ∧ Fresh w.heap.size u ∧ Bl w w' := by
  have E := hideP (eachN' 123 addE dAddN (enters_of Tryz.func123 (by kernel_rfl) rfl) va vb xs ys w ha hb hl hm)
  clear ha hb
  go_enter Tryz.func77, Tryz.ntmps77
  go_wp2_with fail
  refine E.out.mono ?_
  rintro e w1 ⟨u, rfl, hr, hf, h1⟩
  go_wp2
  go_ret
  exact ⟨_, rfl, hr, hf, h1⟩
theorem vAddN (va vb : Value) (xs ys : List En) (w : World) (ha : Rq 4 cellsN w va xs) (hb : Rq 4 cellsN w vb ys) (hl : xs.length ≤ 1000000) (hm : ys.length ≤ 1000000) :
    Calls Tryz.prog 77 #[va, vb] w fun e w' => ∃ u, e = .returned u ∧ Rw 4 cellsN w' u (List.zipWith addE xs ys) ∧ Bl w w' :=
  (vAddN' va vb xs ys w ha hb hl hm).mono fun _ _ ⟨u, h1, h2, _, h3⟩ => ⟨u, h1, h2, h3⟩

theorem vSubN' (va vb : Value) (xs ys : List En) (w : World) (ha : Rq 4 cellsN w va xs) (hb : Rq 4 cellsN w vb ys) (hl : xs.length ≤ 1000000) (hm : ys.length ≤ 1000000) :
    Calls Tryz.prog 163 #[va, vb] w fun e w' => ∃ u, e = .returned u ∧ Rw 4 cellsN w' u (List.zipWith subE xs ys) ∧ Fresh w.heap.size u ∧ Bl w w' := by
  have E := hideP (eachN' 166 subE dSubN (enters_of Tryz.func166 (by kernel_rfl) rfl) va vb xs ys w ha hb hl hm)
  clear ha hb
  go_enter Tryz.func163, Tryz.ntmps163
  go_wp2_with fail
  refine E.out.mono ?_
  rintro e w1 ⟨u, rfl, hr, hf, h1⟩
  go_wp2
  go_ret
  exact ⟨_, rfl, hr, hf, h1⟩
theorem vSubN (va vb : Value) (xs ys : List En) (w : World) (ha : Rq 4 cellsN w va xs) (hb : Rq 4 cellsN w vb ys) (hl : xs.length ≤ 1000000) (hm : ys.length ≤ 1000000) :
    Calls Tryz.prog 163 #[va, vb] w fun e w' => ∃ u, e = .returned u ∧ Rw 4 cellsN w' u (List.zipWith subE xs ys) ∧ Bl w w' :=
  (vSubN' va vb xs ys w ha hb hl hm).mono fun _ _ ⟨u, h1, h2, _, h3⟩ => ⟨u, h1, h2, h3⟩

/-- The sum of the products of all pairs. -/
def dotN (xs ys : List En) : En := sumN (List.zipWith mulE xs ys)
theorem vDotN (va vb : Value) (xs ys : List En) (w : World) (ha : Rq 4 cellsN w va xs) (hb : Rq 4 cellsN w vb ys) (hl : xs.length ≤ 1000000) (hm : ys.length ≤ 1000000) :
    Calls Tryz.prog 76 #[va, vb] w fun e w' => e = .returned (enV (dotN xs ys)) ∧ Bl w w' := by
  obtain ⟨W, hW⟩ : ∃ W, W = w.alloc (.cells #[.int .i64 0, .int .i64 0, .int .i64 0, .bool false] 52) := ⟨_, rfl⟩
  have b0 : Bl w W := by rw [hW]; exact (Bl.refl _).alloc _
  have x0 : Box W w.heap.size zeroE := by rw [hW]; exact Box.new w zeroE _
  have E := hideP (eachN 122 mulE dMulN (enters_of Tryz.func122 (by kernel_rfl) rfl) va vb xs ys W (ha.later b0) (hb.later b0) hl hm)
  have HL := hideP (show (List.zipWith mulE xs ys).length ≤ 1000000 by simp; omega)
  generalize hr0 : dotN xs ys = r
  have HR0 := hideP hr0
  clear hr0
  have HW := hideP hW
  clear ha hb hW
  go_enter Tryz.func76, Tryz.ntmps76
  go_wp2_with fail
  rw [← HW.out]
  refine E.out.mono ?_
  rintro e w1 ⟨u, rfl, hr, h1⟩
  have S0 := vsumN u _ w1 hr.q HL.out
  rw [show sumN (List.zipWith mulE xs ys) = r from HR0.out] at S0
  have S := hideP S0
  clear hr S0
  go_wp2_with fail
  refine S.out.mono ?_
  rintro e w2 ⟨rfl, h2⟩
  obtain ⟨c0, c1, c2, c3, f0, f1, f2, f3, lt⟩ := x0.later (h1.trans h2)
  go_wp2
  simp [bodyPost, results, Tryz.results76, go_sem, c0, c1, c2, c3]
  exact Bl.set4 (b0.trans (h1.trans h2)) (Nat.le_refl _) _ _ _ _
end Go.Proofs.YtljmggemdkfbiaaGreat
