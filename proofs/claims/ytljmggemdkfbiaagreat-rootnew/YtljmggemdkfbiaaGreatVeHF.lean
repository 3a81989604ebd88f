/- Contracts of vec's Add, Sub, Dot, of fractions (layer 5). Written by genVe.py. -/
import Derived.Test.YtljmggemdkfbiaaGreatVeFF
namespace Go.Proofs.YtljmggemdkfbiaaGreat
open Go.RowKit Go.Shelf
set_option linter.unusedSimpArgs false
set_option linter.unusedVariables false

theorem vAddF' (va vb : Value) (xs ys : List Fr) (w : World) (ha : Rq 3 cellsF w va xs) (hb : Rq 3 cellsF w vb ys) (hl : xs.length ≤ 1000000) (hm : ys.length ≤ 1000000) :
    Calls Tryz.prog 49 #[va, vb] w fun e w' => ∃ u, e = .returned u ∧ Rw 3 cellsF w' u (List.zipWith addR xs ys) ∧ Fresh w.heap.size u ∧ Bl w w' := by
  have E := hideP (eachF' 95 addR dAddF (enters_of Tryz.func95 (by kernel_rfl) rfl) va vb xs ys w ha hb hl hm)
  clear ha hb
  go_enter Tryz.func49, Tryz.ntmps49
  go_wp2_with fail
  refine E.out.mono ?_
  rintro e w1 ⟨u, rfl, hr, hf, h1⟩
  go_wp2
  go_ret
  exact ⟨_, rfl, hr, hf, h1⟩
theorem vAddF (va vb : Value) (xs ys : List Fr) (w : World) (ha : Rq 3 cellsF w va xs) (hb : Rq 3 cellsF w vb ys) (hl : xs.length ≤ 1000000) (hm : ys.length ≤ 1000000) :
    Calls Tryz.prog 49 #[va, vb] w fun e w' => ∃ u, e = .returned u ∧ Rw 3 cellsF w' u (List.zipWith addR xs ys) ∧ Bl w w' :=
  (vAddF' va vb xs ys w ha hb hl hm).mono fun _ _ ⟨u, h1, h2, _, h3⟩ => ⟨u, h1, h2, h3⟩

theorem vSubF' (va vb : Value) (xs ys : List Fr) (w : World) (ha : Rq 3 cellsF w va xs) (hb : Rq 3 cellsF w vb ys) (hl : xs.length ≤ 1000000) (hm : ys.length ≤ 1000000) :
    Calls Tryz.prog 135 #[va, vb] w fun e w' => ∃ u, e = .returned u ∧ Rw 3 cellsF w' u (List.zipWith subR xs ys) ∧ Fresh w.heap.size u ∧ Bl w w' := by
  have E := hideP (eachF' 153 subR dSubF (enters_of Tryz.func153 (by kernel_rfl) rfl) va vb xs ys w ha hb hl hm)
  clear ha hb
  go_enter Tryz.func135, Tryz.ntmps135
  go_wp2_with fail
  refine E.out.mono ?_
  rintro e w1 ⟨u, rfl, hr, hf, h1⟩
  go_wp2
  go_ret
  exact ⟨_, rfl, hr, hf, h1⟩
theorem vSubF (va vb : Value) (xs ys : List Fr) (w : World) (ha : Rq 3 cellsF w va xs) (hb : Rq 3 cellsF w vb ys) (hl : xs.length ≤ 1000000) (hm : ys.length ≤ 1000000) :
    Calls Tryz.prog 135 #[va, vb] w fun e w' => ∃ u, e = .returned u ∧ Rw 3 cellsF w' u (List.zipWith subR xs ys) ∧ Bl w w' :=
  (vSubF' va vb xs ys w ha hb hl hm).mono fun _ _ ⟨u, h1, h2, _, h3⟩ => ⟨u, h1, h2, h3⟩

/-- The sum of the products of all pairs. -/
def dotF (xs ys : List Fr) : Fr := sumF (List.zipWith mulR xs ys)
theorem vDotF (va vb : Value) (xs ys : List Fr) (w : World) (ha : Rq 3 cellsF w va xs) (hb : Rq 3 cellsF w vb ys) (hl : xs.length ≤ 1000000) (hm : ys.length ≤ 1000000) :
    Calls Tryz.prog 47 #[va, vb] w fun e w' => e = .returned (frV (dotF xs ys)) ∧ Bl w w' := by
  obtain ⟨W, hW⟩ : ∃ W, W = w.alloc (.cells #[.int .i64 0, .int .i64 0, .bool false] 34) := ⟨_, rfl⟩
  have b0 : Bl w W := by rw [hW]; exact (Bl.refl _).alloc _
  have x0 : FBox W w.heap.size zeroR := by rw [hW]; exact FBox.new w zeroR _
  have E := hideP (eachF 94 mulR dMulF (enters_of Tryz.func94 (by kernel_rfl) rfl) va vb xs ys W (ha.later b0) (hb.later b0) hl hm)
  have HL := hideP (show (List.zipWith mulR xs ys).length ≤ 1000000 by simp; omega)
  generalize hr0 : dotF xs ys = r
  have HR0 := hideP hr0
  clear hr0
  have HW := hideP hW
  clear ha hb hW
  go_enter Tryz.func47, Tryz.ntmps47
  go_wp2_with fail
  rw [← HW.out]
  refine E.out.mono ?_
  rintro e w1 ⟨u, rfl, hr, h1⟩
  have S0 := vsumF u _ w1 hr.q HL.out
  rw [show sumF (List.zipWith mulR xs ys) = r from HR0.out] at S0
  have S := hideP S0
  clear hr S0
  go_wp2_with fail
  refine S.out.mono ?_
  rintro e w2 ⟨rfl, h2⟩
  obtain ⟨c0, c1, c2, f0, f1, f2, lt⟩ := x0.later (h1.trans h2)
  go_wp2
  simp [bodyPost, results, Tryz.results47, go_sem, c0, c1, c2]
  exact Bl.set3 (b0.trans (h1.trans h2)) (Nat.le_refl _) _ _ _
end Go.Proofs.YtljmggemdkfbiaaGreat
