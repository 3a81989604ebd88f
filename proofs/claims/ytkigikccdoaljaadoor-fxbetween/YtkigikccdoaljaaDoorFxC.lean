/- The walk of FxBetween. -/
import Derived.Test.YtkigikccdoaljaaDoorFxB
namespace Go.Proofs.YtkigikccdoaljaaDoor
open Go.RowKit
set_option linter.unusedSimpArgs false
set_option linter.unusedVariables false

set_option maxHeartbeats 1000000 in
theorem walk_FxBetween (a b : Int) (w : World) (ht : PowTab w) :
    Calls Tryd.prog 8 #[.int .i64 a, .int .i64 b] w fun e w' => e = .returned (.bool true) ∧ Bl w w' := by
  have HP := hideP ht
  clear ht
  obtain ⟨W, hW⟩ : ∃ W, W = (w.alloc (.cells #[.int .i64 a] 3)).alloc (.cells #[.int .i64 b] 3) := ⟨_, rfl⟩
  have b0 : Bl w W := by rw [hW]; exact ((Bl.refl _).alloc _).alloc _
  have c0 : W.cell? ⟨w.heap.size, 0, none⟩ = some (.int .i64 a) := by rw [hW]; simp [go_sem, World.cell?_alloc_past]
  have c1 : W.cell? ⟨w.heap.size + 1, 0, none⟩ = some (.int .i64 b) := by rw [hW]; simp [go_sem]
  have l1 : w.heap.size + 1 < W.heap.size := by rw [hW]; simp
  have l0 : w.heap.size < W.heap.size := by omega
  have HW := hideP hW
  have HC := hideP (And.intro c0 c1)
  clear hW c0 c1
  go_enter Tryd.func8, Tryd.ntmps8
  go_wp2_with fail
  rw [← HW.out]
  refine (btwMul a b _ _ W HC.out.1 HC.out.2 l0 l1).mono ?_
  rintro e w1 ⟨rfl, h1⟩
  have s1 := Below.size h1
  have HB1 := hideP h1
  clear h1
  go_wp2_with fail
  refine (btwDiv a b _ _ w1 (by rw [bl_cell HB1.out _ _ l0]; exact HC.out.1) (by rw [bl_cell HB1.out _ _ l1]; exact HC.out.2) (by omega) (by omega)).mono ?_
  rintro e w2 ⟨rfl, h2⟩
  have HB2 := hideP (HB1.out.trans h2)
  have s2 := Below.size h2
  clear h2
  go_wp2_with fail
  refine (btwRoot a _ w2 (by rw [bl_cell HB2.out _ _ l0]; exact HC.out.1) (by omega)).mono ?_
  rintro e w3 ⟨rfl, h3⟩
  have HB3 := hideP (b0.trans (HB2.out.trans h3))
  clear h3
  go_wp2_with fail
  refine (awake2_any _ (HP.out.later HB3.out)).mono ?_
  rintro e w7 ⟨rfl, h7⟩
  go_wp2
  go_ret
  exact ⟨rfl, HB3.out.trans h7⟩
end Go.Proofs.YtkigikccdoaljaaDoor
