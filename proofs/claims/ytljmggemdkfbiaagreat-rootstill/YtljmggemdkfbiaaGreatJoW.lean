/- awake of layer 9's laws. Written by genJw.py. -/
import Derived.Test.YtljmggemdkfbiaaGreatJoHF
import Derived.Test.YtljmggemdkfbiaaGreatMaI
import Derived.Test.YtljmggemdkfbiaaGreatWlr
namespace Go.Proofs.YtljmggemdkfbiaaGreat
open Go.RowKit
set_option linter.unusedSimpArgs false
set_option linter.unusedVariables false

theorem Tryz.build1J (x : Int) (u : World) : (Instr.buildSlice 22 1 #[(0, .int .i64 x)]).run Tryz.prog u = .ok (.slice (some ⟨u.heap.size, 0, none⟩) 1 1) (u.alloc (.cells #[.int .i64 x] 3)) := by kernel_rfl
theorem rq_one9 (u : World) (x : Int) (t : TypeId) : Rq 1 cI (u.alloc (.cells #[.int .i64 x] t)) (.slice (some ⟨u.heap.size, 0, none⟩) 1 1) (linJ 1 fun _ => x) := by
  refine .inr ⟨u.heap.size, 0, 1, rfl, Nat.le_refl _, by simp, fun j v hj k s hu => ?_⟩
  rcases j with _ | j
  · simp [linJ] at hj
    subst hj
    rcases k with _ | k
    · simp at hu
      subst hu
      simp [go_sem]
    · simp at hu
  · simp [linJ] at hj
theorem whole11 (w : World) (t : TypeId) (b0 : Nat) (hb0 : b0 = w.heap.size) : Calls Tryz.prog 12 #[.int .i64 1, .int .i64 1, .slice (some ⟨b0, 0, none⟩) 1 1] (w.alloc (.cells #[.int .i64 1] t))
    fun e w' => ∃ p' cap', e = .returned (.tuple #[mV 1 1 p' 1 cap', .bool true]) ∧ Mx 3 cellsF w' 1 1 p' 1 cap' (fun _ _ => itF 1) ∧ Bl (w.alloc (.cells #[.int .i64 1] t)) w' := by
  subst hb0
  refine (mWholeF 1 1 _ 1 1 [1] _ (rq_one9 w 1 t) (by decide) rfl).mono ?_
  rintro e w' ⟨p', cap', rfl, hr, hb⟩
  exact ⟨p', cap', rfl, ⟨⟨by omega, by omega, by omega, by omega⟩, rfl, hr.q⟩, hb⟩
theorem ex9_x : (upXJ kdF 1 (fun _ => wholeF 0) (squareJ kdF 1 fun _ _ => itF 1) (fun _ => wholeF 1) (newR 1 1) (newR 2 1)) 0 = newR 1 1 := by kernel_rfl
theorem ex9_p : (upPJ kdF (fun i j => wholeF (unitI i j)) 1 (squareJ kdF 1 fun _ _ => itF 1) (fun _ => wholeF 1) (newR 1 1)) 0 0 = newR 1 2 := by kernel_rfl
theorem ex9_a : spreadJ kdF 1 (squareJ kdF 1 fun _ _ => itF 1) (fun _ => wholeF 1) (newR 1 1) = newR 2 1 := by kernel_rfl
theorem rw_cells9F {w : World} {p : Option Addr} {n cap : Nat} {x : Nat → Fr} (h : Rw 3 cellsF w (.slice p n cap) (linJ n x)) (h1 : 1 ≤ n) : ∃ g o, p = some ⟨g, o, none⟩ ∧ ∀ u, Bl w u → ∀ k, k < n → u.cell? ⟨g, o + k * 3, none⟩ = some (.int .i64 (x k).n) ∧ u.cell? ⟨g, o + k * 3 + 1, none⟩ = some (.int .i64 (x k).d) ∧ u.cell? ⟨g, o + k * 3 + 2, none⟩ = some (.bool (x k).bad) := by
  rcases h with ⟨_, e⟩ | ⟨g, o, c, e, _, hlt, hx⟩
  · have := congrArg List.length e
    rw [linJ_len] at this
    simp at this
    omega
  · simp only [Value.slice.injEq] at e
    refine ⟨g, o, e.1, fun u hu k hk => ?_⟩
    have H := fun i v (hi : (cellsF (x k))[i]? = some v) => (bl_cell hu _ _ hlt).trans (hx k _ (linJ_get x hk) i v hi)
    exact ⟨H 0 _ rfl, H 1 _ rfl, H 2 _ rfl⟩
end Go.Proofs.YtljmggemdkfbiaaGreat
