/- The walk of WideModes. -/
import Derived.Test.YtljmggemdkfbiaaGreatLawB
namespace Go.Proofs.YtljmggemdkfbiaaGreat
open Go.RowKit
set_option linter.unusedSimpArgs false
set_option linter.unusedVariables false

theorem rdN_of {c : Int} (b : Bool) (h : rdB c = true) : rdN c b = if b then -c else c := by
  unfold rdB at h
  unfold rdN
  rw [if_neg (by have := of_decide_eq_true h; omega)]
theorem out_down (q r d : Int) (b : Bool) : outB q r d b 1 = (b && decide (0 < r)) := by simp [outB]
theorem out_up (q r d : Int) (b : Bool) : outB q r d b 2 = (!b && decide (0 < r)) := by simp [outB]

theorem md_order (a b c : Int) (h1 : mdB a b c 1 = true) (h0 : mdB a b c 0 = true) (h2 : mdB a b c 2 = true) :
    mdN a b c 1 ≤ mdN a b c 0 ∧ mdN a b c 0 ≤ mdN a b c 2 ∧ mdN a b c 2 ≤ mdN a b c 1 + 1 := by
  unfold mdB at h1 h0 h2
  rw [Bool.and_eq_true] at h1 h0 h2
  obtain ⟨g1, k1⟩ := h1
  obtain ⟨g0, k0⟩ := h0
  obtain ⟨g2, k2⟩ := h2
  unfold mdN
  rw [g1, g0, g2, if_pos rfl, if_pos rfl, if_pos rfl, rdN_of _ k1, rdN_of _ k0, rdN_of _ k2]
  have hz : c ≠ 0 := by
    intro e
    rw [e] at g0
    simp [mdG] at g0
  have hd : 0 < szI c := by unfold szI; split <;> omega
  have hr : 0 ≤ szI a * szI b % szI c := Int.emod_nonneg _ (by omega)
  clear k1 k0 k2 g1 g0 g2
  unfold mdC
  rw [out_down, out_up]
  have ho : szI a * szI b % szI c = 0 → outB (szI a * szI b / szI c) (szI a * szI b % szI c) (szI c) (belB a b c) 0 = false := by
    intro h
    rw [h]; exact outB_zero _ _ _ _ hd
  generalize outB (szI a * szI b / szI c) (szI a * szI b % szI c) (szI c) (belB a b c) 0 = o at *
  generalize belB a b c = bl at *
  generalize szI a * szI b / szI c = q at *
  generalize szI a * szI b % szI c = r at *
  by_cases h : 0 < r
  · rw [decide_eq_true h]
    cases bl <;> cases o <;> simp [upI] <;> omega
  · rw [decide_eq_false h, ho (by omega)]
    cases bl <;> simp [upI] <;> omega

end Go.Proofs.YtljmggemdkfbiaaGreat
