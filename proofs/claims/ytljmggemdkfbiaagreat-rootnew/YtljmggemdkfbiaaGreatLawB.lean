/- The walks of WideSigns, WideModes. -/
import Derived.Test.YtljmggemdkfbiaaGreatLawA
namespace Go.Proofs.YtljmggemdkfbiaaGreat
open Go.RowKit
set_option linter.unusedSimpArgs false
set_option linter.unusedVariables false

theorem rdN_neg (c : Int) (b : Bool) : rdN c b = -(rdN c (!b)) := by
  unfold rdN; cases b <;> simp <;> split <;> omega
theorem rdN_zero (b : Bool) : rdN 0 b = 0 := by unfold rdN; cases b <;> simp

/-- With the sign of the product turned, and another mode that goes the other way. -/
theorem md_turn (a b c a' b' m m' : Int) (ha : szI a' = szI a) (hb : szI b' = szI b) (hab : a' * b' = -(a * b)) (hg : mdG a' b' c m' = mdG a b c m)
    (hm : (m = 1 ∧ m' = 2) ∨ (m = 0 ∧ m' = 0)) : mdN a b c m = -(mdN a' b' c m') ∧ mdB a b c m = mdB a' b' c m' := by
  by_cases hz : a * b * c = 0
  · by_cases hc : c = 0
    · have e1 : mdG a b c m = false := by unfold mdG; simp [hc]
      rw [e1] at hg
      have x := md_bad _ _ _ _ e1
      have y := md_bad _ _ _ _ hg
      rw [x.1, x.2, y.1, y.2]
      exact ⟨rfl, rfl⟩
    · have h0 : a * b = 0 := by
        rcases Int.mul_eq_zero.1 hz with h | h
        · exact h
        · exact absurd h hc
      have hd0 : 0 < szI c := by unfold szI; split <;> omega
      have p0 : szI a * szI b = 0 := by rw [szI_mul, h0]; rfl
      have c0 : ∀ bl mm, upI (0 / szI c) (outB (0 / szI c) (0 % szI c) (szI c) bl mm) = 0 := by
        intro bl mm
        rw [Int.zero_ediv, Int.zero_emod, outB_zero _ _ _ _ hd0]; rfl
      unfold mdN mdB mdC
      rw [hg, ha, hb, p0, c0, c0, rdN_zero, rdN_zero]
      exact ⟨by split <;> rfl, rfl⟩
  · have hbl : belB a' b' c = !belB a b c := by
      unfold belB
      rw [hab, Int.neg_mul]
      rcases (by omega : a * b * c < 0 ∨ 0 < a * b * c) with h | h
      · rw [decide_eq_true h, decide_eq_false (by omega)]; rfl
      · rw [decide_eq_false (by omega : ¬ a * b * c < 0), decide_eq_true (by omega)]; rfl
    have hout : ∀ q r d, outB q r d (!belB a b c) m' = outB q r d (belB a b c) m := by
      intro q r d
      rcases hm with ⟨rfl, rfl⟩ | ⟨rfl, rfl⟩
      · simp [outB]
      · simp [outB]
    have hC : mdC a' b' c m' = mdC a b c m := by
      unfold mdC
      rw [ha, hb, hbl, hout]
    unfold mdN mdB
    rw [hg, hC, hbl]
    refine ⟨?_, rfl⟩
    split
    · exact rdN_neg _ _
    · rfl
theorem mdN_bd (a b c m : Int) (hc : 0 ≤ mdC a b c m) : -4611686018427387903 ≤ mdN a b c m ∧ mdN a b c m ≤ 4611686018427387903 := by
  unfold mdN rdN
  split
  · split
    · omega
    · split <;> omega
  · omega
theorem mdC_nn (a b c m : Int) : 0 ≤ mdC a b c m := by
  have h1 := Int.mul_nonneg (szI_nn a) (szI_nn b)
  have h2 := Int.ediv_nonneg h1 (szI_nn c)
  have := upI_le (szI a * szI b / szI c) (outB (szI a * szI b / szI c) (szI a * szI b % szI c) (szI c) (belB a b c) m)
  unfold mdC
  omega
theorem mdG_neg1 (a b c m m' : Int) (hm : modeB m = modeB m') : mdG (-a) b c m' = mdG a b c m := by unfold mdG; rw [right_neg, hm]
theorem mdG_neg2 (a b c m m' : Int) (hm : modeB m = modeB m') : mdG a (-b) c m' = mdG a b c m := by unfold mdG; rw [right_neg, hm]

end Go.Proofs.YtljmggemdkfbiaaGreat
