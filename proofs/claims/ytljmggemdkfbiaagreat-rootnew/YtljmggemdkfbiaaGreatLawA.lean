/- awake; the walks of WideSquares, WideBack, WideSigns, WideModes. -/
import Derived.Test.YtljmggemdkfbiaaGreatMulDiv
import Derived.Test.YtljmggemdkfbiaaGreatRoot
namespace Go.Proofs.YtljmggemdkfbiaaGreat
open Go.RowKit
set_option linter.unusedSimpArgs false
set_option linter.unusedVariables false

theorem szI_max (n : Int) : szI n = max n (-n) := by unfold szI; split <;> omega
theorem outB_zero (r g : Int) (b : Bool) (m : Int) (h : 0 < g) : outB r 0 g b m = false := by
  unfold outB
  split
  · simp
  · split
    · simp
    · rw [decide_eq_false (by omega : ¬ g < 2 * 0), decide_eq_false (by omega : ¬ 2 * 0 = g)]; rfl
theorem mode_of {m : Int} (h : m = 0 ∨ m = 1 ∨ m = 2) : modeB m = true := by rcases h with rfl | rfl | rfl <;> decide
theorem root_sq (n m : Int) (h : rightB n = true) (hm : modeB m = true) : rtN n n m = szI n ∧ rtB n n m = true := by
  have hs := szI_right h
  have e : szI n = rtF (szI n * szI n) := root_one _ _ hs.1 (Int.le_refl _) (by rw [Int.add_mul, Int.mul_add]; omega)
  have hn : decide (n * n < 0) = false := by
    rw [decide_eq_false_iff_not]
    have e : ∀ n : Int, szI n * szI n = n * n := fun n => by
      unfold szI; split
      · exact Int.neg_mul_neg n n
      · rfl
    have := Int.mul_nonneg hs.1 hs.1
    rw [e] at this
    omega
  have hg : rtG n n m = true := by unfold rtG; rw [h, hn, hm]; rfl
  have hc : rtC n n m = szI n := by
    unfold rtC
    rw [← e, show szI n * szI n - szI n * szI n = 0 by omega, outB_zero _ _ _ _ (by omega)]
    rfl
  unfold rtN rtB
  rw [hg, hc]
  constructor
  · rw [if_pos rfl]; unfold rdN; rw [if_neg (by omega)]; rfl
  · unfold rdB; simp; omega
theorem root_bad (a b m : Int) (h : rightB a = false ∨ rightB b = false) : rtN a b m = 0 ∧ rtB a b m = false := by
  have hg : rtG a b m = false := by unfold rtG; rcases h with h | h <;> rw [h] <;> simp
  unfold rtN rtB
  rw [hg]
  exact ⟨rfl, rfl⟩

theorem szI_neg (n : Int) : szI (-n) = szI n := by unfold szI; split <;> split <;> omega
theorem md_exact (a b c n m : Int) (ha : rightB a = true) (hb : rightB b = true) (hc : rightB c = true) (hn : rightB n = true) (hz : c ≠ 0) (hm : modeB m = true) (h : a * b = n * c) :
    mdN a b c m = n ∧ mdB a b c m = true := by
  have hg : mdG a b c m = true := by unfold mdG; rw [ha, hb, hc, hm]; simp [hz]
  have hd0 : 0 < szI c := by unfold szI; split <;> omega
  have hsn := szI_right hn
  have e : szI a * szI b = szI n * szI c := by rw [szI_mul, szI_mul, h]
  have hC : mdC a b c m = szI n := by
    unfold mdC
    rw [e, Int.mul_ediv_cancel _ (by omega), Int.mul_emod_left, outB_zero _ _ _ _ hd0]
    rfl
  have hbl : belB a b c = decide (n < 0) := by
    unfold belB
    rw [h, Int.mul_assoc]
    have hcc : 0 < c * c := by
      rcases Int.lt_or_gt_of_ne hz with k | k
      · exact Int.mul_pos_of_neg_of_neg k k
      · exact Int.mul_pos k k
    rcases (by omega : n < 0 ∨ n = 0 ∨ 0 < n) with k | k | k
    · have := Int.mul_neg_of_neg_of_pos k hcc; simp [k, this]
    · subst k; simp
    · have := Int.mul_pos k hcc
      rw [decide_eq_false (by omega), decide_eq_false (by omega)]
  unfold mdN mdB
  rw [hg, hC, hbl]
  constructor
  · rw [if_pos rfl]; unfold rdN; rw [if_neg (by omega)]
    unfold szI
    by_cases k : n < 0 <;> simp [k]
  · unfold rdB; simp; omega
theorem md_bad (a b c m : Int) (h : mdG a b c m = false) : mdN a b c m = 0 ∧ mdB a b c m = false := by
  unfold mdN mdB; rw [h]; exact ⟨rfl, rfl⟩
theorem mdG_bad {a b c m : Int} (h : rightB a = false ∨ rightB b = false ∨ rightB c = false) : mdG a b c m = false := by
  unfold mdG; rcases h with h | h | h <;> rw [h] <;> simp
theorem right_neg {a : Int} : rightB (-a) = rightB a := by
  unfold rightB
  rw [Bool.eq_iff_iff]; simp; omega
theorem right_wneg {a : Int} (h : I64 a) : rightB (wrap64 (-a)) = rightB a := by
  unfold I64 at h
  by_cases k : a = -9223372036854775808
  · subst k; unfold wrap64; decide
  · rw [IntWalk.wrap64_in _ (by omega)]; exact right_neg

end Go.Proofs.YtljmggemdkfbiaaGreat
