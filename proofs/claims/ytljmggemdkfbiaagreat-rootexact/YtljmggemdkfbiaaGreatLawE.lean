/- The walks of WideRoots, WideNearest. -/
import Derived.Test.YtljmggemdkfbiaaGreatRefR
import Derived.Test.YtljmggemdkfbiaaGreatLawA
namespace Go.Proofs.YtljmggemdkfbiaaGreat
open Go.RowKit
set_option linter.unusedSimpArgs false
set_option linter.unusedVariables false

theorem upI_t (c : Int) : upI c true = c + 1 := rfl
theorem upI_f (c : Int) : upI c false = c := rfl

/-- The three roots of a product that is not below 0. -/
theorem root_vals (a b : Int) (ha : rightB a = true) (hb : rightB b = true) (hs : ¬ a * b < 0) :
    ∃ r t : Int, rtF (szI a * szI b) = r ∧ 0 ≤ r ∧ r ≤ 4611686018427387903 ∧ 0 ≤ t ∧ szI a * szI b = r * r + t ∧ (0 < t → r + 1 ≤ 4611686018427387903) ∧
      (rtN a b 1 = r ∧ rtB a b 1 = true) ∧ (rtN a b 2 = upI r (decide (0 < t)) ∧ rtB a b 2 = true) ∧ (rtN a b 0 = upI r (decide (r < t)) ∧ rtB a b 0 = true) := by
  have sa := szI_right ha
  have sb := szI_right hb
  have hp := mul_hi sa sb
  have hd : decide (a * b < 0) = false := decide_eq_false hs
  have g : ∀ m, modeB m = true → rtG a b m = true := fun m hm => by unfold rtG; rw [ha, hb, hd, hm]; rfl
  have g1 := g 1 (by decide)
  have g2 := g 2 (by decide)
  have g0 := g 0 (by decide)
  have hr := rtF_spec (szI a * szI b) hp.1
  have hle := rtF_le (szI a * szI b) 4611686018427387903 hp.1 (by omega) (by omega)
  unfold rtN rtB rtC
  rw [g1, g2, g0]
  generalize szI a * szI b = p at *
  generalize rtF p = r at *
  obtain ⟨r0, r1, r2⟩ := hr
  have hup : 0 < p - r * r → r + 1 ≤ 4611686018427387903 := by
    intro h
    rcases Int.lt_or_le r 4611686018427387903 with k | k
    · omega
    · have e : r = 4611686018427387903 := by omega
      subst e
      omega
  have out0 : outB r (p - r * r) (2 * r + 1) false 0 = decide (r < p - r * r) := by
    simp only [outB]
    rw [if_neg (by decide), if_neg (by decide), decide_eq_false (show ¬ 2 * (p - r * r) = 2 * r + 1 by omega), Bool.false_and, Bool.or_false]
    rw [Bool.eq_iff_iff, decide_eq_true_iff, decide_eq_true_iff]
    omega
  have out1 : outB r (p - r * r) (2 * r + 1) false 1 = false := by simp [outB]
  have out2 : outB r (p - r * r) (2 * r + 1) false 2 = decide (0 < p - r * r) := by simp [outB]
  rw [out0, out1, out2]
  refine ⟨r, p - r * r, rfl, r0, hle, by omega, by omega, hup, ?_, ?_, ?_⟩
  · rw [upI_f]
    refine ⟨by rw [if_pos rfl]; unfold rdN; rw [if_neg (by omega)]; rfl, ?_⟩
    unfold rdB; simp; omega
  · by_cases h : 0 < p - r * r
    · rw [decide_eq_true h, upI_t]
      have := hup h
      refine ⟨by rw [if_pos rfl]; unfold rdN; rw [if_neg (by omega)]; rfl, ?_⟩
      unfold rdB; simp; omega
    · rw [decide_eq_false h, upI_f]
      refine ⟨by rw [if_pos rfl]; unfold rdN; rw [if_neg (by omega)]; rfl, ?_⟩
      unfold rdB; simp; omega
  · by_cases h : r < p - r * r
    · rw [decide_eq_true h, upI_t]
      have := hup (by omega)
      refine ⟨by rw [if_pos rfl]; unfold rdN; rw [if_neg (by omega)]; rfl, ?_⟩
      unfold rdB; simp; omega
    · rw [decide_eq_false h, upI_f]
      refine ⟨by rw [if_pos rfl]; unfold rdN; rw [if_neg (by omega)]; rfl, ?_⟩
      unfold rdB; simp; omega
theorem root_none (a b m : Int) (h : rtG a b m = false) : rtN a b m = 0 ∧ rtB a b m = false := by
  unfold rtN rtB; rw [h]; exact ⟨rfl, rfl⟩
theorem rtG_bad {a b m : Int} (h : rightB a = false ∨ rightB b = false ∨ a * b < 0) : rtG a b m = false := by
  unfold rtG
  rcases h with h | h | h
  · rw [h]; simp
  · rw [h]; simp
  · rw [decide_eq_true h]; simp
/-- How the law's first test goes. -/
theorem root_ways (a b : Int) : (rightB a = false) ∨ (rightB a = true ∧ rightB b = false) ∨ (rightB a = true ∧ rightB b = true ∧ 0 < a ∧ b < 0) ∨ (rightB a = true ∧ rightB b = true ∧ a < 0 ∧ 0 < b) ∨
    (rightB a = true ∧ rightB b = true ∧ ((0 < a ∧ 0 ≤ b) ∨ (a < 0 ∧ b ≤ 0) ∨ (a ≤ 0 ∧ 0 ≤ a))) := by
  cases ha : rightB a
  · exact .inl rfl
  · cases hb : rightB b
    · exact .inr (.inl ⟨rfl, rfl⟩)
    · rcases (by omega : (0 < a ∧ b < 0) ∨ (a < 0 ∧ 0 < b) ∨ ((0 < a ∧ 0 ≤ b) ∨ (a < 0 ∧ b ≤ 0) ∨ (a ≤ 0 ∧ 0 ≤ a))) with h | h | h
      · exact .inr (.inr (.inl ⟨rfl, rfl, h.1, h.2⟩))
      · exact .inr (.inr (.inr (.inl ⟨rfl, rfl, h.1, h.2⟩)))
      · exact .inr (.inr (.inr (.inr ⟨rfl, rfl, h⟩)))
theorem nn_of_way {a b : Int} (h : (0 < a ∧ 0 ≤ b) ∨ (a < 0 ∧ b ≤ 0) ∨ (a ≤ 0 ∧ 0 ≤ a)) : ¬ a * b < 0 := by
  rcases h with h | h | h
  · have := Int.mul_nonneg (show 0 ≤ a by omega) h.2; omega
  · have := Int.mul_nonneg_of_nonpos_of_nonpos (show a ≤ 0 by omega) h.2; omega
  · rw [show a = 0 by omega, Int.zero_mul]; omega

end Go.Proofs.YtljmggemdkfbiaaGreat
