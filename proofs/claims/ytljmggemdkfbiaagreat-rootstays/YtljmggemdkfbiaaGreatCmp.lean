/- The contract of wide.Compare. -/
import Derived.Test.YtljmggemdkfbiaaGreatRound
namespace Go.Proofs.YtljmggemdkfbiaaGreat
open Go.RowKit
set_option linter.unusedSimpArgs false
set_option linter.unusedVariables false

theorem cmpI_lt {x y : Int} (h : x < y) : cmpI x y = -1 := by unfold cmpI; rw [if_pos h]
theorem cmpI_gt {x y : Int} (h : y < x) : cmpI x y = 1 := by unfold cmpI; rw [if_neg (by omega), if_pos h]
theorem cmpI_eq {x y : Int} (h : x = y) : cmpI x y = 0 := by unfold cmpI; rw [if_neg (by omega), if_neg (by omega)]
theorem cmpI_three (x y : Int) : (x < y ∧ cmpI x y = -1) ∨ (x = y ∧ cmpI x y = 0) ∨ (y < x ∧ cmpI x y = 1) := by
  rcases (by omega : x < y ∨ x = y ∨ y < x) with h | h | h
  · exact .inl ⟨h, cmpI_lt h⟩
  · exact .inr (.inl ⟨h, cmpI_eq h⟩)
  · exact .inr (.inr ⟨h, cmpI_gt h⟩)
theorem sgn_mul (a b : Int) : cmpI a 0 * cmpI b 0 = cmpI (a * b) 0 := by
  rcases cmpI_three a 0 with ⟨h, e⟩ | ⟨h, e⟩ | ⟨h, e⟩ <;> rcases cmpI_three b 0 with ⟨k, f⟩ | ⟨k, f⟩ | ⟨k, f⟩ <;> rw [e, f]
  · have := Int.mul_pos_of_neg_of_neg h k; rw [cmpI_gt this]; rfl
  · subst k; simp [cmpI]
  · have := Int.mul_neg_of_neg_of_pos h k; rw [cmpI_lt this]; rfl
  · subst h; simp [cmpI]
  · subst h; simp [cmpI]
  · subst h; simp [cmpI]
  · have := Int.mul_neg_of_pos_of_neg h k; rw [cmpI_lt this]; rfl
  · subst k; simp [cmpI]
  · have := Int.mul_pos h k; rw [cmpI_gt this]; rfl
theorem szI_mul (a b : Int) : szI a * szI b = szI (a * b) := by
  have e : ∀ n : Int, szI n = n.natAbs := fun n => by unfold szI; split <;> omega
  rw [e, e, e, Int.natAbs_mul, Int.natCast_mul]
theorem cmp_sizes (x y : Int) (h : cmpI x 0 = cmpI y 0) : cmpI x 0 * cmpI (szI x) (szI y) = cmpI x y := by
  rcases cmpI_three x 0 with ⟨hx, ex⟩ | ⟨hx, ex⟩ | ⟨hx, ex⟩ <;> rcases cmpI_three y 0 with ⟨hy, ey⟩ | ⟨hy, ey⟩ | ⟨hy, ey⟩ <;> rw [ex, ey] at h <;> first | (exfalso; omega) | skip
  · rw [ex]
    have e1 : szI x = -x := by unfold szI; rw [if_pos hx]
    have e2 : szI y = -y := by unfold szI; rw [if_pos hy]
    rw [e1, e2]
    rcases cmpI_three x y with ⟨q, e⟩ | ⟨q, e⟩ | ⟨q, e⟩ <;> rw [e]
    · rw [cmpI_gt (by omega)]; rfl
    · rw [cmpI_eq (by omega)]; rfl
    · rw [cmpI_lt (by omega)]; rfl
  · rw [ex, hx, hy]; rfl
  · rw [ex]
    have e1 : szI x = x := by unfold szI; rw [if_neg (by omega)]
    have e2 : szI y = y := by unfold szI; rw [if_neg (by omega)]
    rw [e1, e2]; omega
theorem cmp_signs (x y : Int) (h : cmpI x 0 ≠ cmpI y 0) : cmpI (cmpI x 0) (cmpI y 0) = cmpI x y := by
  rcases cmpI_three x 0 with ⟨hx, ex⟩ | ⟨hx, ex⟩ | ⟨hx, ex⟩ <;> rcases cmpI_three y 0 with ⟨hy, ey⟩ | ⟨hy, ey⟩ | ⟨hy, ey⟩ <;> rw [ex, ey] at h ⊢ <;> first | exact absurd rfl h | skip
  all_goals first | (rw [cmpI_lt (by omega : x < y)]; rfl) | (rw [cmpI_gt (by omega : y < x)]; rfl)
theorem wrap64_unit {x : Int} (h : -1 ≤ x ∧ x ≤ 1) : wrap64 x = x := IntWalk.wrap64_in x (by omega)
theorem cmpI_bd (x y : Int) : -1 ≤ cmpI x y ∧ cmpI x y ≤ 1 := by
  rcases cmpI_three x y with ⟨_, e⟩ | ⟨_, e⟩ | ⟨_, e⟩ <;> rw [e] <;> decide
theorem rightB_iff {n : Int} : rightB n = true ↔ -4611686018427387903 ≤ n ∧ n ≤ 4611686018427387903 := by simp [rightB]
theorem right_i64 {n : Int} (h : rightB n = true) : I64 n := by have := rightB_iff.1 h; unfold I64; omega
theorem szI_right {n : Int} (h : rightB n = true) : 0 ≤ szI n ∧ szI n ≤ 4611686018427387903 := by
  have := rightB_iff.1 h; unfold szI; split <;> omega
theorem mul_hi {x y : Int} (hx : 0 ≤ x ∧ x ≤ 4611686018427387903) (hy : 0 ≤ y ∧ y ≤ 4611686018427387903) : 0 ≤ x * y ∧ x * y ≤ 21267647932558653957237540927630737409 := by
  refine ⟨Int.mul_nonneg hx.1 hy.1, ?_⟩
  have := Int.mul_le_mul hx.2 hy.2 hy.1 (by omega : (0 : Int) ≤ 4611686018427387903)
  simpa using this
theorem hi_word {p : Int} (h : 0 ≤ p ∧ p ≤ 21267647932558653957237540927630737409) : U64 (p / 18446744073709551616) := by unfold U64; omega

/-- P1.1: which product is the greater one. -/
def cmpS (a b c d : Int) : Int := if rightB a && rightB b && rightB c && rightB d then cmpI (a * b) (c * d) else 0

end Go.Proofs.YtljmggemdkfbiaaGreat
