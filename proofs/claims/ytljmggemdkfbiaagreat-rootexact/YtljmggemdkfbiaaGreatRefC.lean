/- The contract of the document's Compare. -/
import Derived.Test.YtljmggemdkfbiaaGreatTimes
import Derived.Deep.DeepCutAuto
namespace Go.Proofs.YtljmggemdkfbiaaGreat
open Go.RowKit
set_option linter.unusedSimpArgs false
set_option linter.unusedVariables false

theorem sgn_cases (a b : Int) : (0 < a ∧ 0 < b ∧ cmpI (a * b) 0 = 1) ∨ (a < 0 ∧ b < 0 ∧ cmpI (a * b) 0 = 1) ∨ (0 < a ∧ b < 0 ∧ cmpI (a * b) 0 = -1) ∨ (a < 0 ∧ 0 < b ∧ cmpI (a * b) 0 = -1) ∨
    (a ≤ 0 ∧ 0 ≤ a ∧ cmpI (a * b) 0 = 0) ∨ (0 < a ∧ (b ≤ 0 ∧ 0 ≤ b) ∧ cmpI (a * b) 0 = 0) ∨ (a < 0 ∧ (b ≤ 0 ∧ 0 ≤ b) ∧ cmpI (a * b) 0 = 0) := by
  rcases (by omega : a < 0 ∨ a = 0 ∨ 0 < a) with h | h | h
  · rcases (by omega : b < 0 ∨ b = 0 ∨ 0 < b) with k | k | k
    · exact .inr (.inl ⟨h, k, cmpI_gt (Int.mul_pos_of_neg_of_neg h k)⟩)
    · exact .inr (.inr (.inr (.inr (.inr (.inr ⟨h, ⟨by omega, by omega⟩, cmpI_eq (by rw [k, Int.mul_zero])⟩)))))
    · exact .inr (.inr (.inr (.inl ⟨h, k, cmpI_lt (Int.mul_neg_of_neg_of_pos h k)⟩)))
  · exact .inr (.inr (.inr (.inr (.inl ⟨by omega, by omega, cmpI_eq (by rw [h, Int.zero_mul])⟩))))
  · rcases (by omega : b < 0 ∨ b = 0 ∨ 0 < b) with k | k | k
    · exact .inr (.inr (.inl ⟨h, k, cmpI_lt (Int.mul_neg_of_pos_of_neg h k)⟩))
    · exact .inr (.inr (.inr (.inr (.inr (.inl ⟨h, ⟨by omega, by omega⟩, cmpI_eq (by rw [k, Int.mul_zero])⟩)))))
    · exact .inl ⟨h, k, cmpI_gt (Int.mul_pos h k)⟩

theorem sgn_two (a b : Int) : cmpI (a * b) 0 = 1 ∨ (cmpI (a * b) 0 = -1 ∧ (a != 0) = true ∧ (b != 0) = true) ∨ (cmpI (a * b) 0 = 0 ∧ (a != 0) = false) ∨ (cmpI (a * b) 0 = 0 ∧ (a != 0) = true ∧ (b != 0) = false) := by
  rcases sgn_cases a b with ⟨h, k, e⟩ | ⟨h, k, e⟩ | ⟨h, k, e⟩ | ⟨h, k, e⟩ | ⟨h, k, e⟩ | ⟨h, ⟨k, k'⟩, e⟩ | ⟨h, ⟨k, k'⟩, e⟩
  · exact .inl e
  · exact .inl e
  · exact .inr (.inl ⟨e, bne_iff_ne.2 (by omega), bne_iff_ne.2 (by omega)⟩)
  · exact .inr (.inl ⟨e, bne_iff_ne.2 (by omega), bne_iff_ne.2 (by omega)⟩)
  · exact .inr (.inr (.inl ⟨e, by rw [show a = 0 by omega]; rfl⟩))
  · exact .inr (.inr (.inr ⟨e, bne_iff_ne.2 (by omega), by rw [show b = 0 by omega]; rfl⟩))
  · exact .inr (.inr (.inr ⟨e, bne_iff_ne.2 (by omega), by rw [show b = 0 by omega]; rfl⟩))

end Go.Proofs.YtljmggemdkfbiaaGreat
