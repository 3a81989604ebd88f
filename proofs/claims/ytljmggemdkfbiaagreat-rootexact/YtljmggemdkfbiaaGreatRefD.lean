/- The contract of the document's MulDiv. -/
import Derived.Test.YtljmggemdkfbiaaGreatTimes
import Derived.Test.YtljmggemdkfbiaaGreatMulDiv
import Derived.Test.YtljmggemdkfbiaaGreatLawA
import Derived.Deep.DeepCutAuto
namespace Go.Proofs.YtljmggemdkfbiaaGreat
open Go.RowKit
set_option linter.unusedSimpArgs false
set_option linter.unusedVariables false

/-- One step of a long division. -/
theorem long_step (N N' D x : Int) (hD : 0 < D) (h : N' = x + 2 * N) (x0 : 0 ≤ x) (x1 : x ≤ 1) :
    (2 * (N % D) + x < D → N' % D = 2 * (N % D) + x ∧ N' / D = 2 * (N / D)) ∧ (D ≤ 2 * (N % D) + x → N' % D = 2 * (N % D) + x - D ∧ N' / D = 2 * (N / D) + 1) := by
  have e := Int.mul_ediv_add_emod N D
  have r0 := Int.emod_nonneg N (show D ≠ 0 by omega)
  have r1 := Int.emod_lt_of_pos N hD
  generalize N / D = q at *
  generalize N % D = r at *
  constructor
  · intro hl
    have e' : N' = 2 * r + x + D * (2 * q) := by rw [h, ← e, ← Int.mul_assoc, Int.mul_comm D 2, Int.mul_assoc]; omega
    rw [e']
    exact ⟨by rw [Int.add_mul_emod_self_left, Int.emod_eq_of_lt (by omega) hl], by rw [Int.add_mul_ediv_left _ _ (by omega), Int.ediv_eq_zero_of_lt (by omega) hl, Int.zero_add]⟩
  · intro hl
    have hh : D * (2 * q + 1) = 2 * (D * q) + D := by rw [Int.mul_add, Int.mul_one, ← Int.mul_assoc, Int.mul_comm D 2, Int.mul_assoc]
    have e' : N' = 2 * r + x - D + D * (2 * q + 1) := by omega
    rw [e']
    exact ⟨by rw [Int.add_mul_emod_self_left, Int.emod_eq_of_lt (by omega) (by omega)], by rw [Int.add_mul_ediv_left _ _ (by omega), Int.ediv_eq_zero_of_lt (by omega) (by omega), Int.zero_add]⟩
theorem drop_bd (ps : List Int) (h : AllBits ps) (l : ps.length = 130) (j : Nat) : 0 ≤ bval (ps.drop (j + 1)) ∧ bval (ps.drop (j + 1)) < 680564733841876926926749214863536422912 := by
  have b := bval_bd _ (h.drop (j + 1))
  rw [List.length_drop, l] at b
  have h2 : (2 : Int) ^ (130 - (j + 1)) ≤ 680564733841876926926749214863536422912 := by
    have : (2 : Nat) ^ (130 - (j + 1)) ≤ 2 ^ 129 := Nat.pow_le_pow_right (by decide) (by omega)
    have e : ((2 ^ (130 - (j + 1)) : Nat) : Int) ≤ ((2 ^ 129 : Nat) : Int) := by exact_mod_cast this
    simpa using e
  omega
theorem div_le_self {N D : Int} (h0 : 0 ≤ N) (hD : 0 < D) : 0 ≤ N / D ∧ N / D ≤ N := ⟨Int.ediv_nonneg h0 (by omega), Int.ediv_le_self _ h0⟩

/-- Is it below 0? 1, if so. -/
def ng (a : Int) : Int := if a < 0 then 1 else 0
theorem ng_y {a : Int} (h : a < 0) : ng a = 1 := if_pos h
theorem ng_n {a : Int} (h : ¬ a < 0) : ng a = 0 := if_neg h
theorem ng_bd (a : Int) : 0 ≤ ng a ∧ ng a ≤ 1 := by unfold ng; split <;> decide
theorem upI_one (Q : Int) : upI Q true = Q + 1 := rfl
/-- Whether what is left goes away from 0, as the document counts it. -/
theorem more_even {Q R D : Int} (bl : Bool) (hD : 0 < D) (hR : 0 ≤ R) :
    (D < 2 * R ∧ outB Q R D bl 0 = true) ∨ (2 * R = D ∧ 0 < R ∧ outB Q R D bl 0 = (Q % 2 == 1)) ∨ (2 * R < D ∧ 0 < R ∧ outB Q R D bl 0 = false) ∨ (R = 0 ∧ outB Q R D bl 0 = false) := by
  have e : outB Q R D bl 0 = (decide (D < 2 * R) || (decide (2 * R = D) && decide (Q % 2 = 1))) := by simp [outB]
  rw [e]
  rcases (by omega : D < 2 * R ∨ (2 * R = D ∧ 0 < R) ∨ (2 * R < D ∧ 0 < R) ∨ R = 0) with h | h | h | h
  · exact .inl ⟨h, by rw [decide_eq_true h]; rfl⟩
  · exact .inr (.inl ⟨h.1, h.2, by rw [decide_eq_false (by omega), decide_eq_true h.1]; rfl⟩)
  · exact .inr (.inr (.inl ⟨h.1, h.2, by rw [decide_eq_false (by omega), decide_eq_false (by omega)]; rfl⟩))
  · exact .inr (.inr (.inr ⟨h, by rw [decide_eq_false (by omega), decide_eq_false (by omega)]; rfl⟩))
theorem low_bit (xs : List Int) (h : AllBits xs) (l : xs.length = 130) : bval xs % 2 = xs.getD 0 0 := by
  have := bval_drop_succ xs 0 (by omega)
  rw [List.drop_zero] at this
  have := h.getD 0
  omega
/-- Whether it goes away from 0, as far as the modes up to k tell. -/
def mrF (mode Q R D : Int) (bl : Bool) (k : Int) : Bool := if mode ≤ k then outB Q R D bl mode else false
theorem mrF_no {mode Q R D : Int} {bl : Bool} {k : Int} (h : ¬ mode ≤ k) : mrF mode Q R D bl k = false := if_neg h
theorem mrF_yes {mode Q R D : Int} {bl : Bool} {k : Int} (h : mode ≤ k) : mrF mode Q R D bl k = outB Q R D bl mode := if_pos h
/-- The signs, counted: odd just where the quotient is below 0; or there is nothing. -/
theorem signs_odd (a b c : Int) (hc : c ≠ 0) : ((ng a + ng b + ng c) % 2 == 1) = belB a b c ∨ szI a * szI b = 0 := by
  rcases (by omega : a < 0 ∨ a = 0 ∨ 0 < a) with h | h | h
  · rcases (by omega : b < 0 ∨ b = 0 ∨ 0 < b) with k | k | k
    · left
      have p1 := Int.mul_pos_of_neg_of_neg h k
      rcases (by omega : c < 0 ∨ 0 < c) with l | l
      · have := Int.mul_neg_of_pos_of_neg p1 l
        rw [ng_y h, ng_y k, ng_y l]; unfold belB; rw [decide_eq_true this]; rfl
      · have := Int.mul_pos p1 l
        rw [ng_y h, ng_y k, ng_n (by omega)]; unfold belB; rw [decide_eq_false (by omega)]; rfl
    · right; rw [k]; simp [szI]
    · left
      have p1 := Int.mul_neg_of_neg_of_pos h k
      rcases (by omega : c < 0 ∨ 0 < c) with l | l
      · have := Int.mul_pos_of_neg_of_neg p1 l
        rw [ng_y h, ng_n (by omega), ng_y l]; unfold belB; rw [decide_eq_false (by omega)]; rfl
      · have := Int.mul_neg_of_neg_of_pos p1 l
        rw [ng_y h, ng_n (by omega), ng_n (by omega)]; unfold belB; rw [decide_eq_true this]; rfl
  · right; rw [h]; simp [szI]
  · rcases (by omega : b < 0 ∨ b = 0 ∨ 0 < b) with k | k | k
    · left
      have p1 := Int.mul_neg_of_pos_of_neg h k
      rcases (by omega : c < 0 ∨ 0 < c) with l | l
      · have := Int.mul_pos_of_neg_of_neg p1 l
        rw [ng_n (by omega), ng_y k, ng_y l]; unfold belB; rw [decide_eq_false (by omega)]; rfl
      · have := Int.mul_neg_of_neg_of_pos p1 l
        rw [ng_n (by omega), ng_y k, ng_n (by omega)]; unfold belB; rw [decide_eq_true this]; rfl
    · right; rw [k]; simp [szI]
    · left
      have p1 := Int.mul_pos h k
      rcases (by omega : c < 0 ∨ 0 < c) with l | l
      · have := Int.mul_neg_of_pos_of_neg p1 l
        rw [ng_n (by omega), ng_n (by omega), ng_y l]; unfold belB; rw [decide_eq_true this]; rfl
      · have := Int.mul_pos p1 l
        rw [ng_n (by omega), ng_n (by omega), ng_n (by omega)]; unfold belB; rw [decide_eq_false (by omega)]; rfl

end Go.Proofs.YtljmggemdkfbiaaGreat
