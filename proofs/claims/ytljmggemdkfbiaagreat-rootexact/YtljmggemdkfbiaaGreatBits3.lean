/- The contracts of the document's Up, Less, Number. -/
import Derived.Test.YtljmggemdkfbiaaGreatBits
namespace Go.Proofs.YtljmggemdkfbiaaGreat
open Go.RowKit
set_option linter.unusedSimpArgs false
set_option linter.unusedVariables false

theorem addr_add (b o j : Nat) : (⟨b, o, none⟩ : Addr).add j = ⟨b, o + j, none⟩ := by
  unfold Addr.add
  by_cases h : j = 0
  · subst h; rfl
  · simp [h]

theorem up_val (az : List Int) (bit : Int) (la : az.length = 130) (aa : AllBits az) (hb : bit = 0 ∨ bit = 1) :
    bval (bit :: az.take 129) = (2 * bval az + bit) % 1361129467683753853853498429727072845824 := by
  have a := bval_split az 129 (by omega)
  have b := bval_drop_succ az 129 (by omega)
  rw [List.drop_of_length_le (by omega : az.length ≤ 130)] at b
  have c := bval_bd _ (aa.take 129)
  rw [List.length_take, Nat.min_eq_left (by omega)] at c
  have d := aa.getD 129
  have e129 : (2 : Int) ^ 129 = 680564733841876926926749214863536422912 := by decide
  rw [e129] at a c
  have e0 : bval ([] : List Int) = 0 := rfl
  show bit + 2 * bval (az.take 129) = _
  omega

theorem num_top (az : List Int) (aa : AllBits az) (la : az.length = 130) (j : Nat) (hj : j < 130) (h62 : 62 ≤ j) (h : az.getD j 0 = 1) : 4611686018427387904 ≤ bval az := by
  have a := bval_split az j (by omega)
  have b := bval_bd _ (aa.take j)
  have c := bval_drop_succ az j (by omega)
  have d := bval_bd _ (aa.drop (j + 1))
  have e : (2 : Int) ^ 62 ≤ 2 ^ j := by
    have : (2 : Nat) ^ 62 ≤ 2 ^ j := Nat.pow_le_pow_right (by decide) h62
    exact_mod_cast this
  have e62 : (2 : Int) ^ 62 = 4611686018427387904 := by decide
  rw [e62] at e
  have f := Int.mul_le_mul_of_nonneg_left (show (1 : Int) ≤ bval (az.drop j) by omega) (show (0 : Int) ≤ 2 ^ j by omega)
  rw [Int.mul_one] at f
  omega

theorem pow_half (j : Nat) (h : j < 62) : (2 : Int) ^ (62 - j) = 2 * 2 ^ (62 - (j + 1)) := by
  rw [show 62 - j = 62 - (j + 1) + 1 from by omega, Int.pow_succ, Int.mul_comm]
theorem pow_le62 (j : Nat) : (2 : Int) ^ (62 - j) ≤ 4611686018427387904 := by
  have : (2 : Nat) ^ (62 - j) ≤ 2 ^ 62 := Nat.pow_le_pow_right (by decide) (by omega)
  have e : ((2 ^ (62 - j) : Nat) : Int) ≤ ((2 ^ 62 : Nat) : Int) := by exact_mod_cast this
  simpa using e
def nmN (m : Int) : Int := if m < 4611686018427387904 then m else 0
def nmB (m : Int) : Bool := decide (m < 4611686018427387904)

end Go.Proofs.YtljmggemdkfbiaaGreat
