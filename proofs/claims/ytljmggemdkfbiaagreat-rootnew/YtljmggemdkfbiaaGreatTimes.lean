/- The contracts of the document's Times, Root, Compare. -/
import Derived.Test.YtljmggemdkfbiaaGreatBits2
import Derived.Test.YtljmggemdkfbiaaGreatBits3
import Derived.Test.YtljmggemdkfbiaaGreatRoot
namespace Go.Proofs.YtljmggemdkfbiaaGreat
open Go.RowKit
set_option linter.unusedSimpArgs false
set_option linter.unusedVariables false

theorem hideP {p : Prop} (h : p) : Hid p := h
theorem mul_pow_lt {a : Int} (k : Nat) (h0 : 0 ≤ a) (h1 : a ≤ 9223372036854775807) (hk : k ≤ 63) : 0 ≤ a * 2 ^ k ∧ a * 2 ^ k < 680564733841876926926749214863536422912 := by
  have hp := pow_pos2 k
  have h2 : (2 : Int) ^ k ≤ 9223372036854775808 := by
    have : (2 : Nat) ^ k ≤ 2 ^ 63 := Nat.pow_le_pow_right (by decide) hk
    have e : ((2 ^ k : Nat) : Int) ≤ ((2 ^ 63 : Nat) : Int) := by exact_mod_cast this
    simpa using e
  refine ⟨Int.mul_nonneg h0 (by omega), ?_⟩
  have := Int.mul_le_mul h1 h2 (by omega) (by omega : (0 : Int) ≤ 9223372036854775807)
  omega
theorem mul_bd63 {a b : Int} (h0 : 0 ≤ a) (h1 : a ≤ 9223372036854775807) (k0 : 0 ≤ b) (k1 : b ≤ 9223372036854775808) : 0 ≤ a * b ∧ a * b < 680564733841876926926749214863536422912 := by
  refine ⟨Int.mul_nonneg h0 k0, ?_⟩
  have := Int.mul_le_mul h1 k1 k0 (by omega : (0 : Int) ≤ 9223372036854775807)
  omega
theorem take63 (ys : List Int) (h : AllBits ys) (l : ys.length = 130) (hb : bval ys ≤ 9223372036854775807) : bval (ys.take 63) = bval ys := by
  have a := bval_split ys 63 (by omega)
  have b := bval_bd _ (h.take 63)
  have c := bval_bd _ (h.drop 63)
  have e63 : (2 : Int) ^ 63 = 9223372036854775808 := by decide
  rw [e63] at a
  omega
theorem take_bd (ys : List Int) (h : AllBits ys) (l : ys.length = 130) (k : Nat) (hk : k ≤ 63) : 0 ≤ bval (ys.take k) ∧ bval (ys.take k) ≤ 9223372036854775808 := by
  have b := bval_bd _ (h.take k)
  rw [List.length_take, Nat.min_eq_left (by omega)] at b
  have h2 : (2 : Int) ^ k ≤ 9223372036854775808 := by
    have : (2 : Nat) ^ k ≤ 2 ^ 63 := Nat.pow_le_pow_right (by decide) hk
    have e : ((2 ^ k : Nat) : Int) ≤ ((2 ^ 63 : Nat) : Int) := by exact_mod_cast this
    simpa using e
  omega

end Go.Proofs.YtljmggemdkfbiaaGreat
