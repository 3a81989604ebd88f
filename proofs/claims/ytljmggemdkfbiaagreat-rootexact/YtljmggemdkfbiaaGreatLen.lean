/- The contract of math/bits.LeadingZeros64. -/
import Derived.Test.YtljmggemdkfbiaaGreatLeaf
import Derived.Lib.BitFns
import Derived.Lib.Strings
import Derived.Lib.Walk
namespace Go.Proofs.YtljmggemdkfbiaaGreat
open Go.RowKit
set_option linter.unusedSimpArgs false
set_option linter.unusedVariables false

/-- n is how many bits x has. -/
def LenIs (x n : Int) : Prop := ∃ k : Nat, n = k ∧ k ≤ 64 ∧ x < 2 ^ k ∧ (0 < x → 2 ^ k ≤ 2 * x)

theorem len8_size : Lib.len8tab.size = 256 := by decide +kernel
theorem len8_all : ∀ b : Fin 256, b.val < 2 ^ (Lib.len8tab[b.val]'(by rw [len8_size]; exact b.isLt)).toNat ∧ (0 < b.val → 2 ^ (Lib.len8tab[b.val]'(by rw [len8_size]; exact b.isLt)).toNat ≤ 2 * b.val) ∧ (Lib.len8tab[b.val]'(by rw [len8_size]; exact b.isLt)).toNat ≤ 8 := by decide +kernel
/-- Behind a shift by c bits. -/
theorem len_of (x : Int) (c : Nat) (y : Int) (h0 : 0 ≤ x) (hc : c ≤ 56) (hy : y = x / 2 ^ c) (hb : y < 256) (hl : c = 0 ∨ 0 < y) (hz : y.toNat < Lib.len8tab.size) :
    LenIs x (wrap64 (c + wrap64 ((Lib.len8tab[y.toNat]'hz).toNat : Nat))) := by
  have hp : (0 : Int) < 2 ^ c := Int.pow_pos (by decide)
  have hy0 : 0 ≤ y := by rw [hy]; exact Int.ediv_nonneg h0 (Int.le_of_lt hp)
  obtain ⟨a1, a2, a3⟩ := len8_all ⟨y.toNat, by omega⟩
  simp only at a1 a2 a3
  generalize (Lib.len8tab[y.toNat]'hz).toNat = t at *
  have e1 : wrap64 (t : Int) = t := IntWalk.wrap64_in _ (by omega)
  rw [e1, IntWalk.wrap64_in ((c : Int) + t) (by omega)]
  refine ⟨c + t, by omega, by omega, ?_, ?_⟩
  · have b1 : y + 1 ≤ 2 ^ t := by
      have : ((y.toNat + 1 : Nat) : Int) ≤ ((2 ^ t : Nat) : Int) := by exact_mod_cast a1
      push_cast at this
      omega
    have b2 : x < (y + 1) * 2 ^ c := by
      rw [hy]; exact Int.lt_ediv_add_one_mul_self x hp
    have b3 : (y + 1) * 2 ^ c ≤ 2 ^ t * 2 ^ c := Int.mul_le_mul_of_nonneg_right b1 (Int.le_of_lt hp)
    rw [Int.pow_add, Int.mul_comm]
    omega
  · intro hx
    by_cases hyp : 0 < y
    · have b1 : (2 : Int) ^ t ≤ 2 * y := by
        have := a2 (by omega)
        have : ((2 ^ t : Nat) : Int) ≤ ((2 * y.toNat : Nat) : Int) := by exact_mod_cast this
        push_cast at this
        omega
      have b2 : y * 2 ^ c ≤ x := by rw [hy]; exact Int.ediv_mul_le x (by omega)
      have b3 : (2 : Int) ^ t * 2 ^ c ≤ (2 * y) * 2 ^ c := Int.mul_le_mul_of_nonneg_right b1 (Int.le_of_lt hp)
      rw [Int.pow_add, Int.mul_comm]
      rw [Int.mul_assoc] at b3
      omega
    · have : c = 0 := by omega
      subst this
      simp at hy
      omega

set_option maxHeartbeats 4000000 in
set_option maxRecDepth 100000 in
theorem len64_any (x : Int) (w : World) (h0 : 0 ≤ x) (h1 : x ≤ 18446744073709551615) :
    Calls Tryz.prog 162 #[.int .u64 x] w fun e w' => (∃ n : Int, e = .returned (.int .i64 n) ∧ LenIs x n) ∧ w' = w := by
  have hs := len8_size
  go_enter Tryz.func162, Tryz.ntmps162
  go_wp2
  all_goals (go_ret; refine ⟨⟨_, rfl, ?_⟩, rfl⟩)
  · exact len_of x 56 _ h0 (by decide) (by omega) (by omega) (by omega) _
  · exact len_of x 48 _ h0 (by decide) (by omega) (by omega) (by omega) _
  · exact len_of x 40 _ h0 (by decide) (by omega) (by omega) (by omega) _
  · exact len_of x 32 _ h0 (by decide) (by omega) (by omega) (by omega) _
  · exact len_of x 24 _ h0 (by decide) (by omega) (by omega) (by omega) _
  · exact len_of x 16 _ h0 (by decide) (by omega) (by omega) (by omega) _
  · exact len_of x 8 _ h0 (by decide) (by omega) (by omega) (by omega) _
  · have hz : x.toNat < Lib.len8tab.size := by rw [len8_size]; omega
    have := len_of x 0 x h0 (by decide) (by simp) (by omega) (by omega) hz
    simpa using this

/-- s is how many bits y can be moved up. -/
def LzIs (y s : Int) : Prop := ∃ k : Nat, s = k ∧ k ≤ 63 ∧ y * 2 ^ k < 18446744073709551616 ∧ 9223372036854775808 ≤ y * 2 ^ k
theorem lz_of_len {y n : Int} (h : LenIs y n) (hy : 0 < y) (hy1 : y < 18446744073709551616) : LzIs y (64 - n) := by
  obtain ⟨k, rfl, hk, h1, h2⟩ := h
  have h2 := h2 hy
  have hk0 : 1 ≤ k := by
    rcases Nat.eq_zero_or_pos k with e | e
    · subst e; simp at h1; omega
    · exact e
  refine ⟨64 - k, by omega, by omega, ?_, ?_⟩
  · have hp : (0 : Int) < 2 ^ (64 - k) := Int.pow_pos (by decide)
    have := Int.mul_lt_mul_of_pos_right h1 hp
    rw [← Int.pow_add, show k + (64 - k) = 64 from by omega] at this
    simpa using this
  · have hp : (0 : Int) < 2 ^ (64 - k) := Int.pow_pos (by decide)
    have := Int.mul_le_mul_of_nonneg_right h2 (Int.le_of_lt hp)
    rw [← Int.pow_add, show k + (64 - k) = 64 from by omega, Int.mul_assoc] at this
    have e : (2 : Int) ^ 64 = 18446744073709551616 := by decide
    rw [e] at this
    omega

theorem lz64_any (y : Int) (w : World) (h0 : 0 < y) (h1 : y < 18446744073709551616) :
    Calls Tryz.prog 151 #[.int .u64 y] w fun e w' => (∃ s : Int, e = .returned (.int .i64 s) ∧ LzIs y s) ∧ w' = w := by
  go_enter Tryz.func151, Tryz.ntmps151
  go_wp2_with fail
  refine (len64_any y _ (by omega) (by omega)).mono ?_
  rintro e w' ⟨⟨n, rfl, hn⟩, rfl⟩
  have hb : 0 ≤ n ∧ n ≤ 64 := by obtain ⟨k, rfl, hk, _⟩ := hn; omega
  obtain ⟨b1, b2⟩ := hb
  have H : Hid (LenIs y n) := hn
  clear hn
  go_wp2
  go_ret
  exact ⟨⟨_, rfl, lz_of_len H.out h0 h1⟩, rfl⟩
end Go.Proofs.YtljmggemdkfbiaaGreat
