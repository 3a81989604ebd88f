/- Plain arithmetic: a digit of a quotient, guessed and mended; the words of a number that is moved up. -/
import Derived.WalkKit
import Derived.Laws.MathBits
namespace Go.Proofs.YtljmggemdkfbiaaGreat

/-- What is known of a digit: U·B + d by Y = y1·B + y0. -/
structure Digit (U d Y y1 y0 Q R : Int) : Prop where
  hY : Y = y1 * 4294967296 + y0
  y0n : 0 ≤ y0
  y0l : y0 < 4294967296
  y1l : 2147483648 ≤ y1
  y1h : y1 < 4294967296
  dn : 0 ≤ d
  dl : d < 4294967296
  Un : 0 ≤ U
  Ul : U < Y
  Qn : 0 ≤ Q
  Ql : Q ≤ 4294967295
  Rn : 0 ≤ R
  Rl : R < Y
  eq : U * 4294967296 + d = Q * Y + R

theorem digit_mk {U d Y y1 y0 : Int} (hY : Y = y1 * 4294967296 + y0) (y0n : 0 ≤ y0) (y0l : y0 < 4294967296) (y1l : 2147483648 ≤ y1) (y1h : y1 < 4294967296)
    (dn : 0 ≤ d) (dl : d < 4294967296) (Un : 0 ≤ U) (Ul : U < Y) : ∃ Q R, Digit U d Y y1 y0 Q R := by
  have hYp : 0 < Y := by omega
  have hN : 0 ≤ U * 4294967296 + d := by omega
  refine ⟨(U * 4294967296 + d) / Y, (U * 4294967296 + d) % Y, hY, y0n, y0l, y1l, y1h, dn, dl, Un, Ul, Int.ediv_nonneg hN (by omega), ?_, Int.emod_nonneg _ (by omega), Int.emod_lt_of_pos _ hYp, ?_⟩
  · have : (U * 4294967296 + d) / Y < 4294967296 := by
      apply Int.ediv_lt_of_lt_mul hYp
      omega
    omega
  · rw [Int.mul_comm ((U * 4294967296 + d) / Y) Y]
    exact (Int.mul_ediv_add_emod _ _).symm

theorem Digit.le_of {U d Y y1 y0 Q R : Int} (D : Digit U d Y y1 y0 Q R) (q : Int) (h : q * Y ≤ U * 4294967296 + d) : q ≤ Q := by
  obtain ⟨hY, y0n, y0l, y1l, y1h, dn, dl, Un, Ul, Qn, Ql, Rn, Rl, eq⟩ := D
  rcases Int.lt_or_le Q q with h' | h'
  · have := Int.mul_le_mul_of_nonneg_right (show Q + 1 ≤ q by omega) (show 0 ≤ Y by omega)
    rw [Int.add_mul, Int.one_mul] at this
    omega
  · exact h'

theorem Digit.mulY {U d Y y1 y0 Q R : Int} (D : Digit U d Y y1 y0 Q R) (q : Int) : q * Y = q * y1 * 4294967296 + q * y0 := by
  rw [D.hY, Int.mul_add, Int.mul_assoc]

theorem Digit.first {U d Y y1 y0 Q R : Int} (D : Digit U d Y y1 y0 Q R) : Q ≤ U / y1 ∧ U / y1 ≤ 4294967297 ∧ 0 ≤ U / y1 * y1 ∧ U / y1 * y1 ≤ U ∧ U - U / y1 * y1 < y1 := by
  have hm := D.mulY Q
  obtain ⟨hY, y0n, y0l, y1l, y1h, dn, dl, Un, Ul, Qn, Ql, Rn, Rl, eq⟩ := D
  have e1 := Int.mul_ediv_add_emod U y1
  have e2 := Int.emod_nonneg U (show y1 ≠ 0 by omega)
  have e3 := Int.emod_lt_of_pos U (show 0 < y1 by omega)
  have e4 := Int.ediv_nonneg Un (show 0 ≤ y1 by omega)
  rw [Int.mul_comm y1 (U / y1)] at e1
  have e5 : 0 ≤ Q * y0 := Int.mul_nonneg Qn y0n
  have e6 : Q * y1 ≤ U := by omega
  refine ⟨(Int.le_ediv_iff_mul_le (by omega)).2 e6, ?_, Int.mul_nonneg e4 (by omega), by omega, by omega⟩
  have : U / y1 < 4294967298 := by
    apply Int.ediv_lt_of_lt_mul (by omega)
    omega
  omega

/-- The loop goes on: the digit is less. -/
theorem Digit.more {U d Y y1 y0 Q R : Int} (D : Digit U d Y y1 y0 Q R) (q r : Int) (hr : r = U - q * y1) (hq : Q ≤ q) (h : 4294967296 ≤ q ∨ 4294967296 * r + d < q * y0) : Q ≤ q - 1 := by
  rcases h with h | h
  · have := D.Ql; omega
  · rcases Int.lt_or_le Q q with h' | h'
    · omega
    · exfalso
      have e : q = Q := by omega
      subst e
      have hm := D.mulY q
      have := D.eq
      have := D.Rn
      omega

/-- The loop ends by its test: it is the digit. -/
theorem Digit.done {U d Y y1 y0 Q R : Int} (D : Digit U d Y y1 y0 Q R) (q r : Int) (hr : r = U - q * y1) (hq : Q ≤ q) (h : ¬ 4294967296 * r + d < q * y0) : q = Q := by
  have hm := D.mulY q
  have := D.le_of q (by omega)
  omega

/-- The loop ends by its break: it is the digit. -/
theorem Digit.broke {U d Y y1 y0 Q R : Int} (D : Digit U d Y y1 y0 Q R) (q r : Int) (hr : r = U - q * y1) (hq : Q ≤ q) (hb : q ≤ 4294967296) (h : 4294967296 ≤ r) : q = Q := by
  have hm := D.mulY q
  have h1 := Int.mul_le_mul hb (show y0 ≤ 4294967295 by have := D.y0l; omega) D.y0n (by omega)
  have := D.dn
  have := D.le_of q (by omega)
  omega

/-- The rest, as it is reckoned with wraps. -/
theorem Digit.rest {U d Y y1 y0 Q R : Int} (D : Digit U d Y y1 y0 Q R) (hYl : Y < 18446744073709551616) : IntKind.u64.wrap (IntKind.u64.wrap (IntKind.u64.wrap (U * 4294967296) + d) - IntKind.u64.wrap (Q * Y)) = R := by
  obtain ⟨hY, y0n, y0l, y1l, y1h, dn, dl, Un, Ul, Qn, Ql, Rn, Rl, eq⟩ := D
  simp only [IntKind.wrap_u64]
  omega

theorem Digit.q_mul {U d Y y1 y0 Q R : Int} (D : Digit U d Y y1 y0 Q R) (q : Int) (h0 : 0 ≤ q) (h : q < 4294967296) : 0 ≤ q * y0 ∧ q * y0 < 18446744073709551616 := by
  refine ⟨Int.mul_nonneg h0 D.y0n, ?_⟩
  have h1 := Int.mul_le_mul (show q ≤ 4294967295 by omega) (show y0 ≤ 4294967295 by have := D.y0l; omega) D.y0n (by omega)
  omega

theorem up_words (lo : Int) (k : Nat) (hk : k ≤ 63) : lo * 2 ^ k = lo / 2 ^ (64 - k) * 18446744073709551616 + lo * 2 ^ k % 18446744073709551616 := by
  have e : (18446744073709551616 : Int) = 2 ^ (64 - k) * 2 ^ k := by
    rw [← Int.pow_add, show 64 - k + k = 64 from by omega]; decide
  have e2 : lo * 2 ^ k / 18446744073709551616 = lo / 2 ^ (64 - k) := by
    rw [e, Int.mul_ediv_mul_of_pos_left _ _ (Int.pow_pos (by decide))]
  have := Int.mul_ediv_add_emod (lo * 2 ^ k) 18446744073709551616
  rw [e2] at this
  omega

theorem up_low (lo : Int) (k : Nat) (hk : k ≤ 63) (h0 : 0 ≤ lo) (h1 : lo < 18446744073709551616) : 0 ≤ lo / 2 ^ (64 - k) ∧ lo / 2 ^ (64 - k) < 2 ^ k := by
  have hp : (0 : Int) < 2 ^ (64 - k) := Int.pow_pos (by decide)
  refine ⟨Int.ediv_nonneg h0 (Int.le_of_lt hp), Int.ediv_lt_of_lt_mul hp ?_⟩
  rw [← Int.pow_add, show k + (64 - k) = 64 from by omega]
  exact h1

theorem or_words (hi lo : Int) (k : Nat) (hk : k ≤ 63) (h0 : 0 ≤ hi) (hh : hi * 2 ^ k < 18446744073709551616) (l0 : 0 ≤ lo) (l1 : lo < 18446744073709551616) :
    bits .or .u64 (hi * 2 ^ k) (lo / 2 ^ (64 - k)) = hi * 2 ^ k + lo / 2 ^ (64 - k) := by
  obtain ⟨a, b⟩ := up_low lo k hk l0 l1
  have hp : (2 : Int) ^ k ≤ 2 ^ 63 := by
    have : (2 : Nat) ^ k ≤ 2 ^ 63 := Nat.pow_le_pow_right (by decide) hk
    exact_mod_cast this
  have e63 : (2 : Int) ^ 63 = 9223372036854775808 := by decide
  rw [e63] at hp
  refine bits_join .u64 64 (by decide) (fun n h h' => ?_) k _ _ (Int.mul_nonneg h0 (Int.le_of_lt (Int.pow_pos (by decide)))) (Int.mul_emod_left _ _) hh a b (by omega)
  rw [IntKind.wrap_u64]
  have e64 : (2 : Int) ^ 64 = 18446744073709551616 := by decide
  rw [e64] at h'
  omega

/-- The whole: both digits make the quotient; the last rest, moved down, is the rest. -/
theorem two_digits {hi lo y Y U V v1 v0 y1 y0 Q1 R1 Q0 R0 : Int} {k : Nat} (hy : 0 < y) (hY : y * 2 ^ k = Y)
    (hU : (hi * 18446744073709551616 + lo) * 2 ^ k = U * 18446744073709551616 + V) (hV : V = v1 * 4294967296 + v0)
    (D1 : Digit U v1 Y y1 y0 Q1 R1) (D0 : Digit R1 v0 Y y1 y0 Q0 R0) :
    (hi * 18446744073709551616 + lo) / y = Q1 * 4294967296 + Q0 ∧ (hi * 18446744073709551616 + lo) % y = R0 / 2 ^ k := by
  have e1 := D1.eq
  have e0 := D0.eq
  have hp : (0 : Int) < 2 ^ k := Int.pow_pos (by decide)
  have r0 := D0.Rn
  have r1 := D0.Rl
  generalize hn : hi * 18446744073709551616 + lo = n at *
  generalize hP : (2 : Int) ^ k = P at *
  have e : n * P = (Q1 * 4294967296 + Q0) * y * P + R0 := by
    rw [Int.mul_assoc, hY, Int.add_mul]
    have : Q1 * 4294967296 * Y = (Q1 * Y) * 4294967296 := by rw [Int.mul_assoc, Int.mul_comm 4294967296 Y, Int.mul_assoc]
    omega
  have hr : R0 = (n - (Q1 * 4294967296 + Q0) * y) * P := by rw [Int.sub_mul]; omega
  generalize hq : Q1 * 4294967296 + Q0 = q at *
  generalize hm : n - q * y = m at *
  have m0 : 0 ≤ m := by
    rcases Int.lt_or_le m 0 with h | h
    · have := Int.mul_neg_of_neg_of_pos h hp; omega
    · exact h
  have m1 : m < y := by
    rcases Int.lt_or_le m y with h | h
    · exact h
    · have := Int.mul_le_mul_of_nonneg_right h (Int.le_of_lt hp); omega
  have hd : R0 / P = m := by rw [hr]; exact Int.mul_ediv_cancel _ (by omega)
  have en : n = m + y * q := by rw [Int.mul_comm y q]; omega
  rw [hd, en]
  constructor
  · rw [Int.add_mul_ediv_left _ _ (by omega), Int.ediv_eq_zero_of_lt m0 m1]; omega
  · rw [Int.add_mul_emod_self_left, Int.emod_eq_of_lt m0 m1]
end Go.Proofs.YtljmggemdkfbiaaGreat
