/- The walk of WideModes. -/
import Derived.Test.YtlbmkjicbkfmjaaGreatLeaf
import Derived.Lib.BitFns
import Derived.Lib.Strings
import Derived.Lib.Walk
import Derived.WalkKit
import Derived.Laws.MathBits
import Derived.BigQuiet
import Derived.Test.YtlbmkjicbkfmjaaGreatCmp
import Derived.Test.YtlbmkjicbkfmjaaGreatRoot
import Derived.Test.YtlbmkjicbkfmjaaGreatTimes
import Derived.Deep.DeepCutAuto
/- The contract of math/bits.LeadingZeros64. -/
namespace Go.Proofs.YtlbmkjicbkfmjaaGreat
open Go.RowKit
set_option linter.unusedSimpArgs false
set_option linter.unusedVariables false

/-- n is how many bits x has. -/
def LenIs (x n : Int) : Prop := ∃ k : Nat, n = k ∧ k ≤ 64 ∧ x < 2 ^ k ∧ (0 < x → 2 ^ k ≤ 2 * x)

theorem len8_size : Lib.len8tab.size = 256 := by decide +kernel
theorem len8_all : ∀ b : Fin 256, b.val < 2 ^ (Lib.len8tab[b.val]'(by rw [len8_size]; exact b.isLt)).toNat ∧ (0 < b.val → 2 ^ (Lib.len8tab[b.val]'(by rw [len8_size]; exact b.isLt)).toNat ≤ 2 * b.val) ∧ (Lib.len8tab[b.val]'(by rw [len8_size]; exact b.isLt)).toNat ≤ 8 := by decide +kernel
/-- Behind a shift by c bits. -/
theorem len_of (x : Int) (c : Nat) (y : Int) (h0 : 0 ≤ x) (hc : c ≤ 56) (hy : y = x / 2 ^ c) (hb : y < 256) (hl : c = 0 ∨ 0 < y) (hz : y.toNat < Lib.len8tab.size) :
    LenIs x (wrap64 (c + wrap64 ((Lib.len8tab[y.toNat]'hz).toNat : Nat))) := by
  have hp : (0 : Int) < 2 ^ c := Int.pow_pos (by decide)
  have hy0 : 0 ≤ y := by rw [hy]; exact Int.ediv_nonneg h0 (Int.le_of_lt hp)
  obtain ⟨a1, a2, a3⟩ := len8_all ⟨y.toNat, by omega⟩
  simp only at a1 a2 a3
  generalize (Lib.len8tab[y.toNat]'hz).toNat = t at *
  have e1 : wrap64 (t : Int) = t := IntWalk.wrap64_in _ (by omega)
  rw [e1, IntWalk.wrap64_in ((c : Int) + t) (by omega)]
  refine ⟨c + t, by omega, by omega, ?_, ?_⟩
  · have b1 : y + 1 ≤ 2 ^ t := by
      have : ((y.toNat + 1 : Nat) : Int) ≤ ((2 ^ t : Nat) : Int) := by exact_mod_cast a1
      push_cast at this
      omega
    have b2 : x < (y + 1) * 2 ^ c := by
      rw [hy]; exact Int.lt_ediv_add_one_mul_self x hp
    have b3 : (y + 1) * 2 ^ c ≤ 2 ^ t * 2 ^ c := Int.mul_le_mul_of_nonneg_right b1 (Int.le_of_lt hp)
    rw [Int.pow_add, Int.mul_comm]
    omega
  · intro hx
    by_cases hyp : 0 < y
    · have b1 : (2 : Int) ^ t ≤ 2 * y := by
        have := a2 (by omega)
        have : ((2 ^ t : Nat) : Int) ≤ ((2 * y.toNat : Nat) : Int) := by exact_mod_cast this
        push_cast at this
        omega
      have b2 : y * 2 ^ c ≤ x := by rw [hy]; exact Int.ediv_mul_le x (by omega)
      have b3 : (2 : Int) ^ t * 2 ^ c ≤ (2 * y) * 2 ^ c := Int.mul_le_mul_of_nonneg_right b1 (Int.le_of_lt hp)
      rw [Int.pow_add, Int.mul_comm]
      rw [Int.mul_assoc] at b3
      omega
    · have : c = 0 := by omega
      subst this
      simp at hy
      omega

set_option maxHeartbeats 4000000 in
set_option maxRecDepth 100000 in
theorem len64_any (x : Int) (w : World) (h0 : 0 ≤ x) (h1 : x ≤ 18446744073709551615) :
    Calls Tryz.prog 178 #[.int .u64 x] w fun e w' => (∃ n : Int, e = .returned (.int .i64 n) ∧ LenIs x n) ∧ w' = w := by
  have hs := len8_size
  go_enter Tryz.func178, Tryz.ntmps178
  go_wp2
  all_goals (go_ret; refine ⟨⟨_, rfl, ?_⟩, rfl⟩)
  · exact len_of x 56 _ h0 (by decide) (by omega) (by omega) (by omega) _
  · exact len_of x 48 _ h0 (by decide) (by omega) (by omega) (by omega) _
  · exact len_of x 40 _ h0 (by decide) (by omega) (by omega) (by omega) _
  · exact len_of x 32 _ h0 (by decide) (by omega) (by omega) (by omega) _
  · exact len_of x 24 _ h0 (by decide) (by omega) (by omega) (by omega) _
  · exact len_of x 16 _ h0 (by decide) (by omega) (by omega) (by omega) _
  · exact len_of x 8 _ h0 (by decide) (by omega) (by omega) (by omega) _
  · have hz : x.toNat < Lib.len8tab.size := by rw [len8_size]; omega
    have := len_of x 0 x h0 (by decide) (by simp) (by omega) (by omega) hz
    simpa using this

/-- s is how many bits y can be moved up. -/
def LzIs (y s : Int) : Prop := ∃ k : Nat, s = k ∧ k ≤ 63 ∧ y * 2 ^ k < 18446744073709551616 ∧ 9223372036854775808 ≤ y * 2 ^ k
theorem lz_of_len {y n : Int} (h : LenIs y n) (hy : 0 < y) (hy1 : y < 18446744073709551616) : LzIs y (64 - n) := by
  obtain ⟨k, rfl, hk, h1, h2⟩ := h
  have h2 := h2 hy
  have hk0 : 1 ≤ k := by
    rcases Nat.eq_zero_or_pos k with e | e
    · subst e; simp at h1; omega
    · exact e
  refine ⟨64 - k, by omega, by omega, ?_, ?_⟩
  · have hp : (0 : Int) < 2 ^ (64 - k) := Int.pow_pos (by decide)
    have := Int.mul_lt_mul_of_pos_right h1 hp
    rw [← Int.pow_add, show k + (64 - k) = 64 from by omega] at this
    simpa using this
  · have hp : (0 : Int) < 2 ^ (64 - k) := Int.pow_pos (by decide)
    have := Int.mul_le_mul_of_nonneg_right h2 (Int.le_of_lt hp)
    rw [← Int.pow_add, show k + (64 - k) = 64 from by omega, Int.mul_assoc] at this
    have e : (2 : Int) ^ 64 = 18446744073709551616 := by decide
    rw [e] at this
    omega

theorem lz64_any (y : Int) (w : World) (h0 : 0 < y) (h1 : y < 18446744073709551616) :
    Calls Tryz.prog 165 #[.int .u64 y] w fun e w' => (∃ s : Int, e = .returned (.int .i64 s) ∧ LzIs y s) ∧ w' = w := by
  go_enter Tryz.func165, Tryz.ntmps165
  go_wp2_with fail
  refine (len64_any y _ (by omega) (by omega)).mono ?_
  rintro e w' ⟨⟨n, rfl, hn⟩, rfl⟩
  have hb : 0 ≤ n ∧ n ≤ 64 := by obtain ⟨k, rfl, hk, _⟩ := hn; omega
  obtain ⟨b1, b2⟩ := hb
  have H : Hid (LenIs y n) := hn
  clear hn
  go_wp2
  go_ret
  exact ⟨⟨_, rfl, lz_of_len H.out h0 h1⟩, rfl⟩
end Go.Proofs.YtlbmkjicbkfmjaaGreat

/- Plain arithmetic: a digit of a quotient, guessed and mended; the words of a number that is moved up. -/
namespace Go.Proofs.YtlbmkjicbkfmjaaGreat

/-- What is known of a digit: U·B + d by Y = y1·B + y0. -/
structure Digit (U d Y y1 y0 Q R : Int) : Prop where
  hY : Y = y1 * 4294967296 + y0
  y0n : 0 ≤ y0
  y0l : y0 < 4294967296
  y1l : 2147483648 ≤ y1
  y1h : y1 < 4294967296
  dn : 0 ≤ d
  dl : d < 4294967296
  Un : 0 ≤ U
  Ul : U < Y
  Qn : 0 ≤ Q
  Ql : Q ≤ 4294967295
  Rn : 0 ≤ R
  Rl : R < Y
  eq : U * 4294967296 + d = Q * Y + R

theorem digit_mk {U d Y y1 y0 : Int} (hY : Y = y1 * 4294967296 + y0) (y0n : 0 ≤ y0) (y0l : y0 < 4294967296) (y1l : 2147483648 ≤ y1) (y1h : y1 < 4294967296)
    (dn : 0 ≤ d) (dl : d < 4294967296) (Un : 0 ≤ U) (Ul : U < Y) : ∃ Q R, Digit U d Y y1 y0 Q R := by
  have hYp : 0 < Y := by omega
  have hN : 0 ≤ U * 4294967296 + d := by omega
  refine ⟨(U * 4294967296 + d) / Y, (U * 4294967296 + d) % Y, hY, y0n, y0l, y1l, y1h, dn, dl, Un, Ul, Int.ediv_nonneg hN (by omega), ?_, Int.emod_nonneg _ (by omega), Int.emod_lt_of_pos _ hYp, ?_⟩
  · have : (U * 4294967296 + d) / Y < 4294967296 := by
      apply Int.ediv_lt_of_lt_mul hYp
      omega
    omega
  · rw [Int.mul_comm ((U * 4294967296 + d) / Y) Y]
    exact (Int.mul_ediv_add_emod _ _).symm

theorem Digit.le_of {U d Y y1 y0 Q R : Int} (D : Digit U d Y y1 y0 Q R) (q : Int) (h : q * Y ≤ U * 4294967296 + d) : q ≤ Q := by
  obtain ⟨hY, y0n, y0l, y1l, y1h, dn, dl, Un, Ul, Qn, Ql, Rn, Rl, eq⟩ := D
  rcases Int.lt_or_le Q q with h' | h'
  · have := Int.mul_le_mul_of_nonneg_right (show Q + 1 ≤ q by omega) (show 0 ≤ Y by omega)
    rw [Int.add_mul, Int.one_mul] at this
    omega
  · exact h'

theorem Digit.mulY {U d Y y1 y0 Q R : Int} (D : Digit U d Y y1 y0 Q R) (q : Int) : q * Y = q * y1 * 4294967296 + q * y0 := by
  rw [D.hY, Int.mul_add, Int.mul_assoc]

theorem Digit.first {U d Y y1 y0 Q R : Int} (D : Digit U d Y y1 y0 Q R) : Q ≤ U / y1 ∧ U / y1 ≤ 4294967297 ∧ 0 ≤ U / y1 * y1 ∧ U / y1 * y1 ≤ U ∧ U - U / y1 * y1 < y1 := by
  have hm := D.mulY Q
  obtain ⟨hY, y0n, y0l, y1l, y1h, dn, dl, Un, Ul, Qn, Ql, Rn, Rl, eq⟩ := D
  have e1 := Int.mul_ediv_add_emod U y1
  have e2 := Int.emod_nonneg U (show y1 ≠ 0 by omega)
  have e3 := Int.emod_lt_of_pos U (show 0 < y1 by omega)
  have e4 := Int.ediv_nonneg Un (show 0 ≤ y1 by omega)
  rw [Int.mul_comm y1 (U / y1)] at e1
  have e5 : 0 ≤ Q * y0 := Int.mul_nonneg Qn y0n
  have e6 : Q * y1 ≤ U := by omega
  refine ⟨(Int.le_ediv_iff_mul_le (by omega)).2 e6, ?_, Int.mul_nonneg e4 (by omega), by omega, by omega⟩
  have : U / y1 < 4294967298 := by
    apply Int.ediv_lt_of_lt_mul (by omega)
    omega
  omega

/-- The loop goes on: the digit is less. -/
theorem Digit.more {U d Y y1 y0 Q R : Int} (D : Digit U d Y y1 y0 Q R) (q r : Int) (hr : r = U - q * y1) (hq : Q ≤ q) (h : 4294967296 ≤ q ∨ 4294967296 * r + d < q * y0) : Q ≤ q - 1 := by
  rcases h with h | h
  · have := D.Ql; omega
  · rcases Int.lt_or_le Q q with h' | h'
    · omega
    · exfalso
      have e : q = Q := by omega
      subst e
      have hm := D.mulY q
      have := D.eq
      have := D.Rn
      omega

/-- The loop ends by its test: it is the digit. -/
theorem Digit.done {U d Y y1 y0 Q R : Int} (D : Digit U d Y y1 y0 Q R) (q r : Int) (hr : r = U - q * y1) (hq : Q ≤ q) (h : ¬ 4294967296 * r + d < q * y0) : q = Q := by
  have hm := D.mulY q
  have := D.le_of q (by omega)
  omega

/-- The loop ends by its break: it is the digit. -/
theorem Digit.broke {U d Y y1 y0 Q R : Int} (D : Digit U d Y y1 y0 Q R) (q r : Int) (hr : r = U - q * y1) (hq : Q ≤ q) (hb : q ≤ 4294967296) (h : 4294967296 ≤ r) : q = Q := by
  have hm := D.mulY q
  have h1 := Int.mul_le_mul hb (show y0 ≤ 4294967295 by have := D.y0l; omega) D.y0n (by omega)
  have := D.dn
  have := D.le_of q (by omega)
  omega

/-- The rest, as it is reckoned with wraps. -/
theorem Digit.rest {U d Y y1 y0 Q R : Int} (D : Digit U d Y y1 y0 Q R) (hYl : Y < 18446744073709551616) : IntKind.u64.wrap (IntKind.u64.wrap (IntKind.u64.wrap (U * 4294967296) + d) - IntKind.u64.wrap (Q * Y)) = R := by
  obtain ⟨hY, y0n, y0l, y1l, y1h, dn, dl, Un, Ul, Qn, Ql, Rn, Rl, eq⟩ := D
  simp only [IntKind.wrap_u64]
  omega

theorem Digit.q_mul {U d Y y1 y0 Q R : Int} (D : Digit U d Y y1 y0 Q R) (q : Int) (h0 : 0 ≤ q) (h : q < 4294967296) : 0 ≤ q * y0 ∧ q * y0 < 18446744073709551616 := by
  refine ⟨Int.mul_nonneg h0 D.y0n, ?_⟩
  have h1 := Int.mul_le_mul (show q ≤ 4294967295 by omega) (show y0 ≤ 4294967295 by have := D.y0l; omega) D.y0n (by omega)
  omega

theorem up_words (lo : Int) (k : Nat) (hk : k ≤ 63) : lo * 2 ^ k = lo / 2 ^ (64 - k) * 18446744073709551616 + lo * 2 ^ k % 18446744073709551616 := by
  have e : (18446744073709551616 : Int) = 2 ^ (64 - k) * 2 ^ k := by
    rw [← Int.pow_add, show 64 - k + k = 64 from by omega]; decide
  have e2 : lo * 2 ^ k / 18446744073709551616 = lo / 2 ^ (64 - k) := by
    rw [e, Int.mul_ediv_mul_of_pos_left _ _ (Int.pow_pos (by decide))]
  have := Int.mul_ediv_add_emod (lo * 2 ^ k) 18446744073709551616
  rw [e2] at this
  omega

theorem up_low (lo : Int) (k : Nat) (hk : k ≤ 63) (h0 : 0 ≤ lo) (h1 : lo < 18446744073709551616) : 0 ≤ lo / 2 ^ (64 - k) ∧ lo / 2 ^ (64 - k) < 2 ^ k := by
  have hp : (0 : Int) < 2 ^ (64 - k) := Int.pow_pos (by decide)
  refine ⟨Int.ediv_nonneg h0 (Int.le_of_lt hp), Int.ediv_lt_of_lt_mul hp ?_⟩
  rw [← Int.pow_add, show k + (64 - k) = 64 from by omega]
  exact h1

theorem or_words (hi lo : Int) (k : Nat) (hk : k ≤ 63) (h0 : 0 ≤ hi) (hh : hi * 2 ^ k < 18446744073709551616) (l0 : 0 ≤ lo) (l1 : lo < 18446744073709551616) :
    bits .or .u64 (hi * 2 ^ k) (lo / 2 ^ (64 - k)) = hi * 2 ^ k + lo / 2 ^ (64 - k) := by
  obtain ⟨a, b⟩ := up_low lo k hk l0 l1
  have hp : (2 : Int) ^ k ≤ 2 ^ 63 := by
    have : (2 : Nat) ^ k ≤ 2 ^ 63 := Nat.pow_le_pow_right (by decide) hk
    exact_mod_cast this
  have e63 : (2 : Int) ^ 63 = 9223372036854775808 := by decide
  rw [e63] at hp
  refine bits_join .u64 64 (by decide) (fun n h h' => ?_) k _ _ (Int.mul_nonneg h0 (Int.le_of_lt (Int.pow_pos (by decide)))) (Int.mul_emod_left _ _) hh a b (by omega)
  rw [IntKind.wrap_u64]
  have e64 : (2 : Int) ^ 64 = 18446744073709551616 := by decide
  rw [e64] at h'
  omega

/-- The whole: both digits make the quotient; the last rest, moved down, is the rest. -/
theorem two_digits {hi lo y Y U V v1 v0 y1 y0 Q1 R1 Q0 R0 : Int} {k : Nat} (hy : 0 < y) (hY : y * 2 ^ k = Y)
    (hU : (hi * 18446744073709551616 + lo) * 2 ^ k = U * 18446744073709551616 + V) (hV : V = v1 * 4294967296 + v0)
    (D1 : Digit U v1 Y y1 y0 Q1 R1) (D0 : Digit R1 v0 Y y1 y0 Q0 R0) :
    (hi * 18446744073709551616 + lo) / y = Q1 * 4294967296 + Q0 ∧ (hi * 18446744073709551616 + lo) % y = R0 / 2 ^ k := by
  have e1 := D1.eq
  have e0 := D0.eq
  have hp : (0 : Int) < 2 ^ k := Int.pow_pos (by decide)
  have r0 := D0.Rn
  have r1 := D0.Rl
  generalize hn : hi * 18446744073709551616 + lo = n at *
  generalize hP : (2 : Int) ^ k = P at *
  have e : n * P = (Q1 * 4294967296 + Q0) * y * P + R0 := by
    rw [Int.mul_assoc, hY, Int.add_mul]
    have : Q1 * 4294967296 * Y = (Q1 * Y) * 4294967296 := by rw [Int.mul_assoc, Int.mul_comm 4294967296 Y, Int.mul_assoc]
    omega
  have hr : R0 = (n - (Q1 * 4294967296 + Q0) * y) * P := by rw [Int.sub_mul]; omega
  generalize hq : Q1 * 4294967296 + Q0 = q at *
  generalize hm : n - q * y = m at *
  have m0 : 0 ≤ m := by
    rcases Int.lt_or_le m 0 with h | h
    · have := Int.mul_neg_of_neg_of_pos h hp; omega
    · exact h
  have m1 : m < y := by
    rcases Int.lt_or_le m y with h | h
    · exact h
    · have := Int.mul_le_mul_of_nonneg_right h (Int.le_of_lt hp); omega
  have hd : R0 / P = m := by rw [hr]; exact Int.mul_ediv_cancel _ (by omega)
  have en : n = m + y * q := by rw [Int.mul_comm y q]; omega
  rw [hd, en]
  constructor
  · rw [Int.add_mul_ediv_left _ _ (by omega), Int.ediv_eq_zero_of_lt m0 m1]; omega
  · rw [Int.add_mul_emod_self_left, Int.emod_eq_of_lt m0 m1]
end Go.Proofs.YtlbmkjicbkfmjaaGreat

/- The contract of math/bits.Div64. -/
namespace Go.Proofs.YtlbmkjicbkfmjaaGreat
open Go.RowKit
set_option linter.unusedSimpArgs false
set_option linter.unusedVariables false

theorem SmallBl (B : Nat) (w : World) (n : Nat) : Below B w (w.drewN n) := ⟨rfl, rfl, rfl, Nat.le_refl _, fun _ _ => rfl⟩
theorem div64_low (lo y : Int) (w : World) (hl : U64 lo) (hy : U64 y) (hlt : 0 < y) :
    Calls Tryz.prog 135 #[.int .u64 0, .int .u64 lo, .int .u64 y] w fun e w' =>
      (e = .returned (.tuple #[.int .u64 (lo / y), .int .u64 (lo % y)])) ∧ Below w.heap.size w w' := by
  obtain ⟨l0, l1⟩ := hl
  obtain ⟨y0, y1⟩ := hy
  have h1 : (y == 0) = false := by simp; omega
  have h2 : ¬ y ≤ 0 := by omega
  go_enter Tryz.func135, Tryz.ntmps135
  go_wp2
  go_quiet (fail)
  go_wp2
  go_ret2
  exact ⟨rfl, SmallBl _ _ _⟩

set_option maxHeartbeats 1000000 in
theorem div64_high (hi lo y : Int) (w : World) (hl : U64 lo) (hy : U64 y) (h0 : 0 < hi) (hlt : hi < y) :
    Calls Tryz.prog 135 #[.int .u64 hi, .int .u64 lo, .int .u64 y] w fun e w' =>
      (e = .returned (.tuple #[.int .u64 ((hi * 18446744073709551616 + lo) / y), .int .u64 ((hi * 18446744073709551616 + lo) % y)])) ∧ Below w.heap.size w w' := by
  obtain ⟨l0, l1⟩ := hl
  obtain ⟨y0, y1⟩ := hy
  have h1 : (y == 0) = false := by simp; omega
  have h2 : ¬ y ≤ hi := by omega
  have h3 : (hi == 0) = false := by simp; omega
  go_enter Tryz.func135, Tryz.ntmps135
  go_wp2_with fail
  refine (lz64_any y _ (by omega) y1).mono ?_
  rintro e w' ⟨⟨s, rfl, hs⟩, rfl⟩
  obtain ⟨k, rfl, hk, b1, b2⟩ := hs
  have hp : (0 : Int) < 2 ^ k := Int.pow_pos (by decide)
  have n1 : 0 ≤ hi * 2 ^ k := Int.mul_nonneg (by omega) (by omega)
  have n2 : hi * 2 ^ k + 2 ^ k ≤ y * 2 ^ k := by
    have := Int.mul_le_mul_of_nonneg_right (show hi + 1 ≤ y by omega) (Int.le_of_lt hp)
    rw [Int.add_mul, Int.one_mul] at this; exact this
  have hor := or_words hi lo k (by omega) (by omega) (by omega) l0 l1
  obtain ⟨n3, n4⟩ := up_low lo k (by omega) l0 l1
  have hwd := up_words lo k (by omega)
  have hUV : (hi * 18446744073709551616 + lo) * 2 ^ k = (hi * 2 ^ k + lo / 2 ^ (64 - k)) * 18446744073709551616 + IntKind.u64.wrap (lo * 2 ^ k) := by
    rw [IntKind.wrap_u64, Int.add_mul, Int.add_mul, Int.mul_assoc, Int.mul_comm 18446744073709551616 (2 ^ k), ← Int.mul_assoc, hwd]
    omega
  have hV : 0 ≤ IntKind.u64.wrap (lo * 2 ^ k) ∧ IntKind.u64.wrap (lo * 2 ^ k) < 18446744073709551616 := by rw [IntKind.wrap_u64]; omega
  rw [← hor] at hUV
  have hU : 0 ≤ bits .or .u64 (hi * 2 ^ k) (lo / 2 ^ (64 - k)) ∧ bits .or .u64 (hi * 2 ^ k) (lo / 2 ^ (64 - k)) < y * 2 ^ k := by rw [hor]; omega
  have HH : Hid ((hi * 18446744073709551616 + lo) * 2 ^ k = bits .or .u64 (hi * 2 ^ k) (lo / 2 ^ (64 - k)) * 18446744073709551616 + IntKind.u64.wrap (lo * 2 ^ k)) := hUV
  clear hUV hwd hor n4
  have hYa := and_low32 (y * 2 ^ k) (by omega) b1
  have hVa := and_low32 (IntKind.u64.wrap (lo * 2 ^ k)) hV.1 hV.2
  have hw1 : IntKind.u64.wrap (hi * 2 ^ k) = hi * 2 ^ k := by rw [IntKind.wrap_u64]; omega
  clear n3 n1 n2
  generalize gY : y * 2 ^ k = Y at *
  generalize gU : bits .or .u64 (hi * 2 ^ k) (lo / 2 ^ (64 - k)) = U at *
  generalize gV : IntKind.u64.wrap (lo * 2 ^ k) = V at *
  obtain ⟨U0, U1⟩ := hU
  obtain ⟨V0, V1⟩ := hV
  have HY : Hid (Y = Y / 4294967296 * 4294967296 + Y % 4294967296) := by show _ = _; omega
  have HV : Hid (V = V / 4294967296 * 4294967296 + V % 4294967296) := by show _ = _; omega
  have a1 : 2147483648 ≤ Y / 4294967296 ∧ Y / 4294967296 < 4294967296 := by omega
  have a0 : 0 ≤ Y % 4294967296 ∧ Y % 4294967296 < 4294967296 := by omega
  have c1 : 0 ≤ V / 4294967296 ∧ V / 4294967296 < 4294967296 := by omega
  have c0 : 0 ≤ V % 4294967296 ∧ V % 4294967296 < 4294967296 := by omega
  generalize gy1 : Y / 4294967296 = y1 at *
  generalize gy0 : Y % 4294967296 = y0 at *
  generalize gv1 : V / 4294967296 = v1 at *
  generalize gv0 : V % 4294967296 = v0 at *
  obtain ⟨a1, a1'⟩ := a1
  obtain ⟨a0, a0'⟩ := a0
  obtain ⟨c1, c1'⟩ := c1
  obtain ⟨c0, c0'⟩ := c0
  obtain ⟨Q1, R1, D1⟩ := digit_mk (U := U) (d := v1) HY.out a0 a0' a1 a1' c1 c1' U0 U1
  obtain ⟨Q0, R0, D0⟩ := digit_mk (U := R1) (d := v0) HY.out a0 a0' a1 a1' c0 c0' D1.Rn D1.Rl
  have fin := two_digits (by omega) gY HH.out HV.out D1 D0
  have HF : Hid ((hi * 18446744073709551616 + lo) / y = Q1 * 4294967296 + Q0 ∧ (hi * 18446744073709551616 + lo) % y = R0 / 2 ^ k) := fin
  clear fin HY HV HH
  obtain ⟨f1, f2, f3, f4, f5⟩ := D1.first
  obtain ⟨s1, s2, s3, s4, s5⟩ := D0.first
  have rR1 := D1.rest b1
  have rR0 := D0.rest b1
  have q1n := D1.Qn
  have q1l := D1.Ql
  have q0n := D0.Qn
  have q0l := D0.Ql
  have r1n := D1.Rn
  have r1l := D1.Rl
  have r0n := D0.Rn
  have r0l := D0.Rl
  generalize gq : U / y1 = qq at *
  generalize gp : R1 / y1 = pp at *
  go_wp2_with fail
  clear gU gV gy0 gv1 gv0 hYa hVa hw1
  go_loop [15, 16] (fun a b => ∃ q r : Int, a = .int .u64 q ∧ b = .int .u64 r ∧ r = U - q * y1 ∧ 0 ≤ r ∧ r < 4294967296 ∧ Q1 ≤ q ∧ q ≤ 4294967297) (fun a _ => (intOf a).toNat)
  case atStart => exact ⟨qq, U - qq * y1, by rw [← gq], by rw [← gq], rfl, by omega, by omega, f1, f2⟩
  case round =>
    clear f1 f2 f3 f4 f5
    obtain ⟨q, r, rfl, rfl, hr, hr0, hr1, hq1, hq2⟩ := hrel
    have HR : Hid (r = U - q * y1) := hr
    clear hr
    by_cases hb : 4294967296 ≤ q
    · have hm := D1.more q r HR.out hq1 (.inl hb)
      have HR' : Hid (r + y1 = U - (q - 1) * y1) := by show _ = _; rw [Int.sub_mul, Int.one_mul]; have := HR.out; omega
      by_cases hbr : 4294967296 ≤ r + y1
      · have hd := D1.broke (q - 1) (r + y1) HR'.out hm (by omega) hbr
        go_wp2_with fail
        clear hq1 hq2 hr0 hr1 hb
        try clear hm hbr hc
        go_loop [18, 16] (fun a b => ∃ q r : Int, a = .int .u64 q ∧ b = .int .u64 r ∧ r = R1 - q * y1 ∧ 0 ≤ r ∧ r < 4294967296 ∧ Q0 ≤ q ∧ q ≤ 4294967297) (fun a _ => (intOf a).toNat)
        case atStart => exact ⟨pp, R1 - pp * y1, rfl, rfl, rfl, by omega, by omega, s1, s2⟩
        case round =>
          obtain ⟨q, r, rfl, rfl, hr, hr0, hr1, hq1, hq2⟩ := hrel
          have HR : Hid (r = R1 - q * y1) := hr
          clear hr
          by_cases hb : 4294967296 ≤ q
          · have hm := D0.more q r HR.out hq1 (.inl hb)
            have HR' : Hid (r + y1 = R1 - (q - 1) * y1) := by show _ = _; rw [Int.sub_mul, Int.one_mul]; have := HR.out; omega
            by_cases hbr : 4294967296 ≤ r + y1
            · have hd := D0.broke (q - 1) (r + y1) HR'.out hm (by omega) hbr
              go_wp2
              go_ret2
              refine ⟨?_, Below.refl _ _⟩
              rw [HF.out.1, HF.out.2]
              rfl
            · go_wp2
              go_round
              case rel => exact ⟨q - 1, r + y1, rfl, rfl, HR'.out, by omega, by omega, hm, by omega⟩
              case measure => simp [intOf]; omega
          · obtain ⟨m0, m1⟩ := D0.q_mul q (by omega) (by omega)
            by_cases hc : 4294967296 * r + v0 < q * y0
            · have hm := D0.more q r HR.out hq1 (.inr hc)
              have HR' : Hid (r + y1 = R1 - (q - 1) * y1) := by show _ = _; rw [Int.sub_mul, Int.one_mul]; have := HR.out; omega
              by_cases hbr : 4294967296 ≤ r + y1
              · have hd := D0.broke (q - 1) (r + y1) HR'.out hm (by omega) hbr
                go_wp2
                go_ret2
                refine ⟨?_, Below.refl _ _⟩
                rw [HF.out.1, HF.out.2]
                rfl
              · go_wp2
                go_round
                case rel => exact ⟨q - 1, r + y1, rfl, rfl, HR'.out, by omega, by omega, hm, by omega⟩
                case measure => simp [intOf]; omega
            · have hd := D0.done q r HR.out hq1 hc
              subst hd
              go_wp2
              go_ret2
              refine ⟨?_, Below.refl _ _⟩
              rw [HF.out.1, HF.out.2]
              rfl
      · go_wp2
        go_round
        case rel => exact ⟨q - 1, r + y1, rfl, rfl, HR'.out, by omega, by omega, hm, by omega⟩
        case measure => simp [intOf]; omega
    · obtain ⟨m0, m1⟩ := D1.q_mul q (by omega) (by omega)
      by_cases hc : 4294967296 * r + v1 < q * y0
      · have hm := D1.more q r HR.out hq1 (.inr hc)
        have HR' : Hid (r + y1 = U - (q - 1) * y1) := by show _ = _; rw [Int.sub_mul, Int.one_mul]; have := HR.out; omega
        by_cases hbr : 4294967296 ≤ r + y1
        · have hd := D1.broke (q - 1) (r + y1) HR'.out hm (by omega) hbr
          go_wp2_with fail
          clear hq1 hq2 hr0 hr1 hb
          try clear hm hbr hc
          go_loop [18, 16] (fun a b => ∃ q r : Int, a = .int .u64 q ∧ b = .int .u64 r ∧ r = R1 - q * y1 ∧ 0 ≤ r ∧ r < 4294967296 ∧ Q0 ≤ q ∧ q ≤ 4294967297) (fun a _ => (intOf a).toNat)
          case atStart => exact ⟨pp, R1 - pp * y1, rfl, rfl, rfl, by omega, by omega, s1, s2⟩
          case round =>
            obtain ⟨q, r, rfl, rfl, hr, hr0, hr1, hq1, hq2⟩ := hrel
            have HR : Hid (r = R1 - q * y1) := hr
            clear hr
            by_cases hb : 4294967296 ≤ q
            · have hm := D0.more q r HR.out hq1 (.inl hb)
              have HR' : Hid (r + y1 = R1 - (q - 1) * y1) := by show _ = _; rw [Int.sub_mul, Int.one_mul]; have := HR.out; omega
              by_cases hbr : 4294967296 ≤ r + y1
              · have hd := D0.broke (q - 1) (r + y1) HR'.out hm (by omega) hbr
                go_wp2
                go_ret2
                refine ⟨?_, Below.refl _ _⟩
                rw [HF.out.1, HF.out.2]
                rfl
              · go_wp2
                go_round
                case rel => exact ⟨q - 1, r + y1, rfl, rfl, HR'.out, by omega, by omega, hm, by omega⟩
                case measure => simp [intOf]; omega
            · obtain ⟨m0, m1⟩ := D0.q_mul q (by omega) (by omega)
              by_cases hc : 4294967296 * r + v0 < q * y0
              · have hm := D0.more q r HR.out hq1 (.inr hc)
                have HR' : Hid (r + y1 = R1 - (q - 1) * y1) := by show _ = _; rw [Int.sub_mul, Int.one_mul]; have := HR.out; omega
                by_cases hbr : 4294967296 ≤ r + y1
                · have hd := D0.broke (q - 1) (r + y1) HR'.out hm (by omega) hbr
                  go_wp2
                  go_ret2
                  refine ⟨?_, Below.refl _ _⟩
                  rw [HF.out.1, HF.out.2]
                  rfl
                · go_wp2
                  go_round
                  case rel => exact ⟨q - 1, r + y1, rfl, rfl, HR'.out, by omega, by omega, hm, by omega⟩
                  case measure => simp [intOf]; omega
              · have hd := D0.done q r HR.out hq1 hc
                subst hd
                go_wp2
                go_ret2
                refine ⟨?_, Below.refl _ _⟩
                rw [HF.out.1, HF.out.2]
                rfl
        · go_wp2
          go_round
          case rel => exact ⟨q - 1, r + y1, rfl, rfl, HR'.out, by omega, by omega, hm, by omega⟩
          case measure => simp [intOf]; omega
      · have hd := D1.done q r HR.out hq1 hc
        subst hd
        go_wp2_with fail
        clear hq1 hq2 hr0 hr1 hb
        try clear hm hbr hc
        go_loop [18, 16] (fun a b => ∃ q r : Int, a = .int .u64 q ∧ b = .int .u64 r ∧ r = R1 - q * y1 ∧ 0 ≤ r ∧ r < 4294967296 ∧ Q0 ≤ q ∧ q ≤ 4294967297) (fun a _ => (intOf a).toNat)
        case atStart => exact ⟨pp, R1 - pp * y1, rfl, rfl, rfl, by omega, by omega, s1, s2⟩
        case round =>
          obtain ⟨q, r, rfl, rfl, hr, hr0, hr1, hq1, hq2⟩ := hrel
          have HR : Hid (r = R1 - q * y1) := hr
          clear hr
          by_cases hb : 4294967296 ≤ q
          · have hm := D0.more q r HR.out hq1 (.inl hb)
            have HR' : Hid (r + y1 = R1 - (q - 1) * y1) := by show _ = _; rw [Int.sub_mul, Int.one_mul]; have := HR.out; omega
            by_cases hbr : 4294967296 ≤ r + y1
            · have hd := D0.broke (q - 1) (r + y1) HR'.out hm (by omega) hbr
              go_wp2
              go_ret2
              refine ⟨?_, Below.refl _ _⟩
              rw [HF.out.1, HF.out.2]
              rfl
            · go_wp2
              go_round
              case rel => exact ⟨q - 1, r + y1, rfl, rfl, HR'.out, by omega, by omega, hm, by omega⟩
              case measure => simp [intOf]; omega
          · obtain ⟨m0, m1⟩ := D0.q_mul q (by omega) (by omega)
            by_cases hc : 4294967296 * r + v0 < q * y0
            · have hm := D0.more q r HR.out hq1 (.inr hc)
              have HR' : Hid (r + y1 = R1 - (q - 1) * y1) := by show _ = _; rw [Int.sub_mul, Int.one_mul]; have := HR.out; omega
              by_cases hbr : 4294967296 ≤ r + y1
              · have hd := D0.broke (q - 1) (r + y1) HR'.out hm (by omega) hbr
                go_wp2
                go_ret2
                refine ⟨?_, Below.refl _ _⟩
                rw [HF.out.1, HF.out.2]
                rfl
              · go_wp2
                go_round
                case rel => exact ⟨q - 1, r + y1, rfl, rfl, HR'.out, by omega, by omega, hm, by omega⟩
                case measure => simp [intOf]; omega
            · have hd := D0.done q r HR.out hq1 hc
              subst hd
              go_wp2
              go_ret2
              refine ⟨?_, Below.refl _ _⟩
              rw [HF.out.1, HF.out.2]
              rfl
end Go.Proofs.YtlbmkjicbkfmjaaGreat

/- The contract of wide.MulDiv. -/
namespace Go.Proofs.YtlbmkjicbkfmjaaGreat
open Go.RowKit
set_option linter.unusedSimpArgs false
set_option linter.unusedVariables false

theorem div64_any (p y : Int) (w : World) (hp : 0 ≤ p) (hy : U64 y) (hlt : p / 18446744073709551616 < y) :
    Calls Tryz.prog 135 #[.int .u64 (p / 18446744073709551616), .int .u64 (p % 18446744073709551616), .int .u64 y] w fun e w' =>
      (e = .returned (.tuple #[.int .u64 (p / y), .int .u64 (p % y)])) ∧ Bl w w' := by
  have hl : U64 (p % 18446744073709551616) := ⟨by omega, by omega⟩
  have e : p = p / 18446744073709551616 * 18446744073709551616 + p % 18446744073709551616 := by omega
  rcases (by omega : p / 18446744073709551616 = 0 ∨ 0 < p / 18446744073709551616) with h | h
  · have := div64_low (p % 18446744073709551616) y w hl hy (by omega)
    rw [h]
    rw [h, Int.zero_mul, Int.zero_add] at e
    rw [← e] at this
    rw [← e]
    exact this
  · have := div64_high (p / 18446744073709551616) (p % 18446744073709551616) y w hl hy h hlt
    rw [← e] at this
    exact this

/-- Is a times b by c below 0? -/
def belB (a b c : Int) : Bool := decide (a * b * c < 0)
/-- What is left of a times b by c, without signs, rounded. -/
def mdC (a b c mode : Int) : Int := upI (szI a * szI b / szI c) (outB (szI a * szI b / szI c) (szI a * szI b % szI c) (szI c) (belB a b c) mode)
def mdG (a b c mode : Int) : Bool := rightB a && rightB b && rightB c && !(c == 0) && modeB mode
/-- P1.1: MulDiv. -/
def mdN (a b c mode : Int) : Int := if mdG a b c mode then rdN (mdC a b c mode) (belB a b c) else 0
def mdB (a b c mode : Int) : Bool := mdG a b c mode && rdB (mdC a b c mode)

theorem upI_le (q : Int) (o : Bool) : q ≤ upI q o := by unfold upI; split <;> omega

set_option maxHeartbeats 1000000 in
theorem mulDiv_good (a b c mode : Int) (ha : rightB a = true) (hb : rightB b = true) (hc : rightB c = true) (hz : (c == 0) = false) (hm : modeB mode = true) (w : World) :
    Calls Tryz.prog 110 #[.int .i64 a, .int .i64 b, .int .i64 c, .int .i64 mode] w fun e w' =>
      e = .returned (.tuple #[.int .i64 (rdN (mdC a b c mode) (belB a b c)), .bool (rdB (mdC a b c mode))]) ∧ Bl w w' := by
  have e1 : wrap64 (cmpI a 0 * cmpI b 0) = cmpI (a * b) 0 := by rw [sgn_mul]; exact wrap64_unit (cmpI_bd _ _)
  have e2 : wrap64 (cmpI (a * b) 0 * cmpI c 0) = cmpI (a * b * c) 0 := by rw [sgn_mul]; exact wrap64_unit (cmpI_bd _ _)
  have e3 : decide (cmpI (a * b * c) 0 < 0) = belB a b c := by
    unfold belB
    rcases cmpI_three (a * b * c) 0 with ⟨h, e⟩ | ⟨h, e⟩ | ⟨h, e⟩ <;> rw [e] <;> simp <;> omega
  have hp := mul_hi (szI_right ha) (szI_right hb)
  have hd := szI_right hc
  have hd0 : 0 < szI c := by
    have : c ≠ 0 := by simpa using hz
    unfold szI; split <;> omega
  have ia := right_i64 ha
  have ib := right_i64 hb
  have ic := right_i64 hc
  unfold mdC
  have P := product_any a b ia ib
  have S := size_any c ic
  generalize szI a * szI b = p at *
  generalize szI c = d at *
  generalize belB a b c = bl at *
  have HP : Hid _ := P
  have HS : Hid _ := S
  clear P S
  by_cases hbig : d ≤ p / 18446744073709551616
  · have hq : 4611686018427387903 < p / d := by
      have := (Int.le_ediv_iff_mul_le (c := d) (a := 18446744073709551616) (b := p) hd0).2 (by omega)
      omega
    have hu := upI_le (p / d) (outB (p / d) (p % d) d bl mode)
    have r1 : rdN (upI (p / d) (outB (p / d) (p % d) d bl mode)) bl = 0 := by unfold rdN; rw [if_pos (by omega)]
    have r2 : rdB (upI (p / d) (outB (p / d) (p % d) d bl mode)) = false := by unfold rdB; exact decide_eq_false (by omega)
    rw [r1, r2]
    clear r1 r2 hu hq e1 e2 e3
    go_enter Tryz.func110, Tryz.ntmps110
    go_wp2_with (first
      | (go_at_call 147; refine (right_any _ _).mono ?_; rintro e w' ⟨rfl, rfl⟩)
      | (go_at_call 148; refine (isMode_any _ _).mono ?_; rintro e w' ⟨rfl, rfl⟩))
    refine (HP.out _).mono ?_
    rintro e w1 ⟨rfl, h1⟩
    go_wp2_with fail
    refine (HS.out _).mono ?_
    rintro e w2 ⟨rfl, rfl⟩
    go_wp2
    go_ret2
    exact ⟨rfl, h1.alloc _⟩
  · go_enter Tryz.func110, Tryz.ntmps110
    go_wp2_with (first
      | (go_at_call 147; refine (right_any _ _).mono ?_; rintro e w' ⟨rfl, rfl⟩)
      | (go_at_call 148; refine (isMode_any _ _).mono ?_; rintro e w' ⟨rfl, rfl⟩))
    refine (HP.out _).mono ?_
    rintro e w1 ⟨rfl, h1⟩
    go_wp2_with fail
    refine (HS.out _).mono ?_
    rintro e w2 ⟨rfl, rfl⟩
    go_wp2_with fail
    refine (div64_any p d _ hp.1 (by unfold U64; omega) (by omega)).mono ?_
    rintro e w3 ⟨rfl, h3⟩
    have q0 : 0 ≤ p / d := Int.ediv_nonneg hp.1 (by omega)
    have r0 : 0 ≤ p % d := Int.emod_nonneg _ (by omega)
    have r1 : p % d < d := Int.emod_lt_of_pos _ hd0
    have R := rounded_any (p / d) (p % d) d mode bl r0 (by omega) q0 hm
    have HR : Hid _ := R
    clear R
    go_wp2_with (go_at_call 151; refine (sign_any _ _).mono ?_; rintro e w' ⟨rfl, rfl⟩)
    refine (HR.out _).mono ?_
    rintro e w4 ⟨rfl, rfl⟩
    go_wp2
    go_ret2
    exact ⟨rfl, (h1.alloc _).trans h3⟩

theorem mulDiv_any (a b c mode : Int) (w : World) :
    Calls Tryz.prog 110 #[.int .i64 a, .int .i64 b, .int .i64 c, .int .i64 mode] w fun e w' =>
      e = .returned (.tuple #[.int .i64 (mdN a b c mode), .bool (mdB a b c mode)]) ∧ Bl w w' := by
  unfold mdN mdB mdG
  cases ha : rightB a
  · go_enter Tryz.func110, Tryz.ntmps110
    go_wp2_with (first
      | (go_at_call 147; refine (right_any _ _).mono ?_; rintro e w' ⟨rfl, rfl⟩)
      | (go_at_call 148; refine (isMode_any _ _).mono ?_; rintro e w' ⟨rfl, rfl⟩))
    go_ret2
    exact ⟨rfl, Bl.refl _⟩
  cases hb : rightB b
  · go_enter Tryz.func110, Tryz.ntmps110
    go_wp2_with (first
      | (go_at_call 147; refine (right_any _ _).mono ?_; rintro e w' ⟨rfl, rfl⟩)
      | (go_at_call 148; refine (isMode_any _ _).mono ?_; rintro e w' ⟨rfl, rfl⟩))
    go_ret2
    exact ⟨rfl, Bl.refl _⟩
  cases hc : rightB c
  · go_enter Tryz.func110, Tryz.ntmps110
    go_wp2_with (first
      | (go_at_call 147; refine (right_any _ _).mono ?_; rintro e w' ⟨rfl, rfl⟩)
      | (go_at_call 148; refine (isMode_any _ _).mono ?_; rintro e w' ⟨rfl, rfl⟩))
    go_ret2
    exact ⟨rfl, Bl.refl _⟩
  cases hz : (c == 0)
  case true =>
    go_enter Tryz.func110, Tryz.ntmps110
    go_wp2_with (first
      | (go_at_call 147; refine (right_any _ _).mono ?_; rintro e w' ⟨rfl, rfl⟩)
      | (go_at_call 148; refine (isMode_any _ _).mono ?_; rintro e w' ⟨rfl, rfl⟩))
    go_ret2
    exact ⟨rfl, Bl.refl _⟩
  case false =>
    cases hm : modeB mode
    case false =>
      go_enter Tryz.func110, Tryz.ntmps110
      go_wp2_with (first
        | (go_at_call 147; refine (right_any _ _).mono ?_; rintro e w' ⟨rfl, rfl⟩)
        | (go_at_call 148; refine (isMode_any _ _).mono ?_; rintro e w' ⟨rfl, rfl⟩))
      go_ret2
      exact ⟨rfl, Bl.refl _⟩
    case true => exact mulDiv_good a b c mode ha hb hc hz hm w
end Go.Proofs.YtlbmkjicbkfmjaaGreat

/- Contracts of fx.Right, fx.told, and of the document's Right and Told (layer 2). -/
namespace Go.Proofs.YtlbmkjicbkfmjaaGreat
open Go.RowKit
set_option linter.unusedSimpArgs false
set_option linter.unusedVariables false

/-- May the number of units be (P2.1)? -/
def frB (n : Int) : Bool := decide (-1125899906842624 ≤ n) && decide (n ≤ 1125899906842624)
theorem frB_iff {n : Int} : frB n = true ↔ -1125899906842624 ≤ n ∧ n ≤ 1125899906842624 := by simp [frB]
theorem frB_eq {n : Int} (h : -1125899906842624 ≤ n ∧ n ≤ 1125899906842624) : frB n = true := frB_iff.2 h
theorem frB_right {n : Int} (h : frB n = true) : rightB n = true := by have := frB_iff.1 h; exact rightB_eq (by omega)
/-- A number, where it is told. -/
def toN (x : Int) (ok : Bool) : Int := if ok then x else 0
theorem toN_t (x : Int) : toN x true = x := rfl
theorem toN_f (x : Int) : toN x false = 0 := rfl
theorem toN_bd (x : Int) (ok : Bool) (h : ok = true → frB x = true) : -1125899906842624 ≤ toN x ok ∧ toN x ok ≤ 1125899906842624 := by
  cases ok
  · rw [toN_f]; omega
  · rw [toN_t]; exact frB_iff.1 (h rfl)

theorem fright_any (n : Int) (w : World) :
    Calls Tryz.prog 65 #[.int .i64 n] w fun e w' => e = .returned (.bool (frB n)) ∧ w' = w := by
  unfold frB
  by_cases h : -1125899906842624 ≤ n
  · by_cases h2 : n ≤ 1125899906842624
    · go_enter Tryz.func65, Tryz.ntmps65
      go_wp2
      go_ret
      exact ⟨by simp [h, h2], rfl⟩
    · go_enter Tryz.func65, Tryz.ntmps65
      go_wp2
      go_ret
      exact ⟨by simp [h, h2], rfl⟩
  · go_enter Tryz.func65, Tryz.ntmps65
    go_wp2
    go_ret
    exact ⟨by simp; omega, rfl⟩

theorem fRefRight_any (n : Int) (w : World) :
    Calls Tryz.prog 140 #[.int .i64 n] w fun e w' => e = .returned (.bool (frB n)) ∧ w' = w := by
  unfold frB
  by_cases h : -1125899906842624 ≤ n
  · by_cases h2 : n ≤ 1125899906842624
    · go_enter Tryz.func140, Tryz.ntmps140
      go_wp2
      go_ret
      exact ⟨by simp [h, h2], rfl⟩
    · go_enter Tryz.func140, Tryz.ntmps140
      go_wp2
      go_ret
      exact ⟨by simp [h, h2], rfl⟩
  · go_enter Tryz.func140, Tryz.ntmps140
    go_wp2
    go_ret
    exact ⟨by simp; omega, rfl⟩

/-- The document's Told. -/
theorem refTold_any (n : Int) (is : Bool) (w : World) :
    Calls Tryz.prog 141 #[.int .i64 n, .bool is] w fun e w' => e = .returned (.tuple #[.int .i64 (toN n (is && frB n)), .bool (is && frB n)]) ∧ w' = w := by
  cases is
  · go_enter Tryz.func141, Tryz.ntmps141
    go_wp2_with (go_at_call 140; refine (fRefRight_any _ _).mono ?_; rintro e w' ⟨rfl, rfl⟩)
    go_ret2
    exact ⟨rfl, rfl⟩
  · cases h : frB n
    · go_enter Tryz.func141, Tryz.ntmps141
      go_wp2_with (go_at_call 140; refine (fRefRight_any _ _).mono ?_; rintro e w' ⟨rfl, rfl⟩)
      go_ret2
      exact ⟨rfl, rfl⟩
    · go_enter Tryz.func141, Tryz.ntmps141
      go_wp2_with (go_at_call 140; refine (fRefRight_any _ _).mono ?_; rintro e w' ⟨rfl, rfl⟩)
      go_ret2
      exact ⟨rfl, rfl⟩

/-- What a number came of: all of it may be. -/
def allB (xs : List Int) : Bool := xs.all frB
theorem allB_take (xs : List Int) (k : Nat) (h : k < xs.length) (ht : allB (xs.take k) = true) : allB (xs.take (k + 1)) = frB (xs.getD k 0) := by
  rw [List.take_succ_eq_append_getElem h]
  unfold allB at ht ⊢
  rw [List.all_append, ht]
  simp [List.getD_eq_getElem?_getD, h]
theorem allB_false (xs : List Int) (k : Nat) (h : k < xs.length) (hf : frB (xs.getD k 0) = false) : allB xs = false := by
  unfold allB
  rw [Bool.eq_false_iff, ne_eq, List.all_eq_true]
  intro hall
  have := hall (xs[k]) (List.getElem_mem h)
  rw [List.getD_eq_getElem?_getD, List.getElem?_eq_getElem h] at hf
  simp [this] at hf

theorem told_no (n : Int) (is : Bool) (h : (is && frB n) = false) (v : Value) (w : World) :
    Calls Tryz.prog 111 #[.int .i64 n, .bool is, v] w fun e w' => e = .returned (.tuple #[.int .i64 0, .bool false]) ∧ w' = w := by
  cases is
  · clear h
    go_enter Tryz.func111, Tryz.ntmps111
    go_wp2_with (go_at_call 65; refine (fright_any _ _).mono ?_; rintro e w' ⟨rfl, rfl⟩)
    go_ret2
    exact ⟨rfl, rfl⟩
  · have hf : frB n = false := by simpa using h
    clear h
    go_enter Tryz.func111, Tryz.ntmps111
    go_wp2_with (go_at_call 65; refine (fright_any _ _).mono ?_; rintro e w' ⟨rfl, rfl⟩)
    go_ret2
    exact ⟨rfl, rfl⟩

theorem told_nil (n : Int) (is : Bool) (w : World) :
    Calls Tryz.prog 111 #[.int .i64 n, .bool is, .slice none 0 0] w fun e w' => e = .returned (.tuple #[.int .i64 (toN n (is && frB n)), .bool (is && frB n)]) ∧ w' = w := by
  cases h : (is && frB n)
  · exact told_no n is h _ w
  · rw [Bool.and_eq_true] at h
    obtain ⟨rfl, hf⟩ := h
    go_enter Tryz.func111, Tryz.ntmps111
    go_wp2_with (go_at_call 65; refine (fright_any _ _).mono ?_; rintro e w' ⟨rfl, rfl⟩)
    go_loop [19] (fun i => i = .int .i64 0) (fun i => 0)
    case atStart => rfl
    case round =>
      subst hrel
      go_wp2
      go_ret2
      exact ⟨rfl, rfl⟩

theorem told_any (n : Int) (is : Bool) (b o : Nat) (xs : List Int) (w : World) (hl : xs.length ≤ 8)
    (hc : ∀ k, k < xs.length → w.cell? ⟨b, o + k, none⟩ = some (.int .i64 (xs.getD k 0))) :
    Calls Tryz.prog 111 #[.int .i64 n, .bool is, .slice (some ⟨b, o, none⟩) xs.length xs.length] w fun e w' =>
      e = .returned (.tuple #[.int .i64 (toN n (is && frB n && allB xs)), .bool (is && frB n && allB xs)]) ∧ w' = w := by
  cases h : (is && frB n)
  · exact told_no n is h _ w
  · rw [Bool.and_eq_true] at h
    obtain ⟨rfl, hf⟩ := h
    go_enter Tryz.func111, Tryz.ntmps111
    go_wp2_with (go_at_call 65; refine (fright_any _ _).mono ?_; rintro e w' ⟨rfl, rfl⟩)
    go_loop [19] (fun i => ∃ k : Nat, k ≤ xs.length ∧ i = .int .i64 k ∧ allB (xs.take k) = true) (fun i => xs.length - (intOf i).toNat)
    case atStart => exact ⟨0, by omega, rfl, rfl⟩
    case round =>
      obtain ⟨k, hk, rfl, ha⟩ := hrel
      by_cases hlt : k < xs.length
      · have hck := hc k hlt
        have hs := allB_take xs k hlt ha
        have hno := allB_false xs k hlt
        generalize xs.getD k 0 = x at *
        have HS := hideP hs
        have HN := hideP hno
        clear hs hno ha hc
        cases hx : frB x
        · go_wp2_with (go_at_call 65; refine (fright_any _ _).mono ?_; rintro e w' ⟨rfl, rfl⟩)
          go_ret2
          exact ⟨by rw [HN.out hx]; rfl, rfl⟩
        · go_wp2_with (go_at_call 65; refine (fright_any _ _).mono ?_; rintro e w' ⟨rfl, rfl⟩)
          go_round
          case rel => exact ⟨k + 1, by omega, by go_num, by rw [HS.out]; exact hx⟩
          case measure => simp [intOf]; omega
      · have HA := hideP ha
        clear ha hc
        go_wp2
        go_ret2
        have e : xs.take k = xs := List.take_of_length_le (by omega)
        refine ⟨?_, rfl⟩
        have := HA.out
        rw [e] at this
        rw [this]; rfl
end Go.Proofs.YtlbmkjicbkfmjaaGreat

/- awake; the walks of WideSquares, WideBack, WideSigns, WideModes. -/
namespace Go.Proofs.YtlbmkjicbkfmjaaGreat
open Go.RowKit
set_option linter.unusedSimpArgs false
set_option linter.unusedVariables false

theorem szI_max (n : Int) : szI n = max n (-n) := by unfold szI; split <;> omega
theorem outB_zero (r g : Int) (b : Bool) (m : Int) (h : 0 < g) : outB r 0 g b m = false := by
  unfold outB
  split
  · simp
  · split
    · simp
    · rw [decide_eq_false (by omega : ¬ g < 2 * 0), decide_eq_false (by omega : ¬ 2 * 0 = g)]; rfl
theorem mode_of {m : Int} (h : m = 0 ∨ m = 1 ∨ m = 2) : modeB m = true := by rcases h with rfl | rfl | rfl <;> decide
theorem root_sq (n m : Int) (h : rightB n = true) (hm : modeB m = true) : rtN n n m = szI n ∧ rtB n n m = true := by
  have hs := szI_right h
  have e : szI n = rtF (szI n * szI n) := root_one _ _ hs.1 (Int.le_refl _) (by rw [Int.add_mul, Int.mul_add]; omega)
  have hn : decide (n * n < 0) = false := by
    rw [decide_eq_false_iff_not]
    have e : ∀ n : Int, szI n * szI n = n * n := fun n => by
      unfold szI; split
      · exact Int.neg_mul_neg n n
      · rfl
    have := Int.mul_nonneg hs.1 hs.1
    rw [e] at this
    omega
  have hg : rtG n n m = true := by unfold rtG; rw [h, hn, hm]; rfl
  have hc : rtC n n m = szI n := by
    unfold rtC
    rw [← e, show szI n * szI n - szI n * szI n = 0 by omega, outB_zero _ _ _ _ (by omega)]
    rfl
  unfold rtN rtB
  rw [hg, hc]
  constructor
  · rw [if_pos rfl]; unfold rdN; rw [if_neg (by omega)]; rfl
  · unfold rdB; simp; omega
theorem root_bad (a b m : Int) (h : rightB a = false ∨ rightB b = false) : rtN a b m = 0 ∧ rtB a b m = false := by
  have hg : rtG a b m = false := by unfold rtG; rcases h with h | h <;> rw [h] <;> simp
  unfold rtN rtB
  rw [hg]
  exact ⟨rfl, rfl⟩

theorem szI_neg (n : Int) : szI (-n) = szI n := by unfold szI; split <;> split <;> omega
theorem md_exact (a b c n m : Int) (ha : rightB a = true) (hb : rightB b = true) (hc : rightB c = true) (hn : rightB n = true) (hz : c ≠ 0) (hm : modeB m = true) (h : a * b = n * c) :
    mdN a b c m = n ∧ mdB a b c m = true := by
  have hg : mdG a b c m = true := by unfold mdG; rw [ha, hb, hc, hm]; simp [hz]
  have hd0 : 0 < szI c := by unfold szI; split <;> omega
  have hsn := szI_right hn
  have e : szI a * szI b = szI n * szI c := by rw [szI_mul, szI_mul, h]
  have hC : mdC a b c m = szI n := by
    unfold mdC
    rw [e, Int.mul_ediv_cancel _ (by omega), Int.mul_emod_left, outB_zero _ _ _ _ hd0]
    rfl
  have hbl : belB a b c = decide (n < 0) := by
    unfold belB
    rw [h, Int.mul_assoc]
    have hcc : 0 < c * c := by
      rcases Int.lt_or_gt_of_ne hz with k | k
      · exact Int.mul_pos_of_neg_of_neg k k
      · exact Int.mul_pos k k
    rcases (by omega : n < 0 ∨ n = 0 ∨ 0 < n) with k | k | k
    · have := Int.mul_neg_of_neg_of_pos k hcc; simp [k, this]
    · subst k; simp
    · have := Int.mul_pos k hcc
      rw [decide_eq_false (by omega), decide_eq_false (by omega)]
  unfold mdN mdB
  rw [hg, hC, hbl]
  constructor
  · rw [if_pos rfl]; unfold rdN; rw [if_neg (by omega)]
    unfold szI
    by_cases k : n < 0 <;> simp [k]
  · unfold rdB; simp; omega
theorem md_bad (a b c m : Int) (h : mdG a b c m = false) : mdN a b c m = 0 ∧ mdB a b c m = false := by
  unfold mdN mdB; rw [h]; exact ⟨rfl, rfl⟩
theorem mdG_bad {a b c m : Int} (h : rightB a = false ∨ rightB b = false ∨ rightB c = false) : mdG a b c m = false := by
  unfold mdG; rcases h with h | h | h <;> rw [h] <;> simp
theorem right_neg {a : Int} : rightB (-a) = rightB a := by
  unfold rightB
  rw [Bool.eq_iff_iff]; simp; omega
theorem right_wneg {a : Int} (h : I64 a) : rightB (wrap64 (-a)) = rightB a := by
  unfold I64 at h
  by_cases k : a = -9223372036854775808
  · subst k; unfold wrap64; decide
  · rw [IntWalk.wrap64_in _ (by omega)]; exact right_neg

end Go.Proofs.YtlbmkjicbkfmjaaGreat

/- The contract of the document's MulDiv. -/
namespace Go.Proofs.YtlbmkjicbkfmjaaGreat
open Go.RowKit
set_option linter.unusedSimpArgs false
set_option linter.unusedVariables false

/-- One step of a long division. -/
theorem long_step (N N' D x : Int) (hD : 0 < D) (h : N' = x + 2 * N) (x0 : 0 ≤ x) (x1 : x ≤ 1) :
    (2 * (N % D) + x < D → N' % D = 2 * (N % D) + x ∧ N' / D = 2 * (N / D)) ∧ (D ≤ 2 * (N % D) + x → N' % D = 2 * (N % D) + x - D ∧ N' / D = 2 * (N / D) + 1) := by
  have e := Int.mul_ediv_add_emod N D
  have r0 := Int.emod_nonneg N (show D ≠ 0 by omega)
  have r1 := Int.emod_lt_of_pos N hD
  generalize N / D = q at *
  generalize N % D = r at *
  constructor
  · intro hl
    have e' : N' = 2 * r + x + D * (2 * q) := by rw [h, ← e, ← Int.mul_assoc, Int.mul_comm D 2, Int.mul_assoc]; omega
    rw [e']
    exact ⟨by rw [Int.add_mul_emod_self_left, Int.emod_eq_of_lt (by omega) hl], by rw [Int.add_mul_ediv_left _ _ (by omega), Int.ediv_eq_zero_of_lt (by omega) hl, Int.zero_add]⟩
  · intro hl
    have hh : D * (2 * q + 1) = 2 * (D * q) + D := by rw [Int.mul_add, Int.mul_one, ← Int.mul_assoc, Int.mul_comm D 2, Int.mul_assoc]
    have e' : N' = 2 * r + x - D + D * (2 * q + 1) := by omega
    rw [e']
    exact ⟨by rw [Int.add_mul_emod_self_left, Int.emod_eq_of_lt (by omega) (by omega)], by rw [Int.add_mul_ediv_left _ _ (by omega), Int.ediv_eq_zero_of_lt (by omega) (by omega), Int.zero_add]⟩
theorem drop_bd (ps : List Int) (h : AllBits ps) (l : ps.length = 130) (j : Nat) : 0 ≤ bval (ps.drop (j + 1)) ∧ bval (ps.drop (j + 1)) < 680564733841876926926749214863536422912 := by
  have b := bval_bd _ (h.drop (j + 1))
  rw [List.length_drop, l] at b
  have h2 : (2 : Int) ^ (130 - (j + 1)) ≤ 680564733841876926926749214863536422912 := by
    have : (2 : Nat) ^ (130 - (j + 1)) ≤ 2 ^ 129 := Nat.pow_le_pow_right (by decide) (by omega)
    have e : ((2 ^ (130 - (j + 1)) : Nat) : Int) ≤ ((2 ^ 129 : Nat) : Int) := by exact_mod_cast this
    simpa using e
  omega
theorem div_le_self {N D : Int} (h0 : 0 ≤ N) (hD : 0 < D) : 0 ≤ N / D ∧ N / D ≤ N := ⟨Int.ediv_nonneg h0 (by omega), Int.ediv_le_self _ h0⟩

/-- Is it below 0? 1, if so. -/
def ng (a : Int) : Int := if a < 0 then 1 else 0
theorem ng_y {a : Int} (h : a < 0) : ng a = 1 := if_pos h
theorem ng_n {a : Int} (h : ¬ a < 0) : ng a = 0 := if_neg h
theorem ng_bd (a : Int) : 0 ≤ ng a ∧ ng a ≤ 1 := by unfold ng; split <;> decide
theorem upI_one (Q : Int) : upI Q true = Q + 1 := rfl
/-- Whether what is left goes away from 0, as the document counts it. -/
theorem more_even {Q R D : Int} (bl : Bool) (hD : 0 < D) (hR : 0 ≤ R) :
    (D < 2 * R ∧ outB Q R D bl 0 = true) ∨ (2 * R = D ∧ 0 < R ∧ outB Q R D bl 0 = (Q % 2 == 1)) ∨ (2 * R < D ∧ 0 < R ∧ outB Q R D bl 0 = false) ∨ (R = 0 ∧ outB Q R D bl 0 = false) := by
  have e : outB Q R D bl 0 = (decide (D < 2 * R) || (decide (2 * R = D) && decide (Q % 2 = 1))) := by simp [outB]
  rw [e]
  rcases (by omega : D < 2 * R ∨ (2 * R = D ∧ 0 < R) ∨ (2 * R < D ∧ 0 < R) ∨ R = 0) with h | h | h | h
  · exact .inl ⟨h, by rw [decide_eq_true h]; rfl⟩
  · exact .inr (.inl ⟨h.1, h.2, by rw [decide_eq_false (by omega), decide_eq_true h.1]; rfl⟩)
  · exact .inr (.inr (.inl ⟨h.1, h.2, by rw [decide_eq_false (by omega), decide_eq_false (by omega)]; rfl⟩))
  · exact .inr (.inr (.inr ⟨h, by rw [decide_eq_false (by omega), decide_eq_false (by omega)]; rfl⟩))
theorem low_bit (xs : List Int) (h : AllBits xs) (l : xs.length = 130) : bval xs % 2 = xs.getD 0 0 := by
  have := bval_drop_succ xs 0 (by omega)
  rw [List.drop_zero] at this
  have := h.getD 0
  omega
/-- Whether it goes away from 0, as far as the modes up to k tell. -/
def mrF (mode Q R D : Int) (bl : Bool) (k : Int) : Bool := if mode ≤ k then outB Q R D bl mode else false
theorem mrF_no {mode Q R D : Int} {bl : Bool} {k : Int} (h : ¬ mode ≤ k) : mrF mode Q R D bl k = false := if_neg h
theorem mrF_yes {mode Q R D : Int} {bl : Bool} {k : Int} (h : mode ≤ k) : mrF mode Q R D bl k = outB Q R D bl mode := if_pos h
/-- The signs, counted: odd just where the quotient is below 0; or there is nothing. -/
theorem signs_odd (a b c : Int) (hc : c ≠ 0) : ((ng a + ng b + ng c) % 2 == 1) = belB a b c ∨ szI a * szI b = 0 := by
  rcases (by omega : a < 0 ∨ a = 0 ∨ 0 < a) with h | h | h
  · rcases (by omega : b < 0 ∨ b = 0 ∨ 0 < b) with k | k | k
    · left
      have p1 := Int.mul_pos_of_neg_of_neg h k
      rcases (by omega : c < 0 ∨ 0 < c) with l | l
      · have := Int.mul_neg_of_pos_of_neg p1 l
        rw [ng_y h, ng_y k, ng_y l]; unfold belB; rw [decide_eq_true this]; rfl
      · have := Int.mul_pos p1 l
        rw [ng_y h, ng_y k, ng_n (by omega)]; unfold belB; rw [decide_eq_false (by omega)]; rfl
    · right; rw [k]; simp [szI]
    · left
      have p1 := Int.mul_neg_of_neg_of_pos h k
      rcases (by omega : c < 0 ∨ 0 < c) with l | l
      · have := Int.mul_pos_of_neg_of_neg p1 l
        rw [ng_y h, ng_n (by omega), ng_y l]; unfold belB; rw [decide_eq_false (by omega)]; rfl
      · have := Int.mul_neg_of_neg_of_pos p1 l
        rw [ng_y h, ng_n (by omega), ng_n (by omega)]; unfold belB; rw [decide_eq_true this]; rfl
  · right; rw [h]; simp [szI]
  · rcases (by omega : b < 0 ∨ b = 0 ∨ 0 < b) with k | k | k
    · left
      have p1 := Int.mul_neg_of_pos_of_neg h k
      rcases (by omega : c < 0 ∨ 0 < c) with l | l
      · have := Int.mul_pos_of_neg_of_neg p1 l
        rw [ng_n (by omega), ng_y k, ng_y l]; unfold belB; rw [decide_eq_false (by omega)]; rfl
      · have := Int.mul_neg_of_neg_of_pos p1 l
        rw [ng_n (by omega), ng_y k, ng_n (by omega)]; unfold belB; rw [decide_eq_true this]; rfl
    · right; rw [k]; simp [szI]
    · left
      have p1 := Int.mul_pos h k
      rcases (by omega : c < 0 ∨ 0 < c) with l | l
      · have := Int.mul_neg_of_pos_of_neg p1 l
        rw [ng_n (by omega), ng_n (by omega), ng_y l]; unfold belB; rw [decide_eq_true this]; rfl
      · have := Int.mul_pos p1 l
        rw [ng_n (by omega), ng_n (by omega), ng_n (by omega)]; unfold belB; rw [decide_eq_false (by omega)]; rfl

set_option maxHeartbeats 4000000 in
set_option maxRecDepth 1000000 in
theorem refMulDiv_good (a b c mode : Int) (ha : rightB a = true) (hb : rightB b = true) (hc : rightB c = true) (hz : (c == 0) = false) (hm0 : 0 ≤ mode) (hm2 : mode ≤ 2) (w : World) :
    Calls Tryz.prog 168 #[.int .i64 a, .int .i64 b, .int .i64 c, .int .i64 mode] w fun e w' =>
      e = .returned (.tuple #[.int .i64 (rdN (mdC a b c mode) (belB a b c)), .bool (rdB (mdC a b c mode))]) ∧ Bl w w' := by
  have ia := right_i64 ha
  have ib := right_i64 hb
  have ic := right_i64 hc
  have ka := rightB_iff.1 ha
  have kb := rightB_iff.1 hb
  have kc := rightB_iff.1 hc
  have sa := szI_right ha
  have sb := szI_right hb
  have sc := szI_right hc
  have hD : 0 < szI c := by
    have : c ≠ 0 := by simpa using hz
    unfold szI; split <;> omega
  have SA := hideP (refSize_any a ia (by omega))
  have SB := hideP (refSize_any b ib (by omega))
  have SC := hideP (refSize_any c ic (by omega))
  have HP := hideP (fun w => rtimes_any (szI a) (szI b) w sa.1 (by omega) sb.1 (by omega))
  have HC := hideP (fun w => bits_any (szI c) w sc.1 (by omega))
  have hpm := mul_hi sa sb
  unfold mdC
  generalize hpp : szI a * szI b = p at *
  generalize hdd : szI c = D at *
  have hd1 : decide (mode < 0) = false := decide_eq_false (by omega)
  have hd2 : decide (2 < mode) = false := decide_eq_false (by omega)
  have hd3 : ¬ 2 < mode := by omega
  clear ia ib ic
  go_enter Tryz.func168, Tryz.ntmps168
  go_wp2_with (go_at_call 179; refine (refRight_any _ _).mono ?_; rintro e w' ⟨rfl, rfl⟩)
  refine (SA.out _).mono ?_
  rintro e w1 ⟨rfl, rfl⟩
  go_wp2_with fail
  refine (SB.out _).mono ?_
  rintro e w2 ⟨rfl, rfl⟩
  go_wp2_with fail
  refine (HP.out _).mono ?_
  rintro e w3 ⟨vp, rfl, rp, h3⟩
  go_wp2_with fail
  refine (SC.out _).mono ?_
  rintro e w4 ⟨rfl, rfl⟩
  go_wp2_with fail
  refine (HC.out _).mono ?_
  rintro e w5 ⟨vd, rfl, rd, h5⟩
  go_wp2_with fail
  refine (bits_any 0 _ (by omega) (by omega)).mono ?_
  rintro e w6 ⟨vq, rfl, rq, h6⟩
  go_wp2_with fail
  refine (bits_any 0 _ (by omega) (by omega)).mono ?_
  rintro e w7 ⟨vr, rfl, rr, h7⟩
  have rp := ((rp.later h5).later h6).later h7
  have rd := (rd.later h6).later h7
  have rq := rq.later h7
  have hW := (((h3.trans h5).trans h6).trans h7)
  clear h3 h5 h6 h7
  obtain ⟨pb, op, cp, ps, rfl, hcp, hpb, lp, ap, hpv, cellp⟩ := rp
  have CP := hideP cellp
  have HPV := hideP hpv
  clear cellp hpv
  go_wp2_with fail
  go_loopw [12, 13, 14] (fun q r i wr => ∃ k : Nat, i = .int .i64 ((k : Int) - 1) ∧ k ≤ 130 ∧ Row wr q (bval (ps.drop k) / D) ∧ Row wr r (bval (ps.drop k) % D) ∧ Bl w7 wr) (fun _ _ i _ => (intOf i + 1).toNat)
  case atStart =>
    have e : ps.drop 130 = [] := List.drop_of_length_le (by omega)
    refine ⟨130, rfl, Nat.le_refl _, ?_, ?_, Bl.refl _⟩
    · rw [e, show bval ([] : List Int) = 0 from rfl, Int.zero_ediv]; exact rq
    · rw [e, show bval ([] : List Int) = 0 from rfl, Int.zero_emod]; exact rr
  case round =>
    obtain ⟨k, rfl, hk, hrq, hrr, hB⟩ := hrel
    cases k with
    | zero =>
      rw [show ((0 : Nat) : Int) - 1 = -1 from rfl]
      rw [List.drop_zero, HPV.out] at hrq hrr
      have Q0 := (div_le_self (D := D) (show 0 ≤ p by rw [← HPV.out]; exact (bval_bd ps ap).1) hD)
      have R0 := Int.emod_nonneg p (show D ≠ 0 by omega)
      have R1 := Int.emod_lt_of_pos p hD
      have nA := ng_bd a
      have nB := ng_bd b
      have nC := ng_bd c
      go_upto_if 78 with fail
      go_cut [16] (fun t wx => t = .int .i64 (ng a) ∧ wr = wx)
      case first =>
        by_cases hn : a < 0
        · have E := hideP (ng_y hn)
          go_wp2
          go_meet
          exact ⟨congrArg (Value.int .i64) (by have := E.out; omega), rfl⟩
        · have E := hideP (ng_n hn)
          go_wp2
          go_meet
          exact ⟨congrArg (Value.int .i64) (by have := E.out; omega), rfl⟩
      case rest =>
        obtain ⟨rfl, rfl⟩ := hcut
        go_upto_if 82 with fail
        go_cut [16] (fun t wx => t = .int .i64 (ng a + ng b) ∧ wr = wx)
        case first =>
          by_cases hn : b < 0
          · have E := hideP (ng_y hn)
            go_wp2
            go_meet
            exact ⟨congrArg (Value.int .i64) (by have := E.out; omega), rfl⟩
          · have E := hideP (ng_n hn)
            go_wp2
            go_meet
            exact ⟨congrArg (Value.int .i64) (by have := E.out; omega), rfl⟩
        case rest =>
          obtain ⟨rfl, rfl⟩ := hcut
          go_upto_if 86 with fail
          go_cut [16] (fun t wx => t = .int .i64 (ng a + ng b + ng c) ∧ wr = wx)
          case first =>
            by_cases hn : c < 0
            · have E := hideP (ng_y hn)
              go_wp2
              go_meet
              exact ⟨congrArg (Value.int .i64) (by have := E.out; omega), rfl⟩
            · have E := hideP (ng_n hn)
              go_wp2
              go_meet
              exact ⟨congrArg (Value.int .i64) (by have := E.out; omega), rfl⟩
          case rest =>
            obtain ⟨rfl, rfl⟩ := hcut
            obtain ⟨m, hm⟩ : ∃ m, m = ng a + ng b + ng c := ⟨_, rfl⟩
            obtain ⟨Q, hQ⟩ : ∃ Q, Q = p / D := ⟨_, rfl⟩
            obtain ⟨R, hR⟩ : ∃ R, R = p % D := ⟨_, rfl⟩
            obtain ⟨sm, hsm⟩ : ∃ sm, sm = decide (0 < R) := ⟨_, rfl⟩
            obtain ⟨nb, hnb⟩ : ∃ nb, nb = (m % 2 == 1) := ⟨_, rfl⟩
            obtain ⟨bl, hbl⟩ : ∃ bl, bl = belB a b c := ⟨_, rfl⟩
            have hnb0 : (m % 2 == 0) = !nb := by
              rw [hnb]
              rcases (by omega : m % 2 = 0 ∨ m % 2 = 1) with k | k <;> rw [k] <;> rfl
            have hsg : nb = bl ∨ p = 0 := by
              have := signs_odd a b c (by simpa using hz)
              rw [hpp, ← hm, ← hnb, ← hbl] at this
              exact this
            rw [← hm]
            rw [← hQ] at hrq Q0
            rw [← hR] at hrr R0 R1
            have m0 : 0 ≤ m := by omega
            have m3 : m ≤ 3 := by omega
            have hQ0 : p = 0 → Q = 0 ∧ R = 0 := by
              intro h; rw [hQ, hR, h]; exact ⟨Int.zero_ediv _, Int.zero_emod _⟩
            have GM := hideP hm
            have GQ := hideP hQ
            have GR := hideP hR
            have GS := hideP hsm
            have GB := hideP hbl
            have GSG := hideP hsg
            have GQ0 := hideP hQ0
            have rnb : (m % 2 == 1) = nb := hnb.symm
            clear hm hQ hR hsm hbl hsg hQ0 hnb nA nB nC
            have hdp := rd.later hB
            go_wp2_with fail
            refine (bits_any 0 _ (by omega) (by omega)).mono ?_
            rintro e x1 ⟨v1, rfl, q1, g1⟩
            go_wp2_with fail
            refine (less_any _ _ _ _ _ q1 (hrr.later g1)).mono ?_
            rw [← GS.out]
            rintro e x2 ⟨rfl, g2⟩
            go_wp2_with fail
            refine (up_any _ _ 0 _ ((hrr.later g1).later g2) (.inl rfl)).mono ?_
            rintro e x3 ⟨v3, rfl, q3, g3⟩
            have e3 : (2 * R + 0) % 1361129467683753853853498429727072845824 = 2 * R := by omega
            rw [e3] at q3
            clear e3 q1
            have G := ((g1.trans g2).trans g3)
            have hrq := hrq.later G
            have hdp := hdp.later G
            have hpB : p ≤ 21267647932558653957237540927630737409 ∨ True := .inr trivial
            clear hrr
            go_upto_if 95 with fail
            go_cut [19] (fun t wx => t = .bool (mrF mode Q R D bl 0) ∧ Bl x3 wx)
            case first =>
              by_cases hmo : mode = 0
              · have hmb : (mode == 0) = true := by simpa using hmo
                have EM : Hid (mrF mode Q R D bl 0 = outB Q R D bl 0) := by show _ = _; rw [mrF_yes (by omega), hmo]
                clear hmo
                rcases more_even (Q := Q) bl hD R0 with ⟨k, eo⟩ | ⟨k, k2, eo⟩ | ⟨k, k2, eo⟩ | ⟨k, eo⟩
                · have D1 := hideP (decide_eq_true k)
                  have EO := hideP eo
                  clear eo k
                  go_wp2_with fail
                  refine (less_any _ _ _ _ _ hdp q3).mono ?_
                  rw [D1.out]
                  rintro e x4 ⟨rfl, g4⟩
                  go_wp2
                  go_meet
                  exact ⟨congrArg Value.bool (by rw [EM.out, EO.out]), g4⟩
                · have D1 := hideP (decide_eq_false (show ¬ D < 2 * R by omega))
                  have D2 := hideP (decide_eq_false (show ¬ 2 * R < D by omega))
                  have S1 : sm = true := by rw [GS.out]; exact decide_eq_true k2
                  have EO := hideP eo
                  clear eo k k2
                  subst S1
                  obtain ⟨qb, oq, cq, qs, rfl, hcq, hqb, lq, aq, hqv, cellq⟩ := hrq
                  have c0 := cellq 0 (by omega)
                  have lb := low_bit qs aq lq
                  rw [hqv] at lb
                  rw [Nat.add_zero, ← lb] at c0
                  have C0 := hideP c0
                  clear cellq lb c0
                  go_wp2_with fail
                  refine (less_any _ _ _ _ _ hdp q3).mono ?_
                  rw [D1.out]
                  rintro e x4 ⟨rfl, g4⟩
                  go_wp2_with fail
                  refine (less_any _ _ _ _ _ (q3.later g4) (hdp.later g4)).mono ?_
                  rw [D2.out]
                  rintro e x5 ⟨rfl, g5⟩
                  have cc := (bl_cell (g4.trans g5) _ oq hqb).trans C0.out
                  go_wp2
                  go_meet
                  exact ⟨congrArg Value.bool (by rw [EM.out, EO.out]), g4.trans g5⟩
                · have D1 := hideP (decide_eq_false (show ¬ D < 2 * R by omega))
                  have D2 := hideP (decide_eq_true (show 2 * R < D by omega))
                  have S1 : sm = true := by rw [GS.out]; exact decide_eq_true k2
                  have EO := hideP eo
                  clear eo k k2
                  subst S1
                  go_wp2_with fail
                  refine (less_any _ _ _ _ _ hdp q3).mono ?_
                  rw [D1.out]
                  rintro e x4 ⟨rfl, g4⟩
                  go_wp2_with fail
                  refine (less_any _ _ _ _ _ (q3.later g4) (hdp.later g4)).mono ?_
                  rw [D2.out]
                  rintro e x5 ⟨rfl, g5⟩
                  go_wp2
                  go_meet
                  exact ⟨congrArg Value.bool (by rw [EM.out, EO.out]), g4.trans g5⟩
                · have D1 := hideP (decide_eq_false (show ¬ D < 2 * R by omega))
                  have S1 : sm = false := by rw [GS.out]; exact decide_eq_false (by omega)
                  have EO := hideP eo
                  clear eo k
                  subst S1
                  go_wp2_with fail
                  refine (less_any _ _ _ _ _ hdp q3).mono ?_
                  rw [D1.out]
                  rintro e x4 ⟨rfl, g4⟩
                  go_wp2
                  go_meet
                  exact ⟨congrArg Value.bool (by rw [EM.out, EO.out]), g4⟩
              · have hmb : (mode == 0) = false := by simpa using hmo
                have EM := hideP (mrF_no (mode := mode) (Q := Q) (R := R) (D := D) (bl := bl) (k := 0) (by omega))
                clear hmo
                go_wp2
                go_meet
                exact ⟨congrArg Value.bool (by rw [EM.out]), Bl.refl _⟩
            case rest =>
              obtain ⟨rfl, gc⟩ := hcut
              go_upto_if 115 with fail
              go_cut [19] (fun t wx => t = .bool (mrF mode Q R D bl 1) ∧ wc = wx)
              case first =>
                by_cases hmo : mode = 1
                · have hmb : (mode == 1) = true := by simpa using hmo
                  have EM : Hid (mrF mode Q R D bl 1 = (bl && decide (0 < R))) := by show _ = _; rw [mrF_yes (by omega), hmo]; simp [outB]
                  have ES : Hid ((sm && nb) = (bl && decide (0 < R))) := by
                    show _ = _
                    rw [GS.out]
                    rcases GSG.out with k | k
                    · rw [k, Bool.and_comm]
                    · rw [decide_eq_false (show ¬ 0 < R by have := GQ0.out k; omega)]; simp
                  clear hmo
                  cases sm
                  · go_wp2
                    go_meet
                    exact ⟨congrArg Value.bool (by rw [EM.out, ← ES.out]; rfl), rfl⟩
                  · go_wp2
                    go_meet
                    exact ⟨congrArg Value.bool (by rw [EM.out, ← ES.out]; rfl), rfl⟩
                · have hmb : (mode == 1) = false := by simpa using hmo
                  have EM : Hid (mrF mode Q R D bl 1 = mrF mode Q R D bl 0) := by
                    show _ = _
                    unfold mrF
                    rcases (by omega : mode = 0 ∨ mode = 2) with k | k <;> rw [k] <;> rfl
                  clear hmo
                  go_wp2
                  go_meet
                  exact ⟨congrArg Value.bool (by rw [EM.out]), rfl⟩
              case rest =>
                obtain ⟨rfl, rfl⟩ := hcut
                go_upto_if 123 with fail
                go_cut [19] (fun t wx => t = .bool (mrF mode Q R D bl 2) ∧ wc = wx)
                case first =>
                  by_cases hmo : mode = 2
                  · have hmb : (mode == 2) = true := by simpa using hmo
                    have EM : Hid (mrF mode Q R D bl 2 = (!bl && decide (0 < R))) := by show _ = _; rw [mrF_yes (by omega), hmo]; simp [outB]
                    have ES : Hid ((sm && !nb) = (!bl && decide (0 < R))) := by
                      show _ = _
                      rw [GS.out]
                      rcases GSG.out with k | k
                      · rw [k, Bool.and_comm]
                      · rw [decide_eq_false (show ¬ 0 < R by have := GQ0.out k; omega)]; simp
                    clear hmo
                    cases sm
                    · go_wp2
                      go_meet
                      exact ⟨congrArg Value.bool (by rw [EM.out, ← ES.out]; rfl), rfl⟩
                    · go_wp2
                      go_meet
                      exact ⟨congrArg Value.bool (by rw [EM.out, ← ES.out]; rfl), rfl⟩
                  · have hmb : (mode == 2) = false := by simpa using hmo
                    have EM : Hid (mrF mode Q R D bl 2 = mrF mode Q R D bl 1) := by
                      show _ = _
                      unfold mrF
                      rcases (by omega : mode = 0 ∨ mode = 1) with k | k <;> rw [k] <;> rfl
                    clear hmo
                    go_wp2
                    go_meet
                    exact ⟨congrArg Value.bool (by rw [EM.out]), rfl⟩
                case rest =>
                  obtain ⟨rfl, rfl⟩ := hcut
                  have hmr := mrF_yes (mode := mode) (Q := Q) (R := R) (D := D) (bl := bl) (k := 2) hm2
                  rw [hmr]
                  clear hmr
                  obtain ⟨o, ho⟩ : ∃ o, o = outB Q R D bl mode := ⟨_, rfl⟩
                  rw [← ho]
                  have GO := hideP ho
                  clear ho
                  have hrq := hrq.later gc
                  obtain ⟨pm0, pm1⟩ := hpm
                  go_upto_if 130 with fail
                  go_cut [12] (fun t wx => Row wx t (upI Q o) ∧ Bl wc wx)
                  case first =>
                    cases o
                    · go_wp2
                      go_meet
                      exact ⟨hrq, Bl.refl _⟩
                    · go_wp2_with fail
                      refine (bits_any 1 _ (by omega) (by omega)).mono ?_
                      rintro e x6 ⟨v6, rfl, q6, g6⟩
                      go_wp2_with fail
                      refine (add_any _ _ _ _ _ (hrq.later g6) q6).mono ?_
                      rintro e x7 ⟨v7, rfl, q7, g7⟩
                      have e7 : (Q + 1) % 1361129467683753853853498429727072845824 = Q + 1 := by omega
                      rw [e7, ← upI_one] at q7
                      clear e7
                      go_wp2
                      go_meet
                      exact ⟨q7, g6.trans g7⟩
                  case rest =>
                    obtain ⟨rC, gd⟩ := hcut
                    have hC0 := upI_le Q o
                    have EF : Hid (upI (p / D) (outB (p / D) (p % D) D (belB a b c) mode) = upI Q o ∧ belB a b c = bl) := by
                      show _ ∧ _
                      rw [← GQ.out, ← GR.out, ← GB.out, ← GO.out]
                      exact ⟨rfl, rfl⟩
                    have EZ : Hid (nb = bl ∨ upI Q o = 0) := by
                      show _ ∨ _
                      rcases GSG.out with k | k
                      · exact .inl k
                      · right
                        have := GQ0.out k
                        rw [GO.out, this.1, this.2, outB_zero _ _ _ _ hD]
                        rfl
                    have hWf := ((hW.trans hB).trans (G.trans gc)).trans gd
                    generalize upI Q o = C at *
                    have hgo : Hid (C < 4611686018427387904 ∨ ¬ C < 4611686018427387904) := by show _ ∨ _; omega
                    rcases hgo.out with hC | hC
                    · have e1 := hideP (show nmN C = C from if_pos hC)
                      have e2 := hideP (show nmB C = true from decide_eq_true hC)
                      have f2 := hideP (show rdB C = true from decide_eq_true (by omega))
                      have f1 : Hid (rdN C bl = if bl then -C else C) := by show _ = _; unfold rdN; rw [if_neg (by omega)]
                      have C0 : 0 ≤ C := by omega
                      cases nb
                      · have f3 : Hid (rdN C bl = C) := by
                          show _ = _
                          rw [f1.out]
                          rcases EZ.out with k | k
                          · rw [← k]; rfl
                          · rw [k]; split <;> rfl
                        go_wp2_with fail
                        refine (number_any _ _ _ rC).mono ?_
                        rw [e1.out, e2.out]
                        rintro e y1 ⟨rfl, z1⟩
                        go_wp2
                        go_ret2
                        refine ⟨?_, hWf.trans z1⟩
                        rw [EF.out.1, EF.out.2, f3.out, f2.out]
                        rfl
                      · have f3 : Hid (rdN C bl = -C) := by
                          show _ = _
                          rw [f1.out]
                          rcases EZ.out with k | k
                          · rw [← k]; rfl
                          · rw [k]; split <;> rfl
                        go_wp2_with fail
                        refine (number_any _ _ _ rC).mono ?_
                        rw [e1.out, e2.out]
                        rintro e y1 ⟨rfl, z1⟩
                        go_wp2
                        go_ret2
                        refine ⟨?_, hWf.trans z1⟩
                        rw [EF.out.1, EF.out.2, f3.out, f2.out]
                        first | rfl | (simp; done)
                    · have e1 := hideP (show nmN C = 0 from if_neg hC)
                      have e2 := hideP (show nmB C = false from decide_eq_false hC)
                      have f2 := hideP (show rdB C = false from decide_eq_false (by omega))
                      have f1 : Hid (rdN C bl = 0) := by show _ = _; unfold rdN; rw [if_pos (by omega)]
                      go_wp2_with fail
                      refine (number_any _ _ _ rC).mono ?_
                      rw [e1.out, e2.out]
                      rintro e y1 ⟨rfl, z1⟩
                      go_wp2
                      go_ret2
                      refine ⟨?_, hWf.trans z1⟩
                      rw [EF.out.1, EF.out.2, f1.out, f2.out]
                      rfl
    | succ j =>
      rw [show ((j + 1 : Nat) : Int) - 1 = (j : Int) from by omega]
      have gp := (bl_cell hB _ (op + j) hpb).trans (CP.out j (by omega))
      have x01 := ap.getD j
      have Dr := bval_drop_succ ps j (by omega)
      have bd := drop_bd ps ap lp j
      generalize ps.getD j 0 = x at *
      have LS := long_step (bval (ps.drop (j + 1))) (bval (ps.drop j)) D x hD Dr (by omega) (by omega)
      have dq := div_le_self (D := D) bd.1 hD
      have r0 := Int.emod_nonneg (bval (ps.drop (j + 1))) (show D ≠ 0 by omega)
      have r1 := Int.emod_lt_of_pos (bval (ps.drop (j + 1))) hD
      generalize bval (ps.drop (j + 1)) / D = Q at *
      generalize bval (ps.drop (j + 1)) % D = R at *
      generalize bval (ps.drop (j + 1)) = N at *
      have HX := hideP x01
      have HRQ := hideP hrq
      have HRR := hideP hrr
      have HLS := hideP LS
      clear x01 Dr hrq hrr LS
      have hjI : (j : Int) < 130 := by omega
      have hj0 : (0 : Int) ≤ (j : Int) := by omega
      go_wp2_with fail
      refine (up_any _ _ _ _ HRR.out HX.out).mono ?_
      rintro e w8 ⟨v8, rfl, r8, h8⟩
      have e8 : (2 * R + x) % 1361129467683753853853498429727072845824 = 2 * R + x := by have := HX.out; omega
      rw [e8] at r8
      by_cases hl : 2 * R + x < D
      · have DL := hideP (decide_eq_true hl)
        have F := HLS.out.1 hl
        have HF := hideP F
        clear hl F e8
        go_wp2_with fail
        refine (less_any _ _ _ _ _ r8 ((rd.later hB).later h8)).mono ?_
        rw [DL.out]
        rintro e w9 ⟨rfl, h9⟩
        go_wp2_with fail
        refine (up_any _ _ 0 _ ((HRQ.out.later h8).later h9) (.inl rfl)).mono ?_
        rintro e w10 ⟨v10, rfl, r10, h10⟩
        have e10 : (2 * Q + 0) % 1361129467683753853853498429727072845824 = 2 * Q := by omega
        rw [e10] at r10
        clear e10
        go_wp2
        go_roundw
        case rel =>
          refine ⟨j, rfl, by omega, ?_, ?_, ((hB.trans h8).trans h9).trans h10⟩
          · rw [HF.out.2]; exact r10
          · rw [HF.out.1]; exact (r8.later h9).later h10
        case measure => simp [intOf]
      · have DL := hideP (decide_eq_false hl)
        have F := HLS.out.2 (by omega)
        have HF := hideP F
        have es : (2 * R + x - D) % 1361129467683753853853498429727072845824 = 2 * R + x - D := by have := HX.out; omega
        have HES := hideP es
        clear hl F e8 es
        go_wp2_with fail
        refine (less_any _ _ _ _ _ r8 ((rd.later hB).later h8)).mono ?_
        rw [DL.out]
        rintro e w9 ⟨rfl, h9⟩
        go_wp2_with fail
        refine (sub_any _ _ _ _ _ (r8.later h9) (((rd.later hB).later h8).later h9)).mono ?_
        rintro e w11 ⟨v11, rfl, r11, h11⟩
        rw [HES.out] at r11
        go_wp2_with fail
        refine (up_any _ _ 1 _ (((HRQ.out.later h8).later h9).later h11) (.inr rfl)).mono ?_
        rintro e w10 ⟨v10, rfl, r10, h10⟩
        have e10 : (2 * Q + 1) % 1361129467683753853853498429727072845824 = 2 * Q + 1 := by omega
        rw [e10] at r10
        clear e10
        go_wp2
        go_roundw
        case rel =>
          refine ⟨j, rfl, by omega, ?_, ?_, (((hB.trans h8).trans h9).trans h11).trans h10⟩
          · rw [HF.out.2]; exact r10
          · rw [HF.out.1]; exact r11.later h10
        case measure => simp [intOf]
end Go.Proofs.YtlbmkjicbkfmjaaGreat

/- The walk of WideDivides. -/
namespace Go.Proofs.YtlbmkjicbkfmjaaGreat
open Go.RowKit
set_option linter.unusedSimpArgs false
set_option linter.unusedVariables false

set_option maxHeartbeats 1000000 in
theorem refMulDiv_bad (a b c mode : Int) (w : World)
    (hw : rightB a = false ∨ (rightB a = true ∧ rightB b = false) ∨ (rightB a = true ∧ rightB b = true ∧ rightB c = false) ∨ (rightB a = true ∧ rightB b = true ∧ rightB c = true ∧ (c == 0) = true) ∨
      (rightB a = true ∧ rightB b = true ∧ rightB c = true ∧ (c == 0) = false ∧ mode < 0) ∨ (rightB a = true ∧ rightB b = true ∧ rightB c = true ∧ (c == 0) = false ∧ 2 < mode)) :
    Calls Tryz.prog 168 #[.int .i64 a, .int .i64 b, .int .i64 c, .int .i64 mode] w fun e w' => e = .returned (.tuple #[.int .i64 0, .bool false]) ∧ Bl w w' := by
  rcases hw with h1 | ⟨h1, h2⟩ | ⟨h1, h2, h3⟩ | ⟨h1, h2, h3, h4⟩ | ⟨h1, h2, h3, h4, h5⟩ | ⟨h1, h2, h3, h4, h5⟩
  · go_enter Tryz.func168, Tryz.ntmps168
    go_wp2_with (go_at_call 179; refine (refRight_any _ _).mono ?_; rintro e w' ⟨rfl, rfl⟩)
    go_ret2
    exact ⟨rfl, Bl.refl _⟩
  · go_enter Tryz.func168, Tryz.ntmps168
    go_wp2_with (go_at_call 179; refine (refRight_any _ _).mono ?_; rintro e w' ⟨rfl, rfl⟩)
    go_ret2
    exact ⟨rfl, Bl.refl _⟩
  · go_enter Tryz.func168, Tryz.ntmps168
    go_wp2_with (go_at_call 179; refine (refRight_any _ _).mono ?_; rintro e w' ⟨rfl, rfl⟩)
    go_ret2
    exact ⟨rfl, Bl.refl _⟩
  · go_enter Tryz.func168, Tryz.ntmps168
    go_wp2_with (go_at_call 179; refine (refRight_any _ _).mono ?_; rintro e w' ⟨rfl, rfl⟩)
    go_ret2
    exact ⟨rfl, Bl.refl _⟩
  · have kd : decide (mode < 0) = true := decide_eq_true h5
    go_enter Tryz.func168, Tryz.ntmps168
    go_wp2_with (go_at_call 179; refine (refRight_any _ _).mono ?_; rintro e w' ⟨rfl, rfl⟩)
    go_ret2
    exact ⟨rfl, Bl.refl _⟩
  · have kd : decide (mode < 0) = false := decide_eq_false (by omega)
    go_enter Tryz.func168, Tryz.ntmps168
    go_wp2_with (go_at_call 179; refine (refRight_any _ _).mono ?_; rintro e w' ⟨rfl, rfl⟩)
    go_ret2
    exact ⟨rfl, Bl.refl _⟩

theorem refMulDiv_any (a b c mode : Int) (w : World) :
    Calls Tryz.prog 168 #[.int .i64 a, .int .i64 b, .int .i64 c, .int .i64 mode] w fun e w' =>
      e = .returned (.tuple #[.int .i64 (mdN a b c mode), .bool (mdB a b c mode)]) ∧ Bl w w' := by
  cases ha : rightB a
  · have x := md_bad a b c mode (mdG_bad (.inl ha))
    rw [x.1, x.2]
    exact refMulDiv_bad a b c mode w (.inl ha)
  cases hb : rightB b
  · have x := md_bad a b c mode (mdG_bad (.inr (.inl hb)))
    rw [x.1, x.2]
    exact refMulDiv_bad a b c mode w (.inr (.inl ⟨ha, hb⟩))
  cases hc : rightB c
  · have x := md_bad a b c mode (mdG_bad (.inr (.inr hc)))
    rw [x.1, x.2]
    exact refMulDiv_bad a b c mode w (.inr (.inr (.inl ⟨ha, hb, hc⟩)))
  cases hz : (c == 0)
  case true =>
    have x := md_bad a b c mode (by unfold mdG; rw [hz]; simp)
    rw [x.1, x.2]
    exact refMulDiv_bad a b c mode w (.inr (.inr (.inr (.inl ⟨ha, hb, hc, hz⟩))))
  case false =>
    by_cases hm : 0 ≤ mode ∧ mode ≤ 2
    · have hg : mdG a b c mode = true := by unfold mdG; rw [ha, hb, hc, hz, mode_of (by omega)]; rfl
      have := refMulDiv_good a b c mode ha hb hc hz hm.1 hm.2 w
      unfold mdN mdB
      rw [hg, if_pos rfl, Bool.true_and]
      exact this
    · have hmb : modeB mode = false := by
        unfold modeB
        rw [decide_eq_false (by omega), decide_eq_false (by omega), decide_eq_false (by omega)]; rfl
      have x := md_bad a b c mode (by unfold mdG; rw [hmb]; simp)
      rw [x.1, x.2]
      rcases (by omega : mode < 0 ∨ 2 < mode) with k | k
      · exact refMulDiv_bad a b c mode w (.inr (.inr (.inr (.inr (.inl ⟨ha, hb, hc, hz, k⟩)))))
      · exact refMulDiv_bad a b c mode w (.inr (.inr (.inr (.inr (.inr ⟨ha, hb, hc, hz, k⟩)))))

end Go.Proofs.YtlbmkjicbkfmjaaGreat

/- The contract of the document's Root. -/
namespace Go.Proofs.YtlbmkjicbkfmjaaGreat
open Go.RowKit
set_option linter.unusedSimpArgs false
set_option linter.unusedVariables false

theorem pow_step (j : Nat) : (2 : Int) ^ (j + 1) / 2 = 2 ^ j ∧ (2 : Int) ^ (j + 1) = 2 ^ j + 2 ^ j := by
  rw [Int.pow_succ]; omega

set_option maxHeartbeats 1000000 in
set_option maxRecDepth 1000000 in
theorem refRoot_any (a b : Int) (w : World) (ha : rightB a = true) (hb : rightB b = true) :
    Calls Tryz.prog 169 #[.int .i64 a, .int .i64 b] w fun e w' =>
      e = .returned (.tuple #[.int .i64 (rtF (szI a * szI b)), .bool (!decide (rtF (szI a * szI b) * rtF (szI a * szI b) < szI a * szI b))]) ∧ Bl w w' := by
  have ia := right_i64 ha
  have ib := right_i64 hb
  have ka := rightB_iff.1 ha
  have kb := rightB_iff.1 hb
  have sa := szI_right ha
  have sb := szI_right hb
  have hp := mul_hi sa sb
  have SA := hideP (refSize_any a ia (by omega))
  have SB := hideP (refSize_any b ib (by omega))
  have HP := hideP (fun w => rtimes_any (szI a) (szI b) w sa.1 (by omega) sb.1 (by omega))
  generalize szI a * szI b = p at *
  clear ia ib ka kb sa sb ha hb
  go_enter Tryz.func169, Tryz.ntmps169
  go_wp2_with fail
  refine (SA.out _).mono ?_
  rintro e w1 ⟨rfl, rfl⟩
  go_wp2_with fail
  refine (SB.out _).mono ?_
  rintro e w2 ⟨rfl, rfl⟩
  go_wp2_with fail
  refine (HP.out _).mono ?_
  rintro e w3 ⟨vp, rfl, rp, h3⟩
  have HRP := hideP rp
  clear rp
  go_wp2_with fail
  go_loopw [7, 8] (fun x s wr => ∃ (r : Int) (k : Nat), x = .int .i64 r ∧ s = .int .i64 (2 ^ k / 2) ∧ k ≤ 63 ∧ 0 ≤ r ∧ r * r ≤ p ∧ p < (r + 2 ^ k) * (r + 2 ^ k) ∧ r + 2 ^ k ≤ 9223372036854775808 ∧ Bl w3 wr) (fun _ s _ => (intOf s).toNat)
  case atStart =>
    have e63 : (2 : Int) ^ 63 = 9223372036854775808 := by decide
    refine ⟨0, 63, rfl, by rw [e63]; rfl, Nat.le_refl _, Int.le_refl _, by omega, by rw [e63]; omega, by rw [e63]; omega, Bl.refl _⟩
  case round =>
    obtain ⟨r, k, rfl, rfl, hk, r0, hr1, hr2, hr3, hB⟩ := hrel
    cases k with
    | zero =>
      have e := root_one p r r0 hr1 (by simpa using hr2)
      have E := hideP e
      rw [show (2 : Int) ^ 0 / 2 = 0 from by decide]
      have hr4 : r ≤ 9223372036854775807 := by rw [Int.pow_zero] at hr3; omega
      have T := fun w => rtimes_any r r w r0 hr4 r0 hr4
      have HT := hideP T
      clear e T hr2 hr3
      go_wp2_with fail
      refine (HT.out _).mono ?_
      rintro e w4 ⟨v4, rfl, r4, h4⟩
      go_wp2_with fail
      refine (less_any _ _ _ _ _ r4 (HRP.out.later (hB.trans h4))).mono ?_
      rintro e w5 ⟨rfl, h5⟩
      go_wp2
      go_ret2
      refine ⟨?_, ((h3.trans hB).trans h4).trans h5⟩
      rw [← E.out]
      rfl
    | succ j =>
      obtain ⟨e1, e2⟩ := pow_step j
      rw [e2] at hr2 hr3
      rw [e1]
      have hp0 := pow_pos2 j
      obtain ⟨P, hP⟩ : ∃ P : Int, P = 2 ^ j := ⟨_, rfl⟩
      rw [← hP] at hr2 hr3 hp0
      rw [← hP]
      have HPP := hideP hP
      have T := fun w => rtimes_any (r + P) (r + P) w (by omega) (by omega) (by omega) (by omega)
      have HT := hideP T
      have Hr2 := hideP hr2
      clear e1 e2 T hP hr2
      by_cases hc : p < (r + P) * (r + P)
      · have D := hideP (decide_eq_true hc)
        have HC := hideP hc
        clear hc
        go_wp2_with fail
        refine (HT.out _).mono ?_
        rintro e w4 ⟨v4, rfl, r4, h4⟩
        go_wp2_with fail
        refine (less_any _ _ _ _ _ (HRP.out.later (hB.trans h4)) r4).mono ?_
        rw [D.out]
        rintro e w5 ⟨rfl, h5⟩
        go_wp2
        go_roundw
        case rel => exact ⟨r, j, rfl, by rw [← HPP.out], by omega, r0, hr1, by rw [← HPP.out]; exact HC.out, by rw [← HPP.out]; omega, (hB.trans h4).trans h5⟩
        case measure => simp [intOf]; omega
      · have D := hideP (decide_eq_false hc)
        have HC := hideP hc
        clear hc
        go_wp2_with fail
        refine (HT.out _).mono ?_
        rintro e w4 ⟨v4, rfl, r4, h4⟩
        go_wp2_with fail
        refine (less_any _ _ _ _ _ (HRP.out.later (hB.trans h4)) r4).mono ?_
        rw [D.out]
        rintro e w5 ⟨rfl, h5⟩
        go_wp2
        go_roundw
        case rel => exact ⟨r + P, j, rfl, by rw [← HPP.out], by omega, by omega, by have := HC.out; omega, by rw [← HPP.out, Int.add_assoc]; exact Hr2.out, by rw [← HPP.out]; omega, (hB.trans h4).trans h5⟩
        case measure => simp [intOf]; omega
end Go.Proofs.YtlbmkjicbkfmjaaGreat

/- Contracts of fx.Of, Add, Sub, Mul, Div, Root, and of the document's Mul, Div, Root (layer 2). -/
namespace Go.Proofs.YtlbmkjicbkfmjaaGreat
open Go.RowKit
set_option linter.unusedSimpArgs false
set_option linter.unusedVariables false

theorem allB2 (a b : Int) : allB [a, b] = (frB a && frB b) := by simp [allB]
theorem allB1 (a : Int) : allB [a] = frB a := by simp [allB]
/-- Is a product told (P2.1), and which is it? -/
def fmB (a b m : Int) : Bool := mdB a b 16777216 m && frB (mdN a b 16777216 m) && allB [a, b]
def fmN (a b m : Int) : Int := toN (mdN a b 16777216 m) (fmB a b m)
/-- A quotient. -/
def fdB (a b m : Int) : Bool := mdB a 16777216 b m && frB (mdN a 16777216 b m) && allB [a, b]
def fdN (a b m : Int) : Int := toN (mdN a 16777216 b m) (fdB a b m)
/-- A root. -/
def fqB (a m : Int) : Bool := rtB a 16777216 m && frB (rtN a 16777216 m) && allB [a]
def fqN (a m : Int) : Int := toN (rtN a 16777216 m) (fqB a m)
/-- A sum, a difference. -/
def faB (a b : Int) : Bool := frB (a + b) && allB [a, b]
def faN (a b : Int) : Int := toN (a + b) (faB a b)
def fsB (a b : Int) : Bool := frB (a - b) && allB [a, b]
def fsN (a b : Int) : Int := toN (a - b) (fsB a b)

theorem two_cells (w : World) (a b : Int) (t : TypeId) : ∀ k, k < [a, b].length → (w.alloc (.cells #[.int .i64 a, .int .i64 b] t)).cell? ⟨w.heap.size, 0 + k, none⟩ = some (.int .i64 ([a, b].getD k 0)) := by
  intro k hk
  rcases (by simp at hk; omega : k = 0 ∨ k = 1) with rfl | rfl <;> simp [go_sem]
theorem one_cell (w : World) (a : Int) (t : TypeId) : ∀ k, k < [a].length → (w.alloc (.cells #[.int .i64 a] t)).cell? ⟨w.heap.size, 0 + k, none⟩ = some (.int .i64 ([a].getD k 0)) := by
  intro k hk
  obtain rfl : k = 0 := by simp at hk; omega
  simp [go_sem]

theorem fmul_any (a b m : Int) (w : World) :
    Calls Tryz.prog 214 #[.int .i64 a, .int .i64 b, .int .i64 m] w fun e w' => e = .returned (.tuple #[.int .i64 (fmN a b m), .bool (fmB a b m)]) ∧ Bl w w' := by
  unfold fmN fmB
  have M := mulDiv_any a b 16777216 m
  generalize mdN a b 16777216 m = x at *
  generalize mdB a b 16777216 m = xb at *
  have HM := hideP M
  clear M
  go_enter Tryz.func214, Tryz.ntmps214
  go_wp2_with fail
  refine (HM.out _).mono ?_
  rintro e w1 ⟨rfl, h1⟩
  go_wp2_with fail
  refine (told_any x xb _ 0 [a, b] _ (by simp) (two_cells _ _ _ _)).mono ?_
  rintro e w2 ⟨rfl, rfl⟩
  go_wp2
  go_ret2
  exact ⟨rfl, h1.alloc _⟩

theorem fdiv_any (a b m : Int) (w : World) :
    Calls Tryz.prog 212 #[.int .i64 a, .int .i64 b, .int .i64 m] w fun e w' => e = .returned (.tuple #[.int .i64 (fdN a b m), .bool (fdB a b m)]) ∧ Bl w w' := by
  unfold fdN fdB
  have M := mulDiv_any a 16777216 b m
  generalize mdN a 16777216 b m = x at *
  generalize mdB a 16777216 b m = xb at *
  have HM := hideP M
  clear M
  go_enter Tryz.func212, Tryz.ntmps212
  go_wp2_with fail
  refine (HM.out _).mono ?_
  rintro e w1 ⟨rfl, h1⟩
  go_wp2_with fail
  refine (told_any x xb _ 0 [a, b] _ (by simp) (two_cells _ _ _ _)).mono ?_
  rintro e w2 ⟨rfl, rfl⟩
  go_wp2
  go_ret2
  exact ⟨rfl, h1.alloc _⟩

theorem froot_any (a m : Int) (w : World) :
    Calls Tryz.prog 216 #[.int .i64 a, .int .i64 m] w fun e w' => e = .returned (.tuple #[.int .i64 (fqN a m), .bool (fqB a m)]) ∧ Bl w w' := by
  unfold fqN fqB
  have M := root_any a 16777216 m
  generalize rtN a 16777216 m = x at *
  generalize rtB a 16777216 m = xb at *
  have HM := hideP M
  clear M
  go_enter Tryz.func216, Tryz.ntmps216
  go_wp2_with fail
  refine (HM.out _).mono ?_
  rintro e w1 ⟨rfl, h1⟩
  go_wp2_with fail
  refine (told_any x xb _ 0 [a] _ (by simp) (one_cell _ _ _)).mono ?_
  rintro e w2 ⟨rfl, rfl⟩
  go_wp2
  go_ret2
  exact ⟨rfl, h1.alloc _⟩

theorem tup_eq {a b : Int} {p q : Bool} (h : a = b) (k : p = q) : Ending.returned (.tuple #[.int .i64 a, .bool p]) = .returned (.tuple #[.int .i64 b, .bool q]) := by rw [h, k]
theorem wsum (a b x y : Int) (hx : x = wrap64 y) (hy : frB a = true → frB b = true → -9223372036854775808 ≤ y ∧ y ≤ 9223372036854775807) : (frB x && allB [a, b]) = (frB y && allB [a, b]) ∧ toN x (frB x && allB [a, b]) = toN y (frB y && allB [a, b]) := by
  rw [allB2]
  cases ha : frB a
  · simp [toN]
  · cases hb : frB b
    · simp [toN]
    · obtain rfl : x = y := by rw [hx]; exact IntWalk.wrap64_in _ (by have := hy ha hb; omega)
      exact ⟨rfl, rfl⟩

theorem fadd_any (a b : Int) (w : World) :
    Calls Tryz.prog 209 #[.int .i64 a, .int .i64 b] w fun e w' => e = .returned (.tuple #[.int .i64 (faN a b), .bool (faB a b)]) ∧ Bl w w' := by
  have e := wsum a b (wrap64 (a + b)) (a + b) rfl (fun ha hb => by have := frB_iff.1 ha; have := frB_iff.1 hb; omega)
  unfold faN faB
  have HE := hideP e
  clear e
  go_enter Tryz.func209, Tryz.ntmps209
  go_wp2_with fail
  refine (told_any _ true _ 0 [a, b] _ (by simp) (two_cells _ _ _ _)).mono ?_
  rintro e w2 ⟨rfl, rfl⟩
  go_wp2
  go_ret2
  exact ⟨tup_eq HE.out.2 HE.out.1, (Bl.refl _).alloc _⟩

theorem fsub_any (a b : Int) (w : World) :
    Calls Tryz.prog 218 #[.int .i64 a, .int .i64 b] w fun e w' => e = .returned (.tuple #[.int .i64 (fsN a b), .bool (fsB a b)]) ∧ Bl w w' := by
  have e := wsum a b (wrap64 (a - b)) (a - b) rfl (fun ha hb => by have := frB_iff.1 ha; have := frB_iff.1 hb; omega)
  unfold fsN fsB
  have HE := hideP e
  clear e
  go_enter Tryz.func218, Tryz.ntmps218
  go_wp2_with fail
  refine (told_any _ true _ 0 [a, b] _ (by simp) (two_cells _ _ _ _)).mono ?_
  rintro e w2 ⟨rfl, rfl⟩
  go_wp2
  go_ret2
  exact ⟨tup_eq HE.out.2 HE.out.1, (Bl.refl _).alloc _⟩

/-- Is a whole number told? -/
def foB (n : Int) : Bool := decide (-67108864 ≤ n) && decide (n ≤ 67108864)
def foN (n : Int) : Int := toN (n * 16777216) (foB n)
theorem of_val (n : Int) : (mdB n 16777216 1 1 && frB (mdN n 16777216 1 1)) = foB n ∧ toN (mdN n 16777216 1 1) (mdB n 16777216 1 1 && frB (mdN n 16777216 1 1)) = foN n := by
  cases hr : rightB n
  · have x := md_bad n 16777216 1 1 (mdG_bad (.inl hr))
    rw [x.1, x.2]
    have hf : foB n = false := by
      cases h : foB n
      · rfl
      · have : -67108864 ≤ n ∧ n ≤ 67108864 := by simpa [foB] using h
        rw [rightB_eq (by omega)] at hr; cases hr
    unfold foN
    rw [hf]
    exact ⟨rfl, rfl⟩
  · by_cases hp : rightB (n * 16777216) = true
    · have x := md_exact n 16777216 1 (n * 16777216) 1 hr (by decide) (by decide) hp (by decide) (by decide) (by omega)
      rw [x.1, x.2, Bool.true_and]
      have : frB (n * 16777216) = foB n := by
        unfold frB foB
        rw [Bool.eq_iff_iff]; simp; omega
      unfold foN
      rw [this]
      exact ⟨rfl, rfl⟩
    · have hnr := rightB_iff.1 hr
      have hf : foB n = false := by
        cases h : foB n
        · rfl
        · have : -67108864 ≤ n ∧ n ≤ 67108864 := by simpa [foB] using h
          exact absurd (rightB_eq (by omega)) hp
      have hb : mdB n 16777216 1 1 = false := by
        have hbig : ¬ szI n * 16777216 ≤ 4611686018427387903 := by
          intro h
          apply hp
          apply rightB_eq
          unfold szI at h
          split at h <;> omega
        unfold mdB mdC
        have e1 : szI 16777216 = 16777216 := rfl
        have e2 : szI 1 = 1 := rfl
        have hz := outB_zero (szI n * 16777216) 1 (belB n 16777216 1) 1 (by omega)
        rw [e1, e2, Int.ediv_one, Int.emod_one, hz]
        have : rdB (upI (szI n * 16777216) false) = false := by
          unfold rdB upI
          simp
          omega
        rw [this, Bool.and_false]
      unfold foN
      rw [hb, hf]
      exact ⟨rfl, rfl⟩

theorem fof_any (n : Int) (w : World) :
    Calls Tryz.prog 66 #[.int .i64 n] w fun e w' => e = .returned (.tuple #[.int .i64 (foN n), .bool (foB n)]) ∧ Bl w w' := by
  have e := of_val n
  have M := mulDiv_any n 16777216 1 1
  generalize mdN n 16777216 1 1 = x at *
  generalize mdB n 16777216 1 1 = xb at *
  rw [← e.1, ← e.2]
  have HM := hideP M
  clear M e
  go_enter Tryz.func66, Tryz.ntmps66
  go_wp2_with fail
  refine (HM.out _).mono ?_
  rintro e w1 ⟨rfl, h1⟩
  go_wp2_with fail
  refine (told_nil x xb _).mono ?_
  rintro e w2 ⟨rfl, rfl⟩
  go_wp2
  go_ret2
  exact ⟨rfl, h1⟩

theorem refMul_any (a b m : Int) (w : World) :
    Calls Tryz.prog 142 #[.int .i64 a, .int .i64 b, .int .i64 m] w fun e w' => e = .returned (.tuple #[.int .i64 (fmN a b m), .bool (fmB a b m)]) ∧ Bl w w' := by
  unfold fmN fmB
  rw [allB2]
  have M := refMulDiv_any a b 16777216 m
  generalize mdN a b 16777216 m = x at *
  generalize mdB a b 16777216 m = xb at *
  have HM := hideP M
  clear M
  cases ha : frB a
  · go_enter Tryz.func142, Tryz.ntmps142
    go_wp2_with (go_at_call 140; refine (fRefRight_any _ _).mono ?_; rintro e w' ⟨rfl, rfl⟩)
    go_ret2
    exact ⟨tup_eq (by simp [toN]) (by simp), Bl.refl _⟩
  cases hb : frB b
  · go_enter Tryz.func142, Tryz.ntmps142
    go_wp2_with (go_at_call 140; refine (fRefRight_any _ _).mono ?_; rintro e w' ⟨rfl, rfl⟩)
    go_ret2
    exact ⟨tup_eq (by simp [toN]) (by simp), Bl.refl _⟩
  rw [Bool.and_true, Bool.and_true]
  go_enter Tryz.func142, Tryz.ntmps142
  go_wp2_with (go_at_call 140; refine (fRefRight_any _ _).mono ?_; rintro e w' ⟨rfl, rfl⟩)
  refine (HM.out _).mono ?_
  rintro e w1 ⟨rfl, h1⟩
  go_wp2_with fail
  refine (refTold_any x xb _).mono ?_
  rintro e w2 ⟨rfl, rfl⟩
  go_wp2
  go_ret2
  exact ⟨rfl, h1⟩

theorem refDiv_any (a b m : Int) (w : World) :
    Calls Tryz.prog 143 #[.int .i64 a, .int .i64 b, .int .i64 m] w fun e w' => e = .returned (.tuple #[.int .i64 (fdN a b m), .bool (fdB a b m)]) ∧ Bl w w' := by
  unfold fdN fdB
  rw [allB2]
  have M := refMulDiv_any a 16777216 b m
  generalize mdN a 16777216 b m = x at *
  generalize mdB a 16777216 b m = xb at *
  have HM := hideP M
  clear M
  cases ha : frB a
  · go_enter Tryz.func143, Tryz.ntmps143
    go_wp2_with (go_at_call 140; refine (fRefRight_any _ _).mono ?_; rintro e w' ⟨rfl, rfl⟩)
    go_ret2
    exact ⟨tup_eq (by simp [toN]) (by simp), Bl.refl _⟩
  cases hb : frB b
  · go_enter Tryz.func143, Tryz.ntmps143
    go_wp2_with (go_at_call 140; refine (fRefRight_any _ _).mono ?_; rintro e w' ⟨rfl, rfl⟩)
    go_ret2
    exact ⟨tup_eq (by simp [toN]) (by simp), Bl.refl _⟩
  rw [Bool.and_true, Bool.and_true]
  go_enter Tryz.func143, Tryz.ntmps143
  go_wp2_with (go_at_call 140; refine (fRefRight_any _ _).mono ?_; rintro e w' ⟨rfl, rfl⟩)
  refine (HM.out _).mono ?_
  rintro e w1 ⟨rfl, h1⟩
  go_wp2_with fail
  refine (refTold_any x xb _).mono ?_
  rintro e w2 ⟨rfl, rfl⟩
  go_wp2
  go_ret2
  exact ⟨rfl, h1⟩

theorem fRefRoot_any (a : Int) (w : World) (ha : rightB a = true) :
    Calls Tryz.prog 144 #[.int .i64 a] w fun e w' =>
      e = .returned (.tuple #[.int .i64 (rtF (szI a * 16777216)), .bool (!decide (rtF (szI a * 16777216) * rtF (szI a * 16777216) < szI a * 16777216))]) ∧ Bl w w' := by
  have R := fun w => refRoot_any a 16777216 w ha (by decide)
  rw [show szI 16777216 = 16777216 from rfl] at R
  generalize szI a * 16777216 = p at *
  generalize rtF p = r at *
  generalize hd : (!decide (r * r < p)) = d at *
  have HR := hideP R
  clear R hd
  go_enter Tryz.func144, Tryz.ntmps144
  go_wp2_with fail
  refine (HR.out _).mono ?_
  rintro e w1 ⟨rfl, h1⟩
  go_wp2
  go_ret2
  exact ⟨rfl, h1⟩
end Go.Proofs.YtlbmkjicbkfmjaaGreat

/- The walks of WideRoots, WideNearest. -/
namespace Go.Proofs.YtlbmkjicbkfmjaaGreat
open Go.RowKit
set_option linter.unusedSimpArgs false
set_option linter.unusedVariables false

theorem upI_t (c : Int) : upI c true = c + 1 := rfl
theorem upI_f (c : Int) : upI c false = c := rfl

/-- The three roots of a product that is not below 0. -/
theorem root_vals (a b : Int) (ha : rightB a = true) (hb : rightB b = true) (hs : ¬ a * b < 0) :
    ∃ r t : Int, rtF (szI a * szI b) = r ∧ 0 ≤ r ∧ r ≤ 4611686018427387903 ∧ 0 ≤ t ∧ szI a * szI b = r * r + t ∧ (0 < t → r + 1 ≤ 4611686018427387903) ∧
      (rtN a b 1 = r ∧ rtB a b 1 = true) ∧ (rtN a b 2 = upI r (decide (0 < t)) ∧ rtB a b 2 = true) ∧ (rtN a b 0 = upI r (decide (r < t)) ∧ rtB a b 0 = true) := by
  have sa := szI_right ha
  have sb := szI_right hb
  have hp := mul_hi sa sb
  have hd : decide (a * b < 0) = false := decide_eq_false hs
  have g : ∀ m, modeB m = true → rtG a b m = true := fun m hm => by unfold rtG; rw [ha, hb, hd, hm]; rfl
  have g1 := g 1 (by decide)
  have g2 := g 2 (by decide)
  have g0 := g 0 (by decide)
  have hr := rtF_spec (szI a * szI b) hp.1
  have hle := rtF_le (szI a * szI b) 4611686018427387903 hp.1 (by omega) (by omega)
  unfold rtN rtB rtC
  rw [g1, g2, g0]
  generalize szI a * szI b = p at *
  generalize rtF p = r at *
  obtain ⟨r0, r1, r2⟩ := hr
  have hup : 0 < p - r * r → r + 1 ≤ 4611686018427387903 := by
    intro h
    rcases Int.lt_or_le r 4611686018427387903 with k | k
    · omega
    · have e : r = 4611686018427387903 := by omega
      subst e
      omega
  have out0 : outB r (p - r * r) (2 * r + 1) false 0 = decide (r < p - r * r) := by
    simp only [outB]
    rw [if_neg (by decide), if_neg (by decide), decide_eq_false (show ¬ 2 * (p - r * r) = 2 * r + 1 by omega), Bool.false_and, Bool.or_false]
    rw [Bool.eq_iff_iff, decide_eq_true_iff, decide_eq_true_iff]
    omega
  have out1 : outB r (p - r * r) (2 * r + 1) false 1 = false := by simp [outB]
  have out2 : outB r (p - r * r) (2 * r + 1) false 2 = decide (0 < p - r * r) := by simp [outB]
  rw [out0, out1, out2]
  refine ⟨r, p - r * r, rfl, r0, hle, by omega, by omega, hup, ?_, ?_, ?_⟩
  · rw [upI_f]
    refine ⟨by rw [if_pos rfl]; unfold rdN; rw [if_neg (by omega)]; rfl, ?_⟩
    unfold rdB; simp; omega
  · by_cases h : 0 < p - r * r
    · rw [decide_eq_true h, upI_t]
      have := hup h
      refine ⟨by rw [if_pos rfl]; unfold rdN; rw [if_neg (by omega)]; rfl, ?_⟩
      unfold rdB; simp; omega
    · rw [decide_eq_false h, upI_f]
      refine ⟨by rw [if_pos rfl]; unfold rdN; rw [if_neg (by omega)]; rfl, ?_⟩
      unfold rdB; simp; omega
  · by_cases h : r < p - r * r
    · rw [decide_eq_true h, upI_t]
      have := hup (by omega)
      refine ⟨by rw [if_pos rfl]; unfold rdN; rw [if_neg (by omega)]; rfl, ?_⟩
      unfold rdB; simp; omega
    · rw [decide_eq_false h, upI_f]
      refine ⟨by rw [if_pos rfl]; unfold rdN; rw [if_neg (by omega)]; rfl, ?_⟩
      unfold rdB; simp; omega
theorem root_none (a b m : Int) (h : rtG a b m = false) : rtN a b m = 0 ∧ rtB a b m = false := by
  unfold rtN rtB; rw [h]; exact ⟨rfl, rfl⟩
theorem rtG_bad {a b m : Int} (h : rightB a = false ∨ rightB b = false ∨ a * b < 0) : rtG a b m = false := by
  unfold rtG
  rcases h with h | h | h
  · rw [h]; simp
  · rw [h]; simp
  · rw [decide_eq_true h]; simp
/-- How the law's first test goes. -/
theorem root_ways (a b : Int) : (rightB a = false) ∨ (rightB a = true ∧ rightB b = false) ∨ (rightB a = true ∧ rightB b = true ∧ 0 < a ∧ b < 0) ∨ (rightB a = true ∧ rightB b = true ∧ a < 0 ∧ 0 < b) ∨
    (rightB a = true ∧ rightB b = true ∧ ((0 < a ∧ 0 ≤ b) ∨ (a < 0 ∧ b ≤ 0) ∨ (a ≤ 0 ∧ 0 ≤ a))) := by
  cases ha : rightB a
  · exact .inl rfl
  · cases hb : rightB b
    · exact .inr (.inl ⟨rfl, rfl⟩)
    · rcases (by omega : (0 < a ∧ b < 0) ∨ (a < 0 ∧ 0 < b) ∨ ((0 < a ∧ 0 ≤ b) ∨ (a < 0 ∧ b ≤ 0) ∨ (a ≤ 0 ∧ 0 ≤ a))) with h | h | h
      · exact .inr (.inr (.inl ⟨rfl, rfl, h.1, h.2⟩))
      · exact .inr (.inr (.inr (.inl ⟨rfl, rfl, h.1, h.2⟩)))
      · exact .inr (.inr (.inr (.inr ⟨rfl, rfl, h⟩)))
theorem nn_of_way {a b : Int} (h : (0 < a ∧ 0 ≤ b) ∨ (a < 0 ∧ b ≤ 0) ∨ (a ≤ 0 ∧ 0 ≤ a)) : ¬ a * b < 0 := by
  rcases h with h | h | h
  · have := Int.mul_nonneg (show 0 ≤ a by omega) h.2; omega
  · have := Int.mul_nonneg_of_nonpos_of_nonpos (show a ≤ 0 by omega) h.2; omega
  · rw [show a = 0 by omega, Int.zero_mul]; omega

end Go.Proofs.YtlbmkjicbkfmjaaGreat

/- The walks of WideSigns, WideModes. -/
namespace Go.Proofs.YtlbmkjicbkfmjaaGreat
open Go.RowKit
set_option linter.unusedSimpArgs false
set_option linter.unusedVariables false

theorem rdN_neg (c : Int) (b : Bool) : rdN c b = -(rdN c (!b)) := by
  unfold rdN; cases b <;> simp <;> split <;> omega
theorem rdN_zero (b : Bool) : rdN 0 b = 0 := by unfold rdN; cases b <;> simp

/-- With the sign of the product turned, and another mode that goes the other way. -/
theorem md_turn (a b c a' b' m m' : Int) (ha : szI a' = szI a) (hb : szI b' = szI b) (hab : a' * b' = -(a * b)) (hg : mdG a' b' c m' = mdG a b c m)
    (hm : (m = 1 ∧ m' = 2) ∨ (m = 0 ∧ m' = 0)) : mdN a b c m = -(mdN a' b' c m') ∧ mdB a b c m = mdB a' b' c m' := by
  by_cases hz : a * b * c = 0
  · by_cases hc : c = 0
    · have e1 : mdG a b c m = false := by unfold mdG; simp [hc]
      rw [e1] at hg
      have x := md_bad _ _ _ _ e1
      have y := md_bad _ _ _ _ hg
      rw [x.1, x.2, y.1, y.2]
      exact ⟨rfl, rfl⟩
    · have h0 : a * b = 0 := by
        rcases Int.mul_eq_zero.1 hz with h | h
        · exact h
        · exact absurd h hc
      have hd0 : 0 < szI c := by unfold szI; split <;> omega
      have p0 : szI a * szI b = 0 := by rw [szI_mul, h0]; rfl
      have c0 : ∀ bl mm, upI (0 / szI c) (outB (0 / szI c) (0 % szI c) (szI c) bl mm) = 0 := by
        intro bl mm
        rw [Int.zero_ediv, Int.zero_emod, outB_zero _ _ _ _ hd0]; rfl
      unfold mdN mdB mdC
      rw [hg, ha, hb, p0, c0, c0, rdN_zero, rdN_zero]
      exact ⟨by split <;> rfl, rfl⟩
  · have hbl : belB a' b' c = !belB a b c := by
      unfold belB
      rw [hab, Int.neg_mul]
      rcases (by omega : a * b * c < 0 ∨ 0 < a * b * c) with h | h
      · rw [decide_eq_true h, decide_eq_false (by omega)]; rfl
      · rw [decide_eq_false (by omega : ¬ a * b * c < 0), decide_eq_true (by omega)]; rfl
    have hout : ∀ q r d, outB q r d (!belB a b c) m' = outB q r d (belB a b c) m := by
      intro q r d
      rcases hm with ⟨rfl, rfl⟩ | ⟨rfl, rfl⟩
      · simp [outB]
      · simp [outB]
    have hC : mdC a' b' c m' = mdC a b c m := by
      unfold mdC
      rw [ha, hb, hbl, hout]
    unfold mdN mdB
    rw [hg, hC, hbl]
    refine ⟨?_, rfl⟩
    split
    · exact rdN_neg _ _
    · rfl
theorem mdN_bd (a b c m : Int) (hc : 0 ≤ mdC a b c m) : -4611686018427387903 ≤ mdN a b c m ∧ mdN a b c m ≤ 4611686018427387903 := by
  unfold mdN rdN
  split
  · split
    · omega
    · split <;> omega
  · omega
theorem mdC_nn (a b c m : Int) : 0 ≤ mdC a b c m := by
  have h1 := Int.mul_nonneg (szI_nn a) (szI_nn b)
  have h2 := Int.ediv_nonneg h1 (szI_nn c)
  have := upI_le (szI a * szI b / szI c) (outB (szI a * szI b / szI c) (szI a * szI b % szI c) (szI c) (belB a b c) m)
  unfold mdC
  omega
theorem mdG_neg1 (a b c m m' : Int) (hm : modeB m = modeB m') : mdG (-a) b c m' = mdG a b c m := by unfold mdG; rw [right_neg, hm]
theorem mdG_neg2 (a b c m m' : Int) (hm : modeB m = modeB m') : mdG a (-b) c m' = mdG a b c m := by unfold mdG; rw [right_neg, hm]

end Go.Proofs.YtlbmkjicbkfmjaaGreat

/- The walk of WideModes. -/
namespace Go.Proofs.YtlbmkjicbkfmjaaGreat
open Go.RowKit
set_option linter.unusedSimpArgs false
set_option linter.unusedVariables false

theorem rdN_of {c : Int} (b : Bool) (h : rdB c = true) : rdN c b = if b then -c else c := by
  unfold rdB at h
  unfold rdN
  rw [if_neg (by have := of_decide_eq_true h; omega)]
theorem out_down (q r d : Int) (b : Bool) : outB q r d b 1 = (b && decide (0 < r)) := by simp [outB]
theorem out_up (q r d : Int) (b : Bool) : outB q r d b 2 = (!b && decide (0 < r)) := by simp [outB]

theorem md_order (a b c : Int) (h1 : mdB a b c 1 = true) (h0 : mdB a b c 0 = true) (h2 : mdB a b c 2 = true) :
    mdN a b c 1 ≤ mdN a b c 0 ∧ mdN a b c 0 ≤ mdN a b c 2 ∧ mdN a b c 2 ≤ mdN a b c 1 + 1 := by
  unfold mdB at h1 h0 h2
  rw [Bool.and_eq_true] at h1 h0 h2
  obtain ⟨g1, k1⟩ := h1
  obtain ⟨g0, k0⟩ := h0
  obtain ⟨g2, k2⟩ := h2
  unfold mdN
  rw [g1, g0, g2, if_pos rfl, if_pos rfl, if_pos rfl, rdN_of _ k1, rdN_of _ k0, rdN_of _ k2]
  have hz : c ≠ 0 := by
    intro e
    rw [e] at g0
    simp [mdG] at g0
  have hd : 0 < szI c := by unfold szI; split <;> omega
  have hr : 0 ≤ szI a * szI b % szI c := Int.emod_nonneg _ (by omega)
  clear k1 k0 k2 g1 g0 g2
  unfold mdC
  rw [out_down, out_up]
  have ho : szI a * szI b % szI c = 0 → outB (szI a * szI b / szI c) (szI a * szI b % szI c) (szI c) (belB a b c) 0 = false := by
    intro h
    rw [h]; exact outB_zero _ _ _ _ hd
  generalize outB (szI a * szI b / szI c) (szI a * szI b % szI c) (szI c) (belB a b c) 0 = o at *
  generalize belB a b c = bl at *
  generalize szI a * szI b / szI c = q at *
  generalize szI a * szI b % szI c = r at *
  by_cases h : 0 < r
  · rw [decide_eq_true h]
    cases bl <;> cases o <;> simp [upI] <;> omega
  · rw [decide_eq_false h, ho (by omega)]
    cases bl <;> simp [upI] <;> omega

end Go.Proofs.YtlbmkjicbkfmjaaGreat
