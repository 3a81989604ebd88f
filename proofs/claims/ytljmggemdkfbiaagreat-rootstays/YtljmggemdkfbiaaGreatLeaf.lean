/- Contracts of the leaves of package wide: Right, isMode, size, sign, cmp.Compare; over the landed code. -/
import Derived.Test.YtljmggemdkfbiaaGreatRows
import Derived.WalkKit
import Derived.WalkSpells
import Derived.RowKit3
import Derived.Laws.MathBits
namespace Go.Proofs.YtljmggemdkfbiaaGreat
open Go.RowKit
set_option linter.unusedSimpArgs false
set_option linter.unusedVariables false

/-- An int64. -/
def I64 (x : Int) : Prop := -9223372036854775808 ≤ x ∧ x ≤ 9223372036854775807
/-- A word. -/
def U64 (x : Int) : Prop := 0 ≤ x ∧ x < 18446744073709551616
/-- May the number be (P1.1)? -/
def rightB (n : Int) : Bool := decide (-4611686018427387903 ≤ n) && decide (n ≤ 4611686018427387903)
/-- Is it one of the three modes? -/
def modeB (m : Int) : Bool := decide (m = 0) || decide (m = 1) || decide (m = 2)
/-- -1, 0, 1, as x is below, the same as, above y. -/
def cmpI (x y : Int) : Int := if x < y then -1 else if y < x then 1 else 0
/-- The size of a number. -/
def szI (n : Int) : Int := if n < 0 then -n else n

theorem rightB_eq {n : Int} (h : -4611686018427387903 ≤ n ∧ n ≤ 4611686018427387903) : rightB n = true := by simp [rightB, h]
theorem right_any (n : Int) (w : World) :
    Calls Tryz.prog 145 #[.int .i64 n] w fun e w' => e = .returned (.bool (rightB n)) ∧ w' = w := by
  unfold rightB
  by_cases h : -4611686018427387903 ≤ n
  · by_cases h2 : n ≤ 4611686018427387903
    · go_enter Tryz.func145, Tryz.ntmps145
      go_wp2
      go_ret
      exact ⟨by simp [h, h2], rfl⟩
    · go_enter Tryz.func145, Tryz.ntmps145
      go_wp2
      go_ret
      exact ⟨by simp [h, h2], rfl⟩
  · go_enter Tryz.func145, Tryz.ntmps145
    go_wp2
    go_ret
    exact ⟨by simp; omega, rfl⟩

theorem ret_int {k : IntKind} {a b : Int} (h : a = b) : Ending.returned (.int k a) = .returned (.int k b) := by rw [h]
theorem size_any (n : Int) (hn : I64 n) (w : World) :
    Calls Tryz.prog 148 #[.int .i64 n] w fun e w' => e = .returned (.int .u64 (szI n)) ∧ w' = w := by
  obtain ⟨h1, h2⟩ := hn
  unfold szI
  by_cases h : n < 0
  · go_enter Tryz.func148, Tryz.ntmps148
    go_wp2
    go_ret
    exact ⟨ret_int (by unfold wrap64; rw [IntKind.wrap_u64]; omega), rfl⟩
  · go_enter Tryz.func148, Tryz.ntmps148
    go_wp2
    go_ret
    exact ⟨rfl, rfl⟩

theorem sign_any (n : Int) (w : World) :
    Calls Tryz.prog 149 #[.int .i64 n] w fun e w' => e = .returned (.int .i64 (cmpI n 0)) ∧ w' = w := by
  unfold cmpI
  go_enter Tryz.func149, Tryz.ntmps149
  go_wp2
  all_goals (go_ret; exact ⟨rfl, rfl⟩)

theorem cmpInt_any (x y : Int) (w : World) :
    Calls Tryz.prog 160 #[.int .i64 x, .int .i64 y] w fun e w' => e = .returned (.int .i64 (cmpI x y)) ∧ w' = w := by
  unfold cmpI
  go_enter Tryz.func160, Tryz.ntmps160
  go_wp2
  all_goals (go_ret; exact ⟨rfl, rfl⟩)

theorem cmpU_any (x y : Int) (w : World) :
    Calls Tryz.prog 165 #[.int .u64 x, .int .u64 y] w fun e w' => e = .returned (.int .i64 (cmpI x y)) ∧ w' = w := by
  unfold cmpI
  go_enter Tryz.func165, Tryz.ntmps165
  go_wp2
  all_goals (go_ret; exact ⟨rfl, rfl⟩)

theorem isMode_any (m : Int) (w : World) :
    Calls Tryz.prog 146 #[.int .i64 m] w fun e w' => e = .returned (.bool (modeB m)) ∧ w' = w := by
  by_cases h0 : m = 0
  · have e : modeB m = true := by simp [modeB, h0]
    rw [e]; clear e; subst h0
    go_enter Tryz.func146, Tryz.ntmps146
    go_wp2
    go_ret
    exact ⟨rfl, rfl⟩
  · have b0 : (m == 0) = false := by simpa using h0
    by_cases h1 : m = 1
    · have e : modeB m = true := by simp [modeB, h1]
      rw [e]; clear e; subst h1; clear h0 b0
      go_enter Tryz.func146, Tryz.ntmps146
      go_wp2
      go_ret
      exact ⟨rfl, rfl⟩
    · have b1 : (m == 1) = false := by simpa using h1
      have e : modeB m = (m == 2) := by simp [modeB, h0, h1]; rfl
      rw [e]; clear e
      go_enter Tryz.func146, Tryz.ntmps146
      go_wp2
      go_ret
      exact ⟨rfl, rfl⟩

set_option maxHeartbeats 1000000 in
theorem mul64_any (x y : Int) (hx : U64 x) (hy : U64 y) (w : World) :
    Calls Tryz.prog 126 #[.int .u64 x, .int .u64 y] w fun e w' =>
      e = .returned (.tuple #[.int .u64 (x * y / 18446744073709551616), .int .u64 (x * y % 18446744073709551616)]) ∧ w' = w := by
  obtain ⟨x0, x1⟩ := hx
  obtain ⟨y0, y1⟩ := hy
  go_enter Tryz.func126, Tryz.ntmps126
  go_wp2
  go_ret2
  refine ⟨?_, rfl⟩
  have hm := mul64_arith x y x0 x1 y0 y1
  simp only [IntKind.wrap_u64, and_low32 x x0 x1, and_low32 y y0 y1]
  rw [and_low32 _ (Int.emod_nonneg _ (by decide)) (Int.emod_lt_of_pos _ (by decide)), hm]
  rfl
end Go.Proofs.YtljmggemdkfbiaaGreat
