/- The contract of wide.Root. -/
import Derived.Test.YtljmggemdkfbiaaDoorFloor
namespace Go.Proofs.YtljmggemdkfbiaaDoor
open Go.RowKit
set_option linter.unusedSimpArgs false
set_option linter.unusedVariables false

/-- The root, cut off. -/
def isq : Nat → Nat
  | 0 => 0
  | n + 1 => if (isq n + 1) * (isq n + 1) ≤ n + 1 then isq n + 1 else isq n
theorem isq_spec : ∀ n : Nat, isq n * isq n ≤ n ∧ n < (isq n + 1) * (isq n + 1)
  | 0 => by simp [isq]
  | n + 1 => by
    obtain ⟨h1, h2⟩ := isq_spec n
    unfold isq
    generalize isq n = r at *
    split
    · rename_i h
      refine ⟨h, ?_⟩
      have : (r + 1 + 1) * (r + 1 + 1) = (r + 1) * (r + 1) + 2 * (r + 1) + 1 := by
        rw [Nat.mul_add, Nat.add_mul]; omega
      omega
    · omega
def rtF (p : Int) : Int := isq p.toNat
theorem rtF_spec (p : Int) (h : 0 ≤ p) : 0 ≤ rtF p ∧ rtF p * rtF p ≤ p ∧ p < (rtF p + 1) * (rtF p + 1) := by
  obtain ⟨h1, h2⟩ := isq_spec p.toNat
  unfold rtF
  generalize isq p.toNat = r at *
  have a1 : ((r * r : Nat) : Int) ≤ (p.toNat : Int) := by exact_mod_cast h1
  have a2 : (p.toNat : Int) < (((r + 1) * (r + 1) : Nat) : Int) := by exact_mod_cast h2
  push_cast at a1 a2
  omega
theorem root_one (p r : Int) (h : 0 ≤ r) (h1 : r * r ≤ p) (h2 : p < (r + 1) * (r + 1)) : r = rtF p := by
  have hp : 0 ≤ p := by have := Int.mul_nonneg h h; omega
  obtain ⟨k0, k1, k2⟩ := rtF_spec p hp
  generalize rtF p = q at *
  rcases (by omega : r < q ∨ r = q ∨ q < r) with h' | h' | h'
  · have := Int.mul_le_mul (show r + 1 ≤ q by omega) (show r + 1 ≤ q by omega) (by omega) (by omega)
    omega
  · exact h'
  · have := Int.mul_le_mul (show q + 1 ≤ r by omega) (show q + 1 ≤ r by omega) (by omega) (by omega)
    omega
theorem rtF_le (p b : Int) (h0 : 0 ≤ p) (hb : 0 ≤ b) (h : p ≤ b * b) : rtF p ≤ b := by
  obtain ⟨k0, k1, k2⟩ := rtF_spec p h0
  generalize rtF p = q at *
  rcases Int.lt_or_le b q with h' | h'
  · have := Int.mul_le_mul (show b + 1 ≤ q by omega) (show b + 1 ≤ q by omega) (by omega) (by omega)
    rw [Int.add_mul, Int.mul_add] at this
    omega
  · exact h'

def rtG (a b mode : Int) : Bool := rightB a && rightB b && !decide (a * b < 0) && modeB mode
def rtC (a b mode : Int) : Int :=
  upI (rtF (szI a * szI b)) (outB (rtF (szI a * szI b)) (szI a * szI b - rtF (szI a * szI b) * rtF (szI a * szI b)) (2 * rtF (szI a * szI b) + 1) false mode)
/-- P1.2: Root. -/
def rtN (a b mode : Int) : Int := if rtG a b mode then rdN (rtC a b mode) false else 0
def rtB (a b mode : Int) : Bool := rtG a b mode && rdB (rtC a b mode)

end Go.Proofs.YtljmggemdkfbiaaDoor
