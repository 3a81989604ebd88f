/- Roots and what is solved, of enclosed numbers beside fractions (layer 7). Mathematics alone. -/
import Derived.Test.YtbfdkahbnfpabaaGreatTrN0
import Derived.Test.YtbfdkahbnfpabaaGreatEnJ
namespace Go.Proofs.YtbfdkahbnfpabaaGreat
open Go.RowKit
set_option linter.unusedSimpArgs false
set_option linter.unusedVariables false

theorem encL_row {n k : Nat} {m : Nat → Nat → En} {f : Nat → Nat → Fr} (hk : k ≤ n) {i : Nat} (h : ∀ j, j < n → EncF (m i j) (f i j)) : EncL (rowM k m i) (rowM k f i) := by
  refine encL_of (by rw [rowM_len, rowM_len]) fun j e g h1 h2 => ?_
  have hj : j < k := by have := (List.getElem?_eq_some_iff.1 h1).1; rwa [rowM_len] at this
  rw [rowM_get _ _ hj] at h1 h2
  cases h1
  cases h2
  exact h j (by omega)
/-- Enclosed numbers' root encloses the fractions'. -/
theorem rootTo_enc {n : Nat} {p : Nat → Nat → En} {q : Nat → Nat → Fr} {zn : En} {zf : Fr} (hz : EncF zn zf) (hp : ∀ i k, i < n → k < n → EncF (p i k) (q i k)) :
    ∀ k, k ≤ n → ∀ i j, i < n → j < n → EncF (rootTo subE divE rootE dotN zn p k i j) (rootTo subR divR rootR dotF zf q k i j)
  | 0, _, i, j, _, _ => hz
  | k + 1, hk, i, j, hi, hj => by
    have ih := rootTo_enc hz hp k (by omega)
    have hkn : k < n := by omega
    have hr : ∀ i, i < n → EncL (rowM k (rootTo subE divE rootE dotN zn p k) i) (rowM k (rootTo subR divR rootR dotF zf q k) i) := fun i hi => encL_row (n := n) (by omega) fun j hj => ih i j hi hj
    have hd := encF_root (encF_sub (hp k k hkn hkn) (encF_dot (hr k hkn) (hr k hkn)))
    show EncF (rootStep _ _ _ _ _ _ k i j) (rootStep _ _ _ _ _ _ k i j)
    unfold rootStep
    by_cases h : j = k ∧ k ≤ i
    · rw [if_pos h, if_pos h]
      by_cases h2 : i = k
      · rw [if_pos h2, if_pos h2]; exact hd
      · rw [if_neg h2, if_neg h2]
        exact encF_div (encF_sub (hp i k hi hkn) (encF_dot (hr i hi) (hr k hkn))) hd
    · rw [if_neg h, if_neg h]; exact ih i j hi hj
end Go.Proofs.YtbfdkahbnfpabaaGreat
