/- The contract of wide.floorRoot. -/
import Derived.Test.YtljmggemdkfbiaaDoorCmp
namespace Go.Proofs.YtljmggemdkfbiaaDoor
open Go.RowKit
set_option linter.unusedSimpArgs false
set_option linter.unusedVariables false

theorem half_step (r D : Int) (i : Nat) (hi : i < 62) (hD : D = 2 ^ (61 - i)) (hr0 : 0 ≤ r) (hrm : r % 2 ^ (62 - i) = 0) (hr3 : r + 2 ^ (62 - i) ≤ 4611686018427387904) :
    (2 : Int) ^ (62 - i) = D + D ∧ 1 ≤ D ∧ r % D = 0 ∧ (r + D) % D = 0 ∧ bits .or .u64 r (IntKind.u64.wrap (2 ^ (61 - i))) = r + D := by
  have e : (2 : Int) ^ (62 - i) = D + D := by
    rw [show 62 - i = (61 - i) + 1 from by omega, Int.pow_succ, ← hD]; omega
  have hp : (0 : Int) < D := by rw [hD]; exact Int.pow_pos (by decide)
  have hd : D ∣ r := by
    have h1 : (D + D) ∣ r := by rw [← e]; exact Int.dvd_of_emod_eq_zero hrm
    obtain ⟨c, hc⟩ := h1
    exact ⟨2 * c, by rw [hc, Int.add_mul, ← Int.mul_assoc, Int.mul_comm D 2]; rw [Int.mul_assoc]; omega⟩
  refine ⟨e, by omega, Int.emod_eq_zero_of_dvd hd, ?_, ?_⟩
  · exact Int.emod_eq_zero_of_dvd (Int.dvd_add hd (Int.dvd_refl D))
  · rw [e] at hr3
    rw [← hD]
    have hw : IntKind.u64.wrap D = D := by rw [IntKind.wrap_u64]; omega
    rw [hw]
    have e64 : (2 : Int) ^ 64 = 18446744073709551616 := by decide
    refine bits_join .u64 64 (by decide) (fun n h h' => ?_) (62 - i) r D hr0 hrm (by omega) (by omega) (by omega) (by omega)
    rw [IntKind.wrap_u64]
    rw [e64] at h'
    omega

end Go.Proofs.YtljmggemdkfbiaaDoor
