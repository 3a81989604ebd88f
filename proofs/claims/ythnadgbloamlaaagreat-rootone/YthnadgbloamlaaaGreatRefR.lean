/- The contract of the document's Root. -/
import Derived.Test.YthnadgbloamlaaaGreatTimes
namespace Go.Proofs.YthnadgbloamlaaaGreat
open Go.RowKit
set_option linter.unusedSimpArgs false
set_option linter.unusedVariables false

theorem pow_step (j : Nat) : (2 : Int) ^ (j + 1) / 2 = 2 ^ j ∧ (2 : Int) ^ (j + 1) = 2 ^ j + 2 ^ j := by
  rw [Int.pow_succ]; omega

set_option maxHeartbeats 1000000 in
set_option maxRecDepth 1000000 in
theorem refRoot_any (a b : Int) (w : World) (ha : rightB a = true) (hb : rightB b = true) :
    Calls Tryz.prog 210 #[.int .i64 a, .int .i64 b] w fun e w' =>
      e = .returned (.tuple #[.int .i64 (rtF (szI a * szI b)), .bool (!decide (rtF (szI a * szI b) * rtF (szI a * szI b) < szI a * szI b))]) ∧ Bl w w' := by
  have ia := right_i64 ha
  have ib := right_i64 hb
  have ka := rightB_iff.1 ha
  have kb := rightB_iff.1 hb
  have sa := szI_right ha
  have sb := szI_right hb
  have hp := mul_hi sa sb
  have SA := hideP (refSize_any a ia (by omega))
  have SB := hideP (refSize_any b ib (by omega))
  have HP := hideP (fun w => rtimes_any (szI a) (szI b) w sa.1 (by omega) sb.1 (by omega))
  generalize szI a * szI b = p at *
  clear ia ib ka kb sa sb ha hb
  go_enter Tryz.func210, Tryz.ntmps210
  go_wp2_with fail
  refine (SA.out _).mono ?_
  rintro e w1 ⟨rfl, rfl⟩
  go_wp2_with fail
  refine (SB.out _).mono ?_
  rintro e w2 ⟨rfl, rfl⟩
  go_wp2_with fail
  refine (HP.out _).mono ?_
  rintro e w3 ⟨vp, rfl, rp, h3⟩
  have HRP := hideP rp
  clear rp
  go_wp2_with fail
  go_loopw [7, 8] (fun x s wr => ∃ (r : Int) (k : Nat), x = .int .i64 r ∧ s = .int .i64 (2 ^ k / 2) ∧ k ≤ 63 ∧ 0 ≤ r ∧ r * r ≤ p ∧ p < (r + 2 ^ k) * (r + 2 ^ k) ∧ r + 2 ^ k ≤ 9223372036854775808 ∧ Bl w3 wr) (fun _ s _ => (intOf s).toNat)
  case atStart =>
    have e63 : (2 : Int) ^ 63 = 9223372036854775808 := by decide
    refine ⟨0, 63, rfl, by rw [e63]; rfl, Nat.le_refl _, Int.le_refl _, by omega, by rw [e63]; omega, by rw [e63]; omega, Bl.refl _⟩
  case round =>
    obtain ⟨r, k, rfl, rfl, hk, r0, hr1, hr2, hr3, hB⟩ := hrel
    cases k with
    | zero =>
      have e := root_one p r r0 hr1 (by simpa using hr2)
      have E := hideP e
      rw [show (2 : Int) ^ 0 / 2 = 0 from by decide]
      have hr4 : r ≤ 9223372036854775807 := by rw [Int.pow_zero] at hr3; omega
      have T := fun w => rtimes_any r r w r0 hr4 r0 hr4
      have HT := hideP T
      clear e T hr2 hr3
      go_wp2_with fail
      refine (HT.out _).mono ?_
      rintro e w4 ⟨v4, rfl, r4, h4⟩
      go_wp2_with fail
      refine (less_any _ _ _ _ _ r4 (HRP.out.later (hB.trans h4))).mono ?_
      rintro e w5 ⟨rfl, h5⟩
      go_wp2
      go_ret2
      refine ⟨?_, ((h3.trans hB).trans h4).trans h5⟩
      rw [← E.out]
      rfl
    | succ j =>
      obtain ⟨e1, e2⟩ := pow_step j
      rw [e2] at hr2 hr3
      rw [e1]
      have hp0 := pow_pos2 j
      obtain ⟨P, hP⟩ : ∃ P : Int, P = 2 ^ j := ⟨_, rfl⟩
      rw [← hP] at hr2 hr3 hp0
      rw [← hP]
      have HPP := hideP hP
      have T := fun w => rtimes_any (r + P) (r + P) w (by omega) (by omega) (by omega) (by omega)
      have HT := hideP T
      have Hr2 := hideP hr2
      clear e1 e2 T hP hr2
      by_cases hc : p < (r + P) * (r + P)
      · have D := hideP (decide_eq_true hc)
        have HC := hideP hc
        clear hc
        go_wp2_with fail
        refine (HT.out _).mono ?_
        rintro e w4 ⟨v4, rfl, r4, h4⟩
        go_wp2_with fail
        refine (less_any _ _ _ _ _ (HRP.out.later (hB.trans h4)) r4).mono ?_
        rw [D.out]
        rintro e w5 ⟨rfl, h5⟩
        go_wp2
        go_roundw
        case rel => exact ⟨r, j, rfl, by rw [← HPP.out], by omega, r0, hr1, by rw [← HPP.out]; exact HC.out, by rw [← HPP.out]; omega, (hB.trans h4).trans h5⟩
        case measure => simp [intOf]; omega
      · have D := hideP (decide_eq_false hc)
        have HC := hideP hc
        clear hc
        go_wp2_with fail
        refine (HT.out _).mono ?_
        rintro e w4 ⟨v4, rfl, r4, h4⟩
        go_wp2_with fail
        refine (less_any _ _ _ _ _ (HRP.out.later (hB.trans h4)) r4).mono ?_
        rw [D.out]
        rintro e w5 ⟨rfl, h5⟩
        go_wp2
        go_roundw
        case rel => exact ⟨r + P, j, rfl, by rw [← HPP.out], by omega, by omega, by have := HC.out; omega, by rw [← HPP.out, Int.add_assoc]; exact Hr2.out, by rw [← HPP.out]; omega, (hB.trans h4).trans h5⟩
        case measure => simp [intOf]; omega
end Go.Proofs.YthnadgbloamlaaaGreat
