/- The walk of WideNearest. -/
import Derived.Test.YtgkggdljehgdiaaLawE
namespace Go.Proofs.Ytgkggdljehgdiaa
open Go.RowKit
set_option linter.unusedSimpArgs false
set_option linter.unusedVariables false

set_option maxHeartbeats 1000000 in
theorem nearest_bad (a b : Int) (w : World)
    (hw : (rightB a = false) ∨ (rightB a = true ∧ rightB b = false) ∨ (rightB a = true ∧ rightB b = true ∧ 0 < a ∧ b < 0) ∨ (rightB a = true ∧ rightB b = true ∧ a < 0 ∧ 0 < b)) :
    Calls Try.prog 6 #[.int .i64 a, .int .i64 b] w fun e w' => e = .returned (.bool true) ∧ Bl w w' := by
  have go : ∀ (ra rb : Bool), rightB a = ra → rightB b = rb → ((ra = false) ∨ (ra = true ∧ rb = false) ∨ (ra = true ∧ rb = true ∧ 0 < a ∧ b < 0) ∨ (ra = true ∧ rb = true ∧ a < 0 ∧ 0 < b)) →
      Calls Try.prog 6 #[.int .i64 a, .int .i64 b] w fun e w' => e = .returned (.bool true) ∧ Bl w w' := by
    intro ra rb e1 e2 hh
    clear hw
    rcases hh with rfl | ⟨rfl, rfl⟩ | ⟨rfl, rfl, k1, k2⟩ | ⟨rfl, rfl, k1, k2⟩
    all_goals
      go_enter Try.func6, Try.ntmps6
      go_wp2_with (first
        | (go_at_call 14; refine (refRight_any _ _).mono ?_; rintro e w' ⟨rfl, rfl⟩)
        | (go_at_call 15; refine (awake_any _).mono ?_; rintro e w' ⟨rfl, h5⟩))
      go_ret
      exact ⟨rfl, h5⟩
  exact go _ _ rfl rfl hw

set_option maxHeartbeats 1000000 in
theorem nearest_good (a b : Int) (w : World) (ha : rightB a = true) (hb : rightB b = true) (hw : (0 < a ∧ 0 ≤ b) ∨ (a < 0 ∧ b ≤ 0) ∨ (a ≤ 0 ∧ 0 ≤ a)) :
    Calls Try.prog 6 #[.int .i64 a, .int .i64 b] w fun e w' => e = .returned (.bool true) ∧ Bl w w' := by
  have M0 := root_any a b 0
  have R := fun w => refRoot_any a b w ha hb
  obtain ⟨r, t, er, r0, r1, t0, ep, hup, x1, x2, x0⟩ := root_vals a b ha hb (nn_of_way hw)
  have ka := rightB_iff.1 ha
  have kb := rightB_iff.1 hb
  have sa := szI_right ha
  have sb := szI_right hb
  have P := fun w => rtimes_any (szI a) (szI b) w sa.1 (by omega) sb.1 (by omega)
  rw [ep, szI_max, szI_max] at P
  have T := fun w => rtimes_any r (r + 1) w r0 (by omega) (by omega) (by omega)
  rw [x0.1, x0.2] at M0
  rw [er, ep] at R
  have hd : (r * r < r * r + t) ↔ 0 < t := by omega
  have hl : (r * (r + 1) < r * r + t) ↔ r < t := by rw [Int.mul_add, Int.mul_one]; omega
  clear x1 x2 x0 er ep sa sb
  obtain ⟨ka0, ka1⟩ := ka
  obtain ⟨kb0, kb1⟩ := kb
  have HP := hideP P
  have HT := hideP T
  clear P T
  by_cases ht : 0 < t
  · rw [decide_eq_true (hd.2 ht)] at R
    have HR := hideP R
    clear R hd hup
    by_cases hz : r < t
    · rw [decide_eq_true hz, upI_t] at M0
      have H0 := hideP M0
      have DL := hideP (decide_eq_true (hl.2 hz))
      clear M0 hz hl
      rcases hw with ⟨k1, k2⟩ | ⟨k1, k2⟩ | ⟨k1, k2⟩
      all_goals
        go_enter Try.func6, Try.ntmps6
        go_wp2_with (go_at_call 14; refine (refRight_any _ _).mono ?_; rintro e w' ⟨rfl, rfl⟩)
        refine (HR.out _).mono ?_
        rintro e w1 ⟨rfl, h1⟩
        go_wp2_with fail
        refine (H0.out _).mono ?_
        rintro e w2 ⟨rfl, h2⟩
        go_wp2_with fail
        refine (HP.out _).mono ?_
        rintro e w3 ⟨vp, rfl, rp, h3⟩
        go_wp2_with fail
        refine (HT.out _).mono ?_
        rintro e w4 ⟨vt, rfl, rt, h4⟩
        go_wp2_with fail
        refine (less_any _ _ _ _ _ rt (rp.later h4)).mono ?_
        rw [DL.out]
        rintro e w5 ⟨rfl, h5⟩
        go_wp2_with fail
        refine (awake_any _).mono ?_
        rintro e w6 ⟨rfl, h6⟩
        go_wp2
        go_ret
        exact ⟨rfl, ((((h1.trans h2).trans h3).trans h4).trans h5).trans h6⟩
    · rw [decide_eq_false hz, upI_f] at M0
      have H0 := hideP M0
      have DL := hideP (decide_eq_false (fun h => hz (hl.1 h)))
      clear M0 hz hl
      rcases hw with ⟨k1, k2⟩ | ⟨k1, k2⟩ | ⟨k1, k2⟩
      all_goals
        go_enter Try.func6, Try.ntmps6
        go_wp2_with (go_at_call 14; refine (refRight_any _ _).mono ?_; rintro e w' ⟨rfl, rfl⟩)
        refine (HR.out _).mono ?_
        rintro e w1 ⟨rfl, h1⟩
        go_wp2_with fail
        refine (H0.out _).mono ?_
        rintro e w2 ⟨rfl, h2⟩
        go_wp2_with fail
        refine (HP.out _).mono ?_
        rintro e w3 ⟨vp, rfl, rp, h3⟩
        go_wp2_with fail
        refine (HT.out _).mono ?_
        rintro e w4 ⟨vt, rfl, rt, h4⟩
        go_wp2_with fail
        refine (less_any _ _ _ _ _ rt (rp.later h4)).mono ?_
        rw [DL.out]
        rintro e w5 ⟨rfl, h5⟩
        go_wp2_with fail
        refine (awake_any _).mono ?_
        rintro e w6 ⟨rfl, h6⟩
        go_wp2
        go_ret
        exact ⟨rfl, ((((h1.trans h2).trans h3).trans h4).trans h5).trans h6⟩
  · rw [decide_eq_false (fun h => ht (hd.1 h))] at R
    rw [decide_eq_false (show ¬ r < t by omega), upI_f] at M0
    have H0 := hideP M0
    have HR := hideP R
    clear M0 R hd hl hup ht
    rcases hw with ⟨k1, k2⟩ | ⟨k1, k2⟩ | ⟨k1, k2⟩
    all_goals
      go_enter Try.func6, Try.ntmps6
      go_wp2_with (go_at_call 14; refine (refRight_any _ _).mono ?_; rintro e w' ⟨rfl, rfl⟩)
      refine (HR.out _).mono ?_
      rintro e w1 ⟨rfl, h1⟩
      go_wp2_with fail
      refine (H0.out _).mono ?_
      rintro e w2 ⟨rfl, h2⟩
      go_wp2_with fail
      refine (HP.out _).mono ?_
      rintro e w3 ⟨vp, rfl, rp, h3⟩
      go_wp2_with fail
      refine (awake_any _).mono ?_
      rintro e w6 ⟨rfl, h6⟩
      go_wp2
      go_ret
      exact ⟨rfl, ((h1.trans h2).trans h3).trans h6⟩

theorem walk_WideNearest (a b : Int) (w : World) :
    Calls Try.prog 6 #[.int .i64 a, .int .i64 b] w fun e w' => e = .returned (.bool true) ∧ Bl w w' := by
  rcases root_ways a b with h | h | h | h | ⟨ha, hb, h⟩
  · exact nearest_bad a b w (.inl h)
  · exact nearest_bad a b w (.inr (.inl h))
  · exact nearest_bad a b w (.inr (.inr (.inl h)))
  · exact nearest_bad a b w (.inr (.inr (.inr h)))
  · exact nearest_good a b w ha hb h
end Go.Proofs.Ytgkggdljehgdiaa
