/- The walks of WideRoots, WideNearest. -/
import Derived.Test.YtgkggdljehgdiaaRefR
import Derived.Test.YtgkggdljehgdiaaLawA
namespace Go.Proofs.Ytgkggdljehgdiaa
open Go.RowKit
set_option linter.unusedSimpArgs false
set_option linter.unusedVariables false

theorem upI_t (c : Int) : upI c true = c + 1 := rfl
theorem upI_f (c : Int) : upI c false = c := rfl

/-- The three roots of a product that is not below 0. -/
theorem root_vals (a b : Int) (ha : rightB a = true) (hb : rightB b = true) (hs : ¬ a * b < 0) :
    ∃ r t : Int, rtF (szI a * szI b) = r ∧ 0 ≤ r ∧ r ≤ 4611686018427387903 ∧ 0 ≤ t ∧ szI a * szI b = r * r + t ∧ (0 < t → r + 1 ≤ 4611686018427387903) ∧
      (rtN a b 1 = r ∧ rtB a b 1 = true) ∧ (rtN a b 2 = upI r (decide (0 < t)) ∧ rtB a b 2 = true) ∧ (rtN a b 0 = upI r (decide (r < t)) ∧ rtB a b 0 = true) := by
  have sa := szI_right ha
  have sb := szI_right hb
  have hp := mul_hi sa sb
  have hd : decide (a * b < 0) = false := decide_eq_false hs
  have g : ∀ m, modeB m = true → rtG a b m = true := fun m hm => by unfold rtG; rw [ha, hb, hd, hm]; rfl
  have g1 := g 1 (by decide)
  have g2 := g 2 (by decide)
  have g0 := g 0 (by decide)
  have hr := rtF_spec (szI a * szI b) hp.1
  have hle := rtF_le (szI a * szI b) 4611686018427387903 hp.1 (by omega) (by omega)
  unfold rtN rtB rtC
  rw [g1, g2, g0]
  generalize szI a * szI b = p at *
  generalize rtF p = r at *
  obtain ⟨r0, r1, r2⟩ := hr
  have hup : 0 < p - r * r → r + 1 ≤ 4611686018427387903 := by
    intro h
    rcases Int.lt_or_le r 4611686018427387903 with k | k
    · omega
    · have e : r = 4611686018427387903 := by omega
      subst e
      omega
  have out0 : outB r (p - r * r) (2 * r + 1) false 0 = decide (r < p - r * r) := by
    simp only [outB]
    rw [if_neg (by decide), if_neg (by decide), decide_eq_false (show ¬ 2 * (p - r * r) = 2 * r + 1 by omega), Bool.false_and, Bool.or_false]
    rw [Bool.eq_iff_iff, decide_eq_true_iff, decide_eq_true_iff]
    omega
  have out1 : outB r (p - r * r) (2 * r + 1) false 1 = false := by simp [outB]
  have out2 : outB r (p - r * r) (2 * r + 1) false 2 = decide (0 < p - r * r) := by simp [outB]
  rw [out0, out1, out2]
  refine ⟨r, p - r * r, rfl, r0, hle, by omega, by omega, hup, ?_, ?_, ?_⟩
  · rw [upI_f]
    refine ⟨by rw [if_pos rfl]; unfold rdN; rw [if_neg (by omega)]; rfl, ?_⟩
    unfold rdB; simp; omega
  · by_cases h : 0 < p - r * r
    · rw [decide_eq_true h, upI_t]
      have := hup h
      refine ⟨by rw [if_pos rfl]; unfold rdN; rw [if_neg (by omega)]; rfl, ?_⟩
      unfold rdB; simp; omega
    · rw [decide_eq_false h, upI_f]
      refine ⟨by rw [if_pos rfl]; unfold rdN; rw [if_neg (by omega)]; rfl, ?_⟩
      unfold rdB; simp; omega
  · by_cases h : r < p - r * r
    · rw [decide_eq_true h, upI_t]
      have := hup (by omega)
      refine ⟨by rw [if_pos rfl]; unfold rdN; rw [if_neg (by omega)]; rfl, ?_⟩
      unfold rdB; simp; omega
    · rw [decide_eq_false h, upI_f]
      refine ⟨by rw [if_pos rfl]; unfold rdN; rw [if_neg (by omega)]; rfl, ?_⟩
      unfold rdB; simp; omega
theorem root_none (a b m : Int) (h : rtG a b m = false) : rtN a b m = 0 ∧ rtB a b m = false := by
  unfold rtN rtB; rw [h]; exact ⟨rfl, rfl⟩
theorem rtG_bad {a b m : Int} (h : rightB a = false ∨ rightB b = false ∨ a * b < 0) : rtG a b m = false := by
  unfold rtG
  rcases h with h | h | h
  · rw [h]; simp
  · rw [h]; simp
  · rw [decide_eq_true h]; simp
/-- How the law's first test goes. -/
theorem root_ways (a b : Int) : (rightB a = false) ∨ (rightB a = true ∧ rightB b = false) ∨ (rightB a = true ∧ rightB b = true ∧ 0 < a ∧ b < 0) ∨ (rightB a = true ∧ rightB b = true ∧ a < 0 ∧ 0 < b) ∨
    (rightB a = true ∧ rightB b = true ∧ ((0 < a ∧ 0 ≤ b) ∨ (a < 0 ∧ b ≤ 0) ∨ (a ≤ 0 ∧ 0 ≤ a))) := by
  cases ha : rightB a
  · exact .inl rfl
  · cases hb : rightB b
    · exact .inr (.inl ⟨rfl, rfl⟩)
    · rcases (by omega : (0 < a ∧ b < 0) ∨ (a < 0 ∧ 0 < b) ∨ ((0 < a ∧ 0 ≤ b) ∨ (a < 0 ∧ b ≤ 0) ∨ (a ≤ 0 ∧ 0 ≤ a))) with h | h | h
      · exact .inr (.inr (.inl ⟨rfl, rfl, h.1, h.2⟩))
      · exact .inr (.inr (.inr (.inl ⟨rfl, rfl, h.1, h.2⟩)))
      · exact .inr (.inr (.inr (.inr ⟨rfl, rfl, h⟩)))
theorem nn_of_way {a b : Int} (h : (0 < a ∧ 0 ≤ b) ∨ (a < 0 ∧ b ≤ 0) ∨ (a ≤ 0 ∧ 0 ≤ a)) : ¬ a * b < 0 := by
  rcases h with h | h | h
  · have := Int.mul_nonneg (show 0 ≤ a by omega) h.2; omega
  · have := Int.mul_nonneg_of_nonpos_of_nonpos (show a ≤ 0 by omega) h.2; omega
  · rw [show a = 0 by omega, Int.zero_mul]; omega

set_option maxHeartbeats 1000000 in
theorem roots_bad (a b : Int) (w : World) (h : rightB a = false ∨ rightB b = false ∨ a * b < 0)
    (hw : (rightB a = false) ∨ (rightB a = true ∧ rightB b = false) ∨ (rightB a = true ∧ rightB b = true ∧ 0 < a ∧ b < 0) ∨ (rightB a = true ∧ rightB b = true ∧ a < 0 ∧ 0 < b)) :
    Calls Try.prog 5 #[.int .i64 a, .int .i64 b] w fun e w' => e = .returned (.bool true) ∧ Bl w w' := by
  have M1 := root_any a b 1
  have M2 := root_any a b 2
  have M0 := root_any a b 0
  have x1 := root_none _ _ _ (rtG_bad (m := 1) h)
  have x2 := root_none _ _ _ (rtG_bad (m := 2) h)
  have x0 := root_none _ _ _ (rtG_bad (m := 0) h)
  rw [x1.1, x1.2] at M1
  rw [x2.1, x2.2] at M2
  rw [x0.1, x0.2] at M0
  have H1 := hideP M1
  have H2 := hideP M2
  have H0 := hideP M0
  clear M1 M2 M0 x1 x2 x0 h
  have go : ∀ (ra rb : Bool), rightB a = ra → rightB b = rb → ((ra = false) ∨ (ra = true ∧ rb = false) ∨ (ra = true ∧ rb = true ∧ 0 < a ∧ b < 0) ∨ (ra = true ∧ rb = true ∧ a < 0 ∧ 0 < b)) →
      Calls Try.prog 5 #[.int .i64 a, .int .i64 b] w fun e w' => e = .returned (.bool true) ∧ Bl w w' := by
    intro ra rb e1 e2 hh
    clear hw
    rcases hh with rfl | ⟨rfl, rfl⟩ | ⟨rfl, rfl, k1, k2⟩ | ⟨rfl, rfl, k1, k2⟩
    all_goals
      go_enter Try.func5, Try.ntmps5
      go_wp2_with fail
      refine (H1.out _).mono ?_
      rintro e w1 ⟨rfl, h1⟩
      go_wp2_with fail
      refine (H2.out _).mono ?_
      rintro e w2 ⟨rfl, h2⟩
      go_wp2_with fail
      refine (H0.out _).mono ?_
      rintro e w3 ⟨rfl, h3⟩
      go_wp2_with (first
        | (go_at_call 14; refine (refRight_any _ _).mono ?_; rintro e w' ⟨rfl, rfl⟩)
        | (go_at_call 15; refine (awake_any _).mono ?_; rintro e w' ⟨rfl, h5⟩))
      go_ret
      exact ⟨rfl, ((h1.trans h2).trans h3).trans h5⟩
  exact go _ _ rfl rfl hw

set_option maxHeartbeats 1000000 in
theorem roots_good (a b : Int) (w : World) (ha : rightB a = true) (hb : rightB b = true) (hw : (0 < a ∧ 0 ≤ b) ∨ (a < 0 ∧ b ≤ 0) ∨ (a ≤ 0 ∧ 0 ≤ a)) :
    Calls Try.prog 5 #[.int .i64 a, .int .i64 b] w fun e w' => e = .returned (.bool true) ∧ Bl w w' := by
  have M1 := root_any a b 1
  have M2 := root_any a b 2
  have M0 := root_any a b 0
  have R := fun w => refRoot_any a b w ha hb
  obtain ⟨r, t, er, r0, r1, t0, ep, hup, x1, x2, x0⟩ := root_vals a b ha hb (nn_of_way hw)
  rw [x1.1, x1.2] at M1
  rw [x2.1, x2.2] at M2
  rw [x0.1, x0.2] at M0
  rw [er, ep] at R
  have hd : (r * r < r * r + t) ↔ 0 < t := by omega
  clear x1 x2 x0 er ep
  by_cases ht : 0 < t
  · have hu := hup ht
    rw [decide_eq_true (hd.2 ht)] at R
    rw [decide_eq_true ht, upI_t] at M2
    have H1 := hideP M1
    have H2 := hideP M2
    have HR := hideP R
    clear M1 M2 R hd hup
    by_cases hz : r < t
    · rw [decide_eq_true hz, upI_t] at M0
      have H0 := hideP M0
      clear M0 hz
      rcases hw with ⟨k1, k2⟩ | ⟨k1, k2⟩ | ⟨k1, k2⟩
      all_goals
        go_enter Try.func5, Try.ntmps5
        go_wp2_with fail
        refine (H1.out _).mono ?_
        rintro e w1 ⟨rfl, h1⟩
        go_wp2_with fail
        refine (H2.out _).mono ?_
        rintro e w2 ⟨rfl, h2⟩
        go_wp2_with fail
        refine (H0.out _).mono ?_
        rintro e w3 ⟨rfl, h3⟩
        go_wp2_with (go_at_call 14; refine (refRight_any _ _).mono ?_; rintro e w' ⟨rfl, rfl⟩)
        refine (HR.out _).mono ?_
        rintro e w4 ⟨rfl, h4⟩
        have hne : (r + 1 == r) = false := beq_eq_false_iff_ne.2 (by omega)
        go_wp2_with (go_at_call 15; refine (awake_any _).mono ?_; rintro e w' ⟨rfl, h5⟩)
        go_ret
        exact ⟨rfl, (((h1.trans h2).trans h3).trans h4).trans h5⟩
    · rw [decide_eq_false hz, upI_f] at M0
      have H0 := hideP M0
      clear M0 hz
      rcases hw with ⟨k1, k2⟩ | ⟨k1, k2⟩ | ⟨k1, k2⟩
      all_goals
        go_enter Try.func5, Try.ntmps5
        go_wp2_with fail
        refine (H1.out _).mono ?_
        rintro e w1 ⟨rfl, h1⟩
        go_wp2_with fail
        refine (H2.out _).mono ?_
        rintro e w2 ⟨rfl, h2⟩
        go_wp2_with fail
        refine (H0.out _).mono ?_
        rintro e w3 ⟨rfl, h3⟩
        go_wp2_with (go_at_call 14; refine (refRight_any _ _).mono ?_; rintro e w' ⟨rfl, rfl⟩)
        refine (HR.out _).mono ?_
        rintro e w4 ⟨rfl, h4⟩
        go_wp2_with (go_at_call 15; refine (awake_any _).mono ?_; rintro e w' ⟨rfl, h5⟩)
        go_ret
        exact ⟨rfl, (((h1.trans h2).trans h3).trans h4).trans h5⟩
  · rw [decide_eq_false (fun h => ht (hd.1 h))] at R
    rw [decide_eq_false ht, upI_f] at M2
    rw [decide_eq_false (show ¬ r < t by omega), upI_f] at M0
    have H1 := hideP M1
    have H2 := hideP M2
    have H0 := hideP M0
    have HR := hideP R
    clear M1 M2 M0 R hd hup ht
    rcases hw with ⟨k1, k2⟩ | ⟨k1, k2⟩ | ⟨k1, k2⟩
    all_goals
      go_enter Try.func5, Try.ntmps5
      go_wp2_with fail
      refine (H1.out _).mono ?_
      rintro e w1 ⟨rfl, h1⟩
      go_wp2_with fail
      refine (H2.out _).mono ?_
      rintro e w2 ⟨rfl, h2⟩
      go_wp2_with fail
      refine (H0.out _).mono ?_
      rintro e w3 ⟨rfl, h3⟩
      go_wp2_with (go_at_call 14; refine (refRight_any _ _).mono ?_; rintro e w' ⟨rfl, rfl⟩)
      refine (HR.out _).mono ?_
      rintro e w4 ⟨rfl, h4⟩
      go_wp2_with (go_at_call 15; refine (awake_any _).mono ?_; rintro e w' ⟨rfl, h5⟩)
      go_ret
      exact ⟨rfl, (((h1.trans h2).trans h3).trans h4).trans h5⟩

theorem walk_WideRoots (a b : Int) (w : World) :
    Calls Try.prog 5 #[.int .i64 a, .int .i64 b] w fun e w' => e = .returned (.bool true) ∧ Bl w w' := by
  rcases root_ways a b with h | h | h | h | ⟨ha, hb, h⟩
  · exact roots_bad a b w (.inl h) (.inl h)
  · exact roots_bad a b w (.inr (.inl h.2)) (.inr (.inl h))
  · exact roots_bad a b w (.inr (.inr (Int.mul_neg_of_pos_of_neg h.2.2.1 h.2.2.2))) (.inr (.inr (.inl h)))
  · exact roots_bad a b w (.inr (.inr (Int.mul_neg_of_neg_of_pos h.2.2.1 h.2.2.2))) (.inr (.inr (.inr h)))
  · exact roots_good a b w ha hb h
end Go.Proofs.Ytgkggdljehgdiaa
