/- The walk of WideModes. -/
import Derived.Test.YtgkggdljehgdiaaLawB
namespace Go.Proofs.Ytgkggdljehgdiaa
open Go.RowKit
set_option linter.unusedSimpArgs false
set_option linter.unusedVariables false

theorem rdN_of {c : Int} (b : Bool) (h : rdB c = true) : rdN c b = if b then -c else c := by
  unfold rdB at h
  unfold rdN
  rw [if_neg (by have := of_decide_eq_true h; omega)]
theorem out_down (q r d : Int) (b : Bool) : outB q r d b 1 = (b && decide (0 < r)) := by simp [outB]
theorem out_up (q r d : Int) (b : Bool) : outB q r d b 2 = (!b && decide (0 < r)) := by simp [outB]

theorem md_order (a b c : Int) (h1 : mdB a b c 1 = true) (h0 : mdB a b c 0 = true) (h2 : mdB a b c 2 = true) :
    mdN a b c 1 ≤ mdN a b c 0 ∧ mdN a b c 0 ≤ mdN a b c 2 ∧ mdN a b c 2 ≤ mdN a b c 1 + 1 := by
  unfold mdB at h1 h0 h2
  rw [Bool.and_eq_true] at h1 h0 h2
  obtain ⟨g1, k1⟩ := h1
  obtain ⟨g0, k0⟩ := h0
  obtain ⟨g2, k2⟩ := h2
  unfold mdN
  rw [g1, g0, g2, if_pos rfl, if_pos rfl, if_pos rfl, rdN_of _ k1, rdN_of _ k0, rdN_of _ k2]
  have hz : c ≠ 0 := by
    intro e
    rw [e] at g0
    simp [mdG] at g0
  have hd : 0 < szI c := by unfold szI; split <;> omega
  have hr : 0 ≤ szI a * szI b % szI c := Int.emod_nonneg _ (by omega)
  clear k1 k0 k2 g1 g0 g2
  unfold mdC
  rw [out_down, out_up]
  have ho : szI a * szI b % szI c = 0 → outB (szI a * szI b / szI c) (szI a * szI b % szI c) (szI c) (belB a b c) 0 = false := by
    intro h
    rw [h]; exact outB_zero _ _ _ _ hd
  generalize outB (szI a * szI b / szI c) (szI a * szI b % szI c) (szI c) (belB a b c) 0 = o at *
  generalize belB a b c = bl at *
  generalize szI a * szI b / szI c = q at *
  generalize szI a * szI b % szI c = r at *
  by_cases h : 0 < r
  · rw [decide_eq_true h]
    cases bl <;> cases o <;> simp [upI] <;> omega
  · rw [decide_eq_false h, ho (by omega)]
    cases bl <;> simp [upI] <;> omega

set_option maxHeartbeats 1000000 in
theorem walk_WideModes (a b c mode : Int) (w : World) :
    Calls Try.prog 7 #[.int .i64 a, .int .i64 b, .int .i64 c, .int .i64 mode] w fun e w' => e = .returned (.bool true) ∧ Bl w w' := by
  have M1 := mulDiv_any a b c 1
  have M0 := mulDiv_any a b c 0
  have M2 := mulDiv_any a b c 2
  have M := mulDiv_any a b c mode
  have R := root_any 1 1 mode
  have O := md_order a b c
  have B1 := mdN_bd a b c 1 (mdC_nn _ _ _ _)
  have hbad : (mode < 0 ∨ 2 < mode) → mdN a b c mode = 0 ∧ mdB a b c mode = false ∧ rtN 1 1 mode = 0 ∧ rtB 1 1 mode = false := by
    intro h
    have hm : modeB mode = false := by
      unfold modeB
      rw [decide_eq_false (by omega), decide_eq_false (by omega), decide_eq_false (by omega)]; rfl
    have hg : mdG a b c mode = false := by unfold mdG; rw [hm]; simp
    have hr : rtG 1 1 mode = false := by unfold rtG; rw [hm]; simp
    refine ⟨(md_bad _ _ _ _ hg).1, (md_bad _ _ _ _ hg).2, ?_, ?_⟩
    · unfold rtN; rw [hr]; rfl
    · unfold rtB; rw [hr]; rfl
  have hgood : ¬ (mode < 0 ∨ 2 < mode) → rtN 1 1 mode = 1 ∧ rtB 1 1 mode = true := by
    intro h
    exact root_sq 1 mode (by decide) (mode_of (by omega))
  generalize mdN a b c 1 = x at *
  generalize mdB a b c 1 = xb at *
  generalize mdN a b c 0 = y at *
  generalize mdB a b c 0 = yb at *
  generalize mdN a b c 2 = z at *
  generalize mdB a b c 2 = zb at *
  generalize mdN a b c mode = n at *
  generalize mdB a b c mode = nb at *
  generalize rtN 1 1 mode = r at *
  generalize rtB 1 1 mode = rb at *
  obtain ⟨B1, B2⟩ := B1
  have H1 : Hid _ := M1
  have H0 : Hid _ := M0
  have H2 : Hid _ := M2
  have HM : Hid _ := M
  have HR : Hid _ := R
  clear M1 M0 M2 M R
  have hcase : (xb = false) ∨ (xb = true ∧ yb = false) ∨ (xb = true ∧ yb = true ∧ zb = false) ∨ (xb = true ∧ yb = true ∧ zb = true ∧ x ≤ y ∧ y ≤ z ∧ z ≤ x + 1) := by
    cases xb <;> cases yb <;> cases zb <;> simp_all
  clear O
  by_cases hm : mode < 0 ∨ 2 < mode
  · obtain ⟨rfl, rfl, rfl, rfl⟩ := hbad hm
    clear hbad hgood
    have hd : (decide (mode < 0) = true) ∨ (decide (mode < 0) = false ∧ 2 < mode) := by
      by_cases k : mode < 0
      · exact .inl (decide_eq_true k)
      · exact .inr ⟨decide_eq_false k, by omega⟩
    clear hm
    rcases hd with hd | ⟨hd, hd2⟩
    all_goals
      rcases hcase with rfl | ⟨rfl, rfl⟩ | ⟨rfl, rfl, rfl⟩ | ⟨rfl, rfl, rfl, o1, o2, o3⟩
      all_goals
        go_enter Try.func7, Try.ntmps7
        go_wp2_with fail
        refine (H1.out _).mono ?_
        rintro e w1 ⟨rfl, h1⟩
        go_wp2_with fail
        refine (H0.out _).mono ?_
        rintro e w2 ⟨rfl, h2⟩
        go_wp2_with fail
        refine (H2.out _).mono ?_
        rintro e w3 ⟨rfl, h3⟩
        go_wp2_with fail
        refine (HM.out _).mono ?_
        rintro e w4 ⟨rfl, h4⟩
        go_wp2_with fail
        refine (HR.out _).mono ?_
        rintro e w5 ⟨rfl, h5⟩
        go_wp2_with fail
        refine (awake_any _).mono ?_
        rintro e w6 ⟨rfl, h6⟩
        go_wp2
        go_ret
        exact ⟨rfl, ((((h1.trans h2).trans h3).trans h4).trans h5).trans h6⟩
  · obtain ⟨rfl, rfl⟩ := hgood hm
    clear hbad hgood
    have hd : decide (mode < 0) = false := decide_eq_false (by omega)
    have hd2 : ¬ 2 < mode := by omega
    clear hm
    rcases hcase with rfl | ⟨rfl, rfl⟩ | ⟨rfl, rfl, rfl⟩ | ⟨rfl, rfl, rfl, o1, o2, o3⟩
    all_goals
      go_enter Try.func7, Try.ntmps7
      go_wp2_with fail
      refine (H1.out _).mono ?_
      rintro e w1 ⟨rfl, h1⟩
      go_wp2_with fail
      refine (H0.out _).mono ?_
      rintro e w2 ⟨rfl, h2⟩
      go_wp2_with fail
      refine (H2.out _).mono ?_
      rintro e w3 ⟨rfl, h3⟩
      go_wp2_with fail
      refine (HM.out _).mono ?_
      rintro e w4 ⟨rfl, h4⟩
      go_wp2_with fail
      refine (HR.out _).mono ?_
      rintro e w5 ⟨rfl, h5⟩
      go_wp2_with fail
      refine (awake_any _).mono ?_
      rintro e w6 ⟨rfl, h6⟩
      go_wp2
      go_ret
      exact ⟨rfl, ((((h1.trans h2).trans h3).trans h4).trans h5).trans h6⟩
end Go.Proofs.Ytgkggdljehgdiaa
