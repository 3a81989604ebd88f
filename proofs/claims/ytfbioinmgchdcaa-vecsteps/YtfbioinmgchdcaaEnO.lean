/- Contracts of the document's 'one' (layer 3). -/
import Derived.Test.YtfbioinmgchdcaaEnM
import Derived.Test.YtfbioinmgchdcaaQz
namespace Go.Proofs.Ytfbioinmgchdcaa
open Go.RowKit
set_option linter.unusedSimpArgs false
set_option linter.unusedVariables false

theorem fa_bad {a b : Int} (h : frB a = false ∨ frB b = false) : faN a b = 0 ∧ faB a b = false := by
  have k : faB a b = false := by unfold faB; rw [allB2]; rcases h with h | h <;> rw [h] <;> simp
  exact ⟨by unfold faN; rw [k]; rfl, k⟩
theorem fs_bad {a b : Int} (h : frB a = false ∨ frB b = false) : fsN a b = 0 ∧ fsB a b = false := by
  have k : fsB a b = false := by unfold fsB; rw [allB2]; rcases h with h | h <;> rw [h] <;> simp
  exact ⟨by unfold fsN; rw [k]; rfl, k⟩
theorem fa_good {a b : Int} (ha : frB a = true) (hb : frB b = true) : toN (a + b) (true && frB (a + b)) = faN a b ∧ (true && frB (a + b)) = faB a b := by
  have k : (true && frB (a + b)) = faB a b := by unfold faB; rw [allB2, ha, hb]; simp
  exact ⟨by unfold faN; rw [k], k⟩
theorem fs_good {a b : Int} (ha : frB a = true) (hb : frB b = true) : toN (a - b) (true && frB (a - b)) = fsN a b ∧ (true && frB (a - b)) = fsB a b := by
  have k : (true && frB (a - b)) = fsB a b := by unfold fsB; rw [allB2, ha, hb]; simp
  exact ⟨by unfold fsN; rw [k], k⟩

theorem one0_any (a b m : Int) (w : World) :
    Calls Try.prog 43 #[.int .i64 0, .int .i64 a, .int .i64 b, .int .i64 m] w fun e w' => e = .returned (.tuple #[.int .i64 (nA a b m), .bool (bA a b m)]) ∧ Bl w w' := by
  unfold nA bA
  cases ha : frB a
  · have x := fa_bad (b := b) (.inl ha)
    rw [x.1, x.2]
    go_enter Try.func43, Try.ntmps43
    go_wp2_with (go_at_call 57; refine (fRefRight_any _ _).mono ?_; rintro e w' ⟨rfl, rfl⟩)
    go_ret2
    exact ⟨rfl, Bl.refl _⟩
  cases hb : frB b
  · have x := fa_bad (a := a) (.inr hb)
    rw [x.1, x.2]
    go_enter Try.func43, Try.ntmps43
    go_wp2_with (go_at_call 57; refine (fRefRight_any _ _).mono ?_; rintro e w' ⟨rfl, rfl⟩)
    go_ret2
    exact ⟨rfl, Bl.refl _⟩
  have x := fa_good ha hb
  rw [← x.1, ← x.2]
  obtain ⟨a1, a2⟩ := frB_iff.1 ha
  obtain ⟨b1, b2⟩ := frB_iff.1 hb
  clear x
  go_enter Try.func43, Try.ntmps43
  go_wp2_with (first | (go_at_call 57; refine (fRefRight_any _ _).mono ?_; rintro e w' ⟨rfl, rfl⟩) | (go_at_call 58; refine (refTold_any _ _ _).mono ?_; rintro e w' ⟨rfl, rfl⟩))
  go_ret2
  exact ⟨rfl, Bl.refl _⟩
theorem one1_any (a b m : Int) (w : World) :
    Calls Try.prog 43 #[.int .i64 1, .int .i64 a, .int .i64 b, .int .i64 m] w fun e w' => e = .returned (.tuple #[.int .i64 (nS a b m), .bool (bS a b m)]) ∧ Bl w w' := by
  unfold nS bS
  cases ha : frB a
  · have x := fs_bad (b := b) (.inl ha)
    rw [x.1, x.2]
    go_enter Try.func43, Try.ntmps43
    go_wp2_with (go_at_call 57; refine (fRefRight_any _ _).mono ?_; rintro e w' ⟨rfl, rfl⟩)
    go_ret2
    exact ⟨rfl, Bl.refl _⟩
  cases hb : frB b
  · have x := fs_bad (a := a) (.inr hb)
    rw [x.1, x.2]
    go_enter Try.func43, Try.ntmps43
    go_wp2_with (go_at_call 57; refine (fRefRight_any _ _).mono ?_; rintro e w' ⟨rfl, rfl⟩)
    go_ret2
    exact ⟨rfl, Bl.refl _⟩
  have x := fs_good ha hb
  rw [← x.1, ← x.2]
  obtain ⟨a1, a2⟩ := frB_iff.1 ha
  obtain ⟨b1, b2⟩ := frB_iff.1 hb
  clear x
  go_enter Try.func43, Try.ntmps43
  go_wp2_with (first | (go_at_call 57; refine (fRefRight_any _ _).mono ?_; rintro e w' ⟨rfl, rfl⟩) | (go_at_call 58; refine (refTold_any _ _ _).mono ?_; rintro e w' ⟨rfl, rfl⟩))
  go_ret2
  exact ⟨rfl, Bl.refl _⟩
theorem one2_any (a b m : Int) (w : World) :
    Calls Try.prog 43 #[.int .i64 2, .int .i64 a, .int .i64 b, .int .i64 m] w fun e w' => e = .returned (.tuple #[.int .i64 (fmN a b m), .bool (fmB a b m)]) ∧ Bl w w' := by
  go_enter Try.func43, Try.ntmps43
  go_wp2_with (go_at_call 59; refine (refMul_any _ _ _ _).mono ?_; rintro e w1 ⟨rfl, h1⟩)
  go_ret2
  exact ⟨rfl, h1⟩
theorem one3_any (a b m : Int) (w : World) :
    Calls Try.prog 43 #[.int .i64 3, .int .i64 a, .int .i64 b, .int .i64 m] w fun e w' => e = .returned (.tuple #[.int .i64 (fdN a b m), .bool (fdB a b m)]) ∧ Bl w w' := by
  go_enter Try.func43, Try.ntmps43
  go_wp2_with (go_at_call 60; refine (refDiv_any _ _ _ _).mono ?_; rintro e w1 ⟨rfl, h1⟩)
  go_ret2
  exact ⟨rfl, h1⟩
theorem dec_lt (r t : Int) : decide (r * r < r * r + t) = decide (0 < t) := by apply decide_eq_decide.2; omega
theorem dec_lt2 (r t : Int) : decide (r * (r + 1) < r * r + t) = decide (r < t) := by apply decide_eq_decide.2; rw [Int.mul_add, Int.mul_one]; omega
set_option maxHeartbeats 1000000 in
theorem one4_any (a b m : Int) (hm : MD m) (w : World) :
    Calls Try.prog 43 #[.int .i64 4, .int .i64 a, .int .i64 b, .int .i64 m] w fun e w' => e = .returned (.tuple #[.int .i64 (nQ a b m), .bool (bQ a b m)]) ∧ Bl w w' := by
  unfold nQ bQ
  cases ha : frB a
  · have x := fq_bad a m (.inl ha)
    rw [x.1, x.2]
    clear x
    go_enter Try.func43, Try.ntmps43
    go_wp2_with (go_at_call 57; refine (fRefRight_any _ _).mono ?_; rintro e w' ⟨rfl, rfl⟩)
    go_ret2
    exact ⟨rfl, Bl.refl _⟩
  by_cases h0 : a < 0
  · have x := fq_bad a m (.inr h0)
    rw [x.1, x.2]
    clear x
    go_enter Try.func43, Try.ntmps43
    go_wp2_with (go_at_call 57; refine (fRefRight_any _ _).mono ?_; rintro e w' ⟨rfl, rfl⟩)
    go_ret2
    exact ⟨rfl, Bl.refl _⟩
  have h1 : 0 ≤ a := by omega
  clear h0
  obtain ⟨r, t, er, r0, r1, t0, ep, ea, ht2, x1, x2, x0⟩ := fq_vals a ha h1
  have R := fun w => fRefRoot_any a w (frB_right ha)
  rw [er, ep, dec_lt] at R
  obtain ⟨a1, a2⟩ := frB_iff.1 ha
  have T1 := hideP (fun w => rtimes_any r (r + 1) w r0 (by omega) (by omega) (by omega))
  have T2 := fun w => rtimes_any a 16777216 w h1 (by omega) (by decide) (by decide)
  rw [ea] at T2
  have HT2 := hideP T2
  have DL := hideP (dec_lt2 r t)
  have HR := hideP R
  clear R T2 er ep ea
  rcases hm with rfl | rfl | rfl
  · rw [x0.1, x0.2]
    by_cases k : 0 < t
    · rw [decide_eq_true k] at HR
      by_cases k2 : r < t
      · rw [decide_eq_true k2]
        rw [decide_eq_true k2] at DL
        clear x1 x2 x0
        go_enter Try.func43, Try.ntmps43
        go_wp2_with (go_at_call 57; refine (fRefRight_any _ _).mono ?_; rintro e w' ⟨rfl, rfl⟩)
        refine (HR.out _).mono ?_
        rintro e w1 ⟨rfl, g1⟩
        go_wp2_with fail
        refine (T1.out _).mono ?_
        rintro e w2 ⟨v2, rfl, r2, g2⟩
        have R2 := hideP r2
        clear r2
        go_wp2_with fail
        refine (HT2.out _).mono ?_
        rintro e w3 ⟨v3, rfl, r3, g3⟩
        have R3 := hideP r3
        clear r3
        go_wp2_with fail
        refine (less_any _ _ _ _ _ (R2.out.later g3) R3.out).mono ?_
        rw [DL.out]
        rintro e w4 ⟨rfl, g4⟩
        go_wp2
        go_ret2
        exact ⟨rfl, ((g1.trans g2).trans g3).trans g4⟩
      · rw [decide_eq_false k2]
        rw [decide_eq_false k2] at DL
        clear x1 x2 x0
        go_enter Try.func43, Try.ntmps43
        go_wp2_with (go_at_call 57; refine (fRefRight_any _ _).mono ?_; rintro e w' ⟨rfl, rfl⟩)
        refine (HR.out _).mono ?_
        rintro e w1 ⟨rfl, g1⟩
        go_wp2_with fail
        refine (T1.out _).mono ?_
        rintro e w2 ⟨v2, rfl, r2, g2⟩
        have R2 := hideP r2
        clear r2
        go_wp2_with fail
        refine (HT2.out _).mono ?_
        rintro e w3 ⟨v3, rfl, r3, g3⟩
        have R3 := hideP r3
        clear r3
        go_wp2_with fail
        refine (less_any _ _ _ _ _ (R2.out.later g3) R3.out).mono ?_
        rw [DL.out]
        rintro e w4 ⟨rfl, g4⟩
        go_wp2
        go_ret2
        exact ⟨rfl, ((g1.trans g2).trans g3).trans g4⟩
    · rw [decide_eq_false k] at HR
      rw [decide_eq_false (show ¬ r < t by omega)]
      clear x1 x2 x0
      go_enter Try.func43, Try.ntmps43
      go_wp2_with (go_at_call 57; refine (fRefRight_any _ _).mono ?_; rintro e w' ⟨rfl, rfl⟩)
      refine (HR.out _).mono ?_
      rintro e w1 ⟨rfl, g1⟩
      go_wp2
      go_ret2
      exact ⟨rfl, g1⟩
  · rw [x1.1, x1.2]
    clear x1 x2 x0
    by_cases k : 0 < t
    · rw [decide_eq_true k] at HR
      go_enter Try.func43, Try.ntmps43
      go_wp2_with (go_at_call 57; refine (fRefRight_any _ _).mono ?_; rintro e w' ⟨rfl, rfl⟩)
      refine (HR.out _).mono ?_
      rintro e w1 ⟨rfl, g1⟩
      go_wp2
      go_ret2
      exact ⟨rfl, g1⟩
    · rw [decide_eq_false k] at HR
      go_enter Try.func43, Try.ntmps43
      go_wp2_with (go_at_call 57; refine (fRefRight_any _ _).mono ?_; rintro e w' ⟨rfl, rfl⟩)
      refine (HR.out _).mono ?_
      rintro e w1 ⟨rfl, g1⟩
      go_wp2
      go_ret2
      exact ⟨rfl, g1⟩
  · rw [x2.1, x2.2]
    by_cases k : 0 < t
    · rw [decide_eq_true k] at HR
      rw [decide_eq_true k]
      clear x1 x2 x0
      go_enter Try.func43, Try.ntmps43
      go_wp2_with (go_at_call 57; refine (fRefRight_any _ _).mono ?_; rintro e w' ⟨rfl, rfl⟩)
      refine (HR.out _).mono ?_
      rintro e w1 ⟨rfl, g1⟩
      go_wp2
      go_ret2
      exact ⟨rfl, g1⟩
    · rw [decide_eq_false k] at HR
      rw [decide_eq_false k]
      clear x1 x2 x0
      go_enter Try.func43, Try.ntmps43
      go_wp2_with (go_at_call 57; refine (fRefRight_any _ _).mono ?_; rintro e w' ⟨rfl, rfl⟩)
      refine (HR.out _).mono ?_
      rintro e w1 ⟨rfl, g1⟩
      go_wp2
      go_ret2
      exact ⟨rfl, g1⟩
end Go.Proofs.Ytfbioinmgchdcaa
