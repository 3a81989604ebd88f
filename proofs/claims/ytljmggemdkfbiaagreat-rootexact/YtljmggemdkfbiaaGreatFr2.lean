/- Contracts of frac.lowest, whole; New, Fine (layer 4). -/
import Derived.Test.YtljmggemdkfbiaaGreatFr1
namespace Go.Proofs.YtljmggemdkfbiaaGreat
open Go.RowKit
set_option linter.unusedSimpArgs false
set_option linter.unusedVariables false

theorem lowest_zero (n : Int) (w : World) :
    Calls Tryz.prog 56 #[.int .i64 n, .int .i64 0] w fun e w' => e = .returned (frV (lowR n 0)) ∧ Bl w w' := by
  obtain ⟨W, X⟩ := oneZ_ex w
  have HX := hideP X
  clear X
  have e : lowR n 0 = wrongR := by unfold lowR; rw [if_pos rfl]
  rw [e]
  clear e
  go_enter Tryz.func56, Tryz.ntmps56
  go_wp2_with fail
  rw [← HX.out.eq]
  refine (wrongR_any _).mono ?_
  rintro e w1 ⟨rfl, h1⟩
  obtain ⟨c0, c1, c2, f0, f1, f2, lt⟩ := HX.out.bz.later h1
  go_wp2
  simp [bodyPost, results, Tryz.results56, go_sem, c0, c1, c2]
  exact Bl.set3 (HX.out.bl.trans h1) (by omega) _ _ _

theorem tdiv_neg_wrap (n g : Int) (h1 : -4611686018427387904 ≤ n) (h2 : n ≤ 4611686018427387904) : wrap64 (-(n.tdiv g)) = (-n).tdiv g := by
  rw [Int.neg_tdiv]
  have h : (n.tdiv g).natAbs ≤ n.natAbs := by rw [Int.natAbs_tdiv]; exact Nat.div_le_self _ _
  exact IntWalk.wrap64_in _ (by omega)
theorem tdiv_one_le (d g : Int) (hg : 0 < g) (h : g ≤ d) : 1 ≤ d.tdiv g := by
  rw [Int.tdiv_eq_ediv_of_nonneg (by omega)]
  have := Int.ediv_le_ediv hg h
  rwa [Int.ediv_self (by omega)] at this
set_option maxHeartbeats 1000000 in
theorem lowest_neg (n d m : Int) (hm : (m = n ∧ -n < n) ∨ (m = -n ∧ ¬ -n < n)) (h1 : -4611686018427387904 ≤ n) (h2 : n ≤ 4611686018427387904) (h3 : d < 0) (h4 : -4611686018427387904 ≤ d) (w : World) :
    Calls Tryz.prog 56 #[.int .i64 n, .int .i64 d] w fun e w' => e = .returned (frV (lowR n d)) ∧ Bl w w' := by
  obtain ⟨W, X⟩ := oneZ_ex w
  have HX := hideP X
  clear X
  have D := hideP (divisor_any m (-d) (by omega) (by omega))
  have L := lowR_pos (-n) (-d) (by omega) (Int.gcd m (-d) : Int) (by
    rcases hm with ⟨rfl, _⟩ | ⟨rfl, _⟩
    · rw [Int.neg_gcd]
    · rfl)
  rw [← lowR_neg n d h3] at L
  have g0 : 0 < (Int.gcd m (-d) : Int) := by have := Int.gcd_pos_of_ne_zero_right m (show -d ≠ 0 by omega); omega
  have gl : (Int.gcd m (-d) : Int) ≤ -d := Int.gcd_le_right _ (by omega)
  generalize (Int.gcd m (-d) : Int) = g at *
  have hd0 : (d == 0) = false := by simpa using (show d ≠ 0 by omega)
  have hg0 : (g == 0) = false := by simpa using (show g ≠ 0 by omega)
  generalize lowR n d = r at *
  have e1 := hideP (tdiv_neg_wrap n g h1 h2)
  have e2 := hideP (tdiv_neg_wrap d g (by omega) (by omega))
  have y1 := tdiv_one_le (-d) g g0 gl
  obtain ⟨x, hx⟩ : ∃ x, (-n).tdiv g = x := ⟨_, rfl⟩
  obtain ⟨y, hy⟩ : ∃ y, (-d).tdiv g = y := ⟨_, rfl⟩
  rw [hx] at e1 L
  rw [hy] at e2 L y1
  clear hx hy
  rcases low_two x y y1 r L with ⟨k, rfl⟩ | ⟨k, k2, rfl⟩ | ⟨k, k2, rfl⟩
  all_goals
    clear L
    rcases hm with ⟨rfl, hm⟩ | ⟨rfl, hm⟩
    all_goals
      go_enter Tryz.func56, Tryz.ntmps56
      go_wp2_with fail
      rw [← HX.out.eq]
      refine (D.out _).mono ?_
      rintro e w1 ⟨rfl, h1⟩
      go_wp2
      go_quiet (fail)
      simp only [e1.out, e2.out]
      have B1 := h1.trans (drewN_bl nq w1)
      generalize w1.drewN nq = w2 at *
      obtain ⟨c0, c1, c2, f0, f1, f2, lt⟩ := HX.out.bz.later B1
      go_wp2_with (first
        | (go_at_call 54; refine (within_sm _ _).mono ?_; rintro e w' ⟨rfl, rfl⟩)
        | (go_at_call 55; refine (wrongR_any _).mono ?_; rintro e w3 ⟨rfl, h3⟩; obtain ⟨c0, c1, c2, f0, f1, f2, lt⟩ := HX.out.bz.later (B1.trans h3)))
      simp [bodyPost, results, Tryz.results56, go_sem, c0, c1, c2]
      refine Bl.set3 ?_ (by omega) _ _ _
      first
        | exact HX.out.bl.trans B1
        | exact HX.out.bl.trans (B1.trans h3)

theorem lowest_any (n d : Int) (h1 : -4611686018427387904 ≤ n) (h2 : n ≤ 4611686018427387904) (h3 : -4611686018427387904 ≤ d) (h4 : d ≤ 4611686018427387904) (w : World) :
    Calls Tryz.prog 56 #[.int .i64 n, .int .i64 d] w fun e w' => e = .returned (frV (lowR n d)) ∧ Bl w w' := by
  rcases (by omega : d < 0 ∨ d = 0 ∨ 0 < d) with h | h | h
  · by_cases hn : -n < n
    · exact lowest_neg n d n (.inl ⟨rfl, hn⟩) h1 h2 h h3 w
    · exact lowest_neg n d (-n) (.inr ⟨rfl, hn⟩) h1 h2 h h3 w
  · subst h; exact lowest_zero n w
  · by_cases hn : n < -n
    · exact lowest_mid n d (-n) (.inl ⟨rfl, hn⟩) h1 h2 h h4 w
    · exact lowest_mid n d n (.inr ⟨rfl, hn⟩) h1 h2 h h4 w

theorem new_any (n d : Int) (w : World) :
    Calls Tryz.prog 17 #[.int .i64 n, .int .i64 d] w fun e w' => e = .returned (frV (newR n d)) ∧ Bl w w' := by
  obtain ⟨W, X⟩ := oneZ_ex w
  have HX := hideP X
  clear X
  unfold newR
  cases hn : gvB n
  · go_enter Tryz.func17, Tryz.ntmps17
    go_wp2_with fail
    rw [← HX.out.eq]
    refine (within_gv _ _).mono ?_
    rintro e w' ⟨rfl, rfl⟩
    go_wp2_with fail
    refine (wrongR_any _).mono ?_
    rintro e w1 ⟨rfl, h1⟩
    obtain ⟨c0, c1, c2, f0, f1, f2, lt⟩ := HX.out.bz.later h1
    go_wp2
    simp [bodyPost, results, Tryz.results17, go_sem, c0, c1, c2]
    exact Bl.set3 (HX.out.bl.trans h1) (by omega) _ _ _
  · cases hd : gvB d
    · go_enter Tryz.func17, Tryz.ntmps17
      go_wp2_with fail
      rw [← HX.out.eq]
      refine (within_gv _ _).mono ?_
      rintro e w' ⟨rfl, rfl⟩
      go_wp2_with fail
      refine (within_gv _ _).mono ?_
      rintro e w' ⟨rfl, rfl⟩
      go_wp2_with fail
      refine (wrongR_any _).mono ?_
      rintro e w1 ⟨rfl, h1⟩
      obtain ⟨c0, c1, c2, f0, f1, f2, lt⟩ := HX.out.bz.later h1
      go_wp2
      simp [bodyPost, results, Tryz.results17, go_sem, c0, c1, c2]
      exact Bl.set3 (HX.out.bl.trans h1) (by omega) _ _ _
    · have L := hideP (lowest_any n d (by have := gvB_iff.1 hn; omega) (by have := gvB_iff.1 hn; omega) (by have := gvB_iff.1 hd; omega) (by have := gvB_iff.1 hd; omega))
      generalize lowR n d = r at *
      go_enter Tryz.func17, Tryz.ntmps17
      go_wp2_with fail
      rw [← HX.out.eq]
      refine (within_gv _ _).mono ?_
      rintro e w' ⟨rfl, rfl⟩
      go_wp2_with fail
      refine (within_gv _ _).mono ?_
      rintro e w' ⟨rfl, rfl⟩
      go_wp2_with fail
      refine (L.out _).mono ?_
      rintro e w1 ⟨rfl, h1⟩
      obtain ⟨c0, c1, c2, f0, f1, f2, lt⟩ := HX.out.bz.later h1
      go_wp2
      simp [bodyPost, results, Tryz.results17, go_sem, c0, c1, c2]
      exact Bl.set3 (HX.out.bl.trans h1) (by omega) _ _ _
end Go.Proofs.YtljmggemdkfbiaaGreat
