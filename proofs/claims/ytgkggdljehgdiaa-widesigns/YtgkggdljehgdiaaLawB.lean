/- The walks of WideSigns, WideModes. -/
import Derived.Test.YtgkggdljehgdiaaLawA
namespace Go.Proofs.Ytgkggdljehgdiaa
open Go.RowKit
set_option linter.unusedSimpArgs false
set_option linter.unusedVariables false

theorem rdN_neg (c : Int) (b : Bool) : rdN c b = -(rdN c (!b)) := by
  unfold rdN; cases b <;> simp <;> split <;> omega
theorem rdN_zero (b : Bool) : rdN 0 b = 0 := by unfold rdN; cases b <;> simp

/-- With the sign of the product turned, and another mode that goes the other way. -/
theorem md_turn (a b c a' b' m m' : Int) (ha : szI a' = szI a) (hb : szI b' = szI b) (hab : a' * b' = -(a * b)) (hg : mdG a' b' c m' = mdG a b c m)
    (hm : (m = 1 ∧ m' = 2) ∨ (m = 0 ∧ m' = 0)) : mdN a b c m = -(mdN a' b' c m') ∧ mdB a b c m = mdB a' b' c m' := by
  by_cases hz : a * b * c = 0
  · by_cases hc : c = 0
    · have e1 : mdG a b c m = false := by unfold mdG; simp [hc]
      rw [e1] at hg
      have x := md_bad _ _ _ _ e1
      have y := md_bad _ _ _ _ hg
      rw [x.1, x.2, y.1, y.2]
      exact ⟨rfl, rfl⟩
    · have h0 : a * b = 0 := by
        rcases Int.mul_eq_zero.1 hz with h | h
        · exact h
        · exact absurd h hc
      have hd0 : 0 < szI c := by unfold szI; split <;> omega
      have p0 : szI a * szI b = 0 := by rw [szI_mul, h0]; rfl
      have c0 : ∀ bl mm, upI (0 / szI c) (outB (0 / szI c) (0 % szI c) (szI c) bl mm) = 0 := by
        intro bl mm
        rw [Int.zero_ediv, Int.zero_emod, outB_zero _ _ _ _ hd0]; rfl
      unfold mdN mdB mdC
      rw [hg, ha, hb, p0, c0, c0, rdN_zero, rdN_zero]
      exact ⟨by split <;> rfl, rfl⟩
  · have hbl : belB a' b' c = !belB a b c := by
      unfold belB
      rw [hab, Int.neg_mul]
      rcases (by omega : a * b * c < 0 ∨ 0 < a * b * c) with h | h
      · rw [decide_eq_true h, decide_eq_false (by omega)]; rfl
      · rw [decide_eq_false (by omega : ¬ a * b * c < 0), decide_eq_true (by omega)]; rfl
    have hout : ∀ q r d, outB q r d (!belB a b c) m' = outB q r d (belB a b c) m := by
      intro q r d
      rcases hm with ⟨rfl, rfl⟩ | ⟨rfl, rfl⟩
      · simp [outB]
      · simp [outB]
    have hC : mdC a' b' c m' = mdC a b c m := by
      unfold mdC
      rw [ha, hb, hbl, hout]
    unfold mdN mdB
    rw [hg, hC, hbl]
    refine ⟨?_, rfl⟩
    split
    · exact rdN_neg _ _
    · rfl
theorem mdN_bd (a b c m : Int) (hc : 0 ≤ mdC a b c m) : -4611686018427387903 ≤ mdN a b c m ∧ mdN a b c m ≤ 4611686018427387903 := by
  unfold mdN rdN
  split
  · split
    · omega
    · split <;> omega
  · omega
theorem mdC_nn (a b c m : Int) : 0 ≤ mdC a b c m := by
  have h1 := Int.mul_nonneg (szI_nn a) (szI_nn b)
  have h2 := Int.ediv_nonneg h1 (szI_nn c)
  have := upI_le (szI a * szI b / szI c) (outB (szI a * szI b / szI c) (szI a * szI b % szI c) (szI c) (belB a b c) m)
  unfold mdC
  omega
theorem mdG_neg1 (a b c m m' : Int) (hm : modeB m = modeB m') : mdG (-a) b c m' = mdG a b c m := by unfold mdG; rw [right_neg, hm]
theorem mdG_neg2 (a b c m m' : Int) (hm : modeB m = modeB m') : mdG a (-b) c m' = mdG a b c m := by unfold mdG; rw [right_neg, hm]

set_option maxHeartbeats 1000000 in
theorem walk_WideSigns (a b c : Int) (ia : I64 a) (ib : I64 b) (w : World) :
    Calls Try.prog 9 #[.int .i64 a, .int .i64 b, .int .i64 c] w fun e w' => e = .returned (.bool true) ∧ Bl w w' := by
  have M1 := mulDiv_any a b c 1
  have M2 := mulDiv_any (wrap64 (-a)) b c 2
  have M3 := mulDiv_any a b c 0
  have M4 := mulDiv_any a (wrap64 (-b)) c 0
  have ra := right_wneg ia
  have rb := right_wneg ib
  obtain ⟨a0, a1⟩ := ia
  obtain ⟨b0, b1⟩ := ib
  by_cases hg : rightB a = true ∧ rightB b = true ∧ rightB c = true
  · obtain ⟨ha, hb, hc⟩ := hg
    have ka := rightB_iff.1 ha
    have kb := rightB_iff.1 hb
    have wa : wrap64 (-a) = -a := IntWalk.wrap64_in _ (by omega)
    have wb : wrap64 (-b) = -b := IntWalk.wrap64_in _ (by omega)
    have T1 := md_turn a b c (-a) b 1 2 (szI_neg a) rfl (Int.neg_mul a b) (mdG_neg1 a b c 1 2 (by decide)) (.inl ⟨rfl, rfl⟩)
    have T2 := md_turn a b c a (-b) 0 0 rfl (szI_neg b) (Int.mul_neg a b) (mdG_neg2 a b c 0 0 rfl) (.inr ⟨rfl, rfl⟩)
    have B2 := mdN_bd (-a) b c 2 (mdC_nn _ _ _ _)
    have B4 := mdN_bd a (-b) c 0 (mdC_nn _ _ _ _)
    rw [wa] at M2
    rw [wb] at M4
    rw [T1.1, T1.2] at M1
    rw [T2.1, T2.2] at M3
    clear T1 T2 ra rb wa wb
    generalize mdN (-a) b c 2 = y at *
    generalize mdB (-a) b c 2 = yb at *
    generalize mdN a (-b) c 0 = q at *
    generalize mdB a (-b) c 0 = qb at *
    obtain ⟨y0, y1⟩ := B2
    obtain ⟨q0, q1⟩ := B4
    have H1 : Hid _ := M1
    have H2 : Hid _ := M2
    have H3 : Hid _ := M3
    have H4 : Hid _ := M4
    clear M1 M2 M3 M4
    go_enter Try.func9, Try.ntmps9
    go_wp2_with fail
    refine (H1.out _).mono ?_
    rintro e w1 ⟨rfl, h1⟩
    go_wp2_with fail
    refine (H2.out _).mono ?_
    rintro e w2 ⟨rfl, h2⟩
    go_wp2_with fail
    refine (H3.out _).mono ?_
    rintro e w3 ⟨rfl, h3⟩
    go_wp2_with fail
    refine (H4.out _).mono ?_
    rintro e w4 ⟨rfl, h4⟩
    go_wp2_with (first
      | (go_at_call 14; refine (refRight_any _ _).mono ?_; rintro e w' ⟨rfl, rfl⟩)
      | (go_at_call 15; refine (awake_any _).mono ?_; rintro e w' ⟨rfl, h5⟩))
    go_ret
    exact ⟨rfl, (((h1.trans h2).trans h3).trans h4).trans h5⟩
  · have gb : rightB a = false ∨ rightB b = false ∨ rightB c = false := by
      cases ha : rightB a <;> cases hb : rightB b <;> cases hc : rightB c <;> simp_all
    have G1 : mdG a b c 1 = false := mdG_bad gb
    have G2 : mdG (wrap64 (-a)) b c 2 = false := mdG_bad (by rw [ra]; exact gb)
    have G3 : mdG a b c 0 = false := mdG_bad gb
    have G4 : mdG a (wrap64 (-b)) c 0 = false := mdG_bad (by rw [rb]; exact gb)
    have x1 := md_bad _ _ _ _ G1
    have x2 := md_bad _ _ _ _ G2
    have x3 := md_bad _ _ _ _ G3
    have x4 := md_bad _ _ _ _ G4
    rw [x1.1, x1.2] at M1
    rw [x2.1, x2.2] at M2
    rw [x3.1, x3.2] at M3
    rw [x4.1, x4.2] at M4
    have H1 : Hid _ := M1
    have H2 : Hid _ := M2
    have H3 : Hid _ := M3
    have H4 : Hid _ := M4
    clear M1 M2 M3 M4 x1 x2 x3 x4 G1 G2 G3 G4 ra rb hg
    have go : ∀ (ra rb rc : Bool), rightB a = ra → rightB b = rb → rightB c = rc → (ra = false ∨ rb = false ∨ rc = false) → Calls Try.prog 9 #[.int .i64 a, .int .i64 b, .int .i64 c] w fun e w' => e = .returned (.bool true) ∧ Bl w w' := by
      intro ra rb rc e1 e2 e3 hc
      clear gb
      have hh : (ra = false) ∨ (ra = true ∧ rb = false) ∨ (ra = true ∧ rb = true ∧ rc = false) := by
        cases ra <;> cases rb <;> simp_all
      clear hc
      rcases hh with rfl | ⟨rfl, rfl⟩ | ⟨rfl, rfl, rfl⟩
      all_goals
        go_enter Try.func9, Try.ntmps9
        go_wp2_with fail
        refine (H1.out _).mono ?_
        rintro e w1 ⟨rfl, h1⟩
        go_wp2_with fail
        refine (H2.out _).mono ?_
        rintro e w2 ⟨rfl, h2⟩
        go_wp2_with fail
        refine (H3.out _).mono ?_
        rintro e w3 ⟨rfl, h3⟩
        go_wp2_with fail
        refine (H4.out _).mono ?_
        rintro e w4 ⟨rfl, h4⟩
        go_wp2_with (first
          | (go_at_call 14; refine (refRight_any _ _).mono ?_; rintro e w' ⟨rfl, rfl⟩)
          | (go_at_call 15; refine (awake_any _).mono ?_; rintro e w' ⟨rfl, h5⟩))
        go_ret
        exact ⟨rfl, (((h1.trans h2).trans h3).trans h4).trans h5⟩
    exact go _ _ _ rfl rfl rfl gb
end Go.Proofs.Ytgkggdljehgdiaa
