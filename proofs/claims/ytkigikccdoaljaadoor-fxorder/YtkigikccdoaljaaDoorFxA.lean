/- The walks of FxRoots, FxBack. -/
import Derived.Test.YtkigikccdoaljaaDoorFx8
import Derived.Test.YtkigikccdoaljaaDoorLawE
namespace Go.Proofs.YtkigikccdoaljaaDoor
open Go.RowKit
set_option linter.unusedSimpArgs false
set_option linter.unusedVariables false

theorem fq_bad (a m : Int) (h : frB a = false ∨ a < 0) : fqN a m = 0 ∧ fqB a m = false := by
  have hb : fqB a m = false := by
    unfold fqB
    rcases h with h | h
    · rw [allB1, h, Bool.and_false]
    · have hg : rtG a 16777216 m = false := rtG_bad (.inr (.inr (by omega)))
      rw [(root_none a 16777216 m hg).2]; rfl
  exact ⟨by unfold fqN; rw [hb]; rfl, hb⟩
theorem sq_small (r t a : Int) (h0 : 0 ≤ r) (ht : 0 ≤ t) (ha : a ≤ 1125899906842624) (h : a * 16777216 = r * r + t) : r ≤ 1000000000000 := by
  rcases Int.lt_or_le 1000000000000 r with k | k
  · have := Int.mul_le_mul (Int.le_of_lt k) (Int.le_of_lt k) (by omega) h0
    omega
  · exact k
theorem fq_vals (a : Int) (ha : frB a = true) (h0 : 0 ≤ a) : ∃ r t : Int, rtF (szI a * 16777216) = r ∧ 0 ≤ r ∧ r ≤ 1000000000000 ∧ 0 ≤ t ∧ szI a * 16777216 = r * r + t ∧ a * 16777216 = r * r + t ∧ t ≤ 2 * r ∧
    (fqN a 1 = r ∧ fqB a 1 = true) ∧ (fqN a 2 = upI r (decide (0 < t)) ∧ fqB a 2 = true) ∧ (fqN a 0 = upI r (decide (r < t)) ∧ fqB a 0 = true) := by
  obtain ⟨b0, b1⟩ := frB_iff.1 ha
  obtain ⟨r, t, er, r0, r1, t0, ep, hup, x1, x2, x0⟩ := root_vals a 16777216 (frB_right ha) (by decide) (by omega)
  have hs : szI a = a := by unfold szI; rw [if_neg (by omega)]
  have hU : szI 16777216 = 16777216 := rfl
  rw [hU] at er ep
  have ea : a * 16777216 = r * r + t := by rw [← ep, hs]
  have hr := sq_small r t a r0 t0 b1 ea
  have ht2 : t ≤ 2 * r := by
    have := (rtF_spec (szI a * 16777216) (by rw [hs]; omega)).2.2
    rw [er, ep, Int.add_mul, Int.mul_add] at this
    omega
  have hall : allB [a] = true := by rw [allB1, ha]
  have fin : ∀ m x, rtN a 16777216 m = x → rtB a 16777216 m = true → 0 ≤ x → x ≤ 1000000000001 → fqN a m = x ∧ fqB a m = true := by
    intro m x e1 e2 g0 g1
    have hb : fqB a m = true := by unfold fqB; rw [e1, e2, hall, frB_eq (by omega)]; rfl
    exact ⟨by unfold fqN; rw [hb, e1]; rfl, hb⟩
  have u : ∀ o, 0 ≤ upI r o ∧ upI r o ≤ 1000000000001 := fun o => by cases o <;> simp [upI] <;> omega
  exact ⟨r, t, er, r0, hr, t0, ep, ea, ht2, fin 1 r x1.1 x1.2 r0 (by omega), fin 2 _ x2.1 x2.2 (u _).1 (u _).2, fin 0 _ x0.1 x0.2 (u _).1 (u _).2⟩

set_option maxHeartbeats 1000000 in
theorem walk_FxRoots (a : Int) (w : World) (ht : PowTab w) :
    Calls Tryd.prog 5 #[.int .i64 a] w fun e w' => e = .returned (.bool true) ∧ Bl w w' := by
  have M1 := froot_any a 1
  have M2 := froot_any a 2
  have M0 := froot_any a 0
  have HP := hideP ht
  clear ht
  by_cases hbad : frB a = false ∨ a < 0
  · rw [(fq_bad a 1 hbad).1, (fq_bad a 1 hbad).2] at M1
    rw [(fq_bad a 2 hbad).1, (fq_bad a 2 hbad).2] at M2
    rw [(fq_bad a 0 hbad).1, (fq_bad a 0 hbad).2] at M0
    have H1 := hideP M1
    have H2 := hideP M2
    have H0 := hideP M0
    clear M1 M2 M0
    have go : ∀ fa : Bool, frB a = fa → (fa = false ∨ (fa = true ∧ a < 0)) → Calls Tryd.prog 5 #[.int .i64 a] w fun e w' => e = .returned (.bool true) ∧ Bl w w' := by
      intro fa e1 hh
      clear hbad
      rcases hh with rfl | ⟨rfl, hn⟩
      all_goals
        go_enter Tryd.func5, Tryd.ntmps5
        go_wp2_with fail
        refine (H1.out _).mono ?_
        rintro e w1 ⟨rfl, h1⟩
        go_wp2_with fail
        refine (H2.out _).mono ?_
        rintro e w2 ⟨rfl, h2⟩
        go_wp2_with fail
        refine (H0.out _).mono ?_
        rintro e w3 ⟨rfl, h3⟩
        go_wp2_with (go_at_call 16; refine (fRefRight_any _ _).mono ?_; rintro e w' ⟨rfl, rfl⟩)
        refine (awake2_any _ (((HP.out.later h1).later h2).later h3)).mono ?_
        rintro e w7 ⟨rfl, h7⟩
        go_wp2
        go_ret
        exact ⟨rfl, ((h1.trans h2).trans h3).trans h7⟩
    refine go _ rfl ?_
    cases h : frB a
    · exact .inl rfl
    · rcases hbad with k | k
      · rw [h] at k; cases k
      · exact .inr ⟨rfl, k⟩
  · have ha : frB a = true := by
      cases h : frB a
      · exact absurd (.inl h) hbad
      · rfl
    have h0 : ¬ a < 0 := fun h => hbad (.inr h)
    clear hbad
    obtain ⟨r, t, er, r0, r1, t0, ep, ea, ht2, x1, x2, x0⟩ := fq_vals a ha (by omega)
    have R := fun w => fRefRoot_any a w (frB_right ha)
    rw [x1.1, x1.2] at M1
    rw [x2.1, x2.2] at M2
    rw [x0.1, x0.2] at M0
    rw [er, ep] at R
    have hd : (r * r < r * r + t) ↔ 0 < t := by omega
    clear x1 x2 x0 er ep ea
    by_cases hz : 0 < t
    · rw [decide_eq_true (hd.2 hz)] at R
      rw [decide_eq_true hz, upI_t] at M2
      have M0' : ∀ w, Calls Tryd.prog 21 #[.int .i64 a, .int .i64 0] w fun e w' => (e = .returned (.tuple #[.int .i64 r, .bool true]) ∨ e = .returned (.tuple #[.int .i64 (r + 1), .bool true])) ∧ Bl w w' := by
        intro w
        refine (M0 w).mono ?_
        rintro e w' ⟨rfl, h⟩
        refine ⟨?_, h⟩
        cases decide (r < t)
        · exact .inl rfl
        · exact .inr rfl
      have H1 := hideP M1
      have H2 := hideP M2
      have H0 := hideP M0'
      have HR := hideP R
      clear M1 M2 M0 M0' R hd
      go_enter Tryd.func5, Tryd.ntmps5
      go_wp2_with fail
      refine (H1.out _).mono ?_
      rintro e w1 ⟨rfl, h1⟩
      go_wp2_with fail
      refine (H2.out _).mono ?_
      rintro e w2 ⟨rfl, h2⟩
      go_wp2_with fail
      refine (H0.out _).mono ?_
      rintro e w3 ⟨rfl | rfl, h3⟩
      all_goals
        have hne : (r + 1 == r) = false := beq_eq_false_iff_ne.2 (by omega)
        go_wp2_with (go_at_call 16; refine (fRefRight_any _ _).mono ?_; rintro e w' ⟨rfl, rfl⟩)
        refine (HR.out _).mono ?_
        rintro e w4 ⟨rfl, h4⟩
        go_wp2_with fail
        refine (awake2_any _ ((((HP.out.later h1).later h2).later h3).later h4)).mono ?_
        rintro e w7 ⟨rfl, h7⟩
        go_wp2
        go_ret
        exact ⟨rfl, (((h1.trans h2).trans h3).trans h4).trans h7⟩
    · rw [decide_eq_false (fun h => hz (hd.1 h))] at R
      rw [decide_eq_false hz, upI_f] at M2
      rw [decide_eq_false (show ¬ r < t by omega), upI_f] at M0
      have H1 := hideP M1
      have H2 := hideP M2
      have H0 := hideP M0
      have HR := hideP R
      clear M1 M2 M0 R hd
      go_enter Tryd.func5, Tryd.ntmps5
      go_wp2_with fail
      refine (H1.out _).mono ?_
      rintro e w1 ⟨rfl, h1⟩
      go_wp2_with fail
      refine (H2.out _).mono ?_
      rintro e w2 ⟨rfl, h2⟩
      go_wp2_with fail
      refine (H0.out _).mono ?_
      rintro e w3 ⟨rfl, h3⟩
      go_wp2_with (go_at_call 16; refine (fRefRight_any _ _).mono ?_; rintro e w' ⟨rfl, rfl⟩)
      refine (HR.out _).mono ?_
      rintro e w4 ⟨rfl, h4⟩
      go_wp2_with fail
      refine (awake2_any _ ((((HP.out.later h1).later h2).later h3).later h4)).mono ?_
      rintro e w7 ⟨rfl, h7⟩
      go_wp2
      go_ret
      exact ⟨rfl, (((h1.trans h2).trans h3).trans h4).trans h7⟩

theorem unit_exact (a m : Int) (ha : frB a = true) (hm : modeB m = true) : (fmN a 16777216 m = a ∧ fmB a 16777216 m = true) ∧ (fdN a 16777216 m = a ∧ fdB a 16777216 m = true) := by
  have x := md_exact a 16777216 16777216 a m (frB_right ha) (by decide) (by decide) (frB_right ha) (by decide) hm rfl
  have hall : allB [a, 16777216] = true := by rw [allB2, ha]; decide
  have h1 : fmB a 16777216 m = true := by unfold fmB; rw [x.1, x.2, ha, hall]; rfl
  have h2 : fdB a 16777216 m = true := by unfold fdB; rw [x.1, x.2, ha, hall]; rfl
  exact ⟨⟨by unfold fmN; rw [h1, x.1]; rfl, h1⟩, ⟨by unfold fdN; rw [h2, x.1]; rfl, h2⟩⟩

set_option maxHeartbeats 1000000 in
theorem walk_FxBack (a b m : Int) (w : World) (ht : PowTab w) :
    Calls Tryd.prog 9 #[.int .i64 a, .int .i64 b, .int .i64 m] w fun e w' => e = .returned (.bool true) ∧ Bl w w' := by
  have HP := hideP ht
  clear ht
  have bad : ∀ fa fb : Bool, frB a = fa → frB b = fb → (fa = false ∨ (fa = true ∧ fb = false) ∨ (fa = true ∧ fb = true ∧ m < 0) ∨ (fa = true ∧ fb = true ∧ ¬ m < 0 ∧ 2 < m)) → Calls Tryd.prog 9 #[.int .i64 a, .int .i64 b, .int .i64 m] w fun e w' => e = .returned (.bool true) ∧ Bl w w' := by
    intro fa fb e1 e2 hh
    rcases hh with rfl | ⟨rfl, rfl⟩ | ⟨rfl, rfl, hm⟩ | ⟨rfl, rfl, hm, hm2⟩
    · go_enter Tryd.func9, Tryd.ntmps9
      go_wp2_with (go_at_call 16; refine (fRefRight_any _ _).mono ?_; rintro e w' ⟨rfl, rfl⟩)
      refine (awake2_any _ HP.out).mono ?_
      rintro e w7 ⟨rfl, h7⟩
      go_wp2
      go_ret
      exact ⟨rfl, h7⟩
    · go_enter Tryd.func9, Tryd.ntmps9
      go_wp2_with (go_at_call 16; refine (fRefRight_any _ _).mono ?_; rintro e w' ⟨rfl, rfl⟩)
      refine (awake2_any _ HP.out).mono ?_
      rintro e w7 ⟨rfl, h7⟩
      go_wp2
      go_ret
      exact ⟨rfl, h7⟩
    · have kd : decide (m < 0) = true := decide_eq_true hm
      go_enter Tryd.func9, Tryd.ntmps9
      go_wp2_with (go_at_call 16; refine (fRefRight_any _ _).mono ?_; rintro e w' ⟨rfl, rfl⟩)
      refine (awake2_any _ HP.out).mono ?_
      rintro e w7 ⟨rfl, h7⟩
      go_wp2
      go_ret
      exact ⟨rfl, h7⟩
    · have kd : decide (m < 0) = false := decide_eq_false hm
      go_enter Tryd.func9, Tryd.ntmps9
      go_wp2_with (go_at_call 16; refine (fRefRight_any _ _).mono ?_; rintro e w' ⟨rfl, rfl⟩)
      refine (awake2_any _ HP.out).mono ?_
      rintro e w7 ⟨rfl, h7⟩
      go_wp2
      go_ret
      exact ⟨rfl, h7⟩
  cases ha : frB a
  · exact bad _ _ ha rfl (.inl rfl)
  cases hb : frB b
  · exact bad _ _ ha hb (.inr (.inl ⟨rfl, rfl⟩))
  by_cases hm : m < 0
  · exact bad _ _ ha hb (.inr (.inr (.inl ⟨rfl, rfl, hm⟩)))
  by_cases hm2 : 2 < m
  · exact bad _ _ ha hb (.inr (.inr (.inr ⟨rfl, rfl, hm, hm2⟩)))
  clear bad
  have hmo : modeB m = true := mode_of (by omega)
  have U := unit_exact a m ha hmo
  have M := fmul_any a 16777216 m
  have D := fdiv_any a 16777216 m
  have A := fadd_any a b
  rw [U.1.1, U.1.2] at M
  rw [U.2.1, U.2.2] at D
  have hall : allB [a, b] = true := by rw [allB2, ha, hb]; rfl
  have f1 : faB a b = frB (a + b) := by unfold faB; rw [hall, Bool.and_true]
  have n1 : faN a b = toN (a + b) (frB (a + b)) := by unfold faN; rw [f1]
  rw [n1, f1] at A
  have kd : decide (m < 0) = false := decide_eq_false hm
  have kd2 : ¬ 2 < m := hm2
  have HM := hideP M
  have HD := hideP D
  clear M D U f1 n1 hmo hm hm2
  have hna : (a != a) = false := by simp
  cases hs : frB (a + b)
  · rw [hs, toN_f] at A
    have HA := hideP A
    clear A hs hall
    go_enter Tryd.func9, Tryd.ntmps9
    go_wp2_with (go_at_call 16; refine (fRefRight_any _ _).mono ?_; rintro e w' ⟨rfl, rfl⟩)
    refine (HM.out _).mono ?_
    rintro e w1 ⟨rfl, h1⟩
    go_wp2_with fail
    refine (HD.out _).mono ?_
    rintro e w2 ⟨rfl, h2⟩
    go_wp2_with fail
    refine (HA.out _).mono ?_
    rintro e w3 ⟨rfl, h3⟩
    go_wp2_with fail
    refine (awake2_any _ (((HP.out.later h1).later h2).later h3)).mono ?_
    rintro e w7 ⟨rfl, h7⟩
    go_wp2
    go_ret
    exact ⟨rfl, ((h1.trans h2).trans h3).trans h7⟩
  · rw [hs, toN_t] at A
    have S := fsub_any (a + b) b
    have f2 : fsB (a + b) b = true := by unfold fsB; rw [allB2, hs, hb, show a + b - b = a by omega, ha]; rfl
    have n2 : fsN (a + b) b = a := by unfold fsN; rw [f2, toN_t]; omega
    rw [f2, n2] at S
    have HA := hideP A
    have HS := hideP S
    clear A hs hall S f2 n2
    go_enter Tryd.func9, Tryd.ntmps9
    go_wp2_with (go_at_call 16; refine (fRefRight_any _ _).mono ?_; rintro e w' ⟨rfl, rfl⟩)
    refine (HM.out _).mono ?_
    rintro e w1 ⟨rfl, h1⟩
    go_wp2_with fail
    refine (HD.out _).mono ?_
    rintro e w2 ⟨rfl, h2⟩
    go_wp2_with fail
    refine (HA.out _).mono ?_
    rintro e w3 ⟨rfl, h3⟩
    go_wp2_with fail
    refine (HS.out _).mono ?_
    rintro e w4 ⟨rfl, h4⟩
    go_wp2_with fail
    refine (awake2_any _ ((((HP.out.later h1).later h2).later h3).later h4)).mono ?_
    rintro e w7 ⟨rfl, h7⟩
    go_wp2
    go_ret
    exact ⟨rfl, (((h1.trans h2).trans h3).trans h4).trans h7⟩
end Go.Proofs.YtkigikccdoaljaaDoor
