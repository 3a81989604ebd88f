/- awake; the walks of WideSquares, WideBack, WideSigns, WideModes. -/
import Derived.Test.YtgkggdljehgdiaaMulDiv
import Derived.Test.YtgkggdljehgdiaaRoot
namespace Go.Proofs.Ytgkggdljehgdiaa
open Go.RowKit
set_option linter.unusedSimpArgs false
set_option linter.unusedVariables false

theorem awake_any (w : World) :
    Calls Try.prog 15 #[] w fun e w' => e = .returned (.bool true) ∧ Bl w w' := by
  have m := mulDiv_any 5 1 2 0
  have r := root_any 2 1 2
  have t := right_any 1
  have c := compare_any 2 3 1 7
  rw [show mdN 5 1 2 0 = 2 by decide, show mdB 5 1 2 0 = true by decide] at m
  rw [show rtN 2 1 2 = 2 by decide, show rtB 2 1 2 = true by decide] at r
  rw [show rightB 1 = true by decide] at t
  rw [show cmpS 2 3 1 7 = -1 by decide] at c
  have HM : Hid _ := m
  have HR : Hid _ := r
  have HT : Hid _ := t
  have HC : Hid _ := c
  clear m r t c
  go_enter Try.func15, Try.ntmps15
  go_wp2_with fail
  refine (HM.out _).mono ?_
  rintro e w1 ⟨rfl, h1⟩
  go_wp2_with fail
  refine (HR.out _).mono ?_
  rintro e w2 ⟨rfl, h2⟩
  go_wp2_with fail
  refine (HT.out _).mono ?_
  rintro e w3 ⟨rfl, rfl⟩
  go_wp2_with fail
  refine (HC.out _).mono ?_
  rintro e w4 ⟨rfl, h4⟩
  go_wp2
  go_ret
  exact ⟨rfl, (h1.trans h2).trans h4⟩

theorem szI_max (n : Int) : szI n = max n (-n) := by unfold szI; split <;> omega
theorem outB_zero (r g : Int) (b : Bool) (m : Int) (h : 0 < g) : outB r 0 g b m = false := by
  unfold outB
  split
  · simp
  · split
    · simp
    · rw [decide_eq_false (by omega : ¬ g < 2 * 0), decide_eq_false (by omega : ¬ 2 * 0 = g)]; rfl
theorem mode_of {m : Int} (h : m = 0 ∨ m = 1 ∨ m = 2) : modeB m = true := by rcases h with rfl | rfl | rfl <;> decide
theorem root_sq (n m : Int) (h : rightB n = true) (hm : modeB m = true) : rtN n n m = szI n ∧ rtB n n m = true := by
  have hs := szI_right h
  have e : szI n = rtF (szI n * szI n) := root_one _ _ hs.1 (Int.le_refl _) (by rw [Int.add_mul, Int.mul_add]; omega)
  have hn : decide (n * n < 0) = false := by
    rw [decide_eq_false_iff_not]
    have e : ∀ n : Int, szI n * szI n = n * n := fun n => by
      unfold szI; split
      · exact Int.neg_mul_neg n n
      · rfl
    have := Int.mul_nonneg hs.1 hs.1
    rw [e] at this
    omega
  have hg : rtG n n m = true := by unfold rtG; rw [h, hn, hm]; rfl
  have hc : rtC n n m = szI n := by
    unfold rtC
    rw [← e, show szI n * szI n - szI n * szI n = 0 by omega, outB_zero _ _ _ _ (by omega)]
    rfl
  unfold rtN rtB
  rw [hg, hc]
  constructor
  · rw [if_pos rfl]; unfold rdN; rw [if_neg (by omega)]; rfl
  · unfold rdB; simp; omega
theorem root_bad (a b m : Int) (h : rightB a = false ∨ rightB b = false) : rtN a b m = 0 ∧ rtB a b m = false := by
  have hg : rtG a b m = false := by unfold rtG; rcases h with h | h <;> rw [h] <;> simp
  unfold rtN rtB
  rw [hg]
  exact ⟨rfl, rfl⟩

theorem walk_WideSquares (n : Int) (w : World) :
    Calls Try.prog 10 #[.int .i64 n] w fun e w' => e = .returned (.bool true) ∧ Bl w w' := by
  have A := fun m => root_any n n m
  have R := refRight_any n
  cases h : rightB n
  · rw [h] at R
    have e1 := root_bad n n 1 (.inl h)
    have e2 := root_bad n n 2 (.inl h)
    have e0 := root_bad n n 0 (.inl h)
    have A1 := A 1
    have A2 := A 2
    have A0 := A 0
    rw [e1.1, e1.2] at A1
    rw [e2.1, e2.2] at A2
    rw [e0.1, e0.2] at A0
    clear A e1 e2 e0 h
    have H1 : Hid _ := A1
    have H2 : Hid _ := A2
    have H0 : Hid _ := A0
    have HR : Hid _ := R
    clear A1 A2 A0 R
    go_enter Try.func10, Try.ntmps10
    go_wp2_with fail
    refine (H1.out _).mono ?_
    rintro e w1 ⟨rfl, h1⟩
    go_wp2_with fail
    refine (H2.out _).mono ?_
    rintro e w2 ⟨rfl, h2⟩
    go_wp2_with fail
    refine (H0.out _).mono ?_
    rintro e w3 ⟨rfl, h3⟩
    go_wp2_with fail
    refine (HR.out _).mono ?_
    rintro e w4 ⟨rfl, rfl⟩
    go_wp2_with fail
    refine (awake_any _).mono ?_
    rintro e w5 ⟨rfl, h5⟩
    go_wp2
    go_ret
    exact ⟨rfl, ((h1.trans h2).trans h3).trans h5⟩
  · rw [h] at R
    have e1 := root_sq n 1 h (by decide)
    have e2 := root_sq n 2 h (by decide)
    have e0 := root_sq n 0 h (by decide)
    have A1 := A 1
    have A2 := A 2
    have A0 := A 0
    rw [e1.1, e1.2] at A1
    rw [e2.1, e2.2] at A2
    rw [e0.1, e0.2] at A0
    have hi := right_i64 h
    have hr := rightB_iff.1 h
    clear A e1 e2 e0 h
    have H1 : Hid _ := A1
    have H2 : Hid _ := A2
    have H0 : Hid _ := A0
    have HR : Hid _ := R
    clear A1 A2 A0 R
    obtain ⟨r1, r2⟩ := hr
    have hmx := szI_max n
    generalize szI n = s at *
    subst hmx
    go_enter Try.func10, Try.ntmps10
    go_wp2_with fail
    refine (H1.out _).mono ?_
    rintro e w1 ⟨rfl, h1⟩
    go_wp2_with fail
    refine (H2.out _).mono ?_
    rintro e w2 ⟨rfl, h2⟩
    go_wp2_with fail
    refine (H0.out _).mono ?_
    rintro e w3 ⟨rfl, h3⟩
    go_wp2_with fail
    refine (HR.out _).mono ?_
    rintro e w4 ⟨rfl, rfl⟩
    go_wp2_with fail
    refine (awake_any _).mono ?_
    rintro e w5 ⟨rfl, h5⟩
    go_wp2
    go_ret
    exact ⟨rfl, ((h1.trans h2).trans h3).trans h5⟩

theorem szI_neg (n : Int) : szI (-n) = szI n := by unfold szI; split <;> split <;> omega
theorem md_exact (a b c n m : Int) (ha : rightB a = true) (hb : rightB b = true) (hc : rightB c = true) (hn : rightB n = true) (hz : c ≠ 0) (hm : modeB m = true) (h : a * b = n * c) :
    mdN a b c m = n ∧ mdB a b c m = true := by
  have hg : mdG a b c m = true := by unfold mdG; rw [ha, hb, hc, hm]; simp [hz]
  have hd0 : 0 < szI c := by unfold szI; split <;> omega
  have hsn := szI_right hn
  have e : szI a * szI b = szI n * szI c := by rw [szI_mul, szI_mul, h]
  have hC : mdC a b c m = szI n := by
    unfold mdC
    rw [e, Int.mul_ediv_cancel _ (by omega), Int.mul_emod_left, outB_zero _ _ _ _ hd0]
    rfl
  have hbl : belB a b c = decide (n < 0) := by
    unfold belB
    rw [h, Int.mul_assoc]
    have hcc : 0 < c * c := by
      rcases Int.lt_or_gt_of_ne hz with k | k
      · exact Int.mul_pos_of_neg_of_neg k k
      · exact Int.mul_pos k k
    rcases (by omega : n < 0 ∨ n = 0 ∨ 0 < n) with k | k | k
    · have := Int.mul_neg_of_neg_of_pos k hcc; simp [k, this]
    · subst k; simp
    · have := Int.mul_pos k hcc
      rw [decide_eq_false (by omega), decide_eq_false (by omega)]
  unfold mdN mdB
  rw [hg, hC, hbl]
  constructor
  · rw [if_pos rfl]; unfold rdN; rw [if_neg (by omega)]
    unfold szI
    by_cases k : n < 0 <;> simp [k]
  · unfold rdB; simp; omega
theorem md_bad (a b c m : Int) (h : mdG a b c m = false) : mdN a b c m = 0 ∧ mdB a b c m = false := by
  unfold mdN mdB; rw [h]; exact ⟨rfl, rfl⟩
theorem mdG_bad {a b c m : Int} (h : rightB a = false ∨ rightB b = false ∨ rightB c = false) : mdG a b c m = false := by
  unfold mdG; rcases h with h | h | h <;> rw [h] <;> simp
theorem right_neg {a : Int} : rightB (-a) = rightB a := by
  unfold rightB
  rw [Bool.eq_iff_iff]; simp; omega
theorem right_wneg {a : Int} (h : I64 a) : rightB (wrap64 (-a)) = rightB a := by
  unfold I64 at h
  by_cases k : a = -9223372036854775808
  · subst k; unfold wrap64; decide
  · rw [IntWalk.wrap64_in _ (by omega)]; exact right_neg

set_option maxHeartbeats 1000000 in
theorem walk_WideBack (a b mode : Int) (ia : I64 a) (ib : I64 b) (w : World) :
    Calls Try.prog 8 #[.int .i64 a, .int .i64 b, .int .i64 mode] w fun e w' => e = .returned (.bool true) ∧ Bl w w' := by
  obtain ⟨a0, a1⟩ := ia
  obtain ⟨b0, b1⟩ := ib
  by_cases hg : rightB a = true ∧ rightB b = true ∧ b ≠ 0 ∧ (0 ≤ mode ∧ mode ≤ 2)
  · obtain ⟨ha, hb, hz, hm0, hm1⟩ := hg
    have hm : modeB mode = true := mode_of (by omega)
    have E1 := md_exact a b b a mode ha hb hb ha hz hm rfl
    have E2 := md_exact a 1 1 a mode ha (by decide) (by decide) ha (by decide) hm rfl
    have E3 := md_exact a (-1) 1 (-a) mode ha (by decide) (by decide) (by rw [right_neg]; exact ha) (by decide) hm (by omega)
    have M1 := mulDiv_any a b b mode
    have M2 := mulDiv_any a 1 1 mode
    have M3 := mulDiv_any a (-1) 1 mode
    rw [E1.1, E1.2] at M1
    rw [E2.1, E2.2] at M2
    rw [E3.1, E3.2] at M3
    have H1 : Hid _ := M1
    have H2 : Hid _ := M2
    have H3 : Hid _ := M3
    have hr := rightB_iff.1 ha
    obtain ⟨r1, r2⟩ := hr
    have hzb : (b == 0) = false := by simpa using hz
    clear E1 E2 E3 M1 M2 M3 hm hz
    go_enter Try.func8, Try.ntmps8
    go_wp2_with (go_at_call 14; refine (refRight_any _ _).mono ?_; rintro e w' ⟨rfl, rfl⟩)
    refine (H1.out _).mono ?_
    rintro e w1 ⟨rfl, h1⟩
    go_wp2_with fail
    refine (H2.out _).mono ?_
    rintro e w2 ⟨rfl, h2⟩
    go_wp2_with fail
    refine (H3.out _).mono ?_
    rintro e w3 ⟨rfl, h3⟩
    go_wp2_with fail
    refine (awake_any _).mono ?_
    rintro e w5 ⟨rfl, h5⟩
    go_wp2
    go_ret
    exact ⟨rfl, ((h1.trans h2).trans h3).trans h5⟩
  · have go : ∀ (ra rb zb : Bool), rightB a = ra → rightB b = rb → (b == 0) = zb → (ra = false ∨ rb = false ∨ zb = true ∨ mode < 0 ∨ 2 < mode) → Calls Try.prog 8 #[.int .i64 a, .int .i64 b, .int .i64 mode] w fun e w' => e = .returned (.bool true) ∧ Bl w w' := by
      intro ra rb zb e1 e2 e3 hc
      clear hg
      cases ra
      · go_enter Try.func8, Try.ntmps8
        go_wp2_with (first
          | (go_at_call 14; refine (refRight_any _ _).mono ?_; rintro e w' ⟨rfl, rfl⟩)
          | (go_at_call 15; refine (awake_any _).mono ?_; rintro e w' ⟨rfl, h5⟩))
        go_ret
        exact ⟨rfl, h5⟩
      cases rb
      · go_enter Try.func8, Try.ntmps8
        go_wp2_with (first
          | (go_at_call 14; refine (refRight_any _ _).mono ?_; rintro e w' ⟨rfl, rfl⟩)
          | (go_at_call 15; refine (awake_any _).mono ?_; rintro e w' ⟨rfl, h5⟩))
        go_ret
        exact ⟨rfl, h5⟩
      cases zb
      case true =>
        go_enter Try.func8, Try.ntmps8
        go_wp2_with (first
          | (go_at_call 14; refine (refRight_any _ _).mono ?_; rintro e w' ⟨rfl, rfl⟩)
          | (go_at_call 15; refine (awake_any _).mono ?_; rintro e w' ⟨rfl, h5⟩))
        go_ret
        exact ⟨rfl, h5⟩
      case false =>
        by_cases k : mode < 0
        · clear hc
          have kd : decide (mode < 0) = true := decide_eq_true k
          go_enter Try.func8, Try.ntmps8
          go_wp2_with (first
            | (go_at_call 14; refine (refRight_any _ _).mono ?_; rintro e w' ⟨rfl, rfl⟩)
            | (go_at_call 15; refine (awake_any _).mono ?_; rintro e w' ⟨rfl, h5⟩))
          go_ret
          exact ⟨rfl, h5⟩
        · have k2 : 2 < mode := by rcases hc with h | h | h | h | h <;> first | exact h | (exact absurd h k) | cases h
          clear hc
          have kd : decide (mode < 0) = false := decide_eq_false k
          go_enter Try.func8, Try.ntmps8
          go_wp2_with (first
            | (go_at_call 14; refine (refRight_any _ _).mono ?_; rintro e w' ⟨rfl, rfl⟩)
            | (go_at_call 15; refine (awake_any _).mono ?_; rintro e w' ⟨rfl, h5⟩))
          go_ret
          exact ⟨rfl, h5⟩
    refine go _ _ _ rfl rfl rfl ?_
    cases ha : rightB a <;> cases hb : rightB b <;> simp_all
    omega
end Go.Proofs.Ytgkggdljehgdiaa
