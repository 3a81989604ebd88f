/- The walks of FxProducts, FxSums, FxTexts, FxWhole, FxBack. -/
import Derived.Test.YtkigikccdoaljaaDoorFx8
namespace Go.Proofs.YtkigikccdoaljaaDoor
open Go.RowKit
set_option linter.unusedSimpArgs false
set_option linter.unusedVariables false

set_option maxHeartbeats 1000000 in
theorem walk_FxProducts (a b m : Int) (w : World) (ht : PowTab w) :
    Calls Tryd.prog 3 #[.int .i64 a, .int .i64 b, .int .i64 m] w fun e w' => e = .returned (.bool true) ∧ Bl w w' := by
  have M := fmul_any a b m
  have N := refMul_any a b m
  have D := fdiv_any a b m
  have E := refDiv_any a b m
  have R := fright_any a
  have S := fRefRight_any a
  generalize fmN a b m = x at *
  generalize fmB a b m = xb at *
  generalize fdN a b m = y at *
  generalize fdB a b m = yb at *
  generalize frB a = ab at *
  have HM := hideP M
  have HN := hideP N
  have HD := hideP D
  have HE := hideP E
  have HR := hideP R
  have HS := hideP S
  have HP := hideP ht
  clear M N D E R S ht
  go_enter Tryd.func3, Tryd.ntmps3
  go_wp2_with fail
  refine (HM.out _).mono ?_
  rintro e w1 ⟨rfl, h1⟩
  go_wp2_with fail
  refine (HN.out _).mono ?_
  rintro e w2 ⟨rfl, h2⟩
  go_wp2_with fail
  refine (HD.out _).mono ?_
  rintro e w3 ⟨rfl, h3⟩
  go_wp2_with fail
  refine (HE.out _).mono ?_
  rintro e w4 ⟨rfl, h4⟩
  go_wp2_with fail
  refine (HR.out _).mono ?_
  rintro e w5 ⟨rfl, rfl⟩
  go_wp2_with fail
  refine (HS.out _).mono ?_
  rintro e w6 ⟨rfl, rfl⟩
  go_wp2_with fail
  refine (awake2_any _ ((((HP.out.later h1).later h2).later h3).later h4)).mono ?_
  rintro e w7 ⟨rfl, h7⟩
  go_wp2
  go_ret
  exact ⟨rfl, (((h1.trans h2).trans h3).trans h4).trans h7⟩

set_option maxHeartbeats 1000000 in
theorem walk_FxSums (a b : Int) (ia : I64 a) (ib : I64 b) (w : World) (ht : PowTab w) :
    Calls Tryd.prog 4 #[.int .i64 a, .int .i64 b] w fun e w' => e = .returned (.bool true) ∧ Bl w w' := by
  have A := fadd_any a b
  have S := fsub_any a b
  have HP := hideP ht
  have bad : ∀ ra rb : Bool, frB a = ra → frB b = rb → (ra = false ∨ (ra = true ∧ rb = false)) → Calls Tryd.prog 4 #[.int .i64 a, .int .i64 b] w fun e w' => e = .returned (.bool true) ∧ Bl w w' := by
    intro ra rb e1 e2 hh
    have hall : allB [a, b] = false := by
      rw [allB2, e1, e2]; rcases hh with rfl | ⟨rfl, rfl⟩ <;> rfl
    have f1 : faB a b = false := by unfold faB; rw [hall, Bool.and_false]
    have f2 : fsB a b = false := by unfold fsB; rw [hall, Bool.and_false]
    have n1 : faN a b = 0 := by unfold faN; rw [f1]; rfl
    have n2 : fsN a b = 0 := by unfold fsN; rw [f2]; rfl
    rw [f1, n1] at A
    rw [f2, n2] at S
    have HA := hideP A
    have HS := hideP S
    clear A S ht hall f1 f2 n1 n2
    rcases hh with rfl | ⟨rfl, rfl⟩
    all_goals
      go_enter Tryd.func4, Tryd.ntmps4
      go_wp2_with fail
      refine (HA.out _).mono ?_
      rintro e w1 ⟨rfl, h1⟩
      go_wp2_with fail
      refine (HS.out _).mono ?_
      rintro e w2 ⟨rfl, h2⟩
      go_wp2_with (go_at_call 16; refine (fRefRight_any _ _).mono ?_; rintro e w' ⟨rfl, rfl⟩)
      refine (awake2_any _ ((HP.out.later h1).later h2)).mono ?_
      rintro e w7 ⟨rfl, h7⟩
      go_wp2
      go_ret
      exact ⟨rfl, (h1.trans h2).trans h7⟩
  cases ha : frB a
  · exact bad _ _ ha rfl (.inl rfl)
  cases hb : frB b
  · exact bad _ _ ha hb (.inr ⟨rfl, rfl⟩)
  clear bad
  have hall : allB [a, b] = true := by rw [allB2, ha, hb]; rfl
  have f1 : faB a b = frB (a + b) := by unfold faB; rw [hall, Bool.and_true]
  have f2 : fsB a b = frB (a - b) := by unfold fsB; rw [hall, Bool.and_true]
  have n1 : faN a b = toN (a + b) (frB (a + b)) := by unfold faN; rw [f1]
  have n2 : fsN a b = toN (a - b) (frB (a - b)) := by unfold fsN; rw [f2]
  rw [f1, n1] at A
  rw [f2, n2] at S
  have T1 := refTold_any (a + b) true
  have T2 := refTold_any (a - b) true
  rw [Bool.true_and] at T1 T2
  obtain ⟨a0, a1⟩ := frB_iff.1 ha
  obtain ⟨b0, b1⟩ := frB_iff.1 hb
  generalize toN (a + b) (frB (a + b)) = x at *
  generalize frB (a + b) = xb at *
  generalize toN (a - b) (frB (a - b)) = y at *
  generalize frB (a - b) = yb at *
  have HA := hideP A
  have HS := hideP S
  have H1 := hideP T1
  have H2 := hideP T2
  clear A S T1 T2 hall f1 f2 n1 n2 ht
  go_enter Tryd.func4, Tryd.ntmps4
  go_wp2_with fail
  refine (HA.out _).mono ?_
  rintro e w1 ⟨rfl, h1⟩
  go_wp2_with fail
  refine (HS.out _).mono ?_
  rintro e w2 ⟨rfl, h2⟩
  go_wp2_with (go_at_call 16; refine (fRefRight_any _ _).mono ?_; rintro e w' ⟨rfl, rfl⟩)
  refine (H1.out _).mono ?_
  rintro e w3 ⟨rfl, rfl⟩
  go_wp2_with fail
  refine (H2.out _).mono ?_
  rintro e w4 ⟨rfl, rfl⟩
  go_wp2_with fail
  refine (awake2_any _ ((HP.out.later h1).later h2)).mono ?_
  rintro e w7 ⟨rfl, h7⟩
  go_wp2
  go_ret
  exact ⟨rfl, (h1.trans h2).trans h7⟩

theorem walk_FxTexts (n : Int) (w : World) (ht : PowTab w) :
    Calls Tryd.prog 7 #[.int .i64 n] w fun e w' => e = .returned (.bool true) ∧ Bl w w' := by
  have A := ftext_any n
  have B := refText_any n
  generalize bs (textD n) = s at *
  have HA := hideP A
  have HB := hideP B
  have HP := hideP ht
  clear A B ht
  go_enter Tryd.func7, Tryd.ntmps7
  go_wp2_with fail
  refine (HA.out _ HP.out).mono ?_
  rintro e w1 ⟨rfl, h1⟩
  go_wp2_with fail
  refine (HB.out _).mono ?_
  rintro e w2 ⟨rfl, rfl⟩
  go_wp2_with fail
  refine (awake2_any _ (HP.out.later h1)).mono ?_
  rintro e w7 ⟨rfl, h7⟩
  go_wp2
  go_ret
  exact ⟨rfl, h1.trans h7⟩

theorem walk_FxWhole (n : Int) (w : World) (ht : PowTab w) :
    Calls Tryd.prog 6 #[.int .i64 n] w fun e w' => e = .returned (.bool true) ∧ Bl w w' := by
  have O := fof_any n
  have HP := hideP ht
  clear ht
  by_cases hl : n < -67108864
  · have f1 : foB n = false := by unfold foB; rw [decide_eq_false (by omega)]; rfl
    have n1 : foN n = 0 := by unfold foN; rw [f1]; rfl
    rw [f1, n1] at O
    have HO := hideP O
    clear O f1 n1
    go_enter Tryd.func6, Tryd.ntmps6
    go_wp2_with fail
    refine (HO.out _).mono ?_
    rintro e w1 ⟨rfl, h1⟩
    go_wp2_with fail
    refine (awake2_any _ (HP.out.later h1)).mono ?_
    rintro e w7 ⟨rfl, h7⟩
    go_wp2
    go_ret
    exact ⟨rfl, h1.trans h7⟩
  by_cases hh : 67108864 < n
  · have f1 : foB n = false := by unfold foB; rw [decide_eq_false (show ¬ n ≤ 67108864 by omega), Bool.and_false]
    have n1 : foN n = 0 := by unfold foN; rw [f1]; rfl
    rw [f1, n1] at O
    have HO := hideP O
    clear O f1 n1
    go_enter Tryd.func6, Tryd.ntmps6
    go_wp2_with fail
    refine (HO.out _).mono ?_
    rintro e w1 ⟨rfl, h1⟩
    go_wp2_with fail
    refine (awake2_any _ (HP.out.later h1)).mono ?_
    rintro e w7 ⟨rfl, h7⟩
    go_wp2
    go_ret
    exact ⟨rfl, h1.trans h7⟩
  have f1 : foB n = true := by unfold foB; rw [decide_eq_true (by omega), decide_eq_true (by omega)]; rfl
  have n1 : foN n = n * 16777216 := by unfold foN; rw [f1]; rfl
  rw [f1, n1] at O
  have A := ftext_any (n * 16777216)
  have B := refText_any (n * 16777216)
  generalize bs (textD (n * 16777216)) = s at *
  have HO := hideP O
  have HA := hideP A
  have HB := hideP B
  clear O f1 n1 A B
  go_enter Tryd.func6, Tryd.ntmps6
  go_wp2_with fail
  refine (HO.out _).mono ?_
  rintro e w1 ⟨rfl, h1⟩
  go_wp2_with fail
  refine (HA.out _ (HP.out.later h1)).mono ?_
  rintro e w2 ⟨rfl, h2⟩
  go_wp2_with fail
  refine (HB.out _).mono ?_
  rintro e w3 ⟨rfl, rfl⟩
  go_wp2_with fail
  refine (awake2_any _ ((HP.out.later h1).later h2)).mono ?_
  rintro e w7 ⟨rfl, h7⟩
  go_wp2
  go_ret
  exact ⟨rfl, (h1.trans h2).trans h7⟩
end Go.Proofs.YtkigikccdoaljaaDoor
