/- The document's Text of any number; awake (layer 2). -/
import Derived.Test.YtkigikccdoaljaaDoorFx7
import Derived.Test.YtkigikccdoaljaaDoorFx2
namespace Go.Proofs.YtkigikccdoaljaaDoor
open Go.RowKit
set_option linter.unusedSimpArgs false
set_option linter.unusedVariables false

theorem refText_any (n : Int) (w : World) :
    Calls Tryd.prog 25 #[.int .i64 n] w fun e w' => e = .returned (.string (bs (textD n))) ∧ w' = w := by
  unfold textD
  cases hf : frB n
  · go_enter Tryd.func25, Tryd.ntmps25
    go_wp2_with (go_at_call 16; refine (fRefRight_any _ _).mono ?_; rintro e w' ⟨rfl, rfl⟩)
    go_ret
    exact ⟨rfl, rfl⟩
  · rw [if_pos rfl]
    obtain ⟨b0, b1⟩ := frB_iff.1 hf
    by_cases hn : n < 0
    · obtain ⟨m, rfl⟩ : ∃ m : Nat, n = -(m : Int) := ⟨(-n).toNat, by omega⟩
      have T := refText_nn m (by omega)
      have hx : txD (-(m : Int)) = [45] ++ numD m := by unfold txD; rw [if_pos hn, show (- -(m : Int)).toNat = m by omega]
      have hl := numD_len m (by omega)
      rw [hx]
      have A1 : ∀ w, (Op.stringOp .add (bs [45]) (bs (numD m))).run Tryd.prog w = .ok (.string (bs ([45] ++ numD m))) w := fun w => add_bs _ _ (by simp; omega) w
      generalize [45] ++ numD m = z at *
      generalize numD m = x at *
      have A3 : ∀ w, (Op.stringOp .add (ByteArray.mk #[45]) (bs x)).run Tryd.prog w = .ok (.string (bs z)) w := A1
      have HT := hideP T
      clear T A1 hx
      go_enter Tryd.func25, Tryd.ntmps25
      go_wp2_with (go_at_call 16; refine (fRefRight_any _ _).mono ?_; rintro e w' ⟨rfl, rfl⟩)
      refine (HT.out _).mono ?_
      rintro e w1 ⟨rfl, rfl⟩
      go_wp2_with fail
      go_ret
      exact ⟨rfl, rfl⟩
    · obtain ⟨m, rfl⟩ : ∃ m : Nat, n = (m : Int) := ⟨n.toNat, by omega⟩
      have hx : txD (m : Int) = numD m := by unfold txD; rw [if_neg hn, Int.toNat_natCast]
      rw [hx]
      exact refText_nn m (by omega) w

theorem text_half : textD 25165824 = [49, 46, 53] := by
  have h : frB 25165824 = true := by decide
  unfold textD
  rw [h, if_pos rfl]
  unfold txD
  rw [if_neg (by decide), show (25165824 : Int).toNat = 25165824 from rfl]
  unfold numD ptD
  rw [show 25165824 / 16777216 = 1 from rfl, show 25165824 % 16777216 = 8388608 from rfl, if_neg (by decide), fr, if_neg (by decide), show 8388608 * 10 / 16777216 = 5 from rfl, show 8388608 * 10 % 16777216 = 0 from rfl, fr_zero, Lib.decDigits_one (by decide), Lib.decDigits_one (by decide)]
  rfl
theorem awake2_any (w : World) (ht : PowTab w) :
    Calls Tryd.prog 17 #[] w fun e w' => e = .returned (.bool true) ∧ Bl w w' := by
  have A := fof_any 1
  have B := fof_any 3
  have D := fdiv_any 16777216 50331648 1
  have T := ftext_any 25165824
  have R := fright_any 5592405
  rw [show foN 1 = 16777216 by decide, show foB 1 = true by decide] at A
  rw [show foN 3 = 50331648 by decide, show foB 3 = true by decide] at B
  rw [show fdN 16777216 50331648 1 = 5592405 by decide +kernel, show fdB 16777216 50331648 1 = true by decide +kernel] at D
  rw [text_half, show bs [49, 46, 53] = ByteArray.mk #[49, 46, 53] from rfl] at T
  rw [show frB 5592405 = true by decide] at R
  have HA := hideP A
  have HB := hideP B
  have HD := hideP D
  have HT := hideP T
  have HR := hideP R
  have HP := hideP ht
  clear A B D T R ht
  go_enter Tryd.func17, Tryd.ntmps17
  go_wp2_with fail
  refine (HA.out _).mono ?_
  rintro e w1 ⟨rfl, h1⟩
  go_wp2_with fail
  refine (HB.out _).mono ?_
  rintro e w2 ⟨rfl, h2⟩
  go_wp2_with fail
  refine (HD.out _).mono ?_
  rintro e w3 ⟨rfl, h3⟩
  go_wp2_with fail
  refine (HT.out _ (((HP.out.later h1).later h2).later h3)).mono ?_
  rintro e w4 ⟨rfl, h4⟩
  go_wp2_with fail
  refine (HR.out _).mono ?_
  rintro e w5 ⟨rfl, rfl⟩
  go_wp2
  go_ret
  exact ⟨rfl, ((h1.trans h2).trans h3).trans h4⟩
end Go.Proofs.YtkigikccdoaljaaDoor
