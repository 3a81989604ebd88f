/- Contracts of fx.Text, and of the document's Text (layer 2). -/
import Derived.Test.YtkigikccdoaljaaDoorFx5
namespace Go.Proofs.YtkigikccdoaljaaDoor
open Go.RowKit
set_option linter.unusedSimpArgs false
set_option linter.unusedVariables false

/-- What a number stands for; of one that may not be nothing. -/
def textD (n : Int) : List UInt8 := if frB n then txD n else []

set_option maxRecDepth 1000000 in
set_option maxHeartbeats 1000000 in
theorem ftext_any (n : Int) (w : World) (ht : PowTab w) :
    Calls Tryd.prog 24 #[.int .i64 n] w fun e w' => e = .returned (.string (bs (textD n))) ∧ Bl w w' := by
  unfold textD
  cases hf : frB n
  · go_enter Tryd.func24, Tryd.ntmps24
    go_wp2_with (go_at_call 15; refine (fright_any _ _).mono ?_; rintro e w' ⟨rfl, rfl⟩)
    go_ret
    exact ⟨rfl, Bl.refl _⟩
  · rw [if_pos rfl]
    have hb := frB_iff.1 hf
    obtain ⟨b0, b1⟩ := hb
    have key : ∀ m : Nat, m ≤ 1125899906842624 → ∃ x y : List UInt8, numD m = x ++ y ∧ x.length ≤ 9 ∧ y.length ≤ 25 ∧
        (∀ w, PowTab w → Calls Tryd.prog 40 #[.int .i64 ((m : Int) / 16777216)] w fun e w' => e = .returned (.string (bs x)) ∧ Bl w w') ∧
        (∀ w, Calls Tryd.prog 41 #[.int .i64 ((m : Int) % 16777216)] w fun e w' => e = .returned (.string (bs y)) ∧ w' = w) := by
      intro m hm
      refine ⟨Lib.decDigits (m / 16777216), ptD (m % 16777216), rfl, dec_len 8 _ (by omega), ptD_len _ (Nat.mod_lt _ (by decide)), fun w hw => ?_, fun w => ?_⟩
      · have := itoa_any ((m : Int) / 16777216) ⟨by omega, by omega⟩ w hw
        rw [show ((m : Int) / 16777216) = ((m / 16777216 : Nat) : Int) by omega, Lib.itoa_nonneg] at this
        rw [show ((m : Int) / 16777216) = ((m / 16777216 : Nat) : Int) by omega]
        exact this
      · have := parts_any (m % 16777216) (Nat.mod_lt _ (by decide)) w
        rw [show ((m : Int) % 16777216) = ((m % 16777216 : Nat) : Int) by omega]
        exact this
    by_cases hn : n < 0
    · obtain ⟨m, rfl⟩ : ∃ m : Nat, n = -(m : Int) := ⟨(-n).toNat, by omega⟩
      obtain ⟨x, y, e, lx, ly, I, Q⟩ := key m (by omega)
      have hx : txD (-(m : Int)) = ([45] ++ x) ++ y := by unfold txD; rw [if_pos hn, show (- -(m : Int)).toNat = m by omega, e, List.append_assoc]
      rw [hx]
      have A1 : ∀ w, (Op.stringOp .add (bs [45]) (bs x)).run Tryd.prog w = .ok (.string (bs ([45] ++ x))) w := fun w => add_bs _ _ (by simp; omega) w
      have A2 : ∀ w, (Op.stringOp .add (bs ([45] ++ x)) (bs y)).run Tryd.prog w = .ok (.string (bs (([45] ++ x) ++ y))) w := fun w => add_bs _ _ (by simp; omega) w
      generalize ([45] ++ x) ++ y = z at *
      generalize [45] ++ x = xx at *
      have HI := hideP I
      have HQ := hideP Q
      have HT := hideP ht
      clear I Q ht hx e key
      have A3 : ∀ w, (Op.stringOp .add (ByteArray.mk #[45]) (bs x)).run Tryd.prog w = .ok (.string (bs xx)) w := A1
      go_enter Tryd.func24, Tryd.ntmps24
      go_wp2_with (go_at_call 15; refine (fright_any _ _).mono ?_; rintro e w' ⟨rfl, rfl⟩)
      refine (HI.out _ HT.out).mono ?_
      rintro e w1 ⟨rfl, h1⟩
      go_wp2_with fail
      refine (HQ.out _).mono ?_
      rintro e w2 ⟨rfl, rfl⟩
      go_wp2
      go_ret
      exact ⟨rfl, h1⟩
    · obtain ⟨x, y, e, lx, ly, I, Q⟩ := key n.toNat (by omega)
      have e1 : (n.toNat : Int) = n := by omega
      rw [e1] at I Q
      have hx : txD n = x ++ y := by unfold txD; rw [if_neg hn, e]
      rw [hx]
      have A1 : ∀ w, (Op.stringOp .add (bs []) (bs x)).run Tryd.prog w = .ok (.string (bs x)) w := fun w => add_bs [] x (by simp; omega) w
      have A2 : ∀ w, (Op.stringOp .add (bs x) (bs y)).run Tryd.prog w = .ok (.string (bs (x ++ y))) w := fun w => add_bs _ _ (by omega) w
      generalize x ++ y = z at *
      have HI := hideP I
      have HQ := hideP Q
      have HT := hideP ht
      clear I Q ht hx e key e1
      have A3 : ∀ w, (Op.stringOp .add (ByteArray.mk #[]) (bs x)).run Tryd.prog w = .ok (.string (bs x)) w := A1
      go_enter Tryd.func24, Tryd.ntmps24
      go_wp2_with (go_at_call 15; refine (fright_any _ _).mono ?_; rintro e w' ⟨rfl, rfl⟩)
      refine (HI.out _ HT.out).mono ?_
      rintro e w1 ⟨rfl, h1⟩
      go_wp2_with fail
      refine (HQ.out _).mono ?_
      rintro e w2 ⟨rfl, rfl⟩
      go_wp2
      go_ret
      exact ⟨rfl, h1⟩
end Go.Proofs.YtkigikccdoaljaaDoor
