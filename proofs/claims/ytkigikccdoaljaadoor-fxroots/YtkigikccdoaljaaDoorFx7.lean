/- The contract of the document's Text (layer 2). -/
import Derived.Test.YtkigikccdoaljaaDoorFx6
namespace Go.Proofs.YtkigikccdoaljaaDoor
open Go.RowKit
set_option linter.unusedSimpArgs false
set_option linter.unusedVariables false

set_option maxRecDepth 1000000 in
set_option maxHeartbeats 2000000 in
theorem refText_nn (m : Nat) (hm : m ≤ 1125899906842624) (w : World) :
    Calls Tryd.prog 25 #[.int .i64 m] w fun e w' => e = .returned (.string (bs (numD m))) ∧ w' = w := by
  have hf : frB (m : Int) = true := frB_eq (by omega)
  have D := digits_any 14 (m / 16777216) w (by omega) (by omega)
  rw [show ((m / 16777216 : Nat) : Int) = (m : Int) / 16777216 by omega] at D
  have l1 := dec_len 8 (m / 16777216) (by omega)
  have e : numD m = Lib.decDigits (m / 16777216) ++ ptD (m % 16777216) := rfl
  by_cases hz : m % 16777216 = 0
  · have hx : numD m = Lib.decDigits (m / 16777216) := by rw [e, hz]; unfold ptD; rw [if_pos rfl, List.append_nil]
    rw [hx]
    have c : ((m : Int) % 16777216 == 0) = true := by simp; omega
    generalize Lib.decDigits (m / 16777216) = x at *
    have HD := hideP D
    clear D e hx hz
    go_enter Tryd.func25, Tryd.ntmps25
    go_wp2_with (go_at_call 16; refine (fRefRight_any _ _).mono ?_; rintro e w' ⟨rfl, rfl⟩)
    refine HD.out.mono ?_
    rintro e w1 ⟨rfl, rfl⟩
    go_wp2_with fail
    go_ret
    exact ⟨rfl, rfl⟩
  · have hx : numD m = (Lib.decDigits (m / 16777216) ++ [46]) ++ fr 24 (m % 16777216) := by rw [e]; unfold ptD; rw [if_neg hz, List.append_assoc]
    rw [hx]
    have S := Tx.start (Lib.decDigits (m / 16777216) ++ [46]) (m % 16777216) (Nat.mod_lt _ (by decide))
    have c : ((m : Int) % 16777216 == 0) = false := by simp; omega
    generalize (Lib.decDigits (m / 16777216) ++ [46]) ++ fr 24 (m % 16777216) = goal at *
    have A1 : ∀ w, (Op.stringOp .add (bs (Lib.decDigits (m / 16777216))) (bs [46])).run Tryd.prog w = .ok (.string (bs (Lib.decDigits (m / 16777216) ++ [46]))) w := fun w => add_bs _ _ (by simp; omega) w
    have hb : (Lib.decDigits (m / 16777216) ++ [46]).length ≤ 20 := by simp; omega
    generalize Lib.decDigits (m / 16777216) ++ [46] = x0 at *
    generalize Lib.decDigits (m / 16777216) = x at *
    have A3 : ∀ w, (Op.stringOp .add (bs x) (ByteArray.mk #[46])).run Tryd.prog w = .ok (.string (bs x0)) w := A1
    have hb0 : x0.length = x0.length := rfl
    generalize hB : x0.length = B at S hb
    have pass : ∀ (t : List UInt8) (k r : Nat), Tx goal t B k r → r ≠ 0 → ∃ (d : List UInt8) (q : Nat), Tx goal (t ++ d) B (k + 1) q ∧ k < 24 ∧ r < 16777216 ∧ (r : Int) * 10 % 16777216 = q ∧ q < 16777216 ∧
        (∀ w, Calls Tryd.prog 42 #[.int .i64 ((r : Int) * 10 / 16777216)] w fun e w' => e = .returned (.string (bs d)) ∧ w' = w) ∧
        (∀ w, (Op.stringOp .add (bs t) (bs d)).run Tryd.prog w = .ok (.string (bs (t ++ d))) w) := by
      intro t k r T hr
      have hk := T.lt hr
      have hs := T.small
      have hl := T.len
      have hd := dig_len hs
      have T' := T.step hr
      have hq := T'.small
      have D := fun w => digits_any 14 (r * 10 / 16777216) w (by omega) (by omega)
      rw [show ((r * 10 / 16777216 : Nat) : Int) = (r : Int) * 10 / 16777216 by omega] at D
      exact ⟨Lib.decDigits (r * 10 / 16777216), r * 10 % 16777216, T', hk, hs, by omega, hq, D, fun w => add_bs _ _ (by omega) w⟩
    have HS := hideP S
    have HD := hideP D
    clear D e hx hz A1 hB hb0 S
    go_enter Tryd.func25, Tryd.ntmps25
    go_wp2_with (go_at_call 16; refine (fRefRight_any _ _).mono ?_; rintro e w' ⟨rfl, rfl⟩)
    refine HD.out.mono ?_
    rintro e w1 ⟨rfl, rfl⟩
    go_wp2_with fail
    clear A3 c HD hf
    go_loop [3, 4] (fun s i => ∃ (t : List UInt8) (k r : Nat), s = .string (bs t) ∧ i = .int .i64 r ∧ Tx goal t B k r) (fun s _ => B + 25 - strLen s)
    case atStart => exact ⟨x0, 0, m % 16777216, rfl, by congr 1, HS.out⟩
    case round =>
      obtain ⟨t, k, r, rfl, rfl, T⟩ := hrel
      by_cases hr : r = 0
      · subst hr
        have hd := T.done rfl
        subst hd
        clear pass HS
        go_wp2_with fail
        go_ret
        exact ⟨rfl, rfl⟩
      · obtain ⟨d, q, T1, hk, hs, e1, hq, D, A⟩ := pass t k r T hr
        have hl1 := T.len
        have hl2 := T1.len
        have c : (0 : Int) < r := by omega
        have HD := hideP D
        have HE := hideP e1
        clear D e1 pass HS
        generalize t ++ d = td at *
        go_wp2_with fail
        refine (HD.out _).mono ?_
        rintro e w2 ⟨rfl, rfl⟩
        go_wp2_with fail
        go_round
        case rel => exact ⟨td, k + 1, q, rfl, by rw [HE.out], T1⟩
        case measure => simp [strLen, bs_size]; omega
end Go.Proofs.YtkigikccdoaljaaDoor
