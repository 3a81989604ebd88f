/- Contracts of fx.parts, fx.Text, and of the document's digits and Text (layer 2). -/
import Derived.Test.YtkigikccdoaljaaDoorFx3
namespace Go.Proofs.YtkigikccdoaljaaDoor
open Go.RowKit
set_option linter.unusedSimpArgs false
set_option linter.unusedVariables false

theorem one_digit : ∀ i : Fin 10, (ByteArray.mk #[48, 49, 50, 51, 52, 53, 54, 55, 56, 57]).extract i.val (i.val + 1) = bs [UInt8.ofNat (48 + i.val)] := by decide +kernel
theorem ret_str {a b : ByteArray} (h : a = b) : Ending.returned (.string a) = .returned (.string b) := by rw [h]

set_option maxRecDepth 1000000 in
theorem digits_any (k : Nat) : ∀ (n : Nat) (w : World), n < 10 ^ (k + 1) → n < 1000000000000000 → 
    Calls Tryd.prog 42 #[.int .i64 n] w fun e w' => e = .returned (.string (bs (Lib.decDigits n))) ∧ w' = w := by
  induction k with
  | zero =>
    intro n w hk hn
    have hlt : n < 10 := by simpa using hk
    have hd := one_digit ⟨n, hlt⟩
    rw [Lib.decDigits_one hlt]
    have HD := hideP hd
    clear hd hk
    go_enter Tryd.func42, Tryd.ntmps42
    go_wp2_with fail
    go_ret
    exact ⟨ret_str (by simpa using HD.out), rfl⟩
  | succ k ih =>
    intro n w hk hn
    by_cases hlt : n < 10
    · have hd := one_digit ⟨n, hlt⟩
      rw [Lib.decDigits_one hlt]
      have HD := hideP hd
      clear hd hk
      go_enter Tryd.func42, Tryd.ntmps42
      go_wp2_with fail
      go_ret
      exact ⟨ret_str (by simpa using HD.out), rfl⟩
    · have h1 : n / 10 < 10 ^ (k + 1) := by rw [Nat.pow_succ] at hk; omega
      have h2 : n % 10 < 10 ^ (k + 1) := by
        have := Nat.pow_le_pow_right (show 0 < 10 by decide) (show 1 ≤ k + 1 by omega)
        omega
      have I1 := ih (n / 10) w h1 (by omega)
      have I2 := ih (n % 10) w h2 (by omega)
      have e : Lib.decDigits n = Lib.decDigits (n / 10) ++ Lib.decDigits (n % 10) := by
        rw [Lib.decDigits_one (show n % 10 < 10 by omega)]
        conv => lhs; rw [Lib.decDigits, dif_neg hlt]
      have l1 := dec_len 14 (n / 10) (by omega)
      have l2 := dec_len 14 (n % 10) (by omega)
      have A := add_bs (Lib.decDigits (n / 10)) (Lib.decDigits (n % 10)) (by omega) w
      rw [e]
      have e1 : ((n / 10 : Nat) : Int) = (n : Int) / 10 := by omega
      have e2 : ((n % 10 : Nat) : Int) = (n : Int) % 10 := by omega
      rw [e1] at I1
      rw [e2] at I2
      generalize Lib.decDigits (n / 10) = x at *
      generalize Lib.decDigits (n % 10) = y at *
      have H1 := hideP I1
      have H2 := hideP I2
      clear I1 I2 ih hk h1 h2 e e1 e2
      go_enter Tryd.func42, Tryd.ntmps42
      go_wp2_with fail
      refine H1.out.mono ?_
      rintro e w1 ⟨rfl, rfl⟩
      go_wp2_with fail
      refine H2.out.mono ?_
      rintro e w2 ⟨rfl, rfl⟩
      go_wp2_with fail
      go_ret
      exact ⟨rfl, rfl⟩
end Go.Proofs.YtkigikccdoaljaaDoor
