/- Contracts of fx.parts, fx.Text (layer 2). -/
import Derived.Test.YtkigikccdoaljaaDoorFx4
namespace Go.Proofs.YtkigikccdoaljaaDoor
open Go.RowKit
set_option linter.unusedSimpArgs false
set_option linter.unusedVariables false

/-- How long a string is. -/
def strLen : Value → Nat | .string s => s.size | _ => 0

set_option maxRecDepth 1000000 in
set_option maxHeartbeats 4000000 in
theorem parts_any (r0 : Nat) (h0 : r0 < 16777216) (w : World) :
    Calls Tryd.prog 41 #[.int .i64 r0] w fun e w' => e = .returned (.string (bs (ptD r0))) ∧ w' = w := by
  by_cases hz : r0 = 0
  · subst hz
    go_enter Tryd.func41, Tryd.ntmps41
    go_wp2
    go_step3
    go_wp2
    rw [Exit.noGoto_ret]
    go_ret
    exact ⟨rfl, rfl⟩
  · have hg : ptD r0 = [46] ++ fr 24 r0 := by unfold ptD; rw [if_neg hz]
    rw [hg]
    have S := Tx.start [46] r0 h0
    generalize [46] ++ fr 24 r0 = goal at *
    have hzb : ((r0 : Int) == 0) = false := by simpa using hz
    clear hg
    have pass : ∀ (t : List UInt8) (k r : Nat), Tx goal t 1 k r → r ≠ 0 → ∃ (d : List UInt8) (q : Nat), Tx goal (t ++ d) 1 (k + 1) q ∧ k < 24 ∧ r < 16777216 ∧ (r : Int) * 10 % 16777216 = q ∧ q < 16777216 ∧
        (∀ w, Calls Tryd.prog 40 #[.int .i64 ((r : Int) * 10 / 16777216)] w fun e w' => e = .returned (.string (bs d)) ∧ w' = w) ∧
        (∀ w, (Op.stringOp .add (bs t) (bs d)).run Tryd.prog w = .ok (.string (bs (t ++ d))) w) := by
      intro t k r T hr
      have hk := T.lt hr
      have hs := T.small
      have hl := T.len
      have hd := dig_len hs
      have T' := T.step hr
      have hq := T'.small
      have e : ((r : Int) * 10 / 16777216).toNat = r * 10 / 16777216 := by omega
      have D := fun w => itoa_digit ((r : Int) * 10 / 16777216) (by omega) (by omega) w
      rw [e] at D
      exact ⟨Lib.decDigits (r * 10 / 16777216), r * 10 % 16777216, T', hk, hs, by omega, hq, D, fun w => add_bs _ _ (by omega) w⟩
    go_enter Tryd.func41, Tryd.ntmps41
    go_wp2
    refine wp_scope_jumps 0 (fun a' w' => w' = w ∧ ∃ (t : List UInt8) (k r : Nat) (u1 u4 u5 u6 u7 u8 u9 u10 u11 u12 u13 u14 u15 u16 u17 : Value), a' = { tmps := #[.int .i64 r, u1, .string (ByteArray.mk #[]), .string (bs t), u4, u5, u6, u7, u8, u9, u10, u11, u12, u13, u14, u15, u16, u17], defers := [] } ∧ Tx goal t 1 k r ∧ r ≠ 0)
      (fun a' _ => 25 - strLen (a'.tmps.getD 3 undef)) rfl ?_ ?_
    · obtain ⟨d, q, T1, hk, hs, e1, hq, D, A⟩ := pass [46] 0 r0 S hz
      have HD := hideP D
      have HE := hideP e1
      clear D e1 pass S hk
      go_wp2
      go_step3
      rename_i K hK
      refine hK _ _ ?_
      clear hK
      rw [show ByteArray.mk #[46] = bs [46] from rfl]
      generalize [46] ++ d = td at *
      generalize [46] = t0 at *
      go_wp2_with fail
      refine (HD.out _).mono ?_
      rintro e w1 ⟨rfl, rfl⟩
      go_wp2
      · rename_i hpos
        go_step3
        rw [HE.out] at hpos ⊢
        exact ⟨rfl, rfl, td, 1, q, _, _, _, _, _, _, _, _, _, _, _, _, _, _, _, rfl, T1, by omega⟩
      · rename_i hneg
        rw [HE.out] at hneg
        simp only [Exit.jump]
        go_ret
        exact ⟨ret_str (by rw [T1.done (by omega)]), rfl⟩
    · rintro a' w' ⟨rfl, t, k, r, u1, u4, u5, u6, u7, u8, u9, u10, u11, u12, u13, u14, u15, u16, u17, rfl, T, hr⟩
      obtain ⟨d, q, T1, hk, hs, e1, hq, D, A⟩ := pass t k r T hr
      have hl1 := T.len
      have hl2 := T1.len
      have HD := hideP D
      have HE := hideP e1
      clear D e1 pass S
      generalize t ++ d = td at *
      go_wp2_with fail
      refine (HD.out _).mono ?_
      rintro e w1 ⟨rfl, rfl⟩
      go_wp2
      · rename_i hpos
        go_step3
        rw [HE.out] at hpos ⊢
        refine ⟨rfl, ⟨rfl, td, k + 1, q, _, _, _, _, _, _, _, _, _, _, _, _, _, _, _, rfl, T1, by omega⟩, ?_⟩
        simp [strLen, bs_size]
        omega
      · rename_i hneg
        rw [HE.out] at hneg
        simp only [Exit.jump]
        go_ret
        exact ⟨ret_str (by rw [T1.done (by omega)]), rfl⟩
end Go.Proofs.YtkigikccdoaljaaDoor
