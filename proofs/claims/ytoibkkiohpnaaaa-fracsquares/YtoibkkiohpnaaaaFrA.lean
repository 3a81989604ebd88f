/- The walk of FracSquares. -/
import Derived.Test.YtoibkkiohpnaaaaFr8
import Derived.Test.YtoibkkiohpnaaaaFr9
import Derived.Test.YtoibkkiohpnaaaaFrN
namespace Go.Proofs.Ytoibkkiohpnaaaa
open Go.RowKit
set_option linter.unusedSimpArgs false
set_option linter.unusedVariables false

set_option maxHeartbeats 1000000 in
theorem walk_FracSquares (a : Fr) (w : World) :
    Calls Try.prog 8 #[frV a] w fun e w' => e = .returned (.bool true) ∧ Bl w w' := by
  obtain ⟨W, X⟩ := oneA_ex w a
  have HX := hideP X
  clear X
  obtain ⟨n, d, bd⟩ := a
  have F := hideP (fineL_any ⟨n, d, bd⟩)
  have AW := hideP awake4_any
  have EG := Try.frGuard
  have cs : (fineR ⟨n, d, bd⟩ = false ∨ (fineR ⟨n, d, bd⟩ = true ∧ n < -32768) ∨ (fineR ⟨n, d, bd⟩ = true ∧ ¬ n < -32768 ∧ 32768 < n) ∨ (fineR ⟨n, d, bd⟩ = true ∧ ¬ n < -32768 ∧ ¬ 32768 < n ∧ 32768 < d)) ∨ (fineR ⟨n, d, bd⟩ = true ∧ ¬ n < -32768 ∧ ¬ 32768 < n ∧ ¬ 32768 < d) := by
    cases fineR ⟨n, d, bd⟩
    · exact .inl (.inl rfl)
    · rcases (by omega : n < -32768 ∨ (¬ n < -32768 ∧ 32768 < n) ∨ (¬ n < -32768 ∧ ¬ 32768 < n ∧ 32768 < d) ∨ (¬ n < -32768 ∧ ¬ 32768 < n ∧ ¬ 32768 < d)) with h | h | h | h
      · exact .inl (.inr (.inl ⟨rfl, h⟩))
      · exact .inl (.inr (.inr (.inl ⟨rfl, h⟩)))
      · exact .inl (.inr (.inr (.inr ⟨rfl, h⟩)))
      · exact .inr ⟨rfl, h⟩
  rcases cs with cs | ⟨hf, c1, c2, c3⟩
  · rcases cs with hf | ⟨hf, c1⟩ | ⟨hf, c1, c2⟩ | ⟨hf, c1, c2, c3⟩
    all_goals
      rw [hf] at F
      clear hf
      go_enter Try.func8, Try.ntmps8
      go_wp2_with fail
      rw [← HX.out.eq]
      obtain ⟨a0, a1, a2, af0, af1, af2, al⟩ := HX.out.ba.later (Bl.refl W)
      try dsimp only at a0 a1 a2
      go_wp2_with fail
      refine (F.out _).mono ?_
      rintro e w1 ⟨rfl, h1⟩
      have H1 := hideP h1
      clear h1
      clear a0 a1 a2 af0 af1 af2 al
      obtain ⟨a0, a1, a2, af0, af1, af2, al⟩ := HX.out.ba.later H1.out
      try dsimp only at a0 a1 a2
      go_wp2_with fail
      refine (AW.out _).mono ?_
      rintro e w2 ⟨rfl, h2⟩
      have H2 := hideP h2
      clear h2
      clear a0 a1 a2 af0 af1 af2 al
      go_wp2
      go_ret
      exact ⟨rfl, HX.out.bl.trans (H1.out.trans H2.out)⟩
  · rw [hf] at F
    obtain ⟨b1, _⟩ := fineR_iff.1 hf
    dsimp only at b1
    subst b1
    have MU := rmul_any ⟨n, d, false⟩ ⟨n, d, false⟩
    have RT := rroot_any (mulR ⟨n, d, false⟩ ⟨n, d, false⟩)
    rw [rootR_sq hf (by omega) (by omega) (by omega)] at RT
    have NE := rneg_any ⟨n, d, false⟩
    rw [negR_fine hf] at NE
    generalize mulR ⟨n, d, false⟩ ⟨n, d, false⟩ = m at *
    have M := hideP MU
    have R := hideP RT
    have N := hideP NE
    clear MU RT NE hf
    by_cases hn : n < 0
    · rw [show (n.natAbs : Int) = -n by omega] at R
      have EQ : ∀ w, (binOp .eql 23 (.agg #[.int .i64 (-n), .int .i64 d, .bool false]) (.agg #[.int .i64 (-n), .int .i64 d, .bool false])).run Try.prog w = .ok (.bool true) w := fun w => by
        have := eql_fr ⟨-n, d, false⟩ ⟨-n, d, false⟩ w
        rwa [eqR_iff.2 rfl] at this
      go_enter Try.func8, Try.ntmps8
      go_wp2_with fail
      rw [← HX.out.eq]
      obtain ⟨a0, a1, a2, af0, af1, af2, al⟩ := HX.out.ba.later (Bl.refl W)
      try dsimp only at a0 a1 a2
      go_wp2_with fail
      refine (F.out _).mono ?_
      rintro e w1 ⟨rfl, h1⟩
      have H1 := hideP h1
      clear h1
      clear a0 a1 a2 af0 af1 af2 al
      obtain ⟨a0, a1, a2, af0, af1, af2, al⟩ := HX.out.ba.later H1.out
      try dsimp only at a0 a1 a2
      go_wp2_with fail
      refine (M.out _).mono ?_
      rintro e w2 ⟨rfl, h2⟩
      have H2 := hideP h2
      clear h2
      clear a0 a1 a2 af0 af1 af2 al
      go_wp2_with fail
      refine (R.out _).mono ?_
      rintro e w3 ⟨rfl, h3⟩
      have H3 := hideP h3
      clear h3
      obtain ⟨a0, a1, a2, af0, af1, af2, al⟩ := HX.out.ba.later ((H1.out.trans H2.out).trans H3.out)
      try dsimp only at a0 a1 a2
      go_wp2_with fail
      obtain ⟨w4, Y4⟩ := oneA_ex w3 ⟨-n, d, false⟩
      have e4 := Y4.eq
      try dsimp only at e4
      rw [← e4]
      have H4 := hideP Y4.bl
      have X4 := hideP Y4.ba
      clear Y4 e4
      clear a0 a1 a2 af0 af1 af2 al
      obtain ⟨a0, a1, a2, af0, af1, af2, al⟩ := HX.out.ba.later (((H1.out.trans H2.out).trans H3.out).trans H4.out)
      try dsimp only at a0 a1 a2
      obtain ⟨x0, x1, x2, xf0, xf1, xf2, xl⟩ := X4.out.later (Bl.refl w4)
      try dsimp only at x0 x1 x2
      clear a0 a1 a2 af0 af1 af2 al x0 x1 x2 xf0 xf1 xf2 xl
      go_wp2_with fail
      have wne := wl_ne w4
      obtain ⟨a0, a1, a2⟩ := (HX.out.ba.later (((H1.out.trans H2.out).trans H3.out).trans H4.out)).wl
      try dsimp only at a0 a1 a2
      obtain ⟨x0, x1, x2⟩ := (X4.out.later (Bl.refl w4)).wl
      try dsimp only at x0 x1 x2
      refine wl_region w4 (Bl.refl _) (by kernel_rfl) (by kernel_rfl) ?_
      repeat (go_big_quiet_step (first | (go_at_call 22; exact wl_call (N.out _)) | (go_at_call 12; exact wl_call (AW.out _))))
      refine wpQuiet_nil ?_
      intro _ hw'
      obtain ⟨z, hw''⟩ := hw'
      subst hw''
      clear wne
      obtain ⟨w5, h5⟩ := z
      dsimp only
      have H5 := hideP h5
      clear h5
      clear a0 a1 a2 x0 x1 x2
      go_wp2
      go_ret
      exact ⟨rfl, HX.out.bl.trans ((((H1.out.trans H2.out).trans H3.out).trans H4.out).trans H5.out)⟩
    · rw [show (n.natAbs : Int) = n by omega] at R
      have EQ : ∀ w, (binOp .eql 23 (.agg #[.int .i64 n, .int .i64 d, .bool false]) (.agg #[.int .i64 n, .int .i64 d, .bool false])).run Try.prog w = .ok (.bool true) w := fun w => by
        have := eql_fr ⟨n, d, false⟩ ⟨n, d, false⟩ w
        rwa [eqR_iff.2 rfl] at this
      go_enter Try.func8, Try.ntmps8
      go_wp2_with fail
      rw [← HX.out.eq]
      obtain ⟨a0, a1, a2, af0, af1, af2, al⟩ := HX.out.ba.later (Bl.refl W)
      try dsimp only at a0 a1 a2
      go_wp2_with fail
      refine (F.out _).mono ?_
      rintro e w1 ⟨rfl, h1⟩
      have H1 := hideP h1
      clear h1
      clear a0 a1 a2 af0 af1 af2 al
      obtain ⟨a0, a1, a2, af0, af1, af2, al⟩ := HX.out.ba.later H1.out
      try dsimp only at a0 a1 a2
      go_wp2_with fail
      refine (M.out _).mono ?_
      rintro e w2 ⟨rfl, h2⟩
      have H2 := hideP h2
      clear h2
      clear a0 a1 a2 af0 af1 af2 al
      go_wp2_with fail
      refine (R.out _).mono ?_
      rintro e w3 ⟨rfl, h3⟩
      have H3 := hideP h3
      clear h3
      obtain ⟨a0, a1, a2, af0, af1, af2, al⟩ := HX.out.ba.later ((H1.out.trans H2.out).trans H3.out)
      try dsimp only at a0 a1 a2
      go_wp2_with fail
      obtain ⟨w4, Y4⟩ := oneA_ex w3 ⟨n, d, false⟩
      have e4 := Y4.eq
      try dsimp only at e4
      rw [← e4]
      have H4 := hideP Y4.bl
      have X4 := hideP Y4.ba
      clear Y4 e4
      clear a0 a1 a2 af0 af1 af2 al
      obtain ⟨a0, a1, a2, af0, af1, af2, al⟩ := HX.out.ba.later (((H1.out.trans H2.out).trans H3.out).trans H4.out)
      try dsimp only at a0 a1 a2
      obtain ⟨x0, x1, x2, xf0, xf1, xf2, xl⟩ := X4.out.later (Bl.refl w4)
      try dsimp only at x0 x1 x2
      go_wp2_with fail
      refine (AW.out _).mono ?_
      rintro e w5 ⟨rfl, h5⟩
      have H5 := hideP h5
      clear h5
      clear a0 a1 a2 af0 af1 af2 al x0 x1 x2 xf0 xf1 xf2 xl
      go_wp2
      go_ret
      exact ⟨rfl, HX.out.bl.trans ((((H1.out.trans H2.out).trans H3.out).trans H4.out).trans H5.out)⟩
end Go.Proofs.Ytoibkkiohpnaaaa
