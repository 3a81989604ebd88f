/- The walk of FracQuotients. -/
import Derived.Test.YtoibkkiohpnaaaaFr8
import Derived.Test.YtoibkkiohpnaaaaFr9
import Derived.Test.YtoibkkiohpnaaaaFrN
namespace Go.Proofs.Ytoibkkiohpnaaaa
open Go.RowKit
set_option linter.unusedSimpArgs false
set_option linter.unusedVariables false

theorem eql_self (x y : Int) (b : Bool) (w : World) : (binOp .eql 23 (.agg #[.int .i64 x, .int .i64 y, .bool b]) (.agg #[.int .i64 x, .int .i64 y, .bool b])).run Try.prog w = .ok (.bool true) w := by
  have := eql_fr ⟨x, y, b⟩ ⟨x, y, b⟩ w
  rwa [eqR_iff.2 rfl] at this
theorem neq_self (x y : Int) (b : Bool) (w : World) : (binOp .neq 23 (.agg #[.int .i64 x, .int .i64 y, .bool b]) (.agg #[.int .i64 x, .int .i64 y, .bool b])).run Try.prog w = .ok (.bool false) w := by
  have := neq_fr ⟨x, y, b⟩ ⟨x, y, b⟩ w
  rwa [eqR_iff.2 rfl] at this
theorem right_in {n : Int} (h1 : -4611686018427387903 ≤ n) (h2 : n ≤ 4611686018427387903) : rightB n = true := by
  unfold rightB; simp; omega
/-- What n by d is told as, is the same. -/
theorem lowR_same {n d : Int} (hd : d ≠ 0) (hb : (lowR n d).bad = false) : n * (lowR n d).d = (lowR n d).n * d := by
  unfold lowR at hb ⊢
  rw [if_neg hd] at hb ⊢
  rw [ofQ_bad] at hb
  have ok : okR (Rat.divInt n d) = true := by cases h : okR (Rat.divInt n d) <;> simp_all
  rw [ofQ_ok ok]
  dsimp only
  have e := Rat.num_divInt_den (Rat.divInt n d)
  have dp := (Rat.divInt n d).den_pos
  exact ((Rat.divInt_eq_divInt_iff (by omega) hd).1 e).symm
theorem lowR_fine {n d : Int} (hb : (lowR n d).bad = false) : fineR (lowR n d) = true := by
  unfold lowR at hb ⊢
  by_cases hd : d = 0
  · rw [if_pos hd] at hb; cases hb
  · rw [if_neg hd] at hb ⊢
    rw [ofQ_bad] at hb
    rw [ofQ_fine]
    cases h : okR (Rat.divInt n d) <;> simp_all
theorem newR_low {n d : Int} (h1 : -1152921504606846976 ≤ n) (h2 : n ≤ 1152921504606846976) (h3 : -1152921504606846976 ≤ d) (h4 : d ≤ 1152921504606846976) : newR n d = lowR n d := by
  unfold newR
  rw [gvB_iff.2 ⟨h1, h2⟩, gvB_iff.2 ⟨h3, h4⟩]
  rfl
/-- A number of two that may not be, or whose N is 0. -/
theorem quot_cases (a b : Fr) :
    ((a.n < -1073741824 ∨ (¬ a.n < -1073741824 ∧ 1073741824 < a.n) ∨ (¬ a.n < -1073741824 ∧ ¬ 1073741824 < a.n ∧ a.d < 1) ∨ (¬ a.n < -1073741824 ∧ ¬ 1073741824 < a.n ∧ ¬ a.d < 1 ∧ 1073741824 < a.d)
      ∨ (¬ a.n < -1073741824 ∧ ¬ 1073741824 < a.n ∧ ¬ a.d < 1 ∧ ¬ 1073741824 < a.d ∧ b.n < -1073741824) ∨ (¬ a.n < -1073741824 ∧ ¬ 1073741824 < a.n ∧ ¬ a.d < 1 ∧ ¬ 1073741824 < a.d ∧ ¬ b.n < -1073741824 ∧ 1073741824 < b.n)
      ∨ (¬ a.n < -1073741824 ∧ ¬ 1073741824 < a.n ∧ ¬ a.d < 1 ∧ ¬ 1073741824 < a.d ∧ ¬ b.n < -1073741824 ∧ ¬ 1073741824 < b.n ∧ b.d < 1) ∨ (¬ a.n < -1073741824 ∧ ¬ 1073741824 < a.n ∧ ¬ a.d < 1 ∧ ¬ 1073741824 < a.d ∧ ¬ b.n < -1073741824 ∧ ¬ 1073741824 < b.n ∧ ¬ b.d < 1 ∧ 1073741824 < b.d)) ∧ (fineR a = false ∨ fineR b = false))
    ∨ ((¬ a.n < -1073741824 ∧ ¬ 1073741824 < a.n ∧ ¬ a.d < 1 ∧ ¬ 1073741824 < a.d ∧ ¬ b.n < -1073741824 ∧ ¬ 1073741824 < b.n ∧ ¬ b.d < 1 ∧ ¬ 1073741824 < b.d) ∧ (fineR a = false ∨ (fineR a = true ∧ fineR b = false) ∨ (fineR a = true ∧ fineR b = true ∧ b.n = 0) ∨ (fineR a = true ∧ fineR b = true ∧ b.n ≠ 0))) := by
  by_cases h : (¬ a.n < -1073741824 ∧ ¬ 1073741824 < a.n ∧ ¬ a.d < 1 ∧ ¬ 1073741824 < a.d ∧ ¬ b.n < -1073741824 ∧ ¬ 1073741824 < b.n ∧ ¬ b.d < 1 ∧ ¬ 1073741824 < b.d)
  · refine .inr ⟨h, ?_⟩
    cases ha : fineR a
    · exact .inl rfl
    · cases hb : fineR b
      · exact .inr (.inl ⟨rfl, rfl⟩)
      · by_cases h0 : b.n = 0
        · exact .inr (.inr (.inl ⟨rfl, rfl, h0⟩))
        · exact .inr (.inr (.inr ⟨rfl, rfl, h0⟩))
  · refine .inl ⟨by omega, ?_⟩
    cases ha : fineR a
    · exact .inl rfl
    · cases hb : fineR b
      · exact .inr rfl
      · have := fineR_iff.1 ha
        have := fineR_iff.1 hb
        omega
theorem bad_two {a b : Fr} (h : fineR a = false ∨ fineR b = false) : addR a b = wrongR ∧ subR a b = wrongR ∧ mulR a b = wrongR ∧ divR a b = wrongR := by
  rcases h with h | h
  · exact ⟨bad_addL h, bad_subL h, bad_mulL h, bad_divL h⟩
  · exact ⟨bad_addR h, bad_subR h, bad_mulR h, bad_divR h⟩
theorem div_zero {a b : Fr} (h : b.n = 0) : divR a b = wrongR := by
  unfold divR; rw [if_neg (by simp [h])]
theorem quot_low {a b : Fr} (ha : fineR a = true) (hb : fineR b = true) (h0 : b.n ≠ 0) : divR a b = lowR (a.n * b.d) (a.d * b.n) := by
  rw [low_div ha hb h0, divR_fine ha hb h0]

set_option maxHeartbeats 2000000 in
theorem walk_FracQuotients (a b : Fr) (w : World) :
    Calls Try.prog 5 #[frV a, frV b] w fun e w' => e = .returned (.bool true) ∧ Bl w w' := by
  obtain ⟨W, X⟩ := abR_ex w a b
  have HX := hideP X
  clear X
  have FA := hideP (fineL_any a)
  have FB := hideP (fineL_any b)
  have AW := hideP awake4_any
  have EG := Try.frGuard
  rcases quot_cases a b with ⟨cs, hf⟩ | ⟨⟨c1, c2, c3, c4, c5, c6, c7, c8⟩, cs⟩
  · have D := hideP (fun w => wr_of (rdiv_any a b w) (bad_two hf).2.2.2)
    clear hf
    rcases cs with c1 | ⟨c1, c2⟩ | ⟨c1, c2, c3⟩ | ⟨c1, c2, c3, c4⟩ | ⟨c1, c2, c3, c4, c5⟩ | ⟨c1, c2, c3, c4, c5, c6⟩ | ⟨c1, c2, c3, c4, c5, c6, c7⟩ | ⟨c1, c2, c3, c4, c5, c6, c7, c8⟩
    all_goals
      go_enter Try.func5, Try.ntmps5
      go_wp2_with fail
      rw [← HX.out.eq]
      obtain ⟨a0, a1, a2, af0, af1, af2, al⟩ := HX.out.ba.later (Bl.refl W)
      try dsimp only at a0 a1 a2
      obtain ⟨b0, b1, b2, bf0, bf1, bf2, bl⟩ := HX.out.bb.later (Bl.refl W)
      try dsimp only at b0 b1 b2
      go_wp2_with fail
      refine (D.out _).mono ?_
      rintro e w1 ⟨rfl, h1⟩
      have H1 := hideP h1
      clear h1
      clear a0 a1 a2 af0 af1 af2 al b0 b1 b2 bf0 bf1 bf2 bl
      obtain ⟨a0, a1, a2, af0, af1, af2, al⟩ := HX.out.ba.later H1.out
      try dsimp only at a0 a1 a2
      obtain ⟨b0, b1, b2, bf0, bf1, bf2, bl⟩ := HX.out.bb.later H1.out
      try dsimp only at b0 b1 b2
      go_wp2_with fail
      obtain ⟨w2, Y2⟩ := oneA_ex w1 ⟨0, 0, true⟩
      have e2 := Y2.eq
      try dsimp only at e2
      rw [← e2]
      have H2 := hideP Y2.bl
      have X2 := hideP Y2.ba
      clear Y2 e2
      clear a0 a1 a2 af0 af1 af2 al b0 b1 b2 bf0 bf1 bf2 bl
      obtain ⟨a0, a1, a2, af0, af1, af2, al⟩ := HX.out.ba.later (H1.out.trans H2.out)
      try dsimp only at a0 a1 a2
      obtain ⟨b0, b1, b2, bf0, bf1, bf2, bl⟩ := HX.out.bb.later (H1.out.trans H2.out)
      try dsimp only at b0 b1 b2
      obtain ⟨x0, x1, x2, xf0, xf1, xf2, xl⟩ := X2.out.later (Bl.refl w2)
      try dsimp only at x0 x1 x2
      go_wp2_with fail
      refine (AW.out _).mono ?_
      rintro e w3 ⟨rfl, h3⟩
      have H3 := hideP h3
      clear h3
      clear a0 a1 a2 af0 af1 af2 al b0 b1 b2 bf0 bf1 bf2 bl x0 x1 x2 xf0 xf1 xf2 xl
      go_wp2
      go_ret
      exact ⟨rfl, HX.out.bl.trans ((H1.out.trans H2.out).trans H3.out)⟩
  · rcases cs with hf | ⟨ha, hb⟩ | ⟨ha, hb, h0⟩ | ⟨ha, hb, h0⟩
    · have D := hideP (fun w => wr_of (rdiv_any a b w) (bad_two (.inl hf)).2.2.2)
      rw [hf] at FA
      clear hf
      go_enter Try.func5, Try.ntmps5
      go_wp2_with fail
      rw [← HX.out.eq]
      obtain ⟨a0, a1, a2, af0, af1, af2, al⟩ := HX.out.ba.later (Bl.refl W)
      try dsimp only at a0 a1 a2
      obtain ⟨b0, b1, b2, bf0, bf1, bf2, bl⟩ := HX.out.bb.later (Bl.refl W)
      try dsimp only at b0 b1 b2
      go_wp2_with fail
      refine (D.out _).mono ?_
      rintro e w1 ⟨rfl, h1⟩
      have H1 := hideP h1
      clear h1
      clear a0 a1 a2 af0 af1 af2 al b0 b1 b2 bf0 bf1 bf2 bl
      obtain ⟨a0, a1, a2, af0, af1, af2, al⟩ := HX.out.ba.later H1.out
      try dsimp only at a0 a1 a2
      obtain ⟨b0, b1, b2, bf0, bf1, bf2, bl⟩ := HX.out.bb.later H1.out
      try dsimp only at b0 b1 b2
      go_wp2_with fail
      obtain ⟨w2, Y2⟩ := oneA_ex w1 ⟨0, 0, true⟩
      have e2 := Y2.eq
      try dsimp only at e2
      rw [← e2]
      have H2 := hideP Y2.bl
      have X2 := hideP Y2.ba
      clear Y2 e2
      clear a0 a1 a2 af0 af1 af2 al b0 b1 b2 bf0 bf1 bf2 bl
      obtain ⟨a0, a1, a2, af0, af1, af2, al⟩ := HX.out.ba.later (H1.out.trans H2.out)
      try dsimp only at a0 a1 a2
      obtain ⟨b0, b1, b2, bf0, bf1, bf2, bl⟩ := HX.out.bb.later (H1.out.trans H2.out)
      try dsimp only at b0 b1 b2
      obtain ⟨x0, x1, x2, xf0, xf1, xf2, xl⟩ := X2.out.later (Bl.refl w2)
      try dsimp only at x0 x1 x2
      go_wp2_with fail
      refine (FA.out _).mono ?_
      rintro e w3 ⟨rfl, h3⟩
      have H3 := hideP h3
      clear h3
      clear a0 a1 a2 af0 af1 af2 al b0 b1 b2 bf0 bf1 bf2 bl x0 x1 x2 xf0 xf1 xf2 xl
      obtain ⟨a0, a1, a2, af0, af1, af2, al⟩ := HX.out.ba.later ((H1.out.trans H2.out).trans H3.out)
      try dsimp only at a0 a1 a2
      obtain ⟨b0, b1, b2, bf0, bf1, bf2, bl⟩ := HX.out.bb.later ((H1.out.trans H2.out).trans H3.out)
      try dsimp only at b0 b1 b2
      obtain ⟨x0, x1, x2, xf0, xf1, xf2, xl⟩ := X2.out.later H3.out
      try dsimp only at x0 x1 x2
      go_wp2_with fail
      refine (AW.out _).mono ?_
      rintro e w4 ⟨rfl, h4⟩
      have H4 := hideP h4
      clear h4
      clear a0 a1 a2 af0 af1 af2 al b0 b1 b2 bf0 bf1 bf2 bl x0 x1 x2 xf0 xf1 xf2 xl
      go_wp2
      go_ret
      exact ⟨rfl, HX.out.bl.trans (((H1.out.trans H2.out).trans H3.out).trans H4.out)⟩
    · have D := hideP (fun w => wr_of (rdiv_any a b w) (bad_two (.inr hb)).2.2.2)
      rw [ha] at FA
      rw [hb] at FB
      clear ha hb
      go_enter Try.func5, Try.ntmps5
      go_wp2_with fail
      rw [← HX.out.eq]
      obtain ⟨a0, a1, a2, af0, af1, af2, al⟩ := HX.out.ba.later (Bl.refl W)
      try dsimp only at a0 a1 a2
      obtain ⟨b0, b1, b2, bf0, bf1, bf2, bl⟩ := HX.out.bb.later (Bl.refl W)
      try dsimp only at b0 b1 b2
      go_wp2_with fail
      refine (D.out _).mono ?_
      rintro e w1 ⟨rfl, h1⟩
      have H1 := hideP h1
      clear h1
      clear a0 a1 a2 af0 af1 af2 al b0 b1 b2 bf0 bf1 bf2 bl
      obtain ⟨a0, a1, a2, af0, af1, af2, al⟩ := HX.out.ba.later H1.out
      try dsimp only at a0 a1 a2
      obtain ⟨b0, b1, b2, bf0, bf1, bf2, bl⟩ := HX.out.bb.later H1.out
      try dsimp only at b0 b1 b2
      go_wp2_with fail
      obtain ⟨w2, Y2⟩ := oneA_ex w1 ⟨0, 0, true⟩
      have e2 := Y2.eq
      try dsimp only at e2
      rw [← e2]
      have H2 := hideP Y2.bl
      have X2 := hideP Y2.ba
      clear Y2 e2
      clear a0 a1 a2 af0 af1 af2 al b0 b1 b2 bf0 bf1 bf2 bl
      obtain ⟨a0, a1, a2, af0, af1, af2, al⟩ := HX.out.ba.later (H1.out.trans H2.out)
      try dsimp only at a0 a1 a2
      obtain ⟨b0, b1, b2, bf0, bf1, bf2, bl⟩ := HX.out.bb.later (H1.out.trans H2.out)
      try dsimp only at b0 b1 b2
      obtain ⟨x0, x1, x2, xf0, xf1, xf2, xl⟩ := X2.out.later (Bl.refl w2)
      try dsimp only at x0 x1 x2
      go_wp2_with fail
      refine (FA.out _).mono ?_
      rintro e w3 ⟨rfl, h3⟩
      have H3 := hideP h3
      clear h3
      clear a0 a1 a2 af0 af1 af2 al b0 b1 b2 bf0 bf1 bf2 bl x0 x1 x2 xf0 xf1 xf2 xl
      obtain ⟨a0, a1, a2, af0, af1, af2, al⟩ := HX.out.ba.later ((H1.out.trans H2.out).trans H3.out)
      try dsimp only at a0 a1 a2
      obtain ⟨b0, b1, b2, bf0, bf1, bf2, bl⟩ := HX.out.bb.later ((H1.out.trans H2.out).trans H3.out)
      try dsimp only at b0 b1 b2
      obtain ⟨x0, x1, x2, xf0, xf1, xf2, xl⟩ := X2.out.later H3.out
      try dsimp only at x0 x1 x2
      go_wp2_with fail
      refine (FB.out _).mono ?_
      rintro e w4 ⟨rfl, h4⟩
      have H4 := hideP h4
      clear h4
      clear a0 a1 a2 af0 af1 af2 al b0 b1 b2 bf0 bf1 bf2 bl x0 x1 x2 xf0 xf1 xf2 xl
      obtain ⟨a0, a1, a2, af0, af1, af2, al⟩ := HX.out.ba.later (((H1.out.trans H2.out).trans H3.out).trans H4.out)
      try dsimp only at a0 a1 a2
      obtain ⟨b0, b1, b2, bf0, bf1, bf2, bl⟩ := HX.out.bb.later (((H1.out.trans H2.out).trans H3.out).trans H4.out)
      try dsimp only at b0 b1 b2
      obtain ⟨x0, x1, x2, xf0, xf1, xf2, xl⟩ := X2.out.later (H3.out.trans H4.out)
      try dsimp only at x0 x1 x2
      go_wp2_with fail
      refine (AW.out _).mono ?_
      rintro e w5 ⟨rfl, h5⟩
      have H5 := hideP h5
      clear h5
      clear a0 a1 a2 af0 af1 af2 al b0 b1 b2 bf0 bf1 bf2 bl x0 x1 x2 xf0 xf1 xf2 xl
      go_wp2
      go_ret
      exact ⟨rfl, HX.out.bl.trans ((((H1.out.trans H2.out).trans H3.out).trans H4.out).trans H5.out)⟩
    · have D := hideP (fun w => wr_of (rdiv_any a b w) (div_zero h0))
      rw [ha] at FA
      rw [hb] at FB
      have hb0 : (b.n == 0) = true := by simpa using h0
      clear ha hb h0
      go_enter Try.func5, Try.ntmps5
      go_wp2_with fail
      rw [← HX.out.eq]
      obtain ⟨a0, a1, a2, af0, af1, af2, al⟩ := HX.out.ba.later (Bl.refl W)
      try dsimp only at a0 a1 a2
      obtain ⟨b0, b1, b2, bf0, bf1, bf2, bl⟩ := HX.out.bb.later (Bl.refl W)
      try dsimp only at b0 b1 b2
      go_wp2_with fail
      refine (D.out _).mono ?_
      rintro e w1 ⟨rfl, h1⟩
      have H1 := hideP h1
      clear h1
      clear a0 a1 a2 af0 af1 af2 al b0 b1 b2 bf0 bf1 bf2 bl
      obtain ⟨a0, a1, a2, af0, af1, af2, al⟩ := HX.out.ba.later H1.out
      try dsimp only at a0 a1 a2
      obtain ⟨b0, b1, b2, bf0, bf1, bf2, bl⟩ := HX.out.bb.later H1.out
      try dsimp only at b0 b1 b2
      go_wp2_with fail
      obtain ⟨w2, Y2⟩ := oneA_ex w1 ⟨0, 0, true⟩
      have e2 := Y2.eq
      try dsimp only at e2
      rw [← e2]
      have H2 := hideP Y2.bl
      have X2 := hideP Y2.ba
      clear Y2 e2
      clear a0 a1 a2 af0 af1 af2 al b0 b1 b2 bf0 bf1 bf2 bl
      obtain ⟨a0, a1, a2, af0, af1, af2, al⟩ := HX.out.ba.later (H1.out.trans H2.out)
      try dsimp only at a0 a1 a2
      obtain ⟨b0, b1, b2, bf0, bf1, bf2, bl⟩ := HX.out.bb.later (H1.out.trans H2.out)
      try dsimp only at b0 b1 b2
      obtain ⟨x0, x1, x2, xf0, xf1, xf2, xl⟩ := X2.out.later (Bl.refl w2)
      try dsimp only at x0 x1 x2
      go_wp2_with fail
      refine (FA.out _).mono ?_
      rintro e w3 ⟨rfl, h3⟩
      have H3 := hideP h3
      clear h3
      clear a0 a1 a2 af0 af1 af2 al b0 b1 b2 bf0 bf1 bf2 bl x0 x1 x2 xf0 xf1 xf2 xl
      obtain ⟨a0, a1, a2, af0, af1, af2, al⟩ := HX.out.ba.later ((H1.out.trans H2.out).trans H3.out)
      try dsimp only at a0 a1 a2
      obtain ⟨b0, b1, b2, bf0, bf1, bf2, bl⟩ := HX.out.bb.later ((H1.out.trans H2.out).trans H3.out)
      try dsimp only at b0 b1 b2
      obtain ⟨x0, x1, x2, xf0, xf1, xf2, xl⟩ := X2.out.later H3.out
      try dsimp only at x0 x1 x2
      go_wp2_with fail
      refine (FB.out _).mono ?_
      rintro e w4 ⟨rfl, h4⟩
      have H4 := hideP h4
      clear h4
      clear a0 a1 a2 af0 af1 af2 al b0 b1 b2 bf0 bf1 bf2 bl x0 x1 x2 xf0 xf1 xf2 xl
      obtain ⟨a0, a1, a2, af0, af1, af2, al⟩ := HX.out.ba.later (((H1.out.trans H2.out).trans H3.out).trans H4.out)
      try dsimp only at a0 a1 a2
      obtain ⟨b0, b1, b2, bf0, bf1, bf2, bl⟩ := HX.out.bb.later (((H1.out.trans H2.out).trans H3.out).trans H4.out)
      try dsimp only at b0 b1 b2
      obtain ⟨x0, x1, x2, xf0, xf1, xf2, xl⟩ := X2.out.later (H3.out.trans H4.out)
      try dsimp only at x0 x1 x2
      go_wp2_with fail
      refine (AW.out _).mono ?_
      rintro e w5 ⟨rfl, h5⟩
      have H5 := hideP h5
      clear h5
      clear a0 a1 a2 af0 af1 af2 al b0 b1 b2 bf0 bf1 bf2 bl x0 x1 x2 xf0 xf1 xf2 xl
      go_wp2
      go_ret
      exact ⟨rfl, HX.out.bl.trans ((((H1.out.trans H2.out).trans H3.out).trans H4.out).trans H5.out)⟩
    · have m1 := mul_part (fine_n ha) (fine_dd hb)
      have m2 := mul_part (fine_dd ha) (fine_n hb)
      have e1 := wrap_part m1
      have e2 := wrap_part m2
      have e3 : wrap64 (-(a.n * b.d)) = -(a.n * b.d) := IntWalk.wrap64_in _ (by omega)
      have e4 : wrap64 (-(a.d * b.n)) = -(a.d * b.n) := IntWalk.wrap64_in _ (by omega)
      have dz : a.d * b.n ≠ 0 := Int.mul_ne_zero (fine_d ha) h0
      have hb0 : (b.n == 0) = false := by simpa using h0
      have L := quot_low ha hb h0
      have LS := lowR_same (n := a.n * b.d) dz
      have LF := lowR_fine (n := a.n * b.d) (d := a.d * b.n)
      have LN := newR_low m1.1 m1.2 m2.1 m2.2
      have NE := rneg_any a
      rw [negR_fine ha] at NE
      have N := hideP NE
      clear NE
      have DV := rdiv_any a b
      rw [L] at DV
      rw [ha] at FA
      rw [hb] at FB
      by_cases hq : a.d * b.n < 0
      · have NW := new_any (-(a.n * b.d)) (-(a.d * b.n))
        rw [newR_low (by omega) (by omega) (by omega) (by omega), ← lowR_neg _ _ hq] at NW
        cases hr : lowR (a.n * b.d) (a.d * b.n) with
        | mk rn rd rb =>
        rw [hr] at NW DV LS LF
        have D := hideP DV
        have NN := hideP NW
        clear NW DV
        have EQ := eql_self rn rd rb
        have EN := eql_self (-a.n) a.d false
        cases rb
        · have f := fineR_iff.1 (LF rfl)
          dsimp only at f
          have S := same_any (-(a.n * b.d)) (-(a.d * b.n)) rn rd
          have s1 : sameB (-(a.n * b.d)) (-(a.d * b.n)) rn rd = true := sameB_iff.2 (by rw [Int.neg_mul, Int.mul_neg]; exact congrArg _ (LS rfl))
          rw [s1] at S
          have SA := hideP (fun w => S w (right_in (by omega) (by omega)) (right_in (by omega) (by omega)) (right_in (by omega) (by omega)) (right_in (by omega) (by omega)))
          clear S s1 f LS LF L LN hr ha hb m1 m2
          go_enter Try.func5, Try.ntmps5
          go_wp2_with fail
          rw [← HX.out.eq]
          obtain ⟨a0, a1, a2, af0, af1, af2, al⟩ := HX.out.ba.later (Bl.refl W)
          try dsimp only at a0 a1 a2
          obtain ⟨b0, b1, b2, bf0, bf1, bf2, bl⟩ := HX.out.bb.later (Bl.refl W)
          try dsimp only at b0 b1 b2
          go_wp2_with fail
          refine (D.out _).mono ?_
          rintro e w1 ⟨rfl, h1⟩
          have H1 := hideP h1
          clear h1
          clear a0 a1 a2 af0 af1 af2 al b0 b1 b2 bf0 bf1 bf2 bl
          obtain ⟨a0, a1, a2, af0, af1, af2, al⟩ := HX.out.ba.later H1.out
          try dsimp only at a0 a1 a2
          obtain ⟨b0, b1, b2, bf0, bf1, bf2, bl⟩ := HX.out.bb.later H1.out
          try dsimp only at b0 b1 b2
          go_wp2_with fail
          obtain ⟨w2, Y2⟩ := oneA_ex w1 ⟨rn, rd, false⟩
          have e2 := Y2.eq
          try dsimp only at e2
          rw [← e2]
          have H2 := hideP Y2.bl
          have X2 := hideP Y2.ba
          clear Y2 e2
          clear a0 a1 a2 af0 af1 af2 al b0 b1 b2 bf0 bf1 bf2 bl
          obtain ⟨a0, a1, a2, af0, af1, af2, al⟩ := HX.out.ba.later (H1.out.trans H2.out)
          try dsimp only at a0 a1 a2
          obtain ⟨b0, b1, b2, bf0, bf1, bf2, bl⟩ := HX.out.bb.later (H1.out.trans H2.out)
          try dsimp only at b0 b1 b2
          obtain ⟨x0, x1, x2, xf0, xf1, xf2, xl⟩ := X2.out.later (Bl.refl w2)
          try dsimp only at x0 x1 x2
          go_wp2_with fail
          refine (FA.out _).mono ?_
          rintro e w3 ⟨rfl, h3⟩
          have H3 := hideP h3
          clear h3
          clear a0 a1 a2 af0 af1 af2 al b0 b1 b2 bf0 bf1 bf2 bl x0 x1 x2 xf0 xf1 xf2 xl
          obtain ⟨a0, a1, a2, af0, af1, af2, al⟩ := HX.out.ba.later ((H1.out.trans H2.out).trans H3.out)
          try dsimp only at a0 a1 a2
          obtain ⟨b0, b1, b2, bf0, bf1, bf2, bl⟩ := HX.out.bb.later ((H1.out.trans H2.out).trans H3.out)
          try dsimp only at b0 b1 b2
          obtain ⟨x0, x1, x2, xf0, xf1, xf2, xl⟩ := X2.out.later H3.out
          try dsimp only at x0 x1 x2
          go_wp2_with fail
          refine (FB.out _).mono ?_
          rintro e w4 ⟨rfl, h4⟩
          have H4 := hideP h4
          clear h4
          clear a0 a1 a2 af0 af1 af2 al b0 b1 b2 bf0 bf1 bf2 bl x0 x1 x2 xf0 xf1 xf2 xl
          obtain ⟨a0, a1, a2, af0, af1, af2, al⟩ := HX.out.ba.later (((H1.out.trans H2.out).trans H3.out).trans H4.out)
          try dsimp only at a0 a1 a2
          obtain ⟨b0, b1, b2, bf0, bf1, bf2, bl⟩ := HX.out.bb.later (((H1.out.trans H2.out).trans H3.out).trans H4.out)
          try dsimp only at b0 b1 b2
          obtain ⟨x0, x1, x2, xf0, xf1, xf2, xl⟩ := X2.out.later (H3.out.trans H4.out)
          try dsimp only at x0 x1 x2
          go_wp2_with fail
          clear a0 a1 a2 af0 af1 af2 al b0 b1 b2 bf0 bf1 bf2 bl x0 x1 x2 xf0 xf1 xf2 xl
          have wne := wl_ne w4
          obtain ⟨a0, a1, a2⟩ := (HX.out.ba.later (((H1.out.trans H2.out).trans H3.out).trans H4.out)).wl
          try dsimp only at a0 a1 a2
          obtain ⟨b0, b1, b2⟩ := (HX.out.bb.later (((H1.out.trans H2.out).trans H3.out).trans H4.out)).wl
          try dsimp only at b0 b1 b2
          refine wl_region w4 (Bl.refl _) (by kernel_rfl) (by kernel_rfl) ?_
          repeat (go_big_quiet_step (fail))
          refine wpQuiet_nil ?_
          intro _ hw'
          obtain ⟨z, hw''⟩ := hw'
          subst hw''
          clear wne
          obtain ⟨w5, h5⟩ := z
          dsimp only
          have H5 := hideP h5
          clear h5
          clear a0 a1 a2 b0 b1 b2
          obtain ⟨a0, a1, a2, af0, af1, af2, al⟩ := HX.out.ba.later ((((H1.out.trans H2.out).trans H3.out).trans H4.out).trans H5.out)
          try dsimp only at a0 a1 a2
          go_wp2_with fail
          refine (N.out _).mono ?_
          rintro e w6 ⟨rfl, h6⟩
          have H6 := hideP h6
          clear h6
          clear a0 a1 a2 af0 af1 af2 al
          obtain ⟨a0, a1, a2, af0, af1, af2, al⟩ := HX.out.ba.later (((((H1.out.trans H2.out).trans H3.out).trans H4.out).trans H5.out).trans H6.out)
          try dsimp only at a0 a1 a2
          obtain ⟨x0, x1, x2, xf0, xf1, xf2, xl⟩ := X2.out.later (((H3.out.trans H4.out).trans H5.out).trans H6.out)
          try dsimp only at x0 x1 x2
          go_wp2_with fail
          obtain ⟨w7, Y7⟩ := oneA_ex w6 ⟨-a.n, a.d, false⟩
          have e7 := Y7.eq
          try dsimp only at e7
          rw [← e7]
          have H7 := hideP Y7.bl
          have X7 := hideP Y7.ba
          clear Y7 e7
          clear a0 a1 a2 af0 af1 af2 al x0 x1 x2 xf0 xf1 xf2 xl
          go_wp2_with fail
          have wne := wl_ne w7
          obtain ⟨a0, a1, a2⟩ := (HX.out.ba.later ((((((H1.out.trans H2.out).trans H3.out).trans H4.out).trans H5.out).trans H6.out).trans H7.out)).wl
          try dsimp only at a0 a1 a2
          obtain ⟨x0, x1, x2⟩ := (X2.out.later ((((H3.out.trans H4.out).trans H5.out).trans H6.out).trans H7.out)).wl
          try dsimp only at x0 x1 x2
          obtain ⟨y0, y1, y2⟩ := (X7.out.later (Bl.refl w7)).wl
          try dsimp only at y0 y1 y2
          refine wl_region w7 (Bl.refl _) (by kernel_rfl) (by kernel_rfl) ?_
          repeat (go_big_quiet_step (first | (go_at_call 10; exact wl_call (NN.out _)) | (go_at_call 12; exact wl_call (AW.out _)) | (go_at_call 15; exact wl_call (SA.out _))))
          refine wpQuiet_nil ?_
          intro _ hw'
          obtain ⟨z, hw''⟩ := hw'
          subst hw''
          clear wne
          obtain ⟨w8, h8⟩ := z
          dsimp only
          have H8 := hideP h8
          clear h8
          clear a0 a1 a2 x0 x1 x2 y0 y1 y2
          go_wp2
          go_ret
          exact ⟨rfl, HX.out.bl.trans (((((((H1.out.trans H2.out).trans H3.out).trans H4.out).trans H5.out).trans H6.out).trans H7.out).trans H8.out)⟩
        · clear LS LF L LN hr ha hb m1 m2
          go_enter Try.func5, Try.ntmps5
          go_wp2_with fail
          rw [← HX.out.eq]
          obtain ⟨a0, a1, a2, af0, af1, af2, al⟩ := HX.out.ba.later (Bl.refl W)
          try dsimp only at a0 a1 a2
          obtain ⟨b0, b1, b2, bf0, bf1, bf2, bl⟩ := HX.out.bb.later (Bl.refl W)
          try dsimp only at b0 b1 b2
          go_wp2_with fail
          refine (D.out _).mono ?_
          rintro e w1 ⟨rfl, h1⟩
          have H1 := hideP h1
          clear h1
          clear a0 a1 a2 af0 af1 af2 al b0 b1 b2 bf0 bf1 bf2 bl
          obtain ⟨a0, a1, a2, af0, af1, af2, al⟩ := HX.out.ba.later H1.out
          try dsimp only at a0 a1 a2
          obtain ⟨b0, b1, b2, bf0, bf1, bf2, bl⟩ := HX.out.bb.later H1.out
          try dsimp only at b0 b1 b2
          go_wp2_with fail
          obtain ⟨w2, Y2⟩ := oneA_ex w1 ⟨rn, rd, true⟩
          have e2 := Y2.eq
          try dsimp only at e2
          rw [← e2]
          have H2 := hideP Y2.bl
          have X2 := hideP Y2.ba
          clear Y2 e2
          clear a0 a1 a2 af0 af1 af2 al b0 b1 b2 bf0 bf1 bf2 bl
          obtain ⟨a0, a1, a2, af0, af1, af2, al⟩ := HX.out.ba.later (H1.out.trans H2.out)
          try dsimp only at a0 a1 a2
          obtain ⟨b0, b1, b2, bf0, bf1, bf2, bl⟩ := HX.out.bb.later (H1.out.trans H2.out)
          try dsimp only at b0 b1 b2
          obtain ⟨x0, x1, x2, xf0, xf1, xf2, xl⟩ := X2.out.later (Bl.refl w2)
          try dsimp only at x0 x1 x2
          go_wp2_with fail
          refine (FA.out _).mono ?_
          rintro e w3 ⟨rfl, h3⟩
          have H3 := hideP h3
          clear h3
          clear a0 a1 a2 af0 af1 af2 al b0 b1 b2 bf0 bf1 bf2 bl x0 x1 x2 xf0 xf1 xf2 xl
          obtain ⟨a0, a1, a2, af0, af1, af2, al⟩ := HX.out.ba.later ((H1.out.trans H2.out).trans H3.out)
          try dsimp only at a0 a1 a2
          obtain ⟨b0, b1, b2, bf0, bf1, bf2, bl⟩ := HX.out.bb.later ((H1.out.trans H2.out).trans H3.out)
          try dsimp only at b0 b1 b2
          obtain ⟨x0, x1, x2, xf0, xf1, xf2, xl⟩ := X2.out.later H3.out
          try dsimp only at x0 x1 x2
          go_wp2_with fail
          refine (FB.out _).mono ?_
          rintro e w4 ⟨rfl, h4⟩
          have H4 := hideP h4
          clear h4
          clear a0 a1 a2 af0 af1 af2 al b0 b1 b2 bf0 bf1 bf2 bl x0 x1 x2 xf0 xf1 xf2 xl
          obtain ⟨a0, a1, a2, af0, af1, af2, al⟩ := HX.out.ba.later (((H1.out.trans H2.out).trans H3.out).trans H4.out)
          try dsimp only at a0 a1 a2
          obtain ⟨b0, b1, b2, bf0, bf1, bf2, bl⟩ := HX.out.bb.later (((H1.out.trans H2.out).trans H3.out).trans H4.out)
          try dsimp only at b0 b1 b2
          obtain ⟨x0, x1, x2, xf0, xf1, xf2, xl⟩ := X2.out.later (H3.out.trans H4.out)
          try dsimp only at x0 x1 x2
          go_wp2_with fail
          clear a0 a1 a2 af0 af1 af2 al b0 b1 b2 bf0 bf1 bf2 bl x0 x1 x2 xf0 xf1 xf2 xl
          have wne := wl_ne w4
          obtain ⟨a0, a1, a2⟩ := (HX.out.ba.later (((H1.out.trans H2.out).trans H3.out).trans H4.out)).wl
          try dsimp only at a0 a1 a2
          obtain ⟨b0, b1, b2⟩ := (HX.out.bb.later (((H1.out.trans H2.out).trans H3.out).trans H4.out)).wl
          try dsimp only at b0 b1 b2
          refine wl_region w4 (Bl.refl _) (by kernel_rfl) (by kernel_rfl) ?_
          repeat (go_big_quiet_step (fail))
          refine wpQuiet_nil ?_
          intro _ hw'
          obtain ⟨z, hw''⟩ := hw'
          subst hw''
          clear wne
          obtain ⟨w5, h5⟩ := z
          dsimp only
          have H5 := hideP h5
          clear h5
          clear a0 a1 a2 b0 b1 b2
          obtain ⟨a0, a1, a2, af0, af1, af2, al⟩ := HX.out.ba.later ((((H1.out.trans H2.out).trans H3.out).trans H4.out).trans H5.out)
          try dsimp only at a0 a1 a2
          go_wp2_with fail
          refine (N.out _).mono ?_
          rintro e w6 ⟨rfl, h6⟩
          have H6 := hideP h6
          clear h6
          clear a0 a1 a2 af0 af1 af2 al
          obtain ⟨a0, a1, a2, af0, af1, af2, al⟩ := HX.out.ba.later (((((H1.out.trans H2.out).trans H3.out).trans H4.out).trans H5.out).trans H6.out)
          try dsimp only at a0 a1 a2
          obtain ⟨x0, x1, x2, xf0, xf1, xf2, xl⟩ := X2.out.later (((H3.out.trans H4.out).trans H5.out).trans H6.out)
          try dsimp only at x0 x1 x2
          go_wp2_with fail
          obtain ⟨w7, Y7⟩ := oneA_ex w6 ⟨-a.n, a.d, false⟩
          have e7 := Y7.eq
          try dsimp only at e7
          rw [← e7]
          have H7 := hideP Y7.bl
          have X7 := hideP Y7.ba
          clear Y7 e7
          clear a0 a1 a2 af0 af1 af2 al x0 x1 x2 xf0 xf1 xf2 xl
          go_wp2_with fail
          have wne := wl_ne w7
          obtain ⟨a0, a1, a2⟩ := (HX.out.ba.later ((((((H1.out.trans H2.out).trans H3.out).trans H4.out).trans H5.out).trans H6.out).trans H7.out)).wl
          try dsimp only at a0 a1 a2
          obtain ⟨x0, x1, x2⟩ := (X2.out.later ((((H3.out.trans H4.out).trans H5.out).trans H6.out).trans H7.out)).wl
          try dsimp only at x0 x1 x2
          obtain ⟨y0, y1, y2⟩ := (X7.out.later (Bl.refl w7)).wl
          try dsimp only at y0 y1 y2
          refine wl_region w7 (Bl.refl _) (by kernel_rfl) (by kernel_rfl) ?_
          repeat (go_big_quiet_step (first | (go_at_call 10; exact wl_call (NN.out _)) | (go_at_call 12; exact wl_call (AW.out _))))
          refine wpQuiet_nil ?_
          intro _ hw'
          obtain ⟨z, hw''⟩ := hw'
          subst hw''
          clear wne
          obtain ⟨w8, h8⟩ := z
          dsimp only
          have H8 := hideP h8
          clear h8
          clear a0 a1 a2 x0 x1 x2 y0 y1 y2
          go_wp2
          go_ret
          exact ⟨rfl, HX.out.bl.trans (((((((H1.out.trans H2.out).trans H3.out).trans H4.out).trans H5.out).trans H6.out).trans H7.out).trans H8.out)⟩
      · have NW := new_any (a.n * b.d) (a.d * b.n)
        rw [LN] at NW
        cases hr : lowR (a.n * b.d) (a.d * b.n) with
        | mk rn rd rb =>
        rw [hr] at NW DV LS LF
        have D := hideP DV
        have NN := hideP NW
        clear NW DV
        have EQ := eql_self rn rd rb
        have EN := eql_self (-a.n) a.d false
        cases rb
        · have f := fineR_iff.1 (LF rfl)
          dsimp only at f
          have S := same_any (a.n * b.d) (a.d * b.n) rn rd
          have s1 : sameB (a.n * b.d) (a.d * b.n) rn rd = true := sameB_iff.2 (LS rfl)
          rw [s1] at S
          have SA := hideP (fun w => S w (right_in (by omega) (by omega)) (right_in (by omega) (by omega)) (right_in (by omega) (by omega)) (right_in (by omega) (by omega)))
          clear S s1 f LS LF L LN hr ha hb m1 m2
          go_enter Try.func5, Try.ntmps5
          go_wp2_with fail
          rw [← HX.out.eq]
          obtain ⟨a0, a1, a2, af0, af1, af2, al⟩ := HX.out.ba.later (Bl.refl W)
          try dsimp only at a0 a1 a2
          obtain ⟨b0, b1, b2, bf0, bf1, bf2, bl⟩ := HX.out.bb.later (Bl.refl W)
          try dsimp only at b0 b1 b2
          go_wp2_with fail
          refine (D.out _).mono ?_
          rintro e w1 ⟨rfl, h1⟩
          have H1 := hideP h1
          clear h1
          clear a0 a1 a2 af0 af1 af2 al b0 b1 b2 bf0 bf1 bf2 bl
          obtain ⟨a0, a1, a2, af0, af1, af2, al⟩ := HX.out.ba.later H1.out
          try dsimp only at a0 a1 a2
          obtain ⟨b0, b1, b2, bf0, bf1, bf2, bl⟩ := HX.out.bb.later H1.out
          try dsimp only at b0 b1 b2
          go_wp2_with fail
          obtain ⟨w2, Y2⟩ := oneA_ex w1 ⟨rn, rd, false⟩
          have e2 := Y2.eq
          try dsimp only at e2
          rw [← e2]
          have H2 := hideP Y2.bl
          have X2 := hideP Y2.ba
          clear Y2 e2
          clear a0 a1 a2 af0 af1 af2 al b0 b1 b2 bf0 bf1 bf2 bl
          obtain ⟨a0, a1, a2, af0, af1, af2, al⟩ := HX.out.ba.later (H1.out.trans H2.out)
          try dsimp only at a0 a1 a2
          obtain ⟨b0, b1, b2, bf0, bf1, bf2, bl⟩ := HX.out.bb.later (H1.out.trans H2.out)
          try dsimp only at b0 b1 b2
          obtain ⟨x0, x1, x2, xf0, xf1, xf2, xl⟩ := X2.out.later (Bl.refl w2)
          try dsimp only at x0 x1 x2
          go_wp2_with fail
          refine (FA.out _).mono ?_
          rintro e w3 ⟨rfl, h3⟩
          have H3 := hideP h3
          clear h3
          clear a0 a1 a2 af0 af1 af2 al b0 b1 b2 bf0 bf1 bf2 bl x0 x1 x2 xf0 xf1 xf2 xl
          obtain ⟨a0, a1, a2, af0, af1, af2, al⟩ := HX.out.ba.later ((H1.out.trans H2.out).trans H3.out)
          try dsimp only at a0 a1 a2
          obtain ⟨b0, b1, b2, bf0, bf1, bf2, bl⟩ := HX.out.bb.later ((H1.out.trans H2.out).trans H3.out)
          try dsimp only at b0 b1 b2
          obtain ⟨x0, x1, x2, xf0, xf1, xf2, xl⟩ := X2.out.later H3.out
          try dsimp only at x0 x1 x2
          go_wp2_with fail
          refine (FB.out _).mono ?_
          rintro e w4 ⟨rfl, h4⟩
          have H4 := hideP h4
          clear h4
          clear a0 a1 a2 af0 af1 af2 al b0 b1 b2 bf0 bf1 bf2 bl x0 x1 x2 xf0 xf1 xf2 xl
          obtain ⟨a0, a1, a2, af0, af1, af2, al⟩ := HX.out.ba.later (((H1.out.trans H2.out).trans H3.out).trans H4.out)
          try dsimp only at a0 a1 a2
          obtain ⟨b0, b1, b2, bf0, bf1, bf2, bl⟩ := HX.out.bb.later (((H1.out.trans H2.out).trans H3.out).trans H4.out)
          try dsimp only at b0 b1 b2
          obtain ⟨x0, x1, x2, xf0, xf1, xf2, xl⟩ := X2.out.later (H3.out.trans H4.out)
          try dsimp only at x0 x1 x2
          go_wp2_with fail
          clear a0 a1 a2 af0 af1 af2 al b0 b1 b2 bf0 bf1 bf2 bl x0 x1 x2 xf0 xf1 xf2 xl
          have wne := wl_ne w4
          obtain ⟨a0, a1, a2⟩ := (HX.out.ba.later (((H1.out.trans H2.out).trans H3.out).trans H4.out)).wl
          try dsimp only at a0 a1 a2
          obtain ⟨b0, b1, b2⟩ := (HX.out.bb.later (((H1.out.trans H2.out).trans H3.out).trans H4.out)).wl
          try dsimp only at b0 b1 b2
          refine wl_region w4 (Bl.refl _) (by kernel_rfl) (by kernel_rfl) ?_
          repeat (go_big_quiet_step (fail))
          refine wpQuiet_nil ?_
          intro _ hw'
          obtain ⟨z, hw''⟩ := hw'
          subst hw''
          clear wne
          obtain ⟨w5, h5⟩ := z
          dsimp only
          have H5 := hideP h5
          clear h5
          clear a0 a1 a2 b0 b1 b2
          obtain ⟨a0, a1, a2, af0, af1, af2, al⟩ := HX.out.ba.later ((((H1.out.trans H2.out).trans H3.out).trans H4.out).trans H5.out)
          try dsimp only at a0 a1 a2
          go_wp2_with fail
          refine (N.out _).mono ?_
          rintro e w6 ⟨rfl, h6⟩
          have H6 := hideP h6
          clear h6
          clear a0 a1 a2 af0 af1 af2 al
          obtain ⟨a0, a1, a2, af0, af1, af2, al⟩ := HX.out.ba.later (((((H1.out.trans H2.out).trans H3.out).trans H4.out).trans H5.out).trans H6.out)
          try dsimp only at a0 a1 a2
          obtain ⟨x0, x1, x2, xf0, xf1, xf2, xl⟩ := X2.out.later (((H3.out.trans H4.out).trans H5.out).trans H6.out)
          try dsimp only at x0 x1 x2
          go_wp2_with fail
          obtain ⟨w7, Y7⟩ := oneA_ex w6 ⟨-a.n, a.d, false⟩
          have e7 := Y7.eq
          try dsimp only at e7
          rw [← e7]
          have H7 := hideP Y7.bl
          have X7 := hideP Y7.ba
          clear Y7 e7
          clear a0 a1 a2 af0 af1 af2 al x0 x1 x2 xf0 xf1 xf2 xl
          go_wp2_with fail
          have wne := wl_ne w7
          obtain ⟨a0, a1, a2⟩ := (HX.out.ba.later ((((((H1.out.trans H2.out).trans H3.out).trans H4.out).trans H5.out).trans H6.out).trans H7.out)).wl
          try dsimp only at a0 a1 a2
          obtain ⟨x0, x1, x2⟩ := (X2.out.later ((((H3.out.trans H4.out).trans H5.out).trans H6.out).trans H7.out)).wl
          try dsimp only at x0 x1 x2
          obtain ⟨y0, y1, y2⟩ := (X7.out.later (Bl.refl w7)).wl
          try dsimp only at y0 y1 y2
          refine wl_region w7 (Bl.refl _) (by kernel_rfl) (by kernel_rfl) ?_
          repeat (go_big_quiet_step (first | (go_at_call 10; exact wl_call (NN.out _)) | (go_at_call 12; exact wl_call (AW.out _)) | (go_at_call 15; exact wl_call (SA.out _))))
          refine wpQuiet_nil ?_
          intro _ hw'
          obtain ⟨z, hw''⟩ := hw'
          subst hw''
          clear wne
          obtain ⟨w8, h8⟩ := z
          dsimp only
          have H8 := hideP h8
          clear h8
          clear a0 a1 a2 x0 x1 x2 y0 y1 y2
          go_wp2
          go_ret
          exact ⟨rfl, HX.out.bl.trans (((((((H1.out.trans H2.out).trans H3.out).trans H4.out).trans H5.out).trans H6.out).trans H7.out).trans H8.out)⟩
        · clear LS LF L LN hr ha hb m1 m2
          go_enter Try.func5, Try.ntmps5
          go_wp2_with fail
          rw [← HX.out.eq]
          obtain ⟨a0, a1, a2, af0, af1, af2, al⟩ := HX.out.ba.later (Bl.refl W)
          try dsimp only at a0 a1 a2
          obtain ⟨b0, b1, b2, bf0, bf1, bf2, bl⟩ := HX.out.bb.later (Bl.refl W)
          try dsimp only at b0 b1 b2
          go_wp2_with fail
          refine (D.out _).mono ?_
          rintro e w1 ⟨rfl, h1⟩
          have H1 := hideP h1
          clear h1
          clear a0 a1 a2 af0 af1 af2 al b0 b1 b2 bf0 bf1 bf2 bl
          obtain ⟨a0, a1, a2, af0, af1, af2, al⟩ := HX.out.ba.later H1.out
          try dsimp only at a0 a1 a2
          obtain ⟨b0, b1, b2, bf0, bf1, bf2, bl⟩ := HX.out.bb.later H1.out
          try dsimp only at b0 b1 b2
          go_wp2_with fail
          obtain ⟨w2, Y2⟩ := oneA_ex w1 ⟨rn, rd, true⟩
          have e2 := Y2.eq
          try dsimp only at e2
          rw [← e2]
          have H2 := hideP Y2.bl
          have X2 := hideP Y2.ba
          clear Y2 e2
          clear a0 a1 a2 af0 af1 af2 al b0 b1 b2 bf0 bf1 bf2 bl
          obtain ⟨a0, a1, a2, af0, af1, af2, al⟩ := HX.out.ba.later (H1.out.trans H2.out)
          try dsimp only at a0 a1 a2
          obtain ⟨b0, b1, b2, bf0, bf1, bf2, bl⟩ := HX.out.bb.later (H1.out.trans H2.out)
          try dsimp only at b0 b1 b2
          obtain ⟨x0, x1, x2, xf0, xf1, xf2, xl⟩ := X2.out.later (Bl.refl w2)
          try dsimp only at x0 x1 x2
          go_wp2_with fail
          refine (FA.out _).mono ?_
          rintro e w3 ⟨rfl, h3⟩
          have H3 := hideP h3
          clear h3
          clear a0 a1 a2 af0 af1 af2 al b0 b1 b2 bf0 bf1 bf2 bl x0 x1 x2 xf0 xf1 xf2 xl
          obtain ⟨a0, a1, a2, af0, af1, af2, al⟩ := HX.out.ba.later ((H1.out.trans H2.out).trans H3.out)
          try dsimp only at a0 a1 a2
          obtain ⟨b0, b1, b2, bf0, bf1, bf2, bl⟩ := HX.out.bb.later ((H1.out.trans H2.out).trans H3.out)
          try dsimp only at b0 b1 b2
          obtain ⟨x0, x1, x2, xf0, xf1, xf2, xl⟩ := X2.out.later H3.out
          try dsimp only at x0 x1 x2
          go_wp2_with fail
          refine (FB.out _).mono ?_
          rintro e w4 ⟨rfl, h4⟩
          have H4 := hideP h4
          clear h4
          clear a0 a1 a2 af0 af1 af2 al b0 b1 b2 bf0 bf1 bf2 bl x0 x1 x2 xf0 xf1 xf2 xl
          obtain ⟨a0, a1, a2, af0, af1, af2, al⟩ := HX.out.ba.later (((H1.out.trans H2.out).trans H3.out).trans H4.out)
          try dsimp only at a0 a1 a2
          obtain ⟨b0, b1, b2, bf0, bf1, bf2, bl⟩ := HX.out.bb.later (((H1.out.trans H2.out).trans H3.out).trans H4.out)
          try dsimp only at b0 b1 b2
          obtain ⟨x0, x1, x2, xf0, xf1, xf2, xl⟩ := X2.out.later (H3.out.trans H4.out)
          try dsimp only at x0 x1 x2
          go_wp2_with fail
          clear a0 a1 a2 af0 af1 af2 al b0 b1 b2 bf0 bf1 bf2 bl x0 x1 x2 xf0 xf1 xf2 xl
          have wne := wl_ne w4
          obtain ⟨a0, a1, a2⟩ := (HX.out.ba.later (((H1.out.trans H2.out).trans H3.out).trans H4.out)).wl
          try dsimp only at a0 a1 a2
          obtain ⟨b0, b1, b2⟩ := (HX.out.bb.later (((H1.out.trans H2.out).trans H3.out).trans H4.out)).wl
          try dsimp only at b0 b1 b2
          refine wl_region w4 (Bl.refl _) (by kernel_rfl) (by kernel_rfl) ?_
          repeat (go_big_quiet_step (fail))
          refine wpQuiet_nil ?_
          intro _ hw'
          obtain ⟨z, hw''⟩ := hw'
          subst hw''
          clear wne
          obtain ⟨w5, h5⟩ := z
          dsimp only
          have H5 := hideP h5
          clear h5
          clear a0 a1 a2 b0 b1 b2
          obtain ⟨a0, a1, a2, af0, af1, af2, al⟩ := HX.out.ba.later ((((H1.out.trans H2.out).trans H3.out).trans H4.out).trans H5.out)
          try dsimp only at a0 a1 a2
          go_wp2_with fail
          refine (N.out _).mono ?_
          rintro e w6 ⟨rfl, h6⟩
          have H6 := hideP h6
          clear h6
          clear a0 a1 a2 af0 af1 af2 al
          obtain ⟨a0, a1, a2, af0, af1, af2, al⟩ := HX.out.ba.later (((((H1.out.trans H2.out).trans H3.out).trans H4.out).trans H5.out).trans H6.out)
          try dsimp only at a0 a1 a2
          obtain ⟨x0, x1, x2, xf0, xf1, xf2, xl⟩ := X2.out.later (((H3.out.trans H4.out).trans H5.out).trans H6.out)
          try dsimp only at x0 x1 x2
          go_wp2_with fail
          obtain ⟨w7, Y7⟩ := oneA_ex w6 ⟨-a.n, a.d, false⟩
          have e7 := Y7.eq
          try dsimp only at e7
          rw [← e7]
          have H7 := hideP Y7.bl
          have X7 := hideP Y7.ba
          clear Y7 e7
          clear a0 a1 a2 af0 af1 af2 al x0 x1 x2 xf0 xf1 xf2 xl
          go_wp2_with fail
          have wne := wl_ne w7
          obtain ⟨a0, a1, a2⟩ := (HX.out.ba.later ((((((H1.out.trans H2.out).trans H3.out).trans H4.out).trans H5.out).trans H6.out).trans H7.out)).wl
          try dsimp only at a0 a1 a2
          obtain ⟨x0, x1, x2⟩ := (X2.out.later ((((H3.out.trans H4.out).trans H5.out).trans H6.out).trans H7.out)).wl
          try dsimp only at x0 x1 x2
          obtain ⟨y0, y1, y2⟩ := (X7.out.later (Bl.refl w7)).wl
          try dsimp only at y0 y1 y2
          refine wl_region w7 (Bl.refl _) (by kernel_rfl) (by kernel_rfl) ?_
          repeat (go_big_quiet_step (first | (go_at_call 10; exact wl_call (NN.out _)) | (go_at_call 12; exact wl_call (AW.out _))))
          refine wpQuiet_nil ?_
          intro _ hw'
          obtain ⟨z, hw''⟩ := hw'
          subst hw''
          clear wne
          obtain ⟨w8, h8⟩ := z
          dsimp only
          have H8 := hideP h8
          clear h8
          clear a0 a1 a2 x0 x1 x2 y0 y1 y2
          go_wp2
          go_ret
          exact ⟨rfl, HX.out.bl.trans (((((((H1.out.trans H2.out).trans H3.out).trans H4.out).trans H5.out).trans H6.out).trans H7.out).trans H8.out)⟩
end Go.Proofs.Ytoibkkiohpnaaaa
