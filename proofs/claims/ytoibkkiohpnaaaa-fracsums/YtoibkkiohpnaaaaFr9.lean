/- The walk of FracBad. -/
import Derived.Test.YtoibkkiohpnaaaaFr8
namespace Go.Proofs.Ytoibkkiohpnaaaa
open Go.RowKit
set_option linter.unusedSimpArgs false
set_option linter.unusedVariables false

/-- The world behind the boxes of two fractions. -/
structure AbR (w W : World) (a b : Fr) : Prop where
  eq : W = (w.alloc (.cells #[.int .i64 a.n, .int .i64 a.d, .bool a.bad] 23)).alloc (.cells #[.int .i64 b.n, .int .i64 b.d, .bool b.bad] 23)
  bl : Bl w W
  ba : FBox W w.heap.size a
  bb : FBox W (w.heap.size + 1) b
  size : W.heap.size = w.heap.size + 1 + 1
theorem abR_ex (w : World) (a b : Fr) : ∃ W, AbR w W a b := by
  refine ⟨_, rfl, ((Bl.refl _).alloc _).alloc _, (FBox.new w a 23).later ((Bl.refl _).alloc _), ?_, by simp⟩
  have := FBox.new (w.alloc (.cells #[.int .i64 a.n, .int .i64 a.d, .bool a.bad] 23)) b 23
  simpa using this
/-- The Bad one, as a value. -/
abbrev wrV : Value := .agg #[.int .i64 0, .int .i64 0, .bool true]
theorem wr_of {f : FuncId} {args : Array Value} {w : World} {r : Fr} (h : Calls Try.prog f args w fun e w' => e = .returned (frV r) ∧ Bl w w') (hr : r = wrongR) : Calls Try.prog f args w fun e w' => e = .returned wrV ∧ Bl w w' := by
  subst hr; exact h
theorem bad_addL {a b : Fr} (h : fineR a = false) : addR a b = wrongR := by unfold addR; rw [h]; rfl
theorem bad_addR {a b : Fr} (h : fineR a = false) : addR b a = wrongR := by unfold addR; rw [h, Bool.and_false]; rfl
theorem bad_subL {a b : Fr} (h : fineR a = false) : subR a b = wrongR := by unfold subR; rw [h]; rfl
theorem bad_subR {a b : Fr} (h : fineR a = false) : subR b a = wrongR := by unfold subR; rw [h, Bool.and_false]; rfl
theorem bad_mulL {a b : Fr} (h : fineR a = false) : mulR a b = wrongR := by unfold mulR; rw [h]; rfl
theorem bad_mulR {a b : Fr} (h : fineR a = false) : mulR b a = wrongR := by unfold mulR; rw [h, Bool.and_false]; rfl
theorem bad_divL {a b : Fr} (h : fineR a = false) : divR a b = wrongR := by unfold divR; rw [h]; rfl
theorem bad_divR {a b : Fr} (h : fineR a = false) : divR b a = wrongR := by unfold divR; rw [h, Bool.and_false]; rfl
theorem bad_rootL {a : Fr} (h : fineR a = false) : rootR a = wrongR := by unfold rootR; rw [h]; rfl
theorem bad_negL {a : Fr} (h : fineR a = false) : negR a = wrongR := bad_subR h
theorem bad_signL {a : Fr} (h : fineR a = false) : signR a = 0 := by unfold signR; rw [h]; rfl
theorem wrV_any (w : World) : Calls Try.prog 11 #[] w fun e w' => e = .returned wrV ∧ Bl w w' := wrongR_any w
theorem eql_wr (w : World) : (binOp .eql 23 wrV wrV).run Try.prog w = .ok (.bool true) w := eql_fr wrongR wrongR w
theorem field_wr (w : World) : (Instr.field 23 wrV 2).run Try.prog w = .ok (.bool true) w := field_badR _ _ _ w

set_option maxHeartbeats 1000000 in
theorem walk_FracBad (a b : Fr) (w : World) :
    Calls Try.prog 9 #[frV a, frV b] w fun e w' => e = .returned (.bool true) ∧ Bl w w' := by
  obtain ⟨W, X⟩ := abR_ex w a b
  have HX := hideP X
  clear X
  have F := hideP (fineR_any a)
  have AW := hideP awake4_any
  have WR := hideP wrV_any
  have EG := Try.frGuard
  have EQ := eql_wr
  have fb := field_wr
  cases hf : fineR a
  · rw [hf] at F
    have A1 := hideP (fun w => wr_of (radd_any a b w) (bad_addL hf))
    have A2 := hideP (fun w => wr_of (radd_any b a w) (bad_addR hf))
    have S1 := hideP (fun w => wr_of (rsub_any a b w) (bad_subL hf))
    have S2 := hideP (fun w => wr_of (rsub_any b a w) (bad_subR hf))
    have M := hideP (fun w => wr_of (rmul_any a b w) (bad_mulL hf))
    have D := hideP (fun w => wr_of (rdiv_any b a w) (bad_divR hf))
    have R := hideP (fun w => wr_of (rroot_any a w) (bad_rootL hf))
    have N := hideP (fun w => wr_of (rneg_any a w) (bad_negL hf))
    have S0 := rsign_any a
    rw [bad_signL hf] at S0
    have S := hideP S0
    clear S0 hf
    go_enter Try.func9, Try.ntmps9
    go_wp2_with fail
    rw [← HX.out.eq]
    obtain ⟨a0, a1, a2, af0, af1, af2, al⟩ := HX.out.ba.later (Bl.refl W)
    try dsimp only at a0 a1 a2
    go_wp2_with fail
    refine (F.out _).mono ?_
    rintro e w1 ⟨rfl, h1⟩
    have H1 := hideP h1
    clear h1
    clear a0 a1 a2 af0 af1 af2 al
    obtain ⟨a0, a1, a2, af0, af1, af2, al⟩ := HX.out.ba.later H1.out
    try dsimp only at a0 a1 a2
    obtain ⟨b0, b1, b2, bf0, bf1, bf2, bl⟩ := HX.out.bb.later H1.out
    try dsimp only at b0 b1 b2
    go_wp2_with fail
    refine (A1.out _).mono ?_
    rintro e w2 ⟨rfl, h2⟩
    have H2 := hideP h2
    clear h2
    clear a0 a1 a2 af0 af1 af2 al b0 b1 b2 bf0 bf1 bf2 bl
    go_wp2_with fail
    refine (WR.out _).mono ?_
    rintro e w3 ⟨rfl, h3⟩
    have H3 := hideP h3
    clear h3
    obtain ⟨a0, a1, a2, af0, af1, af2, al⟩ := HX.out.ba.later ((H1.out.trans H2.out).trans H3.out)
    try dsimp only at a0 a1 a2
    obtain ⟨b0, b1, b2, bf0, bf1, bf2, bl⟩ := HX.out.bb.later ((H1.out.trans H2.out).trans H3.out)
    try dsimp only at b0 b1 b2
    go_wp2_with fail
    refine (A2.out _).mono ?_
    rintro e w4 ⟨rfl, h4⟩
    have H4 := hideP h4
    clear h4
    clear a0 a1 a2 af0 af1 af2 al b0 b1 b2 bf0 bf1 bf2 bl
    go_wp2_with fail
    refine (WR.out _).mono ?_
    rintro e w5 ⟨rfl, h5⟩
    have H5 := hideP h5
    clear h5
    obtain ⟨a0, a1, a2, af0, af1, af2, al⟩ := HX.out.ba.later ((((H1.out.trans H2.out).trans H3.out).trans H4.out).trans H5.out)
    try dsimp only at a0 a1 a2
    obtain ⟨b0, b1, b2, bf0, bf1, bf2, bl⟩ := HX.out.bb.later ((((H1.out.trans H2.out).trans H3.out).trans H4.out).trans H5.out)
    try dsimp only at b0 b1 b2
    go_wp2_with fail
    refine (S1.out _).mono ?_
    rintro e w6 ⟨rfl, h6⟩
    have H6 := hideP h6
    clear h6
    clear a0 a1 a2 af0 af1 af2 al b0 b1 b2 bf0 bf1 bf2 bl
    obtain ⟨a0, a1, a2, af0, af1, af2, al⟩ := HX.out.ba.later (((((H1.out.trans H2.out).trans H3.out).trans H4.out).trans H5.out).trans H6.out)
    try dsimp only at a0 a1 a2
    obtain ⟨b0, b1, b2, bf0, bf1, bf2, bl⟩ := HX.out.bb.later (((((H1.out.trans H2.out).trans H3.out).trans H4.out).trans H5.out).trans H6.out)
    try dsimp only at b0 b1 b2
    go_wp2_with fail
    refine (S2.out _).mono ?_
    rintro e w7 ⟨rfl, h7⟩
    have H7 := hideP h7
    clear h7
    clear a0 a1 a2 af0 af1 af2 al b0 b1 b2 bf0 bf1 bf2 bl
    obtain ⟨a0, a1, a2, af0, af1, af2, al⟩ := HX.out.ba.later ((((((H1.out.trans H2.out).trans H3.out).trans H4.out).trans H5.out).trans H6.out).trans H7.out)
    try dsimp only at a0 a1 a2
    obtain ⟨b0, b1, b2, bf0, bf1, bf2, bl⟩ := HX.out.bb.later ((((((H1.out.trans H2.out).trans H3.out).trans H4.out).trans H5.out).trans H6.out).trans H7.out)
    try dsimp only at b0 b1 b2
    go_wp2_with fail
    refine (M.out _).mono ?_
    rintro e w8 ⟨rfl, h8⟩
    have H8 := hideP h8
    clear h8
    clear a0 a1 a2 af0 af1 af2 al b0 b1 b2 bf0 bf1 bf2 bl
    obtain ⟨a0, a1, a2, af0, af1, af2, al⟩ := HX.out.ba.later (((((((H1.out.trans H2.out).trans H3.out).trans H4.out).trans H5.out).trans H6.out).trans H7.out).trans H8.out)
    try dsimp only at a0 a1 a2
    obtain ⟨b0, b1, b2, bf0, bf1, bf2, bl⟩ := HX.out.bb.later (((((((H1.out.trans H2.out).trans H3.out).trans H4.out).trans H5.out).trans H6.out).trans H7.out).trans H8.out)
    try dsimp only at b0 b1 b2
    go_wp2_with fail
    refine (D.out _).mono ?_
    rintro e w9 ⟨rfl, h9⟩
    have H9 := hideP h9
    clear h9
    clear a0 a1 a2 af0 af1 af2 al b0 b1 b2 bf0 bf1 bf2 bl
    obtain ⟨a0, a1, a2, af0, af1, af2, al⟩ := HX.out.ba.later ((((((((H1.out.trans H2.out).trans H3.out).trans H4.out).trans H5.out).trans H6.out).trans H7.out).trans H8.out).trans H9.out)
    try dsimp only at a0 a1 a2
    go_wp2_with fail
    refine (R.out _).mono ?_
    rintro e w10 ⟨rfl, h10⟩
    have H10 := hideP h10
    clear h10
    clear a0 a1 a2 af0 af1 af2 al
    obtain ⟨a0, a1, a2, af0, af1, af2, al⟩ := HX.out.ba.later (((((((((H1.out.trans H2.out).trans H3.out).trans H4.out).trans H5.out).trans H6.out).trans H7.out).trans H8.out).trans H9.out).trans H10.out)
    try dsimp only at a0 a1 a2
    go_wp2_with fail
    refine (N.out _).mono ?_
    rintro e w11 ⟨rfl, h11⟩
    have H11 := hideP h11
    clear h11
    clear a0 a1 a2 af0 af1 af2 al
    obtain ⟨a0, a1, a2, af0, af1, af2, al⟩ := HX.out.ba.later ((((((((((H1.out.trans H2.out).trans H3.out).trans H4.out).trans H5.out).trans H6.out).trans H7.out).trans H8.out).trans H9.out).trans H10.out).trans H11.out)
    try dsimp only at a0 a1 a2
    go_wp2_with fail
    refine (S.out _).mono ?_
    rintro e w12 ⟨rfl, h12⟩
    have H12 := hideP h12
    clear h12
    clear a0 a1 a2 af0 af1 af2 al
    go_wp2_with fail
    refine (AW.out _).mono ?_
    rintro e w13 ⟨rfl, h13⟩
    have H13 := hideP h13
    clear h13
    go_wp2
    go_ret
    exact ⟨rfl, HX.out.bl.trans ((((((((((((H1.out.trans H2.out).trans H3.out).trans H4.out).trans H5.out).trans H6.out).trans H7.out).trans H8.out).trans H9.out).trans H10.out).trans H11.out).trans H12.out).trans H13.out)⟩
  · rw [hf] at F
    clear hf
    go_enter Try.func9, Try.ntmps9
    go_wp2_with fail
    rw [← HX.out.eq]
    obtain ⟨a0, a1, a2, af0, af1, af2, al⟩ := HX.out.ba.later (Bl.refl W)
    try dsimp only at a0 a1 a2
    go_wp2_with fail
    refine (F.out _).mono ?_
    rintro e w1 ⟨rfl, h1⟩
    have H1 := hideP h1
    clear h1
    clear a0 a1 a2 af0 af1 af2 al
    go_wp2_with fail
    refine (AW.out _).mono ?_
    rintro e w2 ⟨rfl, h2⟩
    have H2 := hideP h2
    clear h2
    go_wp2
    go_ret
    exact ⟨rfl, HX.out.bl.trans (H1.out.trans H2.out)⟩
end Go.Proofs.Ytoibkkiohpnaaaa
