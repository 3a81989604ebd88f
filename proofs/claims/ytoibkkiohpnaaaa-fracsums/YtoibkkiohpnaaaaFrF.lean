/- The walk of FracRules. -/
import Derived.Test.YtoibkkiohpnaaaaFr8
import Derived.Test.YtoibkkiohpnaaaaFrE
namespace Go.Proofs.Ytoibkkiohpnaaaa
open Go.RowKit
set_option linter.unusedSimpArgs false
set_option linter.unusedVariables false

/-- The world behind the boxes of three fractions. -/
structure AbcR (w W : World) (a b c : Fr) : Prop where
  eq : W = ((w.alloc (.cells #[.int .i64 a.n, .int .i64 a.d, .bool a.bad] 23)).alloc (.cells #[.int .i64 b.n, .int .i64 b.d, .bool b.bad] 23)).alloc (.cells #[.int .i64 c.n, .int .i64 c.d, .bool c.bad] 23)
  bl : Bl w W
  ba : FBox W w.heap.size a
  bb : FBox W (w.heap.size + 1) b
  bc : FBox W (w.heap.size + 1 + 1) c
theorem abcR_ex (w : World) (a b c : Fr) : ∃ W, AbcR w W a b c := by
  refine ⟨_, rfl, (((Bl.refl _).alloc _).alloc _).alloc _, (FBox.new w a 23).later (((Bl.refl _).alloc _).alloc _), ?_, ?_⟩
  · have := (FBox.new (w.alloc (.cells #[.int .i64 a.n, .int .i64 a.d, .bool a.bad] 23)) b 23).later ((Bl.refl _).alloc (.cells #[.int .i64 c.n, .int .i64 c.d, .bool c.bad] 23))
    simpa using this
  · have := FBox.new ((w.alloc (.cells #[.int .i64 a.n, .int .i64 a.d, .bool a.bad] 23)).alloc (.cells #[.int .i64 b.n, .int .i64 b.d, .bool b.bad] 23)) c 23
    simpa using this
def sel3 (a b c : Fr) : Nat → Fr
  | 0 => a
  | 1 => b
  | _ => c
theorem idx3 (a b c : Fr) (k : Nat) (hk : k < 3) (w : World) :
    (Instr.index 38 (.agg #[.int .i64 a.n, .int .i64 a.d, .bool a.bad, .int .i64 b.n, .int .i64 b.d, .bool b.bad, .int .i64 c.n, .int .i64 c.d, .bool c.bad]) (.int .i64 k)).run Try.prog w = .ok (frV (sel3 a b c k)) w := by
  rcases (by omega : k = 0 ∨ k = 1 ∨ k = 2) with rfl | rfl | rfl <;> kernel_rfl
theorem neq_selfR (r : Fr) (w : World) : (binOp .neq 23 (frV r) (frV r)).run Try.prog w = .ok (.bool false) w := neq_self _ _ _ w
theorem eql_selfR (r : Fr) (w : World) : (binOp .eql 23 (frV r) (frV r)).run Try.prog w = .ok (.bool true) w := eql_self _ _ _ w
theorem sm128 {a : Fr} (h : fineR a = true) (h1 : ¬ a.n < -128) (h2 : ¬ 128 < a.n) (h3 : ¬ 128 < a.d) : Sm 128 128 a := ⟨h, by omega, by omega, by omega, (fineR_iff.1 h).2.1⟩
/-- What hangs on no order, and what is undone. -/
structure Rules (a b c ab mab bc abc mbc mabc y mac na : Fr) : Prop where
  h1 : addR a b = ab
  h2 : addR b a = ab
  h3 : mulR a b = mab
  h4 : mulR b a = mab
  h5 : addR ab c = abc
  h6 : addR b c = bc
  h7 : addR a bc = abc
  h8 : mulR mab c = mabc
  h9 : mulR b c = mbc
  h10 : mulR a mbc = mabc
  h11 : subR ab b = a
  h12 : b.n ≠ 0 → divR mab b = a
  h13 : mulR a bc = y
  h14 : mulR a c = mac
  h15 : addR mab mac = y
  h16 : negR a = na
  h17 : negR na = a
theorem rules_all {a b c : Fr} (x : Sm 128 128 a) (y : Sm 128 128 b) (z : Sm 128 128 c) : ∃ ab mab bc abc mbc mabc r mac na, Rules a b c ab mab bc abc mbc mabc r mac na := by
  obtain ⟨s1, q1⟩ := sm_add x y (by decide) (by decide)
  obtain ⟨s2, q2⟩ := sm_add y x (by decide) (by decide)
  obtain ⟨s3, q3⟩ := sm_mul x y (by decide) (by decide)
  obtain ⟨s4, q4⟩ := sm_mul y x (by decide) (by decide)
  obtain ⟨s5, q5⟩ := sm_add s1 z (by decide) (by decide)
  obtain ⟨s6, q6⟩ := sm_add y z (by decide) (by decide)
  obtain ⟨s7, q7⟩ := sm_add x s6 (by decide) (by decide)
  obtain ⟨s8, q8⟩ := sm_mul s3 z (by decide) (by decide)
  obtain ⟨s9, q9⟩ := sm_mul y z (by decide) (by decide)
  obtain ⟨s10, q10⟩ := sm_mul x s9 (by decide) (by decide)
  obtain ⟨s11, q11⟩ := sm_sub s1 y (by decide) (by decide)
  obtain ⟨s13, q13⟩ := sm_mul x s6 (by decide) (by decide)
  obtain ⟨s14, q14⟩ := sm_mul x z (by decide) (by decide)
  obtain ⟨s15, q15⟩ := sm_add s3 s14 (by decide) (by decide)
  refine ⟨_, _, _, _, _, _, _, _, _, ⟨rfl, ?_, rfl, ?_, rfl, rfl, ?_, rfl, rfl, ?_, ?_, ?_, rfl, rfl, ?_, rfl, ?_⟩⟩
  · exact toQ_inj s2.fine s1.fine (by rw [q2, q1, Rat.add_comm])
  · exact toQ_inj s4.fine s3.fine (by rw [q4, q3, Rat.mul_comm])
  · exact toQ_inj s7.fine s5.fine (by rw [q7, q5, q6, q1, Rat.add_assoc])
  · exact toQ_inj s10.fine s8.fine (by rw [q10, q8, q9, q3, Rat.mul_assoc])
  · exact toQ_inj s11.fine x.fine (by rw [q11, q1, Rat.add_sub_cancel])
  · intro h0
    exact toQ_div s3.fine y.fine h0 (toQ a) q3 a x.fine rfl
  · exact toQ_inj s15.fine s13.fine (by rw [q15, q13, q3, q14, q6, Rat.mul_add])
  · rw [negR_fine x.fine, negR_fine (fine_neg x.fine)]
    exact Fr.ext' (by simp) rfl (fineR_iff.1 x.fine).1.symm

set_option maxHeartbeats 4000000 in
theorem walk_FracRules (a b c : Fr) (w : World) :
    Calls Try.prog 7 #[frV a, frV b, frV c] w fun e w' => e = .returned (.bool true) ∧ Bl w w' := by
  obtain ⟨W, X⟩ := abcR_ex w a b c
  have HX := hideP X
  clear X
  have AW := hideP awake4_any
  have EG := Try.frGuard
  go_enter Try.func7, Try.ntmps7
  go_wp2_with fail
  rw [← HX.out.eq]
  obtain ⟨a0, a1, a2, _, _, _, _⟩ := HX.out.ba
  obtain ⟨b0, b1, b2, _, _, _, _⟩ := HX.out.bb
  obtain ⟨c0, c1, c2, _, _, _, _⟩ := HX.out.bc
  go_wp2_with fail
  clear a0 a1 a2 b0 b1 b2 c0 c1 c2
  go_loopw [13] (fun i wr => ∃ k : Nat, k ≤ 3 ∧ i = .int .i64 k ∧ Bl W wr ∧ ∀ j, j < k → Sm 128 128 (sel3 a b c j)) (fun i _ => 3 - (intOf i).toNat)
  case atStart => exact ⟨0, by omega, rfl, Bl.refl _, fun j h => by omega⟩
  case round =>
    obtain ⟨k, hk, rfl, hr, hs⟩ := hrel
    have HR := hideP hr
    have HS := hideP hs
    clear hr hs
    by_cases hlt : k < 3
    · have ix := idx3 a b c k hlt
      have HS2 : Hid (Sm 128 128 (sel3 a b c k) → ∀ j, j < k + 1 → Sm 128 128 (sel3 a b c j)) := hideP (fun h j hj => by
        rcases (by omega : j < k ∨ j = k) with h' | rfl
        · exact HS.out j h'
        · exact h)
      clear HS
      generalize sel3 a b c k = x at *
      have F := hideP (fineL_any x)
      have cs : (fineR x = false ∨ (fineR x = true ∧ x.n < -128) ∨ (fineR x = true ∧ ¬ x.n < -128 ∧ 128 < x.n) ∨ (fineR x = true ∧ ¬ x.n < -128 ∧ ¬ 128 < x.n ∧ 128 < x.d)) ∨ (fineR x = true ∧ ¬ x.n < -128 ∧ ¬ 128 < x.n ∧ ¬ 128 < x.d) := by
        cases fineR x
        · exact .inl (.inl rfl)
        · rcases (by omega : x.n < -128 ∨ (¬ x.n < -128 ∧ 128 < x.n) ∨ (¬ x.n < -128 ∧ ¬ 128 < x.n ∧ 128 < x.d) ∨ (¬ x.n < -128 ∧ ¬ 128 < x.n ∧ ¬ 128 < x.d)) with h | h | h | h
          · exact .inl (.inr (.inl ⟨rfl, h⟩))
          · exact .inl (.inr (.inr (.inl ⟨rfl, h⟩)))
          · exact .inl (.inr (.inr (.inr ⟨rfl, h⟩)))
          · exact .inr ⟨rfl, h⟩
      rcases cs with cs | ⟨hf, k1, k2, k3⟩
      · rcases cs with hf | ⟨hf, k1⟩ | ⟨hf, k1, k2⟩ | ⟨hf, k1, k2, k3⟩
        all_goals
          rw [hf] at F
          clear hf
          go_wp2_with fail
          obtain ⟨V, Y⟩ := oneA_ex wr x
          rw [← Y.eq]
          have HY := hideP Y
          clear Y
          refine (F.out _).mono ?_
          rintro e w1 ⟨rfl, h1⟩
          obtain ⟨x0, x1, x2, _, _, _, _⟩ := HY.out.ba.later h1
          go_wp2_with fail
          refine (AW.out _).mono ?_
          rintro e w2 ⟨rfl, h2⟩
          clear x0 x1 x2
          go_wp2
          go_ret
          exact ⟨rfl, HX.out.bl.trans (HR.out.trans (HY.out.bl.trans (h1.trans h2)))⟩
      · have SX := hideP (HS2.out (sm128 hf k1 k2 k3))
        rw [hf] at F
        clear hf HS2
        go_wp2_with fail
        obtain ⟨V, Y⟩ := oneA_ex wr x
        rw [← Y.eq]
        have HY := hideP Y
        clear Y
        refine (F.out _).mono ?_
        rintro e w1 ⟨rfl, h1⟩
        obtain ⟨x0, x1, x2, _, _, _, _⟩ := HY.out.ba.later h1
        go_wp2
        go_roundw
        case rel => exact ⟨k + 1, by omega, by go_num, HR.out.trans (HY.out.bl.trans h1), SX.out⟩
        case measure => simp [intOf]; omega
    · obtain rfl : k = 3 := by omega
      obtain ⟨ab, mab, bc, abc, mbc, mabc, y, mac, na, RU⟩ := rules_all (a := a) (b := b) (c := c) (HS.out 0 (by omega)) (HS.out 1 (by omega)) (HS.out 2 (by omega))
      clear HS
      have T1 := radd_any a b
      rw [RU.h1] at T1
      have HT1 := hideP T1
      clear T1
      have T2 := radd_any b a
      rw [RU.h2] at T2
      have HT2 := hideP T2
      clear T2
      have T3 := rmul_any a b
      rw [RU.h3] at T3
      have HT3 := hideP T3
      clear T3
      have T4 := rmul_any b a
      rw [RU.h4] at T4
      have HT4 := hideP T4
      clear T4
      have T5 := radd_any ab c
      rw [RU.h5] at T5
      have HT5 := hideP T5
      clear T5
      have T6 := radd_any b c
      rw [RU.h6] at T6
      have HT6 := hideP T6
      clear T6
      have T7 := radd_any a bc
      rw [RU.h7] at T7
      have HT7 := hideP T7
      clear T7
      have T8 := rmul_any mab c
      rw [RU.h8] at T8
      have HT8 := hideP T8
      clear T8
      have T9 := rmul_any b c
      rw [RU.h9] at T9
      have HT9 := hideP T9
      clear T9
      have T10 := rmul_any a mbc
      rw [RU.h10] at T10
      have HT10 := hideP T10
      clear T10
      have T11 := rsub_any ab b
      rw [RU.h11] at T11
      have HT11 := hideP T11
      clear T11
      have T13 := rmul_any a bc
      rw [RU.h13] at T13
      have HT13 := hideP T13
      clear T13
      have T14 := rmul_any a c
      rw [RU.h14] at T14
      have HT14 := hideP T14
      clear T14
      have T15 := radd_any mab mac
      rw [RU.h15] at T15
      have HT15 := hideP T15
      clear T15
      have T16 := rneg_any a
      rw [RU.h16] at T16
      have HT16 := hideP T16
      clear T16
      have T17 := rneg_any na
      rw [RU.h17] at T17
      have HT17 := hideP T17
      clear T17
      have NA := neq_selfR a
      have EA := eql_selfR a
      have EY := eql_selfR y
      have Nab := neq_selfR ab
      have Nmab := neq_selfR mab
      have Nabc := neq_selfR abc
      have Nmabc := neq_selfR mabc
      have D12 := RU.h12
      clear RU
      have H1 := HR
      by_cases h0 : b.n = 0
      · have hb0 : (b.n == 0) = true := by simpa using h0
        clear h0 D12
        go_wp2_with fail
        have wne := wl_ne wr
        obtain ⟨a0, a1, a2⟩ := (HX.out.ba.later H1.out).wl
        try dsimp only at a0 a1 a2
        obtain ⟨b0, b1, b2⟩ := (HX.out.bb.later H1.out).wl
        try dsimp only at b0 b1 b2
        obtain ⟨c0, c1, c2⟩ := (HX.out.bc.later H1.out).wl
        try dsimp only at c0 c1 c2
        refine wl_region wr (Bl.refl _) (by kernel_rfl) (by kernel_rfl) ?_
        repeat (go_big_quiet_step (first | ((go_at_call_of 17 #[Value.agg #[.int .i64 a.n, .int .i64 a.d, .bool a.bad], Value.agg #[.int .i64 b.n, .int .i64 b.d, .bool b.bad]]); exact wl_call (HT1.out _)) | ((go_at_call_of 17 #[Value.agg #[.int .i64 b.n, .int .i64 b.d, .bool b.bad], Value.agg #[.int .i64 a.n, .int .i64 a.d, .bool a.bad]]); exact wl_call (HT2.out _)) | ((go_at_call_of 19 #[Value.agg #[.int .i64 a.n, .int .i64 a.d, .bool a.bad], Value.agg #[.int .i64 b.n, .int .i64 b.d, .bool b.bad]]); exact wl_call (HT3.out _)) | ((go_at_call_of 19 #[Value.agg #[.int .i64 b.n, .int .i64 b.d, .bool b.bad], Value.agg #[.int .i64 a.n, .int .i64 a.d, .bool a.bad]]); exact wl_call (HT4.out _)) | ((go_at_call_of 17 #[frV ab, Value.agg #[.int .i64 c.n, .int .i64 c.d, .bool c.bad]]); exact wl_call (HT5.out _)) | ((go_at_call_of 17 #[Value.agg #[.int .i64 b.n, .int .i64 b.d, .bool b.bad], Value.agg #[.int .i64 c.n, .int .i64 c.d, .bool c.bad]]); exact wl_call (HT6.out _)) | ((go_at_call_of 17 #[Value.agg #[.int .i64 a.n, .int .i64 a.d, .bool a.bad], frV bc]); exact wl_call (HT7.out _)) | ((go_at_call_of 19 #[frV mab, Value.agg #[.int .i64 c.n, .int .i64 c.d, .bool c.bad]]); exact wl_call (HT8.out _)) | ((go_at_call_of 19 #[Value.agg #[.int .i64 b.n, .int .i64 b.d, .bool b.bad], Value.agg #[.int .i64 c.n, .int .i64 c.d, .bool c.bad]]); exact wl_call (HT9.out _)) | ((go_at_call_of 19 #[Value.agg #[.int .i64 a.n, .int .i64 a.d, .bool a.bad], frV mbc]); exact wl_call (HT10.out _)) | ((go_at_call_of 18 #[frV ab, Value.agg #[.int .i64 b.n, .int .i64 b.d, .bool b.bad]]); exact wl_call (HT11.out _))))
        refine wpQuiet_nil ?_
        intro _ hw'
        obtain ⟨z, hw''⟩ := hw'
        subst hw''
        clear wne
        obtain ⟨w2, h2⟩ := z
        dsimp only
        have H2 := hideP h2
        clear h2
        clear a0 a1 a2 b0 b1 b2 c0 c1 c2
        obtain ⟨a0, a1, a2, af0, af1, af2, al⟩ := HX.out.ba.later (H1.out.trans H2.out)
        try dsimp only at a0 a1 a2
        obtain ⟨b0, b1, b2, bf0, bf1, bf2, bl⟩ := HX.out.bb.later (H1.out.trans H2.out)
        try dsimp only at b0 b1 b2
        obtain ⟨c0, c1, c2, cf0, cf1, cf2, cl⟩ := HX.out.bc.later (H1.out.trans H2.out)
        try dsimp only at c0 c1 c2
        go_wp2_with fail
        clear a0 a1 a2 af0 af1 af2 al b0 b1 b2 bf0 bf1 bf2 bl c0 c1 c2 cf0 cf1 cf2 cl
        have wne := wl_ne w2
        obtain ⟨a0, a1, a2⟩ := (HX.out.ba.later (H1.out.trans H2.out)).wl
        try dsimp only at a0 a1 a2
        obtain ⟨b0, b1, b2⟩ := (HX.out.bb.later (H1.out.trans H2.out)).wl
        try dsimp only at b0 b1 b2
        obtain ⟨c0, c1, c2⟩ := (HX.out.bc.later (H1.out.trans H2.out)).wl
        try dsimp only at c0 c1 c2
        refine wl_region w2 (Bl.refl _) (by kernel_rfl) (by kernel_rfl) ?_
        repeat (go_big_quiet_step (first | ((go_at_call_of 19 #[Value.agg #[.int .i64 a.n, .int .i64 a.d, .bool a.bad], Value.agg #[.int .i64 b.n, .int .i64 b.d, .bool b.bad]]); exact wl_call (HT3.out _)) | ((go_at_call_of 17 #[Value.agg #[.int .i64 b.n, .int .i64 b.d, .bool b.bad], Value.agg #[.int .i64 c.n, .int .i64 c.d, .bool c.bad]]); exact wl_call (HT6.out _)) | ((go_at_call_of 19 #[Value.agg #[.int .i64 a.n, .int .i64 a.d, .bool a.bad], frV bc]); exact wl_call (HT13.out _)) | ((go_at_call_of 19 #[Value.agg #[.int .i64 a.n, .int .i64 a.d, .bool a.bad], Value.agg #[.int .i64 c.n, .int .i64 c.d, .bool c.bad]]); exact wl_call (HT14.out _)) | ((go_at_call_of 17 #[frV mab, frV mac]); exact wl_call (HT15.out _)) | ((go_at_call_of 22 #[Value.agg #[.int .i64 a.n, .int .i64 a.d, .bool a.bad]]); exact wl_call (HT16.out _)) | ((go_at_call_of 22 #[frV na]); exact wl_call (HT17.out _)) | ((go_at_call 12); exact wl_call (AW.out _))))
        refine wpQuiet_nil ?_
        intro _ hw'
        obtain ⟨z, hw''⟩ := hw'
        subst hw''
        clear wne
        obtain ⟨w3, h3⟩ := z
        dsimp only
        have H3 := hideP h3
        clear h3
        clear a0 a1 a2 b0 b1 b2 c0 c1 c2
        go_wp2
        go_ret
        exact ⟨rfl, HX.out.bl.trans ((H1.out.trans H2.out).trans H3.out)⟩
      · have T12 := rdiv_any mab b
        rw [D12 h0] at T12
        have HT12 := hideP T12
        have hb0 : (b.n == 0) = false := by simpa using h0
        clear T12 D12 h0
        go_wp2_with fail
        have wne := wl_ne wr
        obtain ⟨a0, a1, a2⟩ := (HX.out.ba.later H1.out).wl
        try dsimp only at a0 a1 a2
        obtain ⟨b0, b1, b2⟩ := (HX.out.bb.later H1.out).wl
        try dsimp only at b0 b1 b2
        obtain ⟨c0, c1, c2⟩ := (HX.out.bc.later H1.out).wl
        try dsimp only at c0 c1 c2
        refine wl_region wr (Bl.refl _) (by kernel_rfl) (by kernel_rfl) ?_
        repeat (go_big_quiet_step (first | ((go_at_call_of 17 #[Value.agg #[.int .i64 a.n, .int .i64 a.d, .bool a.bad], Value.agg #[.int .i64 b.n, .int .i64 b.d, .bool b.bad]]); exact wl_call (HT1.out _)) | ((go_at_call_of 17 #[Value.agg #[.int .i64 b.n, .int .i64 b.d, .bool b.bad], Value.agg #[.int .i64 a.n, .int .i64 a.d, .bool a.bad]]); exact wl_call (HT2.out _)) | ((go_at_call_of 19 #[Value.agg #[.int .i64 a.n, .int .i64 a.d, .bool a.bad], Value.agg #[.int .i64 b.n, .int .i64 b.d, .bool b.bad]]); exact wl_call (HT3.out _)) | ((go_at_call_of 19 #[Value.agg #[.int .i64 b.n, .int .i64 b.d, .bool b.bad], Value.agg #[.int .i64 a.n, .int .i64 a.d, .bool a.bad]]); exact wl_call (HT4.out _)) | ((go_at_call_of 17 #[frV ab, Value.agg #[.int .i64 c.n, .int .i64 c.d, .bool c.bad]]); exact wl_call (HT5.out _)) | ((go_at_call_of 17 #[Value.agg #[.int .i64 b.n, .int .i64 b.d, .bool b.bad], Value.agg #[.int .i64 c.n, .int .i64 c.d, .bool c.bad]]); exact wl_call (HT6.out _)) | ((go_at_call_of 17 #[Value.agg #[.int .i64 a.n, .int .i64 a.d, .bool a.bad], frV bc]); exact wl_call (HT7.out _)) | ((go_at_call_of 19 #[frV mab, Value.agg #[.int .i64 c.n, .int .i64 c.d, .bool c.bad]]); exact wl_call (HT8.out _)) | ((go_at_call_of 19 #[Value.agg #[.int .i64 b.n, .int .i64 b.d, .bool b.bad], Value.agg #[.int .i64 c.n, .int .i64 c.d, .bool c.bad]]); exact wl_call (HT9.out _)) | ((go_at_call_of 19 #[Value.agg #[.int .i64 a.n, .int .i64 a.d, .bool a.bad], frV mbc]); exact wl_call (HT10.out _)) | ((go_at_call_of 18 #[frV ab, Value.agg #[.int .i64 b.n, .int .i64 b.d, .bool b.bad]]); exact wl_call (HT11.out _))))
        refine wpQuiet_nil ?_
        intro _ hw'
        obtain ⟨z, hw''⟩ := hw'
        subst hw''
        clear wne
        obtain ⟨w2, h2⟩ := z
        dsimp only
        have H2 := hideP h2
        clear h2
        clear a0 a1 a2 b0 b1 b2 c0 c1 c2
        obtain ⟨a0, a1, a2, af0, af1, af2, al⟩ := HX.out.ba.later (H1.out.trans H2.out)
        try dsimp only at a0 a1 a2
        obtain ⟨b0, b1, b2, bf0, bf1, bf2, bl⟩ := HX.out.bb.later (H1.out.trans H2.out)
        try dsimp only at b0 b1 b2
        obtain ⟨c0, c1, c2, cf0, cf1, cf2, cl⟩ := HX.out.bc.later (H1.out.trans H2.out)
        try dsimp only at c0 c1 c2
        go_wp2_with fail
        clear a0 a1 a2 af0 af1 af2 al b0 b1 b2 bf0 bf1 bf2 bl c0 c1 c2 cf0 cf1 cf2 cl
        have wne := wl_ne w2
        obtain ⟨a0, a1, a2⟩ := (HX.out.ba.later (H1.out.trans H2.out)).wl
        try dsimp only at a0 a1 a2
        obtain ⟨b0, b1, b2⟩ := (HX.out.bb.later (H1.out.trans H2.out)).wl
        try dsimp only at b0 b1 b2
        obtain ⟨c0, c1, c2⟩ := (HX.out.bc.later (H1.out.trans H2.out)).wl
        try dsimp only at c0 c1 c2
        refine wl_region w2 (Bl.refl _) (by kernel_rfl) (by kernel_rfl) ?_
        repeat (go_big_quiet_step (first | ((go_at_call_of 21 #[frV mab, Value.agg #[.int .i64 b.n, .int .i64 b.d, .bool b.bad]]); exact wl_call (HT12.out _)) | ((go_at_call_of 19 #[Value.agg #[.int .i64 a.n, .int .i64 a.d, .bool a.bad], Value.agg #[.int .i64 b.n, .int .i64 b.d, .bool b.bad]]); exact wl_call (HT3.out _)) | ((go_at_call_of 17 #[Value.agg #[.int .i64 b.n, .int .i64 b.d, .bool b.bad], Value.agg #[.int .i64 c.n, .int .i64 c.d, .bool c.bad]]); exact wl_call (HT6.out _)) | ((go_at_call_of 19 #[Value.agg #[.int .i64 a.n, .int .i64 a.d, .bool a.bad], frV bc]); exact wl_call (HT13.out _)) | ((go_at_call_of 19 #[Value.agg #[.int .i64 a.n, .int .i64 a.d, .bool a.bad], Value.agg #[.int .i64 c.n, .int .i64 c.d, .bool c.bad]]); exact wl_call (HT14.out _)) | ((go_at_call_of 17 #[frV mab, frV mac]); exact wl_call (HT15.out _)) | ((go_at_call_of 22 #[Value.agg #[.int .i64 a.n, .int .i64 a.d, .bool a.bad]]); exact wl_call (HT16.out _)) | ((go_at_call_of 22 #[frV na]); exact wl_call (HT17.out _)) | ((go_at_call 12); exact wl_call (AW.out _))))
        refine wpQuiet_nil ?_
        intro _ hw'
        obtain ⟨z, hw''⟩ := hw'
        subst hw''
        clear wne
        obtain ⟨w3, h3⟩ := z
        dsimp only
        have H3 := hideP h3
        clear h3
        clear a0 a1 a2 b0 b1 b2 c0 c1 c2
        go_wp2
        go_ret
        exact ⟨rfl, HX.out.bl.trans ((H1.out.trans H2.out).trans H3.out)⟩
end Go.Proofs.Ytoibkkiohpnaaaa
