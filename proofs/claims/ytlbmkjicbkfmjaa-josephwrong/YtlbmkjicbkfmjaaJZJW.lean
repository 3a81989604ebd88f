/- States that may not be, and what does not go with them, are not predicted, or updated, in fractions. Conditions: none (every input). -/
import Derived.Test.YtlbmkjicbkfmjaaJD
import Derived.Test.YtlbmkjicbkfmjaaJA
import Derived.ProofKit
import Derived.OpenShut
import Derived.Carry
/- The walk of JosephWrong. Written by genJw.py. -/
namespace Go.Proofs.Ytlbmkjicbkfmjaa
open Go.RowKit
set_option linter.unusedSimpArgs false
set_option linter.unusedVariables false

set_option maxRecDepth 100000 in
set_option maxHeartbeats 8000000 in
theorem walk_JosephWrong (va : Value) (xa : List Int) (n : Int) (w : World) (ha : Rq 1 cI w va xa) :
    Calls Try.prog 4 #[va, .int .i64 n] w fun e w' => e = .returned (.bool true) ∧ Bl w w' := by
  have fm : Try.prog.follows .mixedOrders = true := by kernel_rfl
  have egW := enters_of Try.func10 (by kernel_rfl) rfl
  have egN := enters_of Try.func22 (by kernel_rfl) rfl
  have egU := enters_of Try.func11 (by kernel_rfl) rfl
  have egQ := enters_of Try.func12 (by kernel_rfl) rfl
  have AW := hideP awake9_any
  have FE := hideP (few6_any va xa w ha)
  obtain ⟨pa, ca, rfl, _, _⟩ := ha.cut
  obtain ⟨la, hla⟩ : ∃ la, la = xa.length := ⟨_, rfl⟩
  rw [← hla] at FE ha ⊢
  have HLA := hideP hla
  have HXA := hideP (show Rq 1 cI w (.slice pa la ca) (linJ la (fun i => xa.getD i 0)) from by rw [← linJ_of (n := la) 0 xa hla.symm]; exact ha)
  clear ha hla
  go_enter Try.func4, Try.ntmps4
  go_wp2_with fail
  refine FE.out.mono ?_
  rintro e w1 ⟨b1, rfl, hb1, rfl⟩
  clear FE
  cases b1 with
  | false =>
    go_wp2_with fail
    refine (AW.out _).mono ?_
    rintro e w99 ⟨rfl, h99⟩
    go_wp2
    go_ret
    exact ⟨rfl, (Bl.refl _).trans h99⟩
  | true =>
    clear hb1
    by_cases h20 : 20 < la
    · have h20' : (la : Int) > 20 := by omega
      go_wp2_with fail
      refine (AW.out _).mono ?_
      rintro e w99 ⟨rfl, h99⟩
      go_wp2
      go_ret
      exact ⟨rfl, (Bl.refl _).trans h99⟩
    have h20' : ¬ (la : Int) > 20 := by omega
    by_cases n1 : n < 1
    · go_wp2_with fail
      refine (AW.out _).mono ?_
      rintro e w99 ⟨rfl, h99⟩
      go_wp2
      go_ret
      exact ⟨rfl, (Bl.refl _).trans h99⟩
    by_cases n5 : 5 < n
    · go_wp2_with fail
      refine (AW.out _).mono ?_
      rintro e w99 ⟨rfl, h99⟩
      go_wp2
      go_ret
      exact ⟨rfl, (Bl.refl _).trans h99⟩
    obtain ⟨m, rfl⟩ := Int.eq_ofNat_of_zero_le (show 0 ≤ n by omega)
    obtain ⟨N, hN⟩ : ∃ N, N = m * m := ⟨_, rfl⟩
    have UN := hideP (mUnitF m N (by omega) (by omega) hN w1)
    have WHL := hideP (fun u (hu : Bl w1 u) => whole_linF pa la ca (fun i => xa.getD i 0) u (HXA.out.later hu) (by omega))
    have HNM := hideP hN
    clear hN
    go_wp2_with fail
    refine UN.out.mono ?_
    rintro e w2 ⟨p2, c2, rfl, hx, h2⟩
    obtain ⟨W2, hW2⟩ : ∃ W2, W2 = w2.alloc (.cells #[.int .i64 m, .int .i64 m, .slice p2 N c2] 29) := ⟨_, rfl⟩
    have b2 : Bl w2 W2 := by rw [hW2]; exact (Bl.refl _).alloc _
    have k2 : MBox W2 w2.heap.size m m p2 N c2 := by rw [hW2]; exact MBox.new w2 _ _ _ _ _ _
    have B2 : Bl w1 W2 := h2.trans b2
    have HX := hideP (Mx.later hx b2)
    have HW2 := hideP hW2
    clear hW2 hx UN
    by_cases hlm : la = m
    · subst hlm
      by_cases h4 : la ≤ 4
      · have h1 : 1 ≤ la := by omega
        have HFIT := hideP (fitJ_dim HX.out.1 HX.out.2.1 h4)
        have e1 : ((la : Int) == (la : Int)) = true := by simp
        have e2 : (la : Int) ≤ 4 := by omega
        go_wp2_with fail
        rw [← HW2.out]
        refine (wpIn_wide (n := 8)).1 (region_q fm [some 38, some 39, some 40, some 41, some 37, some 42, some 43, some 7, none, some 8] (fun j => j == 6 || j == 9) 8 (by kernel_rfl) (by rfl)
              (fun j v u => match j with | 0 => v = .slice pa la ca | 1 => ∃ q c, v = .slice q la c ∧ Rw 3 cellsF u (.slice q la c) (linJ la (fun i => wholeF (xa.getD i 0))) | 2 => v = mV la la p2 N c2 | 3 => ∃ q c p' c', v = .tuple #[sJ q (la) c (la : Nat) (la : Nat) p' (N) c', .bool true] ∧ Rw 3 cellsF u (.slice q (la) c) (linJ (la) (fun i => wholeF (xa.getD i 0))) ∧ Mx 3 cellsF u (la) (la) p' (N) c' (squareJ kdF la (fun i k => wholeF (unitI i k))) | 4 => ∃ q c p' c', v = .tuple #[sJ q (la) c (la : Nat) (la : Nat) p' (N) c', .bool true] ∧ Rw 3 cellsF u (.slice q (la) c) (linJ (la) (fun i => wholeF (xa.getD i 0))) ∧ Mx 3 cellsF u (la) (la) p' (N) c' (squareJ kdF la (fun i k => wholeF (unitI i k))) | 5 => ∃ q c p' c', v = sJ q (la) c (la : Nat) (la : Nat) p' (N) c' ∧ Rw 3 cellsF u (.slice q (la) c) (linJ (la) (fun i => wholeF (xa.getD i 0))) ∧ Mx 3 cellsF u (la) (la) p' (N) c' (squareJ kdF la (fun i k => wholeF (unitI i k))) | 6 => v = .bool true | 7 => ∃ b, v = .pointer (some ⟨b, 0, none⟩) ∧ W2.heap.size ≤ b ∧ SBox u b none 0 0 0 0 none 0 0 ∧ NoB u b | 9 => v = .bool true | _ => False)
              (by
                intro j v u u' hb h
                split at h <;> first | exact h | (obtain ⟨b, e, h1, h2, h3⟩ := h; exact ⟨b, e, h1, h2.later hb, h3.later hb h2.lt⟩) | (obtain ⟨q, c, p', c', e, h1, h2⟩ := h; exact ⟨q, c, p', c', e, h1.later hb, Mx.later h2 hb⟩) | (obtain ⟨q, c, e, h1⟩ := h; exact ⟨q, c, e, h1.later hb⟩) | (obtain ⟨g, e, h1⟩ := h; exact ⟨g, e, h1.later hb⟩)) (fun vs u0 u => ∃ b q c p' c', vs 7 = .pointer (some ⟨b, 0, none⟩) ∧ W2.heap.size ≤ b ∧ SBox u b q (la) c (la : Nat) (la : Nat) p' (N) c' ∧ Rw 3 cellsF u (.slice q (la) c) (linJ (la) (fun i => wholeF (xa.getD i 0))) ∧ Mx 3 cellsF u (la) (la) p' (N) c' (squareJ kdF la (fun i k => wholeF (unitI i k))) ∧ Bl W2 u) ?step ?still ?store ?fin)
        case step =>
          intro j o t act u ho hdt hpu hsz hu hfr hin
          have hj : j < 10 := (Array.getElem?_eq_some_iff.1 ho).1
          obtain ⟨y0, y1, y2, _, _, _, _⟩ := k2.later hu
          rcases (by omega : j = 0 ∨ j = 1 ∨ j = 2 ∨ j = 3 ∨ j = 4 ∨ j = 5 ∨ j = 6 ∨ j = 7 ∨ j = 8 ∨ j = 9) with rfl | rfl | rfl | rfl | rfl | rfl | rfl | rfl | rfl | rfl
          · simp only [List.getElem?_toArray, List.getElem?_cons_zero, List.getElem?_cons_succ, Option.some.injEq] at ho
            subst ho
            obtain rfl := Option.some.inj hdt
            have i0 : act.eval (.tmp (0 : Nat)) = .slice pa la ca := hfr 0 (by decide)
            exact plain_wp (by intro c h; cases h) (fun _ _ => trivial) (by simp only [execOp, i0, evalC, evalF, evalG]; simp [go_sem]) ⟨_, rfl, rfl, Bl.refl _⟩
          · simp only [List.getElem?_toArray, List.getElem?_cons_zero, List.getElem?_cons_succ, Option.some.injEq] at ho
            subst ho
            obtain rfl := Option.some.inj hdt
            have i38 : (act.eval (.tmp (38 : Nat))) = .slice pa la ca := hin ⟨0, .data⟩ (by simp) rfl 38 rfl
            refine enter_wp 10 #[.slice pa la ca] (by intro c h; cases h) (fun _ _ => trivial) (by simp only [execOp, evalC, evalF, evalG, resolve, i38, List.map_toArray, List.map_cons, List.map_nil]; simp [invoke, egW, Result.andThen, go_sem]) (by intro h; cases h) (callsIn_wide.2 (WHL.out u (B2.trans hu))) ?_
            rintro e w' ⟨q, c, rfl, hR, hb⟩
            exact ⟨_, rfl, _, rfl, ⟨q, c, rfl, hR⟩, hb⟩
          · simp only [List.getElem?_toArray, List.getElem?_cons_zero, List.getElem?_cons_succ, Option.some.injEq] at ho
            subst ho
            obtain rfl := Option.some.inj hdt
            have i5 : act.eval (.tmp (5 : Nat)) = .pointer (some ⟨w2.heap.size, 0, none⟩) := hfr 5 (by decide)
            exact plain_wp (by intro c h; cases h) (fun _ _ => trivial) (by simp only [execOp, i5, evalC, evalF, evalG]; simp [go_sem, y0, y1, y2]) ⟨_, rfl, rfl, Bl.refl _⟩
          · simp only [List.getElem?_toArray, List.getElem?_cons_zero, List.getElem?_cons_succ, Option.some.injEq] at ho
            subst ho
            obtain rfl := Option.some.inj hdt
            have i39 : ∃ q c, (act.eval (.tmp (39 : Nat))) = .slice q la c ∧ Rw 3 cellsF u (.slice q la c) (linJ la (fun i => wholeF (xa.getD i 0))) := hin ⟨1, .data⟩ (by simp) rfl 39 rfl
            have i40 : (act.eval (.tmp (40 : Nat))) = mV la la p2 N c2 := hin ⟨2, .data⟩ (by simp) rfl 40 rfl
            obtain ⟨q0, c0, e0, hq⟩ := i39
            refine enter_wp 22 #[.slice q0 la c0, mV la la p2 N c2] (by intro c h; cases h) (fun _ _ => trivial) (by simp only [execOp, evalC, evalF, evalG, resolve, e0, i40, List.map_toArray, List.map_cons, List.map_nil]; simp [invoke, egN, Result.andThen, go_sem]) (by intro h; cases h) (callsIn_wide.2 (jNewF la q0 c0 (fun i => wholeF (xa.getD i 0)) p2 N c2 (fun i k => wholeF (unitI i k)) u hq.q (HX.out.later hu) h4)) ?_
            rintro e w' ⟨q, c, p', c', rfl, ⟨hR, hM⟩, hb⟩
            exact ⟨_, rfl, _, rfl, ⟨q, c, p', c', rfl, hR, hM⟩, hb⟩
          · simp only [List.getElem?_toArray, List.getElem?_cons_zero, List.getElem?_cons_succ, Option.some.injEq] at ho
            subst ho
            obtain rfl := Option.some.inj hdt
            have i41 : ∃ q c p' c', (act.eval (.tmp (41 : Nat))) = .tuple #[sJ q (la) c (la : Nat) (la : Nat) p' (N) c', .bool true] ∧ Rw 3 cellsF u (.slice q (la) c) (linJ (la) (fun i => wholeF (xa.getD i 0))) ∧ Mx 3 cellsF u (la) (la) p' (N) c' (squareJ kdF la (fun i k => wholeF (unitI i k))) := hin ⟨3, .data⟩ (by simp) rfl 41 rfl
            obtain ⟨q0, c0', p0, c0, e1, hq1, hq2⟩ := i41
            exact plain_wp (by intro c h; cases h) (fun _ _ => trivial) (by simp only [execOp, e1]; simp [go_sem]) ⟨_, rfl, ⟨q0, c0', p0, c0, rfl, hq1, hq2⟩, Bl.refl _⟩
          · simp only [List.getElem?_toArray, List.getElem?_cons_zero, List.getElem?_cons_succ, Option.some.injEq] at ho
            subst ho
            obtain rfl := Option.some.inj hdt
            have i37 : ∃ q c p' c', (act.eval (.tmp (37 : Nat))) = .tuple #[sJ q (la) c (la : Nat) (la : Nat) p' (N) c', .bool true] ∧ Rw 3 cellsF u (.slice q (la) c) (linJ (la) (fun i => wholeF (xa.getD i 0))) ∧ Mx 3 cellsF u (la) (la) p' (N) c' (squareJ kdF la (fun i k => wholeF (unitI i k))) := hin ⟨4, .data⟩ (by simp) rfl 37 rfl
            obtain ⟨q0, c0', p0, c0, e1, hq1, hq2⟩ := i37
            exact plain_wp (by intro c h; cases h) (fun _ _ => trivial) (by simp only [execOp, e1]; simp [go_sem]) ⟨_, rfl, ⟨q0, c0', p0, c0, rfl, hq1, hq2⟩, Bl.refl _⟩
          · cases hpu
          · simp only [List.getElem?_toArray, List.getElem?_cons_zero, List.getElem?_cons_succ, Option.some.injEq] at ho
            subst ho
            obtain rfl := Option.some.inj hdt
            exact plain_wp (by intro c h; cases h) (fun _ _ => trivial) (w' := u.alloc (.cells #[.slice none 0 0, .int .i64 0, .int .i64 0, .slice none 0 0] 31)) (v := .pointer (some ⟨u.heap.size, 0, none⟩)) (by simp only [execOp]; simp [go_sem]) ⟨_, rfl, ⟨u.heap.size, rfl, hu.size, SBox.new u _ _ _ _ _ _ _ _ _, noB_newSF u _⟩, (Bl.refl _).alloc _⟩
          · simp only [List.getElem?_toArray, List.getElem?_cons_zero, List.getElem?_cons_succ, Option.some.injEq] at ho
            subst ho
            cases hdt
          · cases hpu
        case still =>
          intro j o t act u0 u ho hdt hpu hsz hu hfr hin
          have hj : j < 10 := (Array.getElem?_eq_some_iff.1 ho).1
          obtain ⟨y0, y1, y2, _, _, _, _⟩ := k2.later hu
          rcases (by omega : j = 0 ∨ j = 1 ∨ j = 2 ∨ j = 3 ∨ j = 4 ∨ j = 5 ∨ j = 6 ∨ j = 7 ∨ j = 8 ∨ j = 9) with rfl | rfl | rfl | rfl | rfl | rfl | rfl | rfl | rfl | rfl
          · cases hpu
          · cases hpu
          · cases hpu
          · cases hpu
          · cases hpu
          · cases hpu
          · simp only [List.getElem?_toArray, List.getElem?_cons_zero, List.getElem?_cons_succ, Option.some.injEq] at ho
            subst ho
            obtain rfl := Option.some.inj hdt
            have i37 : ∃ q c p' c', (act.eval (.tmp (37 : Nat))) = .tuple #[sJ q (la) c (la : Nat) (la : Nat) p' (N) c', .bool true] ∧ Rw 3 cellsF u0 (.slice q (la) c) (linJ (la) (fun i => wholeF (xa.getD i 0))) ∧ Mx 3 cellsF u0 (la) (la) p' (N) c' (squareJ kdF la (fun i k => wholeF (unitI i k))) := hin ⟨4, .data⟩ (by simp) rfl 37 rfl
            obtain ⟨q0, c0', p0, c0, e1, hq1, hq2⟩ := i37
            exact plain_wp (by intro c h; cases h) (fun _ _ => trivial) (by simp only [execOp, e1]; simp [go_sem]) ⟨_, rfl, rfl, rfl⟩
          · cases hpu
          · cases hpu
          · simp only [List.getElem?_toArray, List.getElem?_cons_zero, List.getElem?_cons_succ, Option.some.injEq] at ho
            subst ho
            obtain rfl := Option.some.inj hdt
            have i43 : (act.eval (.tmp (43 : Nat))) = .bool true := hin ⟨6, .data⟩ (by simp) rfl 43 rfl
            exact plain_wp (by intro c h; cases h) (fun _ _ => trivial) (by simp only [execOp, i43, evalC, evalF, evalG]; simp [go_sem]) ⟨_, rfl, rfl, rfl⟩
        case store =>
          intro o act u vs ho hsz hu hfr hin
          simp only [List.getElem?_toArray, List.getElem?_cons_zero, List.getElem?_cons_succ, Option.some.injEq] at ho
          subst ho
          obtain ⟨i7, k7⟩ : act.eval (.tmp (7 : Nat)) = vs 7 ∧ (∃ b, (vs 7) = .pointer (some ⟨b, 0, none⟩) ∧ W2.heap.size ≤ b ∧ SBox u b none 0 0 0 0 none 0 0 ∧ NoB u b) := hin 7 7 rfl rfl
          obtain ⟨i42, k42⟩ : act.eval (.tmp (42 : Nat)) = vs 5 ∧ (∃ q c p' c', (vs 5) = sJ q (la) c (la : Nat) (la : Nat) p' (N) c' ∧ Rw 3 cellsF u (.slice q (la) c) (linJ (la) (fun i => wholeF (xa.getD i 0))) ∧ Mx 3 cellsF u (la) (la) p' (N) c' (squareJ kdF la (fun i k => wholeF (unitI i k)))) := hin 5 42 rfl rfl
          obtain ⟨b, e1, hb, bx, nb⟩ := k7
          obtain ⟨q0, c0', p0, c0, e2, hq1, hq2⟩ := k42
          rw [e1] at i7
          rw [e2] at i42
          obtain ⟨d0, d1, d2, d3, g0, g1, g2, g3, ltb⟩ := id bx
          exact skip_wp (by intro c h; cases h) (fun _ _ => trivial) (by simp only [execOp, i7, i42]; simp [go_sem, d0, d1, d2, d3, g0, g1, g2, g3]) ⟨rfl, b, q0, c0', p0, c0, e1, hb, bx.fill _ _ _ _ _ _ _ _, hq1.but (but4F _ _ _ _ _ _) (fun g hg => noB_rwF hq1 (h1) nb g hg), Mx.but hq2 (but4F _ _ _ _ _ _) (fun g hg => Ne.symm (noB_mx boolF hq2 nb g hg)), Bl.put4 hu hb _ _ _ _⟩
        case fin =>
          intro vs vb u0 u hu hin hps
          have a0 := hin 0 38 rfl
          have a1 := hin 1 39 rfl
          have a2 := hin 2 40 rfl
          have a3 := hin 3 41 rfl
          have a4 := hin 4 37 rfl
          have a5 := hin 5 42 rfl
          have a6 := hin 6 43 rfl
          have a7 := hin 7 7 rfl
          have a9 := hin 9 8 rfl
          simp only [putL, Act.put, List.setIfInBounds_toArray, List.set_cons_zero, List.set_cons_succ, Nat.zero_add, Nat.reduceAdd, Nat.reduceBEq, Bool.or_false, Bool.or_true, Bool.false_or, Bool.true_or, Bool.false_eq_true, if_false, if_true, reduceIte, Nat.reduceEqDiff, beq_self_eq_true, Bool.or_self] at a0 a1 a2 a3 a4 a5 a6 a7 a9 ⊢
          rw [if_pos (by decide)] at hps
          simp only [a0, a2, a6, a9]
          obtain ⟨b, q1, cq1, p3, c3, eb, hb, ks, hR, hM, hbu⟩ := hps
          simp only [eb]
          obtain ⟨w3, rfl⟩ : ∃ w3, w3 = u := ⟨_, rfl⟩
          have HR := hideP hR
          have HM := hideP hM
          clear hR hM a1 a3 a4 a5 a7 hu hin
          have b23 : Bl W2 w3 := hbu
          have B3 := B2.trans hbu
          have RT := hideP (by have := jRightF q1 la cq1 la la p3 N c3 w3; rw [HFIT.out] at this; exact this)
          have PR := hideP (fun u (hu : Bl w3 u) => jPredictF la N q1 cq1 (fun i => wholeF (xa.getD i 0)) p3 c3 (squareJ kdF la (fun i k => wholeF (unitI i k))) p2 c2 (fun i k => wholeF (unitI i k)) p2 c2 (fun i k => wholeF (unitI i k)) u (HR.out.later hu).q (HM.out.later hu) (HX.out.later (b23.trans hu)) (HX.out.later (b23.trans hu)) h4)
          obtain ⟨s0, s1, s2, s3, _, _, _, _, _⟩ := id ks
          go_wp2_with fail
          refine RT.out.mono ?_
          rintro e w4 ⟨rfl, h4'⟩
          clear s0 s1 s2 s3
          obtain ⟨s0, s1, s2, s3, _, _, _, _, _⟩ := ks.later h4'
          obtain ⟨y0, y1, y2, _, _, _, _⟩ := k2.later (b23.trans h4')
          go_wp2_with fail
          refine (PR.out _ h4').mono ?_
          rintro e w5 ⟨q5, cq5, p5, c5, rfl, _, h5⟩
          obtain ⟨W6, hW6⟩ : ∃ W6, W6 = w5.alloc (.cells #[.slice q5 la cq5, .int .i64 la, .int .i64 la, .slice p5 N c5] 31) := ⟨_, rfl⟩
          have b6 : Bl w5 W6 := by rw [hW6]; exact (Bl.refl _).alloc _
          have b36 : Bl w3 W6 := h4'.trans (h5.trans b6)
          have B6 := B3.trans b36
          have ks6 := ks.later b36
          have HW6 := hideP hW6
          clear hW6 s0 s1 s2 s3 y0 y1 y2
          go_wp2_with fail
          rw [← HW6.out]
          refine (wpIn_wide (n := 8)).1 (region_u (updF_ok (la) (N) (upXJ kdF la (fun i => wholeF (xa.getD i 0)) (squareJ kdF la (fun i k => wholeF (unitI i k))) (fun i => wholeF (xa.getD i 0)) (newR 1 1) (newR 1 1)) (upPJ kdF (fun i j => wholeF (unitI i j)) la (squareJ kdF la (fun i k => wholeF (unitI i k))) (fun i => wholeF (xa.getD i 0)) (newR 1 1)) (surpJ kdF la (fun i => wholeF (xa.getD i 0)) (fun i => wholeF (xa.getD i 0)) (newR 1 1)) (spreadJ kdF la (squareJ kdF la (fun i k => wholeF (unitI i k))) (fun i => wholeF (xa.getD i 0)) (newR 1 1))) fm [some 69, some 70, some 71, some 72, some 73, some 74, some 68, some 75, some 76, some 77, some 12, some 13, none, none, some 14] 5 (by kernel_rfl) (by rfl) 74 68 75 76 77 12 13 14 rfl
                (fun j v u => match j with | 0 => v = sJ q1 la cq1 la la p3 N c3 | 1 => v = .slice pa la ca | 2 => ∃ q c, v = .slice q la c ∧ Rw 3 cellsF u (.slice q la c) (linJ la (fun i => wholeF (xa.getD i 0))) | 3 => v = frV (newR 1 1) | 4 => v = frV (newR 1 1) | _ => False)
                (by
                  intro j v u u' hb h
                  split at h <;> first | exact h | (obtain ⟨q, c, e, h1⟩ := h; exact ⟨q, c, e, h1.later hb⟩) | (obtain ⟨g, e, h1⟩ := h; exact ⟨g, e, h1.later hb⟩)) ?step ?call ?mv ?x0 ?x1 ?x2 ?la ?lb ?sa ?sb ?asg ?fin)
          case step =>
            intro j o t act u hjk ho hdt hsz hu hfr hin
            obtain ⟨s0, s1, s2, s3, _, _, _, _, _⟩ := ks6.later hu
            rcases (by omega : j = 0 ∨ j = 1 ∨ j = 2 ∨ j = 3 ∨ j = 4) with rfl | rfl | rfl | rfl | rfl
            · simp only [List.getElem?_toArray, List.getElem?_cons_zero, List.getElem?_cons_succ, Option.some.injEq] at ho
              subst ho
              obtain rfl := Option.some.inj hdt
              have i7 : act.eval (.tmp (7 : Nat)) = .pointer (some ⟨b, 0, none⟩) := hfr 7 (by decide)
              exact plain_wp (by intro c h; cases h) (fun _ _ => trivial) (by simp only [execOp, i7, evalC, evalF, evalG]; simp [go_sem, s0, s1, s2, s3]) ⟨_, rfl, rfl, Bl.refl _⟩
            · simp only [List.getElem?_toArray, List.getElem?_cons_zero, List.getElem?_cons_succ, Option.some.injEq] at ho
              subst ho
              obtain rfl := Option.some.inj hdt
              have i0 : act.eval (.tmp (0 : Nat)) = .slice pa la ca := hfr 0 (by decide)
              exact plain_wp (by intro c h; cases h) (fun _ _ => trivial) (by simp only [execOp, i0, evalC, evalF, evalG]; simp [go_sem]) ⟨_, rfl, rfl, Bl.refl _⟩
            · simp only [List.getElem?_toArray, List.getElem?_cons_zero, List.getElem?_cons_succ, Option.some.injEq] at ho
              subst ho
              obtain rfl := Option.some.inj hdt
              have i70 : (act.eval (.tmp (70 : Nat))) = .slice pa la ca := hin ⟨1, .data⟩ (by simp) rfl 70 rfl
              refine enter_wp 10 #[.slice pa la ca] (by intro c h; cases h) (fun _ _ => trivial) (by simp only [execOp, evalC, evalF, evalG, resolve, i70, List.map_toArray, List.map_cons, List.map_nil]; simp [invoke, egW, Result.andThen, go_sem]) (by intro h; cases h) (callsIn_wide.2 (WHL.out u (B6.trans hu))) ?_
              rintro e w' ⟨q, c, rfl, hR, hb⟩
              exact ⟨_, rfl, _, rfl, ⟨q, c, rfl, hR⟩, hb⟩
            · simp only [List.getElem?_toArray, List.getElem?_cons_zero, List.getElem?_cons_succ, Option.some.injEq] at ho
              subst ho
              obtain rfl := Option.some.inj hdt
              refine enter_wp 12 #[.int .i64 1, .int .i64 1] (by intro c h; cases h) (fun _ _ => trivial) (by simp only [execOp, evalC, evalF, evalG, resolve, evalC, List.map_toArray, List.map_cons, List.map_nil]; simp [invoke, egQ, Result.andThen, go_sem]) (by intro h; cases h) (callsIn_wide.2 (new_any 1 1 u)) ?_
              rintro e w' ⟨rfl, hb⟩
              exact ⟨_, rfl, _, rfl, rfl, hb⟩
            · simp only [List.getElem?_toArray, List.getElem?_cons_zero, List.getElem?_cons_succ, Option.some.injEq] at ho
              subst ho
              obtain rfl := Option.some.inj hdt
              refine enter_wp 12 #[.int .i64 1, .int .i64 1] (by intro c h; cases h) (fun _ _ => trivial) (by simp only [execOp, evalC, evalF, evalG, resolve, evalC, List.map_toArray, List.map_cons, List.map_nil]; simp [invoke, egQ, Result.andThen, go_sem]) (by intro h; cases h) (callsIn_wide.2 (new_any 1 1 u)) ?_
              rintro e w' ⟨rfl, hb⟩
              exact ⟨_, rfl, _, rfl, rfl, hb⟩
          case call =>
            intro o act u ho hsz hu hfr hin
            obtain ⟨s0, s1, s2, s3, _, _, _, _, _⟩ := ks6.later hu
            simp only [List.getElem?_toArray, List.getElem?_cons_zero, List.getElem?_cons_succ, Option.some.injEq, Nat.reduceAdd] at ho
            subst ho
            have i69 : (act.eval (.tmp (69 : Nat))) = sJ q1 la cq1 la la p3 N c3 := hin ⟨0, .data⟩ (by simp) rfl 69 rfl
            have i71 : ∃ q c, (act.eval (.tmp (71 : Nat))) = .slice q la c ∧ Rw 3 cellsF u (.slice q la c) (linJ la (fun i => wholeF (xa.getD i 0))) := hin ⟨2, .data⟩ (by simp) rfl 71 rfl
            have i72 : (act.eval (.tmp (72 : Nat))) = frV (newR 1 1) := hin ⟨3, .data⟩ (by simp) rfl 72 rfl
            have i73 : (act.eval (.tmp (73 : Nat))) = frV (newR 1 1) := hin ⟨4, .data⟩ (by simp) rfl 73 rfl
            obtain ⟨q0, c0, e0, hq⟩ := i71
            refine enter_wp 11 #[sJ q1 la cq1 la la p3 N c3, .slice q0 la c0, frV (newR 1 1), frV (newR 1 1)] (by intro c h; cases h) (fun _ _ => trivial) (by simp only [execOp, evalC, evalF, evalG, resolve, i69, e0, i72, i73, List.map_toArray, List.map_cons, List.map_nil]; simp [invoke, egU, Result.andThen, go_sem]) (by intro h; cases h) (callsIn_wide.2 (jUpdateF la N q1 cq1 (fun i => wholeF (xa.getD i 0)) p3 c3 (squareJ kdF la (fun i k => wholeF (unitI i k))) q0 c0 (fun i => wholeF (xa.getD i 0)) (newR 1 1) (newR 1 1) u (HR.out.later (b36.trans hu)).q (HM.out.later (b36.trans hu)) hq.q h4)) ?_
            rintro e w' ⟨q, c, p', c', rfl, ⟨hR, hM, hF1, hF2⟩, hb⟩
            exact ⟨_, rfl, (q, c, p', c'), rfl, ⟨hR, hM⟩, hb, fun b hb' _ => ⟨fun g hg => by have := hF1 g hg; omega, fun g hg => by have := hF2 g hg; omega⟩⟩
          case mv =>
            intro o act u x ho hx
            simp only [List.getElem?_toArray, List.getElem?_cons_zero, List.getElem?_cons_succ, Option.some.injEq, Nat.reduceAdd] at ho
            subst ho
            exact plain_wp (by intro c h; cases h) (fun _ _ => trivial) (by simp only [execOp, hx]; simp [go_sem]) ⟨rfl, rfl⟩
          case x0 =>
            intro o act u x y z ho hx
            simp only [List.getElem?_toArray, List.getElem?_cons_zero, List.getElem?_cons_succ, Option.some.injEq, Nat.reduceAdd] at ho
            subst ho
            exact plain_wp (by intro c h; cases h) (fun _ _ => trivial) (by simp only [execOp, hx]; simp [go_sem]) ⟨rfl, rfl⟩
          case x1 =>
            intro o act u x y z ho hx
            simp only [List.getElem?_toArray, List.getElem?_cons_zero, List.getElem?_cons_succ, Option.some.injEq, Nat.reduceAdd] at ho
            subst ho
            exact plain_wp (by intro c h; cases h) (fun _ _ => trivial) (by simp only [execOp, hx]; simp [go_sem]) ⟨rfl, rfl⟩
          case x2 =>
            intro o act u x y z ho hx
            simp only [List.getElem?_toArray, List.getElem?_cons_zero, List.getElem?_cons_succ, Option.some.injEq, Nat.reduceAdd] at ho
            subst ho
            exact plain_wp (by intro c h; cases h) (fun _ _ => trivial) (by simp only [execOp, hx]; simp [go_sem]) ⟨rfl, rfl⟩
          case la =>
            intro o act u ho
            simp only [List.getElem?_toArray, List.getElem?_cons_zero, List.getElem?_cons_succ, Option.some.injEq, Nat.reduceAdd] at ho
            subst ho
            exact plain_wp (by intro c h; cases h) (fun _ _ => trivial) (w' := u.alloc (.cells #[.slice none 0 0, .int .i64 0, .int .i64 0, .slice none 0 0] 31)) (v := .pointer (some ⟨u.heap.size, 0, none⟩)) (by simp only [execOp]; simp [go_sem]) ⟨rfl, SBox.new u _ _ _ _ _ _ _ _ _, (Bl.refl _).alloc _, by simp⟩
          case lb =>
            intro o act u ho
            simp only [List.getElem?_toArray, List.getElem?_cons_zero, List.getElem?_cons_succ, Option.some.injEq, Nat.reduceAdd] at ho
            subst ho
            exact plain_wp (by intro c h; cases h) (fun _ _ => trivial) (w' := u.alloc (.cells #[.int .i64 0, .int .i64 0, .bool false, .int .i64 0, .int .i64 0, .bool false] 37)) (v := .pointer (some ⟨u.heap.size, 0, none⟩)) (by simp only [execOp]; simp [go_sem]) ⟨rfl, NBoxF.new u zeroR zeroR _, (Bl.refl _).alloc _, by simp⟩
          case sa =>
            intro o act u D b ho hA h0 hz hdat hoff hbl hb
            simp only [List.getElem?_toArray, List.getElem?_cons_zero, List.getElem?_cons_succ, Option.some.injEq, Nat.reduceAdd] at ho
            subst ho
            obtain ⟨q0, c0, p0, c1⟩ := D
            replace h0 : act.eval (.tmp 75) = sJ q0 (la) c0 (la) (la) p0 (N) c1 := h0
            obtain ⟨d0, d1, d2, d3, g0, g1, g2, g3, lt⟩ := (show SBox u b none 0 0 0 0 none 0 0 from hz)
            exact skip_wp (by intro c h; cases h) (fun _ _ => trivial) (by simp only [execOp, hA, h0]; simp [go_sem, d0, d1, d2, d3, g0, g1, g2, g3]) ⟨rfl, SBox.fill (show SBox u b none 0 0 0 0 none 0 0 from hz) _ _ _ _ _ _ _ _, ⟨hdat.1.but (but4F _ _ _ _ _ _) (fun g hg => hoff.1 g hg), hdat.2.but (but4F _ _ _ _ _ _) (fun g hg => hoff.2 g hg)⟩, Bl.put4 hbl hb _ _ _ _, fun b' h' => heap4F _ h' _ _ _ _, by simp⟩
          case sb =>
            intro o act u D b ho hA h0 hz hdat hoff hbl hb
            simp only [List.getElem?_toArray, List.getElem?_cons_zero, List.getElem?_cons_succ, Option.some.injEq, Nat.reduceAdd] at ho
            subst ho
            obtain ⟨q0, c0, p0, c1⟩ := D
            replace h0 : act.eval (.tmp 76) = newsVF (surpJ kdF la (fun i => wholeF (xa.getD i 0)) (fun i => wholeF (xa.getD i 0)) (newR 1 1)) (spreadJ kdF la (squareJ kdF la (fun i k => wholeF (unitI i k))) (fun i => wholeF (xa.getD i 0)) (newR 1 1)) := h0
            obtain ⟨d0, d1, d2, d3, d4, d5, g0, g1, g2, g3, g4, g5, lt⟩ := (show NBoxF u b zeroR zeroR from hz)
            exact skip_wp (by intro c h; cases h) (fun _ _ => trivial) (by simp only [execOp, hA, h0]; simp [go_sem, d0, d1, d2, d3, d4, d5, g0, g1, g2, g3, g4, g5]) ⟨rfl, NBoxF.fill (show NBoxF u b zeroR zeroR from hz) _ _, ⟨hdat.1.but (butNF _ _ _ _) (fun g hg => hoff.1 g hg), hdat.2.but (butNF _ _ _ _) (fun g hg => hoff.2 g hg)⟩, blNF b hbl hb _ _, fun b' h' => heapNF _ h' _ _, by simp⟩
          case asg =>
            intro o act u x ho hx
            simp only [List.getElem?_toArray, List.getElem?_cons_zero, List.getElem?_cons_succ, Option.some.injEq, Nat.reduceAdd] at ho
            subst ho
            exact plain_wp (by intro c h; cases h) (fun _ _ => trivial) (by simp only [execOp, hx]; simp [go_sem]) ⟨rfl, rfl⟩
          case fin =>
            intro vs u D b1 b2 hu e9' e5' e6' hb1 hb2 hsa hsb hdat
            simp only [putL, Act.put, List.setIfInBounds_toArray, List.set_cons_zero, List.set_cons_succ, Nat.zero_add, Nat.reduceAdd] at e9' e5' e6' ⊢
            replace e9' := Eq.trans e9' (show _ = Value.bool true from rfl)
            simp only [e9', e5', e6']
            obtain ⟨w7, rfl⟩ : ∃ w7, w7 = u := ⟨_, rfl⟩
            have B7 : Bl w1 w7 := B6.trans hu
            clear hsa hsb hdat
            go_wp2_with fail
            refine (AW.out _).mono ?_
            rintro e w99 ⟨rfl, h99⟩
            go_wp2
            go_ret
            exact ⟨by first | rfl | (simp; omega), B7.trans h99⟩
      · have HFIT := hideP (show fitJ la la N la = false from by unfold fitJ; rw [decide_eq_false (by omega)]; rfl)
        have e2 : ¬ (la : Int) ≤ 4 := by omega
        go_wp2_with fail
        rw [← HW2.out]
        refine (wpIn_wide (n := 8)).1 (region_q fm [some 38, some 39, some 40, some 41, some 37, some 42, some 43, some 7, none, some 8] (fun j => j == 6 || j == 9) 8 (by kernel_rfl) (by rfl)
              (fun j v u => match j with | 0 => v = .slice pa la ca | 1 => ∃ q c, v = .slice q la c ∧ Rw 3 cellsF u (.slice q la c) (linJ la (fun i => wholeF (xa.getD i 0))) | 2 => v = mV la la p2 N c2 | 3 => v = .tuple #[sJ none 0 0 0 0 none 0 0, .bool false] | 4 => v = .tuple #[sJ none 0 0 0 0 none 0 0, .bool false] | 5 => v = sJ none 0 0 0 0 none 0 0 | 6 => v = .bool false | 7 => ∃ b, v = .pointer (some ⟨b, 0, none⟩) ∧ W2.heap.size ≤ b ∧ SBox u b none 0 0 0 0 none 0 0 ∧ NoB u b | 9 => v = .bool false | _ => False)
              (by
                intro j v u u' hb h
                split at h <;> first | exact h | (obtain ⟨b, e, h1, h2, h3⟩ := h; exact ⟨b, e, h1, h2.later hb, h3.later hb h2.lt⟩) | (obtain ⟨q, c, p', c', e, h1, h2⟩ := h; exact ⟨q, c, p', c', e, h1.later hb, Mx.later h2 hb⟩) | (obtain ⟨q, c, e, h1⟩ := h; exact ⟨q, c, e, h1.later hb⟩) | (obtain ⟨g, e, h1⟩ := h; exact ⟨g, e, h1.later hb⟩)) (fun vs u0 u => ∃ b, vs 7 = .pointer (some ⟨b, 0, none⟩) ∧ W2.heap.size ≤ b ∧ SBox u b none 0 0 0 0 none 0 0 ∧ Bl W2 u) ?step ?still ?store ?fin)
        case step =>
          intro j o t act u ho hdt hpu hsz hu hfr hin
          have hj : j < 10 := (Array.getElem?_eq_some_iff.1 ho).1
          obtain ⟨y0, y1, y2, _, _, _, _⟩ := k2.later hu
          rcases (by omega : j = 0 ∨ j = 1 ∨ j = 2 ∨ j = 3 ∨ j = 4 ∨ j = 5 ∨ j = 6 ∨ j = 7 ∨ j = 8 ∨ j = 9) with rfl | rfl | rfl | rfl | rfl | rfl | rfl | rfl | rfl | rfl
          · simp only [List.getElem?_toArray, List.getElem?_cons_zero, List.getElem?_cons_succ, Option.some.injEq] at ho
            subst ho
            obtain rfl := Option.some.inj hdt
            have i0 : act.eval (.tmp (0 : Nat)) = .slice pa la ca := hfr 0 (by decide)
            exact plain_wp (by intro c h; cases h) (fun _ _ => trivial) (by simp only [execOp, i0, evalC, evalF, evalG]; simp [go_sem]) ⟨_, rfl, rfl, Bl.refl _⟩
          · simp only [List.getElem?_toArray, List.getElem?_cons_zero, List.getElem?_cons_succ, Option.some.injEq] at ho
            subst ho
            obtain rfl := Option.some.inj hdt
            have i38 : (act.eval (.tmp (38 : Nat))) = .slice pa la ca := hin ⟨0, .data⟩ (by simp) rfl 38 rfl
            refine enter_wp 10 #[.slice pa la ca] (by intro c h; cases h) (fun _ _ => trivial) (by simp only [execOp, evalC, evalF, evalG, resolve, i38, List.map_toArray, List.map_cons, List.map_nil]; simp [invoke, egW, Result.andThen, go_sem]) (by intro h; cases h) (callsIn_wide.2 (WHL.out u (B2.trans hu))) ?_
            rintro e w' ⟨q, c, rfl, hR, hb⟩
            exact ⟨_, rfl, _, rfl, ⟨q, c, rfl, hR⟩, hb⟩
          · simp only [List.getElem?_toArray, List.getElem?_cons_zero, List.getElem?_cons_succ, Option.some.injEq] at ho
            subst ho
            obtain rfl := Option.some.inj hdt
            have i5 : act.eval (.tmp (5 : Nat)) = .pointer (some ⟨w2.heap.size, 0, none⟩) := hfr 5 (by decide)
            exact plain_wp (by intro c h; cases h) (fun _ _ => trivial) (by simp only [execOp, i5, evalC, evalF, evalG]; simp [go_sem, y0, y1, y2]) ⟨_, rfl, rfl, Bl.refl _⟩
          · simp only [List.getElem?_toArray, List.getElem?_cons_zero, List.getElem?_cons_succ, Option.some.injEq] at ho
            subst ho
            obtain rfl := Option.some.inj hdt
            have i39 : ∃ q c, (act.eval (.tmp (39 : Nat))) = .slice q la c ∧ Rw 3 cellsF u (.slice q la c) (linJ la (fun i => wholeF (xa.getD i 0))) := hin ⟨1, .data⟩ (by simp) rfl 39 rfl
            have i40 : (act.eval (.tmp (40 : Nat))) = mV la la p2 N c2 := hin ⟨2, .data⟩ (by simp) rfl 40 rfl
            obtain ⟨q0, c0, e0, hq⟩ := i39
            refine enter_wp 22 #[.slice q0 la c0, mV la la p2 N c2] (by intro c h; cases h) (fun _ _ => trivial) (by simp only [execOp, evalC, evalF, evalG, resolve, e0, i40, List.map_toArray, List.map_cons, List.map_nil]; simp [invoke, egN, Result.andThen, go_sem]) (by intro h; cases h) (callsIn_wide.2 (jNewF_no q0 la c0 la la p2 N c2 u HFIT.out)) ?_
            rintro e w' ⟨rfl, hb⟩
            exact ⟨_, rfl, _, rfl, rfl, hb⟩
          · simp only [List.getElem?_toArray, List.getElem?_cons_zero, List.getElem?_cons_succ, Option.some.injEq] at ho
            subst ho
            obtain rfl := Option.some.inj hdt
            have i41 : (act.eval (.tmp (41 : Nat))) = .tuple #[sJ none 0 0 0 0 none 0 0, .bool false] := hin ⟨3, .data⟩ (by simp) rfl 41 rfl
            have e1 := i41
            exact plain_wp (by intro c h; cases h) (fun _ _ => trivial) (by simp only [execOp, e1]; simp [go_sem]) ⟨_, rfl, rfl, Bl.refl _⟩
          · simp only [List.getElem?_toArray, List.getElem?_cons_zero, List.getElem?_cons_succ, Option.some.injEq] at ho
            subst ho
            obtain rfl := Option.some.inj hdt
            have i37 : (act.eval (.tmp (37 : Nat))) = .tuple #[sJ none 0 0 0 0 none 0 0, .bool false] := hin ⟨4, .data⟩ (by simp) rfl 37 rfl
            have e1 := i37
            exact plain_wp (by intro c h; cases h) (fun _ _ => trivial) (by simp only [execOp, e1]; simp [go_sem]) ⟨_, rfl, rfl, Bl.refl _⟩
          · cases hpu
          · simp only [List.getElem?_toArray, List.getElem?_cons_zero, List.getElem?_cons_succ, Option.some.injEq] at ho
            subst ho
            obtain rfl := Option.some.inj hdt
            exact plain_wp (by intro c h; cases h) (fun _ _ => trivial) (w' := u.alloc (.cells #[.slice none 0 0, .int .i64 0, .int .i64 0, .slice none 0 0] 31)) (v := .pointer (some ⟨u.heap.size, 0, none⟩)) (by simp only [execOp]; simp [go_sem]) ⟨_, rfl, ⟨u.heap.size, rfl, hu.size, SBox.new u _ _ _ _ _ _ _ _ _, noB_newSF u _⟩, (Bl.refl _).alloc _⟩
          · simp only [List.getElem?_toArray, List.getElem?_cons_zero, List.getElem?_cons_succ, Option.some.injEq] at ho
            subst ho
            cases hdt
          · cases hpu
        case still =>
          intro j o t act u0 u ho hdt hpu hsz hu hfr hin
          have hj : j < 10 := (Array.getElem?_eq_some_iff.1 ho).1
          obtain ⟨y0, y1, y2, _, _, _, _⟩ := k2.later hu
          rcases (by omega : j = 0 ∨ j = 1 ∨ j = 2 ∨ j = 3 ∨ j = 4 ∨ j = 5 ∨ j = 6 ∨ j = 7 ∨ j = 8 ∨ j = 9) with rfl | rfl | rfl | rfl | rfl | rfl | rfl | rfl | rfl | rfl
          · cases hpu
          · cases hpu
          · cases hpu
          · cases hpu
          · cases hpu
          · cases hpu
          · simp only [List.getElem?_toArray, List.getElem?_cons_zero, List.getElem?_cons_succ, Option.some.injEq] at ho
            subst ho
            obtain rfl := Option.some.inj hdt
            have i37 : (act.eval (.tmp (37 : Nat))) = .tuple #[sJ none 0 0 0 0 none 0 0, .bool false] := hin ⟨4, .data⟩ (by simp) rfl 37 rfl
            have e1 := i37
            exact plain_wp (by intro c h; cases h) (fun _ _ => trivial) (by simp only [execOp, e1]; simp [go_sem]) ⟨_, rfl, rfl, rfl⟩
          · cases hpu
          · cases hpu
          · simp only [List.getElem?_toArray, List.getElem?_cons_zero, List.getElem?_cons_succ, Option.some.injEq] at ho
            subst ho
            obtain rfl := Option.some.inj hdt
            have i43 : (act.eval (.tmp (43 : Nat))) = .bool false := hin ⟨6, .data⟩ (by simp) rfl 43 rfl
            exact plain_wp (by intro c h; cases h) (fun _ _ => trivial) (by simp only [execOp, i43, evalC, evalF, evalG]; simp [go_sem]) ⟨_, rfl, rfl, rfl⟩
        case store =>
          intro o act u vs ho hsz hu hfr hin
          simp only [List.getElem?_toArray, List.getElem?_cons_zero, List.getElem?_cons_succ, Option.some.injEq] at ho
          subst ho
          obtain ⟨i7, k7⟩ : act.eval (.tmp (7 : Nat)) = vs 7 ∧ (∃ b, (vs 7) = .pointer (some ⟨b, 0, none⟩) ∧ W2.heap.size ≤ b ∧ SBox u b none 0 0 0 0 none 0 0 ∧ NoB u b) := hin 7 7 rfl rfl
          obtain ⟨i42, k42⟩ : act.eval (.tmp (42 : Nat)) = vs 5 ∧ ((vs 5) = sJ none 0 0 0 0 none 0 0) := hin 5 42 rfl rfl
          obtain ⟨b, e1, hb, bx, nb⟩ := k7
          have e2 := k42
          rw [e1] at i7
          rw [e2] at i42
          obtain ⟨d0, d1, d2, d3, g0, g1, g2, g3, ltb⟩ := id bx
          exact skip_wp (by intro c h; cases h) (fun _ _ => trivial) (by simp only [execOp, i7, i42]; simp [go_sem, d0, d1, d2, d3, g0, g1, g2, g3]) ⟨rfl, b, e1, hb, bx.fill _ _ _ _ _ _ _ _, Bl.put4 hu hb _ _ _ _⟩
        case fin =>
          intro vs vb u0 u hu hin hps
          have a0 := hin 0 38 rfl
          have a1 := hin 1 39 rfl
          have a2 := hin 2 40 rfl
          have a3 := hin 3 41 rfl
          have a4 := hin 4 37 rfl
          have a5 := hin 5 42 rfl
          have a6 := hin 6 43 rfl
          have a7 := hin 7 7 rfl
          have a9 := hin 9 8 rfl
          simp only [putL, Act.put, List.setIfInBounds_toArray, List.set_cons_zero, List.set_cons_succ, Nat.zero_add, Nat.reduceAdd, Nat.reduceBEq, Bool.or_false, Bool.or_true, Bool.false_or, Bool.true_or, Bool.false_eq_true, if_false, if_true, reduceIte, Nat.reduceEqDiff, beq_self_eq_true, Bool.or_self] at a0 a1 a2 a3 a4 a5 a6 a7 a9 ⊢
          rw [if_pos (by decide)] at hps
          simp only [a0, a2, a3, a4, a5, a6, a9]
          obtain ⟨b, eb, hb, ks, hbu⟩ := hps
          simp only [eb]
          obtain ⟨w3, rfl⟩ : ∃ w3, w3 = u := ⟨_, rfl⟩
          clear a1 a7 hu hin
          have b23 : Bl W2 w3 := hbu
          have B3 := B2.trans hbu
          have RT := hideP (by have := jRightF none 0 0 0 0 none 0 0 w3; rw [show fitJ 0 0 0 ((0 : Nat) : Int) = false from rfl] at this; exact this)
          have PR := hideP (fun u (hu : Bl w3 u) => jPredictF_no none 0 0 0 0 none 0 0 la la p2 N c2 la la p2 N c2 u rfl)
          obtain ⟨s0, s1, s2, s3, _, _, _, _, _⟩ := id ks
          go_wp2_with fail
          refine RT.out.mono ?_
          rintro e w4 ⟨rfl, h4'⟩
          clear s0 s1 s2 s3
          obtain ⟨s0, s1, s2, s3, _, _, _, _, _⟩ := ks.later h4'
          obtain ⟨y0, y1, y2, _, _, _, _⟩ := k2.later (b23.trans h4')
          go_wp2_with fail
          refine (PR.out _ h4').mono ?_
          rintro e w5 ⟨rfl, h5⟩
          obtain ⟨W6, hW6⟩ : ∃ W6, W6 = w5.alloc (.cells #[.slice none 0 0, .int .i64 0, .int .i64 0, .slice none 0 0] 31) := ⟨_, rfl⟩
          have b6 : Bl w5 W6 := by rw [hW6]; exact (Bl.refl _).alloc _
          have b36 : Bl w3 W6 := h4'.trans (h5.trans b6)
          have B6 := B3.trans b36
          have ks6 := ks.later b36
          have HW6 := hideP hW6
          clear hW6 s0 s1 s2 s3 y0 y1 y2
          go_wp2_with fail
          rw [← HW6.out]
          refine (wpIn_wide (n := 8)).1 (region_u updZF_ok fm [some 69, some 70, some 71, some 72, some 73, some 74, some 68, some 75, some 76, some 77, some 12, some 13, none, none, some 14] 5 (by kernel_rfl) (by rfl) 74 68 75 76 77 12 13 14 rfl
                (fun j v u => match j with | 0 => v = sJ none 0 0 0 0 none 0 0 | 1 => v = .slice pa la ca | 2 => ∃ q c, v = .slice q la c ∧ Rw 3 cellsF u (.slice q la c) (linJ la (fun i => wholeF (xa.getD i 0))) | 3 => v = frV (newR 1 1) | 4 => v = frV (newR 1 1) | _ => False)
                (by
                  intro j v u u' hb h
                  split at h <;> first | exact h | (obtain ⟨q, c, e, h1⟩ := h; exact ⟨q, c, e, h1.later hb⟩) | (obtain ⟨g, e, h1⟩ := h; exact ⟨g, e, h1.later hb⟩)) ?step ?call ?mv ?x0 ?x1 ?x2 ?la ?lb ?sa ?sb ?asg ?fin)
          case step =>
            intro j o t act u hjk ho hdt hsz hu hfr hin
            obtain ⟨s0, s1, s2, s3, _, _, _, _, _⟩ := ks6.later hu
            rcases (by omega : j = 0 ∨ j = 1 ∨ j = 2 ∨ j = 3 ∨ j = 4) with rfl | rfl | rfl | rfl | rfl
            · simp only [List.getElem?_toArray, List.getElem?_cons_zero, List.getElem?_cons_succ, Option.some.injEq] at ho
              subst ho
              obtain rfl := Option.some.inj hdt
              have i7 : act.eval (.tmp (7 : Nat)) = .pointer (some ⟨b, 0, none⟩) := hfr 7 (by decide)
              exact plain_wp (by intro c h; cases h) (fun _ _ => trivial) (by simp only [execOp, i7, evalC, evalF, evalG]; simp [go_sem, s0, s1, s2, s3]) ⟨_, rfl, rfl, Bl.refl _⟩
            · simp only [List.getElem?_toArray, List.getElem?_cons_zero, List.getElem?_cons_succ, Option.some.injEq] at ho
              subst ho
              obtain rfl := Option.some.inj hdt
              have i0 : act.eval (.tmp (0 : Nat)) = .slice pa la ca := hfr 0 (by decide)
              exact plain_wp (by intro c h; cases h) (fun _ _ => trivial) (by simp only [execOp, i0, evalC, evalF, evalG]; simp [go_sem]) ⟨_, rfl, rfl, Bl.refl _⟩
            · simp only [List.getElem?_toArray, List.getElem?_cons_zero, List.getElem?_cons_succ, Option.some.injEq] at ho
              subst ho
              obtain rfl := Option.some.inj hdt
              have i70 : (act.eval (.tmp (70 : Nat))) = .slice pa la ca := hin ⟨1, .data⟩ (by simp) rfl 70 rfl
              refine enter_wp 10 #[.slice pa la ca] (by intro c h; cases h) (fun _ _ => trivial) (by simp only [execOp, evalC, evalF, evalG, resolve, i70, List.map_toArray, List.map_cons, List.map_nil]; simp [invoke, egW, Result.andThen, go_sem]) (by intro h; cases h) (callsIn_wide.2 (WHL.out u (B6.trans hu))) ?_
              rintro e w' ⟨q, c, rfl, hR, hb⟩
              exact ⟨_, rfl, _, rfl, ⟨q, c, rfl, hR⟩, hb⟩
            · simp only [List.getElem?_toArray, List.getElem?_cons_zero, List.getElem?_cons_succ, Option.some.injEq] at ho
              subst ho
              obtain rfl := Option.some.inj hdt
              refine enter_wp 12 #[.int .i64 1, .int .i64 1] (by intro c h; cases h) (fun _ _ => trivial) (by simp only [execOp, evalC, evalF, evalG, resolve, evalC, List.map_toArray, List.map_cons, List.map_nil]; simp [invoke, egQ, Result.andThen, go_sem]) (by intro h; cases h) (callsIn_wide.2 (new_any 1 1 u)) ?_
              rintro e w' ⟨rfl, hb⟩
              exact ⟨_, rfl, _, rfl, rfl, hb⟩
            · simp only [List.getElem?_toArray, List.getElem?_cons_zero, List.getElem?_cons_succ, Option.some.injEq] at ho
              subst ho
              obtain rfl := Option.some.inj hdt
              refine enter_wp 12 #[.int .i64 1, .int .i64 1] (by intro c h; cases h) (fun _ _ => trivial) (by simp only [execOp, evalC, evalF, evalG, resolve, evalC, List.map_toArray, List.map_cons, List.map_nil]; simp [invoke, egQ, Result.andThen, go_sem]) (by intro h; cases h) (callsIn_wide.2 (new_any 1 1 u)) ?_
              rintro e w' ⟨rfl, hb⟩
              exact ⟨_, rfl, _, rfl, rfl, hb⟩
          case call =>
            intro o act u ho hsz hu hfr hin
            obtain ⟨s0, s1, s2, s3, _, _, _, _, _⟩ := ks6.later hu
            simp only [List.getElem?_toArray, List.getElem?_cons_zero, List.getElem?_cons_succ, Option.some.injEq, Nat.reduceAdd] at ho
            subst ho
            have i69 : (act.eval (.tmp (69 : Nat))) = sJ none 0 0 0 0 none 0 0 := hin ⟨0, .data⟩ (by simp) rfl 69 rfl
            have i71 : ∃ q c, (act.eval (.tmp (71 : Nat))) = .slice q la c ∧ Rw 3 cellsF u (.slice q la c) (linJ la (fun i => wholeF (xa.getD i 0))) := hin ⟨2, .data⟩ (by simp) rfl 71 rfl
            have i72 : (act.eval (.tmp (72 : Nat))) = frV (newR 1 1) := hin ⟨3, .data⟩ (by simp) rfl 72 rfl
            have i73 : (act.eval (.tmp (73 : Nat))) = frV (newR 1 1) := hin ⟨4, .data⟩ (by simp) rfl 73 rfl
            obtain ⟨q0, c0, e0, hq⟩ := i71
            refine enter_wp 11 #[sJ none 0 0 0 0 none 0 0, .slice q0 la c0, frV (newR 1 1), frV (newR 1 1)] (by intro c h; cases h) (fun _ _ => trivial) (by simp only [execOp, evalC, evalF, evalG, resolve, i69, e0, i72, i73, List.map_toArray, List.map_cons, List.map_nil]; simp [invoke, egU, Result.andThen, go_sem]) (by intro h; cases h) (callsIn_wide.2 (jUpdateF_no none 0 0 0 0 none 0 0 q0 la c0 (newR 1 1) (newR 1 1) u rfl)) ?_
            rintro e w' ⟨rfl, hb⟩
            exact ⟨_, rfl, (), rfl, trivial, hb, fun _ _ _ => trivial⟩
          case mv =>
            intro o act u x ho hx
            simp only [List.getElem?_toArray, List.getElem?_cons_zero, List.getElem?_cons_succ, Option.some.injEq, Nat.reduceAdd] at ho
            subst ho
            exact plain_wp (by intro c h; cases h) (fun _ _ => trivial) (by simp only [execOp, hx]; simp [go_sem]) ⟨rfl, rfl⟩
          case x0 =>
            intro o act u x y z ho hx
            simp only [List.getElem?_toArray, List.getElem?_cons_zero, List.getElem?_cons_succ, Option.some.injEq, Nat.reduceAdd] at ho
            subst ho
            exact plain_wp (by intro c h; cases h) (fun _ _ => trivial) (by simp only [execOp, hx]; simp [go_sem]) ⟨rfl, rfl⟩
          case x1 =>
            intro o act u x y z ho hx
            simp only [List.getElem?_toArray, List.getElem?_cons_zero, List.getElem?_cons_succ, Option.some.injEq, Nat.reduceAdd] at ho
            subst ho
            exact plain_wp (by intro c h; cases h) (fun _ _ => trivial) (by simp only [execOp, hx]; simp [go_sem]) ⟨rfl, rfl⟩
          case x2 =>
            intro o act u x y z ho hx
            simp only [List.getElem?_toArray, List.getElem?_cons_zero, List.getElem?_cons_succ, Option.some.injEq, Nat.reduceAdd] at ho
            subst ho
            exact plain_wp (by intro c h; cases h) (fun _ _ => trivial) (by simp only [execOp, hx]; simp [go_sem]) ⟨rfl, rfl⟩
          case la =>
            intro o act u ho
            simp only [List.getElem?_toArray, List.getElem?_cons_zero, List.getElem?_cons_succ, Option.some.injEq, Nat.reduceAdd] at ho
            subst ho
            exact plain_wp (by intro c h; cases h) (fun _ _ => trivial) (w' := u.alloc (.cells #[.slice none 0 0, .int .i64 0, .int .i64 0, .slice none 0 0] 31)) (v := .pointer (some ⟨u.heap.size, 0, none⟩)) (by simp only [execOp]; simp [go_sem]) ⟨rfl, SBox.new u _ _ _ _ _ _ _ _ _, (Bl.refl _).alloc _, by simp⟩
          case lb =>
            intro o act u ho
            simp only [List.getElem?_toArray, List.getElem?_cons_zero, List.getElem?_cons_succ, Option.some.injEq, Nat.reduceAdd] at ho
            subst ho
            exact plain_wp (by intro c h; cases h) (fun _ _ => trivial) (w' := u.alloc (.cells #[.int .i64 0, .int .i64 0, .bool false, .int .i64 0, .int .i64 0, .bool false] 37)) (v := .pointer (some ⟨u.heap.size, 0, none⟩)) (by simp only [execOp]; simp [go_sem]) ⟨rfl, NBoxF.new u zeroR zeroR _, (Bl.refl _).alloc _, by simp⟩
          case sa =>
            intro o act u D b ho hA h0 hz hdat hoff hbl hb
            simp only [List.getElem?_toArray, List.getElem?_cons_zero, List.getElem?_cons_succ, Option.some.injEq, Nat.reduceAdd] at ho
            subst ho
            replace h0 : act.eval (.tmp 75) = sJ none 0 0 0 0 none 0 0 := h0
            obtain ⟨d0, d1, d2, d3, g0, g1, g2, g3, lt⟩ := (show SBox u b none 0 0 0 0 none 0 0 from hz)
            exact skip_wp (by intro c h; cases h) (fun _ _ => trivial) (by simp only [execOp, hA, h0]; simp [go_sem, d0, d1, d2, d3, g0, g1, g2, g3]) ⟨rfl, SBox.fill (show SBox u b none 0 0 0 0 none 0 0 from hz) _ _ _ _ _ _ _ _, trivial, Bl.put4 hbl hb _ _ _ _, fun b' h' => heap4F _ h' _ _ _ _, by simp⟩
          case sb =>
            intro o act u D b ho hA h0 hz hdat hoff hbl hb
            simp only [List.getElem?_toArray, List.getElem?_cons_zero, List.getElem?_cons_succ, Option.some.injEq, Nat.reduceAdd] at ho
            subst ho
            replace h0 : act.eval (.tmp 76) = newsVF zeroR zeroR := h0
            obtain ⟨d0, d1, d2, d3, d4, d5, g0, g1, g2, g3, g4, g5, lt⟩ := (show NBoxF u b zeroR zeroR from hz)
            exact skip_wp (by intro c h; cases h) (fun _ _ => trivial) (by simp only [execOp, hA, h0]; simp [go_sem, d0, d1, d2, d3, d4, d5, g0, g1, g2, g3, g4, g5]) ⟨rfl, NBoxF.fill (show NBoxF u b zeroR zeroR from hz) _ _, trivial, blNF b hbl hb _ _, fun b' h' => heapNF _ h' _ _, by simp⟩
          case asg =>
            intro o act u x ho hx
            simp only [List.getElem?_toArray, List.getElem?_cons_zero, List.getElem?_cons_succ, Option.some.injEq, Nat.reduceAdd] at ho
            subst ho
            exact plain_wp (by intro c h; cases h) (fun _ _ => trivial) (by simp only [execOp, hx]; simp [go_sem]) ⟨rfl, rfl⟩
          case fin =>
            intro vs u D b1 b2 hu e9' e5' e6' hb1 hb2 hsa hsb hdat
            simp only [putL, Act.put, List.setIfInBounds_toArray, List.set_cons_zero, List.set_cons_succ, Nat.zero_add, Nat.reduceAdd] at e9' e5' e6' ⊢
            replace e9' := Eq.trans e9' (show _ = Value.bool false from rfl)
            simp only [e9', e5', e6']
            obtain ⟨w7, rfl⟩ : ∃ w7, w7 = u := ⟨_, rfl⟩
            have B7 : Bl w1 w7 := B6.trans hu
            clear hsa hsb hdat
            go_wp2_with fail
            refine (AW.out _).mono ?_
            rintro e w99 ⟨rfl, h99⟩
            go_wp2
            go_ret
            exact ⟨by first | rfl | (simp; omega), B7.trans h99⟩
    · have HFIT := hideP (show fitJ m m N la = false from by unfold fitJ; rw [show (((m : Int) == (la : Int))) = false by simp; omega]; simp)
      have e1 : ((la : Int) == (m : Int)) = false := by simp; omega
      go_wp2_with fail
      rw [← HW2.out]
      refine (wpIn_wide (n := 8)).1 (region_q fm [some 38, some 39, some 40, some 41, some 37, some 42, some 43, some 7, none, some 8] (fun j => j == 6 || j == 9) 8 (by kernel_rfl) (by rfl)
            (fun j v u => match j with | 0 => v = .slice pa la ca | 1 => ∃ q c, v = .slice q la c ∧ Rw 3 cellsF u (.slice q la c) (linJ la (fun i => wholeF (xa.getD i 0))) | 2 => v = mV m m p2 N c2 | 3 => v = .tuple #[sJ none 0 0 0 0 none 0 0, .bool false] | 4 => v = .tuple #[sJ none 0 0 0 0 none 0 0, .bool false] | 5 => v = sJ none 0 0 0 0 none 0 0 | 6 => v = .bool false | 7 => ∃ b, v = .pointer (some ⟨b, 0, none⟩) ∧ W2.heap.size ≤ b ∧ SBox u b none 0 0 0 0 none 0 0 ∧ NoB u b | 9 => v = .bool false | _ => False)
            (by
              intro j v u u' hb h
              split at h <;> first | exact h | (obtain ⟨b, e, h1, h2, h3⟩ := h; exact ⟨b, e, h1, h2.later hb, h3.later hb h2.lt⟩) | (obtain ⟨q, c, p', c', e, h1, h2⟩ := h; exact ⟨q, c, p', c', e, h1.later hb, Mx.later h2 hb⟩) | (obtain ⟨q, c, e, h1⟩ := h; exact ⟨q, c, e, h1.later hb⟩) | (obtain ⟨g, e, h1⟩ := h; exact ⟨g, e, h1.later hb⟩)) (fun vs u0 u => ∃ b, vs 7 = .pointer (some ⟨b, 0, none⟩) ∧ W2.heap.size ≤ b ∧ SBox u b none 0 0 0 0 none 0 0 ∧ Bl W2 u) ?step ?still ?store ?fin)
      case step =>
        intro j o t act u ho hdt hpu hsz hu hfr hin
        have hj : j < 10 := (Array.getElem?_eq_some_iff.1 ho).1
        obtain ⟨y0, y1, y2, _, _, _, _⟩ := k2.later hu
        rcases (by omega : j = 0 ∨ j = 1 ∨ j = 2 ∨ j = 3 ∨ j = 4 ∨ j = 5 ∨ j = 6 ∨ j = 7 ∨ j = 8 ∨ j = 9) with rfl | rfl | rfl | rfl | rfl | rfl | rfl | rfl | rfl | rfl
        · simp only [List.getElem?_toArray, List.getElem?_cons_zero, List.getElem?_cons_succ, Option.some.injEq] at ho
          subst ho
          obtain rfl := Option.some.inj hdt
          have i0 : act.eval (.tmp (0 : Nat)) = .slice pa la ca := hfr 0 (by decide)
          exact plain_wp (by intro c h; cases h) (fun _ _ => trivial) (by simp only [execOp, i0, evalC, evalF, evalG]; simp [go_sem]) ⟨_, rfl, rfl, Bl.refl _⟩
        · simp only [List.getElem?_toArray, List.getElem?_cons_zero, List.getElem?_cons_succ, Option.some.injEq] at ho
          subst ho
          obtain rfl := Option.some.inj hdt
          have i38 : (act.eval (.tmp (38 : Nat))) = .slice pa la ca := hin ⟨0, .data⟩ (by simp) rfl 38 rfl
          refine enter_wp 10 #[.slice pa la ca] (by intro c h; cases h) (fun _ _ => trivial) (by simp only [execOp, evalC, evalF, evalG, resolve, i38, List.map_toArray, List.map_cons, List.map_nil]; simp [invoke, egW, Result.andThen, go_sem]) (by intro h; cases h) (callsIn_wide.2 (WHL.out u (B2.trans hu))) ?_
          rintro e w' ⟨q, c, rfl, hR, hb⟩
          exact ⟨_, rfl, _, rfl, ⟨q, c, rfl, hR⟩, hb⟩
        · simp only [List.getElem?_toArray, List.getElem?_cons_zero, List.getElem?_cons_succ, Option.some.injEq] at ho
          subst ho
          obtain rfl := Option.some.inj hdt
          have i5 : act.eval (.tmp (5 : Nat)) = .pointer (some ⟨w2.heap.size, 0, none⟩) := hfr 5 (by decide)
          exact plain_wp (by intro c h; cases h) (fun _ _ => trivial) (by simp only [execOp, i5, evalC, evalF, evalG]; simp [go_sem, y0, y1, y2]) ⟨_, rfl, rfl, Bl.refl _⟩
        · simp only [List.getElem?_toArray, List.getElem?_cons_zero, List.getElem?_cons_succ, Option.some.injEq] at ho
          subst ho
          obtain rfl := Option.some.inj hdt
          have i39 : ∃ q c, (act.eval (.tmp (39 : Nat))) = .slice q la c ∧ Rw 3 cellsF u (.slice q la c) (linJ la (fun i => wholeF (xa.getD i 0))) := hin ⟨1, .data⟩ (by simp) rfl 39 rfl
          have i40 : (act.eval (.tmp (40 : Nat))) = mV m m p2 N c2 := hin ⟨2, .data⟩ (by simp) rfl 40 rfl
          obtain ⟨q0, c0, e0, hq⟩ := i39
          refine enter_wp 22 #[.slice q0 la c0, mV m m p2 N c2] (by intro c h; cases h) (fun _ _ => trivial) (by simp only [execOp, evalC, evalF, evalG, resolve, e0, i40, List.map_toArray, List.map_cons, List.map_nil]; simp [invoke, egN, Result.andThen, go_sem]) (by intro h; cases h) (callsIn_wide.2 (jNewF_no q0 la c0 m m p2 N c2 u HFIT.out)) ?_
          rintro e w' ⟨rfl, hb⟩
          exact ⟨_, rfl, _, rfl, rfl, hb⟩
        · simp only [List.getElem?_toArray, List.getElem?_cons_zero, List.getElem?_cons_succ, Option.some.injEq] at ho
          subst ho
          obtain rfl := Option.some.inj hdt
          have i41 : (act.eval (.tmp (41 : Nat))) = .tuple #[sJ none 0 0 0 0 none 0 0, .bool false] := hin ⟨3, .data⟩ (by simp) rfl 41 rfl
          have e1 := i41
          exact plain_wp (by intro c h; cases h) (fun _ _ => trivial) (by simp only [execOp, e1]; simp [go_sem]) ⟨_, rfl, rfl, Bl.refl _⟩
        · simp only [List.getElem?_toArray, List.getElem?_cons_zero, List.getElem?_cons_succ, Option.some.injEq] at ho
          subst ho
          obtain rfl := Option.some.inj hdt
          have i37 : (act.eval (.tmp (37 : Nat))) = .tuple #[sJ none 0 0 0 0 none 0 0, .bool false] := hin ⟨4, .data⟩ (by simp) rfl 37 rfl
          have e1 := i37
          exact plain_wp (by intro c h; cases h) (fun _ _ => trivial) (by simp only [execOp, e1]; simp [go_sem]) ⟨_, rfl, rfl, Bl.refl _⟩
        · cases hpu
        · simp only [List.getElem?_toArray, List.getElem?_cons_zero, List.getElem?_cons_succ, Option.some.injEq] at ho
          subst ho
          obtain rfl := Option.some.inj hdt
          exact plain_wp (by intro c h; cases h) (fun _ _ => trivial) (w' := u.alloc (.cells #[.slice none 0 0, .int .i64 0, .int .i64 0, .slice none 0 0] 31)) (v := .pointer (some ⟨u.heap.size, 0, none⟩)) (by simp only [execOp]; simp [go_sem]) ⟨_, rfl, ⟨u.heap.size, rfl, hu.size, SBox.new u _ _ _ _ _ _ _ _ _, noB_newSF u _⟩, (Bl.refl _).alloc _⟩
        · simp only [List.getElem?_toArray, List.getElem?_cons_zero, List.getElem?_cons_succ, Option.some.injEq] at ho
          subst ho
          cases hdt
        · cases hpu
      case still =>
        intro j o t act u0 u ho hdt hpu hsz hu hfr hin
        have hj : j < 10 := (Array.getElem?_eq_some_iff.1 ho).1
        obtain ⟨y0, y1, y2, _, _, _, _⟩ := k2.later hu
        rcases (by omega : j = 0 ∨ j = 1 ∨ j = 2 ∨ j = 3 ∨ j = 4 ∨ j = 5 ∨ j = 6 ∨ j = 7 ∨ j = 8 ∨ j = 9) with rfl | rfl | rfl | rfl | rfl | rfl | rfl | rfl | rfl | rfl
        · cases hpu
        · cases hpu
        · cases hpu
        · cases hpu
        · cases hpu
        · cases hpu
        · simp only [List.getElem?_toArray, List.getElem?_cons_zero, List.getElem?_cons_succ, Option.some.injEq] at ho
          subst ho
          obtain rfl := Option.some.inj hdt
          have i37 : (act.eval (.tmp (37 : Nat))) = .tuple #[sJ none 0 0 0 0 none 0 0, .bool false] := hin ⟨4, .data⟩ (by simp) rfl 37 rfl
          have e1 := i37
          exact plain_wp (by intro c h; cases h) (fun _ _ => trivial) (by simp only [execOp, e1]; simp [go_sem]) ⟨_, rfl, rfl, rfl⟩
        · cases hpu
        · cases hpu
        · simp only [List.getElem?_toArray, List.getElem?_cons_zero, List.getElem?_cons_succ, Option.some.injEq] at ho
          subst ho
          obtain rfl := Option.some.inj hdt
          have i43 : (act.eval (.tmp (43 : Nat))) = .bool false := hin ⟨6, .data⟩ (by simp) rfl 43 rfl
          exact plain_wp (by intro c h; cases h) (fun _ _ => trivial) (by simp only [execOp, i43, evalC, evalF, evalG]; simp [go_sem]) ⟨_, rfl, rfl, rfl⟩
      case store =>
        intro o act u vs ho hsz hu hfr hin
        simp only [List.getElem?_toArray, List.getElem?_cons_zero, List.getElem?_cons_succ, Option.some.injEq] at ho
        subst ho
        obtain ⟨i7, k7⟩ : act.eval (.tmp (7 : Nat)) = vs 7 ∧ (∃ b, (vs 7) = .pointer (some ⟨b, 0, none⟩) ∧ W2.heap.size ≤ b ∧ SBox u b none 0 0 0 0 none 0 0 ∧ NoB u b) := hin 7 7 rfl rfl
        obtain ⟨i42, k42⟩ : act.eval (.tmp (42 : Nat)) = vs 5 ∧ ((vs 5) = sJ none 0 0 0 0 none 0 0) := hin 5 42 rfl rfl
        obtain ⟨b, e1, hb, bx, nb⟩ := k7
        have e2 := k42
        rw [e1] at i7
        rw [e2] at i42
        obtain ⟨d0, d1, d2, d3, g0, g1, g2, g3, ltb⟩ := id bx
        exact skip_wp (by intro c h; cases h) (fun _ _ => trivial) (by simp only [execOp, i7, i42]; simp [go_sem, d0, d1, d2, d3, g0, g1, g2, g3]) ⟨rfl, b, e1, hb, bx.fill _ _ _ _ _ _ _ _, Bl.put4 hu hb _ _ _ _⟩
      case fin =>
        intro vs vb u0 u hu hin hps
        have a0 := hin 0 38 rfl
        have a1 := hin 1 39 rfl
        have a2 := hin 2 40 rfl
        have a3 := hin 3 41 rfl
        have a4 := hin 4 37 rfl
        have a5 := hin 5 42 rfl
        have a6 := hin 6 43 rfl
        have a7 := hin 7 7 rfl
        have a9 := hin 9 8 rfl
        simp only [putL, Act.put, List.setIfInBounds_toArray, List.set_cons_zero, List.set_cons_succ, Nat.zero_add, Nat.reduceAdd, Nat.reduceBEq, Bool.or_false, Bool.or_true, Bool.false_or, Bool.true_or, Bool.false_eq_true, if_false, if_true, reduceIte, Nat.reduceEqDiff, beq_self_eq_true, Bool.or_self] at a0 a1 a2 a3 a4 a5 a6 a7 a9 ⊢
        rw [if_pos (by decide)] at hps
        simp only [a0, a2, a3, a4, a5, a6, a9]
        obtain ⟨b, eb, hb, ks, hbu⟩ := hps
        simp only [eb]
        obtain ⟨w3, rfl⟩ : ∃ w3, w3 = u := ⟨_, rfl⟩
        clear a1 a7 hu hin
        have b23 : Bl W2 w3 := hbu
        have B3 := B2.trans hbu
        have RT := hideP (by have := jRightF none 0 0 0 0 none 0 0 w3; rw [show fitJ 0 0 0 ((0 : Nat) : Int) = false from rfl] at this; exact this)
        have PR := hideP (fun u (hu : Bl w3 u) => jPredictF_no none 0 0 0 0 none 0 0 m m p2 N c2 m m p2 N c2 u rfl)
        obtain ⟨s0, s1, s2, s3, _, _, _, _, _⟩ := id ks
        go_wp2_with fail
        refine RT.out.mono ?_
        rintro e w4 ⟨rfl, h4'⟩
        clear s0 s1 s2 s3
        obtain ⟨s0, s1, s2, s3, _, _, _, _, _⟩ := ks.later h4'
        obtain ⟨y0, y1, y2, _, _, _, _⟩ := k2.later (b23.trans h4')
        go_wp2_with fail
        refine (PR.out _ h4').mono ?_
        rintro e w5 ⟨rfl, h5⟩
        obtain ⟨W6, hW6⟩ : ∃ W6, W6 = w5.alloc (.cells #[.slice none 0 0, .int .i64 0, .int .i64 0, .slice none 0 0] 31) := ⟨_, rfl⟩
        have b6 : Bl w5 W6 := by rw [hW6]; exact (Bl.refl _).alloc _
        have b36 : Bl w3 W6 := h4'.trans (h5.trans b6)
        have B6 := B3.trans b36
        have ks6 := ks.later b36
        have HW6 := hideP hW6
        clear hW6 s0 s1 s2 s3 y0 y1 y2
        go_wp2_with fail
        rw [← HW6.out]
        refine (wpIn_wide (n := 8)).1 (region_u updZF_ok fm [some 69, some 70, some 71, some 72, some 73, some 74, some 68, some 75, some 76, some 77, some 12, some 13, none, none, some 14] 5 (by kernel_rfl) (by rfl) 74 68 75 76 77 12 13 14 rfl
              (fun j v u => match j with | 0 => v = sJ none 0 0 0 0 none 0 0 | 1 => v = .slice pa la ca | 2 => ∃ q c, v = .slice q la c ∧ Rw 3 cellsF u (.slice q la c) (linJ la (fun i => wholeF (xa.getD i 0))) | 3 => v = frV (newR 1 1) | 4 => v = frV (newR 1 1) | _ => False)
              (by
                intro j v u u' hb h
                split at h <;> first | exact h | (obtain ⟨q, c, e, h1⟩ := h; exact ⟨q, c, e, h1.later hb⟩) | (obtain ⟨g, e, h1⟩ := h; exact ⟨g, e, h1.later hb⟩)) ?step ?call ?mv ?x0 ?x1 ?x2 ?la ?lb ?sa ?sb ?asg ?fin)
        case step =>
          intro j o t act u hjk ho hdt hsz hu hfr hin
          obtain ⟨s0, s1, s2, s3, _, _, _, _, _⟩ := ks6.later hu
          rcases (by omega : j = 0 ∨ j = 1 ∨ j = 2 ∨ j = 3 ∨ j = 4) with rfl | rfl | rfl | rfl | rfl
          · simp only [List.getElem?_toArray, List.getElem?_cons_zero, List.getElem?_cons_succ, Option.some.injEq] at ho
            subst ho
            obtain rfl := Option.some.inj hdt
            have i7 : act.eval (.tmp (7 : Nat)) = .pointer (some ⟨b, 0, none⟩) := hfr 7 (by decide)
            exact plain_wp (by intro c h; cases h) (fun _ _ => trivial) (by simp only [execOp, i7, evalC, evalF, evalG]; simp [go_sem, s0, s1, s2, s3]) ⟨_, rfl, rfl, Bl.refl _⟩
          · simp only [List.getElem?_toArray, List.getElem?_cons_zero, List.getElem?_cons_succ, Option.some.injEq] at ho
            subst ho
            obtain rfl := Option.some.inj hdt
            have i0 : act.eval (.tmp (0 : Nat)) = .slice pa la ca := hfr 0 (by decide)
            exact plain_wp (by intro c h; cases h) (fun _ _ => trivial) (by simp only [execOp, i0, evalC, evalF, evalG]; simp [go_sem]) ⟨_, rfl, rfl, Bl.refl _⟩
          · simp only [List.getElem?_toArray, List.getElem?_cons_zero, List.getElem?_cons_succ, Option.some.injEq] at ho
            subst ho
            obtain rfl := Option.some.inj hdt
            have i70 : (act.eval (.tmp (70 : Nat))) = .slice pa la ca := hin ⟨1, .data⟩ (by simp) rfl 70 rfl
            refine enter_wp 10 #[.slice pa la ca] (by intro c h; cases h) (fun _ _ => trivial) (by simp only [execOp, evalC, evalF, evalG, resolve, i70, List.map_toArray, List.map_cons, List.map_nil]; simp [invoke, egW, Result.andThen, go_sem]) (by intro h; cases h) (callsIn_wide.2 (WHL.out u (B6.trans hu))) ?_
            rintro e w' ⟨q, c, rfl, hR, hb⟩
            exact ⟨_, rfl, _, rfl, ⟨q, c, rfl, hR⟩, hb⟩
          · simp only [List.getElem?_toArray, List.getElem?_cons_zero, List.getElem?_cons_succ, Option.some.injEq] at ho
            subst ho
            obtain rfl := Option.some.inj hdt
            refine enter_wp 12 #[.int .i64 1, .int .i64 1] (by intro c h; cases h) (fun _ _ => trivial) (by simp only [execOp, evalC, evalF, evalG, resolve, evalC, List.map_toArray, List.map_cons, List.map_nil]; simp [invoke, egQ, Result.andThen, go_sem]) (by intro h; cases h) (callsIn_wide.2 (new_any 1 1 u)) ?_
            rintro e w' ⟨rfl, hb⟩
            exact ⟨_, rfl, _, rfl, rfl, hb⟩
          · simp only [List.getElem?_toArray, List.getElem?_cons_zero, List.getElem?_cons_succ, Option.some.injEq] at ho
            subst ho
            obtain rfl := Option.some.inj hdt
            refine enter_wp 12 #[.int .i64 1, .int .i64 1] (by intro c h; cases h) (fun _ _ => trivial) (by simp only [execOp, evalC, evalF, evalG, resolve, evalC, List.map_toArray, List.map_cons, List.map_nil]; simp [invoke, egQ, Result.andThen, go_sem]) (by intro h; cases h) (callsIn_wide.2 (new_any 1 1 u)) ?_
            rintro e w' ⟨rfl, hb⟩
            exact ⟨_, rfl, _, rfl, rfl, hb⟩
        case call =>
          intro o act u ho hsz hu hfr hin
          obtain ⟨s0, s1, s2, s3, _, _, _, _, _⟩ := ks6.later hu
          simp only [List.getElem?_toArray, List.getElem?_cons_zero, List.getElem?_cons_succ, Option.some.injEq, Nat.reduceAdd] at ho
          subst ho
          have i69 : (act.eval (.tmp (69 : Nat))) = sJ none 0 0 0 0 none 0 0 := hin ⟨0, .data⟩ (by simp) rfl 69 rfl
          have i71 : ∃ q c, (act.eval (.tmp (71 : Nat))) = .slice q la c ∧ Rw 3 cellsF u (.slice q la c) (linJ la (fun i => wholeF (xa.getD i 0))) := hin ⟨2, .data⟩ (by simp) rfl 71 rfl
          have i72 : (act.eval (.tmp (72 : Nat))) = frV (newR 1 1) := hin ⟨3, .data⟩ (by simp) rfl 72 rfl
          have i73 : (act.eval (.tmp (73 : Nat))) = frV (newR 1 1) := hin ⟨4, .data⟩ (by simp) rfl 73 rfl
          obtain ⟨q0, c0, e0, hq⟩ := i71
          refine enter_wp 11 #[sJ none 0 0 0 0 none 0 0, .slice q0 la c0, frV (newR 1 1), frV (newR 1 1)] (by intro c h; cases h) (fun _ _ => trivial) (by simp only [execOp, evalC, evalF, evalG, resolve, i69, e0, i72, i73, List.map_toArray, List.map_cons, List.map_nil]; simp [invoke, egU, Result.andThen, go_sem]) (by intro h; cases h) (callsIn_wide.2 (jUpdateF_no none 0 0 0 0 none 0 0 q0 la c0 (newR 1 1) (newR 1 1) u rfl)) ?_
          rintro e w' ⟨rfl, hb⟩
          exact ⟨_, rfl, (), rfl, trivial, hb, fun _ _ _ => trivial⟩
        case mv =>
          intro o act u x ho hx
          simp only [List.getElem?_toArray, List.getElem?_cons_zero, List.getElem?_cons_succ, Option.some.injEq, Nat.reduceAdd] at ho
          subst ho
          exact plain_wp (by intro c h; cases h) (fun _ _ => trivial) (by simp only [execOp, hx]; simp [go_sem]) ⟨rfl, rfl⟩
        case x0 =>
          intro o act u x y z ho hx
          simp only [List.getElem?_toArray, List.getElem?_cons_zero, List.getElem?_cons_succ, Option.some.injEq, Nat.reduceAdd] at ho
          subst ho
          exact plain_wp (by intro c h; cases h) (fun _ _ => trivial) (by simp only [execOp, hx]; simp [go_sem]) ⟨rfl, rfl⟩
        case x1 =>
          intro o act u x y z ho hx
          simp only [List.getElem?_toArray, List.getElem?_cons_zero, List.getElem?_cons_succ, Option.some.injEq, Nat.reduceAdd] at ho
          subst ho
          exact plain_wp (by intro c h; cases h) (fun _ _ => trivial) (by simp only [execOp, hx]; simp [go_sem]) ⟨rfl, rfl⟩
        case x2 =>
          intro o act u x y z ho hx
          simp only [List.getElem?_toArray, List.getElem?_cons_zero, List.getElem?_cons_succ, Option.some.injEq, Nat.reduceAdd] at ho
          subst ho
          exact plain_wp (by intro c h; cases h) (fun _ _ => trivial) (by simp only [execOp, hx]; simp [go_sem]) ⟨rfl, rfl⟩
        case la =>
          intro o act u ho
          simp only [List.getElem?_toArray, List.getElem?_cons_zero, List.getElem?_cons_succ, Option.some.injEq, Nat.reduceAdd] at ho
          subst ho
          exact plain_wp (by intro c h; cases h) (fun _ _ => trivial) (w' := u.alloc (.cells #[.slice none 0 0, .int .i64 0, .int .i64 0, .slice none 0 0] 31)) (v := .pointer (some ⟨u.heap.size, 0, none⟩)) (by simp only [execOp]; simp [go_sem]) ⟨rfl, SBox.new u _ _ _ _ _ _ _ _ _, (Bl.refl _).alloc _, by simp⟩
        case lb =>
          intro o act u ho
          simp only [List.getElem?_toArray, List.getElem?_cons_zero, List.getElem?_cons_succ, Option.some.injEq, Nat.reduceAdd] at ho
          subst ho
          exact plain_wp (by intro c h; cases h) (fun _ _ => trivial) (w' := u.alloc (.cells #[.int .i64 0, .int .i64 0, .bool false, .int .i64 0, .int .i64 0, .bool false] 37)) (v := .pointer (some ⟨u.heap.size, 0, none⟩)) (by simp only [execOp]; simp [go_sem]) ⟨rfl, NBoxF.new u zeroR zeroR _, (Bl.refl _).alloc _, by simp⟩
        case sa =>
          intro o act u D b ho hA h0 hz hdat hoff hbl hb
          simp only [List.getElem?_toArray, List.getElem?_cons_zero, List.getElem?_cons_succ, Option.some.injEq, Nat.reduceAdd] at ho
          subst ho
          replace h0 : act.eval (.tmp 75) = sJ none 0 0 0 0 none 0 0 := h0
          obtain ⟨d0, d1, d2, d3, g0, g1, g2, g3, lt⟩ := (show SBox u b none 0 0 0 0 none 0 0 from hz)
          exact skip_wp (by intro c h; cases h) (fun _ _ => trivial) (by simp only [execOp, hA, h0]; simp [go_sem, d0, d1, d2, d3, g0, g1, g2, g3]) ⟨rfl, SBox.fill (show SBox u b none 0 0 0 0 none 0 0 from hz) _ _ _ _ _ _ _ _, trivial, Bl.put4 hbl hb _ _ _ _, fun b' h' => heap4F _ h' _ _ _ _, by simp⟩
        case sb =>
          intro o act u D b ho hA h0 hz hdat hoff hbl hb
          simp only [List.getElem?_toArray, List.getElem?_cons_zero, List.getElem?_cons_succ, Option.some.injEq, Nat.reduceAdd] at ho
          subst ho
          replace h0 : act.eval (.tmp 76) = newsVF zeroR zeroR := h0
          obtain ⟨d0, d1, d2, d3, d4, d5, g0, g1, g2, g3, g4, g5, lt⟩ := (show NBoxF u b zeroR zeroR from hz)
          exact skip_wp (by intro c h; cases h) (fun _ _ => trivial) (by simp only [execOp, hA, h0]; simp [go_sem, d0, d1, d2, d3, d4, d5, g0, g1, g2, g3, g4, g5]) ⟨rfl, NBoxF.fill (show NBoxF u b zeroR zeroR from hz) _ _, trivial, blNF b hbl hb _ _, fun b' h' => heapNF _ h' _ _, by simp⟩
        case asg =>
          intro o act u x ho hx
          simp only [List.getElem?_toArray, List.getElem?_cons_zero, List.getElem?_cons_succ, Option.some.injEq, Nat.reduceAdd] at ho
          subst ho
          exact plain_wp (by intro c h; cases h) (fun _ _ => trivial) (by simp only [execOp, hx]; simp [go_sem]) ⟨rfl, rfl⟩
        case fin =>
          intro vs u D b1 b2 hu e9' e5' e6' hb1 hb2 hsa hsb hdat
          simp only [putL, Act.put, List.setIfInBounds_toArray, List.set_cons_zero, List.set_cons_succ, Nat.zero_add, Nat.reduceAdd] at e9' e5' e6' ⊢
          replace e9' := Eq.trans e9' (show _ = Value.bool false from rfl)
          simp only [e9', e5', e6']
          obtain ⟨w7, rfl⟩ : ∃ w7, w7 = u := ⟨_, rfl⟩
          have B7 : Bl w1 w7 := B6.trans hu
          clear hsa hsb hdat
          go_wp2_with fail
          refine (AW.out _).mono ?_
          rintro e w99 ⟨rfl, h99⟩
          go_wp2
          go_ret
          exact ⟨by first | rfl | (simp; omega), B7.trans h99⟩
end Go.Proofs.Ytlbmkjicbkfmjaa

/- A slice of whole numbers as an argument: opened. -/
namespace Go.Proofs.Ytlbmkjicbkfmjaa
open Go.ChangeShapes Go.WideShapes Go.ChangeAt Go.RowKit
set_option linter.unusedVariables false

theorem Try.cellsInt : Try.prog.cellsOf 3 = 1 := by kernel_rfl
theorem cell_block_lt {W : World} {b o : Nat} {v : Value} (h : W.cell? ⟨b, o, none⟩ = some v) : b < W.heap.size := by
  rcases Nat.lt_or_ge b W.heap.size with h' | h'
  · exact h'
  · have : W.heap[b]? = none := Array.getElem?_eq_none h'
    simp [World.cell?, this] at h
set_option maxRecDepth 1000000 in
theorem open_row {H : Type} {enc : TypeId × Value → H} {W : World} {b0 : Nat} {v : Value} {d : DataW H} {p : List MemPlace}
    (hv : Value.okWide Try.prog W .any b0 22 v) (h : DataW.Trod enc Try.prog W 0 (fun _ => true) true 22 v d p) : ∃ ns : List Int, Rq 1 cI W v ns ∧ ∀ n ∈ ns, (Lit.int .i64 n).wf = true := by
  obtain ⟨a0, len, cap, rfl⟩ := okWide_slice Try.underlying22 hv
  obtain ⟨fuel, hf⟩ := h
  rcases open_ints Try.underlying22 Try.underlying3 Try.cellsInt hf with ⟨hcs, hx⟩ | ⟨a, len', cap', zs, hcs, _, hl, hm, hz, hx, hcell, hwz⟩
  · simp [Value.cells] at hcs
    obtain ⟨rfl, rfl, rfl⟩ := hcs
    exact ⟨[], .inl ⟨none, 0, rfl, rfl, fun _ => rfl⟩, fun n hn => by simp at hn⟩
  · simp [Value.cells] at hcs
    obtain ⟨rfl, rfl, rfl⟩ := hcs
    simp only [if_true] at hz
    refine ⟨zs.take len, ?_, fun n hn => hwz n (List.mem_of_mem_take hn)⟩
    by_cases h0 : len = 0
    · subst h0
      exact .inl ⟨some a, cap, rfl, by simp, nofun⟩
    · have c0 := hcell 0 (by omega)
      obtain ⟨b, off, rfl, hc⟩ := ints_at hcell (by omega)
      have hb : b < W.heap.size := by
        have := hc 0 (by omega)
        exact cell_block_lt this
      have hll : (zs.take len).length = len := by simp; omega
      refine .inr ⟨b, off, cap, by rw [hll], by omega, hb, fun j x hj k u hu => ?_⟩
      rcases k with _ | k
      · simp at hu
        subst hu
        have hj2 := (List.getElem?_eq_some_iff.1 hj).1
        have := hc j (by omega)
        rw [List.getElem?_take] at hj
        split at hj
        · have e : zs.getD j 0 = x := by simp [List.getD, hj]
          rw [e] at this
          simpa using this
        · cases hj
      · simp at hu
end Go.Proofs.Ytlbmkjicbkfmjaa

/- States that may not be, and what does not go with them, are not predicted, or updated, in fractions. Conditions: none (every input). -/
namespace Go.Proofs.Ytlbmkjicbkfmjaa
open Go.ChangeShapes Go.WideShapes Go.ChangeAt Go.RowKit
set_option linter.unusedVariables false

theorem own_JosephWrong : ownKnob Try.prog.godebug = none := by kernel_rfl
theorem laid_JosephWrong : laidOutB Try.prog = true := by kernel_rfl
set_option maxRecDepth 100000 in
theorem lifted_JosephWrong (os : Os) (started : os.Started) (H : Type) (enc : TypeId × Value → H) :
    ReturnsInHanded {} Try.checked os 4 .any (Rows.josephWrongSpec.pre6 enc Try.prog Try.f4 Rows.josephWrongRow.domain false) (Rows.josephWrongSpec.post enc Try.prog Try.f4 false true false false) := by
  refine returnsInHanded_of_change (C := Try.checked) own_JosephWrong started (by kernel_rfl) Try.func4
    (ChangeSpec.witness6 (enc := enc) (C := Try.checked) false ⟨#[], #[.slice none 0 0, .int .i64 0], []⟩ 8 (by kernel_rfl) (by kernel_rfl) (by kernel_rfl) (by kernel_rfl)) ?_
  intro W base args ds gs before hval0 hW hcnd _
  have hval : ∀ (j : Nat) t v, Try.f4.params[j]? = some t → args[j]? = some v → Value.okWide Try.prog W .any base t v := hval0
  have hW' := hW
  obtain ⟨p, q, hA0, hV, rfl, hfz, hnd⟩ := hW
  have hA : DataW.TrodAll enc Try.prog W 0 (fun _ => true) true Try.f4.params.toList args.toList ds p := hA0
  rw [Try.params4] at hA hval
  obtain ⟨v0, vs0, d0, ds0, p0, q0, hargs, rfl, rfl, h0, r0⟩ := trodAll_cons hA
  obtain ⟨v1, vs1, d1, ds1, p1, q1, rfl, rfl, rfl, h1, r1⟩ := trodAll_cons r0
  obtain ⟨rfl, rfl, rfl⟩ := trodAll_nil r1
  obtain rfl : args = #[v0, v1] := by cases args; simp_all
  obtain ⟨rfl, rfl⟩ := trodVars_none hV
  have hltA := fun x hx => hW'.lt x hx
  obtain ⟨a0, R0, w0⟩ := open_row (hval 0 22 v0 rfl rfl) h0
  obtain ⟨a1, e1, _, _, w1⟩ := open_int Try.underlying3 (hval 1 3 v1 rfl rfl) h1
  subst e1
  clear hA0 hval0
  refine (walk_JosephWrong v0 a0 a1 W R0).mono fun e W' ⟨he, bel⟩ => ?_
  subst he
  exact ⟨_, rfl, _, _, _, [], _, [], hW', trodAll_mk1 (shut_bool Try.underlying4 _), (trodAll_cons_mk (Below.trod laid_JosephWrong (by kernel_rfl) (of_decide_eq_true (by kernel_rfl)) h0 bel (fun x hx => by have := hltA x (by simp [hx]); simpa using this)) (trodAll_cons_mk (Below.trod laid_JosephWrong (by kernel_rfl) (of_decide_eq_true (by kernel_rfl)) h1 bel (fun x hx => by have := hltA x (by simp [hx]); simpa using this)) trodAll_mk0)), rfl, Below.frame bel _, fun h => by cases h⟩

theorem proved_JosephWrong : Rows.JosephWrongSaid :=
  OpenClaim.holds_of_wide 4 Try.f4 rfl rfl rfl rfl rfl rfl rfl ⟨rfl, rfl, rfl, rfl, rfl⟩ rfl rfl rfl rfl rfl (by kernel_rfl) Try.func4 (by kernel_rfl)
    (of_decide_eq_true (by kernel_rfl)) (by unfold Func.isWrapper; first | (rw [if_pos (by decide +kernel)]; kernel_rfl) | (rw [if_neg (by decide +kernel)]; exact ⟨rfl, rfl⟩))
    (fun os started H enc _ => lifted_JosephWrong os started H enc)
#print axioms proved_JosephWrong
end Go.Proofs.Ytlbmkjicbkfmjaa
