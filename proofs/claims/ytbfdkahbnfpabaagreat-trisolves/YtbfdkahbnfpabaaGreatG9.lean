/- TriSolves: a lower triangle of whole numbers, with a diagonal without 0, times what is solved, is what was asked, in fractions; enclosed ones enclose it (of 5 by 5 at most, numbers from -100 up to 100; where all fractions may be). Conditions: none (every input). -/
import Derived.Test.YtbfdkahbnfpabaaGreatG8
import Derived.Test.YtbfdkahbnfpabaaGreatG0
import Derived.ProofKit
import Derived.OpenShut
import Derived.Carry
/- The walk of TriSolves. Written by genTk.py. -/
namespace Go.Proofs.YtbfdkahbnfpabaaGreat
open Go.RowKit
set_option linter.unusedSimpArgs false
set_option linter.unusedVariables false

set_option maxRecDepth 100000 in
set_option maxHeartbeats 4000000 in
theorem walk_TriSolves (va : Value) (xa : List Int) (vb : Value) (xb : List Int) (n : Int) (w : World) (ha : Rq 1 cI w va xa) (hb : Rq 1 cI w vb xb) :
    Calls Tryz.prog 4 #[va, vb, .int .i64 n] w fun e w' => e = .returned (.bool true) ∧ Bl w w' := by
  have AW := hideP awake7_any
  have F1 := hideP (sides_any va xa n w ha)
  have F2 := hideP (few6_any vb xb w hb)
  obtain ⟨pa, ca, rfl, _, _⟩ := ha.cut
  obtain ⟨pb, cb, rfl, _, _⟩ := hb.cut
  obtain ⟨la, hla⟩ : ∃ la, la = xa.length := ⟨_, rfl⟩
  obtain ⟨lb, hlb⟩ : ∃ lb, lb = xb.length := ⟨_, rfl⟩
  rw [← hla] at F1 ha ⊢
  rw [← hlb] at F2 hb ⊢
  have HA := hideP ha
  have HB := hideP hb
  have HLA := hideP hla
  have HLB := hideP hlb
  clear ha hb hla hlb
  go_enter Tryz.func4, Tryz.ntmps4
  go_wp2_with fail
  refine F1.out.mono ?_
  rintro e w1 ⟨b1, rfl, hb1, rfl⟩
  clear F1
  cases b1 with
  | false =>
    go_wp2_with fail
    refine (AW.out _).mono ?_
    rintro e w99 ⟨rfl, h99⟩
    go_wp2
    go_ret
    exact ⟨rfl, (Bl.refl _).trans h99⟩
  | true =>
    have HB1 := hideP (hb1 rfl)
    clear hb1
    by_cases h20 : (lb : Int) > 20
    · go_wp2_with fail
      refine (AW.out _).mono ?_
      rintro e w99 ⟨rfl, h99⟩
      go_wp2
      go_ret
      exact ⟨rfl, (Bl.refl _).trans h99⟩
    · go_wp2_with fail
      refine F2.out.mono ?_
      rintro e w1 ⟨b2, rfl, hb2, rfl⟩
      clear F2
      cases b2 with
      | false =>
        go_wp2_with fail
        refine (AW.out _).mono ?_
        rintro e w99 ⟨rfl, h99⟩
        go_wp2
        go_ret
        exact ⟨rfl, (Bl.refl _).trans h99⟩
      | true =>
        obtain ⟨n1, n5, hl, s1⟩ := HB1.out
        obtain ⟨_, s2⟩ := hb2 rfl
        clear hb2
        obtain ⟨m, rfl⟩ := Int.eq_ofNat_of_zero_le (show 0 ≤ n by omega)
        have hl2 : xa.length = m * m := by rw [← Int.natCast_mul] at hl; omega
        have hd : Dim m m := ⟨by omega, by omega, by omega, by omega⟩
        have hlam : la = m * m := by rw [HLA.out]; exact hl2
        have hfit : fitB m m la = true := fitB_dim hd hlam
        have WH := hideP (fun u (hu : Bl w1 u) => whole6_call m m pa la ca xa u (HA.out.later hu) hfit (by rw [← HLA.out]) s1)
        have HLM := hideP hlam
        have HD := hideP hd
        obtain ⟨fa, hfa⟩ : ∃ fa, fa = ofL m xa := ⟨_, rfl⟩
        have sm : Sm2 100 m m fa := by rw [hfa]; exact ofL_sml hl2 s1
        have SM := hideP sm
        have HFA := hideP hfa
        have HXA := hideP (show xa = mk m m fa by rw [hfa]; exact ofL_mk hl2)
        have S2 := hideP s2
        have m5 : m ≤ 5 := by omega
        have m1' : 1 ≤ m := by omega
        have hN25 : la ≤ 25 := by rw [hlam]; exact Nat.mul_le_mul m5 m5
        have lb20 : lb ≤ 20 := by omega
        have fm : Tryz.prog.follows .mixedOrders = true := by kernel_rfl
        have egWF := enters_of Tryz.func17 (by kernel_rfl) rfl
        have egSF := enters_of Tryz.func16 (by kernel_rfl) rfl
        have egWN := enters_of Tryz.func21 (by kernel_rfl) rfl
        have egSN := enters_of Tryz.func20 (by kernel_rfl) rfl
        clear hl hl2 hd hlam s1 s2 n1 n5 sm hfit h20 hfa
        go_wp2_with fail
        refine (WH.out _ (Bl.refl _)).mono ?_
        rintro e w2 ⟨p1, c1, rfl, hx, h2⟩
        rw [← HFA.out] at hx
        have HX := hideP hx
        clear hx WH
        obtain ⟨W2, hW2⟩ : ∃ W2, W2 = w2.alloc (.cells #[.int .i64 m, .int .i64 m, .slice p1 la c1] 28) := ⟨_, rfl⟩
        have b2 : Bl w2 W2 := by rw [hW2]; exact (Bl.refl _).alloc _
        have k2 := MBox.new w2 m m p1 la c1 28
        rw [← hW2] at k2
        have HX2 := hideP (HX.out.later b2)
        have WBF := hideP (fun u (hu : Bl W2 u) => wholeF8 pb lb cb xb u (HB.out.later ((h2.trans b2).trans hu)) HLB.out.symm (by omega))
        go_wp2_with fail
        rw [← hW2]
        have HW2 := hideP hW2
        clear hW2 HX
        by_cases hlm : lb = m
        · subst hlm
          obtain ⟨XF, hXF⟩ : ∃ XF, XF = solI lb fa (fun i => xb.getD i 0) := ⟨_, rfl⟩
          obtain ⟨XN, hXN⟩ : ∃ XN, XN = solN lb fa (fun i => xb.getD i 0) := ⟨_, rfl⟩
          have SVF := hideP (fun q c u (hu : Bl W2 u) (hr : Rw 3 cellsF u (.slice q lb c) ((List.range lb).map fun i => wholeF (xb.getD i 0))) => by
            have := tSolveF lb p1 la c1 (fun i k => itF (fa i k)) q c (fun i => wholeF (xb.getD i 0)) u (HX2.out.later hu) hr.q
            rw [show solveTo subR divR dotF (fun i k => itF (fa i k)) (fun i => wholeF (xb.getD i 0)) lb = XF from hXF.symm] at this
            exact this)
          have hlx : XF.length = lb := by rw [hXF]; exact solveTo_len _ _ _ _ _ _
          have hlz : XN.length = lb := by rw [hXN]; exact solveTo_len _ _ _ _ _ _
          have HXF := hideP hXF
          have HXN := hideP hXN
          have HLX := hideP hlx
          have HLZ := hideP hlz
          clear hXF hXN hlx hlz
          refine (wpIn_wide (n := 8)).1 (region_q fm [some 43, some 44, some 45, some 46, some 42, some 47, some 48, some 9, some 10] (fun _ => false) 9 (by kernel_rfl) (by rfl)
            (fun j v u => match j with | 0 => v = mV lb lb p1 la c1 | 1 => v = .slice pb lb cb | 2 => ∃ q c, v = .slice q lb c ∧ Rw 3 cellsF u (.slice q lb c) ((List.range lb).map fun i => wholeF (xb.getD i 0)) | 3 => ∃ q c, v = .tuple #[.slice q lb c, .bool true] ∧ Rw 3 cellsF u (.slice q lb c) XF | 4 => ∃ q c, v = .tuple #[.slice q lb c, .bool true] ∧ Rw 3 cellsF u (.slice q lb c) XF | 5 => ∃ q c, v = .slice q lb c ∧ Rw 3 cellsF u (.slice q lb c) XF | 6 => v = .bool true | 7 => ∃ q c, v = .slice q lb c ∧ Rw 3 cellsF u (.slice q lb c) XF | 8 => v = .bool true | _ => False)
            (by
                intro j v u u' hb h
                split at h <;> first | exact h | (obtain ⟨q, c, e, h1⟩ := h; exact ⟨q, c, e, h1.later hb⟩) | exact h.elim) (fun vs u0 u => u = u0) ?step ?still ?store ?fin)
          case step =>
            intro j o t act u ho hdt hpu hsz hu hfr hin
            have hj : j < 9 := (Array.getElem?_eq_some_iff.1 ho).1
            obtain ⟨cc0, cc1, cc2, _, _, _, _⟩ := k2.later hu
            rcases (by omega : j = 0 ∨ j = 1 ∨ j = 2 ∨ j = 3 ∨ j = 4 ∨ j = 5 ∨ j = 6 ∨ j = 7 ∨ j = 8) with rfl | rfl | rfl | rfl | rfl | rfl | rfl | rfl | rfl
            · simp only [List.getElem?_toArray, List.getElem?_cons_zero, List.getElem?_cons_succ, Option.some.injEq] at ho
              subst ho
              obtain rfl := Option.some.inj hdt
              have i7 : act.eval (.tmp (7 : Nat)) = .pointer (some ⟨w2.heap.size, 0, none⟩) := hfr 7 (by decide)
              exact plain_wp (by intro c h; cases h) (fun _ _ => trivial) (by simp only [execOp, i7, evalC, evalF, evalG]; simp [go_sem, cc0, cc1, cc2]) ⟨_, rfl, rfl, Bl.refl _⟩
            · simp only [List.getElem?_toArray, List.getElem?_cons_zero, List.getElem?_cons_succ, Option.some.injEq] at ho
              subst ho
              obtain rfl := Option.some.inj hdt
              have i1 : act.eval (.tmp (1 : Nat)) = .slice pb lb cb := hfr 1 (by decide)
              exact plain_wp (by intro c h; cases h) (fun _ _ => trivial) (by simp only [execOp, i1, evalC, evalF, evalG]; simp [go_sem]) ⟨_, rfl, rfl, Bl.refl _⟩
            · simp only [List.getElem?_toArray, List.getElem?_cons_zero, List.getElem?_cons_succ, Option.some.injEq] at ho
              subst ho
              obtain rfl := Option.some.inj hdt
              have i44 : (act.eval (.tmp (44 : Nat))) = .slice pb lb cb := hin ⟨1, .data⟩ (by simp) rfl 44 rfl
              refine enter_wp 17 #[.slice pb lb cb] (by intro c h; cases h) (fun _ _ => trivial) (by simp only [execOp, evalC, evalF, evalG, resolve, i44, List.map_toArray, List.map_cons, List.map_nil]; simp [invoke, egWF, Result.andThen, go_sem]) (by intro h; cases h) (callsIn_wide.2 (WBF.out u hu)) ?_
              rintro e w' ⟨q, c, rfl, hr, hb⟩
              exact ⟨_, rfl, _, rfl, ⟨q, c, rfl, hr⟩, hb⟩
            · simp only [List.getElem?_toArray, List.getElem?_cons_zero, List.getElem?_cons_succ, Option.some.injEq] at ho
              subst ho
              obtain rfl := Option.some.inj hdt
              have i43 : (act.eval (.tmp (43 : Nat))) = mV lb lb p1 la c1 := hin ⟨0, .data⟩ (by simp) rfl 43 rfl
              have i45 : ∃ q c, (act.eval (.tmp (45 : Nat))) = .slice q lb c ∧ Rw 3 cellsF u (.slice q lb c) ((List.range lb).map fun i => wholeF (xb.getD i 0)) := hin ⟨2, .data⟩ (by simp) rfl 45 rfl
              obtain ⟨q, c, e1, hr⟩ := i45
              refine enter_wp 16 #[mV lb lb p1 la c1, .slice q lb c] (by intro c h; cases h) (fun _ _ => trivial) (by simp only [execOp, evalC, evalF, evalG, resolve, i43, e1, List.map_toArray, List.map_cons, List.map_nil]; simp [invoke, egSF, Result.andThen, go_sem]) (by intro h; cases h) (callsIn_wide.2 (SVF.out q c u hu hr)) ?_
              rintro e w' ⟨q, c, rfl, hr, hb⟩
              exact ⟨_, rfl, _, rfl, ⟨q, c, rfl, hr⟩, hb⟩
            · simp only [List.getElem?_toArray, List.getElem?_cons_zero, List.getElem?_cons_succ, Option.some.injEq] at ho
              subst ho
              obtain rfl := Option.some.inj hdt
              have i46 : ∃ q c, (act.eval (.tmp (46 : Nat))) = .tuple #[.slice q lb c, .bool true] ∧ Rw 3 cellsF u (.slice q lb c) XF := hin ⟨3, .data⟩ (by simp) rfl 46 rfl
              obtain ⟨q, c, e1, hr⟩ := i46
              exact plain_wp (by intro c h; cases h) (fun _ _ => trivial) (by simp only [execOp, e1, evalC, evalF, evalG]; simp [go_sem]) ⟨_, rfl, ⟨q, c, rfl, hr⟩, Bl.refl _⟩
            · simp only [List.getElem?_toArray, List.getElem?_cons_zero, List.getElem?_cons_succ, Option.some.injEq] at ho
              subst ho
              obtain rfl := Option.some.inj hdt
              have i42 : ∃ q c, (act.eval (.tmp (42 : Nat))) = .tuple #[.slice q lb c, .bool true] ∧ Rw 3 cellsF u (.slice q lb c) XF := hin ⟨4, .data⟩ (by simp) rfl 42 rfl
              obtain ⟨q, c, e1, hr⟩ := i42
              exact plain_wp (by intro c h; cases h) (fun _ _ => trivial) (by simp only [execOp, e1, evalC, evalF, evalG]; simp [go_sem]) ⟨_, rfl, ⟨q, c, rfl, hr⟩, Bl.refl _⟩
            · simp only [List.getElem?_toArray, List.getElem?_cons_zero, List.getElem?_cons_succ, Option.some.injEq] at ho
              subst ho
              obtain rfl := Option.some.inj hdt
              have i42 : ∃ q c, (act.eval (.tmp (42 : Nat))) = .tuple #[.slice q lb c, .bool true] ∧ Rw 3 cellsF u (.slice q lb c) XF := hin ⟨4, .data⟩ (by simp) rfl 42 rfl
              obtain ⟨q, c, e1, hr⟩ := i42
              exact plain_wp (by intro c h; cases h) (fun _ _ => trivial) (by simp only [execOp, e1, evalC, evalF, evalG]; simp [go_sem]) ⟨_, rfl, rfl, Bl.refl _⟩
            · simp only [List.getElem?_toArray, List.getElem?_cons_zero, List.getElem?_cons_succ, Option.some.injEq] at ho
              subst ho
              obtain rfl := Option.some.inj hdt
              have i47 : ∃ q c, (act.eval (.tmp (47 : Nat))) = .slice q lb c ∧ Rw 3 cellsF u (.slice q lb c) XF := hin ⟨5, .data⟩ (by simp) rfl 47 rfl
              obtain ⟨q, c, e1, hr⟩ := i47
              exact plain_wp (by intro c h; cases h) (fun _ _ => trivial) (by simp only [execOp, e1, evalC, evalF, evalG]; simp [go_sem]) ⟨_, rfl, ⟨q, c, rfl, hr⟩, Bl.refl _⟩
            · simp only [List.getElem?_toArray, List.getElem?_cons_zero, List.getElem?_cons_succ, Option.some.injEq] at ho
              subst ho
              obtain rfl := Option.some.inj hdt
              have i48 : (act.eval (.tmp (48 : Nat))) = .bool true := hin ⟨6, .data⟩ (by simp) rfl 48 rfl
              exact plain_wp (by intro c h; cases h) (fun _ _ => trivial) (by simp only [execOp, i48, evalC, evalF, evalG]; simp [go_sem]) ⟨_, rfl, rfl, Bl.refl _⟩
          case still =>
            intro j o t act u0 u ho hdt hpu
            cases hpu
          case store =>
            intro o act u vs ho
            cases ho
          case fin =>
            intro vs vb u0 u hu hin hps
            have a0 := hin 0 43 rfl
            have a1 := hin 1 44 rfl
            have a2 := hin 2 45 rfl
            have a3 := hin 3 46 rfl
            have a4 := hin 4 42 rfl
            have a5 := hin 5 47 rfl
            have a6 := hin 6 48 rfl
            have a7 := hin 7 9 rfl
            have a8 := hin 8 10 rfl
            simp only [putL, Act.put, List.setIfInBounds_toArray, List.set_cons_zero, List.set_cons_succ, Nat.zero_add, Nat.reduceAdd, Nat.reduceBEq, Bool.or_false, Bool.or_true, Bool.false_or, Bool.true_or, Bool.false_eq_true, if_false, if_true, reduceIte, Nat.reduceEqDiff, beq_self_eq_true, Bool.or_self] at a0 a1 a2 a3 a4 a5 a6 a7 a8 ⊢
            rw [if_neg (by decide)] at hps
            simp only [a0, a1, a6, a8]
            subst hps
            obtain ⟨q9, c9, e9, r9⟩ := a7
            simp only [e9]
            have R9 := hideP r9
            clear a2 a3 a4 a5 r9 e9 SVF WBF
            obtain ⟨x0, x1, x2, _, _, _, lt2⟩ := k2.later hu
            go_wp2_with fail
            refine (tClearF lb p1 la c1 _ u (HX2.out.later hu)).mono ?_
            rintro e w5 ⟨p5, c5, rfl, ⟨hc, _⟩, h5⟩
            have HC := hideP (show MxI w5 lb lb p5 la c5 (clrI fa) from hc.congr fun i k _ _ => clrF_it8 fa i k)
            clear hc x0 x1 x2
            obtain ⟨W5, hW5⟩ : ∃ W5, W5 = w5.alloc (.cells #[.int .i64 lb, .int .i64 lb, .slice p5 la c5] 28) := ⟨_, rfl⟩
            have b5 : Bl w5 W5 := by rw [hW5]; exact (Bl.refl _).alloc _
            go_wp2_with fail
            rw [← hW5]
            have HW5 := hideP hW5
            clear hW5
            refine (mApplyF lb lb p5 la c5 _ q9 c9 XF W5 (HC.out.later b5) (R9.out.later (h5.trans b5)).q HLX.out).mono ?_
            rintro e w6 ⟨q13, c13, rfl, hy, h6⟩
            obtain ⟨YF, hYF⟩ : ∃ YF, YF = (List.range lb).map fun i => dotF (rowM lb (fun i k => itF (clrI fa i k)) i) XF := ⟨_, rfl⟩
            rw [← hYF] at hy
            have R13 := hideP hy
            have HYF := hideP hYF
            clear hy hYF HC
            go_wp2_with fail
            refine (whole7N_call lb lb pa la ca fa w6 (by rw [← HXA.out]; exact HA.out.later ((h2.trans b2).trans (hu.trans (h5.trans (b5.trans h6))))) HD.out HLM.out).mono ?_
            rintro e w7 ⟨p7, c7, rfl, hz, h7⟩
            have HZ := hideP hz
            clear hz
            obtain ⟨W7, hW7⟩ : ∃ W7, W7 = w7.alloc (.cells #[.int .i64 lb, .int .i64 lb, .slice p7 la c7] 36) := ⟨_, rfl⟩
            have b7 : Bl w7 W7 := by rw [hW7]; exact (Bl.refl _).alloc _
            have k7 := MBox.new w7 lb lb p7 la c7 36
            rw [← hW7] at k7
            have b57 : Bl w5 W7 := b5.trans (h6.trans (h7.trans b7))
            have bu7 : Bl u W7 := h5.trans b57
            have b67 : Bl w6 W7 := h7.trans b7
            have HB7 := hideP (show Bl w1 W7 from (h2.trans b2).trans (hu.trans bu7))
            have HZ7 := hideP (HZ.out.later b7)
            have WBN := hideP (fun u (hu : Bl W7 u) => wholeN8 pb lb cb xb u (HB.out.later (HB7.out.trans hu)) HLB.out.symm (by omega))
            have SVN := hideP (fun q c u (hu : Bl W7 u) (hr : Rw 4 cellsN u (.slice q lb c) ((List.range lb).map fun i => wholeN (xb.getD i 0))) => by
              have := tSolveN lb p7 la c7 (fun i k => wholeN (fa i k)) q c (fun i => wholeN (xb.getD i 0)) u (HZ7.out.later hu) hr.q
              rw [show solveTo subE divE dotN (fun i k => wholeN (fa i k)) (fun i => wholeN (xb.getD i 0)) lb = XN from HXN.out.symm] at this
              exact this)
            go_wp2_with fail
            rw [← hW7]
            have HW7 := hideP hW7
            clear hW7 HZ
            refine (wpIn_wide (n := 8)).1 (region_q fm [some 82, some 83, some 84, some 85, some 81, some 86, some 87, some 17, some 18] (fun _ => false) 9 (by kernel_rfl) (by rfl)
                          (fun j v u => match j with | 0 => v = mV lb lb p7 la c7 | 1 => v = .slice pb lb cb | 2 => ∃ q c, v = .slice q lb c ∧ Rw 4 cellsN u (.slice q lb c) ((List.range lb).map fun i => wholeN (xb.getD i 0)) | 3 => ∃ q c, v = .tuple #[.slice q lb c, .bool true] ∧ Rw 4 cellsN u (.slice q lb c) XN | 4 => ∃ q c, v = .tuple #[.slice q lb c, .bool true] ∧ Rw 4 cellsN u (.slice q lb c) XN | 5 => ∃ q c, v = .slice q lb c ∧ Rw 4 cellsN u (.slice q lb c) XN | 6 => v = .bool true | 7 => ∃ q c, v = .slice q lb c ∧ Rw 4 cellsN u (.slice q lb c) XN | 8 => v = .bool true | _ => False)
                          (by
                              intro j v u u' hb h
                              split at h <;> first | exact h | (obtain ⟨q, c, e, h1⟩ := h; exact ⟨q, c, e, h1.later hb⟩) | exact h.elim) (fun vs u0 u => u = u0) ?step ?still ?store ?fin)
            case step =>
              intro j o t act u ho hdt hpu hsz hu hfr hin
              have hj : j < 9 := (Array.getElem?_eq_some_iff.1 ho).1
              obtain ⟨cc0, cc1, cc2, _, _, _, _⟩ := k7.later hu
              rcases (by omega : j = 0 ∨ j = 1 ∨ j = 2 ∨ j = 3 ∨ j = 4 ∨ j = 5 ∨ j = 6 ∨ j = 7 ∨ j = 8) with rfl | rfl | rfl | rfl | rfl | rfl | rfl | rfl | rfl
              · simp only [List.getElem?_toArray, List.getElem?_cons_zero, List.getElem?_cons_succ, Option.some.injEq] at ho
                subst ho
                obtain rfl := Option.some.inj hdt
                have i15 : act.eval (.tmp (15 : Nat)) = .pointer (some ⟨w7.heap.size, 0, none⟩) := hfr 15 (by decide)
                exact plain_wp (by intro c h; cases h) (fun _ _ => trivial) (by simp only [execOp, i15, evalC, evalF, evalG]; simp [go_sem, cc0, cc1, cc2]) ⟨_, rfl, rfl, Bl.refl _⟩
              · simp only [List.getElem?_toArray, List.getElem?_cons_zero, List.getElem?_cons_succ, Option.some.injEq] at ho
                subst ho
                obtain rfl := Option.some.inj hdt
                have i1 : act.eval (.tmp (1 : Nat)) = .slice pb lb cb := hfr 1 (by decide)
                exact plain_wp (by intro c h; cases h) (fun _ _ => trivial) (by simp only [execOp, i1, evalC, evalF, evalG]; simp [go_sem]) ⟨_, rfl, rfl, Bl.refl _⟩
              · simp only [List.getElem?_toArray, List.getElem?_cons_zero, List.getElem?_cons_succ, Option.some.injEq] at ho
                subst ho
                obtain rfl := Option.some.inj hdt
                have i83 : (act.eval (.tmp (83 : Nat))) = .slice pb lb cb := hin ⟨1, .data⟩ (by simp) rfl 83 rfl
                refine enter_wp 21 #[.slice pb lb cb] (by intro c h; cases h) (fun _ _ => trivial) (by simp only [execOp, evalC, evalF, evalG, resolve, i83, List.map_toArray, List.map_cons, List.map_nil]; simp [invoke, egWN, Result.andThen, go_sem]) (by intro h; cases h) (callsIn_wide.2 (WBN.out u hu)) ?_
                rintro e w' ⟨q, c, rfl, hr, hb⟩
                exact ⟨_, rfl, _, rfl, ⟨q, c, rfl, hr⟩, hb⟩
              · simp only [List.getElem?_toArray, List.getElem?_cons_zero, List.getElem?_cons_succ, Option.some.injEq] at ho
                subst ho
                obtain rfl := Option.some.inj hdt
                have i82 : (act.eval (.tmp (82 : Nat))) = mV lb lb p7 la c7 := hin ⟨0, .data⟩ (by simp) rfl 82 rfl
                have i84 : ∃ q c, (act.eval (.tmp (84 : Nat))) = .slice q lb c ∧ Rw 4 cellsN u (.slice q lb c) ((List.range lb).map fun i => wholeN (xb.getD i 0)) := hin ⟨2, .data⟩ (by simp) rfl 84 rfl
                obtain ⟨q, c, e1, hr⟩ := i84
                refine enter_wp 20 #[mV lb lb p7 la c7, .slice q lb c] (by intro c h; cases h) (fun _ _ => trivial) (by simp only [execOp, evalC, evalF, evalG, resolve, i82, e1, List.map_toArray, List.map_cons, List.map_nil]; simp [invoke, egSN, Result.andThen, go_sem]) (by intro h; cases h) (callsIn_wide.2 (SVN.out q c u hu hr)) ?_
                rintro e w' ⟨q, c, rfl, hr, hb⟩
                exact ⟨_, rfl, _, rfl, ⟨q, c, rfl, hr⟩, hb⟩
              · simp only [List.getElem?_toArray, List.getElem?_cons_zero, List.getElem?_cons_succ, Option.some.injEq] at ho
                subst ho
                obtain rfl := Option.some.inj hdt
                have i85 : ∃ q c, (act.eval (.tmp (85 : Nat))) = .tuple #[.slice q lb c, .bool true] ∧ Rw 4 cellsN u (.slice q lb c) XN := hin ⟨3, .data⟩ (by simp) rfl 85 rfl
                obtain ⟨q, c, e1, hr⟩ := i85
                exact plain_wp (by intro c h; cases h) (fun _ _ => trivial) (by simp only [execOp, e1, evalC, evalF, evalG]; simp [go_sem]) ⟨_, rfl, ⟨q, c, rfl, hr⟩, Bl.refl _⟩
              · simp only [List.getElem?_toArray, List.getElem?_cons_zero, List.getElem?_cons_succ, Option.some.injEq] at ho
                subst ho
                obtain rfl := Option.some.inj hdt
                have i81 : ∃ q c, (act.eval (.tmp (81 : Nat))) = .tuple #[.slice q lb c, .bool true] ∧ Rw 4 cellsN u (.slice q lb c) XN := hin ⟨4, .data⟩ (by simp) rfl 81 rfl
                obtain ⟨q, c, e1, hr⟩ := i81
                exact plain_wp (by intro c h; cases h) (fun _ _ => trivial) (by simp only [execOp, e1, evalC, evalF, evalG]; simp [go_sem]) ⟨_, rfl, ⟨q, c, rfl, hr⟩, Bl.refl _⟩
              · simp only [List.getElem?_toArray, List.getElem?_cons_zero, List.getElem?_cons_succ, Option.some.injEq] at ho
                subst ho
                obtain rfl := Option.some.inj hdt
                have i81 : ∃ q c, (act.eval (.tmp (81 : Nat))) = .tuple #[.slice q lb c, .bool true] ∧ Rw 4 cellsN u (.slice q lb c) XN := hin ⟨4, .data⟩ (by simp) rfl 81 rfl
                obtain ⟨q, c, e1, hr⟩ := i81
                exact plain_wp (by intro c h; cases h) (fun _ _ => trivial) (by simp only [execOp, e1, evalC, evalF, evalG]; simp [go_sem]) ⟨_, rfl, rfl, Bl.refl _⟩
              · simp only [List.getElem?_toArray, List.getElem?_cons_zero, List.getElem?_cons_succ, Option.some.injEq] at ho
                subst ho
                obtain rfl := Option.some.inj hdt
                have i86 : ∃ q c, (act.eval (.tmp (86 : Nat))) = .slice q lb c ∧ Rw 4 cellsN u (.slice q lb c) XN := hin ⟨5, .data⟩ (by simp) rfl 86 rfl
                obtain ⟨q, c, e1, hr⟩ := i86
                exact plain_wp (by intro c h; cases h) (fun _ _ => trivial) (by simp only [execOp, e1, evalC, evalF, evalG]; simp [go_sem]) ⟨_, rfl, ⟨q, c, rfl, hr⟩, Bl.refl _⟩
              · simp only [List.getElem?_toArray, List.getElem?_cons_zero, List.getElem?_cons_succ, Option.some.injEq] at ho
                subst ho
                obtain rfl := Option.some.inj hdt
                have i87 : (act.eval (.tmp (87 : Nat))) = .bool true := hin ⟨6, .data⟩ (by simp) rfl 87 rfl
                exact plain_wp (by intro c h; cases h) (fun _ _ => trivial) (by simp only [execOp, i87, evalC, evalF, evalG]; simp [go_sem]) ⟨_, rfl, rfl, Bl.refl _⟩
            case still =>
              intro j o t act u0 u ho hdt hpu
              cases hpu
            case store =>
              intro o act u vs ho
              cases ho
            case fin =>
              intro vs vb u0' u8 hu8 hin hps
              have a0 := hin 0 82 rfl
              have a1 := hin 1 83 rfl
              have a2 := hin 2 84 rfl
              have a3 := hin 3 85 rfl
              have a4 := hin 4 81 rfl
              have a5 := hin 5 86 rfl
              have a6 := hin 6 87 rfl
              have a7 := hin 7 17 rfl
              have a8 := hin 8 18 rfl
              simp only [putL, Act.put, List.setIfInBounds_toArray, List.set_cons_zero, List.set_cons_succ, Nat.zero_add, Nat.reduceAdd, Nat.reduceBEq, Bool.or_false, Bool.or_true, Bool.false_or, Bool.true_or, Bool.false_eq_true, if_false, if_true, reduceIte, Nat.reduceEqDiff, beq_self_eq_true, Bool.or_self] at a0 a1 a2 a3 a4 a5 a6 a7 a8 ⊢
              rw [if_neg (by decide)] at hps
              simp only [a0, a1, a6, a8]
              subst hps
              obtain ⟨q17, c17, e17, r17⟩ := a7
              simp only [e17]
              obtain ⟨g17, o17, hq17, CZ⟩ := rwN8 r17 (by rw [HLZ.out]; omega)
              obtain ⟨g9, o9, hq9, CX⟩ := rwF8 R9.out (by rw [HLX.out]; omega)
              obtain ⟨g13, o13, hq13, CY⟩ := rwF8 R13.out (by rw [HYF.out]; simp; omega)
              obtain ⟨gb, ob, hqb, CB⟩ : ∃ g o, pb = some ⟨g, o, none⟩ ∧ ∀ i, i < lb → ∀ u, Bl w1 u → u.cell? ⟨g, o + i, none⟩ = some (.int .i64 (xb.getD i 0)) := by
                have hg : ∀ i, i < lb → xb[i]? = some (xb.getD i 0) := fun i hi => by
                  have := HLB.out
                  rw [List.getElem?_eq_getElem (show i < xb.length by omega)]
                  simp [List.getD_eq_getElem?_getD, show i < xb.length by omega]
                have h0 := hg 0 (by omega)
                rcases HB.out with ⟨_, _, _, hn, _⟩ | ⟨b, o, cc, e, _, hlt, HXX⟩
                · rw [hn] at h0; simp at h0
                · cases e
                  exact ⟨b, o, rfl, fun i hi u hu => (bl_cell hu _ _ hlt).trans (cellI HXX (hg i hi) (wr := w1))⟩
              subst hq17
              subst hq9
              subst hq13
              subst hqb
              have HCZ := hideP CZ
              have HCX := hideP CX
              have HCY := hideP CY
              have HCB := hideP CB
              have bu8 := bu7.trans hu8
              have b68 := b67.trans hu8
              have HB8 := hideP (HB7.out.trans hu8)
              clear a2 a3 a4 a5 r17 e17 SVN WBN CZ CX CY CB R9 R13 k7 k2
              go_wp2_with fail
              go_loopw [107] (fun v wr => ∃ t : Nat, v = .int .i64 t ∧ t ≤ lb ∧ Bl u8 wr) (fun v _ => lb - (intOf v).toNat)
              case atStart => exact ⟨0, rfl, Nat.zero_le _, Bl.refl _⟩
              case round =>
                obtain ⟨t, rfl, ht, bl⟩ := hrel
                by_cases hlt : t < lb
                · obtain ⟨x, hx⟩ : ∃ x, XF[t]? = some x := ⟨_, List.getElem?_eq_getElem (by have := HLX.out; omega)⟩
                  obtain ⟨z, hz⟩ : ∃ z, XN[t]? = some z := ⟨_, List.getElem?_eq_getElem (by have := HLZ.out; omega)⟩
                  obtain ⟨y, hy⟩ : ∃ y, y = dotF (rowM lb (fun i k => itF (clrI fa i k)) t) XF := ⟨_, rfl⟩
                  obtain ⟨bv, hbv⟩ : ∃ bv, bv = xb.getD t 0 := ⟨_, rfl⟩
                  have hwb : Wh bv := by
                    rw [hbv]
                    have hm : xb.getD t 0 ∈ xb := by
                      have hl := HLB.out
                      rw [List.getD_eq_getElem?_getD, List.getElem?_eq_getElem (show t < xb.length by omega)]
                      exact List.getElem_mem _
                    have := S2.out _ hm
                    exact ⟨by omega, by omega⟩
                  have hback : y.bad = false → y = itF bv := fun h => by
                    rw [hy, HXF.out] at h ⊢
                    rw [hbv] at hwb ⊢
                    exact sol_back8 hlt hwb h
                  have henc : x.bad = false → z.bad = false → enclB z x.n x.d = true := fun h1 h2 => sol_encl8 (by omega) SM.out hlt (by rw [← HXF.out]; exact hx) (by rw [← HXN.out]; exact hz) h1 h2
                  have x0 := fun v (hv : Bl wr v) => (HCX.out t x hx v (bu8.trans (bl.trans hv))).1
                  have x1 := fun v (hv : Bl wr v) => (HCX.out t x hx v (bu8.trans (bl.trans hv))).2.1
                  have x2 := fun v (hv : Bl wr v) => (HCX.out t x hx v (bu8.trans (bl.trans hv))).2.2
                  have hyt : YF[t]? = some y := get_map8 _ hlt hy HYF.out
                  have y0 := fun z : Wl wr => (HCY.out t y hyt z.w (b68.trans (bl.trans z.bl))).1
                  have y1 := fun z : Wl wr => (HCY.out t y hyt z.w (b68.trans (bl.trans z.bl))).2.1
                  have y2 := fun z : Wl wr => (HCY.out t y hyt z.w (b68.trans (bl.trans z.bl))).2.2
                  have z0 := fun zz : Wl wr => (HCZ.out t z hz zz.w (bl.trans zz.bl)).1
                  have z1 := fun zz : Wl wr => (HCZ.out t z hz zz.w (bl.trans zz.bl)).2.1
                  have z2 := fun zz : Wl wr => (HCZ.out t z hz zz.w (bl.trans zz.bl)).2.2.1
                  have z3 := fun zz : Wl wr => (HCZ.out t z hz zz.w (bl.trans zz.bl)).2.2.2
                  have CBT : ∀ u, Bl w1 u → u.cell? ⟨gb, ob + t, none⟩ = some (.int .i64 bv) := by rw [hbv]; exact HCB.out t hlt
                  have b18 := HB8.out.trans bl
                  have v0 := fun zz : Wl wr => CBT zz.w (b18.trans zz.bl)
                  have NW0 := fun zz : Wl wr => new_few hwb zz.w
                  have ne1 := neq_selfV y
                  have wne := wl_ne wr
                  clear hx hz hy hbv hwb hyt CBT
                  obtain ⟨xn, xd, xb0⟩ := x
                  obtain ⟨yn, yd, yb0⟩ := y
                  obtain ⟨zv, zl, zh, zb0⟩ := z
                  dsimp only at x0 x1 x2 y0 y1 y2 z0 z1 z2 z3
                  have EC0 := fun zz : Wl wr => encl_any ⟨zv, zl, zh, zb0⟩ xn xd zz.w
                  cases xb0 with
                  | true =>
                    have cx := x2 wr (Bl.refl _)
                    clear x0 x1 x2 y0 y1 y2 z0 z1 z2 z3 v0 NW0 EC0 ne1 wne henc hback
                    go_wp2_with fail
                    refine (AW.out _).mono ?_
                    rintro e w99 ⟨rfl, h99⟩
                    go_wp2
                    go_ret
                    exact ⟨rfl, (HB8.out.trans bl).trans h99⟩
                  | false =>
                    have cx := x2 wr (Bl.refl _)
                    have w0 := fun zz : Wl wr => x0 zz.w zz.bl
                    have w1' := fun zz : Wl wr => x1 zz.w zz.bl
                    have w2' := fun zz : Wl wr => x2 zz.w zz.bl
                    clear x0 x1 x2
                    cases yb0 with
                    | true =>
                      clear NW0 hback
                      cases zb0 with
                      | true =>
                        clear EC0 henc
                        go_wp2_with fail
                        clear cx
                        refine wl_region wr (Bl.refl _) (by kernel_rfl) (by kernel_rfl) ?_
                        repeat (go_big_quiet_step (first | fail))
                        refine wpQuiet_nil ?_
                        intro _ hw'
                        obtain ⟨zz, hw''⟩ := hw'
                        subst hw''
                        clear wne y0 y1 y2 z0 z1 z2 z3 v0 w0 w1' w2' ne1
                        obtain ⟨wz, hzz⟩ := zz
                        dsimp only
                        go_wp2
                        go_roundw
                        case rel => exact ⟨t + 1, by simp, hlt, bl.trans hzz⟩
                        case measure => simp [intOf]; omega
                      | false =>
                        have EC := hideP (fun zz : Wl wr => by have := EC0 zz; rw [henc rfl rfl] at this; exact this)
                        clear EC0 henc
                        go_wp2_with fail
                        clear cx
                        refine wl_region wr (Bl.refl _) (by kernel_rfl) (by kernel_rfl) ?_
                        repeat (go_big_quiet_step (first | (go_at_call 14; exact wl_call (EC.out _))))
                        refine wpQuiet_nil ?_
                        intro _ hw'
                        obtain ⟨zz, hw''⟩ := hw'
                        subst hw''
                        clear wne y0 y1 y2 z0 z1 z2 z3 v0 w0 w1' w2' ne1 EC
                        obtain ⟨wz, hzz⟩ := zz
                        dsimp only
                        go_wp2
                        go_roundw
                        case rel => exact ⟨t + 1, by simp, hlt, bl.trans hzz⟩
                        case measure => simp [intOf]; omega
                    | false =>
                      have NW := hideP (fun zz : Wl wr => by have := NW0 zz; rw [← hback rfl] at this; exact this)
                      clear NW0 hback
                      cases zb0 with
                      | true =>
                        clear EC0 henc
                        go_wp2_with fail
                        clear cx
                        refine wl_region wr (Bl.refl _) (by kernel_rfl) (by kernel_rfl) ?_
                        repeat (go_big_quiet_step (first | (go_at_call 22; exact wl_call (NW.out _))))
                        refine wpQuiet_nil ?_
                        intro _ hw'
                        obtain ⟨zz, hw''⟩ := hw'
                        subst hw''
                        clear wne y0 y1 y2 z0 z1 z2 z3 v0 w0 w1' w2' ne1 NW
                        obtain ⟨wz, hzz⟩ := zz
                        dsimp only
                        go_wp2
                        go_roundw
                        case rel => exact ⟨t + 1, by simp, hlt, bl.trans hzz⟩
                        case measure => simp [intOf]; omega
                      | false =>
                        have EC := hideP (fun zz : Wl wr => by have := EC0 zz; rw [henc rfl rfl] at this; exact this)
                        clear EC0 henc
                        go_wp2_with fail
                        clear cx
                        refine wl_region wr (Bl.refl _) (by kernel_rfl) (by kernel_rfl) ?_
                        repeat (go_big_quiet_step (first | (go_at_call 22; exact wl_call (NW.out _)) | (go_at_call 14; exact wl_call (EC.out _))))
                        refine wpQuiet_nil ?_
                        intro _ hw'
                        obtain ⟨zz, hw''⟩ := hw'
                        subst hw''
                        clear wne y0 y1 y2 z0 z1 z2 z3 v0 w0 w1' w2' ne1 EC NW
                        obtain ⟨wz, hzz⟩ := zz
                        dsimp only
                        go_wp2
                        go_roundw
                        case rel => exact ⟨t + 1, by simp, hlt, bl.trans hzz⟩
                        case measure => simp [intOf]; omega
                · obtain rfl : t = lb := by omega
                  go_wp2_with fail
                  refine (AW.out _).mono ?_
                  rintro e w99 ⟨rfl, h99⟩
                  go_wp2
                  go_ret
                  exact ⟨rfl, (HB8.out.trans bl).trans h99⟩
        · have hlmI : ((lb : Int) != (m : Int)) = true := by simp; omega
          have SVF := hideP (fun q c u (hu : Bl W2 u) => tSolveF_len m p1 la c1 _ q lb c u (HX2.out.later hu) hlm)
          refine (wpIn_wide (n := 8)).1 (region_q fm [some 43, some 44, some 45, some 46, some 42, some 47, some 48, some 9, some 10] (fun _ => false) 9 (by kernel_rfl) (by rfl)
            (fun j v u => match j with | 0 => v = mV m m p1 la c1 | 1 => v = .slice pb lb cb | 2 => ∃ q c, v = .slice q lb c ∧ Rw 3 cellsF u (.slice q lb c) ((List.range lb).map fun i => wholeF (xb.getD i 0)) | 3 => v = .tuple #[.slice none 0 0, .bool false] | 4 => v = .tuple #[.slice none 0 0, .bool false] | 5 => v = .slice none 0 0 | 6 => v = .bool false | 7 => v = .slice none 0 0 | 8 => v = .bool false | _ => False)
            (by
                intro j v u u' hb h
                split at h <;> first | exact h | (obtain ⟨q, c, e, h1⟩ := h; exact ⟨q, c, e, h1.later hb⟩) | exact h.elim) (fun vs u0 u => u = u0) ?step ?still ?store ?fin)
          case step =>
            intro j o t act u ho hdt hpu hsz hu hfr hin
            have hj : j < 9 := (Array.getElem?_eq_some_iff.1 ho).1
            obtain ⟨cc0, cc1, cc2, _, _, _, _⟩ := k2.later hu
            rcases (by omega : j = 0 ∨ j = 1 ∨ j = 2 ∨ j = 3 ∨ j = 4 ∨ j = 5 ∨ j = 6 ∨ j = 7 ∨ j = 8) with rfl | rfl | rfl | rfl | rfl | rfl | rfl | rfl | rfl
            · simp only [List.getElem?_toArray, List.getElem?_cons_zero, List.getElem?_cons_succ, Option.some.injEq] at ho
              subst ho
              obtain rfl := Option.some.inj hdt
              have i7 : act.eval (.tmp (7 : Nat)) = .pointer (some ⟨w2.heap.size, 0, none⟩) := hfr 7 (by decide)
              exact plain_wp (by intro c h; cases h) (fun _ _ => trivial) (by simp only [execOp, i7, evalC, evalF, evalG]; simp [go_sem, cc0, cc1, cc2]) ⟨_, rfl, rfl, Bl.refl _⟩
            · simp only [List.getElem?_toArray, List.getElem?_cons_zero, List.getElem?_cons_succ, Option.some.injEq] at ho
              subst ho
              obtain rfl := Option.some.inj hdt
              have i1 : act.eval (.tmp (1 : Nat)) = .slice pb lb cb := hfr 1 (by decide)
              exact plain_wp (by intro c h; cases h) (fun _ _ => trivial) (by simp only [execOp, i1, evalC, evalF, evalG]; simp [go_sem]) ⟨_, rfl, rfl, Bl.refl _⟩
            · simp only [List.getElem?_toArray, List.getElem?_cons_zero, List.getElem?_cons_succ, Option.some.injEq] at ho
              subst ho
              obtain rfl := Option.some.inj hdt
              have i44 : (act.eval (.tmp (44 : Nat))) = .slice pb lb cb := hin ⟨1, .data⟩ (by simp) rfl 44 rfl
              refine enter_wp 17 #[.slice pb lb cb] (by intro c h; cases h) (fun _ _ => trivial) (by simp only [execOp, evalC, evalF, evalG, resolve, i44, List.map_toArray, List.map_cons, List.map_nil]; simp [invoke, egWF, Result.andThen, go_sem]) (by intro h; cases h) (callsIn_wide.2 (WBF.out u hu)) ?_
              rintro e w' ⟨q, c, rfl, hr, hb⟩
              exact ⟨_, rfl, _, rfl, ⟨q, c, rfl, hr⟩, hb⟩
            · simp only [List.getElem?_toArray, List.getElem?_cons_zero, List.getElem?_cons_succ, Option.some.injEq] at ho
              subst ho
              obtain rfl := Option.some.inj hdt
              have i43 : (act.eval (.tmp (43 : Nat))) = mV m m p1 la c1 := hin ⟨0, .data⟩ (by simp) rfl 43 rfl
              have i45 : ∃ q c, (act.eval (.tmp (45 : Nat))) = .slice q lb c ∧ Rw 3 cellsF u (.slice q lb c) ((List.range lb).map fun i => wholeF (xb.getD i 0)) := hin ⟨2, .data⟩ (by simp) rfl 45 rfl
              obtain ⟨q, c, e1, hr⟩ := i45
              refine enter_wp 16 #[mV m m p1 la c1, .slice q lb c] (by intro c h; cases h) (fun _ _ => trivial) (by simp only [execOp, evalC, evalF, evalG, resolve, i43, e1, List.map_toArray, List.map_cons, List.map_nil]; simp [invoke, egSF, Result.andThen, go_sem]) (by intro h; cases h) (callsIn_wide.2 (SVF.out q c u hu)) ?_
              rintro e w' ⟨rfl, hb⟩
              exact ⟨_, rfl, _, rfl, rfl, hb⟩
            · simp only [List.getElem?_toArray, List.getElem?_cons_zero, List.getElem?_cons_succ, Option.some.injEq] at ho
              subst ho
              obtain rfl := Option.some.inj hdt
              have i46 : (act.eval (.tmp (46 : Nat))) = .tuple #[.slice none 0 0, .bool false] := hin ⟨3, .data⟩ (by simp) rfl 46 rfl
              exact plain_wp (by intro c h; cases h) (fun _ _ => trivial) (by simp only [execOp, i46, evalC, evalF, evalG]; simp [go_sem]) ⟨_, rfl, rfl, Bl.refl _⟩
            · simp only [List.getElem?_toArray, List.getElem?_cons_zero, List.getElem?_cons_succ, Option.some.injEq] at ho
              subst ho
              obtain rfl := Option.some.inj hdt
              have i42 : (act.eval (.tmp (42 : Nat))) = .tuple #[.slice none 0 0, .bool false] := hin ⟨4, .data⟩ (by simp) rfl 42 rfl
              exact plain_wp (by intro c h; cases h) (fun _ _ => trivial) (by simp only [execOp, i42, evalC, evalF, evalG]; simp [go_sem, cc0, cc1, cc2]) ⟨_, rfl, rfl, Bl.refl _⟩
            · simp only [List.getElem?_toArray, List.getElem?_cons_zero, List.getElem?_cons_succ, Option.some.injEq] at ho
              subst ho
              obtain rfl := Option.some.inj hdt
              have i42 : (act.eval (.tmp (42 : Nat))) = .tuple #[.slice none 0 0, .bool false] := hin ⟨4, .data⟩ (by simp) rfl 42 rfl
              exact plain_wp (by intro c h; cases h) (fun _ _ => trivial) (by simp only [execOp, i42, evalC, evalF, evalG]; simp [go_sem, cc0, cc1, cc2]) ⟨_, rfl, rfl, Bl.refl _⟩
            · simp only [List.getElem?_toArray, List.getElem?_cons_zero, List.getElem?_cons_succ, Option.some.injEq] at ho
              subst ho
              obtain rfl := Option.some.inj hdt
              have i47 : (act.eval (.tmp (47 : Nat))) = .slice none 0 0 := hin ⟨5, .data⟩ (by simp) rfl 47 rfl
              exact plain_wp (by intro c h; cases h) (fun _ _ => trivial) (by simp only [execOp, i47, evalC, evalF, evalG]; simp [go_sem]) ⟨_, rfl, rfl, Bl.refl _⟩
            · simp only [List.getElem?_toArray, List.getElem?_cons_zero, List.getElem?_cons_succ, Option.some.injEq] at ho
              subst ho
              obtain rfl := Option.some.inj hdt
              have i48 : (act.eval (.tmp (48 : Nat))) = .bool false := hin ⟨6, .data⟩ (by simp) rfl 48 rfl
              exact plain_wp (by intro c h; cases h) (fun _ _ => trivial) (by simp only [execOp, i48, evalC, evalF, evalG]; simp [go_sem]) ⟨_, rfl, rfl, Bl.refl _⟩
          case still =>
            intro j o t act u0 u ho hdt hpu
            cases hpu
          case store =>
            intro o act u vs ho
            cases ho
          case fin =>
            intro vs vb u0 u hu hin hps
            have a0 := hin 0 43 rfl
            have a1 := hin 1 44 rfl
            have a2 := hin 2 45 rfl
            have a3 := hin 3 46 rfl
            have a4 := hin 4 42 rfl
            have a5 := hin 5 47 rfl
            have a6 := hin 6 48 rfl
            have a7 := hin 7 9 rfl
            have a8 := hin 8 10 rfl
            simp only [putL, Act.put, List.setIfInBounds_toArray, List.set_cons_zero, List.set_cons_succ, Nat.zero_add, Nat.reduceAdd, Nat.reduceBEq, Bool.or_false, Bool.or_true, Bool.false_or, Bool.true_or, Bool.false_eq_true, if_false, if_true, reduceIte, Nat.reduceEqDiff, beq_self_eq_true, Bool.or_self] at a0 a1 a2 a3 a4 a5 a6 a7 a8 ⊢
            rw [if_neg (by decide)] at hps
            simp only [a0, a1, a3, a4, a5, a6, a7, a8]
            subst hps
            clear a2
            go_wp2_with fail
            refine (AW.out _).mono ?_
            rintro e w99 ⟨rfl, h99⟩
            go_wp2
            go_ret
            exact ⟨rfl, ((h2.trans b2).trans hu).trans h99⟩
end Go.Proofs.YtbfdkahbnfpabaaGreat

/- A slice of whole numbers as an argument: opened. -/
namespace Go.Proofs.YtbfdkahbnfpabaaGreat
open Go.ChangeShapes Go.WideShapes Go.ChangeAt Go.RowKit
set_option linter.unusedVariables false

theorem Tryz.cellsInt : Tryz.prog.cellsOf 3 = 1 := by kernel_rfl
theorem cell_block_lt {W : World} {b o : Nat} {v : Value} (h : W.cell? ⟨b, o, none⟩ = some v) : b < W.heap.size := by
  rcases Nat.lt_or_ge b W.heap.size with h' | h'
  · exact h'
  · have : W.heap[b]? = none := Array.getElem?_eq_none h'
    simp [World.cell?, this] at h
set_option maxRecDepth 1000000 in
theorem open_row {H : Type} {enc : TypeId × Value → H} {W : World} {b0 : Nat} {v : Value} {d : DataW H} {p : List MemPlace}
    (hv : Value.okWide Tryz.prog W .any b0 22 v) (h : DataW.Trod enc Tryz.prog W 0 (fun _ => true) true 22 v d p) : ∃ ns : List Int, Rq 1 cI W v ns ∧ ∀ n ∈ ns, (Lit.int .i64 n).wf = true := by
  obtain ⟨a0, len, cap, rfl⟩ := okWide_slice Tryz.underlying22 hv
  obtain ⟨fuel, hf⟩ := h
  rcases open_ints Tryz.underlying22 Tryz.underlying3 Tryz.cellsInt hf with ⟨hcs, hx⟩ | ⟨a, len', cap', zs, hcs, _, hl, hm, hz, hx, hcell, hwz⟩
  · simp [Value.cells] at hcs
    obtain ⟨rfl, rfl, rfl⟩ := hcs
    exact ⟨[], .inl ⟨none, 0, rfl, rfl, fun _ => rfl⟩, fun n hn => by simp at hn⟩
  · simp [Value.cells] at hcs
    obtain ⟨rfl, rfl, rfl⟩ := hcs
    simp only [if_true] at hz
    refine ⟨zs.take len, ?_, fun n hn => hwz n (List.mem_of_mem_take hn)⟩
    by_cases h0 : len = 0
    · subst h0
      exact .inl ⟨some a, cap, rfl, by simp, nofun⟩
    · have c0 := hcell 0 (by omega)
      obtain ⟨b, off, rfl, hc⟩ := ints_at hcell (by omega)
      have hb : b < W.heap.size := by
        have := hc 0 (by omega)
        exact cell_block_lt this
      have hll : (zs.take len).length = len := by simp; omega
      refine .inr ⟨b, off, cap, by rw [hll], by omega, hb, fun j x hj k u hu => ?_⟩
      rcases k with _ | k
      · simp at hu
        subst hu
        have hj2 := (List.getElem?_eq_some_iff.1 hj).1
        have := hc j (by omega)
        rw [List.getElem?_take] at hj
        split at hj
        · have e : zs.getD j 0 = x := by simp [List.getD, hj]
          rw [e] at this
          simpa using this
        · cases hj
      · simp at hu
end Go.Proofs.YtbfdkahbnfpabaaGreat

/- TriSolves: a lower triangle of whole numbers, with a diagonal without 0, times what is solved, is what was asked, in fractions; enclosed ones enclose it (of 5 by 5 at most, numbers from -100 up to 100; where all fractions may be). Conditions: none (every input). -/
namespace Go.Proofs.YtbfdkahbnfpabaaGreat
open Go.ChangeShapes Go.WideShapes Go.ChangeAt Go.RowKit
set_option linter.unusedVariables false

theorem own_TriSolves : ownKnob Tryz.prog.godebug = none := by kernel_rfl
theorem laid_TriSolves : laidOutB Tryz.prog = true := by kernel_rfl
set_option maxRecDepth 100000 in
theorem lifted_TriSolves (os : Os) (started : os.Started) (H : Type) (enc : TypeId × Value → H) :
    ReturnsInHanded {} Tryz.checked os 4 .any (Rows.triSolvesSpec.pre6 enc Tryz.prog Tryz.f4 Rows.triSolvesRow.domain false) (Rows.triSolvesSpec.post enc Tryz.prog Tryz.f4 false true false false) := by
  refine returnsInHanded_of_change (C := Tryz.checked) own_TriSolves started (by kernel_rfl) Tryz.func4
    (ChangeSpec.witness6 (enc := enc) (C := Tryz.checked) false ⟨#[], #[.slice none 0 0, .slice none 0 0, .int .i64 0], []⟩ 8 (by kernel_rfl) (by kernel_rfl) (by kernel_rfl) (by kernel_rfl)) ?_
  intro W base args ds gs before hval0 hW hcnd _
  have hval : ∀ (j : Nat) t v, Tryz.f4.params[j]? = some t → args[j]? = some v → Value.okWide Tryz.prog W .any base t v := hval0
  have hW' := hW
  obtain ⟨p, q, hA0, hV, rfl, hfz, hnd⟩ := hW
  have hA : DataW.TrodAll enc Tryz.prog W 0 (fun _ => true) true Tryz.f4.params.toList args.toList ds p := hA0
  rw [Tryz.params4] at hA hval
  obtain ⟨v0, vs0, d0, ds0, p0, q0, hargs, rfl, rfl, h0, r0⟩ := trodAll_cons hA
  obtain ⟨v1, vs1, d1, ds1, p1, q1, rfl, rfl, rfl, h1, r1⟩ := trodAll_cons r0
  obtain ⟨v2, vs2, d2, ds2, p2, q2, rfl, rfl, rfl, h2, r2⟩ := trodAll_cons r1
  obtain ⟨rfl, rfl, rfl⟩ := trodAll_nil r2
  obtain rfl : args = #[v0, v1, v2] := by cases args; simp_all
  obtain ⟨rfl, rfl⟩ := trodVars_none hV
  have hltA := fun x hx => hW'.lt x hx
  obtain ⟨a0, R0, w0⟩ := open_row (hval 0 22 v0 rfl rfl) h0
  obtain ⟨a1, R1, w1⟩ := open_row (hval 1 22 v1 rfl rfl) h1
  obtain ⟨a2, e2, _, _, w2⟩ := open_int Tryz.underlying3 (hval 2 3 v2 rfl rfl) h2
  subst e2
  clear hA0 hval0
  refine (walk_TriSolves v0 a0 v1 a1 a2 W R0 R1).mono fun e W' ⟨he, bel⟩ => ?_
  subst he
  exact ⟨_, rfl, _, _, _, [], _, [], hW', trodAll_mk1 (shut_bool Tryz.underlying4 _), (trodAll_cons_mk (Below.trod laid_TriSolves (by kernel_rfl) (of_decide_eq_true (by kernel_rfl)) h0 bel (fun x hx => by have := hltA x (by simp [hx]); simpa using this)) (trodAll_cons_mk (Below.trod laid_TriSolves (by kernel_rfl) (of_decide_eq_true (by kernel_rfl)) h1 bel (fun x hx => by have := hltA x (by simp [hx]); simpa using this)) (trodAll_cons_mk (Below.trod laid_TriSolves (by kernel_rfl) (of_decide_eq_true (by kernel_rfl)) h2 bel (fun x hx => by have := hltA x (by simp [hx]); simpa using this)) trodAll_mk0))), rfl, Below.frame bel _, fun h => by cases h⟩

theorem proved_TriSolves : Rows.TriSolvesSaid :=
  OpenClaim.holds_of_wide 4 Tryz.f4 rfl rfl rfl rfl rfl rfl rfl ⟨rfl, rfl, rfl, rfl, rfl⟩ rfl rfl rfl rfl rfl (by kernel_rfl) Tryz.func4 (by kernel_rfl)
    (of_decide_eq_true (by kernel_rfl)) (by unfold Func.isWrapper; first | (rw [if_pos (by decide +kernel)]; kernel_rfl) | (rw [if_neg (by decide +kernel)]; exact ⟨rfl, rfl⟩))
    (fun os started H enc _ => lifted_TriSolves os started H enc)
#print axioms proved_TriSolves
end Go.Proofs.YtbfdkahbnfpabaaGreat
