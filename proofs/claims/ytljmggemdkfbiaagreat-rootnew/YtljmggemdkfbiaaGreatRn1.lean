/- The walk of RootNew. Written by genRn.py. -/
import Derived.Test.YtljmggemdkfbiaaGreatRow
import Derived.Test.YtljmggemdkfbiaaGreatRn0
import Derived.Test.YtljmggemdkfbiaaGreatTrG
import Derived.Test.YtljmggemdkfbiaaGreatMaH
namespace Go.Proofs.YtljmggemdkfbiaaGreat
open Go.RowKit
set_option linter.unusedSimpArgs false
set_option linter.unusedVariables false

set_option maxRecDepth 100000 in
set_option maxHeartbeats 8000000 in
theorem walk_RootNew (va : Value) (xa : List Int) (vb : Value) (xb : List Int) (n : Int) (w : World) (ha : Rq 1 cI w va xa) (hb : Rq 1 cI w vb xb) :
    Calls Tryz.prog 6 #[va, vb, .int .i64 n] w fun e w' => e = .returned (.bool true) ∧ Bl w w' := by
  have fm : Tryz.prog.follows .mixedOrders = true := by kernel_rfl
  have egW := enters_of Tryz.func16 (by kernel_rfl) rfl
  have egN := enters_of Tryz.func25 (by kernel_rfl) rfl
  have AW := hideP awake10_any
  have FA := hideP (few6_any va xa w ha)
  have FB := hideP (few6_any vb xb w hb)
  obtain ⟨pa, ca, rfl, _, _⟩ := ha.cut
  obtain ⟨pb, cb, rfl, _, _⟩ := hb.cut
  obtain ⟨la, hla⟩ : ∃ la, la = xa.length := ⟨_, rfl⟩
  obtain ⟨N, hlb⟩ : ∃ N, N = xb.length := ⟨_, rfl⟩
  rw [← hla] at FA ha ⊢
  rw [← hlb] at FB hb ⊢
  have HLB := hideP hlb
  have HXB := hideP hb
  have HXA := hideP (show Rq 1 cI w (.slice pa la ca) (linJ la (fun i => xa.getD i 0)) from by rw [← linJ_of (n := la) 0 xa hla.symm]; exact ha)
  clear ha hla hb hlb
  go_enter Tryz.func6, Tryz.ntmps6
  go_wp2_with fail
  refine FA.out.mono ?_
  rintro e w1 ⟨b1, rfl, hb1, rfl⟩
  clear FA
  cases b1 with
  | false =>
    go_wp2_with fail
    refine (AW.out _).mono ?_
    rintro e w99 ⟨rfl, h99⟩
    go_wp2
    go_ret
    exact ⟨rfl, (Bl.refl _).trans h99⟩
  | true =>
    clear hb1
    go_wp2_with fail
    refine FB.out.mono ?_
    rintro e w1 ⟨b2, rfl, hb2, rfl⟩
    clear FB
    cases b2 with
    | false =>
      go_wp2_with fail
      refine (AW.out _).mono ?_
      rintro e w99 ⟨rfl, h99⟩
      go_wp2
      go_ret
      exact ⟨rfl, (Bl.refl _).trans h99⟩
    | true =>
      obtain ⟨_, hs6⟩ := hb2 rfl
      have HS6 := hideP hs6
      clear hb2 hs6
      by_cases h20 : 20 < la
      · have h20' : (la : Int) > 20 := by omega
        go_wp2_with fail
        refine (AW.out _).mono ?_
        rintro e w99 ⟨rfl, h99⟩
        go_wp2
        go_ret
        exact ⟨rfl, (Bl.refl _).trans h99⟩
      have h20' : ¬ (la : Int) > 20 := by omega
      have WHL := hideP (fun u (hu : Bl w1 u) => whole_linOF pa la ca (fun i => xa.getD i 0) u (HXA.out.later hu) (by omega))
      cases hfit : fitB n n N with
      | false =>
        have WN := hideP (mWholeF_no n n pb N cb w1 hfit)
        have HFIT := hideP (show fitJ 0 0 0 (la : Int) = false from by unfold fitJ; simp [fitB])
        clear hfit
        go_wp2_with fail
        refine WN.out.mono ?_
        rintro e w2 ⟨rfl, h2⟩
        obtain ⟨W2, hW2⟩ : ∃ W2, W2 = w2.alloc (.cells #[.int .i64 0, .int .i64 0, .slice none 0 0] 30) := ⟨_, rfl⟩
        have b2 : Bl w2 W2 := by rw [hW2]; exact (Bl.refl _).alloc _
        have k2 : MBox W2 w2.heap.size 0 0 none 0 0 := by rw [hW2]; exact MBox.new w2 _ _ _ _ _ _
        have B2 : Bl w1 W2 := h2.trans b2
        have HW2 := hideP hW2
        clear hW2 WN
        go_wp2_with fail
        rw [← HW2.out]
        refine (wpIn_wide (n := 8)).1 (region_q fm [some 34, some 35, some 36, some 37, some 33, some 38, some 39, some 9, none, some 10] (fun j => j == 6 || j == 9) 8 (by kernel_rfl) (by rfl)
              (fun j v u => match j with | 0 => v = .slice pa la ca | 1 => ∃ q c, v = .slice q la c ∧ Rw 3 cellsF u (.slice q la c) (linJ la (fun i => wholeF (xa.getD i 0))) | 2 => v = mV 0 0 none 0 0 | 3 => v = .tuple #[sJ none 0 0 0 0 none 0 0, .bool false] | 4 => v = .tuple #[sJ none 0 0 0 0 none 0 0, .bool false] | 5 => v = sJ none 0 0 0 0 none 0 0 | 6 => v = .bool false | 7 => ∃ b, v = .pointer (some ⟨b, 0, none⟩) ∧ W2.heap.size ≤ b ∧ SBox u b none 0 0 0 0 none 0 0 ∧ NoB u b | 9 => v = .bool false | _ => False)
              (by
                intro j v u u' hb h
                split at h <;> first | exact h | (obtain ⟨b, e, h1, h2, h3⟩ := h; exact ⟨b, e, h1, h2.later hb, h3.later hb h2.lt⟩) | (obtain ⟨q, c, p', c', e, h1, h2⟩ := h; exact ⟨q, c, p', c', e, h1.later hb, Mx.later h2 hb⟩) | (obtain ⟨q, c, e, h1⟩ := h; exact ⟨q, c, e, h1.later hb⟩) | (obtain ⟨g, e, h1⟩ := h; exact ⟨g, e, h1.later hb⟩)) (fun vs u0 u => ∃ b, vs 7 = .pointer (some ⟨b, 0, none⟩) ∧ W2.heap.size ≤ b ∧ SBox u b none 0 0 0 0 none 0 0 ∧ Bl W2 u) ?step ?still ?store ?fin)
        case step =>
          intro j o t act u ho hdt hpu hsz hu hfr hin
          have hj : j < 10 := (Array.getElem?_eq_some_iff.1 ho).1
          obtain ⟨y0, y1, y2, _, _, _, _⟩ := k2.later hu
          rcases (by omega : j = 0 ∨ j = 1 ∨ j = 2 ∨ j = 3 ∨ j = 4 ∨ j = 5 ∨ j = 6 ∨ j = 7 ∨ j = 8 ∨ j = 9) with rfl | rfl | rfl | rfl | rfl | rfl | rfl | rfl | rfl | rfl
          · simp only [List.getElem?_toArray, List.getElem?_cons_zero, List.getElem?_cons_succ, Option.some.injEq] at ho
            subst ho
            obtain rfl := Option.some.inj hdt
            have i0 : act.eval (.tmp (0 : Nat)) = .slice pa la ca := hfr 0 (by decide)
            exact plain_wp (by intro c h; cases h) (fun _ _ => trivial) (by simp only [execOp, i0, evalC, evalF, evalG]; simp [go_sem]) ⟨_, rfl, rfl, Bl.refl _⟩
          · simp only [List.getElem?_toArray, List.getElem?_cons_zero, List.getElem?_cons_succ, Option.some.injEq] at ho
            subst ho
            obtain rfl := Option.some.inj hdt
            have i34 : (act.eval (.tmp (34 : Nat))) = .slice pa la ca := hin ⟨0, .data⟩ (by simp) rfl 34 rfl
            refine enter_wp 16 #[.slice pa la ca] (by intro c h; cases h) (fun _ _ => trivial) (by simp only [execOp, evalC, evalF, evalG, resolve, i34, List.map_toArray, List.map_cons, List.map_nil]; simp [invoke, egW, Result.andThen, go_sem]) (by intro h; cases h) (callsIn_wide.2 (WHL.out u (B2.trans hu))) ?_
            rintro e w' ⟨q, c, rfl, hR, _, hb⟩
            exact ⟨_, rfl, _, rfl, ⟨q, c, rfl, hR⟩, hb⟩
          · simp only [List.getElem?_toArray, List.getElem?_cons_zero, List.getElem?_cons_succ, Option.some.injEq] at ho
            subst ho
            obtain rfl := Option.some.inj hdt
            have i7 : act.eval (.tmp (7 : Nat)) = .pointer (some ⟨w2.heap.size, 0, none⟩) := hfr 7 (by decide)
            exact plain_wp (by intro c h; cases h) (fun _ _ => trivial) (by simp only [execOp, i7, evalC, evalF, evalG]; simp [go_sem, y0, y1, y2]) ⟨_, rfl, rfl, Bl.refl _⟩
          · simp only [List.getElem?_toArray, List.getElem?_cons_zero, List.getElem?_cons_succ, Option.some.injEq] at ho
            subst ho
            obtain rfl := Option.some.inj hdt
            have i35 : ∃ q c, (act.eval (.tmp (35 : Nat))) = .slice q la c ∧ Rw 3 cellsF u (.slice q la c) (linJ la (fun i => wholeF (xa.getD i 0))) := hin ⟨1, .data⟩ (by simp) rfl 35 rfl
            have i36 : (act.eval (.tmp (36 : Nat))) = mV 0 0 none 0 0 := hin ⟨2, .data⟩ (by simp) rfl 36 rfl
            obtain ⟨q0, c0, e0, hq⟩ := i35
            refine enter_wp 25 #[.slice q0 la c0, mV 0 0 none 0 0] (by intro c h; cases h) (fun _ _ => trivial) (by simp only [execOp, evalC, evalF, evalG, resolve, e0, i36, List.map_toArray, List.map_cons, List.map_nil]; simp [invoke, egN, Result.andThen, go_sem]) (by intro h; cases h) (callsIn_wide.2 (rNewF_no q0 la c0 0 0 none 0 0 u HFIT.out)) ?_
            rintro e w' ⟨rfl, hb⟩
            exact ⟨_, rfl, _, rfl, rfl, hb⟩
          · simp only [List.getElem?_toArray, List.getElem?_cons_zero, List.getElem?_cons_succ, Option.some.injEq] at ho
            subst ho
            obtain rfl := Option.some.inj hdt
            have i37 : (act.eval (.tmp (37 : Nat))) = .tuple #[sJ none 0 0 0 0 none 0 0, .bool false] := hin ⟨3, .data⟩ (by simp) rfl 37 rfl
            have e1 := i37
            exact plain_wp (by intro c h; cases h) (fun _ _ => trivial) (by simp only [execOp, e1]; simp [go_sem]) ⟨_, rfl, rfl, Bl.refl _⟩
          · simp only [List.getElem?_toArray, List.getElem?_cons_zero, List.getElem?_cons_succ, Option.some.injEq] at ho
            subst ho
            obtain rfl := Option.some.inj hdt
            have i33 : (act.eval (.tmp (33 : Nat))) = .tuple #[sJ none 0 0 0 0 none 0 0, .bool false] := hin ⟨4, .data⟩ (by simp) rfl 33 rfl
            have e1 := i33
            exact plain_wp (by intro c h; cases h) (fun _ _ => trivial) (by simp only [execOp, e1]; simp [go_sem]) ⟨_, rfl, rfl, Bl.refl _⟩
          · cases hpu
          · simp only [List.getElem?_toArray, List.getElem?_cons_zero, List.getElem?_cons_succ, Option.some.injEq] at ho
            subst ho
            obtain rfl := Option.some.inj hdt
            exact plain_wp (by intro c h; cases h) (fun _ _ => trivial) (w' := u.alloc (.cells #[.slice none 0 0, .int .i64 0, .int .i64 0, .slice none 0 0] 63)) (v := .pointer (some ⟨u.heap.size, 0, none⟩)) (by simp only [execOp]; simp [go_sem]) ⟨_, rfl, ⟨u.heap.size, rfl, hu.size, SBox.new u _ _ _ _ _ _ _ _ _, noB_newSF u _⟩, (Bl.refl _).alloc _⟩
          · simp only [List.getElem?_toArray, List.getElem?_cons_zero, List.getElem?_cons_succ, Option.some.injEq] at ho
            subst ho
            cases hdt
          · cases hpu
        case still =>
          intro j o t act u0 u ho hdt hpu hsz hu hfr hin
          have hj : j < 10 := (Array.getElem?_eq_some_iff.1 ho).1
          obtain ⟨y0, y1, y2, _, _, _, _⟩ := k2.later hu
          rcases (by omega : j = 0 ∨ j = 1 ∨ j = 2 ∨ j = 3 ∨ j = 4 ∨ j = 5 ∨ j = 6 ∨ j = 7 ∨ j = 8 ∨ j = 9) with rfl | rfl | rfl | rfl | rfl | rfl | rfl | rfl | rfl | rfl
          · cases hpu
          · cases hpu
          · cases hpu
          · cases hpu
          · cases hpu
          · cases hpu
          · simp only [List.getElem?_toArray, List.getElem?_cons_zero, List.getElem?_cons_succ, Option.some.injEq] at ho
            subst ho
            obtain rfl := Option.some.inj hdt
            have i33 : (act.eval (.tmp (33 : Nat))) = .tuple #[sJ none 0 0 0 0 none 0 0, .bool false] := hin ⟨4, .data⟩ (by simp) rfl 33 rfl
            have e1 := i33
            exact plain_wp (by intro c h; cases h) (fun _ _ => trivial) (by simp only [execOp, e1]; simp [go_sem]) ⟨_, rfl, rfl, rfl⟩
          · cases hpu
          · cases hpu
          · simp only [List.getElem?_toArray, List.getElem?_cons_zero, List.getElem?_cons_succ, Option.some.injEq] at ho
            subst ho
            obtain rfl := Option.some.inj hdt
            have i39 : (act.eval (.tmp (39 : Nat))) = .bool false := hin ⟨6, .data⟩ (by simp) rfl 39 rfl
            exact plain_wp (by intro c h; cases h) (fun _ _ => trivial) (by simp only [execOp, i39, evalC, evalF, evalG]; simp [go_sem]) ⟨_, rfl, rfl, rfl⟩
        case store =>
          intro o act u vs ho hsz hu hfr hin
          simp only [List.getElem?_toArray, List.getElem?_cons_zero, List.getElem?_cons_succ, Option.some.injEq] at ho
          subst ho
          obtain ⟨i9, k9⟩ : act.eval (.tmp (9 : Nat)) = vs 7 ∧ (∃ b, (vs 7) = .pointer (some ⟨b, 0, none⟩) ∧ W2.heap.size ≤ b ∧ SBox u b none 0 0 0 0 none 0 0 ∧ NoB u b) := hin 7 9 rfl rfl
          obtain ⟨i38, k38⟩ : act.eval (.tmp (38 : Nat)) = vs 5 ∧ ((vs 5) = sJ none 0 0 0 0 none 0 0) := hin 5 38 rfl rfl
          obtain ⟨b, e1, hb, bx, nb⟩ := k9
          have e2 := k38
          rw [e1] at i9
          rw [e2] at i38
          obtain ⟨d0, d1, d2, d3, g0, g1, g2, g3, ltb⟩ := id bx
          exact skip_wp (by intro c h; cases h) (fun _ _ => trivial) (by simp only [execOp, i9, i38]; simp [go_sem, d0, d1, d2, d3, g0, g1, g2, g3]) ⟨rfl, b, e1, hb, bx.fill _ _ _ _ _ _ _ _, Bl.put4 hu hb _ _ _ _⟩
        case fin =>
          intro vs vb u0 u hu hin hps
          have a0 := hin 0 34 rfl
          have a1 := hin 1 35 rfl
          have a2 := hin 2 36 rfl
          have a3 := hin 3 37 rfl
          have a4 := hin 4 33 rfl
          have a5 := hin 5 38 rfl
          have a6 := hin 6 39 rfl
          have a7 := hin 7 9 rfl
          have a9 := hin 9 10 rfl
          simp only [putL, Act.put, List.setIfInBounds_toArray, List.set_cons_zero, List.set_cons_succ, Nat.zero_add, Nat.reduceAdd, Nat.reduceBEq, Bool.or_false, Bool.or_true, Bool.false_or, Bool.true_or, Bool.false_eq_true, if_false, if_true, reduceIte, Nat.reduceEqDiff, beq_self_eq_true, Bool.or_self] at a0 a1 a2 a3 a4 a5 a6 a7 a9 ⊢
          rw [if_pos (by decide)] at hps
          simp only [a0, a2, a3, a4, a5, a6, a9]
          obtain ⟨b, eb, hb, ks, hbu⟩ := hps
          simp only [eb]
          obtain ⟨w3, rfl⟩ : ∃ w3, w3 = u := ⟨_, rfl⟩
          clear a1 a7 hu hin
          have B3 : Bl w1 w3 := B2.trans hbu
          have RT := hideP (fun u => by have := rRightF none 0 0 0 0 none 0 0 u; rw [show fitJ 0 0 0 ((0 : Nat) : Int) = false from rfl] at this; exact this)
          have CV := hideP (fun u => rCoverF_no none 0 0 0 0 none 0 0 u rfl)
          have SN := hideP (fun u => same6_any 0 0 none 0 0 none 0 [] u (.inl ⟨none, 0, rfl, rfl, fun _ => rfl⟩) (.inl ⟨none, 0, rfl, rfl, fun _ => rfl⟩) rfl (by intro x hx; cases hx) (by omega))
          obtain ⟨s0, s1, s2, s3, _, _, _, _, _⟩ := id ks
          go_wp2_with fail
          refine (RT.out _).mono ?_
          rintro e w4 ⟨rfl, h4'⟩
          clear s0 s1 s2 s3
          obtain ⟨s0, s1, s2, s3, _, _, _, _, _⟩ := ks.later h4'
          go_wp2_with fail
          refine (CV.out _).mono ?_
          rintro e w5 ⟨rfl, h5⟩
          go_wp2_with fail
          refine (SN.out _).mono ?_
          rintro e w6 ⟨rfl, h6⟩
          go_wp2_with fail
          refine (AW.out _).mono ?_
          rintro e w99 ⟨rfl, h99⟩
          go_wp2
          go_ret
          exact ⟨rfl, (B3.trans (h4'.trans (h5.trans h6))).trans h99⟩
      | true =>
        obtain ⟨m, m', e1, e2, hd, hN⟩ := fitB_nat hfit
        obtain rfl : m = m' := by omega
        subst e1
        have WN := hideP (whole6_call m m pb N cb xb w1 HXB.out hfit HLB.out.symm HS6.out)
        have HD := hideP hd
        have HNM := hideP hN
        clear hfit e2
        have hm1 : 1 ≤ m := HD.out.r1
        have CL := hideP (fun u (hu : Bl w1 u) => by have := ref7Clear_any pb N cb xb m u HD.out (HXB.out.later hu) (HLB.out.symm.trans HNM.out) HNM.out; rw [← HNM.out] at this; exact this)
        have hsm : Sm2 100 m m (ofL m xb) := ofL_sml (HLB.out.symm.trans HNM.out) HS6.out
        have CS := hideP (clrI_sm (by omega) hsm)
        have SQ := hideP (fun p5 c5 u (hu : Rq 1 cI u (.slice p5 N c5) (mk m m (clrI (ofL m xb)))) => by
          have := ref7Square_any p5 N c5 (mk m m (clrI (ofL m xb))) m u HD.out hu (mk_len _ _ _) HNM.out (by
            intro x hx
            obtain ⟨i, hi, hx⟩ := List.mem_flatMap.1 hx
            obtain ⟨j, hj, rfl⟩ := List.mem_map.1 hx
            exact CS.out i j (by simpa using hi) (by simpa using hj))
          rw [← HNM.out, show mk m m (sqI m (ofL m (mk m m (clrI (ofL m xb))))) = mk m m (sqI m (clrI (ofL m xb))) from mk_congr fun i j hi hj => mulI_congr7 (fun t ht => ofL_mk7 _ hi ht) (fun t ht => ofL_mk7 _ hj ht)] at this
          exact this)
        clear hd hN hsm
        go_wp2_with fail
        refine WN.out.mono ?_
        rintro e w2 ⟨p2, c2, rfl, hx, h2⟩
        obtain ⟨W2, hW2⟩ : ∃ W2, W2 = w2.alloc (.cells #[.int .i64 m, .int .i64 m, .slice p2 N c2] 30) := ⟨_, rfl⟩
        have b2 : Bl w2 W2 := by rw [hW2]; exact (Bl.refl _).alloc _
        have k2 : MBox W2 w2.heap.size m m p2 N c2 := by rw [hW2]; exact MBox.new w2 _ _ _ _ _ _
        have B2 : Bl w1 W2 := h2.trans b2
        have HX := hideP (Mx.later hx b2)
        have HW2 := hideP hW2
        clear hW2 hx WN
        by_cases hlm : la = m
        · subst hlm
          by_cases h4 : la ≤ 4
          · have HFIT := hideP (fitJ_dim HX.out.1 HX.out.2.1 h4)
            have e1 : ((la : Int) != (la : Int)) = false := by simp
            have e2 : ¬ (la : Int) > 4 := by omega
            go_wp2_with fail
            rw [← HW2.out]
            refine (wpIn_wide (n := 8)).1 (region_q fm [some 34, some 35, some 36, some 37, some 33, some 38, some 39, some 9, none, some 10] (fun j => j == 6 || j == 9) 8 (by kernel_rfl) (by rfl)
                  (fun j v u => match j with | 0 => v = .slice pa la ca | 1 => ∃ q c, v = .slice q la c ∧ Rw 3 cellsF u (.slice q la c) (linJ la (fun i => wholeF (xa.getD i 0))) | 2 => v = mV la la p2 N c2 | 3 => ∃ q c p' c', v = .tuple #[sJ q (la) c (la : Nat) (la : Nat) p' (N) c', .bool true] ∧ Rw 3 cellsF u (.slice q (la) c) (linJ (la) (fun i => wholeF (xa.getD i 0))) ∧ Mx 3 cellsF u (la) (la) p' (N) c' (clrF (fun i j => itF (ofL la xb i j))) | 4 => ∃ q c p' c', v = .tuple #[sJ q (la) c (la : Nat) (la : Nat) p' (N) c', .bool true] ∧ Rw 3 cellsF u (.slice q (la) c) (linJ (la) (fun i => wholeF (xa.getD i 0))) ∧ Mx 3 cellsF u (la) (la) p' (N) c' (clrF (fun i j => itF (ofL la xb i j))) | 5 => ∃ q c p' c', v = sJ q (la) c (la : Nat) (la : Nat) p' (N) c' ∧ Rw 3 cellsF u (.slice q (la) c) (linJ (la) (fun i => wholeF (xa.getD i 0))) ∧ Mx 3 cellsF u (la) (la) p' (N) c' (clrF (fun i j => itF (ofL la xb i j))) | 6 => v = .bool true | 7 => ∃ b, v = .pointer (some ⟨b, 0, none⟩) ∧ W2.heap.size ≤ b ∧ SBox u b none 0 0 0 0 none 0 0 ∧ NoB u b | 9 => v = .bool true | _ => False)
                  (by
                    intro j v u u' hb h
                    split at h <;> first | exact h | (obtain ⟨b, e, h1, h2, h3⟩ := h; exact ⟨b, e, h1, h2.later hb, h3.later hb h2.lt⟩) | (obtain ⟨q, c, p', c', e, h1, h2⟩ := h; exact ⟨q, c, p', c', e, h1.later hb, Mx.later h2 hb⟩) | (obtain ⟨q, c, e, h1⟩ := h; exact ⟨q, c, e, h1.later hb⟩) | (obtain ⟨g, e, h1⟩ := h; exact ⟨g, e, h1.later hb⟩)) (fun vs u0 u => ∃ b q c p' c', vs 7 = .pointer (some ⟨b, 0, none⟩) ∧ W2.heap.size ≤ b ∧ SBox u b q (la) c (la : Nat) (la : Nat) p' (N) c' ∧ Rw 3 cellsF u (.slice q (la) c) (linJ (la) (fun i => wholeF (xa.getD i 0))) ∧ Mx 3 cellsF u (la) (la) p' (N) c' (clrF (fun i j => itF (ofL la xb i j))) ∧ Bl W2 u) ?step ?still ?store ?fin)
            case step =>
              intro j o t act u ho hdt hpu hsz hu hfr hin
              have hj : j < 10 := (Array.getElem?_eq_some_iff.1 ho).1
              obtain ⟨y0, y1, y2, _, _, _, _⟩ := k2.later hu
              rcases (by omega : j = 0 ∨ j = 1 ∨ j = 2 ∨ j = 3 ∨ j = 4 ∨ j = 5 ∨ j = 6 ∨ j = 7 ∨ j = 8 ∨ j = 9) with rfl | rfl | rfl | rfl | rfl | rfl | rfl | rfl | rfl | rfl
              · simp only [List.getElem?_toArray, List.getElem?_cons_zero, List.getElem?_cons_succ, Option.some.injEq] at ho
                subst ho
                obtain rfl := Option.some.inj hdt
                have i0 : act.eval (.tmp (0 : Nat)) = .slice pa la ca := hfr 0 (by decide)
                exact plain_wp (by intro c h; cases h) (fun _ _ => trivial) (by simp only [execOp, i0, evalC, evalF, evalG]; simp [go_sem]) ⟨_, rfl, rfl, Bl.refl _⟩
              · simp only [List.getElem?_toArray, List.getElem?_cons_zero, List.getElem?_cons_succ, Option.some.injEq] at ho
                subst ho
                obtain rfl := Option.some.inj hdt
                have i34 : (act.eval (.tmp (34 : Nat))) = .slice pa la ca := hin ⟨0, .data⟩ (by simp) rfl 34 rfl
                refine enter_wp 16 #[.slice pa la ca] (by intro c h; cases h) (fun _ _ => trivial) (by simp only [execOp, evalC, evalF, evalG, resolve, i34, List.map_toArray, List.map_cons, List.map_nil]; simp [invoke, egW, Result.andThen, go_sem]) (by intro h; cases h) (callsIn_wide.2 (WHL.out u (B2.trans hu))) ?_
                rintro e w' ⟨q, c, rfl, hR, _, hb⟩
                exact ⟨_, rfl, _, rfl, ⟨q, c, rfl, hR⟩, hb⟩
              · simp only [List.getElem?_toArray, List.getElem?_cons_zero, List.getElem?_cons_succ, Option.some.injEq] at ho
                subst ho
                obtain rfl := Option.some.inj hdt
                have i7 : act.eval (.tmp (7 : Nat)) = .pointer (some ⟨w2.heap.size, 0, none⟩) := hfr 7 (by decide)
                exact plain_wp (by intro c h; cases h) (fun _ _ => trivial) (by simp only [execOp, i7, evalC, evalF, evalG]; simp [go_sem, y0, y1, y2]) ⟨_, rfl, rfl, Bl.refl _⟩
              · simp only [List.getElem?_toArray, List.getElem?_cons_zero, List.getElem?_cons_succ, Option.some.injEq] at ho
                subst ho
                obtain rfl := Option.some.inj hdt
                have i35 : ∃ q c, (act.eval (.tmp (35 : Nat))) = .slice q la c ∧ Rw 3 cellsF u (.slice q la c) (linJ la (fun i => wholeF (xa.getD i 0))) := hin ⟨1, .data⟩ (by simp) rfl 35 rfl
                have i36 : (act.eval (.tmp (36 : Nat))) = mV la la p2 N c2 := hin ⟨2, .data⟩ (by simp) rfl 36 rfl
                obtain ⟨q0, c0, e0, hq⟩ := i35
                refine enter_wp 25 #[.slice q0 la c0, mV la la p2 N c2] (by intro c h; cases h) (fun _ _ => trivial) (by simp only [execOp, evalC, evalF, evalG, resolve, e0, i36, List.map_toArray, List.map_cons, List.map_nil]; simp [invoke, egN, Result.andThen, go_sem]) (by intro h; cases h) (callsIn_wide.2 (rNewF la q0 c0 (fun i => wholeF (xa.getD i 0)) p2 N c2 (fun i j => itF (ofL la xb i j)) u hq.q (HX.out.later hu) h4)) ?_
                rintro e w' ⟨q, c, p', c', rfl, ⟨hR, hM⟩, hb⟩
                exact ⟨_, rfl, _, rfl, ⟨q, c, p', c', rfl, hR, hM⟩, hb⟩
              · simp only [List.getElem?_toArray, List.getElem?_cons_zero, List.getElem?_cons_succ, Option.some.injEq] at ho
                subst ho
                obtain rfl := Option.some.inj hdt
                have i37 : ∃ q c p' c', (act.eval (.tmp (37 : Nat))) = .tuple #[sJ q (la) c (la : Nat) (la : Nat) p' (N) c', .bool true] ∧ Rw 3 cellsF u (.slice q (la) c) (linJ (la) (fun i => wholeF (xa.getD i 0))) ∧ Mx 3 cellsF u (la) (la) p' (N) c' (clrF (fun i j => itF (ofL la xb i j))) := hin ⟨3, .data⟩ (by simp) rfl 37 rfl
                obtain ⟨q0, c0', p0, c0, e1, hq1, hq2⟩ := i37
                exact plain_wp (by intro c h; cases h) (fun _ _ => trivial) (by simp only [execOp, e1]; simp [go_sem]) ⟨_, rfl, ⟨q0, c0', p0, c0, rfl, hq1, hq2⟩, Bl.refl _⟩
              · simp only [List.getElem?_toArray, List.getElem?_cons_zero, List.getElem?_cons_succ, Option.some.injEq] at ho
                subst ho
                obtain rfl := Option.some.inj hdt
                have i33 : ∃ q c p' c', (act.eval (.tmp (33 : Nat))) = .tuple #[sJ q (la) c (la : Nat) (la : Nat) p' (N) c', .bool true] ∧ Rw 3 cellsF u (.slice q (la) c) (linJ (la) (fun i => wholeF (xa.getD i 0))) ∧ Mx 3 cellsF u (la) (la) p' (N) c' (clrF (fun i j => itF (ofL la xb i j))) := hin ⟨4, .data⟩ (by simp) rfl 33 rfl
                obtain ⟨q0, c0', p0, c0, e1, hq1, hq2⟩ := i33
                exact plain_wp (by intro c h; cases h) (fun _ _ => trivial) (by simp only [execOp, e1]; simp [go_sem]) ⟨_, rfl, ⟨q0, c0', p0, c0, rfl, hq1, hq2⟩, Bl.refl _⟩
              · cases hpu
              · simp only [List.getElem?_toArray, List.getElem?_cons_zero, List.getElem?_cons_succ, Option.some.injEq] at ho
                subst ho
                obtain rfl := Option.some.inj hdt
                exact plain_wp (by intro c h; cases h) (fun _ _ => trivial) (w' := u.alloc (.cells #[.slice none 0 0, .int .i64 0, .int .i64 0, .slice none 0 0] 63)) (v := .pointer (some ⟨u.heap.size, 0, none⟩)) (by simp only [execOp]; simp [go_sem]) ⟨_, rfl, ⟨u.heap.size, rfl, hu.size, SBox.new u _ _ _ _ _ _ _ _ _, noB_newSF u _⟩, (Bl.refl _).alloc _⟩
              · simp only [List.getElem?_toArray, List.getElem?_cons_zero, List.getElem?_cons_succ, Option.some.injEq] at ho
                subst ho
                cases hdt
              · cases hpu
            case still =>
              intro j o t act u0 u ho hdt hpu hsz hu hfr hin
              have hj : j < 10 := (Array.getElem?_eq_some_iff.1 ho).1
              obtain ⟨y0, y1, y2, _, _, _, _⟩ := k2.later hu
              rcases (by omega : j = 0 ∨ j = 1 ∨ j = 2 ∨ j = 3 ∨ j = 4 ∨ j = 5 ∨ j = 6 ∨ j = 7 ∨ j = 8 ∨ j = 9) with rfl | rfl | rfl | rfl | rfl | rfl | rfl | rfl | rfl | rfl
              · cases hpu
              · cases hpu
              · cases hpu
              · cases hpu
              · cases hpu
              · cases hpu
              · simp only [List.getElem?_toArray, List.getElem?_cons_zero, List.getElem?_cons_succ, Option.some.injEq] at ho
                subst ho
                obtain rfl := Option.some.inj hdt
                have i33 : ∃ q c p' c', (act.eval (.tmp (33 : Nat))) = .tuple #[sJ q (la) c (la : Nat) (la : Nat) p' (N) c', .bool true] ∧ Rw 3 cellsF u0 (.slice q (la) c) (linJ (la) (fun i => wholeF (xa.getD i 0))) ∧ Mx 3 cellsF u0 (la) (la) p' (N) c' (clrF (fun i j => itF (ofL la xb i j))) := hin ⟨4, .data⟩ (by simp) rfl 33 rfl
                obtain ⟨q0, c0', p0, c0, e1, hq1, hq2⟩ := i33
                exact plain_wp (by intro c h; cases h) (fun _ _ => trivial) (by simp only [execOp, e1]; simp [go_sem]) ⟨_, rfl, rfl, rfl⟩
              · cases hpu
              · cases hpu
              · simp only [List.getElem?_toArray, List.getElem?_cons_zero, List.getElem?_cons_succ, Option.some.injEq] at ho
                subst ho
                obtain rfl := Option.some.inj hdt
                have i39 : (act.eval (.tmp (39 : Nat))) = .bool true := hin ⟨6, .data⟩ (by simp) rfl 39 rfl
                exact plain_wp (by intro c h; cases h) (fun _ _ => trivial) (by simp only [execOp, i39, evalC, evalF, evalG]; simp [go_sem]) ⟨_, rfl, rfl, rfl⟩
            case store =>
              intro o act u vs ho hsz hu hfr hin
              simp only [List.getElem?_toArray, List.getElem?_cons_zero, List.getElem?_cons_succ, Option.some.injEq] at ho
              subst ho
              obtain ⟨i9, k9⟩ : act.eval (.tmp (9 : Nat)) = vs 7 ∧ (∃ b, (vs 7) = .pointer (some ⟨b, 0, none⟩) ∧ W2.heap.size ≤ b ∧ SBox u b none 0 0 0 0 none 0 0 ∧ NoB u b) := hin 7 9 rfl rfl
              obtain ⟨i38, k38⟩ : act.eval (.tmp (38 : Nat)) = vs 5 ∧ (∃ q c p' c', (vs 5) = sJ q (la) c (la : Nat) (la : Nat) p' (N) c' ∧ Rw 3 cellsF u (.slice q (la) c) (linJ (la) (fun i => wholeF (xa.getD i 0))) ∧ Mx 3 cellsF u (la) (la) p' (N) c' (clrF (fun i j => itF (ofL la xb i j)))) := hin 5 38 rfl rfl
              obtain ⟨b, e1, hb, bx, nb⟩ := k9
              obtain ⟨q0, c0', p0, c0, e2, hq1, hq2⟩ := k38
              rw [e1] at i9
              rw [e2] at i38
              obtain ⟨d0, d1, d2, d3, g0, g1, g2, g3, ltb⟩ := id bx
              exact skip_wp (by intro c h; cases h) (fun _ _ => trivial) (by simp only [execOp, i9, i38]; simp [go_sem, d0, d1, d2, d3, g0, g1, g2, g3]) ⟨rfl, b, q0, c0', p0, c0, e1, hb, bx.fill _ _ _ _ _ _ _ _, hq1.but (but4F _ _ _ _ _ _) (fun g hg => noB_rwF hq1 ((by omega)) nb g hg), Mx.but hq2 (but4F _ _ _ _ _ _) (fun g hg => Ne.symm (noB_mx boolF hq2 nb g hg)), Bl.put4 hu hb _ _ _ _⟩
            case fin =>
              intro vs vb u0 u hu hin hps
              have a0 := hin 0 34 rfl
              have a1 := hin 1 35 rfl
              have a2 := hin 2 36 rfl
              have a3 := hin 3 37 rfl
              have a4 := hin 4 33 rfl
              have a5 := hin 5 38 rfl
              have a6 := hin 6 39 rfl
              have a7 := hin 7 9 rfl
              have a9 := hin 9 10 rfl
              simp only [putL, Act.put, List.setIfInBounds_toArray, List.set_cons_zero, List.set_cons_succ, Nat.zero_add, Nat.reduceAdd, Nat.reduceBEq, Bool.or_false, Bool.or_true, Bool.false_or, Bool.true_or, Bool.false_eq_true, if_false, if_true, reduceIte, Nat.reduceEqDiff, beq_self_eq_true, Bool.or_self] at a0 a1 a2 a3 a4 a5 a6 a7 a9 ⊢
              rw [if_pos (by decide)] at hps
              simp only [a0, a2, a6, a9]
              obtain ⟨b, q1, cq1, p3, c3, eb, hb, ks, hR, hM, hbu⟩ := hps
              simp only [eb]
              obtain ⟨w3, rfl⟩ : ∃ w3, w3 = u := ⟨_, rfl⟩
              have hM2 : MxI w3 la la p3 N c3 (clrI (ofL la xb)) := hM.congr fun i j _ _ => by
                unfold clrF clrI
                split <;> rfl
              have HM := hideP hM2
              have B3 : Bl w1 w3 := B2.trans hbu
              have SN := hideP (fun p5 c5 u (hu : Bl w3 u) (hr : Rq 1 cI u (.slice p5 N c5) (mk la la (clrI (ofL la xb)))) => same6_any la la p3 N c3 p5 c5 (mk la la (clrI (ofL la xb))) u (mxI_rq (HM.out.later hu)) hr (by rw [mk_len]; exact HNM.out.symm) (by
                intro x hx
                obtain ⟨i, hi, hx⟩ := List.mem_flatMap.1 hx
                obtain ⟨j, hj, rfl⟩ := List.mem_map.1 hx
                have := CS.out i j (by simpa using hi) (by simpa using hj)
                exact ⟨by omega, by omega⟩) (by have := HNM.out; have : la * la ≤ 4 * 4 := Nat.mul_le_mul h4 h4; omega))
              have CV := hideP (fun u (hu : Bl w3 u) => cover10I la q1 cq1 p3 N c3 (clrI (ofL la xb)) u (HM.out.later hu) CS.out h4)
              have RT := hideP (fun u => by have := rRightF q1 la cq1 la la p3 N c3 u; rw [HFIT.out] at this; exact this)
              clear hR hM hM2 a1 a3 a4 a5 a7 hu hin
              go_wp2_with fail
              refine (CL.out w3 B3).mono ?_
              rintro e w5 ⟨p5, c5, rfl, hr5, h5⟩
              have HR5 := hideP hr5.q
              clear hr5
              obtain ⟨s0, s1, s2, s3, _, _, _, _, _⟩ := ks.later h5
              go_wp2_with fail
              refine (SN.out _ _ _ h5 HR5.out).mono ?_
              rintro e w6 ⟨rfl, h6⟩
              clear s0 s1 s2 s3
              obtain ⟨s0, s1, s2, s3, _, _, _, _, _⟩ := ks.later (h5.trans h6)
              go_wp2_with fail
              refine (CV.out _ (h5.trans h6)).mono ?_
              rintro e w7 ⟨p7, c7, rfl, hm7, h7⟩
              have HM7 := hideP hm7
              clear hm7
              go_wp2_with fail
              refine (SQ.out _ _ _ (HR5.out.later (h6.trans h7))).mono ?_
              rintro e w8 ⟨p8, c8, rfl, hr8, h8⟩
              have HR8 := hideP hr8.q
              clear hr8
              go_wp2_with fail
              refine (same6_any la la p7 N c7 p8 c8 (mk la la (sqI la (clrI (ofL la xb)))) _ (mxI_rq (HM7.out.later h8)) HR8.out (by rw [mk_len]; exact HNM.out.symm) (sqI_mk (by omega) CS.out) (by have := HNM.out; have : la * la ≤ 4 * 4 := Nat.mul_le_mul h4 h4; omega)).mono ?_
              rintro e w9 ⟨rfl, h9⟩
              clear s0 s1 s2 s3
              obtain ⟨s0, s1, s2, s3, _, _, _, _, _⟩ := ks.later (h5.trans (h6.trans (h7.trans (h8.trans h9))))
              go_wp2_with fail
              refine (RT.out _).mono ?_
              rintro e w10 ⟨rfl, h10⟩
              go_wp2_with fail
              refine (AW.out _).mono ?_
              rintro e w99 ⟨rfl, h99⟩
              go_wp2
              go_ret
              exact ⟨rfl, (B3.trans (h5.trans (h6.trans (h7.trans (h8.trans (h9.trans h10)))))).trans h99⟩
          · have HFIT := hideP (show fitJ la la N la = false from by unfold fitJ; rw [decide_eq_false (by omega)]; rfl)
            have e1 : ((la : Int) != (la : Int)) = false := by simp
            have e2 : (la : Int) > 4 := by omega
            go_wp2_with fail
            rw [← HW2.out]
            refine (wpIn_wide (n := 8)).1 (region_q fm [some 34, some 35, some 36, some 37, some 33, some 38, some 39, some 9, none, some 10] (fun j => j == 6 || j == 9) 8 (by kernel_rfl) (by rfl)
                  (fun j v u => match j with | 0 => v = .slice pa la ca | 1 => ∃ q c, v = .slice q la c ∧ Rw 3 cellsF u (.slice q la c) (linJ la (fun i => wholeF (xa.getD i 0))) | 2 => v = mV la la p2 N c2 | 3 => v = .tuple #[sJ none 0 0 0 0 none 0 0, .bool false] | 4 => v = .tuple #[sJ none 0 0 0 0 none 0 0, .bool false] | 5 => v = sJ none 0 0 0 0 none 0 0 | 6 => v = .bool false | 7 => ∃ b, v = .pointer (some ⟨b, 0, none⟩) ∧ W2.heap.size ≤ b ∧ SBox u b none 0 0 0 0 none 0 0 ∧ NoB u b | 9 => v = .bool false | _ => False)
                  (by
                    intro j v u u' hb h
                    split at h <;> first | exact h | (obtain ⟨b, e, h1, h2, h3⟩ := h; exact ⟨b, e, h1, h2.later hb, h3.later hb h2.lt⟩) | (obtain ⟨q, c, p', c', e, h1, h2⟩ := h; exact ⟨q, c, p', c', e, h1.later hb, Mx.later h2 hb⟩) | (obtain ⟨q, c, e, h1⟩ := h; exact ⟨q, c, e, h1.later hb⟩) | (obtain ⟨g, e, h1⟩ := h; exact ⟨g, e, h1.later hb⟩)) (fun vs u0 u => ∃ b, vs 7 = .pointer (some ⟨b, 0, none⟩) ∧ W2.heap.size ≤ b ∧ SBox u b none 0 0 0 0 none 0 0 ∧ Bl W2 u) ?step ?still ?store ?fin)
            case step =>
              intro j o t act u ho hdt hpu hsz hu hfr hin
              have hj : j < 10 := (Array.getElem?_eq_some_iff.1 ho).1
              obtain ⟨y0, y1, y2, _, _, _, _⟩ := k2.later hu
              rcases (by omega : j = 0 ∨ j = 1 ∨ j = 2 ∨ j = 3 ∨ j = 4 ∨ j = 5 ∨ j = 6 ∨ j = 7 ∨ j = 8 ∨ j = 9) with rfl | rfl | rfl | rfl | rfl | rfl | rfl | rfl | rfl | rfl
              · simp only [List.getElem?_toArray, List.getElem?_cons_zero, List.getElem?_cons_succ, Option.some.injEq] at ho
                subst ho
                obtain rfl := Option.some.inj hdt
                have i0 : act.eval (.tmp (0 : Nat)) = .slice pa la ca := hfr 0 (by decide)
                exact plain_wp (by intro c h; cases h) (fun _ _ => trivial) (by simp only [execOp, i0, evalC, evalF, evalG]; simp [go_sem]) ⟨_, rfl, rfl, Bl.refl _⟩
              · simp only [List.getElem?_toArray, List.getElem?_cons_zero, List.getElem?_cons_succ, Option.some.injEq] at ho
                subst ho
                obtain rfl := Option.some.inj hdt
                have i34 : (act.eval (.tmp (34 : Nat))) = .slice pa la ca := hin ⟨0, .data⟩ (by simp) rfl 34 rfl
                refine enter_wp 16 #[.slice pa la ca] (by intro c h; cases h) (fun _ _ => trivial) (by simp only [execOp, evalC, evalF, evalG, resolve, i34, List.map_toArray, List.map_cons, List.map_nil]; simp [invoke, egW, Result.andThen, go_sem]) (by intro h; cases h) (callsIn_wide.2 (WHL.out u (B2.trans hu))) ?_
                rintro e w' ⟨q, c, rfl, hR, _, hb⟩
                exact ⟨_, rfl, _, rfl, ⟨q, c, rfl, hR⟩, hb⟩
              · simp only [List.getElem?_toArray, List.getElem?_cons_zero, List.getElem?_cons_succ, Option.some.injEq] at ho
                subst ho
                obtain rfl := Option.some.inj hdt
                have i7 : act.eval (.tmp (7 : Nat)) = .pointer (some ⟨w2.heap.size, 0, none⟩) := hfr 7 (by decide)
                exact plain_wp (by intro c h; cases h) (fun _ _ => trivial) (by simp only [execOp, i7, evalC, evalF, evalG]; simp [go_sem, y0, y1, y2]) ⟨_, rfl, rfl, Bl.refl _⟩
              · simp only [List.getElem?_toArray, List.getElem?_cons_zero, List.getElem?_cons_succ, Option.some.injEq] at ho
                subst ho
                obtain rfl := Option.some.inj hdt
                have i35 : ∃ q c, (act.eval (.tmp (35 : Nat))) = .slice q la c ∧ Rw 3 cellsF u (.slice q la c) (linJ la (fun i => wholeF (xa.getD i 0))) := hin ⟨1, .data⟩ (by simp) rfl 35 rfl
                have i36 : (act.eval (.tmp (36 : Nat))) = mV la la p2 N c2 := hin ⟨2, .data⟩ (by simp) rfl 36 rfl
                obtain ⟨q0, c0, e0, hq⟩ := i35
                refine enter_wp 25 #[.slice q0 la c0, mV la la p2 N c2] (by intro c h; cases h) (fun _ _ => trivial) (by simp only [execOp, evalC, evalF, evalG, resolve, e0, i36, List.map_toArray, List.map_cons, List.map_nil]; simp [invoke, egN, Result.andThen, go_sem]) (by intro h; cases h) (callsIn_wide.2 (rNewF_no q0 la c0 la la p2 N c2 u HFIT.out)) ?_
                rintro e w' ⟨rfl, hb⟩
                exact ⟨_, rfl, _, rfl, rfl, hb⟩
              · simp only [List.getElem?_toArray, List.getElem?_cons_zero, List.getElem?_cons_succ, Option.some.injEq] at ho
                subst ho
                obtain rfl := Option.some.inj hdt
                have i37 : (act.eval (.tmp (37 : Nat))) = .tuple #[sJ none 0 0 0 0 none 0 0, .bool false] := hin ⟨3, .data⟩ (by simp) rfl 37 rfl
                have e1 := i37
                exact plain_wp (by intro c h; cases h) (fun _ _ => trivial) (by simp only [execOp, e1]; simp [go_sem]) ⟨_, rfl, rfl, Bl.refl _⟩
              · simp only [List.getElem?_toArray, List.getElem?_cons_zero, List.getElem?_cons_succ, Option.some.injEq] at ho
                subst ho
                obtain rfl := Option.some.inj hdt
                have i33 : (act.eval (.tmp (33 : Nat))) = .tuple #[sJ none 0 0 0 0 none 0 0, .bool false] := hin ⟨4, .data⟩ (by simp) rfl 33 rfl
                have e1 := i33
                exact plain_wp (by intro c h; cases h) (fun _ _ => trivial) (by simp only [execOp, e1]; simp [go_sem]) ⟨_, rfl, rfl, Bl.refl _⟩
              · cases hpu
              · simp only [List.getElem?_toArray, List.getElem?_cons_zero, List.getElem?_cons_succ, Option.some.injEq] at ho
                subst ho
                obtain rfl := Option.some.inj hdt
                exact plain_wp (by intro c h; cases h) (fun _ _ => trivial) (w' := u.alloc (.cells #[.slice none 0 0, .int .i64 0, .int .i64 0, .slice none 0 0] 63)) (v := .pointer (some ⟨u.heap.size, 0, none⟩)) (by simp only [execOp]; simp [go_sem]) ⟨_, rfl, ⟨u.heap.size, rfl, hu.size, SBox.new u _ _ _ _ _ _ _ _ _, noB_newSF u _⟩, (Bl.refl _).alloc _⟩
              · simp only [List.getElem?_toArray, List.getElem?_cons_zero, List.getElem?_cons_succ, Option.some.injEq] at ho
                subst ho
                cases hdt
              · cases hpu
            case still =>
              intro j o t act u0 u ho hdt hpu hsz hu hfr hin
              have hj : j < 10 := (Array.getElem?_eq_some_iff.1 ho).1
              obtain ⟨y0, y1, y2, _, _, _, _⟩ := k2.later hu
              rcases (by omega : j = 0 ∨ j = 1 ∨ j = 2 ∨ j = 3 ∨ j = 4 ∨ j = 5 ∨ j = 6 ∨ j = 7 ∨ j = 8 ∨ j = 9) with rfl | rfl | rfl | rfl | rfl | rfl | rfl | rfl | rfl | rfl
              · cases hpu
              · cases hpu
              · cases hpu
              · cases hpu
              · cases hpu
              · cases hpu
              · simp only [List.getElem?_toArray, List.getElem?_cons_zero, List.getElem?_cons_succ, Option.some.injEq] at ho
                subst ho
                obtain rfl := Option.some.inj hdt
                have i33 : (act.eval (.tmp (33 : Nat))) = .tuple #[sJ none 0 0 0 0 none 0 0, .bool false] := hin ⟨4, .data⟩ (by simp) rfl 33 rfl
                have e1 := i33
                exact plain_wp (by intro c h; cases h) (fun _ _ => trivial) (by simp only [execOp, e1]; simp [go_sem]) ⟨_, rfl, rfl, rfl⟩
              · cases hpu
              · cases hpu
              · simp only [List.getElem?_toArray, List.getElem?_cons_zero, List.getElem?_cons_succ, Option.some.injEq] at ho
                subst ho
                obtain rfl := Option.some.inj hdt
                have i39 : (act.eval (.tmp (39 : Nat))) = .bool false := hin ⟨6, .data⟩ (by simp) rfl 39 rfl
                exact plain_wp (by intro c h; cases h) (fun _ _ => trivial) (by simp only [execOp, i39, evalC, evalF, evalG]; simp [go_sem]) ⟨_, rfl, rfl, rfl⟩
            case store =>
              intro o act u vs ho hsz hu hfr hin
              simp only [List.getElem?_toArray, List.getElem?_cons_zero, List.getElem?_cons_succ, Option.some.injEq] at ho
              subst ho
              obtain ⟨i9, k9⟩ : act.eval (.tmp (9 : Nat)) = vs 7 ∧ (∃ b, (vs 7) = .pointer (some ⟨b, 0, none⟩) ∧ W2.heap.size ≤ b ∧ SBox u b none 0 0 0 0 none 0 0 ∧ NoB u b) := hin 7 9 rfl rfl
              obtain ⟨i38, k38⟩ : act.eval (.tmp (38 : Nat)) = vs 5 ∧ ((vs 5) = sJ none 0 0 0 0 none 0 0) := hin 5 38 rfl rfl
              obtain ⟨b, e1, hb, bx, nb⟩ := k9
              have e2 := k38
              rw [e1] at i9
              rw [e2] at i38
              obtain ⟨d0, d1, d2, d3, g0, g1, g2, g3, ltb⟩ := id bx
              exact skip_wp (by intro c h; cases h) (fun _ _ => trivial) (by simp only [execOp, i9, i38]; simp [go_sem, d0, d1, d2, d3, g0, g1, g2, g3]) ⟨rfl, b, e1, hb, bx.fill _ _ _ _ _ _ _ _, Bl.put4 hu hb _ _ _ _⟩
            case fin =>
              intro vs vb u0 u hu hin hps
              have a0 := hin 0 34 rfl
              have a1 := hin 1 35 rfl
              have a2 := hin 2 36 rfl
              have a3 := hin 3 37 rfl
              have a4 := hin 4 33 rfl
              have a5 := hin 5 38 rfl
              have a6 := hin 6 39 rfl
              have a7 := hin 7 9 rfl
              have a9 := hin 9 10 rfl
              simp only [putL, Act.put, List.setIfInBounds_toArray, List.set_cons_zero, List.set_cons_succ, Nat.zero_add, Nat.reduceAdd, Nat.reduceBEq, Bool.or_false, Bool.or_true, Bool.false_or, Bool.true_or, Bool.false_eq_true, if_false, if_true, reduceIte, Nat.reduceEqDiff, beq_self_eq_true, Bool.or_self] at a0 a1 a2 a3 a4 a5 a6 a7 a9 ⊢
              rw [if_pos (by decide)] at hps
              simp only [a0, a2, a3, a4, a5, a6, a9]
              obtain ⟨b, eb, hb, ks, hbu⟩ := hps
              simp only [eb]
              obtain ⟨w3, rfl⟩ : ∃ w3, w3 = u := ⟨_, rfl⟩
              clear a1 a7 hu hin
              have B3 : Bl w1 w3 := B2.trans hbu
              have RT := hideP (fun u => by have := rRightF none 0 0 0 0 none 0 0 u; rw [show fitJ 0 0 0 ((0 : Nat) : Int) = false from rfl] at this; exact this)
              have CV := hideP (fun u => rCoverF_no none 0 0 0 0 none 0 0 u rfl)
              have SN := hideP (fun u => same6_any 0 0 none 0 0 none 0 [] u (.inl ⟨none, 0, rfl, rfl, fun _ => rfl⟩) (.inl ⟨none, 0, rfl, rfl, fun _ => rfl⟩) rfl (by intro x hx; cases hx) (by omega))
              obtain ⟨s0, s1, s2, s3, _, _, _, _, _⟩ := id ks
              go_wp2_with fail
              refine (RT.out _).mono ?_
              rintro e w4 ⟨rfl, h4'⟩
              clear s0 s1 s2 s3
              obtain ⟨s0, s1, s2, s3, _, _, _, _, _⟩ := ks.later h4'
              go_wp2_with fail
              refine (CV.out _).mono ?_
              rintro e w5 ⟨rfl, h5⟩
              go_wp2_with fail
              refine (SN.out _).mono ?_
              rintro e w6 ⟨rfl, h6⟩
              go_wp2_with fail
              refine (AW.out _).mono ?_
              rintro e w99 ⟨rfl, h99⟩
              go_wp2
              go_ret
              exact ⟨rfl, (B3.trans (h4'.trans (h5.trans h6))).trans h99⟩
        · have HFIT := hideP (show fitJ m m N la = false from by unfold fitJ; rw [show (((m : Int) == (la : Int))) = false by simp; omega]; simp)
          have e1 : ((la : Int) != (m : Int)) = true := by simp; omega
          go_wp2_with fail
          rw [← HW2.out]
          refine (wpIn_wide (n := 8)).1 (region_q fm [some 34, some 35, some 36, some 37, some 33, some 38, some 39, some 9, none, some 10] (fun j => j == 6 || j == 9) 8 (by kernel_rfl) (by rfl)
                (fun j v u => match j with | 0 => v = .slice pa la ca | 1 => ∃ q c, v = .slice q la c ∧ Rw 3 cellsF u (.slice q la c) (linJ la (fun i => wholeF (xa.getD i 0))) | 2 => v = mV m m p2 N c2 | 3 => v = .tuple #[sJ none 0 0 0 0 none 0 0, .bool false] | 4 => v = .tuple #[sJ none 0 0 0 0 none 0 0, .bool false] | 5 => v = sJ none 0 0 0 0 none 0 0 | 6 => v = .bool false | 7 => ∃ b, v = .pointer (some ⟨b, 0, none⟩) ∧ W2.heap.size ≤ b ∧ SBox u b none 0 0 0 0 none 0 0 ∧ NoB u b | 9 => v = .bool false | _ => False)
                (by
                  intro j v u u' hb h
                  split at h <;> first | exact h | (obtain ⟨b, e, h1, h2, h3⟩ := h; exact ⟨b, e, h1, h2.later hb, h3.later hb h2.lt⟩) | (obtain ⟨q, c, p', c', e, h1, h2⟩ := h; exact ⟨q, c, p', c', e, h1.later hb, Mx.later h2 hb⟩) | (obtain ⟨q, c, e, h1⟩ := h; exact ⟨q, c, e, h1.later hb⟩) | (obtain ⟨g, e, h1⟩ := h; exact ⟨g, e, h1.later hb⟩)) (fun vs u0 u => ∃ b, vs 7 = .pointer (some ⟨b, 0, none⟩) ∧ W2.heap.size ≤ b ∧ SBox u b none 0 0 0 0 none 0 0 ∧ Bl W2 u) ?step ?still ?store ?fin)
          case step =>
            intro j o t act u ho hdt hpu hsz hu hfr hin
            have hj : j < 10 := (Array.getElem?_eq_some_iff.1 ho).1
            obtain ⟨y0, y1, y2, _, _, _, _⟩ := k2.later hu
            rcases (by omega : j = 0 ∨ j = 1 ∨ j = 2 ∨ j = 3 ∨ j = 4 ∨ j = 5 ∨ j = 6 ∨ j = 7 ∨ j = 8 ∨ j = 9) with rfl | rfl | rfl | rfl | rfl | rfl | rfl | rfl | rfl | rfl
            · simp only [List.getElem?_toArray, List.getElem?_cons_zero, List.getElem?_cons_succ, Option.some.injEq] at ho
              subst ho
              obtain rfl := Option.some.inj hdt
              have i0 : act.eval (.tmp (0 : Nat)) = .slice pa la ca := hfr 0 (by decide)
              exact plain_wp (by intro c h; cases h) (fun _ _ => trivial) (by simp only [execOp, i0, evalC, evalF, evalG]; simp [go_sem]) ⟨_, rfl, rfl, Bl.refl _⟩
            · simp only [List.getElem?_toArray, List.getElem?_cons_zero, List.getElem?_cons_succ, Option.some.injEq] at ho
              subst ho
              obtain rfl := Option.some.inj hdt
              have i34 : (act.eval (.tmp (34 : Nat))) = .slice pa la ca := hin ⟨0, .data⟩ (by simp) rfl 34 rfl
              refine enter_wp 16 #[.slice pa la ca] (by intro c h; cases h) (fun _ _ => trivial) (by simp only [execOp, evalC, evalF, evalG, resolve, i34, List.map_toArray, List.map_cons, List.map_nil]; simp [invoke, egW, Result.andThen, go_sem]) (by intro h; cases h) (callsIn_wide.2 (WHL.out u (B2.trans hu))) ?_
              rintro e w' ⟨q, c, rfl, hR, _, hb⟩
              exact ⟨_, rfl, _, rfl, ⟨q, c, rfl, hR⟩, hb⟩
            · simp only [List.getElem?_toArray, List.getElem?_cons_zero, List.getElem?_cons_succ, Option.some.injEq] at ho
              subst ho
              obtain rfl := Option.some.inj hdt
              have i7 : act.eval (.tmp (7 : Nat)) = .pointer (some ⟨w2.heap.size, 0, none⟩) := hfr 7 (by decide)
              exact plain_wp (by intro c h; cases h) (fun _ _ => trivial) (by simp only [execOp, i7, evalC, evalF, evalG]; simp [go_sem, y0, y1, y2]) ⟨_, rfl, rfl, Bl.refl _⟩
            · simp only [List.getElem?_toArray, List.getElem?_cons_zero, List.getElem?_cons_succ, Option.some.injEq] at ho
              subst ho
              obtain rfl := Option.some.inj hdt
              have i35 : ∃ q c, (act.eval (.tmp (35 : Nat))) = .slice q la c ∧ Rw 3 cellsF u (.slice q la c) (linJ la (fun i => wholeF (xa.getD i 0))) := hin ⟨1, .data⟩ (by simp) rfl 35 rfl
              have i36 : (act.eval (.tmp (36 : Nat))) = mV m m p2 N c2 := hin ⟨2, .data⟩ (by simp) rfl 36 rfl
              obtain ⟨q0, c0, e0, hq⟩ := i35
              refine enter_wp 25 #[.slice q0 la c0, mV m m p2 N c2] (by intro c h; cases h) (fun _ _ => trivial) (by simp only [execOp, evalC, evalF, evalG, resolve, e0, i36, List.map_toArray, List.map_cons, List.map_nil]; simp [invoke, egN, Result.andThen, go_sem]) (by intro h; cases h) (callsIn_wide.2 (rNewF_no q0 la c0 m m p2 N c2 u HFIT.out)) ?_
              rintro e w' ⟨rfl, hb⟩
              exact ⟨_, rfl, _, rfl, rfl, hb⟩
            · simp only [List.getElem?_toArray, List.getElem?_cons_zero, List.getElem?_cons_succ, Option.some.injEq] at ho
              subst ho
              obtain rfl := Option.some.inj hdt
              have i37 : (act.eval (.tmp (37 : Nat))) = .tuple #[sJ none 0 0 0 0 none 0 0, .bool false] := hin ⟨3, .data⟩ (by simp) rfl 37 rfl
              have e1 := i37
              exact plain_wp (by intro c h; cases h) (fun _ _ => trivial) (by simp only [execOp, e1]; simp [go_sem]) ⟨_, rfl, rfl, Bl.refl _⟩
            · simp only [List.getElem?_toArray, List.getElem?_cons_zero, List.getElem?_cons_succ, Option.some.injEq] at ho
              subst ho
              obtain rfl := Option.some.inj hdt
              have i33 : (act.eval (.tmp (33 : Nat))) = .tuple #[sJ none 0 0 0 0 none 0 0, .bool false] := hin ⟨4, .data⟩ (by simp) rfl 33 rfl
              have e1 := i33
              exact plain_wp (by intro c h; cases h) (fun _ _ => trivial) (by simp only [execOp, e1]; simp [go_sem]) ⟨_, rfl, rfl, Bl.refl _⟩
            · cases hpu
            · simp only [List.getElem?_toArray, List.getElem?_cons_zero, List.getElem?_cons_succ, Option.some.injEq] at ho
              subst ho
              obtain rfl := Option.some.inj hdt
              exact plain_wp (by intro c h; cases h) (fun _ _ => trivial) (w' := u.alloc (.cells #[.slice none 0 0, .int .i64 0, .int .i64 0, .slice none 0 0] 63)) (v := .pointer (some ⟨u.heap.size, 0, none⟩)) (by simp only [execOp]; simp [go_sem]) ⟨_, rfl, ⟨u.heap.size, rfl, hu.size, SBox.new u _ _ _ _ _ _ _ _ _, noB_newSF u _⟩, (Bl.refl _).alloc _⟩
            · simp only [List.getElem?_toArray, List.getElem?_cons_zero, List.getElem?_cons_succ, Option.some.injEq] at ho
              subst ho
              cases hdt
            · cases hpu
          case still =>
            intro j o t act u0 u ho hdt hpu hsz hu hfr hin
            have hj : j < 10 := (Array.getElem?_eq_some_iff.1 ho).1
            obtain ⟨y0, y1, y2, _, _, _, _⟩ := k2.later hu
            rcases (by omega : j = 0 ∨ j = 1 ∨ j = 2 ∨ j = 3 ∨ j = 4 ∨ j = 5 ∨ j = 6 ∨ j = 7 ∨ j = 8 ∨ j = 9) with rfl | rfl | rfl | rfl | rfl | rfl | rfl | rfl | rfl | rfl
            · cases hpu
            · cases hpu
            · cases hpu
            · cases hpu
            · cases hpu
            · cases hpu
            · simp only [List.getElem?_toArray, List.getElem?_cons_zero, List.getElem?_cons_succ, Option.some.injEq] at ho
              subst ho
              obtain rfl := Option.some.inj hdt
              have i33 : (act.eval (.tmp (33 : Nat))) = .tuple #[sJ none 0 0 0 0 none 0 0, .bool false] := hin ⟨4, .data⟩ (by simp) rfl 33 rfl
              have e1 := i33
              exact plain_wp (by intro c h; cases h) (fun _ _ => trivial) (by simp only [execOp, e1]; simp [go_sem]) ⟨_, rfl, rfl, rfl⟩
            · cases hpu
            · cases hpu
            · simp only [List.getElem?_toArray, List.getElem?_cons_zero, List.getElem?_cons_succ, Option.some.injEq] at ho
              subst ho
              obtain rfl := Option.some.inj hdt
              have i39 : (act.eval (.tmp (39 : Nat))) = .bool false := hin ⟨6, .data⟩ (by simp) rfl 39 rfl
              exact plain_wp (by intro c h; cases h) (fun _ _ => trivial) (by simp only [execOp, i39, evalC, evalF, evalG]; simp [go_sem]) ⟨_, rfl, rfl, rfl⟩
          case store =>
            intro o act u vs ho hsz hu hfr hin
            simp only [List.getElem?_toArray, List.getElem?_cons_zero, List.getElem?_cons_succ, Option.some.injEq] at ho
            subst ho
            obtain ⟨i9, k9⟩ : act.eval (.tmp (9 : Nat)) = vs 7 ∧ (∃ b, (vs 7) = .pointer (some ⟨b, 0, none⟩) ∧ W2.heap.size ≤ b ∧ SBox u b none 0 0 0 0 none 0 0 ∧ NoB u b) := hin 7 9 rfl rfl
            obtain ⟨i38, k38⟩ : act.eval (.tmp (38 : Nat)) = vs 5 ∧ ((vs 5) = sJ none 0 0 0 0 none 0 0) := hin 5 38 rfl rfl
            obtain ⟨b, e1, hb, bx, nb⟩ := k9
            have e2 := k38
            rw [e1] at i9
            rw [e2] at i38
            obtain ⟨d0, d1, d2, d3, g0, g1, g2, g3, ltb⟩ := id bx
            exact skip_wp (by intro c h; cases h) (fun _ _ => trivial) (by simp only [execOp, i9, i38]; simp [go_sem, d0, d1, d2, d3, g0, g1, g2, g3]) ⟨rfl, b, e1, hb, bx.fill _ _ _ _ _ _ _ _, Bl.put4 hu hb _ _ _ _⟩
          case fin =>
            intro vs vb u0 u hu hin hps
            have a0 := hin 0 34 rfl
            have a1 := hin 1 35 rfl
            have a2 := hin 2 36 rfl
            have a3 := hin 3 37 rfl
            have a4 := hin 4 33 rfl
            have a5 := hin 5 38 rfl
            have a6 := hin 6 39 rfl
            have a7 := hin 7 9 rfl
            have a9 := hin 9 10 rfl
            simp only [putL, Act.put, List.setIfInBounds_toArray, List.set_cons_zero, List.set_cons_succ, Nat.zero_add, Nat.reduceAdd, Nat.reduceBEq, Bool.or_false, Bool.or_true, Bool.false_or, Bool.true_or, Bool.false_eq_true, if_false, if_true, reduceIte, Nat.reduceEqDiff, beq_self_eq_true, Bool.or_self] at a0 a1 a2 a3 a4 a5 a6 a7 a9 ⊢
            rw [if_pos (by decide)] at hps
            simp only [a0, a2, a3, a4, a5, a6, a9]
            obtain ⟨b, eb, hb, ks, hbu⟩ := hps
            simp only [eb]
            obtain ⟨w3, rfl⟩ : ∃ w3, w3 = u := ⟨_, rfl⟩
            clear a1 a7 hu hin
            have B3 : Bl w1 w3 := B2.trans hbu
            have RT := hideP (fun u => by have := rRightF none 0 0 0 0 none 0 0 u; rw [show fitJ 0 0 0 ((0 : Nat) : Int) = false from rfl] at this; exact this)
            have CV := hideP (fun u => rCoverF_no none 0 0 0 0 none 0 0 u rfl)
            have SN := hideP (fun u => same6_any 0 0 none 0 0 none 0 [] u (.inl ⟨none, 0, rfl, rfl, fun _ => rfl⟩) (.inl ⟨none, 0, rfl, rfl, fun _ => rfl⟩) rfl (by intro x hx; cases hx) (by omega))
            obtain ⟨s0, s1, s2, s3, _, _, _, _, _⟩ := id ks
            go_wp2_with fail
            refine (RT.out _).mono ?_
            rintro e w4 ⟨rfl, h4'⟩
            clear s0 s1 s2 s3
            obtain ⟨s0, s1, s2, s3, _, _, _, _, _⟩ := ks.later h4'
            go_wp2_with fail
            refine (CV.out _).mono ?_
            rintro e w5 ⟨rfl, h5⟩
            go_wp2_with fail
            refine (SN.out _).mono ?_
            rintro e w6 ⟨rfl, h6⟩
            go_wp2_with fail
            refine (AW.out _).mono ?_
            rintro e w99 ⟨rfl, h99⟩
            go_wp2
            go_ret
            exact ⟨rfl, (B3.trans (h4'.trans (h5.trans h6))).trans h99⟩
end Go.Proofs.YtljmggemdkfbiaaGreat
