/- The walk of RootExact. Our own tool writes it. -/
import Derived.Test.YtljmggemdkfbiaaGreatRow
import Derived.Test.YtljmggemdkfbiaaGreatRnF
import Derived.Test.YtljmggemdkfbiaaGreatJf
namespace Go.Proofs.YtljmggemdkfbiaaGreat
open Go.RowKit
set_option linter.unusedSimpArgs false
set_option linter.unusedVariables false

set_option maxRecDepth 100000 in
set_option maxHeartbeats 16000000 in
theorem walk_RootExact (n r z : Int) (vx vr vf vg vh : Value) (X Ro Fm Gm H : List Int) (w : World) (hX : Rq 1 cI w vx X) (hR : Rq 1 cI w vr Ro) (hF : Rq 1 cI w vf Fm) (hG : Rq 1 cI w vg Gm) (hH : Rq 1 cI w vh H) :
    Calls Tryz.prog 5 #[.agg #[.int .i64 n, vx, vr, vf, vg, vh, .int .i64 r, .int .i64 z]] w fun e w' => e = .returned (.bool true) ∧ Bl w w' := by
  have fm : Tryz.prog.follows .mixedOrders = true := by kernel_rfl
  have egW := enters_of Tryz.func16 (by kernel_rfl) rfl
  have egN := enters_of Tryz.func26 (by kernel_rfl) rfl
  have egU := enters_of Tryz.func15 (by kernel_rfl) rfl
  have egQ := enters_of Tryz.func17 (by kernel_rfl) rfl
  have egNr := enters_of Tryz.func25 (by kernel_rfl) rfl
  have egUr := enters_of Tryz.func27 (by kernel_rfl) rfl
  have AW := hideP awake10_any
  obtain ⟨px, cx, rfl, _, _⟩ := hX.cut
  obtain ⟨pr, cr, rfl, _, _⟩ := hR.cut
  obtain ⟨pf, cf, rfl, _, _⟩ := hF.cut
  obtain ⟨pg, cg, rfl, _, _⟩ := hG.cut
  obtain ⟨ph, ch, rfl, _, _⟩ := hH.cut
  obtain ⟨lx, hlx⟩ : ∃ l, l = X.length := ⟨_, rfl⟩
  obtain ⟨lr, hlr⟩ : ∃ l, l = Ro.length := ⟨_, rfl⟩
  obtain ⟨lf, hlf⟩ : ∃ l, l = Fm.length := ⟨_, rfl⟩
  obtain ⟨lg, hlg⟩ : ∃ l, l = Gm.length := ⟨_, rfl⟩
  obtain ⟨lh, hlh⟩ : ∃ l, l = H.length := ⟨_, rfl⟩
  rw [← hlx] at hX
  rw [← hlr] at hR
  rw [← hlf] at hF
  rw [← hlg] at hG
  rw [← hlh] at hH
  rw [← hlx, ← hlr, ← hlf, ← hlg, ← hlh]
  obtain ⟨W, hW⟩ : ∃ W, W = w.alloc (.cells #[.int .i64 n, .slice px lx cx, .slice pr lr cr, .slice pf lf cf, .slice pg lg cg, .slice ph lh ch, .int .i64 r, .int .i64 z] 24) := ⟨_, rfl⟩
  have b0 : Bl w W := by rw [hW]; exact (Bl.refl _).alloc _
  have lt0 : w.heap.size < W.heap.size := by rw [hW]; simp
  have HC := hideP (show ∀ u, Bl W u → u.cell? ⟨w.heap.size, 0, none⟩ = some (.int .i64 n) ∧ u.cell? ⟨w.heap.size, 1, none⟩ = some (.slice px lx cx) ∧ u.cell? ⟨w.heap.size, 2, none⟩ = some (.slice pr lr cr) ∧ u.cell? ⟨w.heap.size, 3, none⟩ = some (.slice pf lf cf) ∧ u.cell? ⟨w.heap.size, 4, none⟩ = some (.slice pg lg cg) ∧ u.cell? ⟨w.heap.size, 5, none⟩ = some (.slice ph lh ch) ∧ u.cell? ⟨w.heap.size, 6, none⟩ = some (.int .i64 r) ∧ u.cell? ⟨w.heap.size, 7, none⟩ = some (.int .i64 z) from fun u hu => by
    refine ⟨?_, ?_, ?_, ?_, ?_, ?_, ?_, ?_⟩ <;> (rw [bl_cell hu _ _ lt0, hW]; simp [go_sem]))
  have FE := hideP (few9_any n r z px pr pf pg ph lx cx lr cr lf cf lg cg lh ch X Ro Fm Gm H W (hX.later b0) (hR.later b0) (hF.later b0) (hG.later b0) (hH.later b0) hlx.symm hlr.symm hlf.symm hlg.symm hlh.symm)
  have HW := hideP hW
  have HXR0 := hideP hX
  have HHR0 := hideP hH
  have HRR := hideP hR
  have HFR := hideP hF
  have HGR := hideP hG
  have hlx' := hideP hlx.symm
  have hlr' := hideP hlr.symm
  have hlf' := hideP hlf.symm
  have hlg' := hideP hlg.symm
  have hlh' := hideP hlh.symm
  clear hW hX hR hF hG hH hlx hlr hlf hlg hlh
  go_enter Tryz.func5, Tryz.ntmps5
  go_wp2_with fail
  rw [← HW.out]
  refine FE.out.mono ?_
  rintro e w1 ⟨b1, rfl, hb1, h1⟩
  clear FE
  cases b1 with
  | false =>
    go_wp2_with fail
    refine (AW.out _).mono ?_
    rintro e w99 ⟨rfl, h99⟩
    go_wp2
    go_ret
    exact ⟨rfl, (b0.trans h1).trans h99⟩
  | true =>
    obtain ⟨m, rfl, fw⟩ := hb1 rfl
    clear hb1
    obtain ⟨N, hN⟩ : ∃ N, N = m * m := ⟨_, rfl⟩
    obtain rfl : lx = m := by rw [← hlx'.out]; exact fw.x
    obtain ⟨m, rfl⟩ : ∃ m, m = lx := ⟨_, rfl⟩
    obtain rfl : lh = m := by rw [← hlh'.out]; exact fw.h
    obtain ⟨m, rfl⟩ : ∃ m, m = lh := ⟨_, rfl⟩
    obtain rfl : lr = N := by rw [← hlr'.out, hN]; exact fw.ro
    obtain ⟨N, rfl⟩ : ∃ N, N = lr := ⟨_, rfl⟩
    obtain rfl : lf = N := by rw [← hlf'.out, hN]; exact fw.f
    obtain ⟨N, rfl⟩ : ∃ N, N = lf := ⟨_, rfl⟩
    obtain rfl : lg = N := by rw [← hlg'.out, hN]; exact fw.g
    obtain ⟨N, rfl⟩ : ∃ N, N = lg := ⟨_, rfl⟩
    have m1 := fw.m1
    have m3 := fw.m3
    have hm4 : m ≤ 4 := by omega
    have hN9 : N ≤ 9 := by rw [hN]; exact Nat.mul_le_mul m3 m3
    have mN : m ≤ N := by rw [hN]; exact Nat.le_mul_of_pos_left m m1
    have HNN := hideP hN
    have HD := hideP (dim_le4 m1 hm4)
    have HFW := hideP fw
    have HXR := hideP (show Rq 1 cI w (.slice px m cx) (linJ m fun i => X.getD i 0) from by rw [← linJ_of (n := m) 0 X hlx'.out]; exact HXR0.out)
    have HHR := hideP (show Rq 1 cI w (.slice ph m ch) (linJ m fun i => H.getD i 0) from by rw [← linJ_of (n := m) 0 H hlh'.out]; exact HHR0.out)
    have b1w : Bl W w1 := h1
    clear hN fw HHR0
    obtain ⟨Rr, hRr⟩ : ∃ x : Fr, x = newR r 1 := ⟨_, rfl⟩
    obtain ⟨Zz, hZz⟩ : ∃ x : Fr, x = newR z 1 := ⟨_, rfl⟩
    have HEX := hideP (by have := ex10 m1 m3 (hlr'.out.trans HNN.out) hlh'.out HFW.out.sh HFW.out.sro HFW.out.r1 HFW.out.r5; rw [← hRr] at this; exact this)
    have HRr := hideP hRr
    have HZz := hideP hZz
    clear hRr hZz
    obtain ⟨c0, c1, c2, c3, c4, c5, c6, c7⟩ := HC.out w1 (b1w)
    have CLR := hideP (by have := ref7Clear_any pr N cr Ro m w1 HD.out (HRR.out.later (b0.trans b1w)) (hlr'.out.trans HNN.out) HNN.out; rw [← HNN.out] at this; exact this)
    go_wp2_with fail
    refine CLR.out.mono ?_
    rintro e w2 ⟨pl, cl, rfl, hl, h2⟩
    have b2w : Bl W w2 := b1w.trans h2
    have WH := hideP (whole10F_call m m pl N cl (mk m m (clrI (ofL m Ro))) w2 hl.q HD.out HNN.out (by rw [mk_len]; exact HNN.out.symm))
    clear c0 c1 c2 c3 c4 c5 c6 c7
    clear hl CLR
    obtain ⟨c0, c1, c2, c3, c4, c5, c6, c7⟩ := HC.out w2 (b2w)
    go_wp2_with fail
    refine WH.out.mono ?_
    rintro e w3 ⟨p3, c3', rfl, hx, h3⟩
    clear c0 c1 c2 c3 c4 c5 c6 c7
    obtain ⟨W3, hW3⟩ : ∃ W3, W3 = w3.alloc (.cells #[.int .i64 m, .int .i64 m, .slice p3 N c3'] 30) := ⟨_, rfl⟩
    have b3 : Bl w3 W3 := by rw [hW3]; exact (Bl.refl _).alloc _
    have k3 : MBox W3 w3.heap.size m m p3 N c3' := by rw [hW3]; exact MBox.new w3 _ _ _ _ _ _
    have HX3 := hideP (Mx.later hx b3)
    have b3w : Bl W W3 := b2w.trans (h3.trans b3)
    have HW3 := hideP hW3
    clear hW3 hx WH
    go_wp2_with fail
    rw [← HW3.out]
    refine (wpIn_wide (n := 8)).1 (region_q fm [some 39, some 40, some 41, some 42, some 43, some 38, some 44, some 45, some 6, none, some 7] (fun j => j == 7 || j == 10) 9 (by kernel_rfl) (by rfl)
          (fun j v u => match j with | 0 => v = .pointer (some ⟨w.heap.size, 1, none⟩) | 1 => v = .slice px m cx | 2 => ∃ q c, v = .slice q m c ∧ Rw 3 cellsF u (.slice q m c) (linJ m (fun i => wholeF (X.getD i 0))) | 3 => v = mV m m p3 N c3' | 4 => ∃ q c p' c', v = .tuple #[sJ q (m) c (m : Nat) (m : Nat) p' (N) c', .bool true] ∧ Rw 3 cellsF u (.slice q (m) c) (linJ (m) (fun i => wholeF (X.getD i 0))) ∧ Mx 3 cellsF u (m) (m) p' (N) c' (clrF (fun i k => wholeF (ofL m (mk m m (clrI (ofL m Ro))) i k))) | 5 => ∃ q c p' c', v = .tuple #[sJ q (m) c (m : Nat) (m : Nat) p' (N) c', .bool true] ∧ Rw 3 cellsF u (.slice q (m) c) (linJ (m) (fun i => wholeF (X.getD i 0))) ∧ Mx 3 cellsF u (m) (m) p' (N) c' (clrF (fun i k => wholeF (ofL m (mk m m (clrI (ofL m Ro))) i k))) | 6 => ∃ q c p' c', v = sJ q (m) c (m : Nat) (m : Nat) p' (N) c' ∧ Rw 3 cellsF u (.slice q (m) c) (linJ (m) (fun i => wholeF (X.getD i 0))) ∧ Mx 3 cellsF u (m) (m) p' (N) c' (clrF (fun i k => wholeF (ofL m (mk m m (clrI (ofL m Ro))) i k))) | 7 => v = .bool true | 8 => ∃ b, v = .pointer (some ⟨b, 0, none⟩) ∧ W3.heap.size ≤ b ∧ SBox u b none 0 0 0 0 none 0 0 ∧ NoB u b | 10 => v = .bool true | _ => False)
          (by
            intro j v u u' hb h
            split at h <;> first | exact h | (obtain ⟨b, e, h1, h2, h3⟩ := h; exact ⟨b, e, h1, h2.later hb, h3.later hb h2.lt⟩) | (obtain ⟨q, c, p', c', e, h1, h2⟩ := h; exact ⟨q, c, p', c', e, h1.later hb, Mx.later h2 hb⟩) | (obtain ⟨q, c, e, h1⟩ := h; exact ⟨q, c, e, h1.later hb⟩) | (obtain ⟨g, e, h1⟩ := h; exact ⟨g, e, h1.later hb⟩)) (fun vs u0 u => ∃ b q c p' c', vs 8 = .pointer (some ⟨b, 0, none⟩) ∧ W3.heap.size ≤ b ∧ SBox u b q (m) c (m : Nat) (m : Nat) p' (N) c' ∧ Rw 3 cellsF u (.slice q (m) c) (linJ (m) (fun i => wholeF (X.getD i 0))) ∧ Mx 3 cellsF u (m) (m) p' (N) c' (clrF (fun i k => wholeF (ofL m (mk m m (clrI (ofL m Ro))) i k))) ∧ Bl W3 u) ?step ?still ?store ?fin)
    case step =>
      intro j o t act u ho hdt hpu hsz hu hfr hin
      have hj : j < 11 := (Array.getElem?_eq_some_iff.1 ho).1
      obtain ⟨c0, c1, c2, c3, c4, c5, c6, c7⟩ := HC.out _ (b3w.trans hu)
      obtain ⟨y0, y1, y2, _, _, _, _⟩ := k3.later ((Bl.refl W3).trans hu)
      rcases (by omega : j = 0 ∨ j = 1 ∨ j = 2 ∨ j = 3 ∨ j = 4 ∨ j = 5 ∨ j = 6 ∨ j = 7 ∨ j = 8 ∨ j = 9 ∨ j = 10) with rfl | rfl | rfl | rfl | rfl | rfl | rfl | rfl | rfl | rfl | rfl
      · simp only [List.getElem?_toArray, List.getElem?_cons_zero, List.getElem?_cons_succ, Option.some.injEq] at ho
        subst ho
        obtain rfl := Option.some.inj hdt
        have i1 : act.eval (.tmp (1 : Nat)) = .pointer (some ⟨w.heap.size, 0, none⟩) := hfr 1 (by decide)
        exact plain_wp (by intro c h; cases h) (fun _ _ => trivial) (by simp only [execOp, i1, evalC, evalF, evalG]; simp [go_sem, c1]) ⟨_, rfl, rfl, Bl.refl _⟩
      · simp only [List.getElem?_toArray, List.getElem?_cons_zero, List.getElem?_cons_succ, Option.some.injEq] at ho
        subst ho
        obtain rfl := Option.some.inj hdt
        have i39 : (act.eval (.tmp (39 : Nat))) = .pointer (some ⟨w.heap.size, 1, none⟩) := hin ⟨0, .data⟩ (by simp) rfl 39 rfl
        exact plain_wp (by intro c h; cases h) (fun _ _ => trivial) (by simp only [execOp, i39, evalC, evalF, evalG]; simp [go_sem, c1]) ⟨_, rfl, rfl, Bl.refl _⟩
      · simp only [List.getElem?_toArray, List.getElem?_cons_zero, List.getElem?_cons_succ, Option.some.injEq] at ho
        subst ho
        obtain rfl := Option.some.inj hdt
        have i40 : (act.eval (.tmp (40 : Nat))) = .slice px m cx := hin ⟨1, .data⟩ (by simp) rfl 40 rfl
        refine enter_wp 16 #[.slice px m cx] (by intro c h; cases h) (fun _ _ => trivial) (by simp only [execOp, evalC, evalF, evalG, resolve, i40, List.map_toArray, List.map_cons, List.map_nil]; simp [invoke, egW, Result.andThen, go_sem]) (by intro h; cases h) (callsIn_wide.2 (whole_linOF px m cx (fun i => X.getD i 0) u (HXR.out.later (b0.trans (b3w.trans hu))) (by omega))) ?_
        rintro e w' ⟨q, c, rfl, hR, _, hb⟩
        exact ⟨_, rfl, _, rfl, ⟨q, c, rfl, hR⟩, hb⟩
      · simp only [List.getElem?_toArray, List.getElem?_cons_zero, List.getElem?_cons_succ, Option.some.injEq] at ho
        subst ho
        obtain rfl := Option.some.inj hdt
        have i4 : act.eval (.tmp (4 : Nat)) = .pointer (some ⟨w3.heap.size, 0, none⟩) := hfr 4 (by decide)
        exact plain_wp (by intro c h; cases h) (fun _ _ => trivial) (by simp only [execOp, i4, evalC, evalF, evalG]; simp [go_sem, y0, y1, y2]) ⟨_, rfl, rfl, Bl.refl _⟩
      · simp only [List.getElem?_toArray, List.getElem?_cons_zero, List.getElem?_cons_succ, Option.some.injEq] at ho
        subst ho
        obtain rfl := Option.some.inj hdt
        have i41 : ∃ q c, (act.eval (.tmp (41 : Nat))) = .slice q m c ∧ Rw 3 cellsF u (.slice q m c) (linJ m (fun i => wholeF (X.getD i 0))) := hin ⟨2, .data⟩ (by simp) rfl 41 rfl
        have i42 : (act.eval (.tmp (42 : Nat))) = mV m m p3 N c3' := hin ⟨3, .data⟩ (by simp) rfl 42 rfl
        obtain ⟨q0, cc0, e0, hq⟩ := i41
        refine enter_wp 25 #[.slice q0 m cc0, mV m m p3 N c3'] (by intro c h; cases h) (fun _ _ => trivial) (by simp only [execOp, evalC, evalF, evalG, resolve, e0, i42, List.map_toArray, List.map_cons, List.map_nil]; simp [invoke, egNr, Result.andThen, go_sem]) (by intro h; cases h) (callsIn_wide.2 (rNewF m q0 cc0 (fun i => wholeF (X.getD i 0)) p3 N c3' (fun i k => wholeF (ofL m (mk m m (clrI (ofL m Ro))) i k)) u hq.q (HX3.out.later ((Bl.refl W3).trans hu)) hm4)) ?_
        rintro e w' ⟨q, c, p', c', rfl, ⟨hR, hM⟩, hb⟩
        exact ⟨_, rfl, _, rfl, ⟨q, c, p', c', rfl, hR, hM⟩, hb⟩
      · simp only [List.getElem?_toArray, List.getElem?_cons_zero, List.getElem?_cons_succ, Option.some.injEq] at ho
        subst ho
        obtain rfl := Option.some.inj hdt
        have i43 : ∃ q c p' c', (act.eval (.tmp (43 : Nat))) = .tuple #[sJ q (m) c (m : Nat) (m : Nat) p' (N) c', .bool true] ∧ Rw 3 cellsF u (.slice q (m) c) (linJ (m) (fun i => wholeF (X.getD i 0))) ∧ Mx 3 cellsF u (m) (m) p' (N) c' (clrF (fun i k => wholeF (ofL m (mk m m (clrI (ofL m Ro))) i k))) := hin ⟨4, .data⟩ (by simp) rfl 43 rfl
        obtain ⟨q0, c0', p0, c0, e1, hq1, hq2⟩ := i43
        exact plain_wp (by intro c h; cases h) (fun _ _ => trivial) (by simp only [execOp, e1]; simp [go_sem]) ⟨_, rfl, ⟨q0, c0', p0, c0, rfl, hq1, hq2⟩, Bl.refl _⟩
      · simp only [List.getElem?_toArray, List.getElem?_cons_zero, List.getElem?_cons_succ, Option.some.injEq] at ho
        subst ho
        obtain rfl := Option.some.inj hdt
        have i38 : ∃ q c p' c', (act.eval (.tmp (38 : Nat))) = .tuple #[sJ q (m) c (m : Nat) (m : Nat) p' (N) c', .bool true] ∧ Rw 3 cellsF u (.slice q (m) c) (linJ (m) (fun i => wholeF (X.getD i 0))) ∧ Mx 3 cellsF u (m) (m) p' (N) c' (clrF (fun i k => wholeF (ofL m (mk m m (clrI (ofL m Ro))) i k))) := hin ⟨5, .data⟩ (by simp) rfl 38 rfl
        obtain ⟨q0, c0', p0, c0, e1, hq1, hq2⟩ := i38
        exact plain_wp (by intro c h; cases h) (fun _ _ => trivial) (by simp only [execOp, e1]; simp [go_sem]) ⟨_, rfl, ⟨q0, c0', p0, c0, rfl, hq1, hq2⟩, Bl.refl _⟩
      · cases hpu
      · simp only [List.getElem?_toArray, List.getElem?_cons_zero, List.getElem?_cons_succ, Option.some.injEq] at ho
        subst ho
        obtain rfl := Option.some.inj hdt
        exact plain_wp (by intro c h; cases h) (fun _ _ => trivial) (w' := u.alloc (.cells #[.slice none 0 0, .int .i64 0, .int .i64 0, .slice none 0 0] 63)) (v := .pointer (some ⟨u.heap.size, 0, none⟩)) (by simp only [execOp]; simp [go_sem]) ⟨_, rfl, ⟨u.heap.size, rfl, hu.size, SBox.new u _ _ _ _ _ _ _ _ _, noB_newSF u _⟩, (Bl.refl _).alloc _⟩
      · simp only [List.getElem?_toArray, List.getElem?_cons_zero, List.getElem?_cons_succ, Option.some.injEq] at ho
        subst ho
        cases hdt
      · cases hpu
    case still =>
      intro j o t act u0 u ho hdt hpu hsz hu hfr hin
      have hj : j < 11 := (Array.getElem?_eq_some_iff.1 ho).1
      obtain ⟨c0, c1, c2, c3, c4, c5, c6, c7⟩ := HC.out _ (b3w.trans hu)
      obtain ⟨y0, y1, y2, _, _, _, _⟩ := k3.later ((Bl.refl W3).trans hu)
      rcases (by omega : j = 0 ∨ j = 1 ∨ j = 2 ∨ j = 3 ∨ j = 4 ∨ j = 5 ∨ j = 6 ∨ j = 7 ∨ j = 8 ∨ j = 9 ∨ j = 10) with rfl | rfl | rfl | rfl | rfl | rfl | rfl | rfl | rfl | rfl | rfl
      · cases hpu
      · cases hpu
      · cases hpu
      · cases hpu
      · cases hpu
      · cases hpu
      · cases hpu
      · simp only [List.getElem?_toArray, List.getElem?_cons_zero, List.getElem?_cons_succ, Option.some.injEq] at ho
        subst ho
        obtain rfl := Option.some.inj hdt
        have i38 : ∃ q c p' c', (act.eval (.tmp (38 : Nat))) = .tuple #[sJ q (m) c (m : Nat) (m : Nat) p' (N) c', .bool true] ∧ Rw 3 cellsF u0 (.slice q (m) c) (linJ (m) (fun i => wholeF (X.getD i 0))) ∧ Mx 3 cellsF u0 (m) (m) p' (N) c' (clrF (fun i k => wholeF (ofL m (mk m m (clrI (ofL m Ro))) i k))) := hin ⟨5, .data⟩ (by simp) rfl 38 rfl
        obtain ⟨q0, c0', p0, c0, e1, hq1, hq2⟩ := i38
        exact plain_wp (by intro c h; cases h) (fun _ _ => trivial) (by simp only [execOp, e1]; simp [go_sem]) ⟨_, rfl, rfl, rfl⟩
      · cases hpu
      · cases hpu
      · simp only [List.getElem?_toArray, List.getElem?_cons_zero, List.getElem?_cons_succ, Option.some.injEq] at ho
        subst ho
        obtain rfl := Option.some.inj hdt
        have i45 : (act.eval (.tmp (45 : Nat))) = .bool true := hin ⟨7, .data⟩ (by simp) rfl 45 rfl
        exact plain_wp (by intro c h; cases h) (fun _ _ => trivial) (by simp only [execOp, i45, evalC, evalF, evalG]; simp [go_sem]) ⟨_, rfl, rfl, rfl⟩
    case store =>
      intro o act u vs ho hsz hu hfr hin
      simp only [List.getElem?_toArray, List.getElem?_cons_zero, List.getElem?_cons_succ, Option.some.injEq] at ho
      subst ho
      obtain ⟨i6, k6⟩ : act.eval (.tmp (6 : Nat)) = vs 8 ∧ (∃ b, (vs 8) = .pointer (some ⟨b, 0, none⟩) ∧ W3.heap.size ≤ b ∧ SBox u b none 0 0 0 0 none 0 0 ∧ NoB u b) := hin 8 6 rfl rfl
      obtain ⟨i44, k44⟩ : act.eval (.tmp (44 : Nat)) = vs 6 ∧ (∃ q c p' c', (vs 6) = sJ q (m) c (m : Nat) (m : Nat) p' (N) c' ∧ Rw 3 cellsF u (.slice q (m) c) (linJ (m) (fun i => wholeF (X.getD i 0))) ∧ Mx 3 cellsF u (m) (m) p' (N) c' (clrF (fun i k => wholeF (ofL m (mk m m (clrI (ofL m Ro))) i k)))) := hin 6 44 rfl rfl
      obtain ⟨b, e1, hb, bx, nb⟩ := k6
      obtain ⟨q0, c0', p0, c0, e2, hq1, hq2⟩ := k44
      rw [e1] at i6
      rw [e2] at i44
      obtain ⟨d0, d1, d2, d3, g0, g1, g2, g3, ltb⟩ := id bx
      exact skip_wp (by intro c h; cases h) (fun _ _ => trivial) (by simp only [execOp, i6, i44]; simp [go_sem, d0, d1, d2, d3, g0, g1, g2, g3]) ⟨rfl, b, q0, c0', p0, c0, e1, hb, bx.fill _ _ _ _ _ _ _ _, hq1.but (but4F _ _ _ _ _ _) (fun g hg => noB_rwF hq1 (m1) nb g hg), Mx.but hq2 (but4F _ _ _ _ _ _) (fun g hg => Ne.symm (noB_mx boolF hq2 nb g hg)), Bl.put4 hu hb _ _ _ _⟩
    case fin =>
      intro vs vb u0 u hu hin hps
      have a0 := hin 0 39 rfl
      have a1 := hin 1 40 rfl
      have a2 := hin 2 41 rfl
      have a3 := hin 3 42 rfl
      have a4 := hin 4 43 rfl
      have a5 := hin 5 38 rfl
      have a6 := hin 6 44 rfl
      have a7 := hin 7 45 rfl
      have a8 := hin 8 6 rfl
      have a10 := hin 10 7 rfl
      simp only [putL, Act.put, List.setIfInBounds_toArray, List.set_cons_zero, List.set_cons_succ, Nat.zero_add, Nat.reduceAdd, Nat.reduceBEq, Bool.or_false, Bool.or_true, Bool.false_or, Bool.true_or, Bool.false_eq_true, if_false, if_true, reduceIte, Nat.reduceEqDiff, beq_self_eq_true, Bool.or_self] at a0 a1 a2 a3 a4 a5 a6 a7 a8 a10 ⊢
      rw [if_pos (by decide)] at hps
      simp only [a0, a1, a3, a7, a10]
      obtain ⟨b5, q5, cq5, p5, cc5, eb, hb, k5, hR, hM, hbu⟩ := hps
      simp only [eb]
      obtain ⟨w5, rfl⟩ : ∃ w5, w5 = u := ⟨_, rfl⟩
      have HR5 := hideP hR
      have HM5 := hideP hM
      have b35 : Bl W3 w5 := hbu
      have b5w : Bl W w5 := b3w.trans b35
      clear a2 a4 a5 a6 a8 hu hin hR hM
      go_wp2_with fail
      refine (wpIn_wide (n := 8)).1 (region_q fm [some 47, some 48, some 49, some 50, some 51, some 46, some 52, some 53, some 8, none, some 9] (fun j => j == 7 || j == 10) 9 (by kernel_rfl) (by rfl)
            (fun j v u => match j with | 0 => v = .pointer (some ⟨w.heap.size, 1, none⟩) | 1 => v = .slice px m cx | 2 => ∃ q c, v = .slice q m c ∧ Rw 3 cellsF u (.slice q m c) (linJ m (fun i => wholeF (X.getD i 0))) | 3 => v = mV m m p3 N c3' | 4 => ∃ q c p' c', v = .tuple #[sJ q (m) c (m : Nat) (m : Nat) p' (N) c', .bool true] ∧ Rw 3 cellsF u (.slice q (m) c) (linJ (m) (fun i => wholeF (X.getD i 0))) ∧ Mx 3 cellsF u (m) (m) p' (N) c' (squareJ kdF m (fun i k => wholeF (ofL m (mk m m (clrI (ofL m Ro))) i k))) | 5 => ∃ q c p' c', v = .tuple #[sJ q (m) c (m : Nat) (m : Nat) p' (N) c', .bool true] ∧ Rw 3 cellsF u (.slice q (m) c) (linJ (m) (fun i => wholeF (X.getD i 0))) ∧ Mx 3 cellsF u (m) (m) p' (N) c' (squareJ kdF m (fun i k => wholeF (ofL m (mk m m (clrI (ofL m Ro))) i k))) | 6 => ∃ q c p' c', v = sJ q (m) c (m : Nat) (m : Nat) p' (N) c' ∧ Rw 3 cellsF u (.slice q (m) c) (linJ (m) (fun i => wholeF (X.getD i 0))) ∧ Mx 3 cellsF u (m) (m) p' (N) c' (squareJ kdF m (fun i k => wholeF (ofL m (mk m m (clrI (ofL m Ro))) i k))) | 7 => v = .bool true | 8 => ∃ b, v = .pointer (some ⟨b, 0, none⟩) ∧ w5.heap.size ≤ b ∧ SBox u b none 0 0 0 0 none 0 0 ∧ NoB u b | 10 => v = .bool true | _ => False)
            (by
              intro j v u u' hb h
              split at h <;> first | exact h | (obtain ⟨b, e, h1, h2, h3⟩ := h; exact ⟨b, e, h1, h2.later hb, h3.later hb h2.lt⟩) | (obtain ⟨q, c, p', c', e, h1, h2⟩ := h; exact ⟨q, c, p', c', e, h1.later hb, Mx.later h2 hb⟩) | (obtain ⟨q, c, e, h1⟩ := h; exact ⟨q, c, e, h1.later hb⟩) | (obtain ⟨g, e, h1⟩ := h; exact ⟨g, e, h1.later hb⟩)) (fun vs u0 u => ∃ b q c p' c', vs 8 = .pointer (some ⟨b, 0, none⟩) ∧ w5.heap.size ≤ b ∧ SBox u b q (m) c (m : Nat) (m : Nat) p' (N) c' ∧ Rw 3 cellsF u (.slice q (m) c) (linJ (m) (fun i => wholeF (X.getD i 0))) ∧ Mx 3 cellsF u (m) (m) p' (N) c' (squareJ kdF m (fun i k => wholeF (ofL m (mk m m (clrI (ofL m Ro))) i k))) ∧ Bl w5 u) ?step ?still ?store ?fin)
      case step =>
        intro j o t act u ho hdt hpu hsz hu hfr hin
        have hj : j < 11 := (Array.getElem?_eq_some_iff.1 ho).1
        obtain ⟨c0, c1, c2, c3, c4, c5, c6, c7⟩ := HC.out _ (b5w.trans hu)
        obtain ⟨y0, y1, y2, _, _, _, _⟩ := k3.later (b35.trans hu)
        rcases (by omega : j = 0 ∨ j = 1 ∨ j = 2 ∨ j = 3 ∨ j = 4 ∨ j = 5 ∨ j = 6 ∨ j = 7 ∨ j = 8 ∨ j = 9 ∨ j = 10) with rfl | rfl | rfl | rfl | rfl | rfl | rfl | rfl | rfl | rfl | rfl
        · simp only [List.getElem?_toArray, List.getElem?_cons_zero, List.getElem?_cons_succ, Option.some.injEq] at ho
          subst ho
          obtain rfl := Option.some.inj hdt
          have i1 : act.eval (.tmp (1 : Nat)) = .pointer (some ⟨w.heap.size, 0, none⟩) := hfr 1 (by decide)
          exact plain_wp (by intro c h; cases h) (fun _ _ => trivial) (by simp only [execOp, i1, evalC, evalF, evalG]; simp [go_sem, c1]) ⟨_, rfl, rfl, Bl.refl _⟩
        · simp only [List.getElem?_toArray, List.getElem?_cons_zero, List.getElem?_cons_succ, Option.some.injEq] at ho
          subst ho
          obtain rfl := Option.some.inj hdt
          have i47 : (act.eval (.tmp (47 : Nat))) = .pointer (some ⟨w.heap.size, 1, none⟩) := hin ⟨0, .data⟩ (by simp) rfl 47 rfl
          exact plain_wp (by intro c h; cases h) (fun _ _ => trivial) (by simp only [execOp, i47, evalC, evalF, evalG]; simp [go_sem, c1]) ⟨_, rfl, rfl, Bl.refl _⟩
        · simp only [List.getElem?_toArray, List.getElem?_cons_zero, List.getElem?_cons_succ, Option.some.injEq] at ho
          subst ho
          obtain rfl := Option.some.inj hdt
          have i48 : (act.eval (.tmp (48 : Nat))) = .slice px m cx := hin ⟨1, .data⟩ (by simp) rfl 48 rfl
          refine enter_wp 16 #[.slice px m cx] (by intro c h; cases h) (fun _ _ => trivial) (by simp only [execOp, evalC, evalF, evalG, resolve, i48, List.map_toArray, List.map_cons, List.map_nil]; simp [invoke, egW, Result.andThen, go_sem]) (by intro h; cases h) (callsIn_wide.2 (whole_linOF px m cx (fun i => X.getD i 0) u (HXR.out.later (b0.trans (b5w.trans hu))) (by omega))) ?_
          rintro e w' ⟨q, c, rfl, hR, _, hb⟩
          exact ⟨_, rfl, _, rfl, ⟨q, c, rfl, hR⟩, hb⟩
        · simp only [List.getElem?_toArray, List.getElem?_cons_zero, List.getElem?_cons_succ, Option.some.injEq] at ho
          subst ho
          obtain rfl := Option.some.inj hdt
          have i4 : act.eval (.tmp (4 : Nat)) = .pointer (some ⟨w3.heap.size, 0, none⟩) := hfr 4 (by decide)
          exact plain_wp (by intro c h; cases h) (fun _ _ => trivial) (by simp only [execOp, i4, evalC, evalF, evalG]; simp [go_sem, y0, y1, y2]) ⟨_, rfl, rfl, Bl.refl _⟩
        · simp only [List.getElem?_toArray, List.getElem?_cons_zero, List.getElem?_cons_succ, Option.some.injEq] at ho
          subst ho
          obtain rfl := Option.some.inj hdt
          have i49 : ∃ q c, (act.eval (.tmp (49 : Nat))) = .slice q m c ∧ Rw 3 cellsF u (.slice q m c) (linJ m (fun i => wholeF (X.getD i 0))) := hin ⟨2, .data⟩ (by simp) rfl 49 rfl
          have i50 : (act.eval (.tmp (50 : Nat))) = mV m m p3 N c3' := hin ⟨3, .data⟩ (by simp) rfl 50 rfl
          obtain ⟨q0, cc0, e0, hq⟩ := i49
          refine enter_wp 26 #[.slice q0 m cc0, mV m m p3 N c3'] (by intro c h; cases h) (fun _ _ => trivial) (by simp only [execOp, evalC, evalF, evalG, resolve, e0, i50, List.map_toArray, List.map_cons, List.map_nil]; simp [invoke, egN, Result.andThen, go_sem]) (by intro h; cases h) (callsIn_wide.2 (jNewF m q0 cc0 (fun i => wholeF (X.getD i 0)) p3 N c3' (fun i k => wholeF (ofL m (mk m m (clrI (ofL m Ro))) i k)) u hq.q (HX3.out.later (b35.trans hu)) hm4)) ?_
          rintro e w' ⟨q, c, p', c', rfl, ⟨hR, hM⟩, hb⟩
          exact ⟨_, rfl, _, rfl, ⟨q, c, p', c', rfl, hR, hM⟩, hb⟩
        · simp only [List.getElem?_toArray, List.getElem?_cons_zero, List.getElem?_cons_succ, Option.some.injEq] at ho
          subst ho
          obtain rfl := Option.some.inj hdt
          have i51 : ∃ q c p' c', (act.eval (.tmp (51 : Nat))) = .tuple #[sJ q (m) c (m : Nat) (m : Nat) p' (N) c', .bool true] ∧ Rw 3 cellsF u (.slice q (m) c) (linJ (m) (fun i => wholeF (X.getD i 0))) ∧ Mx 3 cellsF u (m) (m) p' (N) c' (squareJ kdF m (fun i k => wholeF (ofL m (mk m m (clrI (ofL m Ro))) i k))) := hin ⟨4, .data⟩ (by simp) rfl 51 rfl
          obtain ⟨q0, c0', p0, c0, e1, hq1, hq2⟩ := i51
          exact plain_wp (by intro c h; cases h) (fun _ _ => trivial) (by simp only [execOp, e1]; simp [go_sem]) ⟨_, rfl, ⟨q0, c0', p0, c0, rfl, hq1, hq2⟩, Bl.refl _⟩
        · simp only [List.getElem?_toArray, List.getElem?_cons_zero, List.getElem?_cons_succ, Option.some.injEq] at ho
          subst ho
          obtain rfl := Option.some.inj hdt
          have i46 : ∃ q c p' c', (act.eval (.tmp (46 : Nat))) = .tuple #[sJ q (m) c (m : Nat) (m : Nat) p' (N) c', .bool true] ∧ Rw 3 cellsF u (.slice q (m) c) (linJ (m) (fun i => wholeF (X.getD i 0))) ∧ Mx 3 cellsF u (m) (m) p' (N) c' (squareJ kdF m (fun i k => wholeF (ofL m (mk m m (clrI (ofL m Ro))) i k))) := hin ⟨5, .data⟩ (by simp) rfl 46 rfl
          obtain ⟨q0, c0', p0, c0, e1, hq1, hq2⟩ := i46
          exact plain_wp (by intro c h; cases h) (fun _ _ => trivial) (by simp only [execOp, e1]; simp [go_sem]) ⟨_, rfl, ⟨q0, c0', p0, c0, rfl, hq1, hq2⟩, Bl.refl _⟩
        · cases hpu
        · simp only [List.getElem?_toArray, List.getElem?_cons_zero, List.getElem?_cons_succ, Option.some.injEq] at ho
          subst ho
          obtain rfl := Option.some.inj hdt
          exact plain_wp (by intro c h; cases h) (fun _ _ => trivial) (w' := u.alloc (.cells #[.slice none 0 0, .int .i64 0, .int .i64 0, .slice none 0 0] 36)) (v := .pointer (some ⟨u.heap.size, 0, none⟩)) (by simp only [execOp]; simp [go_sem]) ⟨_, rfl, ⟨u.heap.size, rfl, hu.size, SBox.new u _ _ _ _ _ _ _ _ _, noB_newSF u _⟩, (Bl.refl _).alloc _⟩
        · simp only [List.getElem?_toArray, List.getElem?_cons_zero, List.getElem?_cons_succ, Option.some.injEq] at ho
          subst ho
          cases hdt
        · cases hpu
      case still =>
        intro j o t act u0 u ho hdt hpu hsz hu hfr hin
        have hj : j < 11 := (Array.getElem?_eq_some_iff.1 ho).1
        obtain ⟨c0, c1, c2, c3, c4, c5, c6, c7⟩ := HC.out _ (b5w.trans hu)
        obtain ⟨y0, y1, y2, _, _, _, _⟩ := k3.later (b35.trans hu)
        rcases (by omega : j = 0 ∨ j = 1 ∨ j = 2 ∨ j = 3 ∨ j = 4 ∨ j = 5 ∨ j = 6 ∨ j = 7 ∨ j = 8 ∨ j = 9 ∨ j = 10) with rfl | rfl | rfl | rfl | rfl | rfl | rfl | rfl | rfl | rfl | rfl
        · cases hpu
        · cases hpu
        · cases hpu
        · cases hpu
        · cases hpu
        · cases hpu
        · cases hpu
        · simp only [List.getElem?_toArray, List.getElem?_cons_zero, List.getElem?_cons_succ, Option.some.injEq] at ho
          subst ho
          obtain rfl := Option.some.inj hdt
          have i46 : ∃ q c p' c', (act.eval (.tmp (46 : Nat))) = .tuple #[sJ q (m) c (m : Nat) (m : Nat) p' (N) c', .bool true] ∧ Rw 3 cellsF u0 (.slice q (m) c) (linJ (m) (fun i => wholeF (X.getD i 0))) ∧ Mx 3 cellsF u0 (m) (m) p' (N) c' (squareJ kdF m (fun i k => wholeF (ofL m (mk m m (clrI (ofL m Ro))) i k))) := hin ⟨5, .data⟩ (by simp) rfl 46 rfl
          obtain ⟨q0, c0', p0, c0, e1, hq1, hq2⟩ := i46
          exact plain_wp (by intro c h; cases h) (fun _ _ => trivial) (by simp only [execOp, e1]; simp [go_sem]) ⟨_, rfl, rfl, rfl⟩
        · cases hpu
        · cases hpu
        · simp only [List.getElem?_toArray, List.getElem?_cons_zero, List.getElem?_cons_succ, Option.some.injEq] at ho
          subst ho
          obtain rfl := Option.some.inj hdt
          have i53 : (act.eval (.tmp (53 : Nat))) = .bool true := hin ⟨7, .data⟩ (by simp) rfl 53 rfl
          exact plain_wp (by intro c h; cases h) (fun _ _ => trivial) (by simp only [execOp, i53, evalC, evalF, evalG]; simp [go_sem]) ⟨_, rfl, rfl, rfl⟩
      case store =>
        intro o act u vs ho hsz hu hfr hin
        simp only [List.getElem?_toArray, List.getElem?_cons_zero, List.getElem?_cons_succ, Option.some.injEq] at ho
        subst ho
        obtain ⟨i8, k8⟩ : act.eval (.tmp (8 : Nat)) = vs 8 ∧ (∃ b, (vs 8) = .pointer (some ⟨b, 0, none⟩) ∧ w5.heap.size ≤ b ∧ SBox u b none 0 0 0 0 none 0 0 ∧ NoB u b) := hin 8 8 rfl rfl
        obtain ⟨i52, k52⟩ : act.eval (.tmp (52 : Nat)) = vs 6 ∧ (∃ q c p' c', (vs 6) = sJ q (m) c (m : Nat) (m : Nat) p' (N) c' ∧ Rw 3 cellsF u (.slice q (m) c) (linJ (m) (fun i => wholeF (X.getD i 0))) ∧ Mx 3 cellsF u (m) (m) p' (N) c' (squareJ kdF m (fun i k => wholeF (ofL m (mk m m (clrI (ofL m Ro))) i k)))) := hin 6 52 rfl rfl
        obtain ⟨b, e1, hb, bx, nb⟩ := k8
        obtain ⟨q0, c0', p0, c0, e2, hq1, hq2⟩ := k52
        rw [e1] at i8
        rw [e2] at i52
        obtain ⟨d0, d1, d2, d3, g0, g1, g2, g3, ltb⟩ := id bx
        exact skip_wp (by intro c h; cases h) (fun _ _ => trivial) (by simp only [execOp, i8, i52]; simp [go_sem, d0, d1, d2, d3, g0, g1, g2, g3]) ⟨rfl, b, q0, c0', p0, c0, e1, hb, bx.fill _ _ _ _ _ _ _ _, hq1.but (but4F _ _ _ _ _ _) (fun g hg => noB_rwF hq1 (m1) nb g hg), Mx.but hq2 (but4F _ _ _ _ _ _) (fun g hg => Ne.symm (noB_mx boolF hq2 nb g hg)), Bl.put4 hu hb _ _ _ _⟩
      case fin =>
        intro vs vb u0 u hu hin hps
        have a0 := hin 0 47 rfl
        have a1 := hin 1 48 rfl
        have a2 := hin 2 49 rfl
        have a3 := hin 3 50 rfl
        have a4 := hin 4 51 rfl
        have a5 := hin 5 46 rfl
        have a6 := hin 6 52 rfl
        have a7 := hin 7 53 rfl
        have a8 := hin 8 8 rfl
        have a10 := hin 10 9 rfl
        simp only [putL, Act.put, List.setIfInBounds_toArray, List.set_cons_zero, List.set_cons_succ, Nat.zero_add, Nat.reduceAdd, Nat.reduceBEq, Bool.or_false, Bool.or_true, Bool.false_or, Bool.true_or, Bool.false_eq_true, if_false, if_true, reduceIte, Nat.reduceEqDiff, beq_self_eq_true, Bool.or_self] at a0 a1 a2 a3 a4 a5 a6 a7 a8 a10 ⊢
        rw [if_pos (by decide)] at hps
        simp only [a0, a1, a3, a7, a10]
        obtain ⟨b6, q6, cq6, p6, cc6, eb, hb6, k6, hR, hM, hbu⟩ := hps
        simp only [eb]
        obtain ⟨w6, rfl⟩ : ∃ w6, w6 = u := ⟨_, rfl⟩
        have HR6 := hideP hR
        have HM6 := hideP hM
        have b56 : Bl w5 w6 := hbu
        have b6w : Bl W w6 := b5w.trans b56
        clear a2 a4 a5 a6 a8 hu hin hR hM
        have WHH := hideP (whole_linOF ph m ch (fun i => H.getD i 0) w6 (HHR.out.later (b0.trans b6w)) (by omega))
        obtain ⟨c0, c1, c2, c3, c4, c5, c6, c7⟩ := HC.out w6 (b6w)
        go_wp2_with fail
        refine WHH.out.mono ?_
        rintro e w7 ⟨qh, hc, rfl, hH, _, h67⟩
        clear c0 c1 c2 c3 c4 c5 c6 c7
        have HHH := hideP hH
        have b67 : Bl w6 w7 := h67
        have b57 : Bl w5 w7 := b56.trans b67
        have b7w : Bl W w7 := b6w.trans b67
        clear hH WHH
        go_wp2_with fail
        refine (wpIn_wide (n := 8)).1 (region_u (updF_ok (m) (N) (fun i => addR ((fun i => wholeF (X.getD i 0)) i) (mulR (divR ((runO kdF m (clrF (fun i k => wholeF (ofL m (mk m m (clrI (ofL m Ro))) i k))) (fun i => wholeF (H.getD i 0)) Rr m).e i) (runO kdF m (clrF (fun i k => wholeF (ofL m (mk m m (clrI (ofL m Ro))) i k))) (fun i => wholeF (H.getD i 0)) Rr m).a) (surpJ kdF m (fun i => wholeF (X.getD i 0)) (fun i => wholeF (H.getD i 0)) Zz))) ((runO kdF m (clrF (fun i k => wholeF (ofL m (mk m m (clrI (ofL m Ro))) i k))) (fun i => wholeF (H.getD i 0)) Rr m).s) (surpJ kdF m (fun i => wholeF (X.getD i 0)) (fun i => wholeF (H.getD i 0)) Zz) ((runO kdF m (clrF (fun i k => wholeF (ofL m (mk m m (clrI (ofL m Ro))) i k))) (fun i => wholeF (H.getD i 0)) Rr m).a)) fm [some 58, some 59, some 60, some 61, some 62, some 63, some 64, some 65, some 66, some 57, some 67, some 68, some 69, some 11, some 12, none, none, some 13] 8 (by kernel_rfl) (by rfl) 66 57 67 68 69 11 12 13 rfl
              (fun j v u => match j with | 0 => v = sJ q5 m cq5 m m p5 N cc5 | 1 => v = .slice qh m hc | 2 => v = .pointer (some ⟨w.heap.size, 6, none⟩) | 3 => v = .int .i64 r | 4 => v = frV Rr | 5 => v = .pointer (some ⟨w.heap.size, 7, none⟩) | 6 => v = .int .i64 z | 7 => v = frV Zz | _ => False)
              (by
                intro j v u u' hb h
                split at h <;> first | exact h | (obtain ⟨q, c, e, h1⟩ := h; exact ⟨q, c, e, h1.later hb⟩) | (obtain ⟨g, e, h1⟩ := h; exact ⟨g, e, h1.later hb⟩)) ?step ?call ?mv ?x0 ?x1 ?x2 ?la ?lb ?sa ?sb ?asg ?fin)
        case step =>
          intro j o t act u hjk ho hdt hsz hu hfr hin
          obtain ⟨c0, c1, c2, c3, c4, c5, c6, c7⟩ := HC.out _ (b7w.trans hu)
          obtain ⟨s0, s1, s2, s3, _, _, _, _, _⟩ := k5.later (b57.trans hu)
          rcases (by omega : j = 0 ∨ j = 1 ∨ j = 2 ∨ j = 3 ∨ j = 4 ∨ j = 5 ∨ j = 6 ∨ j = 7) with rfl | rfl | rfl | rfl | rfl | rfl | rfl | rfl
          · simp only [List.getElem?_toArray, List.getElem?_cons_zero, List.getElem?_cons_succ, Option.some.injEq] at ho
            subst ho
            obtain rfl := Option.some.inj hdt
            have i6 : act.eval (.tmp (6 : Nat)) = .pointer (some ⟨b5, 0, none⟩) := hfr 6 (by decide)
            exact plain_wp (by intro c h; cases h) (fun _ _ => trivial) (by simp only [execOp, i6, evalC, evalF, evalG]; simp [go_sem, s0, s1, s2, s3]) ⟨_, rfl, rfl, Bl.refl _⟩
          · simp only [List.getElem?_toArray, List.getElem?_cons_zero, List.getElem?_cons_succ, Option.some.injEq] at ho
            subst ho
            obtain rfl := Option.some.inj hdt
            have i10 : act.eval (.tmp (10 : Nat)) = .slice qh m hc := hfr 10 (by decide)
            exact plain_wp (by intro c h; cases h) (fun _ _ => trivial) (by simp only [execOp, i10, evalC, evalF, evalG]; simp [go_sem, c6]) ⟨_, rfl, rfl, Bl.refl _⟩
          · simp only [List.getElem?_toArray, List.getElem?_cons_zero, List.getElem?_cons_succ, Option.some.injEq] at ho
            subst ho
            obtain rfl := Option.some.inj hdt
            have i1 : act.eval (.tmp (1 : Nat)) = .pointer (some ⟨w.heap.size, 0, none⟩) := hfr 1 (by decide)
            exact plain_wp (by intro c h; cases h) (fun _ _ => trivial) (by simp only [execOp, i1, evalC, evalF, evalG]; simp [go_sem, c6]) ⟨_, rfl, rfl, Bl.refl _⟩
          · simp only [List.getElem?_toArray, List.getElem?_cons_zero, List.getElem?_cons_succ, Option.some.injEq] at ho
            subst ho
            obtain rfl := Option.some.inj hdt
            have i60 : (act.eval (.tmp (60 : Nat))) = .pointer (some ⟨w.heap.size, 6, none⟩) := hin ⟨2, .data⟩ (by simp) rfl 60 rfl
            exact plain_wp (by intro c h; cases h) (fun _ _ => trivial) (by simp only [execOp, i60, evalC, evalF, evalG]; simp [go_sem, c6]) ⟨_, rfl, rfl, Bl.refl _⟩
          · simp only [List.getElem?_toArray, List.getElem?_cons_zero, List.getElem?_cons_succ, Option.some.injEq] at ho
            subst ho
            obtain rfl := Option.some.inj hdt
            have i61 : (act.eval (.tmp (61 : Nat))) = .int .i64 r := hin ⟨3, .data⟩ (by simp) rfl 61 rfl
            refine enter_wp 17 #[.int .i64 r, .int .i64 1] (by intro c h; cases h) (fun _ _ => trivial) (by simp only [execOp, evalC, evalF, evalG, resolve, i61, evalC, List.map_toArray, List.map_cons, List.map_nil]; simp [invoke, egQ, Result.andThen, go_sem]) (by intro h; cases h) (callsIn_wide.2 (new_any r 1 u)) ?_
            rintro e w' ⟨rfl, hb⟩
            exact ⟨_, rfl, _, rfl, show frV (newR r 1) = frV Rr from by rw [HRr.out], hb⟩
          · simp only [List.getElem?_toArray, List.getElem?_cons_zero, List.getElem?_cons_succ, Option.some.injEq] at ho
            subst ho
            obtain rfl := Option.some.inj hdt
            have i1 : act.eval (.tmp (1 : Nat)) = .pointer (some ⟨w.heap.size, 0, none⟩) := hfr 1 (by decide)
            exact plain_wp (by intro c h; cases h) (fun _ _ => trivial) (by simp only [execOp, i1, evalC, evalF, evalG]; simp [go_sem, c7]) ⟨_, rfl, rfl, Bl.refl _⟩
          · simp only [List.getElem?_toArray, List.getElem?_cons_zero, List.getElem?_cons_succ, Option.some.injEq] at ho
            subst ho
            obtain rfl := Option.some.inj hdt
            have i63 : (act.eval (.tmp (63 : Nat))) = .pointer (some ⟨w.heap.size, 7, none⟩) := hin ⟨5, .data⟩ (by simp) rfl 63 rfl
            exact plain_wp (by intro c h; cases h) (fun _ _ => trivial) (by simp only [execOp, i63, evalC, evalF, evalG]; simp [go_sem, c7]) ⟨_, rfl, rfl, Bl.refl _⟩
          · simp only [List.getElem?_toArray, List.getElem?_cons_zero, List.getElem?_cons_succ, Option.some.injEq] at ho
            subst ho
            obtain rfl := Option.some.inj hdt
            have i64 : (act.eval (.tmp (64 : Nat))) = .int .i64 z := hin ⟨6, .data⟩ (by simp) rfl 64 rfl
            refine enter_wp 17 #[.int .i64 z, .int .i64 1] (by intro c h; cases h) (fun _ _ => trivial) (by simp only [execOp, evalC, evalF, evalG, resolve, i64, evalC, List.map_toArray, List.map_cons, List.map_nil]; simp [invoke, egQ, Result.andThen, go_sem]) (by intro h; cases h) (callsIn_wide.2 (new_any z 1 u)) ?_
            rintro e w' ⟨rfl, hb⟩
            exact ⟨_, rfl, _, rfl, show frV (newR z 1) = frV Zz from by rw [HZz.out], hb⟩
        case call =>
          intro o act u ho hsz hu hfr hin
          obtain ⟨c0, c1, c2, c3, c4, c5, c6, c7⟩ := HC.out _ (b7w.trans hu)
          obtain ⟨s0, s1, s2, s3, _, _, _, _, _⟩ := k5.later (b57.trans hu)
          simp only [List.getElem?_toArray, List.getElem?_cons_zero, List.getElem?_cons_succ, Option.some.injEq, Nat.reduceAdd] at ho
          subst ho
          have i58 : (act.eval (.tmp (58 : Nat))) = sJ q5 m cq5 m m p5 N cc5 := hin ⟨0, .data⟩ (by simp) rfl 58 rfl
          have i59 : (act.eval (.tmp (59 : Nat))) = .slice qh m hc := hin ⟨1, .data⟩ (by simp) rfl 59 rfl
          have i62 : (act.eval (.tmp (62 : Nat))) = frV Rr := hin ⟨4, .data⟩ (by simp) rfl 62 rfl
          have i65 : (act.eval (.tmp (65 : Nat))) = frV Zz := hin ⟨7, .data⟩ (by simp) rfl 65 rfl
          refine enter_wp 27 #[sJ q5 m cq5 m m p5 N cc5, .slice qh m hc, frV Rr, frV Zz] (by intro c h; cases h) (fun _ _ => trivial) (by simp only [execOp, evalC, evalF, evalG, resolve, i58, i59, i62, i65, List.map_toArray, List.map_cons, List.map_nil]; simp [invoke, egUr, Result.andThen, go_sem]) (by intro h; cases h) (callsIn_wide.2 (rUpdateF m N q5 cq5 (fun i => wholeF (X.getD i 0)) p5 cc5 (clrF (fun i k => wholeF (ofL m (mk m m (clrI (ofL m Ro))) i k))) qh hc (fun i => wholeF (H.getD i 0)) Rr Zz u (HR5.out.later (b57.trans hu)).q (HM5.out.later (b57.trans hu)) (HHH.out.later hu).q hm4)) ?_
          rintro e w' ⟨q, c, p', c', rfl, ⟨hR, hM, hF1, hF2⟩, hb⟩
          exact ⟨_, rfl, (q, c, p', c'), rfl, ⟨hR, hM⟩, hb, fun b hb' _ => ⟨fun g hg => by have := hF1 g hg; omega, fun g hg => by have := hF2 g hg; omega⟩⟩
        case mv =>
          intro o act u x ho hx
          simp only [List.getElem?_toArray, List.getElem?_cons_zero, List.getElem?_cons_succ, Option.some.injEq, Nat.reduceAdd] at ho
          subst ho
          exact plain_wp (by intro c h; cases h) (fun _ _ => trivial) (by simp only [execOp, hx]; simp [go_sem]) ⟨rfl, rfl⟩
        case x0 =>
          intro o act u x y z ho hx
          simp only [List.getElem?_toArray, List.getElem?_cons_zero, List.getElem?_cons_succ, Option.some.injEq, Nat.reduceAdd] at ho
          subst ho
          exact plain_wp (by intro c h; cases h) (fun _ _ => trivial) (by simp only [execOp, hx]; simp [go_sem]) ⟨rfl, rfl⟩
        case x1 =>
          intro o act u x y z ho hx
          simp only [List.getElem?_toArray, List.getElem?_cons_zero, List.getElem?_cons_succ, Option.some.injEq, Nat.reduceAdd] at ho
          subst ho
          exact plain_wp (by intro c h; cases h) (fun _ _ => trivial) (by simp only [execOp, hx]; simp [go_sem]) ⟨rfl, rfl⟩
        case x2 =>
          intro o act u x y z ho hx
          simp only [List.getElem?_toArray, List.getElem?_cons_zero, List.getElem?_cons_succ, Option.some.injEq, Nat.reduceAdd] at ho
          subst ho
          exact plain_wp (by intro c h; cases h) (fun _ _ => trivial) (by simp only [execOp, hx]; simp [go_sem]) ⟨rfl, rfl⟩
        case la =>
          intro o act u ho
          simp only [List.getElem?_toArray, List.getElem?_cons_zero, List.getElem?_cons_succ, Option.some.injEq, Nat.reduceAdd] at ho
          subst ho
          exact plain_wp (by intro c h; cases h) (fun _ _ => trivial) (w' := u.alloc (.cells #[.slice none 0 0, .int .i64 0, .int .i64 0, .slice none 0 0] 63)) (v := .pointer (some ⟨u.heap.size, 0, none⟩)) (by simp only [execOp]; simp [go_sem]) ⟨rfl, SBox.new u _ _ _ _ _ _ _ _ _, (Bl.refl _).alloc _, by simp⟩
        case lb =>
          intro o act u ho
          simp only [List.getElem?_toArray, List.getElem?_cons_zero, List.getElem?_cons_succ, Option.some.injEq, Nat.reduceAdd] at ho
          subst ho
          exact plain_wp (by intro c h; cases h) (fun _ _ => trivial) (w' := u.alloc (.cells #[.int .i64 0, .int .i64 0, .bool false, .int .i64 0, .int .i64 0, .bool false] 41)) (v := .pointer (some ⟨u.heap.size, 0, none⟩)) (by simp only [execOp]; simp [go_sem]) ⟨rfl, NBoxF.new u zeroR zeroR _, (Bl.refl _).alloc _, by simp⟩
        case sa =>
          intro o act u D b ho hA h0 hz hdat hoff hbl hb
          simp only [List.getElem?_toArray, List.getElem?_cons_zero, List.getElem?_cons_succ, Option.some.injEq, Nat.reduceAdd] at ho
          subst ho
          obtain ⟨q0, c0, p0, c1⟩ := D
          replace h0 : act.eval (.tmp 67) = sJ q0 (m) c0 (m) (m) p0 (N) c1 := h0
          obtain ⟨d0, d1, d2, d3, g0, g1, g2, g3, lt⟩ := (show SBox u b none 0 0 0 0 none 0 0 from hz)
          exact skip_wp (by intro c h; cases h) (fun _ _ => trivial) (by simp only [execOp, hA, h0]; simp [go_sem, d0, d1, d2, d3, g0, g1, g2, g3]) ⟨rfl, SBox.fill (show SBox u b none 0 0 0 0 none 0 0 from hz) _ _ _ _ _ _ _ _, ⟨hdat.1.but (but4F _ _ _ _ _ _) (fun g hg => hoff.1 g hg), hdat.2.but (but4F _ _ _ _ _ _) (fun g hg => hoff.2 g hg)⟩, Bl.put4 hbl hb _ _ _ _, fun b' h' => heap4F _ h' _ _ _ _, by simp⟩
        case sb =>
          intro o act u D b ho hA h0 hz hdat hoff hbl hb
          simp only [List.getElem?_toArray, List.getElem?_cons_zero, List.getElem?_cons_succ, Option.some.injEq, Nat.reduceAdd] at ho
          subst ho
          obtain ⟨q0, c0, p0, c1⟩ := D
          replace h0 : act.eval (.tmp 68) = newsVF (surpJ kdF m (fun i => wholeF (X.getD i 0)) (fun i => wholeF (H.getD i 0)) Zz) ((runO kdF m (clrF (fun i k => wholeF (ofL m (mk m m (clrI (ofL m Ro))) i k))) (fun i => wholeF (H.getD i 0)) Rr m).a) := h0
          obtain ⟨d0, d1, d2, d3, d4, d5, g0, g1, g2, g3, g4, g5, lt⟩ := (show NBoxF u b zeroR zeroR from hz)
          exact skip_wp (by intro c h; cases h) (fun _ _ => trivial) (by simp only [execOp, hA, h0]; simp [go_sem, d0, d1, d2, d3, d4, d5, g0, g1, g2, g3, g4, g5]) ⟨rfl, NBoxF.fill (show NBoxF u b zeroR zeroR from hz) _ _, ⟨hdat.1.but (butNF _ _ _ _) (fun g hg => hoff.1 g hg), hdat.2.but (butNF _ _ _ _) (fun g hg => hoff.2 g hg)⟩, blNF b hbl hb _ _, fun b' h' => heapNF _ h' _ _, by simp⟩
        case asg =>
          intro o act u x ho hx
          simp only [List.getElem?_toArray, List.getElem?_cons_zero, List.getElem?_cons_succ, Option.some.injEq, Nat.reduceAdd] at ho
          subst ho
          exact plain_wp (by intro c h; cases h) (fun _ _ => trivial) (by simp only [execOp, hx]; simp [go_sem]) ⟨rfl, rfl⟩
        case fin =>
          intro vs u D b8 n8' hu e9' e5' e6' hb1 hb2 hsa hsb hdat
          simp only [putL, Act.put, List.setIfInBounds_toArray, List.set_cons_zero, List.set_cons_succ, Nat.zero_add, Nat.reduceAdd] at e9' e5' e6' ⊢
          replace e9' := Eq.trans e9' (show _ = Value.bool true from rfl)
          simp only [e9', e5', e6']
          obtain ⟨q8, cq8, p8, c8⟩ := D
          obtain ⟨w8, rfl⟩ : ∃ w8, w8 = u := ⟨_, rfl⟩
          have k8 : SBox w8 b8 q8 m cq8 m m p8 N c8 := hsa
          have n8 : NBoxF w8 n8' (surpJ kdF m (fun i => wholeF (X.getD i 0)) (fun i => wholeF (H.getD i 0)) Zz) ((runO kdF m (clrF (fun i k => wholeF (ofL m (mk m m (clrI (ofL m Ro))) i k))) (fun i => wholeF (H.getD i 0)) Rr m).a) := hsb
          have HD8 : Rw 3 cellsF w8 (.slice q8 m cq8) (linJ m (fun i => addR ((fun i => wholeF (X.getD i 0)) i) (mulR (divR ((runO kdF m (clrF (fun i k => wholeF (ofL m (mk m m (clrI (ofL m Ro))) i k))) (fun i => wholeF (H.getD i 0)) Rr m).e i) (runO kdF m (clrF (fun i k => wholeF (ofL m (mk m m (clrI (ofL m Ro))) i k))) (fun i => wholeF (H.getD i 0)) Rr m).a) (surpJ kdF m (fun i => wholeF (X.getD i 0)) (fun i => wholeF (H.getD i 0)) Zz)))) ∧ Mx 3 cellsF w8 m m p8 N c8 ((runO kdF m (clrF (fun i k => wholeF (ofL m (mk m m (clrI (ofL m Ro))) i k))) (fun i => wholeF (H.getD i 0)) Rr m).s) := hdat
          rw [HEX.out.a] at n8
          have HR8 := hideP HD8.1
          have HM8 := hideP HD8.2
          have b78 : Bl w7 w8 := hu
          have b68 : Bl w6 w8 := b67.trans b78
          have b8w : Bl W w8 := b7w.trans b78
          clear hsa hsb hdat HD8
          go_wp2_with fail
          refine (wpIn_wide (n := 8)).1 (region_u (updF_ok (m) (N) (upXJ kdF m (fun i => wholeF (X.getD i 0)) (squareJ kdF m (fun i k => wholeF (ofL m (mk m m (clrI (ofL m Ro))) i k))) (fun i => wholeF (H.getD i 0)) Rr Zz) (upPJ kdF (fun i j => wholeF (unitI i j)) m (squareJ kdF m (fun i k => wholeF (ofL m (mk m m (clrI (ofL m Ro))) i k))) (fun i => wholeF (H.getD i 0)) Rr) (surpJ kdF m (fun i => wholeF (X.getD i 0)) (fun i => wholeF (H.getD i 0)) Zz) (spreadJ kdF m (squareJ kdF m (fun i k => wholeF (ofL m (mk m m (clrI (ofL m Ro))) i k))) (fun i => wholeF (H.getD i 0)) Rr)) fm [some 71, some 72, some 73, some 74, some 75, some 76, some 77, some 78, some 79, some 70, some 80, some 81, some 82, some 14, some 15, none, none, some 16] 8 (by kernel_rfl) (by rfl) 79 70 80 81 82 14 15 16 rfl
                (fun j v u => match j with | 0 => v = sJ q6 m cq6 m m p6 N cc6 | 1 => v = .slice qh m hc | 2 => v = .pointer (some ⟨w.heap.size, 6, none⟩) | 3 => v = .int .i64 r | 4 => v = frV Rr | 5 => v = .pointer (some ⟨w.heap.size, 7, none⟩) | 6 => v = .int .i64 z | 7 => v = frV Zz | _ => False)
                (by
                  intro j v u u' hb h
                  split at h <;> first | exact h | (obtain ⟨q, c, e, h1⟩ := h; exact ⟨q, c, e, h1.later hb⟩) | (obtain ⟨g, e, h1⟩ := h; exact ⟨g, e, h1.later hb⟩)) ?step ?call ?mv ?x0 ?x1 ?x2 ?la ?lb ?sa ?sb ?asg ?fin)
          case step =>
            intro j o t act u hjk ho hdt hsz hu hfr hin
            obtain ⟨c0, c1, c2, c3, c4, c5, c6, c7⟩ := HC.out _ (b8w.trans hu)
            obtain ⟨s0, s1, s2, s3, _, _, _, _, _⟩ := k6.later (b68.trans hu)
            rcases (by omega : j = 0 ∨ j = 1 ∨ j = 2 ∨ j = 3 ∨ j = 4 ∨ j = 5 ∨ j = 6 ∨ j = 7) with rfl | rfl | rfl | rfl | rfl | rfl | rfl | rfl
            · simp only [List.getElem?_toArray, List.getElem?_cons_zero, List.getElem?_cons_succ, Option.some.injEq] at ho
              subst ho
              obtain rfl := Option.some.inj hdt
              have i8 : act.eval (.tmp (8 : Nat)) = .pointer (some ⟨b6, 0, none⟩) := hfr 8 (by decide)
              exact plain_wp (by intro c h; cases h) (fun _ _ => trivial) (by simp only [execOp, i8, evalC, evalF, evalG]; simp [go_sem, s0, s1, s2, s3]) ⟨_, rfl, rfl, Bl.refl _⟩
            · simp only [List.getElem?_toArray, List.getElem?_cons_zero, List.getElem?_cons_succ, Option.some.injEq] at ho
              subst ho
              obtain rfl := Option.some.inj hdt
              have i10 : act.eval (.tmp (10 : Nat)) = .slice qh m hc := hfr 10 (by decide)
              exact plain_wp (by intro c h; cases h) (fun _ _ => trivial) (by simp only [execOp, i10, evalC, evalF, evalG]; simp [go_sem, c6]) ⟨_, rfl, rfl, Bl.refl _⟩
            · simp only [List.getElem?_toArray, List.getElem?_cons_zero, List.getElem?_cons_succ, Option.some.injEq] at ho
              subst ho
              obtain rfl := Option.some.inj hdt
              have i1 : act.eval (.tmp (1 : Nat)) = .pointer (some ⟨w.heap.size, 0, none⟩) := hfr 1 (by decide)
              exact plain_wp (by intro c h; cases h) (fun _ _ => trivial) (by simp only [execOp, i1, evalC, evalF, evalG]; simp [go_sem, c6]) ⟨_, rfl, rfl, Bl.refl _⟩
            · simp only [List.getElem?_toArray, List.getElem?_cons_zero, List.getElem?_cons_succ, Option.some.injEq] at ho
              subst ho
              obtain rfl := Option.some.inj hdt
              have i73 : (act.eval (.tmp (73 : Nat))) = .pointer (some ⟨w.heap.size, 6, none⟩) := hin ⟨2, .data⟩ (by simp) rfl 73 rfl
              exact plain_wp (by intro c h; cases h) (fun _ _ => trivial) (by simp only [execOp, i73, evalC, evalF, evalG]; simp [go_sem, c6]) ⟨_, rfl, rfl, Bl.refl _⟩
            · simp only [List.getElem?_toArray, List.getElem?_cons_zero, List.getElem?_cons_succ, Option.some.injEq] at ho
              subst ho
              obtain rfl := Option.some.inj hdt
              have i74 : (act.eval (.tmp (74 : Nat))) = .int .i64 r := hin ⟨3, .data⟩ (by simp) rfl 74 rfl
              refine enter_wp 17 #[.int .i64 r, .int .i64 1] (by intro c h; cases h) (fun _ _ => trivial) (by simp only [execOp, evalC, evalF, evalG, resolve, i74, evalC, List.map_toArray, List.map_cons, List.map_nil]; simp [invoke, egQ, Result.andThen, go_sem]) (by intro h; cases h) (callsIn_wide.2 (new_any r 1 u)) ?_
              rintro e w' ⟨rfl, hb⟩
              exact ⟨_, rfl, _, rfl, show frV (newR r 1) = frV Rr from by rw [HRr.out], hb⟩
            · simp only [List.getElem?_toArray, List.getElem?_cons_zero, List.getElem?_cons_succ, Option.some.injEq] at ho
              subst ho
              obtain rfl := Option.some.inj hdt
              have i1 : act.eval (.tmp (1 : Nat)) = .pointer (some ⟨w.heap.size, 0, none⟩) := hfr 1 (by decide)
              exact plain_wp (by intro c h; cases h) (fun _ _ => trivial) (by simp only [execOp, i1, evalC, evalF, evalG]; simp [go_sem, c7]) ⟨_, rfl, rfl, Bl.refl _⟩
            · simp only [List.getElem?_toArray, List.getElem?_cons_zero, List.getElem?_cons_succ, Option.some.injEq] at ho
              subst ho
              obtain rfl := Option.some.inj hdt
              have i76 : (act.eval (.tmp (76 : Nat))) = .pointer (some ⟨w.heap.size, 7, none⟩) := hin ⟨5, .data⟩ (by simp) rfl 76 rfl
              exact plain_wp (by intro c h; cases h) (fun _ _ => trivial) (by simp only [execOp, i76, evalC, evalF, evalG]; simp [go_sem, c7]) ⟨_, rfl, rfl, Bl.refl _⟩
            · simp only [List.getElem?_toArray, List.getElem?_cons_zero, List.getElem?_cons_succ, Option.some.injEq] at ho
              subst ho
              obtain rfl := Option.some.inj hdt
              have i77 : (act.eval (.tmp (77 : Nat))) = .int .i64 z := hin ⟨6, .data⟩ (by simp) rfl 77 rfl
              refine enter_wp 17 #[.int .i64 z, .int .i64 1] (by intro c h; cases h) (fun _ _ => trivial) (by simp only [execOp, evalC, evalF, evalG, resolve, i77, evalC, List.map_toArray, List.map_cons, List.map_nil]; simp [invoke, egQ, Result.andThen, go_sem]) (by intro h; cases h) (callsIn_wide.2 (new_any z 1 u)) ?_
              rintro e w' ⟨rfl, hb⟩
              exact ⟨_, rfl, _, rfl, show frV (newR z 1) = frV Zz from by rw [HZz.out], hb⟩
          case call =>
            intro o act u ho hsz hu hfr hin
            obtain ⟨c0, c1, c2, c3, c4, c5, c6, c7⟩ := HC.out _ (b8w.trans hu)
            obtain ⟨s0, s1, s2, s3, _, _, _, _, _⟩ := k6.later (b68.trans hu)
            simp only [List.getElem?_toArray, List.getElem?_cons_zero, List.getElem?_cons_succ, Option.some.injEq, Nat.reduceAdd] at ho
            subst ho
            have i71 : (act.eval (.tmp (71 : Nat))) = sJ q6 m cq6 m m p6 N cc6 := hin ⟨0, .data⟩ (by simp) rfl 71 rfl
            have i72 : (act.eval (.tmp (72 : Nat))) = .slice qh m hc := hin ⟨1, .data⟩ (by simp) rfl 72 rfl
            have i75 : (act.eval (.tmp (75 : Nat))) = frV Rr := hin ⟨4, .data⟩ (by simp) rfl 75 rfl
            have i78 : (act.eval (.tmp (78 : Nat))) = frV Zz := hin ⟨7, .data⟩ (by simp) rfl 78 rfl
            refine enter_wp 15 #[sJ q6 m cq6 m m p6 N cc6, .slice qh m hc, frV Rr, frV Zz] (by intro c h; cases h) (fun _ _ => trivial) (by simp only [execOp, evalC, evalF, evalG, resolve, i71, i72, i75, i78, List.map_toArray, List.map_cons, List.map_nil]; simp [invoke, egU, Result.andThen, go_sem]) (by intro h; cases h) (callsIn_wide.2 (jUpdateF m N q6 cq6 (fun i => wholeF (X.getD i 0)) p6 cc6 (squareJ kdF m (fun i k => wholeF (ofL m (mk m m (clrI (ofL m Ro))) i k))) qh hc (fun i => wholeF (H.getD i 0)) Rr Zz u (HR6.out.later (b68.trans hu)).q (HM6.out.later (b68.trans hu)) (HHH.out.later (b78.trans hu)).q hm4)) ?_
            rintro e w' ⟨q, c, p', c', rfl, ⟨hR, hM, hF1, hF2⟩, hb⟩
            exact ⟨_, rfl, (q, c, p', c'), rfl, ⟨hR, hM⟩, hb, fun b hb' _ => ⟨fun g hg => by have := hF1 g hg; omega, fun g hg => by have := hF2 g hg; omega⟩⟩
          case mv =>
            intro o act u x ho hx
            simp only [List.getElem?_toArray, List.getElem?_cons_zero, List.getElem?_cons_succ, Option.some.injEq, Nat.reduceAdd] at ho
            subst ho
            exact plain_wp (by intro c h; cases h) (fun _ _ => trivial) (by simp only [execOp, hx]; simp [go_sem]) ⟨rfl, rfl⟩
          case x0 =>
            intro o act u x y z ho hx
            simp only [List.getElem?_toArray, List.getElem?_cons_zero, List.getElem?_cons_succ, Option.some.injEq, Nat.reduceAdd] at ho
            subst ho
            exact plain_wp (by intro c h; cases h) (fun _ _ => trivial) (by simp only [execOp, hx]; simp [go_sem]) ⟨rfl, rfl⟩
          case x1 =>
            intro o act u x y z ho hx
            simp only [List.getElem?_toArray, List.getElem?_cons_zero, List.getElem?_cons_succ, Option.some.injEq, Nat.reduceAdd] at ho
            subst ho
            exact plain_wp (by intro c h; cases h) (fun _ _ => trivial) (by simp only [execOp, hx]; simp [go_sem]) ⟨rfl, rfl⟩
          case x2 =>
            intro o act u x y z ho hx
            simp only [List.getElem?_toArray, List.getElem?_cons_zero, List.getElem?_cons_succ, Option.some.injEq, Nat.reduceAdd] at ho
            subst ho
            exact plain_wp (by intro c h; cases h) (fun _ _ => trivial) (by simp only [execOp, hx]; simp [go_sem]) ⟨rfl, rfl⟩
          case la =>
            intro o act u ho
            simp only [List.getElem?_toArray, List.getElem?_cons_zero, List.getElem?_cons_succ, Option.some.injEq, Nat.reduceAdd] at ho
            subst ho
            exact plain_wp (by intro c h; cases h) (fun _ _ => trivial) (w' := u.alloc (.cells #[.slice none 0 0, .int .i64 0, .int .i64 0, .slice none 0 0] 36)) (v := .pointer (some ⟨u.heap.size, 0, none⟩)) (by simp only [execOp]; simp [go_sem]) ⟨rfl, SBox.new u _ _ _ _ _ _ _ _ _, (Bl.refl _).alloc _, by simp⟩
          case lb =>
            intro o act u ho
            simp only [List.getElem?_toArray, List.getElem?_cons_zero, List.getElem?_cons_succ, Option.some.injEq, Nat.reduceAdd] at ho
            subst ho
            exact plain_wp (by intro c h; cases h) (fun _ _ => trivial) (w' := u.alloc (.cells #[.int .i64 0, .int .i64 0, .bool false, .int .i64 0, .int .i64 0, .bool false] 41)) (v := .pointer (some ⟨u.heap.size, 0, none⟩)) (by simp only [execOp]; simp [go_sem]) ⟨rfl, NBoxF.new u zeroR zeroR _, (Bl.refl _).alloc _, by simp⟩
          case sa =>
            intro o act u D b ho hA h0 hz hdat hoff hbl hb
            simp only [List.getElem?_toArray, List.getElem?_cons_zero, List.getElem?_cons_succ, Option.some.injEq, Nat.reduceAdd] at ho
            subst ho
            obtain ⟨q0, c0, p0, c1⟩ := D
            replace h0 : act.eval (.tmp 80) = sJ q0 (m) c0 (m) (m) p0 (N) c1 := h0
            obtain ⟨d0, d1, d2, d3, g0, g1, g2, g3, lt⟩ := (show SBox u b none 0 0 0 0 none 0 0 from hz)
            exact skip_wp (by intro c h; cases h) (fun _ _ => trivial) (by simp only [execOp, hA, h0]; simp [go_sem, d0, d1, d2, d3, g0, g1, g2, g3]) ⟨rfl, SBox.fill (show SBox u b none 0 0 0 0 none 0 0 from hz) _ _ _ _ _ _ _ _, ⟨hdat.1.but (but4F _ _ _ _ _ _) (fun g hg => hoff.1 g hg), hdat.2.but (but4F _ _ _ _ _ _) (fun g hg => hoff.2 g hg)⟩, Bl.put4 hbl hb _ _ _ _, fun b' h' => heap4F _ h' _ _ _ _, by simp⟩
          case sb =>
            intro o act u D b ho hA h0 hz hdat hoff hbl hb
            simp only [List.getElem?_toArray, List.getElem?_cons_zero, List.getElem?_cons_succ, Option.some.injEq, Nat.reduceAdd] at ho
            subst ho
            obtain ⟨q0, c0, p0, c1⟩ := D
            replace h0 : act.eval (.tmp 81) = newsVF (surpJ kdF m (fun i => wholeF (X.getD i 0)) (fun i => wholeF (H.getD i 0)) Zz) (spreadJ kdF m (squareJ kdF m (fun i k => wholeF (ofL m (mk m m (clrI (ofL m Ro))) i k))) (fun i => wholeF (H.getD i 0)) Rr) := h0
            obtain ⟨d0, d1, d2, d3, d4, d5, g0, g1, g2, g3, g4, g5, lt⟩ := (show NBoxF u b zeroR zeroR from hz)
            exact skip_wp (by intro c h; cases h) (fun _ _ => trivial) (by simp only [execOp, hA, h0]; simp [go_sem, d0, d1, d2, d3, d4, d5, g0, g1, g2, g3, g4, g5]) ⟨rfl, NBoxF.fill (show NBoxF u b zeroR zeroR from hz) _ _, ⟨hdat.1.but (butNF _ _ _ _) (fun g hg => hoff.1 g hg), hdat.2.but (butNF _ _ _ _) (fun g hg => hoff.2 g hg)⟩, blNF b hbl hb _ _, fun b' h' => heapNF _ h' _ _, by simp⟩
          case asg =>
            intro o act u x ho hx
            simp only [List.getElem?_toArray, List.getElem?_cons_zero, List.getElem?_cons_succ, Option.some.injEq, Nat.reduceAdd] at ho
            subst ho
            exact plain_wp (by intro c h; cases h) (fun _ _ => trivial) (by simp only [execOp, hx]; simp [go_sem]) ⟨rfl, rfl⟩
          case fin =>
            intro vs u D b9 n9' hu e9' e5' e6' hb1 hb2 hsa hsb hdat
            simp only [putL, Act.put, List.setIfInBounds_toArray, List.set_cons_zero, List.set_cons_succ, Nat.zero_add, Nat.reduceAdd] at e9' e5' e6' ⊢
            replace e9' := Eq.trans e9' (show _ = Value.bool true from rfl)
            simp only [e9', e5', e6']
            obtain ⟨q9, cq9, p9, c9⟩ := D
            obtain ⟨w9, rfl⟩ : ∃ w9, w9 = u := ⟨_, rfl⟩
            have k9 : SBox w9 b9 q9 m cq9 m m p9 N c9 := hsa
            have n9 : NBoxF w9 n9' (surpJ kdF m (fun i => wholeF (X.getD i 0)) (fun i => wholeF (H.getD i 0)) Zz) (spreadJ kdF m (squareJ kdF m (fun i k => wholeF (ofL m (mk m m (clrI (ofL m Ro))) i k))) (fun i => wholeF (H.getD i 0)) Rr) := hsb
            have HD9 : Rw 3 cellsF w9 (.slice q9 m cq9) (linJ m (upXJ kdF m (fun i => wholeF (X.getD i 0)) (squareJ kdF m (fun i k => wholeF (ofL m (mk m m (clrI (ofL m Ro))) i k))) (fun i => wholeF (H.getD i 0)) Rr Zz)) ∧ Mx 3 cellsF w9 m m p9 N c9 (upPJ kdF (fun i j => wholeF (unitI i j)) m (squareJ kdF m (fun i k => wholeF (ofL m (mk m m (clrI (ofL m Ro))) i k))) (fun i => wholeF (H.getD i 0)) Rr) := hdat
            have b89 : Bl w8 w9 := hu
            have b9w : Bl W w9 := b8w.trans b89
            have B9 : Bl w w9 := b0.trans b9w
            obtain ⟨KQ, hKQ⟩ : ∃ f : Nat → Nat → Fr, f = upPJ kdF (fun i j => wholeF (unitI i j)) m (squareJ kdF m (fun i k => wholeF (ofL m (mk m m (clrI (ofL m Ro))) i k))) (fun i => wholeF (H.getD i 0)) Rr := ⟨_, rfl⟩
            obtain ⟨FQ, hFQ⟩ : ∃ f : Nat → Nat → Fr, f = squareJ kdF m (runO kdF m (clrF (fun i k => wholeF (ofL m (mk m m (clrI (ofL m Ro))) i k))) (fun i => wholeF (H.getD i 0)) Rr m).s := ⟨_, rfl⟩
            obtain ⟨XQ, hXQ⟩ : ∃ f : Nat → Fr, f = upXJ kdF m (fun i => wholeF (X.getD i 0)) (squareJ kdF m (fun i k => wholeF (ofL m (mk m m (clrI (ofL m Ro))) i k))) (fun i => wholeF (H.getD i 0)) Rr Zz := ⟨_, rfl⟩
            obtain ⟨E, hE⟩ : ∃ e : Fr, e = surpJ kdF m (fun i => wholeF (X.getD i 0)) (fun i => wholeF (H.getD i 0)) Zz := ⟨_, rfl⟩
            obtain ⟨A, hA⟩ : ∃ a : Fr, a = spreadJ kdF m (squareJ kdF m (fun i k => wholeF (ofL m (mk m m (clrI (ofL m Ro))) i k))) (fun i => wholeF (H.getD i 0)) Rr := ⟨_, rfl⟩
            have hX8 : linJ m (fun i => addR ((fun i => wholeF (X.getD i 0)) i) (mulR (divR ((runO kdF m (clrF (fun i k => wholeF (ofL m (mk m m (clrI (ofL m Ro))) i k))) (fun i => wholeF (H.getD i 0)) Rr m).e i) (runO kdF m (clrF (fun i k => wholeF (ofL m (mk m m (clrI (ofL m Ro))) i k))) (fun i => wholeF (H.getD i 0)) Rr m).a) (surpJ kdF m (fun i => wholeF (X.getD i 0)) (fun i => wholeF (H.getD i 0)) Zz))) = linJ m XQ := by
              rw [hXQ]
              refine linJ_congr fun i hi => ?_
              show addR _ (mulR (divR ((runO kdF m (clrF (fun i k => wholeF (ofL m (mk m m (clrI (ofL m Ro))) i k))) (fun i => wholeF (H.getD i 0)) Rr m).e i) (runO kdF m (clrF (fun i k => wholeF (ofL m (mk m m (clrI (ofL m Ro))) i k))) (fun i => wholeF (H.getD i 0)) Rr m).a) _) = addR _ (mulR (divR _ _) _)
              rw [HEX.out.a, HEX.out.e i hi]
            have HKEY := hideP (show ∀ i k, i < m → k < m → (FQ i k).bad = true ∨ (KQ i k).bad = true ∨ FQ i k = KQ i k from by rw [hFQ, hKQ]; exact HEX.out.p)
            have HR8' := HR8.out.later b89
            rw [hX8] at HR8'
            have HR9' := HD9.1
            have HM9' := HD9.2
            rw [← hXQ] at HR9'
            rw [← hKQ] at HM9'
            have CV := hideP (fun u (hu : Bl w9 u) => by have := rCoverF m q8 cq8 p8 N c8 _ u (HM8.out.later (b89.trans hu)) hm4; rw [← hFQ] at this; exact this)
            rw [← hE, ← hA] at n9 n8
            have NE := neq_news E A
            have NG := Tryz.nwGuard
            clear hsa hsb hdat HD9 hX8 hFQ hKQ hXQ hE hA
            obtain ⟨gX8, oX8, hgX8, _, CX8⟩ := rq_cellsLF HR8'.q (by omega)
            obtain ⟨gX9, oX9, hgX9, _, CX9⟩ := rq_cellsLF HR9'.q (by omega)
            obtain ⟨gM9, oM9, hgM9, _, CM9⟩ := rq_cellsLF HM9'.2.2 (by omega)
            have HGX8 := hideP hgX8
            have HGX9 := hideP hgX9
            have HGM9 := hideP hgM9
            have HCX8 := hideP CX8
            have HCX9 := hideP CX9
            have HCM9 := hideP CM9
            clear hgX8 hgX9 hgM9 CX8 CX9 CM9 HR8' HR9' HM9'
            obtain ⟨s0, s1, s2, s3, _, _, _, _, _⟩ := k8.later b89
            obtain ⟨v0, v1, v2, v3, _, _, _, _, _⟩ := id k9
            obtain ⟨m0, m1', m2, m3', m4, m5, _, _, _, _, _, _, _⟩ := n8.later b89
            obtain ⟨l0, l1, l2, l3, l4, l5, _, _, _, _, _, _, _⟩ := id n9
            obtain ⟨c0, c1, c2, c3, c4, c5, c6, c7⟩ := HC.out w9 (b9w)
            go_wp2_with fail
            clear s0 s1 s2 s3 v0 v1 v2 v3 c0 c1 c2 c3 c4 c5 c6 c7 m0 m1' m2 m3' m4 m5 l0 l1 l2 l3 l4 l5 NE NG
            go_loopw [120] (fun v wr => ∃ tt : Nat, v = .int .i64 tt ∧ tt ≤ m ∧ Bl w9 wr) (fun v _ => m - (intOf v).toNat)
            case atStart => exact ⟨0, rfl, Nat.zero_le _, Bl.refl _⟩
            case round =>
              obtain ⟨tt, rfl, ht, bl⟩ := hrel
              by_cases hlt2 : tt < m
              · obtain ⟨x, hx⟩ : ∃ x, x = XQ tt := ⟨_, rfl⟩
                have A1 : (linJ m XQ)[tt]? = some x := by rw [hx]; exact linJ_get _ hlt2
                have CS := fun (z : Wl wr) => HCX8.out z.w (bl.trans z.bl) tt x A1
                have CT := fun (z : Wl wr) => HCX9.out z.w (bl.trans z.bl) tt x A1
                clear hx A1
                have x0 := fun z => (CS z).1
                have x1 := fun z => (CS z).2.1
                have x2 := fun z => (CS z).2.2
                have y0 := fun z => (CT z).1
                have y1 := fun z => (CT z).2.1
                have y2 := fun z => (CT z).2.2
                have s0 := fun z : Wl wr => (k8.later ((b89.trans bl).trans z.bl)).c0
                have t0 := fun z : Wl wr => (k9.later (bl.trans z.bl)).c0
                rw [HGX8.out] at s0
                rw [HGX9.out] at t0
                have nx := neq_selfV x
                obtain ⟨xn, xd, xb⟩ := x
                have wne := wl_ne wr
                clear CS CT
                dsimp only at x0 x1 x2 y0 y1 y2
                cases xb
                · go_wp2_with fail
                  refine wl_region wr (Bl.refl _) (by kernel_rfl) (by kernel_rfl) ?_
                  repeat (go_big_quiet_step (first | fail))
                  refine wpQuiet_nil ?_
                  intro _ hw'
                  obtain ⟨z, hw''⟩ := hw'
                  subst hw''
                  clear wne x0 x1 x2 y0 y1 y2 s0 t0
                  obtain ⟨wz, hz⟩ := z
                  dsimp only
                  go_wp2
                  go_roundw
                  case rel => exact ⟨tt + 1, by simp, hlt2, bl.trans hz⟩
                  case measure => simp [intOf]; omega
                · clear nx
                  go_wp2_with fail
                  refine wl_region wr (Bl.refl _) (by kernel_rfl) (by kernel_rfl) ?_
                  repeat (go_big_quiet_step (first | fail))
                  refine wpQuiet_nil ?_
                  intro _ hw'
                  obtain ⟨z, hw''⟩ := hw'
                  subst hw''
                  clear wne x0 x1 x2 y0 y1 y2 s0 t0
                  obtain ⟨wz, hz⟩ := z
                  dsimp only
                  go_wp2
                  go_roundw
                  case rel => exact ⟨tt + 1, by simp, hlt2, bl.trans hz⟩
                  case measure => simp [intOf]; omega
              · obtain rfl : m = tt := by omega
                obtain ⟨w10, rfl⟩ : ∃ w10, w10 = wr := ⟨_, rfl⟩
                have b910 : Bl w9 w10 := bl
                obtain ⟨s0, s1, s2, s3, _, _, _, _, _⟩ := k8.later (b89.trans b910)
                clear ht hlt2 bl
                go_wp2_with fail
                refine (CV.out w10 b910).mono ?_
                rintro e w11 ⟨p12, c12', rfl, hM12, h11⟩
                clear s0 s1 s2 s3
                obtain ⟨w12, hW12⟩ : ∃ W, W = w11.alloc (.cells #[.int .i64 m, .int .i64 m, .slice p12 N c12'] 30) := ⟨_, rfl⟩
                have b12 : Bl w11 w12 := by rw [hW12]; exact (Bl.refl _).alloc _
                have k12 : MBox w12 w11.heap.size m m p12 N c12' := by rw [hW12]; exact MBox.new w11 _ _ _ _ _ _
                have b9c : Bl w9 w12 := b910.trans (h11.trans b12)
                have B12 : Bl w w12 := B9.trans b9c
                obtain ⟨g12, o12, hg12, _, C12⟩ := rq_cellsLF (Mx.later hM12 b12).2.2 (by omega)
                have HG12 := hideP hg12
                have HC12 := hideP C12
                have HW12 := hideP hW12
                clear hW12 hM12 hg12 C12
                obtain ⟨t0, t1, t2, t3, _, _, _, _, _⟩ := k9.later b9c
                rw [HW12.out] at t0 t1 t2 t3
                go_wp2_with fail
                rw [← HW12.out]
                clear t0 t1 t2 t3
                go_loopw [159] (fun v wr => ∃ tt : Nat, v = .int .i64 tt ∧ tt ≤ N ∧ Bl w12 wr) (fun v _ => N - (intOf v).toNat)
                case atStart => exact ⟨0, rfl, Nat.zero_le _, Bl.refl _⟩
                case round =>
                  obtain ⟨tt, rfl, ht, bl⟩ := hrel
                  by_cases hlt2 : tt < N
                  · obtain ⟨A1, hi, hk⟩ := mk_at FQ (t := tt) (R := m) (C := m) (by rw [← HNN.out]; exact hlt2)
                    obtain ⟨A2, _, _⟩ := mk_at KQ (t := tt) (R := m) (C := m) (by rw [← HNN.out]; exact hlt2)
                    have KEY := HKEY.out _ _ hi hk
                    obtain ⟨x, hx⟩ : ∃ x, x = FQ (tt / m) (tt % m) := ⟨_, rfl⟩
                    obtain ⟨y, hy⟩ : ∃ x, x = KQ (tt / m) (tt % m) := ⟨_, rfl⟩
                    rw [← hx, ← hy] at KEY
                    rw [← hx] at A1
                    rw [← hy] at A2
                    have CS := fun (z : Wl wr) => HC12.out z.w (bl.trans z.bl) tt x A1
                    have CT := fun (z : Wl wr) => HCM9.out z.w ((b9c.trans bl).trans z.bl) tt y A2
                    clear hx hy hi hk A1 A2
                    have x0 := fun z => (CS z).1
                    have x1 := fun z => (CS z).2.1
                    have x2 := fun z => (CS z).2.2
                    have y0 := fun z => (CT z).1
                    have y1 := fun z => (CT z).2.1
                    have y2 := fun z => (CT z).2.2
                    have s0 := fun z : Wl wr => (k12.later (bl.trans z.bl)).c2
                    have t0 := fun z : Wl wr => (k9.later ((b9c.trans bl).trans z.bl)).c3
                    have t3 := fun z : Wl wr => (k9.later ((b9c.trans bl).trans z.bl)).c0
                    rw [HG12.out] at s0
                    rw [HGM9.out] at t0
                    have ng : ((tt : Int) ≥ (N : Int)) ↔ False := by simp; omega
                    have nx := neq_selfV x
                    obtain ⟨xn, xd, xb⟩ := x
                    obtain ⟨yn, yd, yb⟩ := y
                    have wne := wl_ne wr
                    clear CS CT
                    dsimp only at x0 x1 x2 y0 y1 y2 KEY
                    cases xb
                    · rcases KEY with h | h | h
                      · cases h
                      · subst h
                        clear nx
                        go_wp2_with fail
                        refine wl_region wr (Bl.refl _) (by kernel_rfl) (by kernel_rfl) ?_
                        repeat (go_big_quiet_step (first | fail))
                        refine wpQuiet_nil ?_
                        intro _ hw'
                        obtain ⟨z, hw''⟩ := hw'
                        subst hw''
                        clear wne x0 x1 x2 y0 y1 y2 s0 t0 t3
                        obtain ⟨wz, hz⟩ := z
                        dsimp only
                        go_wp2
                        go_roundw
                        case rel => exact ⟨tt + 1, by simp, hlt2, bl.trans hz⟩
                        case measure => simp [intOf]; omega
                      · cases h
                        go_wp2_with fail
                        refine wl_region wr (Bl.refl _) (by kernel_rfl) (by kernel_rfl) ?_
                        repeat (go_big_quiet_step (first | fail))
                        refine wpQuiet_nil ?_
                        intro _ hw'
                        obtain ⟨z, hw''⟩ := hw'
                        subst hw''
                        clear wne x0 x1 x2 y0 y1 y2 s0 t0 t3
                        obtain ⟨wz, hz⟩ := z
                        dsimp only
                        go_wp2
                        go_roundw
                        case rel => exact ⟨tt + 1, by simp, hlt2, bl.trans hz⟩
                        case measure => simp [intOf]; omega
                    · clear nx KEY
                      go_wp2_with fail
                      refine wl_region wr (Bl.refl _) (by kernel_rfl) (by kernel_rfl) ?_
                      repeat (go_big_quiet_step (first | fail))
                      refine wpQuiet_nil ?_
                      intro _ hw'
                      obtain ⟨z, hw''⟩ := hw'
                      subst hw''
                      clear wne x0 x1 x2 y0 y1 y2 s0 t0 t3
                      obtain ⟨wz, hz⟩ := z
                      dsimp only
                      go_wp2
                      go_roundw
                      case rel => exact ⟨tt + 1, by simp, hlt2, bl.trans hz⟩
                      case measure => simp [intOf]; omega
                  · obtain rfl : N = tt := by omega
                    clear ht hlt2
                    go_wp2_with fail
                    refine (AW.out _).mono ?_
                    rintro e w99 ⟨rfl, h99⟩
                    go_wp2
                    go_ret
                    exact ⟨rfl, (B12.trans bl).trans h99⟩
end Go.Proofs.YtljmggemdkfbiaaGreat
