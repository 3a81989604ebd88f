/- The walk of RootStill. Our own tool writes it. -/
import Derived.Test.YtljmggemdkfbiaaGreatRow
import Derived.Test.YtljmggemdkfbiaaGreatRnT
import Derived.Test.YtljmggemdkfbiaaGreatJf
namespace Go.Proofs.YtljmggemdkfbiaaGreat
open Go.RowKit
set_option linter.unusedSimpArgs false
set_option linter.unusedVariables false

set_option maxRecDepth 100000 in
set_option maxHeartbeats 16000000 in
theorem walk_RootStill (n r z : Int) (vx vr vf vg vh : Value) (X Ro Fm Gm H : List Int) (w : World) (hX : Rq 1 cI w vx X) (hR : Rq 1 cI w vr Ro) (hF : Rq 1 cI w vf Fm) (hG : Rq 1 cI w vg Gm) (hH : Rq 1 cI w vh H) :
    Calls Tryz.prog 7 #[.agg #[.int .i64 n, vx, vr, vf, vg, vh, .int .i64 r, .int .i64 z]] w fun e w' => e = .returned (.bool true) ∧ Bl w w' := by
  have fm : Tryz.prog.follows .mixedOrders = true := by kernel_rfl
  have egW := enters_of Tryz.func35 (by kernel_rfl) rfl
  have egN := enters_of Tryz.func34 (by kernel_rfl) rfl
  have egU := enters_of Tryz.func36 (by kernel_rfl) rfl
  have egO := enters_of Tryz.func37 (by kernel_rfl) rfl
  have AW := hideP awake10_any
  obtain ⟨px, cx, rfl, _, _⟩ := hX.cut
  obtain ⟨pr, cr, rfl, _, _⟩ := hR.cut
  obtain ⟨pf, cf, rfl, _, _⟩ := hF.cut
  obtain ⟨pg, cg, rfl, _, _⟩ := hG.cut
  obtain ⟨ph, ch, rfl, _, _⟩ := hH.cut
  obtain ⟨lx, hlx⟩ : ∃ l, l = X.length := ⟨_, rfl⟩
  obtain ⟨lr, hlr⟩ : ∃ l, l = Ro.length := ⟨_, rfl⟩
  obtain ⟨lf, hlf⟩ : ∃ l, l = Fm.length := ⟨_, rfl⟩
  obtain ⟨lg, hlg⟩ : ∃ l, l = Gm.length := ⟨_, rfl⟩
  obtain ⟨lh, hlh⟩ : ∃ l, l = H.length := ⟨_, rfl⟩
  rw [← hlx] at hX
  rw [← hlr] at hR
  rw [← hlf] at hF
  rw [← hlg] at hG
  rw [← hlh] at hH
  rw [← hlx, ← hlr, ← hlf, ← hlg, ← hlh]
  obtain ⟨W, hW⟩ : ∃ W, W = w.alloc (.cells #[.int .i64 n, .slice px lx cx, .slice pr lr cr, .slice pf lf cf, .slice pg lg cg, .slice ph lh ch, .int .i64 r, .int .i64 z] 24) := ⟨_, rfl⟩
  have b0 : Bl w W := by rw [hW]; exact (Bl.refl _).alloc _
  have lt0 : w.heap.size < W.heap.size := by rw [hW]; simp
  have HC := hideP (show ∀ u, Bl W u → u.cell? ⟨w.heap.size, 0, none⟩ = some (.int .i64 n) ∧ u.cell? ⟨w.heap.size, 1, none⟩ = some (.slice px lx cx) ∧ u.cell? ⟨w.heap.size, 2, none⟩ = some (.slice pr lr cr) ∧ u.cell? ⟨w.heap.size, 3, none⟩ = some (.slice pf lf cf) ∧ u.cell? ⟨w.heap.size, 4, none⟩ = some (.slice pg lg cg) ∧ u.cell? ⟨w.heap.size, 5, none⟩ = some (.slice ph lh ch) ∧ u.cell? ⟨w.heap.size, 6, none⟩ = some (.int .i64 r) ∧ u.cell? ⟨w.heap.size, 7, none⟩ = some (.int .i64 z) from fun u hu => by
    refine ⟨?_, ?_, ?_, ?_, ?_, ?_, ?_, ?_⟩ <;> (rw [bl_cell hu _ _ lt0, hW]; simp [go_sem]))
  have FE := hideP (few9_any n r z px pr pf pg ph lx cx lr cr lf cf lg cg lh ch X Ro Fm Gm H W (hX.later b0) (hR.later b0) (hF.later b0) (hG.later b0) (hH.later b0) hlx.symm hlr.symm hlf.symm hlg.symm hlh.symm)
  have HW := hideP hW
  have HXR0 := hideP hX
  have HHR0 := hideP hH
  have HRR := hideP hR
  have HFR := hideP hF
  have HGR := hideP hG
  have hlx' := hideP hlx.symm
  have hlr' := hideP hlr.symm
  have hlf' := hideP hlf.symm
  have hlg' := hideP hlg.symm
  have hlh' := hideP hlh.symm
  clear hW hX hR hF hG hH hlx hlr hlf hlg hlh
  go_enter Tryz.func7, Tryz.ntmps7
  go_wp2_with fail
  rw [← HW.out]
  refine FE.out.mono ?_
  rintro e w1 ⟨b1, rfl, hb1, h1⟩
  clear FE
  cases b1 with
  | false =>
    go_wp2_with fail
    refine (AW.out _).mono ?_
    rintro e w99 ⟨rfl, h99⟩
    go_wp2
    go_ret
    exact ⟨rfl, (b0.trans h1).trans h99⟩
  | true =>
    obtain ⟨m, rfl, fw⟩ := hb1 rfl
    clear hb1
    obtain ⟨N, hN⟩ : ∃ N, N = m * m := ⟨_, rfl⟩
    obtain rfl : lx = m := by rw [← hlx'.out]; exact fw.x
    obtain ⟨m, rfl⟩ : ∃ m, m = lx := ⟨_, rfl⟩
    obtain rfl : lh = m := by rw [← hlh'.out]; exact fw.h
    obtain ⟨m, rfl⟩ : ∃ m, m = lh := ⟨_, rfl⟩
    obtain rfl : lr = N := by rw [← hlr'.out, hN]; exact fw.ro
    obtain ⟨N, rfl⟩ : ∃ N, N = lr := ⟨_, rfl⟩
    obtain rfl : lf = N := by rw [← hlf'.out, hN]; exact fw.f
    obtain ⟨N, rfl⟩ : ∃ N, N = lf := ⟨_, rfl⟩
    obtain rfl : lg = N := by rw [← hlg'.out, hN]; exact fw.g
    obtain ⟨N, rfl⟩ : ∃ N, N = lg := ⟨_, rfl⟩
    have m1 := fw.m1
    have m3 := fw.m3
    have hm4 : m ≤ 4 := by omega
    have hN9 : N ≤ 9 := by rw [hN]; exact Nat.mul_le_mul m3 m3
    have mN : m ≤ N := by rw [hN]; exact Nat.le_mul_of_pos_left m m1
    have HNN := hideP hN
    have HD := hideP (dim_le4 m1 hm4)
    have HFW := hideP fw
    have HXR := hideP (show Rq 1 cI w (.slice px m cx) (linJ m fun i => X.getD i 0) from by rw [← linJ_of (n := m) 0 X hlx'.out]; exact HXR0.out)
    have HHR := hideP (show Rq 1 cI w (.slice ph m ch) (linJ m fun i => H.getD i 0) from by rw [← linJ_of (n := m) 0 H hlh'.out]; exact HHR0.out)
    have b1w : Bl W w1 := h1
    clear hN fw HHR0
    obtain ⟨Rr, hRi⟩ : ∃ x : En, x = itN r := ⟨_, rfl⟩
    obtain ⟨Zz, hZi⟩ : ∃ x : En, x = itN z := ⟨_, rfl⟩
    obtain ⟨one, hone⟩ : ∃ x : En, x = ptE 0 (frB 0) := ⟨_, rfl⟩
    have HSO := hideP (still10 (N := N) m3 HNN.out hlx'.out hlr'.out HFW.out.sx HFW.out.sro HFW.out.r1 HFW.out.r5 HFW.out.z1 HFW.out.z5)
    have HRr := hideP (show ptE (foN r) (foB r) = Rr from by rw [hRi]; exact ofN_it (by have := HFW.out.r1; have := HFW.out.r5; unfold Wn; omega))
    have HZz := hideP (show ptE (foN z) (foB z) = Zz from by rw [hZi]; exact ofN_it (by have := HFW.out.z1; have := HFW.out.z5; unfold Wn; omega))
    have HRi := hideP hRi
    have HZi := hideP hZi
    have HON := hideP hone
    have n1 : ¬ ((m : Int) < 1) := by omega
    have n3 : ¬ ((m : Int) > 3) := by omega
    have n3' : ¬ (3 < (m : Int)) := by omega
    clear hRi hZi hone
    obtain ⟨c0, c1, c2, c3, c4, c5, c6, c7⟩ := HC.out w1 (b1w)
    have WH := hideP (whole8N_call m m pr N cr Ro w1 (HRR.out.later (b0.trans b1w)) HD.out HNN.out hlr'.out)
    go_wp2_with fail
    refine WH.out.mono ?_
    rintro e w2 ⟨p2, c2', rfl, hx, h2⟩
    clear c0 c1 c2 c3 c4 c5 c6 c7
    obtain ⟨W2, hW2⟩ : ∃ W2, W2 = w2.alloc (.cells #[.int .i64 m, .int .i64 m, .slice p2 N c2'] 48) := ⟨_, rfl⟩
    have b2 : Bl w2 W2 := by rw [hW2]; exact (Bl.refl _).alloc _
    have k2 : MBox W2 w2.heap.size m m p2 N c2' := by rw [hW2]; exact MBox.new w2 _ _ _ _ _ _
    have HX2 := hideP (Mx.later hx b2)
    have b2w : Bl W W2 := b1w.trans (h2.trans b2)
    have HW2 := hideP hW2
    clear hW2 hx WH
    go_wp2_with fail
    rw [← HW2.out]
    refine (pointE_any 0 W2).mono ?_
    rintro e w3 ⟨rfl, h3⟩
    rw [← HON.out]
    obtain ⟨W3, hW3⟩ : ∃ W3, W3 = w3.alloc (.cells #[.int .i64 one.v, .int .i64 one.l, .int .i64 one.h, .bool one.bad] 52) := ⟨_, rfl⟩
    have b3 : Bl w3 W3 := by rw [hW3]; exact (Bl.refl _).alloc _
    have k3 : Box W3 w3.heap.size one := by rw [hW3]; exact Box.new w3 one _
    have b23 : Bl W2 W3 := h3.trans b3
    have b3w : Bl W W3 := b2w.trans b23
    have HW3 := hideP hW3
    clear hW3
    go_wp2_with fail
    rw [← HW3.out]
    refine (wpIn_wide (n := 8)).1 (region_q fm [some 39, some 40, some 41, some 42, some 43, some 38, some 44, some 45, some 6, none, some 7] (fun j => j == 7 || j == 10) 9 (by kernel_rfl) (by rfl)
          (fun j v u => match j with | 0 => v = .pointer (some ⟨w.heap.size, 1, none⟩) | 1 => v = .slice px m cx | 2 => ∃ q c, v = .slice q m c ∧ Rw 4 cellsN u (.slice q m c) (linJ m (fun i => wholeN (X.getD i 0))) | 3 => v = mV m m p2 N c2' | 4 => ∃ q c p' c', v = .tuple #[sJ q (m) c (m : Nat) (m : Nat) p' (N) c', .bool true] ∧ Rw 4 cellsN u (.slice q (m) c) (linJ (m) (fun i => wholeN (X.getD i 0))) ∧ Mx 4 cellsN u (m) (m) p' (N) c' (clrN (fun i k => wholeN (ofL m Ro i k))) | 5 => ∃ q c p' c', v = .tuple #[sJ q (m) c (m : Nat) (m : Nat) p' (N) c', .bool true] ∧ Rw 4 cellsN u (.slice q (m) c) (linJ (m) (fun i => wholeN (X.getD i 0))) ∧ Mx 4 cellsN u (m) (m) p' (N) c' (clrN (fun i k => wholeN (ofL m Ro i k))) | 6 => ∃ q c p' c', v = sJ q (m) c (m : Nat) (m : Nat) p' (N) c' ∧ Rw 4 cellsN u (.slice q (m) c) (linJ (m) (fun i => wholeN (X.getD i 0))) ∧ Mx 4 cellsN u (m) (m) p' (N) c' (clrN (fun i k => wholeN (ofL m Ro i k))) | 7 => v = .bool true | 8 => ∃ b, v = .pointer (some ⟨b, 0, none⟩) ∧ W3.heap.size ≤ b ∧ SBox u b none 0 0 0 0 none 0 0 ∧ NoB u b | 10 => v = .bool true | _ => False)
          (by
            intro j v u u' hb h
            split at h <;> first | exact h | (obtain ⟨b, e, h1, h2, h3⟩ := h; exact ⟨b, e, h1, h2.later hb, h3.later hb h2.lt⟩) | (obtain ⟨q, c, p', c', e, h1, h2⟩ := h; exact ⟨q, c, p', c', e, h1.later hb, Mx.later h2 hb⟩) | (obtain ⟨q, c, e, h1⟩ := h; exact ⟨q, c, e, h1.later hb⟩) | (obtain ⟨g, e, h1⟩ := h; exact ⟨g, e, h1.later hb⟩)) (fun vs u0 u => ∃ b q c p' c', vs 8 = .pointer (some ⟨b, 0, none⟩) ∧ W3.heap.size ≤ b ∧ SBox u b q (m) c (m : Nat) (m : Nat) p' (N) c' ∧ Rw 4 cellsN u (.slice q (m) c) (linJ (m) (fun i => wholeN (X.getD i 0))) ∧ Mx 4 cellsN u (m) (m) p' (N) c' (clrN (fun i k => wholeN (ofL m Ro i k))) ∧ Bl W3 u) ?step ?still ?store ?fin)
    case step =>
      intro j o t act u ho hdt hpu hsz hu hfr hin
      have hj : j < 11 := (Array.getElem?_eq_some_iff.1 ho).1
      obtain ⟨c0, c1, c2, c3, c4, c5, c6, c7⟩ := HC.out _ (b3w.trans hu)
      obtain ⟨y0, y1, y2, _, _, _, _⟩ := k2.later (b23.trans hu)
      rcases (by omega : j = 0 ∨ j = 1 ∨ j = 2 ∨ j = 3 ∨ j = 4 ∨ j = 5 ∨ j = 6 ∨ j = 7 ∨ j = 8 ∨ j = 9 ∨ j = 10) with rfl | rfl | rfl | rfl | rfl | rfl | rfl | rfl | rfl | rfl | rfl
      · simp only [List.getElem?_toArray, List.getElem?_cons_zero, List.getElem?_cons_succ, Option.some.injEq] at ho
        subst ho
        obtain rfl := Option.some.inj hdt
        have i1 : act.eval (.tmp (1 : Nat)) = .pointer (some ⟨w.heap.size, 0, none⟩) := hfr 1 (by decide)
        exact plain_wp (by intro c h; cases h) (fun _ _ => trivial) (by simp only [execOp, i1, evalC, evalF, evalG]; simp [go_sem, c1]) ⟨_, rfl, rfl, Bl.refl _⟩
      · simp only [List.getElem?_toArray, List.getElem?_cons_zero, List.getElem?_cons_succ, Option.some.injEq] at ho
        subst ho
        obtain rfl := Option.some.inj hdt
        have i39 : (act.eval (.tmp (39 : Nat))) = .pointer (some ⟨w.heap.size, 1, none⟩) := hin ⟨0, .data⟩ (by simp) rfl 39 rfl
        exact plain_wp (by intro c h; cases h) (fun _ _ => trivial) (by simp only [execOp, i39, evalC, evalF, evalG]; simp [go_sem, c1]) ⟨_, rfl, rfl, Bl.refl _⟩
      · simp only [List.getElem?_toArray, List.getElem?_cons_zero, List.getElem?_cons_succ, Option.some.injEq] at ho
        subst ho
        obtain rfl := Option.some.inj hdt
        have i40 : (act.eval (.tmp (40 : Nat))) = .slice px m cx := hin ⟨1, .data⟩ (by simp) rfl 40 rfl
        refine enter_wp 35 #[.slice px m cx] (by intro c h; cases h) (fun _ _ => trivial) (by simp only [execOp, evalC, evalF, evalG, resolve, i40, List.map_toArray, List.map_cons, List.map_nil]; simp [invoke, egW, Result.andThen, go_sem]) (by intro h; cases h) (callsIn_wide.2 (whole_linON px m cx (fun i => X.getD i 0) u (HXR.out.later (b0.trans (b3w.trans hu))) (by omega))) ?_
        rintro e w' ⟨q, c, rfl, hR, _, hb⟩
        exact ⟨_, rfl, _, rfl, ⟨q, c, rfl, hR⟩, hb⟩
      · simp only [List.getElem?_toArray, List.getElem?_cons_zero, List.getElem?_cons_succ, Option.some.injEq] at ho
        subst ho
        obtain rfl := Option.some.inj hdt
        have i3 : act.eval (.tmp (3 : Nat)) = .pointer (some ⟨w2.heap.size, 0, none⟩) := hfr 3 (by decide)
        exact plain_wp (by intro c h; cases h) (fun _ _ => trivial) (by simp only [execOp, i3, evalC, evalF, evalG]; simp [go_sem, y0, y1, y2]) ⟨_, rfl, rfl, Bl.refl _⟩
      · simp only [List.getElem?_toArray, List.getElem?_cons_zero, List.getElem?_cons_succ, Option.some.injEq] at ho
        subst ho
        obtain rfl := Option.some.inj hdt
        have i41 : ∃ q c, (act.eval (.tmp (41 : Nat))) = .slice q m c ∧ Rw 4 cellsN u (.slice q m c) (linJ m (fun i => wholeN (X.getD i 0))) := hin ⟨2, .data⟩ (by simp) rfl 41 rfl
        have i42 : (act.eval (.tmp (42 : Nat))) = mV m m p2 N c2' := hin ⟨3, .data⟩ (by simp) rfl 42 rfl
        obtain ⟨q0, cc0, e0, hq⟩ := i41
        refine enter_wp 34 #[.slice q0 m cc0, mV m m p2 N c2'] (by intro c h; cases h) (fun _ _ => trivial) (by simp only [execOp, evalC, evalF, evalG, resolve, e0, i42, List.map_toArray, List.map_cons, List.map_nil]; simp [invoke, egN, Result.andThen, go_sem]) (by intro h; cases h) (callsIn_wide.2 (rNewN m q0 cc0 (fun i => wholeN (X.getD i 0)) p2 N c2' (fun i k => wholeN (ofL m Ro i k)) u hq.q (HX2.out.later (b23.trans hu)) hm4)) ?_
        rintro e w' ⟨q, c, p', c', rfl, ⟨hR, hM⟩, hb⟩
        exact ⟨_, rfl, _, rfl, ⟨q, c, p', c', rfl, hR, hM⟩, hb⟩
      · simp only [List.getElem?_toArray, List.getElem?_cons_zero, List.getElem?_cons_succ, Option.some.injEq] at ho
        subst ho
        obtain rfl := Option.some.inj hdt
        have i43 : ∃ q c p' c', (act.eval (.tmp (43 : Nat))) = .tuple #[sJ q (m) c (m : Nat) (m : Nat) p' (N) c', .bool true] ∧ Rw 4 cellsN u (.slice q (m) c) (linJ (m) (fun i => wholeN (X.getD i 0))) ∧ Mx 4 cellsN u (m) (m) p' (N) c' (clrN (fun i k => wholeN (ofL m Ro i k))) := hin ⟨4, .data⟩ (by simp) rfl 43 rfl
        obtain ⟨q0, c0', p0, c0, e1, hq1, hq2⟩ := i43
        exact plain_wp (by intro c h; cases h) (fun _ _ => trivial) (by simp only [execOp, e1]; simp [go_sem]) ⟨_, rfl, ⟨q0, c0', p0, c0, rfl, hq1, hq2⟩, Bl.refl _⟩
      · simp only [List.getElem?_toArray, List.getElem?_cons_zero, List.getElem?_cons_succ, Option.some.injEq] at ho
        subst ho
        obtain rfl := Option.some.inj hdt
        have i38 : ∃ q c p' c', (act.eval (.tmp (38 : Nat))) = .tuple #[sJ q (m) c (m : Nat) (m : Nat) p' (N) c', .bool true] ∧ Rw 4 cellsN u (.slice q (m) c) (linJ (m) (fun i => wholeN (X.getD i 0))) ∧ Mx 4 cellsN u (m) (m) p' (N) c' (clrN (fun i k => wholeN (ofL m Ro i k))) := hin ⟨5, .data⟩ (by simp) rfl 38 rfl
        obtain ⟨q0, c0', p0, c0, e1, hq1, hq2⟩ := i38
        exact plain_wp (by intro c h; cases h) (fun _ _ => trivial) (by simp only [execOp, e1]; simp [go_sem]) ⟨_, rfl, ⟨q0, c0', p0, c0, rfl, hq1, hq2⟩, Bl.refl _⟩
      · cases hpu
      · simp only [List.getElem?_toArray, List.getElem?_cons_zero, List.getElem?_cons_succ, Option.some.injEq] at ho
        subst ho
        obtain rfl := Option.some.inj hdt
        exact plain_wp (by intro c h; cases h) (fun _ _ => trivial) (w' := u.alloc (.cells #[.slice none 0 0, .int .i64 0, .int .i64 0, .slice none 0 0] 50)) (v := .pointer (some ⟨u.heap.size, 0, none⟩)) (by simp only [execOp]; simp [go_sem]) ⟨_, rfl, ⟨u.heap.size, rfl, hu.size, SBox.new u _ _ _ _ _ _ _ _ _, noB_newSN u _⟩, (Bl.refl _).alloc _⟩
      · simp only [List.getElem?_toArray, List.getElem?_cons_zero, List.getElem?_cons_succ, Option.some.injEq] at ho
        subst ho
        cases hdt
      · cases hpu
    case still =>
      intro j o t act u0 u ho hdt hpu hsz hu hfr hin
      have hj : j < 11 := (Array.getElem?_eq_some_iff.1 ho).1
      obtain ⟨c0, c1, c2, c3, c4, c5, c6, c7⟩ := HC.out _ (b3w.trans hu)
      obtain ⟨y0, y1, y2, _, _, _, _⟩ := k2.later (b23.trans hu)
      rcases (by omega : j = 0 ∨ j = 1 ∨ j = 2 ∨ j = 3 ∨ j = 4 ∨ j = 5 ∨ j = 6 ∨ j = 7 ∨ j = 8 ∨ j = 9 ∨ j = 10) with rfl | rfl | rfl | rfl | rfl | rfl | rfl | rfl | rfl | rfl | rfl
      · cases hpu
      · cases hpu
      · cases hpu
      · cases hpu
      · cases hpu
      · cases hpu
      · cases hpu
      · simp only [List.getElem?_toArray, List.getElem?_cons_zero, List.getElem?_cons_succ, Option.some.injEq] at ho
        subst ho
        obtain rfl := Option.some.inj hdt
        have i38 : ∃ q c p' c', (act.eval (.tmp (38 : Nat))) = .tuple #[sJ q (m) c (m : Nat) (m : Nat) p' (N) c', .bool true] ∧ Rw 4 cellsN u0 (.slice q (m) c) (linJ (m) (fun i => wholeN (X.getD i 0))) ∧ Mx 4 cellsN u0 (m) (m) p' (N) c' (clrN (fun i k => wholeN (ofL m Ro i k))) := hin ⟨5, .data⟩ (by simp) rfl 38 rfl
        obtain ⟨q0, c0', p0, c0, e1, hq1, hq2⟩ := i38
        exact plain_wp (by intro c h; cases h) (fun _ _ => trivial) (by simp only [execOp, e1]; simp [go_sem]) ⟨_, rfl, rfl, rfl⟩
      · cases hpu
      · cases hpu
      · simp only [List.getElem?_toArray, List.getElem?_cons_zero, List.getElem?_cons_succ, Option.some.injEq] at ho
        subst ho
        obtain rfl := Option.some.inj hdt
        have i45 : (act.eval (.tmp (45 : Nat))) = .bool true := hin ⟨7, .data⟩ (by simp) rfl 45 rfl
        exact plain_wp (by intro c h; cases h) (fun _ _ => trivial) (by simp only [execOp, i45, evalC, evalF, evalG]; simp [go_sem]) ⟨_, rfl, rfl, rfl⟩
    case store =>
      intro o act u vs ho hsz hu hfr hin
      simp only [List.getElem?_toArray, List.getElem?_cons_zero, List.getElem?_cons_succ, Option.some.injEq] at ho
      subst ho
      obtain ⟨i6, k6⟩ : act.eval (.tmp (6 : Nat)) = vs 8 ∧ (∃ b, (vs 8) = .pointer (some ⟨b, 0, none⟩) ∧ W3.heap.size ≤ b ∧ SBox u b none 0 0 0 0 none 0 0 ∧ NoB u b) := hin 8 6 rfl rfl
      obtain ⟨i44, k44⟩ : act.eval (.tmp (44 : Nat)) = vs 6 ∧ (∃ q c p' c', (vs 6) = sJ q (m) c (m : Nat) (m : Nat) p' (N) c' ∧ Rw 4 cellsN u (.slice q (m) c) (linJ (m) (fun i => wholeN (X.getD i 0))) ∧ Mx 4 cellsN u (m) (m) p' (N) c' (clrN (fun i k => wholeN (ofL m Ro i k)))) := hin 6 44 rfl rfl
      obtain ⟨b, e1, hb, bx, nb⟩ := k6
      obtain ⟨q0, c0', p0, c0, e2, hq1, hq2⟩ := k44
      rw [e1] at i6
      rw [e2] at i44
      obtain ⟨d0, d1, d2, d3, g0, g1, g2, g3, ltb⟩ := id bx
      exact skip_wp (by intro c h; cases h) (fun _ _ => trivial) (by simp only [execOp, i6, i44]; simp [go_sem, d0, d1, d2, d3, g0, g1, g2, g3]) ⟨rfl, b, q0, c0', p0, c0, e1, hb, bx.fill _ _ _ _ _ _ _ _, hq1.but (but4N _ _ _ _ _ _) (fun g hg => noB_rwN hq1 (m1) nb g hg), Mx.but hq2 (but4N _ _ _ _ _ _) (fun g hg => Ne.symm (noB_mx boolN hq2 nb g hg)), Bl.put4 hu hb _ _ _ _⟩
    case fin =>
      intro vs vb u0 u hu hin hps
      have a0 := hin 0 39 rfl
      have a1 := hin 1 40 rfl
      have a2 := hin 2 41 rfl
      have a3 := hin 3 42 rfl
      have a4 := hin 4 43 rfl
      have a5 := hin 5 38 rfl
      have a6 := hin 6 44 rfl
      have a7 := hin 7 45 rfl
      have a8 := hin 8 6 rfl
      have a10 := hin 10 7 rfl
      simp only [putL, Act.put, List.setIfInBounds_toArray, List.set_cons_zero, List.set_cons_succ, Nat.zero_add, Nat.reduceAdd, Nat.reduceBEq, Bool.or_false, Bool.or_true, Bool.false_or, Bool.true_or, Bool.false_eq_true, if_false, if_true, reduceIte, Nat.reduceEqDiff, beq_self_eq_true, Bool.or_self] at a0 a1 a2 a3 a4 a5 a6 a7 a8 a10 ⊢
      rw [if_pos (by decide)] at hps
      simp only [a0, a1, a3, a7, a10]
      obtain ⟨b5, q5, cq5, p5, cc5, eb, hb, k5, hR, hM, hbu⟩ := hps
      simp only [eb]
      obtain ⟨w5, rfl⟩ : ∃ w5, w5 = u := ⟨_, rfl⟩
      have HR5 := hideP hR
      have HM5 := hideP hM
      have b35 : Bl W3 w5 := hbu
      have b5w : Bl W w5 := b3w.trans b35
      clear a2 a4 a5 a6 a8 hu hin hR hM
      go_wp2_with fail
      refine (wpIn_wide (n := 8)).1 (region_u (updN_ok (m) (N) (fun i => addE ((fun i => wholeN (X.getD i 0)) i) (mulE (divE ((runO kdN m (clrN (fun i k => wholeN (ofL m Ro i k))) (fun _ => wholeN 0) Rr m).e i) (runO kdN m (clrN (fun i k => wholeN (ofL m Ro i k))) (fun _ => wholeN 0) Rr m).a) (surpJ kdN m (fun i => wholeN (X.getD i 0)) (fun _ => wholeN 0) Zz))) ((runO kdN m (clrN (fun i k => wholeN (ofL m Ro i k))) (fun _ => wholeN 0) Rr m).s) (surpJ kdN m (fun i => wholeN (X.getD i 0)) (fun _ => wholeN 0) Zz) ((runO kdN m (clrN (fun i k => wholeN (ofL m Ro i k))) (fun _ => wholeN 0) Rr m).a)) fm [some 47, some 48, some 49, some 50, some 51, some 52, some 53, some 54, some 55, some 56, some 57, some 58, some 59, some 60, some 46, some 61, some 62, some 63, some 8, some 9, none, none, some 10] 13 (by kernel_rfl) (by rfl) 60 46 61 62 63 8 9 10 rfl
          (fun j v u => match j with | 0 => v = sJ q5 m cq5 m m p5 N cc5 | 1 => v = .pointer (some ⟨w.heap.size, 0, none⟩) | 2 => v = .int .i64 m | 3 => ∃ g, v = .slice (some ⟨g, 0, none⟩) m m ∧ Rq 1 cI u (.slice (some ⟨g, 0, none⟩) m m) (linJ m fun _ => (0 : Int)) | 4 => ∃ q c, v = .slice q m c ∧ Rw 4 cellsN u (.slice q m c) (linJ m (fun _ => wholeN 0)) | 5 => v = enV one | 6 => v = .pointer (some ⟨w.heap.size, 6, none⟩) | 7 => v = .int .i64 r | 8 => v = enV Rr | 9 => v = enV one | 10 => v = .pointer (some ⟨w.heap.size, 7, none⟩) | 11 => v = .int .i64 z | 12 => v = enV Zz | _ => False)
          (by
            intro j v u u' hb h
            split at h <;> first | exact h | (obtain ⟨q, c, e, h1⟩ := h; exact ⟨q, c, e, h1.later hb⟩) | (obtain ⟨g, e, h1⟩ := h; exact ⟨g, e, h1.later hb⟩)) ?step ?call ?mv ?x0 ?x1 ?x2 ?la ?lb ?sa ?sb ?asg ?fin)
      case step =>
        intro j o t act u hjk ho hdt hsz hu hfr hin
        obtain ⟨c0, c1, c2, c3, c4, c5, c6, c7⟩ := HC.out _ (b5w.trans hu)
        obtain ⟨s0, s1, s2, s3, _, _, _, _, _⟩ := k5.later hu
        obtain ⟨o0, o1, o2, o3, _, _, _, _, _⟩ := k3.later (b35.trans hu)
        rcases (by omega : j = 0 ∨ j = 1 ∨ j = 2 ∨ j = 3 ∨ j = 4 ∨ j = 5 ∨ j = 6 ∨ j = 7 ∨ j = 8 ∨ j = 9 ∨ j = 10 ∨ j = 11 ∨ j = 12) with rfl | rfl | rfl | rfl | rfl | rfl | rfl | rfl | rfl | rfl | rfl | rfl | rfl
        · simp only [List.getElem?_toArray, List.getElem?_cons_zero, List.getElem?_cons_succ, Option.some.injEq] at ho
          subst ho
          obtain rfl := Option.some.inj hdt
          have i6 : act.eval (.tmp (6 : Nat)) = .pointer (some ⟨b5, 0, none⟩) := hfr 6 (by decide)
          exact plain_wp (by intro c h; cases h) (fun _ _ => trivial) (by simp only [execOp, i6, evalC, evalF, evalG]; simp [go_sem, s0, s1, s2, s3]) ⟨_, rfl, rfl, Bl.refl _⟩
        · simp only [List.getElem?_toArray, List.getElem?_cons_zero, List.getElem?_cons_succ, Option.some.injEq] at ho
          subst ho
          obtain rfl := Option.some.inj hdt
          have i1 : act.eval (.tmp (1 : Nat)) = .pointer (some ⟨w.heap.size, 0, none⟩) := hfr 1 (by decide)
          exact plain_wp (by intro c h; cases h) (fun _ _ => trivial) (by simp only [execOp, i1, evalC, evalF, evalG]; simp [go_sem, c0]) ⟨_, rfl, rfl, Bl.refl _⟩
        · simp only [List.getElem?_toArray, List.getElem?_cons_zero, List.getElem?_cons_succ, Option.some.injEq] at ho
          subst ho
          obtain rfl := Option.some.inj hdt
          have i48 : (act.eval (.tmp (48 : Nat))) = .pointer (some ⟨w.heap.size, 0, none⟩) := hin ⟨1, .data⟩ (by simp) rfl 48 rfl
          exact plain_wp (by intro c h; cases h) (fun _ _ => trivial) (by simp only [execOp, i48, evalC, evalF, evalG]; simp [go_sem, c0]) ⟨_, rfl, rfl, Bl.refl _⟩
        · simp only [List.getElem?_toArray, List.getElem?_cons_zero, List.getElem?_cons_succ, Option.some.injEq] at ho
          subst ho
          obtain rfl := Option.some.inj hdt
          have i49 : (act.eval (.tmp (49 : Nat))) = .int .i64 m := hin ⟨2, .data⟩ (by simp) rfl 49 rfl
          obtain ⟨u', hr, hq, hb⟩ := make_zeroON m (by omega) u
          exact plain_wp (by intro c h; cases h) (fun _ _ => trivial) (w' := u') (v := .slice (some ⟨u.heap.size, 0, none⟩) m m) (by simp only [execOp, i49]; rw [Sem.run_bind, hr]; rfl) ⟨_, rfl, ⟨u.heap.size, rfl, hq⟩, hb⟩
        · simp only [List.getElem?_toArray, List.getElem?_cons_zero, List.getElem?_cons_succ, Option.some.injEq] at ho
          subst ho
          obtain rfl := Option.some.inj hdt
          have i50 : ∃ g, (act.eval (.tmp (50 : Nat))) = .slice (some ⟨g, 0, none⟩) m m ∧ Rq 1 cI u (.slice (some ⟨g, 0, none⟩) m m) (linJ m fun _ => (0 : Int)) := hin ⟨3, .data⟩ (by simp) rfl 50 rfl
          obtain ⟨g0, e0, hg⟩ := i50
          refine enter_wp 35 #[.slice (some ⟨g0, 0, none⟩) m m] (by intro c h; cases h) (fun _ _ => trivial) (by simp only [execOp, evalC, evalF, evalG, resolve, e0, List.map_toArray, List.map_cons, List.map_nil]; simp [invoke, egW, Result.andThen, go_sem]) (by intro h; cases h) (callsIn_wide.2 (whole_linON _ m m (fun _ => (0 : Int)) u hg (by omega))) ?_
          rintro e w' ⟨q, c, rfl, hR, _, hb⟩
          exact ⟨_, rfl, _, rfl, ⟨q, c, rfl, hR⟩, hb⟩
        · simp only [List.getElem?_toArray, List.getElem?_cons_zero, List.getElem?_cons_succ, Option.some.injEq] at ho
          subst ho
          obtain rfl := Option.some.inj hdt
          have i5 : act.eval (.tmp (5 : Nat)) = .pointer (some ⟨w3.heap.size, 0, none⟩) := hfr 5 (by decide)
          exact plain_wp (by intro c h; cases h) (fun _ _ => trivial) (by simp only [execOp, i5, evalC, evalF, evalG]; simp [go_sem, o0, o1, o2, o3]) ⟨_, rfl, rfl, Bl.refl _⟩
        · simp only [List.getElem?_toArray, List.getElem?_cons_zero, List.getElem?_cons_succ, Option.some.injEq] at ho
          subst ho
          obtain rfl := Option.some.inj hdt
          have i1 : act.eval (.tmp (1 : Nat)) = .pointer (some ⟨w.heap.size, 0, none⟩) := hfr 1 (by decide)
          exact plain_wp (by intro c h; cases h) (fun _ _ => trivial) (by simp only [execOp, i1, evalC, evalF, evalG]; simp [go_sem, c6]) ⟨_, rfl, rfl, Bl.refl _⟩
        · simp only [List.getElem?_toArray, List.getElem?_cons_zero, List.getElem?_cons_succ, Option.some.injEq] at ho
          subst ho
          obtain rfl := Option.some.inj hdt
          have i53 : (act.eval (.tmp (53 : Nat))) = .pointer (some ⟨w.heap.size, 6, none⟩) := hin ⟨6, .data⟩ (by simp) rfl 53 rfl
          exact plain_wp (by intro c h; cases h) (fun _ _ => trivial) (by simp only [execOp, i53, evalC, evalF, evalG]; simp [go_sem, c6]) ⟨_, rfl, rfl, Bl.refl _⟩
        · simp only [List.getElem?_toArray, List.getElem?_cons_zero, List.getElem?_cons_succ, Option.some.injEq] at ho
          subst ho
          obtain rfl := Option.some.inj hdt
          have i52 : (act.eval (.tmp (52 : Nat))) = enV one := hin ⟨5, .data⟩ (by simp) rfl 52 rfl
          have i54 : (act.eval (.tmp (54 : Nat))) = .int .i64 r := hin ⟨7, .data⟩ (by simp) rfl 54 rfl
          refine enter_wp 37 #[enV one, .int .i64 r] (by intro c h; cases h) (fun _ _ => trivial) (by simp only [execOp, evalC, evalF, evalG, resolve, i52, i54, List.map_toArray, List.map_cons, List.map_nil]; simp [invoke, egO, Result.andThen, go_sem]) (by intro h; cases h) (callsIn_wide.2 (ofE_any one r u)) ?_
          rintro e w' ⟨rfl, hb⟩
          exact ⟨_, rfl, _, rfl, show enV (ptE (foN r) (foB r)) = enV Rr from by rw [HRr.out], hb⟩
        · simp only [List.getElem?_toArray, List.getElem?_cons_zero, List.getElem?_cons_succ, Option.some.injEq] at ho
          subst ho
          obtain rfl := Option.some.inj hdt
          have i5 : act.eval (.tmp (5 : Nat)) = .pointer (some ⟨w3.heap.size, 0, none⟩) := hfr 5 (by decide)
          exact plain_wp (by intro c h; cases h) (fun _ _ => trivial) (by simp only [execOp, i5, evalC, evalF, evalG]; simp [go_sem, o0, o1, o2, o3]) ⟨_, rfl, rfl, Bl.refl _⟩
        · simp only [List.getElem?_toArray, List.getElem?_cons_zero, List.getElem?_cons_succ, Option.some.injEq] at ho
          subst ho
          obtain rfl := Option.some.inj hdt
          have i1 : act.eval (.tmp (1 : Nat)) = .pointer (some ⟨w.heap.size, 0, none⟩) := hfr 1 (by decide)
          exact plain_wp (by intro c h; cases h) (fun _ _ => trivial) (by simp only [execOp, i1, evalC, evalF, evalG]; simp [go_sem, c7]) ⟨_, rfl, rfl, Bl.refl _⟩
        · simp only [List.getElem?_toArray, List.getElem?_cons_zero, List.getElem?_cons_succ, Option.some.injEq] at ho
          subst ho
          obtain rfl := Option.some.inj hdt
          have i57 : (act.eval (.tmp (57 : Nat))) = .pointer (some ⟨w.heap.size, 7, none⟩) := hin ⟨10, .data⟩ (by simp) rfl 57 rfl
          exact plain_wp (by intro c h; cases h) (fun _ _ => trivial) (by simp only [execOp, i57, evalC, evalF, evalG]; simp [go_sem, c7]) ⟨_, rfl, rfl, Bl.refl _⟩
        · simp only [List.getElem?_toArray, List.getElem?_cons_zero, List.getElem?_cons_succ, Option.some.injEq] at ho
          subst ho
          obtain rfl := Option.some.inj hdt
          have i56 : (act.eval (.tmp (56 : Nat))) = enV one := hin ⟨9, .data⟩ (by simp) rfl 56 rfl
          have i58 : (act.eval (.tmp (58 : Nat))) = .int .i64 z := hin ⟨11, .data⟩ (by simp) rfl 58 rfl
          refine enter_wp 37 #[enV one, .int .i64 z] (by intro c h; cases h) (fun _ _ => trivial) (by simp only [execOp, evalC, evalF, evalG, resolve, i56, i58, List.map_toArray, List.map_cons, List.map_nil]; simp [invoke, egO, Result.andThen, go_sem]) (by intro h; cases h) (callsIn_wide.2 (ofE_any one z u)) ?_
          rintro e w' ⟨rfl, hb⟩
          exact ⟨_, rfl, _, rfl, show enV (ptE (foN z) (foB z)) = enV Zz from by rw [HZz.out], hb⟩
      case call =>
        intro o act u ho hsz hu hfr hin
        obtain ⟨c0, c1, c2, c3, c4, c5, c6, c7⟩ := HC.out _ (b5w.trans hu)
        obtain ⟨s0, s1, s2, s3, _, _, _, _, _⟩ := k5.later hu
        obtain ⟨o0, o1, o2, o3, _, _, _, _, _⟩ := k3.later (b35.trans hu)
        simp only [List.getElem?_toArray, List.getElem?_cons_zero, List.getElem?_cons_succ, Option.some.injEq, Nat.reduceAdd] at ho
        subst ho
        have i47 : (act.eval (.tmp (47 : Nat))) = sJ q5 m cq5 m m p5 N cc5 := hin ⟨0, .data⟩ (by simp) rfl 47 rfl
        have i51 : ∃ q c, (act.eval (.tmp (51 : Nat))) = .slice q m c ∧ Rw 4 cellsN u (.slice q m c) (linJ m (fun _ => wholeN 0)) := hin ⟨4, .data⟩ (by simp) rfl 51 rfl
        have i55 : (act.eval (.tmp (55 : Nat))) = enV Rr := hin ⟨8, .data⟩ (by simp) rfl 55 rfl
        have i59 : (act.eval (.tmp (59 : Nat))) = enV Zz := hin ⟨12, .data⟩ (by simp) rfl 59 rfl
        obtain ⟨q0, cc0, e0, hq⟩ := i51
        refine enter_wp 36 #[sJ q5 m cq5 m m p5 N cc5, .slice q0 m cc0, enV Rr, enV Zz] (by intro c h; cases h) (fun _ _ => trivial) (by simp only [execOp, evalC, evalF, evalG, resolve, i47, e0, i55, i59, List.map_toArray, List.map_cons, List.map_nil]; simp [invoke, egU, Result.andThen, go_sem]) (by intro h; cases h) (callsIn_wide.2 (rUpdateN m N q5 cq5 (fun i => wholeN (X.getD i 0)) p5 cc5 (clrN (fun i k => wholeN (ofL m Ro i k))) q0 cc0 (fun _ => wholeN 0) Rr Zz u (HR5.out.later hu).q (HM5.out.later hu) hq.q hm4)) ?_
        rintro e w' ⟨q, c, p', c', rfl, ⟨hR, hM, hF1, hF2⟩, hb⟩
        exact ⟨_, rfl, (q, c, p', c'), rfl, ⟨hR, hM⟩, hb, fun b hb' _ => ⟨fun g hg => by have := hF1 g hg; omega, fun g hg => by have := hF2 g hg; omega⟩⟩
      case mv =>
        intro o act u x ho hx
        simp only [List.getElem?_toArray, List.getElem?_cons_zero, List.getElem?_cons_succ, Option.some.injEq, Nat.reduceAdd] at ho
        subst ho
        exact plain_wp (by intro c h; cases h) (fun _ _ => trivial) (by simp only [execOp, hx]; simp [go_sem]) ⟨rfl, rfl⟩
      case x0 =>
        intro o act u x y z ho hx
        simp only [List.getElem?_toArray, List.getElem?_cons_zero, List.getElem?_cons_succ, Option.some.injEq, Nat.reduceAdd] at ho
        subst ho
        exact plain_wp (by intro c h; cases h) (fun _ _ => trivial) (by simp only [execOp, hx]; simp [go_sem]) ⟨rfl, rfl⟩
      case x1 =>
        intro o act u x y z ho hx
        simp only [List.getElem?_toArray, List.getElem?_cons_zero, List.getElem?_cons_succ, Option.some.injEq, Nat.reduceAdd] at ho
        subst ho
        exact plain_wp (by intro c h; cases h) (fun _ _ => trivial) (by simp only [execOp, hx]; simp [go_sem]) ⟨rfl, rfl⟩
      case x2 =>
        intro o act u x y z ho hx
        simp only [List.getElem?_toArray, List.getElem?_cons_zero, List.getElem?_cons_succ, Option.some.injEq, Nat.reduceAdd] at ho
        subst ho
        exact plain_wp (by intro c h; cases h) (fun _ _ => trivial) (by simp only [execOp, hx]; simp [go_sem]) ⟨rfl, rfl⟩
      case la =>
        intro o act u ho
        simp only [List.getElem?_toArray, List.getElem?_cons_zero, List.getElem?_cons_succ, Option.some.injEq, Nat.reduceAdd] at ho
        subst ho
        exact plain_wp (by intro c h; cases h) (fun _ _ => trivial) (w' := u.alloc (.cells #[.slice none 0 0, .int .i64 0, .int .i64 0, .slice none 0 0] 50)) (v := .pointer (some ⟨u.heap.size, 0, none⟩)) (by simp only [execOp]; simp [go_sem]) ⟨rfl, SBox.new u _ _ _ _ _ _ _ _ _, (Bl.refl _).alloc _, by simp⟩
      case lb =>
        intro o act u ho
        simp only [List.getElem?_toArray, List.getElem?_cons_zero, List.getElem?_cons_succ, Option.some.injEq, Nat.reduceAdd] at ho
        subst ho
        exact plain_wp (by intro c h; cases h) (fun _ _ => trivial) (w' := u.alloc (.cells #[.int .i64 0, .int .i64 0, .int .i64 0, .bool false, .int .i64 0, .int .i64 0, .int .i64 0, .bool false] 54)) (v := .pointer (some ⟨u.heap.size, 0, none⟩)) (by simp only [execOp]; simp [go_sem]) ⟨rfl, NBoxN.new u zeroE zeroE _, (Bl.refl _).alloc _, by simp⟩
      case sa =>
        intro o act u D b ho hA h0 hz hdat hoff hbl hb
        simp only [List.getElem?_toArray, List.getElem?_cons_zero, List.getElem?_cons_succ, Option.some.injEq, Nat.reduceAdd] at ho
        subst ho
        obtain ⟨q0, c0, p0, c1⟩ := D
        replace h0 : act.eval (.tmp 61) = sJ q0 (m) c0 (m) (m) p0 (N) c1 := h0
        obtain ⟨d0, d1, d2, d3, g0, g1, g2, g3, lt⟩ := (show SBox u b none 0 0 0 0 none 0 0 from hz)
        exact skip_wp (by intro c h; cases h) (fun _ _ => trivial) (by simp only [execOp, hA, h0]; simp [go_sem, d0, d1, d2, d3, g0, g1, g2, g3]) ⟨rfl, SBox.fill (show SBox u b none 0 0 0 0 none 0 0 from hz) _ _ _ _ _ _ _ _, ⟨hdat.1.but (but4N _ _ _ _ _ _) (fun g hg => hoff.1 g hg), hdat.2.but (but4N _ _ _ _ _ _) (fun g hg => hoff.2 g hg)⟩, Bl.put4 hbl hb _ _ _ _, fun b' h' => heap4N _ h' _ _ _ _, by simp⟩
      case sb =>
        intro o act u D b ho hA h0 hz hdat hoff hbl hb
        simp only [List.getElem?_toArray, List.getElem?_cons_zero, List.getElem?_cons_succ, Option.some.injEq, Nat.reduceAdd] at ho
        subst ho
        obtain ⟨q0, c0, p0, c1⟩ := D
        replace h0 : act.eval (.tmp 62) = newsVN (surpJ kdN m (fun i => wholeN (X.getD i 0)) (fun _ => wholeN 0) Zz) ((runO kdN m (clrN (fun i k => wholeN (ofL m Ro i k))) (fun _ => wholeN 0) Rr m).a) := h0
        obtain ⟨d0, d1, d2, d3, d4, d5, d6, d7, g0, g1, g2, g3, g4, g5, g6, g7, lt⟩ := (show NBoxN u b zeroE zeroE from hz)
        exact skip_wp (by intro c h; cases h) (fun _ _ => trivial) (by simp only [execOp, hA, h0]; simp [go_sem, d0, d1, d2, d3, d4, d5, d6, d7, g0, g1, g2, g3, g4, g5, g6, g7]) ⟨rfl, NBoxN.fill (show NBoxN u b zeroE zeroE from hz) _ _, ⟨hdat.1.but (butNN _ _ _ _) (fun g hg => hoff.1 g hg), hdat.2.but (butNN _ _ _ _) (fun g hg => hoff.2 g hg)⟩, blNN b hbl hb _ _, fun b' h' => heapNN _ h' _ _, by simp⟩
      case asg =>
        intro o act u x ho hx
        simp only [List.getElem?_toArray, List.getElem?_cons_zero, List.getElem?_cons_succ, Option.some.injEq, Nat.reduceAdd] at ho
        subst ho
        exact plain_wp (by intro c h; cases h) (fun _ _ => trivial) (by simp only [execOp, hx]; simp [go_sem]) ⟨rfl, rfl⟩
      case fin =>
        intro vs u D b8 n8' hu e9' e5' e6' hb1 hb2 hsa hsb hdat
        simp only [putL, Act.put, List.setIfInBounds_toArray, List.set_cons_zero, List.set_cons_succ, Nat.zero_add, Nat.reduceAdd] at e9' e5' e6' ⊢
        replace e9' := Eq.trans e9' (show _ = Value.bool true from rfl)
        simp only [e9', e5', e6']
        obtain ⟨q8, cq8, p8, c8⟩ := D
        obtain ⟨w8, rfl⟩ : ∃ w8, w8 = u := ⟨_, rfl⟩
        have k8 : SBox w8 b8 q8 m cq8 m m p8 N c8 := hsa
        have n8 : NBoxN w8 n8' (surpJ kdN m (fun i => wholeN (X.getD i 0)) (fun _ => wholeN 0) Zz) ((runO kdN m (clrN (fun i k => wholeN (ofL m Ro i k))) (fun _ => wholeN 0) Rr m).a) := hsb
        have HD8 : Rw 4 cellsN w8 (.slice q8 m cq8) (linJ m (fun i => addE ((fun i => wholeN (X.getD i 0)) i) (mulE (divE ((runO kdN m (clrN (fun i k => wholeN (ofL m Ro i k))) (fun _ => wholeN 0) Rr m).e i) (runO kdN m (clrN (fun i k => wholeN (ofL m Ro i k))) (fun _ => wholeN 0) Rr m).a) (surpJ kdN m (fun i => wholeN (X.getD i 0)) (fun _ => wholeN 0) Zz)))) ∧ Mx 4 cellsN w8 m m p8 N c8 ((runO kdN m (clrN (fun i k => wholeN (ofL m Ro i k))) (fun _ => wholeN 0) Rr m).s) := hdat
        have E1 := HSO.out.surp
        have E2 := HSO.out.a
        rw [← HZi.out] at E1
        rw [← HRi.out] at E2
        rw [E1, E2] at n8
        have HX8 : Rw 4 cellsN w8 (.slice q8 m cq8) (linJ m (fun i => wholeN (X.getD i 0))) := by
          have := HD8.1
          rw [show linJ m (fun i => addE ((fun i => wholeN (X.getD i 0)) i) (mulE (divE ((runO kdN m (clrN (fun i k => wholeN (ofL m Ro i k))) (fun _ => wholeN 0) Rr m).e i) (runO kdN m (clrN (fun i k => wholeN (ofL m Ro i k))) (fun _ => wholeN 0) Rr m).a) (surpJ kdN m (fun i => wholeN (X.getD i 0)) (fun _ => wholeN 0) Zz))) = linJ m (fun i => wholeN (X.getD i 0)) from by
            unfold linJ
            exact List.map_congr_left fun i hi => by have := HSO.out.x i (by simpa using hi); rw [← HRi.out, ← HZi.out] at this; exact this] at this
          exact this
        have HM8 : Rq 4 cellsN w8 (.slice p8 N c8) (mk m m (clrN (fun i k => wholeN (ofL m Ro i k)))) := by
          have := HD8.2.2.2
          rw [show mk m m ((runO kdN m (clrN (fun i k => wholeN (ofL m Ro i k))) (fun _ => wholeN 0) Rr m).s) = mk m m (clrN (fun i k => wholeN (ofL m Ro i k))) from mk_congr fun i k hi hk => by have := HSO.out.s i k hi hk; rw [← HRi.out] at this; exact this] at this
          exact this
        have b58 : Bl w5 w8 := hu
        have b38 : Bl W3 w8 := b35.trans hu
        have b8w : Bl W w8 := b3w.trans b38
        have B8 : Bl w w8 := b0.trans b8w
        clear hsa hsb hdat HD8 E1 E2
        obtain ⟨gM5, oM5, hgM5, hlM, CM5⟩ := rq_cellsL (HM5.out.later b58).2.2 (by omega)
        obtain ⟨gM8, oM8, hgM8, _, CM8⟩ := rq_cellsL HM8 (by omega)
        obtain ⟨gX5, oX5, hgX5, hlX, CX5⟩ := rq_cellsL (HR5.out.later b58).q (by omega)
        obtain ⟨gX8, oX8, hgX8, _, CX8⟩ := rq_cellsL HX8.q (by omega)
        have HGM5 := hideP hgM5
        have HGM8 := hideP hgM8
        have HGX5 := hideP hgX5
        have HGX8 := hideP hgX8
        have HCM5 := hideP CM5
        have HCM8 := hideP CM8
        have HCX5 := hideP CX5
        have HCX8 := hideP CX8
        have HLM5 := hideP hlM
        have HLX5 := hideP hlX
        clear hgM5 hgM8 hgX5 hgX8 hlM hlX CM5 CM8 CX5 CX8 HX8 HM8
        obtain ⟨s0, s1, s2, s3, _, _, _, _, _⟩ := k5.later b58
        obtain ⟨v0, v1, v2, v3, _, _, _, _, _⟩ := id k8
        obtain ⟨c0, c1, c2, c3, c4, c5, c6, c7⟩ := HC.out w8 (b8w)
        go_wp2_with fail
        clear s0 s1 s2 s3 v0 v1 v2 v3 c0 c1 c2 c3 c4 c5 c6 c7
        go_loopw [93] (fun v wr => ∃ tt : Nat, v = .int .i64 tt ∧ tt ≤ N ∧ Bl w8 wr) (fun v _ => N - (intOf v).toNat)
        case atStart => exact ⟨0, rfl, Nat.zero_le _, Bl.refl _⟩
        case round =>
          obtain ⟨tt, rfl, ht, bl⟩ := hrel
          by_cases hlt2 : tt < N
          · obtain ⟨x, hx⟩ : ∃ x, (mk m m (clrN (fun i k => wholeN (ofL m Ro i k))))[tt]? = some x := ⟨_, List.getElem?_eq_getElem (by rw [HLM5.out]; exact hlt2)⟩
            have CS := fun (z : Wl wr) => HCM5.out z.w ((bl.trans z.bl)) tt x hx
            have CT := fun (z : Wl wr) => HCM8.out z.w ((bl.trans z.bl)) tt x hx
            clear hx
            have x0 := fun z => (CS z).1
            have x1 := fun z => (CS z).2.1
            have x2 := fun z => (CS z).2.2.1
            have x3 := fun z => (CS z).2.2.2
            have y0 := fun z => (CT z).1
            have y1 := fun z => (CT z).2.1
            have y2 := fun z => (CT z).2.2.1
            have y3 := fun z => (CT z).2.2.2
            have s0 := fun z : Wl wr => (k5.later ((b58.trans bl).trans z.bl)).c3
            have t0 := fun z : Wl wr => (k8.later (bl.trans z.bl)).c3
            rw [HGM5.out] at s0
            rw [HGM8.out] at t0
            have nx := neq_nn x
            obtain ⟨xv, xl, xh, xb⟩ := x
            have wne := wl_ne wr
            clear CS CT
            dsimp only at x0 x1 x2 x3 y0 y1 y2 y3
            go_wp2_with fail
            refine wl_region wr (Bl.refl _) (by kernel_rfl) (by kernel_rfl) ?_
            repeat (go_big_quiet_step (first | fail))
            refine wpQuiet_nil ?_
            intro _ hw'
            obtain ⟨z, hw''⟩ := hw'
            subst hw''
            clear wne x0 x1 x2 x3 y0 y1 y2 y3 s0 t0
            obtain ⟨wz, hz⟩ := z
            dsimp only
            go_wp2
            go_roundw
            case rel => exact ⟨tt + 1, by simp, hlt2, bl.trans hz⟩
            case measure => simp [intOf]; omega
          · obtain rfl : tt = N := by omega
            have bw1 : Bl w8 wr := bl
            obtain ⟨w9, rfl⟩ : ∃ w9, w9 = wr := ⟨_, rfl⟩
            obtain ⟨s0, s1, s2, s3, _, _, _, _, _⟩ := k5.later (b58.trans bw1)
            clear ht hlt2 bl
            go_wp2_with fail
            clear s0 s1 s2 s3
            go_loopw [113] (fun v wr => ∃ tt : Nat, v = .int .i64 tt ∧ tt ≤ m ∧ Bl w9 wr) (fun v _ => m - (intOf v).toNat)
            case atStart => exact ⟨0, rfl, Nat.zero_le _, Bl.refl _⟩
            case round =>
              obtain ⟨tt, rfl, ht, bl⟩ := hrel
              by_cases hlt2 : tt < m
              · obtain ⟨x, hx⟩ : ∃ x, (linJ m (fun i => wholeN (X.getD i 0)))[tt]? = some x := ⟨_, List.getElem?_eq_getElem (by rw [HLX5.out]; exact hlt2)⟩
                have CS := fun (z : Wl wr) => HCX5.out z.w (bw1.trans (bl.trans z.bl)) tt x hx
                have CT := fun (z : Wl wr) => HCX8.out z.w (bw1.trans (bl.trans z.bl)) tt x hx
                clear hx
                have x0 := fun z => (CS z).1
                have x1 := fun z => (CS z).2.1
                have x2 := fun z => (CS z).2.2.1
                have x3 := fun z => (CS z).2.2.2
                have y0 := fun z => (CT z).1
                have y1 := fun z => (CT z).2.1
                have y2 := fun z => (CT z).2.2.1
                have y3 := fun z => (CT z).2.2.2
                have s0 := fun z : Wl wr => (k5.later ((b58.trans (bw1.trans bl)).trans z.bl)).c0
                have t0 := fun z : Wl wr => (k8.later ((bw1.trans bl).trans z.bl)).c0
                rw [HGX5.out] at s0
                rw [HGX8.out] at t0
                have nx := neq_nn x
                obtain ⟨xv, xl, xh, xb⟩ := x
                have wne := wl_ne wr
                clear CS CT
                dsimp only at x0 x1 x2 x3 y0 y1 y2 y3
                go_wp2_with fail
                refine wl_region wr (Bl.refl _) (by kernel_rfl) (by kernel_rfl) ?_
                repeat (go_big_quiet_step (first | fail))
                refine wpQuiet_nil ?_
                intro _ hw'
                obtain ⟨z, hw''⟩ := hw'
                subst hw''
                clear wne x0 x1 x2 x3 y0 y1 y2 y3 s0 t0
                obtain ⟨wz, hz⟩ := z
                dsimp only
                go_wp2
                go_roundw
                case rel => exact ⟨tt + 1, by simp, hlt2, bl.trans hz⟩
                case measure => simp [intOf]; omega
              · obtain rfl : tt = m := by omega
                have AW' := hideP (fun zw : Wl wr => AW.out zw.w)
                have OF := hideP (fun a x (zw : Wl wr) => ofE_any a x zw.w)
                have HRo := HRr.out
                have HZo := HZz.out
                have cc6 := fun z : Wl wr => (HC.out z.w (b8w.trans ((bw1.trans bl).trans z.bl))).2.2.2.2.2.2.1
                have cc7 := fun z : Wl wr => (HC.out z.w (b8w.trans ((bw1.trans bl).trans z.bl))).2.2.2.2.2.2.2
                have m0 := fun z : Wl wr => (n8.later ((bw1.trans bl).trans z.bl)).c0
                have m1' := fun z : Wl wr => (n8.later ((bw1.trans bl).trans z.bl)).c1
                have m2 := fun z : Wl wr => (n8.later ((bw1.trans bl).trans z.bl)).c2
                have m3' := fun z : Wl wr => (n8.later ((bw1.trans bl).trans z.bl)).c3
                have m4 := fun z : Wl wr => (n8.later ((bw1.trans bl).trans z.bl)).c4
                have m5 := fun z : Wl wr => (n8.later ((bw1.trans bl).trans z.bl)).c5
                have m6 := fun z : Wl wr => (n8.later ((bw1.trans bl).trans z.bl)).c6
                have m7 := fun z : Wl wr => (n8.later ((bw1.trans bl).trans z.bl)).c7
                have o0 := fun z : Wl wr => (k3.later ((b38.trans (bw1.trans bl)).trans z.bl)).c0
                have o1 := fun z : Wl wr => (k3.later ((b38.trans (bw1.trans bl)).trans z.bl)).c1
                have o2 := fun z : Wl wr => (k3.later ((b38.trans (bw1.trans bl)).trans z.bl)).c2
                have o3 := fun z : Wl wr => (k3.later ((b38.trans (bw1.trans bl)).trans z.bl)).c3
                have sr := eql_nn Rr
                have sz := eql_nn Zz
                have OR := hideP (fun (zw : Wl wr) => by have := ofE_any one r zw.w; rw [HRo] at this; exact this)
                have OZ := hideP (fun (zw : Wl wr) => by have := ofE_any one z zw.w; rw [HZo] at this; exact this)
                obtain ⟨rv, rl, rh, rb⟩ := Rr
                obtain ⟨zv, zl, zh, zb⟩ := Zz
                obtain ⟨ov, ol, oh, ob⟩ := one
                dsimp only at m0 m1' m2 m3' m4 m5 m6 m7 o0 o1 o2 o3
                have wne := wl_ne wr
                clear HRo HZo OF
                go_wp2_with fail
                refine wl_region wr (Bl.refl _) (by kernel_rfl) (by kernel_rfl) ?_
                repeat (go_big_quiet_step (first | (go_at_call 37; first | exact wl_call (OR.out _) | exact wl_call (OZ.out _)) | (go_at_call 10; exact wl_call (AW'.out _))))
                refine wpQuiet_nil ?_
                intro _ hw'
                obtain ⟨z, hw''⟩ := hw'
                subst hw''
                clear wne cc6 cc7 m0 m1' m2 m3' m4 m5 m6 m7 o0 o1 o2 o3
                obtain ⟨wz, hz⟩ := z
                dsimp only
                go_wp2
                go_ret
                exact ⟨rfl, (B8.trans (bw1.trans bl)).trans hz⟩
end Go.Proofs.YtljmggemdkfbiaaGreat
