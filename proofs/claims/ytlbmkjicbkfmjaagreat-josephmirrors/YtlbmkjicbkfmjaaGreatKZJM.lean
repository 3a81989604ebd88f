/- Behind any step of the lane of whole covariances P is its own mirror, in enclosed numbers. Conditions: none (every input). -/
import Derived.Test.YtlbmkjicbkfmjaaGreatKC
import Derived.Test.YtlbmkjicbkfmjaaGreatKF
import Derived.Test.YtlbmkjicbkfmjaaGreatKG
import Derived.ProofKit
import Derived.OpenShut
import Derived.Carry
/- The walk of JosephMirrors. Written by genJm.py. -/
namespace Go.Proofs.YtlbmkjicbkfmjaaGreat
open Go.RowKit
set_option linter.unusedSimpArgs false
set_option linter.unusedVariables false

theorem Tryz.idx3_0 (q0 : Option Addr) (d0 : Nat) (q1 : Option Addr) (d1 : Nat) (q2 : Option Addr) (d2 m m' : Nat) (p0 : Option Addr) (N e0 : Nat) (p1 : Option Addr) (e1 : Nat) (p2 : Option Addr) (e2 : Nat) (w : World) : (Instr.index 58 (.agg #[.slice q0 m d0, .int .i64 m, .int .i64 m, .slice p0 N e0, .slice q1 m d1, .int .i64 m, .int .i64 m, .slice p1 N e1, .slice q2 m d2, .int .i64 m, .int .i64 m, .slice p2 N e2]) (.int .i64 0)).run Tryz.prog w = .ok (sJ q0 m d0 m m p0 N e0) w := by kernel_rfl
theorem Tryz.idx3_1 (q0 : Option Addr) (d0 : Nat) (q1 : Option Addr) (d1 : Nat) (q2 : Option Addr) (d2 m m' : Nat) (p0 : Option Addr) (N e0 : Nat) (p1 : Option Addr) (e1 : Nat) (p2 : Option Addr) (e2 : Nat) (w : World) : (Instr.index 58 (.agg #[.slice q0 m d0, .int .i64 m, .int .i64 m, .slice p0 N e0, .slice q1 m d1, .int .i64 m, .int .i64 m, .slice p1 N e1, .slice q2 m d2, .int .i64 m, .int .i64 m, .slice p2 N e2]) (.int .i64 1)).run Tryz.prog w = .ok (sJ q1 m d1 m m p1 N e1) w := by kernel_rfl
theorem Tryz.idx3_2 (q0 : Option Addr) (d0 : Nat) (q1 : Option Addr) (d1 : Nat) (q2 : Option Addr) (d2 m m' : Nat) (p0 : Option Addr) (N e0 : Nat) (p1 : Option Addr) (e1 : Nat) (p2 : Option Addr) (e2 : Nat) (w : World) : (Instr.index 58 (.agg #[.slice q0 m d0, .int .i64 m, .int .i64 m, .slice p0 N e0, .slice q1 m d1, .int .i64 m, .int .i64 m, .slice p1 N e1, .slice q2 m d2, .int .i64 m, .int .i64 m, .slice p2 N e2]) (.int .i64 2)).run Tryz.prog w = .ok (sJ q2 m d2 m m p2 N e2) w := by kernel_rfl
theorem pred_mir9 {α : Type} (K : Kd α) (n : Nat) (f p g : Nat → Nat → α) : ∃ q : Nat → Nat → α, predJ K n f p g = mirM q := ⟨fun i k => K.add (aroundJ K n f p i k) (squareJ K n g i k), rfl⟩
theorem up_mir9 {α : Type} (K : Kd α) (one : Nat → Nat → α) (n : Nat) (p : Nat → Nat → α) (h : Nat → α) (r : α) : ∃ q : Nat → Nat → α, upPJ K one n p h r = mirM q := ⟨fun i k => K.add (aroundJ K n (restJ K one (gainJ K n p h r) h) p i k) (outerJ K (fun i => K.mul (gainJ K n p h r i) r) (gainJ K n p h r) i k), rfl⟩
theorem idx9 {R j : Nat} (h : j < R * R) : ∃ i k, i < R ∧ k < R ∧ j = i * R + k := by
  have h0 : 0 < R := by
    rcases Nat.eq_zero_or_pos R with e | e
    · subst e; simp at h
    · exact e
  exact ⟨j / R, j % R, (Nat.div_lt_iff_lt_mul h0).2 h, Nat.mod_lt _ h0, by rw [Nat.mul_comm]; exact (Nat.div_add_mod j R).symm⟩
set_option maxRecDepth 100000 in
set_option maxHeartbeats 16000000 in
theorem walk_JosephMirrors (n r z : Int) (vx vr vf vg vh : Value) (X Ro Fm Gm H : List Int) (w : World) (hX : Rq 1 cI w vx X) (hR : Rq 1 cI w vr Ro) (hF : Rq 1 cI w vf Fm) (hG : Rq 1 cI w vg Gm) (hH : Rq 1 cI w vh H) :
    Calls Tryz.prog 5 #[.agg #[.int .i64 n, vx, vr, vf, vg, vh, .int .i64 r, .int .i64 z]] w fun e w' => e = .returned (.bool true) ∧ Bl w w' := by
  have fm : Tryz.prog.follows .mixedOrders = true := by kernel_rfl
  have egW := enters_of Tryz.func23 (by kernel_rfl) rfl
  have egN := enters_of Tryz.func22 (by kernel_rfl) rfl
  have egU := enters_of Tryz.func17 (by kernel_rfl) rfl
  have egP := enters_of Tryz.func24 (by kernel_rfl) rfl
  have egO := enters_of Tryz.func25 (by kernel_rfl) rfl
  have AW := hideP awake9_any
  obtain ⟨px, cx, rfl, _, _⟩ := hX.cut
  obtain ⟨pr, cr, rfl, _, _⟩ := hR.cut
  obtain ⟨pf, cf, rfl, _, _⟩ := hF.cut
  obtain ⟨pg, cg, rfl, _, _⟩ := hG.cut
  obtain ⟨ph, ch, rfl, _, _⟩ := hH.cut
  obtain ⟨lx, hlx⟩ : ∃ l, l = X.length := ⟨_, rfl⟩
  obtain ⟨lr, hlr⟩ : ∃ l, l = Ro.length := ⟨_, rfl⟩
  obtain ⟨lf, hlf⟩ : ∃ l, l = Fm.length := ⟨_, rfl⟩
  obtain ⟨lg, hlg⟩ : ∃ l, l = Gm.length := ⟨_, rfl⟩
  obtain ⟨lh, hlh⟩ : ∃ l, l = H.length := ⟨_, rfl⟩
  rw [← hlx] at hX
  rw [← hlr] at hR
  rw [← hlf] at hF
  rw [← hlg] at hG
  rw [← hlh] at hH
  rw [← hlx, ← hlr, ← hlf, ← hlg, ← hlh]
  obtain ⟨W, hW⟩ : ∃ W, W = w.alloc (.cells #[.int .i64 n, .slice px lx cx, .slice pr lr cr, .slice pf lf cf, .slice pg lg cg, .slice ph lh ch, .int .i64 r, .int .i64 z] 52) := ⟨_, rfl⟩
  have b0 : Bl w W := by rw [hW]; exact (Bl.refl _).alloc _
  have lt0 : w.heap.size < W.heap.size := by rw [hW]; simp
  have HC := hideP (show ∀ u, Bl W u → u.cell? ⟨w.heap.size, 0, none⟩ = some (.int .i64 n) ∧ u.cell? ⟨w.heap.size, 1, none⟩ = some (.slice px lx cx) ∧ u.cell? ⟨w.heap.size, 2, none⟩ = some (.slice pr lr cr) ∧ u.cell? ⟨w.heap.size, 3, none⟩ = some (.slice pf lf cf) ∧ u.cell? ⟨w.heap.size, 4, none⟩ = some (.slice pg lg cg) ∧ u.cell? ⟨w.heap.size, 5, none⟩ = some (.slice ph lh ch) ∧ u.cell? ⟨w.heap.size, 6, none⟩ = some (.int .i64 r) ∧ u.cell? ⟨w.heap.size, 7, none⟩ = some (.int .i64 z) from fun u hu => by
    refine ⟨?_, ?_, ?_, ?_, ?_, ?_, ?_, ?_⟩ <;> (rw [bl_cell hu _ _ lt0, hW]; simp [go_sem]))
  have FE := hideP (few9_any n r z px pr pf pg ph lx cx lr cr lf cf lg cg lh ch X Ro Fm Gm H W (hX.later b0) (hR.later b0) (hF.later b0) (hG.later b0) (hH.later b0) hlx.symm hlr.symm hlf.symm hlg.symm hlh.symm)
  have HW := hideP hW
  have HXR0 := hideP hX
  have HHR0 := hideP hH
  have HRR := hideP hR
  have HFR := hideP hF
  have HGR := hideP hG
  have hlx' := hideP hlx.symm
  have hlr' := hideP hlr.symm
  have hlf' := hideP hlf.symm
  have hlg' := hideP hlg.symm
  have hlh' := hideP hlh.symm
  clear hW hX hR hF hG hH hlx hlr hlf hlg hlh
  go_enter Tryz.func5, Tryz.ntmps5
  go_wp2_with fail
  rw [← HW.out]
  refine FE.out.mono ?_
  rintro e w1 ⟨b1, rfl, hb1, h1⟩
  clear FE
  cases b1 with
  | false =>
    go_wp2_with fail
    refine (AW.out _).mono ?_
    rintro e w99 ⟨rfl, h99⟩
    go_wp2
    go_ret
    exact ⟨rfl, (b0.trans h1).trans h99⟩
  | true =>
    obtain ⟨m, rfl, fw⟩ := hb1 rfl
    clear hb1
    obtain ⟨N, hN⟩ : ∃ N, N = m * m := ⟨_, rfl⟩
    obtain rfl : lx = m := by rw [← hlx'.out]; exact fw.x
    obtain ⟨m, rfl⟩ : ∃ m, m = lx := ⟨_, rfl⟩
    obtain rfl : lh = m := by rw [← hlh'.out]; exact fw.h
    obtain ⟨m, rfl⟩ : ∃ m, m = lh := ⟨_, rfl⟩
    obtain rfl : lr = N := by rw [← hlr'.out, hN]; exact fw.ro
    obtain ⟨N, rfl⟩ : ∃ N, N = lr := ⟨_, rfl⟩
    obtain rfl : lf = N := by rw [← hlf'.out, hN]; exact fw.f
    obtain ⟨N, rfl⟩ : ∃ N, N = lf := ⟨_, rfl⟩
    obtain rfl : lg = N := by rw [← hlg'.out, hN]; exact fw.g
    obtain ⟨N, rfl⟩ : ∃ N, N = lg := ⟨_, rfl⟩
    have m1 := fw.m1
    have m3 := fw.m3
    have hm4 : m ≤ 4 := by omega
    have hN9 : N ≤ 9 := by rw [hN]; exact Nat.mul_le_mul m3 m3
    have HNN := hideP hN
    have HD := hideP (dim_le4 m1 hm4)
    have HXR := hideP (show Rq 1 cI w (.slice px m cx) (linJ m fun i => X.getD i 0) from by rw [← linJ_of (n := m) 0 X hlx'.out]; exact HXR0.out)
    have HHR := hideP (show Rq 1 cI w (.slice ph m ch) (linJ m fun i => H.getD i 0) from by rw [← linJ_of (n := m) 0 H hlh'.out]; exact HHR0.out)
    have b1w : Bl W w1 := h1
    clear hN fw HXR0 HHR0
    obtain ⟨c0, c1, c2, c3, c4, c5, c6, c7⟩ := HC.out w1 (b1w)
    have WH := hideP (whole8N_call m m pr N cr Ro w1 (HRR.out.later (b0.trans (b1w))) HD.out HNN.out hlr'.out)
    go_wp2_with fail
    refine WH.out.mono ?_
    rintro e w3 ⟨p3, c3', rfl, hx, h3⟩
    obtain ⟨W3, hW3⟩ : ∃ W3, W3 = w3.alloc (.cells #[.int .i64 m, .int .i64 m, .slice p3 N c3'] 24) := ⟨_, rfl⟩
    have b3 : Bl w3 W3 := by rw [hW3]; exact (Bl.refl _).alloc _
    have k3 : MBox W3 w3.heap.size m m p3 N c3' := by rw [hW3]; exact MBox.new w3 _ _ _ _ _ _
    have HX3 := hideP (Mx.later hx b3)
    have b3p : Bl w1 W3 := h3.trans b3
    have HW3 := hideP hW3
    clear hW3 hx WH c0 c1 c2 c3 c4 c5 c6 c7
    obtain ⟨c0, c1, c2, c3, c4, c5, c6, c7⟩ := HC.out W3 (b1w.trans b3p)
    rw [HW3.out] at c0 c1 c2 c3 c4 c5 c6 c7
    have WH := hideP (whole8N_call m m pf N cf Fm W3 (HFR.out.later (b0.trans (b1w.trans b3p))) HD.out HNN.out hlf'.out)
    go_wp2_with fail
    rw [← HW3.out]
    refine WH.out.mono ?_
    rintro e w4 ⟨p4, c4', rfl, hx, h4⟩
    obtain ⟨W4, hW4⟩ : ∃ W4, W4 = w4.alloc (.cells #[.int .i64 m, .int .i64 m, .slice p4 N c4'] 24) := ⟨_, rfl⟩
    have b4 : Bl w4 W4 := by rw [hW4]; exact (Bl.refl _).alloc _
    have k4 : MBox W4 w4.heap.size m m p4 N c4' := by rw [hW4]; exact MBox.new w4 _ _ _ _ _ _
    have HX4 := hideP (Mx.later hx b4)
    have b4p : Bl W3 W4 := h4.trans b4
    have HW4 := hideP hW4
    clear hW4 hx WH c0 c1 c2 c3 c4 c5 c6 c7
    obtain ⟨c0, c1, c2, c3, c4, c5, c6, c7⟩ := HC.out W4 (b1w.trans (b3p.trans b4p))
    rw [HW4.out] at c0 c1 c2 c3 c4 c5 c6 c7
    have WH := hideP (whole8N_call m m pg N cg Gm W4 (HGR.out.later (b0.trans (b1w.trans (b3p.trans b4p)))) HD.out HNN.out hlg'.out)
    go_wp2_with fail
    rw [← HW4.out]
    refine WH.out.mono ?_
    rintro e w5 ⟨p5, c5', rfl, hx, h5⟩
    obtain ⟨W5, hW5⟩ : ∃ W5, W5 = w5.alloc (.cells #[.int .i64 m, .int .i64 m, .slice p5 N c5'] 24) := ⟨_, rfl⟩
    have b5 : Bl w5 W5 := by rw [hW5]; exact (Bl.refl _).alloc _
    have k5 : MBox W5 w5.heap.size m m p5 N c5' := by rw [hW5]; exact MBox.new w5 _ _ _ _ _ _
    have HX5 := hideP (Mx.later hx b5)
    have b5p : Bl W4 W5 := h5.trans b5
    have HW5 := hideP hW5
    clear hW5 hx WH c0 c1 c2 c3 c4 c5 c6 c7
    have b35 : Bl W3 W5 := b4p.trans b5p
    have b45 : Bl W4 W5 := b5p
    have b15 : Bl W W5 := b1w.trans (b3p.trans b35)
    have B5 : Bl w W5 := b0.trans b15
    obtain ⟨c0, c1, c2, c3, c4, c5, c6, c7⟩ := HC.out W5 b15
    rw [HW5.out] at c0 c1 c2 c3 c4 c5 c6 c7
    go_wp2_with fail
    rw [← HW5.out]
    clear c0 c1 c2 c3 c4 c5 c6 c7
    refine (wpIn_wide (n := 8)).1 (region_q fm [some 56, some 57, some 58, some 59, some 60, some 55, some 61, some 62, some 9, none, some 10] (fun j => j == 7 || j == 10) 9 (by kernel_rfl) (by rfl)
      (fun j v u => match j with | 0 => v = .pointer (some ⟨w.heap.size, 1, none⟩) | 1 => v = .slice px m cx | 2 => ∃ q c, v = .slice q m c ∧ Rw 4 cellsN u (.slice q m c) (linJ m (fun i => wholeN (X.getD i 0))) | 3 => v = mV m m p3 N c3' | 4 => ∃ q c p' c', v = .tuple #[sJ q (m) c (m : Nat) (m : Nat) p' (N) c', .bool true] ∧ Rw 4 cellsN u (.slice q (m) c) (linJ (m) (fun i => wholeN (X.getD i 0))) ∧ Mx 4 cellsN u (m) (m) p' (N) c' (squareJ kdN m (fun i k => wholeN (ofL m Ro i k))) | 5 => ∃ q c p' c', v = .tuple #[sJ q (m) c (m : Nat) (m : Nat) p' (N) c', .bool true] ∧ Rw 4 cellsN u (.slice q (m) c) (linJ (m) (fun i => wholeN (X.getD i 0))) ∧ Mx 4 cellsN u (m) (m) p' (N) c' (squareJ kdN m (fun i k => wholeN (ofL m Ro i k))) | 6 => ∃ q c p' c', v = sJ q (m) c (m : Nat) (m : Nat) p' (N) c' ∧ Rw 4 cellsN u (.slice q (m) c) (linJ (m) (fun i => wholeN (X.getD i 0))) ∧ Mx 4 cellsN u (m) (m) p' (N) c' (squareJ kdN m (fun i k => wholeN (ofL m Ro i k))) | 7 => v = .bool true | 8 => ∃ b, v = .pointer (some ⟨b, 0, none⟩) ∧ W5.heap.size ≤ b ∧ SBox u b none 0 0 0 0 none 0 0 ∧ NoB u b | 10 => v = .bool true | _ => False)
      (by
        intro j v u u' hb h
        split at h <;> first | exact h | (obtain ⟨b, e, h1, h2, h3⟩ := h; exact ⟨b, e, h1, h2.later hb, h3.later hb h2.lt⟩) | (obtain ⟨q, c, p', c', e, h1, h2⟩ := h; exact ⟨q, c, p', c', e, h1.later hb, Mx.later h2 hb⟩) | (obtain ⟨q, c, e, h1⟩ := h; exact ⟨q, c, e, h1.later hb⟩) | (obtain ⟨g, e, h1⟩ := h; exact ⟨g, e, h1.later hb⟩)) (fun vs u0 u => ∃ b q c p' c', vs 8 = .pointer (some ⟨b, 0, none⟩) ∧ W5.heap.size ≤ b ∧ SBox u b q (m) c (m : Nat) (m : Nat) p' (N) c' ∧ Rw 4 cellsN u (.slice q (m) c) (linJ (m) (fun i => wholeN (X.getD i 0))) ∧ Mx 4 cellsN u (m) (m) p' (N) c' (squareJ kdN m (fun i k => wholeN (ofL m Ro i k))) ∧ Bl W5 u) ?step ?still ?store ?fin)
    case step =>
      intro j o t act u ho hdt hpu hsz hu hfr hin
      have hj : j < 11 := (Array.getElem?_eq_some_iff.1 ho).1
      obtain ⟨c0, c1, c2, c3, c4, c5, c6, c7⟩ := HC.out _ (b15.trans hu)
      obtain ⟨y0, y1, y2, _, _, _, _⟩ := k3.later (b35.trans hu)
      rcases (by omega : j = 0 ∨ j = 1 ∨ j = 2 ∨ j = 3 ∨ j = 4 ∨ j = 5 ∨ j = 6 ∨ j = 7 ∨ j = 8 ∨ j = 9 ∨ j = 10) with rfl | rfl | rfl | rfl | rfl | rfl | rfl | rfl | rfl | rfl | rfl
      · simp only [List.getElem?_toArray, List.getElem?_cons_zero, List.getElem?_cons_succ, Option.some.injEq] at ho
        subst ho
        obtain rfl := Option.some.inj hdt
        have i1 : act.eval (.tmp (1 : Nat)) = .pointer (some ⟨w.heap.size, 0, none⟩) := hfr 1 (by decide)
        exact plain_wp (by intro c h; cases h) (fun _ _ => trivial) (by simp only [execOp, i1, evalC, evalF, evalG]; simp [go_sem, c1]) ⟨_, rfl, rfl, Bl.refl _⟩
      · simp only [List.getElem?_toArray, List.getElem?_cons_zero, List.getElem?_cons_succ, Option.some.injEq] at ho
        subst ho
        obtain rfl := Option.some.inj hdt
        have i56 : (act.eval (.tmp (56 : Nat))) = .pointer (some ⟨w.heap.size, 1, none⟩) := hin ⟨0, .data⟩ (by simp) rfl 56 rfl
        exact plain_wp (by intro c h; cases h) (fun _ _ => trivial) (by simp only [execOp, i56, evalC, evalF, evalG]; simp [go_sem, c1]) ⟨_, rfl, rfl, Bl.refl _⟩
      · simp only [List.getElem?_toArray, List.getElem?_cons_zero, List.getElem?_cons_succ, Option.some.injEq] at ho
        subst ho
        obtain rfl := Option.some.inj hdt
        have i57 : (act.eval (.tmp (57 : Nat))) = .slice px m cx := hin ⟨1, .data⟩ (by simp) rfl 57 rfl
        refine enter_wp 23 #[.slice px m cx] (by intro c h; cases h) (fun _ _ => trivial) (by simp only [execOp, evalC, evalF, evalG, resolve, i57, List.map_toArray, List.map_cons, List.map_nil]; simp [invoke, egW, Result.andThen, go_sem]) (by intro h; cases h) (callsIn_wide.2 (whole_linN px m cx (fun i => X.getD i 0) u (HXR.out.later (B5.trans hu)) (by omega))) ?_
        rintro e w' ⟨q, c, rfl, hR, hb⟩
        exact ⟨_, rfl, _, rfl, ⟨q, c, rfl, hR⟩, hb⟩
      · simp only [List.getElem?_toArray, List.getElem?_cons_zero, List.getElem?_cons_succ, Option.some.injEq] at ho
        subst ho
        obtain rfl := Option.some.inj hdt
        have i3 : act.eval (.tmp (3 : Nat)) = .pointer (some ⟨w3.heap.size, 0, none⟩) := hfr 3 (by decide)
        exact plain_wp (by intro c h; cases h) (fun _ _ => trivial) (by simp only [execOp, i3, evalC, evalF, evalG]; simp [go_sem, y0, y1, y2]) ⟨_, rfl, rfl, Bl.refl _⟩
      · simp only [List.getElem?_toArray, List.getElem?_cons_zero, List.getElem?_cons_succ, Option.some.injEq] at ho
        subst ho
        obtain rfl := Option.some.inj hdt
        have i58 : ∃ q c, (act.eval (.tmp (58 : Nat))) = .slice q m c ∧ Rw 4 cellsN u (.slice q m c) (linJ m (fun i => wholeN (X.getD i 0))) := hin ⟨2, .data⟩ (by simp) rfl 58 rfl
        have i59 : (act.eval (.tmp (59 : Nat))) = mV m m p3 N c3' := hin ⟨3, .data⟩ (by simp) rfl 59 rfl
        obtain ⟨q0, cc0, e0, hq⟩ := i58
        refine enter_wp 22 #[.slice q0 m cc0, mV m m p3 N c3'] (by intro c h; cases h) (fun _ _ => trivial) (by simp only [execOp, evalC, evalF, evalG, resolve, e0, i59, List.map_toArray, List.map_cons, List.map_nil]; simp [invoke, egN, Result.andThen, go_sem]) (by intro h; cases h) (callsIn_wide.2 (jNewN m q0 cc0 (fun i => wholeN (X.getD i 0)) p3 N c3' (fun i k => wholeN (ofL m Ro i k)) u hq.q (HX3.out.later (b35.trans hu)) hm4)) ?_
        rintro e w' ⟨q, c, p', c', rfl, ⟨hR, hM⟩, hb⟩
        exact ⟨_, rfl, _, rfl, ⟨q, c, p', c', rfl, hR, hM⟩, hb⟩
      · simp only [List.getElem?_toArray, List.getElem?_cons_zero, List.getElem?_cons_succ, Option.some.injEq] at ho
        subst ho
        obtain rfl := Option.some.inj hdt
        have i60 : ∃ q c p' c', (act.eval (.tmp (60 : Nat))) = .tuple #[sJ q (m) c (m : Nat) (m : Nat) p' (N) c', .bool true] ∧ Rw 4 cellsN u (.slice q (m) c) (linJ (m) (fun i => wholeN (X.getD i 0))) ∧ Mx 4 cellsN u (m) (m) p' (N) c' (squareJ kdN m (fun i k => wholeN (ofL m Ro i k))) := hin ⟨4, .data⟩ (by simp) rfl 60 rfl
        obtain ⟨q0, c0', p0, c0, e1, hq1, hq2⟩ := i60
        exact plain_wp (by intro c h; cases h) (fun _ _ => trivial) (by simp only [execOp, e1]; simp [go_sem]) ⟨_, rfl, ⟨q0, c0', p0, c0, rfl, hq1, hq2⟩, Bl.refl _⟩
      · simp only [List.getElem?_toArray, List.getElem?_cons_zero, List.getElem?_cons_succ, Option.some.injEq] at ho
        subst ho
        obtain rfl := Option.some.inj hdt
        have i55 : ∃ q c p' c', (act.eval (.tmp (55 : Nat))) = .tuple #[sJ q (m) c (m : Nat) (m : Nat) p' (N) c', .bool true] ∧ Rw 4 cellsN u (.slice q (m) c) (linJ (m) (fun i => wholeN (X.getD i 0))) ∧ Mx 4 cellsN u (m) (m) p' (N) c' (squareJ kdN m (fun i k => wholeN (ofL m Ro i k))) := hin ⟨5, .data⟩ (by simp) rfl 55 rfl
        obtain ⟨q0, c0', p0, c0, e1, hq1, hq2⟩ := i55
        exact plain_wp (by intro c h; cases h) (fun _ _ => trivial) (by simp only [execOp, e1]; simp [go_sem]) ⟨_, rfl, ⟨q0, c0', p0, c0, rfl, hq1, hq2⟩, Bl.refl _⟩
      · cases hpu
      · simp only [List.getElem?_toArray, List.getElem?_cons_zero, List.getElem?_cons_succ, Option.some.injEq] at ho
        subst ho
        obtain rfl := Option.some.inj hdt
        exact plain_wp (by intro c h; cases h) (fun _ _ => trivial) (w' := u.alloc (.cells #[.slice none 0 0, .int .i64 0, .int .i64 0, .slice none 0 0] 30)) (v := .pointer (some ⟨u.heap.size, 0, none⟩)) (by simp only [execOp]; simp [go_sem]) ⟨_, rfl, ⟨u.heap.size, rfl, hu.size, SBox.new u _ _ _ _ _ _ _ _ _, noB_newSN u _⟩, (Bl.refl _).alloc _⟩
      · simp only [List.getElem?_toArray, List.getElem?_cons_zero, List.getElem?_cons_succ, Option.some.injEq] at ho
        subst ho
        cases hdt
      · cases hpu
    case still =>
      intro j o t act u0 u ho hdt hpu hsz hu hfr hin
      have hj : j < 11 := (Array.getElem?_eq_some_iff.1 ho).1
      obtain ⟨c0, c1, c2, c3, c4, c5, c6, c7⟩ := HC.out _ (b15.trans hu)
      obtain ⟨y0, y1, y2, _, _, _, _⟩ := k3.later (b35.trans hu)
      rcases (by omega : j = 0 ∨ j = 1 ∨ j = 2 ∨ j = 3 ∨ j = 4 ∨ j = 5 ∨ j = 6 ∨ j = 7 ∨ j = 8 ∨ j = 9 ∨ j = 10) with rfl | rfl | rfl | rfl | rfl | rfl | rfl | rfl | rfl | rfl | rfl
      · cases hpu
      · cases hpu
      · cases hpu
      · cases hpu
      · cases hpu
      · cases hpu
      · cases hpu
      · simp only [List.getElem?_toArray, List.getElem?_cons_zero, List.getElem?_cons_succ, Option.some.injEq] at ho
        subst ho
        obtain rfl := Option.some.inj hdt
        have i55 : ∃ q c p' c', (act.eval (.tmp (55 : Nat))) = .tuple #[sJ q (m) c (m : Nat) (m : Nat) p' (N) c', .bool true] ∧ Rw 4 cellsN u0 (.slice q (m) c) (linJ (m) (fun i => wholeN (X.getD i 0))) ∧ Mx 4 cellsN u0 (m) (m) p' (N) c' (squareJ kdN m (fun i k => wholeN (ofL m Ro i k))) := hin ⟨5, .data⟩ (by simp) rfl 55 rfl
        obtain ⟨q0, c0', p0, c0, e1, hq1, hq2⟩ := i55
        exact plain_wp (by intro c h; cases h) (fun _ _ => trivial) (by simp only [execOp, e1]; simp [go_sem]) ⟨_, rfl, rfl, rfl⟩
      · cases hpu
      · cases hpu
      · simp only [List.getElem?_toArray, List.getElem?_cons_zero, List.getElem?_cons_succ, Option.some.injEq] at ho
        subst ho
        obtain rfl := Option.some.inj hdt
        have i62 : (act.eval (.tmp (62 : Nat))) = .bool true := hin ⟨7, .data⟩ (by simp) rfl 62 rfl
        exact plain_wp (by intro c h; cases h) (fun _ _ => trivial) (by simp only [execOp, i62, evalC, evalF, evalG]; simp [go_sem]) ⟨_, rfl, rfl, rfl⟩
    case store =>
      intro o act u vs ho hsz hu hfr hin
      simp only [List.getElem?_toArray, List.getElem?_cons_zero, List.getElem?_cons_succ, Option.some.injEq] at ho
      subst ho
      obtain ⟨i9, k9⟩ : act.eval (.tmp (9 : Nat)) = vs 8 ∧ (∃ b, (vs 8) = .pointer (some ⟨b, 0, none⟩) ∧ W5.heap.size ≤ b ∧ SBox u b none 0 0 0 0 none 0 0 ∧ NoB u b) := hin 8 9 rfl rfl
      obtain ⟨i61, k61⟩ : act.eval (.tmp (61 : Nat)) = vs 6 ∧ (∃ q c p' c', (vs 6) = sJ q (m) c (m : Nat) (m : Nat) p' (N) c' ∧ Rw 4 cellsN u (.slice q (m) c) (linJ (m) (fun i => wholeN (X.getD i 0))) ∧ Mx 4 cellsN u (m) (m) p' (N) c' (squareJ kdN m (fun i k => wholeN (ofL m Ro i k)))) := hin 6 61 rfl rfl
      obtain ⟨b, e1, hb, bx, nb⟩ := k9
      obtain ⟨q0, c0', p0, c0, e2, hq1, hq2⟩ := k61
      rw [e1] at i9
      rw [e2] at i61
      obtain ⟨d0, d1, d2, d3, g0, g1, g2, g3, ltb⟩ := id bx
      exact skip_wp (by intro c h; cases h) (fun _ _ => trivial) (by simp only [execOp, i9, i61]; simp [go_sem, d0, d1, d2, d3, g0, g1, g2, g3]) ⟨rfl, b, q0, c0', p0, c0, e1, hb, bx.fill _ _ _ _ _ _ _ _, hq1.but (but4N _ _ _ _ _ _) (fun g hg => noB_rwN hq1 (m1) nb g hg), Mx.but hq2 (but4N _ _ _ _ _ _) (fun g hg => Ne.symm (noB_mx boolN hq2 nb g hg)), Bl.put4 hu hb _ _ _ _⟩
    case fin =>
      intro vs vb u0 u hu hin hps
      have a0 := hin 0 56 rfl
      have a1 := hin 1 57 rfl
      have a2 := hin 2 58 rfl
      have a3 := hin 3 59 rfl
      have a4 := hin 4 60 rfl
      have a5 := hin 5 55 rfl
      have a6 := hin 6 61 rfl
      have a7 := hin 7 62 rfl
      have a8 := hin 8 9 rfl
      have a10 := hin 10 10 rfl
      simp only [putL, Act.put, List.setIfInBounds_toArray, List.set_cons_zero, List.set_cons_succ, Nat.zero_add, Nat.reduceAdd, Nat.reduceBEq, Bool.or_false, Bool.or_true, Bool.false_or, Bool.true_or, Bool.false_eq_true, if_false, if_true, reduceIte, Nat.reduceEqDiff, beq_self_eq_true, Bool.or_self] at a0 a1 a2 a3 a4 a5 a6 a7 a8 a10 ⊢
      rw [if_pos (by decide)] at hps
      simp only [a0, a1, a3, a7, a10]
      obtain ⟨b, q9, cq9, p9, c9, eb, hb, k9, hR, hM, hbu⟩ := hps
      simp only [eb]
      obtain ⟨w9, rfl⟩ : ∃ w9, w9 = u := ⟨_, rfl⟩
      have HR9 := hideP hR
      have HM9 := hideP hM
      clear a2 a4 a5 a6 a8 hu hin hR hM
      have B9 := B5.trans hbu
      have b39 := b35.trans hbu
      obtain ⟨s0, s1, s2, s3, _, _, _, _, _⟩ := id k9
      obtain ⟨y0, y1, y2, _, _, _, _⟩ := k4.later (b45.trans hbu)
      obtain ⟨z0, z1, z2, _, _, _, _⟩ := k5.later hbu
      have PR := hideP (jPredictN m N q9 cq9 (fun i => wholeN (X.getD i 0)) p9 c9 (squareJ kdN m (fun i k => wholeN (ofL m Ro i k))) p4 c4' (fun i k => wholeN (ofL m Fm i k)) p5 c5' (fun i k => wholeN (ofL m Gm i k)) w9 HR9.out.q HM9.out (HX4.out.later (b45.trans hbu)) (HX5.out.later hbu) hm4)
      go_wp2_with fail
      refine PR.out.mono ?_
      rintro e w10 ⟨q11, cq11, p11, c11, rfl, ⟨hR, hM⟩, h10⟩
      obtain ⟨W11, hW11⟩ : ∃ W11, W11 = w10.alloc (.cells #[.slice q11 m cq11, .int .i64 m, .int .i64 m, .slice p11 N c11] 30) := ⟨_, rfl⟩
      have b11 : Bl w10 W11 := by rw [hW11]; exact (Bl.refl _).alloc _
      have k11 : SBox W11 w10.heap.size q11 m cq11 m m p11 N c11 := by rw [hW11]; exact SBox.new w10 _ _ _ _ _ _ _ _ _
      have HR11 := hideP (hR.later b11)
      have HM11 := hideP (Mx.later hM b11)
      have b911 : Bl w9 W11 := h10.trans b11
      have B11 := B9.trans b911
      have b111 : Bl W W11 := b15.trans (hbu.trans b911)
      have HW11 := hideP hW11
      clear hW11 hR hM PR s0 s1 s2 s3 y0 y1 y2 z0 z1 z2
      go_wp2_with fail
      rw [← HW11.out]
      refine (wpIn_wide (n := 8)).1 (region_u (updN_ok (m) (N) (upXJ kdN m (appJ kdN m (fun i k => wholeN (ofL m Fm i k)) (fun i => wholeN (X.getD i 0))) (predJ kdN m (fun i k => wholeN (ofL m Fm i k)) (squareJ kdN m (fun i k => wholeN (ofL m Ro i k))) (fun i k => wholeN (ofL m Gm i k))) (fun i => wholeN (H.getD i 0)) (ptE (foN r) (foB r)) (ptE (foN z) (foB z))) (upPJ kdN (fun i j => wholeN (unitI i j)) m (predJ kdN m (fun i k => wholeN (ofL m Fm i k)) (squareJ kdN m (fun i k => wholeN (ofL m Ro i k))) (fun i k => wholeN (ofL m Gm i k))) (fun i => wholeN (H.getD i 0)) (ptE (foN r) (foB r))) (surpJ kdN m (appJ kdN m (fun i k => wholeN (ofL m Fm i k)) (fun i => wholeN (X.getD i 0))) (fun i => wholeN (H.getD i 0)) (ptE (foN z) (foB z))) (spreadJ kdN m (predJ kdN m (fun i k => wholeN (ofL m Fm i k)) (squareJ kdN m (fun i k => wholeN (ofL m Ro i k))) (fun i k => wholeN (ofL m Gm i k))) (fun i => wholeN (H.getD i 0)) (ptE (foN r) (foB r)))) fm [some 71, some 72, some 73, some 74, some 75, some 76, some 77, some 78, some 79, some 80, some 81, some 82, some 83, some 70, some 84, some 85, some 86, some 13, some 14, none, none, some 15] 12 (by kernel_rfl) (by rfl) 83 70 84 85 86 13 14 15 rfl
            (fun j v u => match j with | 0 => v = sJ q11 m cq11 m m p11 N c11 | 1 => v = .pointer (some ⟨w.heap.size, 5, none⟩) | 2 => v = .slice ph m ch | 3 => ∃ q c, v = .slice q m c ∧ Rw 4 cellsN u (.slice q m c) (linJ m (fun i => wholeN (H.getD i 0))) | 4 => v = enV (ptE 0 (frB 0)) | 5 => v = .pointer (some ⟨w.heap.size, 6, none⟩) | 6 => v = .int .i64 r | 7 => v = enV (ptE (foN r) (foB r)) | 8 => v = enV (ptE 0 (frB 0)) | 9 => v = .pointer (some ⟨w.heap.size, 7, none⟩) | 10 => v = .int .i64 z | 11 => v = enV (ptE (foN z) (foB z)) | _ => False)
            (by
              intro j v u u' hb h
              split at h <;> first | exact h | (obtain ⟨q, c, e, h1⟩ := h; exact ⟨q, c, e, h1.later hb⟩) | (obtain ⟨g, e, h1⟩ := h; exact ⟨g, e, h1.later hb⟩)) ?step ?call ?mv ?x0 ?x1 ?x2 ?la ?lb ?sa ?sb ?asg ?fin)
      case step =>
        intro j o t act u hjk ho hdt hsz hu hfr hin
        obtain ⟨c0, c1, c2, c3, c4, c5, c6, c7⟩ := HC.out _ (b111.trans hu)
        obtain ⟨s0, s1, s2, s3, _, _, _, _, _⟩ := k11.later hu
        rcases (by omega : j = 0 ∨ j = 1 ∨ j = 2 ∨ j = 3 ∨ j = 4 ∨ j = 5 ∨ j = 6 ∨ j = 7 ∨ j = 8 ∨ j = 9 ∨ j = 10 ∨ j = 11) with rfl | rfl | rfl | rfl | rfl | rfl | rfl | rfl | rfl | rfl | rfl | rfl
        · simp only [List.getElem?_toArray, List.getElem?_cons_zero, List.getElem?_cons_succ, Option.some.injEq] at ho
          subst ho
          obtain rfl := Option.some.inj hdt
          have i11 : act.eval (.tmp (11 : Nat)) = .pointer (some ⟨w10.heap.size, 0, none⟩) := hfr 11 (by decide)
          exact plain_wp (by intro c h; cases h) (fun _ _ => trivial) (by simp only [execOp, i11, evalC, evalF, evalG]; simp [go_sem, s0, s1, s2, s3]) ⟨_, rfl, rfl, Bl.refl _⟩
        · simp only [List.getElem?_toArray, List.getElem?_cons_zero, List.getElem?_cons_succ, Option.some.injEq] at ho
          subst ho
          obtain rfl := Option.some.inj hdt
          have i1 : act.eval (.tmp (1 : Nat)) = .pointer (some ⟨w.heap.size, 0, none⟩) := hfr 1 (by decide)
          exact plain_wp (by intro c h; cases h) (fun _ _ => trivial) (by simp only [execOp, i1, evalC, evalF, evalG]; simp [go_sem, c5]) ⟨_, rfl, rfl, Bl.refl _⟩
        · simp only [List.getElem?_toArray, List.getElem?_cons_zero, List.getElem?_cons_succ, Option.some.injEq] at ho
          subst ho
          obtain rfl := Option.some.inj hdt
          have i72 : (act.eval (.tmp (72 : Nat))) = .pointer (some ⟨w.heap.size, 5, none⟩) := hin ⟨1, .data⟩ (by simp) rfl 72 rfl
          exact plain_wp (by intro c h; cases h) (fun _ _ => trivial) (by simp only [execOp, i72, evalC, evalF, evalG]; simp [go_sem, c5]) ⟨_, rfl, rfl, Bl.refl _⟩
        · simp only [List.getElem?_toArray, List.getElem?_cons_zero, List.getElem?_cons_succ, Option.some.injEq] at ho
          subst ho
          obtain rfl := Option.some.inj hdt
          have i73 : (act.eval (.tmp (73 : Nat))) = .slice ph m ch := hin ⟨2, .data⟩ (by simp) rfl 73 rfl
          refine enter_wp 23 #[.slice ph m ch] (by intro c h; cases h) (fun _ _ => trivial) (by simp only [execOp, evalC, evalF, evalG, resolve, i73, List.map_toArray, List.map_cons, List.map_nil]; simp [invoke, egW, Result.andThen, go_sem]) (by intro h; cases h) (callsIn_wide.2 (whole_linN ph m ch (fun i => H.getD i 0) u (HHR.out.later (B11.trans hu)) (by omega))) ?_
          rintro e w' ⟨q, c, rfl, hR, hb⟩
          exact ⟨_, rfl, _, rfl, ⟨q, c, rfl, hR⟩, hb⟩
        · simp only [List.getElem?_toArray, List.getElem?_cons_zero, List.getElem?_cons_succ, Option.some.injEq] at ho
          subst ho
          obtain rfl := Option.some.inj hdt
          refine enter_wp 24 #[.int .i64 0] (by intro c h; cases h) (fun _ _ => trivial) (by simp only [execOp, evalC, evalF, evalG, resolve, evalC, List.map_toArray, List.map_cons, List.map_nil]; simp [invoke, egP, Result.andThen, go_sem]) (by intro h; cases h) (callsIn_wide.2 (pointE_any 0 u)) ?_
          rintro e w' ⟨rfl, hb⟩
          exact ⟨_, rfl, _, rfl, rfl, hb⟩
        · simp only [List.getElem?_toArray, List.getElem?_cons_zero, List.getElem?_cons_succ, Option.some.injEq] at ho
          subst ho
          obtain rfl := Option.some.inj hdt
          have i1 : act.eval (.tmp (1 : Nat)) = .pointer (some ⟨w.heap.size, 0, none⟩) := hfr 1 (by decide)
          exact plain_wp (by intro c h; cases h) (fun _ _ => trivial) (by simp only [execOp, i1, evalC, evalF, evalG]; simp [go_sem, c6]) ⟨_, rfl, rfl, Bl.refl _⟩
        · simp only [List.getElem?_toArray, List.getElem?_cons_zero, List.getElem?_cons_succ, Option.some.injEq] at ho
          subst ho
          obtain rfl := Option.some.inj hdt
          have i76 : (act.eval (.tmp (76 : Nat))) = .pointer (some ⟨w.heap.size, 6, none⟩) := hin ⟨5, .data⟩ (by simp) rfl 76 rfl
          exact plain_wp (by intro c h; cases h) (fun _ _ => trivial) (by simp only [execOp, i76, evalC, evalF, evalG]; simp [go_sem, c6]) ⟨_, rfl, rfl, Bl.refl _⟩
        · simp only [List.getElem?_toArray, List.getElem?_cons_zero, List.getElem?_cons_succ, Option.some.injEq] at ho
          subst ho
          obtain rfl := Option.some.inj hdt
          have i75 : (act.eval (.tmp (75 : Nat))) = enV (ptE 0 (frB 0)) := hin ⟨4, .data⟩ (by simp) rfl 75 rfl
          have i77 : (act.eval (.tmp (77 : Nat))) = .int .i64 r := hin ⟨6, .data⟩ (by simp) rfl 77 rfl
          refine enter_wp 25 #[enV (ptE 0 (frB 0)), .int .i64 r] (by intro c h; cases h) (fun _ _ => trivial) (by simp only [execOp, evalC, evalF, evalG, resolve, i75, i77, List.map_toArray, List.map_cons, List.map_nil]; simp [invoke, egO, Result.andThen, go_sem]) (by intro h; cases h) (callsIn_wide.2 (ofE_any (ptE 0 (frB 0)) r u)) ?_
          rintro e w' ⟨rfl, hb⟩
          exact ⟨_, rfl, _, rfl, rfl, hb⟩
        · simp only [List.getElem?_toArray, List.getElem?_cons_zero, List.getElem?_cons_succ, Option.some.injEq] at ho
          subst ho
          obtain rfl := Option.some.inj hdt
          refine enter_wp 24 #[.int .i64 0] (by intro c h; cases h) (fun _ _ => trivial) (by simp only [execOp, evalC, evalF, evalG, resolve, evalC, List.map_toArray, List.map_cons, List.map_nil]; simp [invoke, egP, Result.andThen, go_sem]) (by intro h; cases h) (callsIn_wide.2 (pointE_any 0 u)) ?_
          rintro e w' ⟨rfl, hb⟩
          exact ⟨_, rfl, _, rfl, rfl, hb⟩
        · simp only [List.getElem?_toArray, List.getElem?_cons_zero, List.getElem?_cons_succ, Option.some.injEq] at ho
          subst ho
          obtain rfl := Option.some.inj hdt
          have i1 : act.eval (.tmp (1 : Nat)) = .pointer (some ⟨w.heap.size, 0, none⟩) := hfr 1 (by decide)
          exact plain_wp (by intro c h; cases h) (fun _ _ => trivial) (by simp only [execOp, i1, evalC, evalF, evalG]; simp [go_sem, c7]) ⟨_, rfl, rfl, Bl.refl _⟩
        · simp only [List.getElem?_toArray, List.getElem?_cons_zero, List.getElem?_cons_succ, Option.some.injEq] at ho
          subst ho
          obtain rfl := Option.some.inj hdt
          have i80 : (act.eval (.tmp (80 : Nat))) = .pointer (some ⟨w.heap.size, 7, none⟩) := hin ⟨9, .data⟩ (by simp) rfl 80 rfl
          exact plain_wp (by intro c h; cases h) (fun _ _ => trivial) (by simp only [execOp, i80, evalC, evalF, evalG]; simp [go_sem, c7]) ⟨_, rfl, rfl, Bl.refl _⟩
        · simp only [List.getElem?_toArray, List.getElem?_cons_zero, List.getElem?_cons_succ, Option.some.injEq] at ho
          subst ho
          obtain rfl := Option.some.inj hdt
          have i79 : (act.eval (.tmp (79 : Nat))) = enV (ptE 0 (frB 0)) := hin ⟨8, .data⟩ (by simp) rfl 79 rfl
          have i81 : (act.eval (.tmp (81 : Nat))) = .int .i64 z := hin ⟨10, .data⟩ (by simp) rfl 81 rfl
          refine enter_wp 25 #[enV (ptE 0 (frB 0)), .int .i64 z] (by intro c h; cases h) (fun _ _ => trivial) (by simp only [execOp, evalC, evalF, evalG, resolve, i79, i81, List.map_toArray, List.map_cons, List.map_nil]; simp [invoke, egO, Result.andThen, go_sem]) (by intro h; cases h) (callsIn_wide.2 (ofE_any (ptE 0 (frB 0)) z u)) ?_
          rintro e w' ⟨rfl, hb⟩
          exact ⟨_, rfl, _, rfl, rfl, hb⟩
      case call =>
        intro o act u ho hsz hu hfr hin
        obtain ⟨c0, c1, c2, c3, c4, c5, c6, c7⟩ := HC.out _ (b111.trans hu)
        obtain ⟨s0, s1, s2, s3, _, _, _, _, _⟩ := k11.later hu
        simp only [List.getElem?_toArray, List.getElem?_cons_zero, List.getElem?_cons_succ, Option.some.injEq, Nat.reduceAdd] at ho
        subst ho
        have i71 : (act.eval (.tmp (71 : Nat))) = sJ q11 m cq11 m m p11 N c11 := hin ⟨0, .data⟩ (by simp) rfl 71 rfl
        have i74 : ∃ q c, (act.eval (.tmp (74 : Nat))) = .slice q m c ∧ Rw 4 cellsN u (.slice q m c) (linJ m (fun i => wholeN (H.getD i 0))) := hin ⟨3, .data⟩ (by simp) rfl 74 rfl
        have i78 : (act.eval (.tmp (78 : Nat))) = enV (ptE (foN r) (foB r)) := hin ⟨7, .data⟩ (by simp) rfl 78 rfl
        have i82 : (act.eval (.tmp (82 : Nat))) = enV (ptE (foN z) (foB z)) := hin ⟨11, .data⟩ (by simp) rfl 82 rfl
        obtain ⟨q0, cc0, e0, hq⟩ := i74
        refine enter_wp 17 #[sJ q11 m cq11 m m p11 N c11, .slice q0 m cc0, enV (ptE (foN r) (foB r)), enV (ptE (foN z) (foB z))] (by intro c h; cases h) (fun _ _ => trivial) (by simp only [execOp, evalC, evalF, evalG, resolve, i71, e0, i78, i82, List.map_toArray, List.map_cons, List.map_nil]; simp [invoke, egU, Result.andThen, go_sem]) (by intro h; cases h) (callsIn_wide.2 (jUpdateN m N q11 cq11 (appJ kdN m (fun i k => wholeN (ofL m Fm i k)) (fun i => wholeN (X.getD i 0))) p11 c11 (predJ kdN m (fun i k => wholeN (ofL m Fm i k)) (squareJ kdN m (fun i k => wholeN (ofL m Ro i k))) (fun i k => wholeN (ofL m Gm i k))) q0 cc0 (fun i => wholeN (H.getD i 0)) (ptE (foN r) (foB r)) (ptE (foN z) (foB z)) u (HR11.out.later hu).q (HM11.out.later hu) hq.q hm4)) ?_
        rintro e w' ⟨q, c, p', c', rfl, ⟨hR, hM, hF1, hF2⟩, hb⟩
        exact ⟨_, rfl, (q, c, p', c'), rfl, ⟨hR, hM⟩, hb, fun b hb' _ => ⟨fun g hg => by have := hF1 g hg; omega, fun g hg => by have := hF2 g hg; omega⟩⟩
      case mv =>
        intro o act u x ho hx
        simp only [List.getElem?_toArray, List.getElem?_cons_zero, List.getElem?_cons_succ, Option.some.injEq, Nat.reduceAdd] at ho
        subst ho
        exact plain_wp (by intro c h; cases h) (fun _ _ => trivial) (by simp only [execOp, hx]; simp [go_sem]) ⟨rfl, rfl⟩
      case x0 =>
        intro o act u x y z ho hx
        simp only [List.getElem?_toArray, List.getElem?_cons_zero, List.getElem?_cons_succ, Option.some.injEq, Nat.reduceAdd] at ho
        subst ho
        exact plain_wp (by intro c h; cases h) (fun _ _ => trivial) (by simp only [execOp, hx]; simp [go_sem]) ⟨rfl, rfl⟩
      case x1 =>
        intro o act u x y z ho hx
        simp only [List.getElem?_toArray, List.getElem?_cons_zero, List.getElem?_cons_succ, Option.some.injEq, Nat.reduceAdd] at ho
        subst ho
        exact plain_wp (by intro c h; cases h) (fun _ _ => trivial) (by simp only [execOp, hx]; simp [go_sem]) ⟨rfl, rfl⟩
      case x2 =>
        intro o act u x y z ho hx
        simp only [List.getElem?_toArray, List.getElem?_cons_zero, List.getElem?_cons_succ, Option.some.injEq, Nat.reduceAdd] at ho
        subst ho
        exact plain_wp (by intro c h; cases h) (fun _ _ => trivial) (by simp only [execOp, hx]; simp [go_sem]) ⟨rfl, rfl⟩
      case la =>
        intro o act u ho
        simp only [List.getElem?_toArray, List.getElem?_cons_zero, List.getElem?_cons_succ, Option.some.injEq, Nat.reduceAdd] at ho
        subst ho
        exact plain_wp (by intro c h; cases h) (fun _ _ => trivial) (w' := u.alloc (.cells #[.slice none 0 0, .int .i64 0, .int .i64 0, .slice none 0 0] 30)) (v := .pointer (some ⟨u.heap.size, 0, none⟩)) (by simp only [execOp]; simp [go_sem]) ⟨rfl, SBox.new u _ _ _ _ _ _ _ _ _, (Bl.refl _).alloc _, by simp⟩
      case lb =>
        intro o act u ho
        simp only [List.getElem?_toArray, List.getElem?_cons_zero, List.getElem?_cons_succ, Option.some.injEq, Nat.reduceAdd] at ho
        subst ho
        exact plain_wp (by intro c h; cases h) (fun _ _ => trivial) (w' := u.alloc (.cells #[.int .i64 0, .int .i64 0, .int .i64 0, .bool false, .int .i64 0, .int .i64 0, .int .i64 0, .bool false] 42)) (v := .pointer (some ⟨u.heap.size, 0, none⟩)) (by simp only [execOp]; simp [go_sem]) ⟨rfl, NBoxN.new u zeroE zeroE _, (Bl.refl _).alloc _, by simp⟩
      case sa =>
        intro o act u D b ho hA h0 hz hdat hoff hbl hb
        simp only [List.getElem?_toArray, List.getElem?_cons_zero, List.getElem?_cons_succ, Option.some.injEq, Nat.reduceAdd] at ho
        subst ho
        obtain ⟨q0, c0, p0, c1⟩ := D
        replace h0 : act.eval (.tmp 84) = sJ q0 (m) c0 (m) (m) p0 (N) c1 := h0
        obtain ⟨d0, d1, d2, d3, g0, g1, g2, g3, lt⟩ := (show SBox u b none 0 0 0 0 none 0 0 from hz)
        exact skip_wp (by intro c h; cases h) (fun _ _ => trivial) (by simp only [execOp, hA, h0]; simp [go_sem, d0, d1, d2, d3, g0, g1, g2, g3]) ⟨rfl, SBox.fill (show SBox u b none 0 0 0 0 none 0 0 from hz) _ _ _ _ _ _ _ _, ⟨hdat.1.but (but4N _ _ _ _ _ _) (fun g hg => hoff.1 g hg), hdat.2.but (but4N _ _ _ _ _ _) (fun g hg => hoff.2 g hg)⟩, Bl.put4 hbl hb _ _ _ _, fun b' h' => heap4N _ h' _ _ _ _, by simp⟩
      case sb =>
        intro o act u D b ho hA h0 hz hdat hoff hbl hb
        simp only [List.getElem?_toArray, List.getElem?_cons_zero, List.getElem?_cons_succ, Option.some.injEq, Nat.reduceAdd] at ho
        subst ho
        obtain ⟨q0, c0, p0, c1⟩ := D
        replace h0 : act.eval (.tmp 85) = newsVN (surpJ kdN m (appJ kdN m (fun i k => wholeN (ofL m Fm i k)) (fun i => wholeN (X.getD i 0))) (fun i => wholeN (H.getD i 0)) (ptE (foN z) (foB z))) (spreadJ kdN m (predJ kdN m (fun i k => wholeN (ofL m Fm i k)) (squareJ kdN m (fun i k => wholeN (ofL m Ro i k))) (fun i k => wholeN (ofL m Gm i k))) (fun i => wholeN (H.getD i 0)) (ptE (foN r) (foB r))) := h0
        obtain ⟨d0, d1, d2, d3, d4, d5, d6, d7, g0, g1, g2, g3, g4, g5, g6, g7, lt⟩ := (show NBoxN u b zeroE zeroE from hz)
        exact skip_wp (by intro c h; cases h) (fun _ _ => trivial) (by simp only [execOp, hA, h0]; simp [go_sem, d0, d1, d2, d3, d4, d5, d6, d7, g0, g1, g2, g3, g4, g5, g6, g7]) ⟨rfl, NBoxN.fill (show NBoxN u b zeroE zeroE from hz) _ _, ⟨hdat.1.but (butNN _ _ _ _) (fun g hg => hoff.1 g hg), hdat.2.but (butNN _ _ _ _) (fun g hg => hoff.2 g hg)⟩, blNN b hbl hb _ _, fun b' h' => heapNN _ h' _ _, by simp⟩
      case asg =>
        intro o act u x ho hx
        simp only [List.getElem?_toArray, List.getElem?_cons_zero, List.getElem?_cons_succ, Option.some.injEq, Nat.reduceAdd] at ho
        subst ho
        exact plain_wp (by intro c h; cases h) (fun _ _ => trivial) (by simp only [execOp, hx]; simp [go_sem]) ⟨rfl, rfl⟩
      case fin =>
        intro vs u D b1 b2 hu e9' e5' e6' hb1 hb2 hsa hsb hdat
        simp only [putL, Act.put, List.setIfInBounds_toArray, List.set_cons_zero, List.set_cons_succ, Nat.zero_add, Nat.reduceAdd] at e9' e5' e6' ⊢
        replace e9' := Eq.trans e9' (show _ = Value.bool true from rfl)
        simp only [e9', e5', e6']
        obtain ⟨q13, cq13, p13, c13⟩ := D
        obtain ⟨w3, rfl⟩ : ∃ w3, w3 = u := ⟨_, rfl⟩
        have KA : SBox w3 b1 q13 m cq13 m m p13 N c13 := hsa
        have HD3 : Rw 4 cellsN w3 (.slice q13 m cq13) (linJ m (upXJ kdN m (appJ kdN m (fun i k => wholeN (ofL m Fm i k)) (fun i => wholeN (X.getD i 0))) (predJ kdN m (fun i k => wholeN (ofL m Fm i k)) (squareJ kdN m (fun i k => wholeN (ofL m Ro i k))) (fun i k => wholeN (ofL m Gm i k))) (fun i => wholeN (H.getD i 0)) (ptE (foN r) (foB r)) (ptE (foN z) (foB z)))) ∧ Mx 4 cellsN w3 m m p13 N c13 (upPJ kdN (fun i j => wholeN (unitI i j)) m (predJ kdN m (fun i k => wholeN (ofL m Fm i k)) (squareJ kdN m (fun i k => wholeN (ofL m Ro i k))) (fun i k => wholeN (ofL m Gm i k))) (fun i => wholeN (H.getD i 0)) (ptE (foN r) (foB r))) := hdat
        have B3 : Bl w w3 := B11.trans hu
        have b93 := b911.trans hu
        have K9 : SBox w3 b q9 m cq9 m m p9 N c9 := k9.later b93
        have K11 : SBox w3 w10.heap.size q11 m cq11 m m p11 N c11 := k11.later hu
        obtain ⟨g0, hg0⟩ : ∃ g0, g0 = mulK kdN m (fun i k => wholeN (ofL m Ro i k)) (fun i k => (fun i k => wholeN (ofL m Ro i k)) k i) := ⟨_, rfl⟩
        obtain ⟨g1, hg1⟩ : ∃ g1 : Nat → Nat → En, predJ kdN m (fun i k => wholeN (ofL m Fm i k)) (squareJ kdN m (fun i k => wholeN (ofL m Ro i k))) (fun i k => wholeN (ofL m Gm i k)) = mirM g1 := pred_mir9 _ _ _ _ _
        obtain ⟨g2, hg2⟩ : ∃ g2 : Nat → Nat → En, upPJ kdN (fun i j => wholeN (unitI i j)) m (predJ kdN m (fun i k => wholeN (ofL m Fm i k)) (squareJ kdN m (fun i k => wholeN (ofL m Ro i k))) (fun i k => wholeN (ofL m Gm i k))) (fun i => wholeN (H.getD i 0)) (ptE (foN r) (foB r)) = mirM g2 := up_mir9 _ _ _ _ _ _
        have HG0 := hideP (show Mx 4 cellsN w3 m m p9 N c9 (mirM g0) from by rw [hg0]; exact HM9.out.later b93)
        have HG1 := hideP (show Mx 4 cellsN w3 m m p11 N c11 (mirM g1) from by rw [← hg1]; exact HM11.out.later hu)
        have HG2 := hideP (show Mx 4 cellsN w3 m m p13 N c13 (mirM g2) from by rw [← hg2]; exact HD3.2)
        obtain ⟨s0, s1, s2, s3, _, _, _, _, _⟩ := K9
        obtain ⟨t0, t1, t2, t3, _, _, _, _, _⟩ := K11
        obtain ⟨v0, v1, v2, v3, _, _, _, _, _⟩ := KA
        clear hsa hsb hdat HD3 k9 k11 hg0 hg1 hg2
        go_wp2_with fail
        clear s0 s1 s2 s3 t0 t1 t2 t3 v0 v1 v2 v3
        go_loopw [101] (fun v wr => ∃ i : Nat, v = .int .i64 i ∧ i ≤ 3 ∧ Bl w3 wr) (fun v _ => 3 - (intOf v).toNat)
        case atStart => exact ⟨0, rfl, by omega, Bl.refl _⟩
        case round =>
          obtain ⟨i, rfl, hi, bi⟩ := hrel
          obtain ⟨wq, hwq⟩ : ∃ wq : World, wq = wr := ⟨_, rfl⟩
          subst hwq
          by_cases hlt : i < 3
          · rcases (by omega : i = 0 ∨ i = 1 ∨ i = 2) with rfl | rfl | rfl
            · have IX := Tryz.idx3_0 q9 cq9 q11 cq11 q13 cq13 m m p9 N c9 p11 c11 p13 c13 wq
              obtain ⟨WA, hWA⟩ : ∃ WA, WA = wq.alloc (.cells #[.slice q9 m cq9, .int .i64 m, .int .i64 m, .slice p9 N c9] 30) := ⟨_, rfl⟩
              have bA : Bl wq WA := by rw [hWA]; exact (Bl.refl _).alloc _
              have kA : SBox WA wq.heap.size q9 m cq9 m m p9 N c9 := by rw [hWA]; exact SBox.new wq _ _ _ _ _ _ _ _ _
              have MI := hideP (mMirrorN m p9 N c9 (mirM g0) WA ((HG0.out).later (bi.trans bA)))
              have HWA := hideP hWA
              clear hWA
              go_wp2_with fail
              rw [← HWA.out]
              refine MI.out.mono ?_
              rintro e wB ⟨pM, cM, rfl, ⟨hM, _⟩, hB⟩
              rw [mirM_self] at hM
              obtain ⟨WB, hWB⟩ : ∃ WB, WB = wB.alloc (.cells #[.int .i64 m, .int .i64 m, .slice pM N cM] 24) := ⟨_, rfl⟩
              have bB : Bl wB WB := by rw [hWB]; exact (Bl.refl _).alloc _
              have kB : MBox WB wB.heap.size m m pM N cM := by rw [hWB]; exact MBox.new wB _ _ _ _ _ _
              have bAB : Bl WA WB := hB.trans bB
              have kAB := kA.later bAB
              obtain ⟨gM, oM, hpM, _, hgM, CM⟩ := (Mx.later hM bB).cells
              obtain ⟨gP, oP, hpP, _, hgP, CP⟩ := (Mx.later HG0.out (bi.trans (bA.trans bAB))).cells
              subst hpM
              have HPP9 := hideP hpP
              clear hpP
              have HCM := hideP CM
              have HCP := hideP CP
              obtain ⟨d0, d1, d2, _, _, _, _⟩ := id kB
              have HWB := hideP hWB
              rw [hWB] at d0 d1 d2
              have bqB : Bl w3 WB := bi.trans (bA.trans bAB)
              clear hWB hM CM CP MI
              go_wp2_with fail
              rw [← HWB.out]
              clear d0 d1 d2
              go_loopw [115] (fun v wr => ∃ t : Nat, v = .int .i64 t ∧ t ≤ N ∧ Bl WB wr) (fun v _ => N - (intOf v).toNat)
              case atStart => exact ⟨0, rfl, Nat.zero_le _, Bl.refl _⟩
              case round =>
                obtain ⟨t, rfl, ht, bl⟩ := hrel
                by_cases hlt2 : t < N
                · obtain ⟨a, b, ha, hb, hab⟩ : ∃ a b, a < m ∧ b < m ∧ t = a * m + b := idx9 (by rw [← HNN.out]; exact hlt2)
                  obtain ⟨y, hy⟩ : ∃ y, y = mirM g0 a b := ⟨_, rfl⟩
                  have CX := fun (z : Wl wr) q u hu => (bl_cell (bl.trans z.bl) _ _ hgM).trans (HCM.out a b ha hb q u hu)
                  have CY := fun (z : Wl wr) q u hu => (bl_cell (bl.trans z.bl) _ _ hgP).trans (HCP.out a b ha hb q u hu)
                  rw [← hab, ← hy] at CX CY
                  have x0 : ∀ z : Wl wr, z.w.cell? ⟨gM, oM + t * 4, none⟩ = some (.int .i64 y.v) := fun z => by simpa using CX z 0 _ rfl
                  have x1 : ∀ z : Wl wr, z.w.cell? ⟨gM, oM + t * 4 + 1, none⟩ = some (.int .i64 y.l) := fun z => by simpa using CX z 1 _ rfl
                  have x2 : ∀ z : Wl wr, z.w.cell? ⟨gM, oM + t * 4 + 2, none⟩ = some (.int .i64 y.h) := fun z => by simpa using CX z 2 _ rfl
                  have x3 : ∀ z : Wl wr, z.w.cell? ⟨gM, oM + t * 4 + 3, none⟩ = some (.bool y.bad) := fun z => by simpa using CX z 3 _ rfl
                  have y0 : ∀ z : Wl wr, z.w.cell? ⟨gP, oP + t * 4, none⟩ = some (.int .i64 y.v) := fun z => by simpa using CY z 0 _ rfl
                  have y1 : ∀ z : Wl wr, z.w.cell? ⟨gP, oP + t * 4 + 1, none⟩ = some (.int .i64 y.l) := fun z => by simpa using CY z 1 _ rfl
                  have y2 : ∀ z : Wl wr, z.w.cell? ⟨gP, oP + t * 4 + 2, none⟩ = some (.int .i64 y.h) := fun z => by simpa using CY z 2 _ rfl
                  have y3 : ∀ z : Wl wr, z.w.cell? ⟨gP, oP + t * 4 + 3, none⟩ = some (.bool y.bad) := fun z => by simpa using CY z 3 _ rfl
                  have m2 := fun z : Wl wr => (kB.later (bl.trans z.bl)).c2
                  have s3 := fun z : Wl wr => (kAB.later (bl.trans z.bl)).c3
                  rw [HPP9.out] at s3
                  have nn := neq_nn y
                  have wne := wl_ne wr
                  clear CX CY hy hab ha hb
                  obtain ⟨yv, yl, yh, yb⟩ := y
                  dsimp only at x0 x1 x2 x3 y0 y1 y2 y3
                  go_wp2_with fail
                  refine wl_region wr (Bl.refl _) (by kernel_rfl) (by kernel_rfl) ?_
                  repeat (go_big_quiet_step (first | fail))
                  refine wpQuiet_nil ?_
                  intro _ hw'
                  obtain ⟨z, hw''⟩ := hw'
                  subst hw''
                  clear wne x0 x1 x2 x3 y0 y1 y2 y3 m2 s3
                  obtain ⟨wz, hz⟩ := z
                  dsimp only
                  go_wp2
                  go_roundw
                  case rel => exact ⟨t + 1, by simp, hlt2, bl.trans hz⟩
                  case measure => simp [intOf]; omega
                · obtain rfl : t = N := by omega
                  go_wp2
                  go_roundw
                  case rel => exact ⟨1, by simp, by omega, bqB.trans bl⟩
                  case measure => simp [intOf]
            · have IX := Tryz.idx3_1 q9 cq9 q11 cq11 q13 cq13 m m p9 N c9 p11 c11 p13 c13 wq
              obtain ⟨WA, hWA⟩ : ∃ WA, WA = wq.alloc (.cells #[.slice q11 m cq11, .int .i64 m, .int .i64 m, .slice p11 N c11] 30) := ⟨_, rfl⟩
              have bA : Bl wq WA := by rw [hWA]; exact (Bl.refl _).alloc _
              have kA : SBox WA wq.heap.size q11 m cq11 m m p11 N c11 := by rw [hWA]; exact SBox.new wq _ _ _ _ _ _ _ _ _
              have MI := hideP (mMirrorN m p11 N c11 (mirM g1) WA ((HG1.out).later (bi.trans bA)))
              have HWA := hideP hWA
              clear hWA
              go_wp2_with fail
              rw [← HWA.out]
              refine MI.out.mono ?_
              rintro e wB ⟨pM, cM, rfl, ⟨hM, _⟩, hB⟩
              rw [mirM_self] at hM
              obtain ⟨WB, hWB⟩ : ∃ WB, WB = wB.alloc (.cells #[.int .i64 m, .int .i64 m, .slice pM N cM] 24) := ⟨_, rfl⟩
              have bB : Bl wB WB := by rw [hWB]; exact (Bl.refl _).alloc _
              have kB : MBox WB wB.heap.size m m pM N cM := by rw [hWB]; exact MBox.new wB _ _ _ _ _ _
              have bAB : Bl WA WB := hB.trans bB
              have kAB := kA.later bAB
              obtain ⟨gM, oM, hpM, _, hgM, CM⟩ := (Mx.later hM bB).cells
              obtain ⟨gP, oP, hpP, _, hgP, CP⟩ := (Mx.later HG1.out (bi.trans (bA.trans bAB))).cells
              subst hpM
              have HPP9 := hideP hpP
              clear hpP
              have HCM := hideP CM
              have HCP := hideP CP
              obtain ⟨d0, d1, d2, _, _, _, _⟩ := id kB
              have HWB := hideP hWB
              rw [hWB] at d0 d1 d2
              have bqB : Bl w3 WB := bi.trans (bA.trans bAB)
              clear hWB hM CM CP MI
              go_wp2_with fail
              rw [← HWB.out]
              clear d0 d1 d2
              go_loopw [115] (fun v wr => ∃ t : Nat, v = .int .i64 t ∧ t ≤ N ∧ Bl WB wr) (fun v _ => N - (intOf v).toNat)
              case atStart => exact ⟨0, rfl, Nat.zero_le _, Bl.refl _⟩
              case round =>
                obtain ⟨t, rfl, ht, bl⟩ := hrel
                by_cases hlt2 : t < N
                · obtain ⟨a, b, ha, hb, hab⟩ : ∃ a b, a < m ∧ b < m ∧ t = a * m + b := idx9 (by rw [← HNN.out]; exact hlt2)
                  obtain ⟨y, hy⟩ : ∃ y, y = mirM g1 a b := ⟨_, rfl⟩
                  have CX := fun (z : Wl wr) q u hu => (bl_cell (bl.trans z.bl) _ _ hgM).trans (HCM.out a b ha hb q u hu)
                  have CY := fun (z : Wl wr) q u hu => (bl_cell (bl.trans z.bl) _ _ hgP).trans (HCP.out a b ha hb q u hu)
                  rw [← hab, ← hy] at CX CY
                  have x0 : ∀ z : Wl wr, z.w.cell? ⟨gM, oM + t * 4, none⟩ = some (.int .i64 y.v) := fun z => by simpa using CX z 0 _ rfl
                  have x1 : ∀ z : Wl wr, z.w.cell? ⟨gM, oM + t * 4 + 1, none⟩ = some (.int .i64 y.l) := fun z => by simpa using CX z 1 _ rfl
                  have x2 : ∀ z : Wl wr, z.w.cell? ⟨gM, oM + t * 4 + 2, none⟩ = some (.int .i64 y.h) := fun z => by simpa using CX z 2 _ rfl
                  have x3 : ∀ z : Wl wr, z.w.cell? ⟨gM, oM + t * 4 + 3, none⟩ = some (.bool y.bad) := fun z => by simpa using CX z 3 _ rfl
                  have y0 : ∀ z : Wl wr, z.w.cell? ⟨gP, oP + t * 4, none⟩ = some (.int .i64 y.v) := fun z => by simpa using CY z 0 _ rfl
                  have y1 : ∀ z : Wl wr, z.w.cell? ⟨gP, oP + t * 4 + 1, none⟩ = some (.int .i64 y.l) := fun z => by simpa using CY z 1 _ rfl
                  have y2 : ∀ z : Wl wr, z.w.cell? ⟨gP, oP + t * 4 + 2, none⟩ = some (.int .i64 y.h) := fun z => by simpa using CY z 2 _ rfl
                  have y3 : ∀ z : Wl wr, z.w.cell? ⟨gP, oP + t * 4 + 3, none⟩ = some (.bool y.bad) := fun z => by simpa using CY z 3 _ rfl
                  have m2 := fun z : Wl wr => (kB.later (bl.trans z.bl)).c2
                  have s3 := fun z : Wl wr => (kAB.later (bl.trans z.bl)).c3
                  rw [HPP9.out] at s3
                  have nn := neq_nn y
                  have wne := wl_ne wr
                  clear CX CY hy hab ha hb
                  obtain ⟨yv, yl, yh, yb⟩ := y
                  dsimp only at x0 x1 x2 x3 y0 y1 y2 y3
                  go_wp2_with fail
                  refine wl_region wr (Bl.refl _) (by kernel_rfl) (by kernel_rfl) ?_
                  repeat (go_big_quiet_step (first | fail))
                  refine wpQuiet_nil ?_
                  intro _ hw'
                  obtain ⟨z, hw''⟩ := hw'
                  subst hw''
                  clear wne x0 x1 x2 x3 y0 y1 y2 y3 m2 s3
                  obtain ⟨wz, hz⟩ := z
                  dsimp only
                  go_wp2
                  go_roundw
                  case rel => exact ⟨t + 1, by simp, hlt2, bl.trans hz⟩
                  case measure => simp [intOf]; omega
                · obtain rfl : t = N := by omega
                  go_wp2
                  go_roundw
                  case rel => exact ⟨2, by simp, by omega, bqB.trans bl⟩
                  case measure => simp [intOf]
            · have IX := Tryz.idx3_2 q9 cq9 q11 cq11 q13 cq13 m m p9 N c9 p11 c11 p13 c13 wq
              obtain ⟨WA, hWA⟩ : ∃ WA, WA = wq.alloc (.cells #[.slice q13 m cq13, .int .i64 m, .int .i64 m, .slice p13 N c13] 30) := ⟨_, rfl⟩
              have bA : Bl wq WA := by rw [hWA]; exact (Bl.refl _).alloc _
              have kA : SBox WA wq.heap.size q13 m cq13 m m p13 N c13 := by rw [hWA]; exact SBox.new wq _ _ _ _ _ _ _ _ _
              have MI := hideP (mMirrorN m p13 N c13 (mirM g2) WA ((HG2.out).later (bi.trans bA)))
              have HWA := hideP hWA
              clear hWA
              go_wp2_with fail
              rw [← HWA.out]
              refine MI.out.mono ?_
              rintro e wB ⟨pM, cM, rfl, ⟨hM, _⟩, hB⟩
              rw [mirM_self] at hM
              obtain ⟨WB, hWB⟩ : ∃ WB, WB = wB.alloc (.cells #[.int .i64 m, .int .i64 m, .slice pM N cM] 24) := ⟨_, rfl⟩
              have bB : Bl wB WB := by rw [hWB]; exact (Bl.refl _).alloc _
              have kB : MBox WB wB.heap.size m m pM N cM := by rw [hWB]; exact MBox.new wB _ _ _ _ _ _
              have bAB : Bl WA WB := hB.trans bB
              have kAB := kA.later bAB
              obtain ⟨gM, oM, hpM, _, hgM, CM⟩ := (Mx.later hM bB).cells
              obtain ⟨gP, oP, hpP, _, hgP, CP⟩ := (Mx.later HG2.out (bi.trans (bA.trans bAB))).cells
              subst hpM
              have HPP9 := hideP hpP
              clear hpP
              have HCM := hideP CM
              have HCP := hideP CP
              obtain ⟨d0, d1, d2, _, _, _, _⟩ := id kB
              have HWB := hideP hWB
              rw [hWB] at d0 d1 d2
              have bqB : Bl w3 WB := bi.trans (bA.trans bAB)
              clear hWB hM CM CP MI
              go_wp2_with fail
              rw [← HWB.out]
              clear d0 d1 d2
              go_loopw [115] (fun v wr => ∃ t : Nat, v = .int .i64 t ∧ t ≤ N ∧ Bl WB wr) (fun v _ => N - (intOf v).toNat)
              case atStart => exact ⟨0, rfl, Nat.zero_le _, Bl.refl _⟩
              case round =>
                obtain ⟨t, rfl, ht, bl⟩ := hrel
                by_cases hlt2 : t < N
                · obtain ⟨a, b, ha, hb, hab⟩ : ∃ a b, a < m ∧ b < m ∧ t = a * m + b := idx9 (by rw [← HNN.out]; exact hlt2)
                  obtain ⟨y, hy⟩ : ∃ y, y = mirM g2 a b := ⟨_, rfl⟩
                  have CX := fun (z : Wl wr) q u hu => (bl_cell (bl.trans z.bl) _ _ hgM).trans (HCM.out a b ha hb q u hu)
                  have CY := fun (z : Wl wr) q u hu => (bl_cell (bl.trans z.bl) _ _ hgP).trans (HCP.out a b ha hb q u hu)
                  rw [← hab, ← hy] at CX CY
                  have x0 : ∀ z : Wl wr, z.w.cell? ⟨gM, oM + t * 4, none⟩ = some (.int .i64 y.v) := fun z => by simpa using CX z 0 _ rfl
                  have x1 : ∀ z : Wl wr, z.w.cell? ⟨gM, oM + t * 4 + 1, none⟩ = some (.int .i64 y.l) := fun z => by simpa using CX z 1 _ rfl
                  have x2 : ∀ z : Wl wr, z.w.cell? ⟨gM, oM + t * 4 + 2, none⟩ = some (.int .i64 y.h) := fun z => by simpa using CX z 2 _ rfl
                  have x3 : ∀ z : Wl wr, z.w.cell? ⟨gM, oM + t * 4 + 3, none⟩ = some (.bool y.bad) := fun z => by simpa using CX z 3 _ rfl
                  have y0 : ∀ z : Wl wr, z.w.cell? ⟨gP, oP + t * 4, none⟩ = some (.int .i64 y.v) := fun z => by simpa using CY z 0 _ rfl
                  have y1 : ∀ z : Wl wr, z.w.cell? ⟨gP, oP + t * 4 + 1, none⟩ = some (.int .i64 y.l) := fun z => by simpa using CY z 1 _ rfl
                  have y2 : ∀ z : Wl wr, z.w.cell? ⟨gP, oP + t * 4 + 2, none⟩ = some (.int .i64 y.h) := fun z => by simpa using CY z 2 _ rfl
                  have y3 : ∀ z : Wl wr, z.w.cell? ⟨gP, oP + t * 4 + 3, none⟩ = some (.bool y.bad) := fun z => by simpa using CY z 3 _ rfl
                  have m2 := fun z : Wl wr => (kB.later (bl.trans z.bl)).c2
                  have s3 := fun z : Wl wr => (kAB.later (bl.trans z.bl)).c3
                  rw [HPP9.out] at s3
                  have nn := neq_nn y
                  have wne := wl_ne wr
                  clear CX CY hy hab ha hb
                  obtain ⟨yv, yl, yh, yb⟩ := y
                  dsimp only at x0 x1 x2 x3 y0 y1 y2 y3
                  go_wp2_with fail
                  refine wl_region wr (Bl.refl _) (by kernel_rfl) (by kernel_rfl) ?_
                  repeat (go_big_quiet_step (first | fail))
                  refine wpQuiet_nil ?_
                  intro _ hw'
                  obtain ⟨z, hw''⟩ := hw'
                  subst hw''
                  clear wne x0 x1 x2 x3 y0 y1 y2 y3 m2 s3
                  obtain ⟨wz, hz⟩ := z
                  dsimp only
                  go_wp2
                  go_roundw
                  case rel => exact ⟨t + 1, by simp, hlt2, bl.trans hz⟩
                  case measure => simp [intOf]; omega
                · obtain rfl : t = N := by omega
                  go_wp2
                  go_roundw
                  case rel => exact ⟨3, by simp, by omega, bqB.trans bl⟩
                  case measure => simp [intOf]
          · obtain rfl : i = 3 := by omega
            go_wp2_with fail
            refine (AW.out _).mono ?_
            rintro e w99 ⟨rfl, h99⟩
            go_wp2
            go_ret
            exact ⟨rfl, (B3.trans bi).trans h99⟩
end Go.Proofs.YtlbmkjicbkfmjaaGreat

/- Behind any step of the lane of whole covariances P is its own mirror, in enclosed numbers. Conditions: none (every input). -/
namespace Go.Proofs.YtlbmkjicbkfmjaaGreat
open Go.ChangeShapes Go.WideShapes Go.ChangeAt Go.RowKit
set_option linter.unusedVariables false

theorem own_JosephMirrors : ownKnob Tryz.prog.godebug = none := by kernel_rfl
theorem laid_JosephMirrors : laidOutB Tryz.prog = true := by kernel_rfl
set_option maxRecDepth 100000 in
theorem lifted_JosephMirrors (os : Os) (started : os.Started) (H : Type) (enc : TypeId × Value → H) :
    ReturnsInHanded {} Tryz.checked os 5 .any (Rows.josephMirrorsSpec.pre6 enc Tryz.prog Tryz.f5 Rows.josephMirrorsRow.domain false) (Rows.josephMirrorsSpec.post enc Tryz.prog Tryz.f5 false true false false) := by
  refine returnsInHanded_of_change (C := Tryz.checked) own_JosephMirrors started (by kernel_rfl) Tryz.func5
    (ChangeSpec.witness6 (enc := enc) (C := Tryz.checked) false ⟨#[], #[.agg #[.int .i64 0, .slice none 0 0, .slice none 0 0, .slice none 0 0, .slice none 0 0, .slice none 0 0, .int .i64 0, .int .i64 0]], []⟩ 8 (by kernel_rfl) (by kernel_rfl) (by kernel_rfl) (by kernel_rfl)) ?_
  intro W base args ds gs before hval0 hW hcnd _
  have hval : ∀ (j : Nat) t v, Tryz.f5.params[j]? = some t → args[j]? = some v → Value.okWide Tryz.prog W .any base t v := hval0
  have hW' := hW
  obtain ⟨p, q, hA0, hV, rfl, hfz, hnd⟩ := hW
  have hA : DataW.TrodAll enc Tryz.prog W 0 (fun _ => true) true Tryz.f5.params.toList args.toList ds p := hA0
  rw [Tryz.params5] at hA hval
  obtain ⟨v0, vs0, d0, ds0, p0, q0, hargs, rfl, rfl, h0, r0⟩ := trodAll_cons hA
  obtain ⟨rfl, rfl, rfl⟩ := trodAll_nil r0
  obtain rfl : args = #[v0] := by cases args; simp_all
  obtain ⟨rfl, rfl⟩ := trodVars_none hV
  have hltA := fun x hx => hW'.lt x hx
  obtain ⟨n0, r0x, z0, x0, o0, f0, g0, k0, X0, O0, F0, G0, K0, e0, R0a, R0b, R0c, R0d, R0e⟩ := open_case (hval 0 52 v0 rfl rfl) h0
  subst e0
  clear hA0 hval0
  refine (walk_JosephMirrors n0 r0x z0 x0 o0 f0 g0 k0 X0 O0 F0 G0 K0 W R0a R0b R0c R0d R0e).mono fun e W' ⟨he, bel⟩ => ?_
  subst he
  exact ⟨_, rfl, _, _, _, [], _, [], hW', trodAll_mk1 (shut_bool Tryz.underlying4 _), (trodAll_cons_mk (Below.trod laid_JosephMirrors (by kernel_rfl) (of_decide_eq_true (by kernel_rfl)) h0 bel (fun x hx => by have := hltA x (by simp [hx]); simpa using this)) trodAll_mk0), rfl, Below.frame bel _, fun h => by cases h⟩

theorem proved_JosephMirrors : Rows.JosephMirrorsSaid :=
  OpenClaim.holds_of_wide 5 Tryz.f5 rfl rfl rfl rfl rfl rfl rfl ⟨rfl, rfl, rfl, rfl, rfl⟩ rfl rfl rfl rfl rfl (by kernel_rfl) Tryz.func5 (by kernel_rfl)
    (of_decide_eq_true (by kernel_rfl)) (by unfold Func.isWrapper; first | (rw [if_pos (by decide +kernel)]; kernel_rfl) | (rw [if_neg (by decide +kernel)]; exact ⟨rfl, rfl⟩))
    (fun os started H enc _ => lifted_JosephMirrors os started H enc)
#print axioms proved_JosephMirrors
end Go.Proofs.YtlbmkjicbkfmjaaGreat
