/- awake of layer 9's laws. Written by genJw.py. -/
import Derived.Test.YthnadgbloamlaaaGreatJoHF
import Derived.Test.YthnadgbloamlaaaGreatMaI
import Derived.Test.YthnadgbloamlaaaGreatWlr
namespace Go.Proofs.YthnadgbloamlaaaGreat
open Go.RowKit
set_option linter.unusedSimpArgs false
set_option linter.unusedVariables false

theorem Tryz.build1J (x : Int) (u : World) : (Instr.buildSlice 54 1 #[(0, .int .i64 x)]).run Tryz.prog u = .ok (.slice (some ⟨u.heap.size, 0, none⟩) 1 1) (u.alloc (.cells #[.int .i64 x] 3)) := by kernel_rfl
theorem rq_one9 (u : World) (x : Int) (t : TypeId) : Rq 1 cI (u.alloc (.cells #[.int .i64 x] t)) (.slice (some ⟨u.heap.size, 0, none⟩) 1 1) (linJ 1 fun _ => x) := by
  refine .inr ⟨u.heap.size, 0, 1, rfl, Nat.le_refl _, by simp, fun j v hj k s hu => ?_⟩
  rcases j with _ | j
  · simp [linJ] at hj
    subst hj
    rcases k with _ | k
    · simp at hu
      subst hu
      simp [go_sem]
    · simp at hu
  · simp [linJ] at hj
theorem whole11 (w : World) (t : TypeId) (b0 : Nat) (hb0 : b0 = w.heap.size) : Calls Tryz.prog 29 #[.int .i64 1, .int .i64 1, .slice (some ⟨b0, 0, none⟩) 1 1] (w.alloc (.cells #[.int .i64 1] t))
    fun e w' => ∃ p' cap', e = .returned (.tuple #[mV 1 1 p' 1 cap', .bool true]) ∧ Mx 3 cellsF w' 1 1 p' 1 cap' (fun _ _ => itF 1) ∧ Bl (w.alloc (.cells #[.int .i64 1] t)) w' := by
  subst hb0
  refine (mWholeF 1 1 _ 1 1 [1] _ (rq_one9 w 1 t) (by decide) rfl).mono ?_
  rintro e w' ⟨p', cap', rfl, hr, hb⟩
  exact ⟨p', cap', rfl, ⟨⟨by omega, by omega, by omega, by omega⟩, rfl, hr.q⟩, hb⟩
theorem ex9_x : (upXJ kdF 1 (fun _ => wholeF 0) (squareJ kdF 1 fun _ _ => itF 1) (fun _ => wholeF 1) (newR 1 1) (newR 2 1)) 0 = newR 1 1 := by kernel_rfl
theorem ex9_p : (upPJ kdF (fun i j => wholeF (unitI i j)) 1 (squareJ kdF 1 fun _ _ => itF 1) (fun _ => wholeF 1) (newR 1 1)) 0 0 = newR 1 2 := by kernel_rfl
theorem ex9_a : spreadJ kdF 1 (squareJ kdF 1 fun _ _ => itF 1) (fun _ => wholeF 1) (newR 1 1) = newR 2 1 := by kernel_rfl
theorem rw_cells9F {w : World} {p : Option Addr} {n cap : Nat} {x : Nat → Fr} (h : Rw 3 cellsF w (.slice p n cap) (linJ n x)) (h1 : 1 ≤ n) : ∃ g o, p = some ⟨g, o, none⟩ ∧ ∀ u, Bl w u → ∀ k, k < n → u.cell? ⟨g, o + k * 3, none⟩ = some (.int .i64 (x k).n) ∧ u.cell? ⟨g, o + k * 3 + 1, none⟩ = some (.int .i64 (x k).d) ∧ u.cell? ⟨g, o + k * 3 + 2, none⟩ = some (.bool (x k).bad) := by
  rcases h with ⟨_, e⟩ | ⟨g, o, c, e, _, hlt, hx⟩
  · have := congrArg List.length e
    rw [linJ_len] at this
    simp at this
    omega
  · simp only [Value.slice.injEq] at e
    refine ⟨g, o, e.1, fun u hu k hk => ?_⟩
    have H := fun i v (hi : (cellsF (x k))[i]? = some v) => (bl_cell hu _ _ hlt).trans (hx k _ (linJ_get x hk) i v hi)
    exact ⟨H 0 _ rfl, H 1 _ rfl, H 2 _ rfl⟩
set_option maxRecDepth 100000 in
set_option maxHeartbeats 4000000 in
theorem awake9_any (w : World) : Calls Tryz.prog 21 #[] w fun e w' => e = .returned (.bool true) ∧ Bl w w' := by
  have fm : Tryz.prog.follows .mixedOrders = true := by kernel_rfl
  have egW := enters_of Tryz.func33 (by kernel_rfl) rfl
  have egN := enters_of Tryz.func49 (by kernel_rfl) rfl
  have egU := enters_of Tryz.func32 (by kernel_rfl) rfl
  have egQ := enters_of Tryz.func34 (by kernel_rfl) rfl
  go_enter Tryz.func21, Tryz.ntmps21
  go_wp2_with fail
  refine (whole11 w _ _ rfl).mono ?_
  rintro e w1 ⟨p1, c1, rfl, hx, h1⟩
  obtain ⟨W1, hW1⟩ : ∃ W1, W1 = w1.alloc (.cells #[.int .i64 1, .int .i64 1, .slice p1 1 c1] 60) := ⟨_, rfl⟩
  have b1 : Bl w1 W1 := by rw [hW1]; exact (Bl.refl _).alloc _
  have k1 : MBox W1 w1.heap.size 1 1 p1 1 c1 := by rw [hW1]; exact MBox.new w1 _ _ _ _ _ _
  have B1 : Bl w W1 := (((Bl.refl w).alloc _).trans h1).trans b1
  have HX := hideP (Mx.later hx b1)
  have HW1 := hideP hW1
  clear hW1 hx
  go_wp2_with fail
  rw [← HW1.out]
  refine (wpIn_wide (n := 8)).1 (region_q fm [some 14, some 15, some 16, some 17, some 13, some 18, some 19, some 3, none, some 4] (fun j => j == 6 || j == 9) 8 (by kernel_rfl) (by rfl)
      (fun j v u => match j with | 0 => ∃ g, v = .slice (some ⟨g, 0, none⟩) 1 1 ∧ Rq 1 cI u (.slice (some ⟨g, 0, none⟩) 1 1) (linJ 1 fun _ => 0) | 1 => ∃ q c, v = .slice q 1 c ∧ Rw 3 cellsF u (.slice q 1 c) (linJ 1 fun _ => wholeF 0) | 2 => v = mV 1 1 p1 1 c1 | 3 => ∃ q c p' c', v = .tuple #[sJ q (1) c (1 : Nat) (1 : Nat) p' (1) c', .bool true] ∧ Rw 3 cellsF u (.slice q (1) c) (linJ (1) (fun _ => wholeF 0)) ∧ Mx 3 cellsF u (1) (1) p' (1) c' (squareJ kdF 1 fun _ _ => itF 1) | 4 => ∃ q c p' c', v = .tuple #[sJ q (1) c (1 : Nat) (1 : Nat) p' (1) c', .bool true] ∧ Rw 3 cellsF u (.slice q (1) c) (linJ (1) (fun _ => wholeF 0)) ∧ Mx 3 cellsF u (1) (1) p' (1) c' (squareJ kdF 1 fun _ _ => itF 1) | 5 => ∃ q c p' c', v = sJ q (1) c (1 : Nat) (1 : Nat) p' (1) c' ∧ Rw 3 cellsF u (.slice q (1) c) (linJ (1) (fun _ => wholeF 0)) ∧ Mx 3 cellsF u (1) (1) p' (1) c' (squareJ kdF 1 fun _ _ => itF 1) | 6 => v = .bool true | 7 => ∃ b, v = .pointer (some ⟨b, 0, none⟩) ∧ W1.heap.size ≤ b ∧ SBox u b none 0 0 0 0 none 0 0 ∧ NoB u b | 9 => v = .bool true | _ => False)
      (by
        intro j v u u' hb h
        split at h <;> first | exact h | (obtain ⟨b, e, h1, h2, h3⟩ := h; exact ⟨b, e, h1, h2.later hb, h3.later hb h2.lt⟩) | (obtain ⟨q, c, p', c', e, h1, h2⟩ := h; exact ⟨q, c, p', c', e, h1.later hb, Mx.later h2 hb⟩) | (obtain ⟨q, c, e, h1⟩ := h; exact ⟨q, c, e, h1.later hb⟩) | (obtain ⟨g, e, h1⟩ := h; exact ⟨g, e, h1.later hb⟩)) (fun vs u0 u => ∃ b q c p' c', vs 7 = .pointer (some ⟨b, 0, none⟩) ∧ W1.heap.size ≤ b ∧ SBox u b q (1) c (1 : Nat) (1 : Nat) p' (1) c' ∧ Rw 3 cellsF u (.slice q (1) c) (linJ (1) (fun _ => wholeF 0)) ∧ Mx 3 cellsF u (1) (1) p' (1) c' (squareJ kdF 1 fun _ _ => itF 1) ∧ Bl W1 u) ?step ?still ?store ?fin)
  case step =>
    intro j o t act u ho hdt hpu hsz hu hfr hin
    have hj : j < 10 := (Array.getElem?_eq_some_iff.1 ho).1
    obtain ⟨y0, y1, y2, _, _, _, _⟩ := k1.later hu
    rcases (by omega : j = 0 ∨ j = 1 ∨ j = 2 ∨ j = 3 ∨ j = 4 ∨ j = 5 ∨ j = 6 ∨ j = 7 ∨ j = 8 ∨ j = 9) with rfl | rfl | rfl | rfl | rfl | rfl | rfl | rfl | rfl | rfl
    · simp only [List.getElem?_toArray, List.getElem?_cons_zero, List.getElem?_cons_succ, Option.some.injEq] at ho
      subst ho
      obtain rfl := Option.some.inj hdt
      refine build_wp _ _ rfl (Tryz.build1J 0 u) ?_
      exact ⟨_, rfl, ⟨u.heap.size, rfl, rq_one9 u 0 _⟩, (Bl.refl _).alloc _⟩
    · simp only [List.getElem?_toArray, List.getElem?_cons_zero, List.getElem?_cons_succ, Option.some.injEq] at ho
      subst ho
      obtain rfl := Option.some.inj hdt
      have i14 : ∃ g, (act.eval (.tmp (14 : Nat))) = .slice (some ⟨g, 0, none⟩) 1 1 ∧ Rq 1 cI u (.slice (some ⟨g, 0, none⟩) 1 1) (linJ 1 fun _ => 0) := hin ⟨0, .data⟩ (by simp) rfl 14 rfl
      obtain ⟨g0, e0, hg⟩ := i14
      refine enter_wp 33 #[.slice (some ⟨g0, 0, none⟩) 1 1] (by intro c h; cases h) (fun _ _ => trivial) (by simp only [execOp, evalC, evalF, evalG, resolve, e0, List.map_toArray, List.map_cons, List.map_nil]; simp [invoke, egW, Result.andThen, go_sem]) (by intro h; cases h) (callsIn_wide.2 (whole_linF _ 1 1 (fun _ => 0) u hg (by decide))) ?_
      rintro e w' ⟨q, c, rfl, hR, hb⟩
      exact ⟨_, rfl, _, rfl, ⟨q, c, rfl, hR⟩, hb⟩
    · simp only [List.getElem?_toArray, List.getElem?_cons_zero, List.getElem?_cons_succ, Option.some.injEq] at ho
      subst ho
      obtain rfl := Option.some.inj hdt
      have i1 : act.eval (.tmp (1 : Nat)) = .pointer (some ⟨w1.heap.size, 0, none⟩) := hfr 1 (by decide)
      exact plain_wp (by intro c h; cases h) (fun _ _ => trivial) (by simp only [execOp, i1, evalC, evalF, evalG]; simp [go_sem, y0, y1, y2]) ⟨_, rfl, rfl, Bl.refl _⟩
    · simp only [List.getElem?_toArray, List.getElem?_cons_zero, List.getElem?_cons_succ, Option.some.injEq] at ho
      subst ho
      obtain rfl := Option.some.inj hdt
      have i15 : ∃ q c, (act.eval (.tmp (15 : Nat))) = .slice q 1 c ∧ Rw 3 cellsF u (.slice q 1 c) (linJ 1 fun _ => wholeF 0) := hin ⟨1, .data⟩ (by simp) rfl 15 rfl
      have i16 : (act.eval (.tmp (16 : Nat))) = mV 1 1 p1 1 c1 := hin ⟨2, .data⟩ (by simp) rfl 16 rfl
      obtain ⟨q0, c0, e0, hq⟩ := i15
      refine enter_wp 49 #[.slice q0 1 c0, mV 1 1 p1 1 c1] (by intro c h; cases h) (fun _ _ => trivial) (by simp only [execOp, evalC, evalF, evalG, resolve, e0, i16, List.map_toArray, List.map_cons, List.map_nil]; simp [invoke, egN, Result.andThen, go_sem]) (by intro h; cases h) (callsIn_wide.2 (jNewF 1 q0 c0 (fun _ => wholeF 0) p1 1 c1 (fun _ _ => itF 1) u hq.q (HX.out.later hu) (by decide))) ?_
      rintro e w' ⟨q, c, p', c', rfl, ⟨hR, hM⟩, hb⟩
      exact ⟨_, rfl, _, rfl, ⟨q, c, p', c', rfl, hR, hM⟩, hb⟩
    · simp only [List.getElem?_toArray, List.getElem?_cons_zero, List.getElem?_cons_succ, Option.some.injEq] at ho
      subst ho
      obtain rfl := Option.some.inj hdt
      have i17 : ∃ q c p' c', (act.eval (.tmp (17 : Nat))) = .tuple #[sJ q (1) c (1 : Nat) (1 : Nat) p' (1) c', .bool true] ∧ Rw 3 cellsF u (.slice q (1) c) (linJ (1) (fun _ => wholeF 0)) ∧ Mx 3 cellsF u (1) (1) p' (1) c' (squareJ kdF 1 fun _ _ => itF 1) := hin ⟨3, .data⟩ (by simp) rfl 17 rfl
      obtain ⟨q0, c0', p0, c0, e1, hq1, hq2⟩ := i17
      exact plain_wp (by intro c h; cases h) (fun _ _ => trivial) (by simp only [execOp, e1]; simp [go_sem]) ⟨_, rfl, ⟨q0, c0', p0, c0, rfl, hq1, hq2⟩, Bl.refl _⟩
    · simp only [List.getElem?_toArray, List.getElem?_cons_zero, List.getElem?_cons_succ, Option.some.injEq] at ho
      subst ho
      obtain rfl := Option.some.inj hdt
      have i13 : ∃ q c p' c', (act.eval (.tmp (13 : Nat))) = .tuple #[sJ q (1) c (1 : Nat) (1 : Nat) p' (1) c', .bool true] ∧ Rw 3 cellsF u (.slice q (1) c) (linJ (1) (fun _ => wholeF 0)) ∧ Mx 3 cellsF u (1) (1) p' (1) c' (squareJ kdF 1 fun _ _ => itF 1) := hin ⟨4, .data⟩ (by simp) rfl 13 rfl
      obtain ⟨q0, c0', p0, c0, e1, hq1, hq2⟩ := i13
      exact plain_wp (by intro c h; cases h) (fun _ _ => trivial) (by simp only [execOp, e1]; simp [go_sem]) ⟨_, rfl, ⟨q0, c0', p0, c0, rfl, hq1, hq2⟩, Bl.refl _⟩
    · cases hpu
    · simp only [List.getElem?_toArray, List.getElem?_cons_zero, List.getElem?_cons_succ, Option.some.injEq] at ho
      subst ho
      obtain rfl := Option.some.inj hdt
      exact plain_wp (by intro c h; cases h) (fun _ _ => trivial) (w' := u.alloc (.cells #[.slice none 0 0, .int .i64 0, .int .i64 0, .slice none 0 0] 66)) (v := .pointer (some ⟨u.heap.size, 0, none⟩)) (by simp only [execOp]; simp [go_sem]) ⟨_, rfl, ⟨u.heap.size, rfl, hu.size, SBox.new u _ _ _ _ _ _ _ _ _, noB_newSF u _⟩, (Bl.refl _).alloc _⟩
    · simp only [List.getElem?_toArray, List.getElem?_cons_zero, List.getElem?_cons_succ, Option.some.injEq] at ho
      subst ho
      cases hdt
    · cases hpu
  case still =>
    intro j o t act u0 u ho hdt hpu hsz hu hfr hin
    have hj : j < 10 := (Array.getElem?_eq_some_iff.1 ho).1
    obtain ⟨y0, y1, y2, _, _, _, _⟩ := k1.later hu
    rcases (by omega : j = 0 ∨ j = 1 ∨ j = 2 ∨ j = 3 ∨ j = 4 ∨ j = 5 ∨ j = 6 ∨ j = 7 ∨ j = 8 ∨ j = 9) with rfl | rfl | rfl | rfl | rfl | rfl | rfl | rfl | rfl | rfl
    · cases hpu
    · cases hpu
    · cases hpu
    · cases hpu
    · cases hpu
    · cases hpu
    · simp only [List.getElem?_toArray, List.getElem?_cons_zero, List.getElem?_cons_succ, Option.some.injEq] at ho
      subst ho
      obtain rfl := Option.some.inj hdt
      have i13 : ∃ q c p' c', (act.eval (.tmp (13 : Nat))) = .tuple #[sJ q (1) c (1 : Nat) (1 : Nat) p' (1) c', .bool true] ∧ Rw 3 cellsF u0 (.slice q (1) c) (linJ (1) (fun _ => wholeF 0)) ∧ Mx 3 cellsF u0 (1) (1) p' (1) c' (squareJ kdF 1 fun _ _ => itF 1) := hin ⟨4, .data⟩ (by simp) rfl 13 rfl
      obtain ⟨q0, c0', p0, c0, e1, hq1, hq2⟩ := i13
      exact plain_wp (by intro c h; cases h) (fun _ _ => trivial) (by simp only [execOp, e1]; simp [go_sem]) ⟨_, rfl, rfl, rfl⟩
    · cases hpu
    · cases hpu
    · simp only [List.getElem?_toArray, List.getElem?_cons_zero, List.getElem?_cons_succ, Option.some.injEq] at ho
      subst ho
      obtain rfl := Option.some.inj hdt
      have i19 : (act.eval (.tmp (19 : Nat))) = .bool true := hin ⟨6, .data⟩ (by simp) rfl 19 rfl
      exact plain_wp (by intro c h; cases h) (fun _ _ => trivial) (by simp only [execOp, i19, evalC, evalF, evalG]; simp [go_sem]) ⟨_, rfl, rfl, rfl⟩
  case store =>
    intro o act u vs ho hsz hu hfr hin
    simp only [List.getElem?_toArray, List.getElem?_cons_zero, List.getElem?_cons_succ, Option.some.injEq] at ho
    subst ho
    obtain ⟨i3, k3⟩ : act.eval (.tmp (3 : Nat)) = vs 7 ∧ (∃ b, (vs 7) = .pointer (some ⟨b, 0, none⟩) ∧ W1.heap.size ≤ b ∧ SBox u b none 0 0 0 0 none 0 0 ∧ NoB u b) := hin 7 3 rfl rfl
    obtain ⟨i18, k18⟩ : act.eval (.tmp (18 : Nat)) = vs 5 ∧ (∃ q c p' c', (vs 5) = sJ q (1) c (1 : Nat) (1 : Nat) p' (1) c' ∧ Rw 3 cellsF u (.slice q (1) c) (linJ (1) (fun _ => wholeF 0)) ∧ Mx 3 cellsF u (1) (1) p' (1) c' (squareJ kdF 1 fun _ _ => itF 1)) := hin 5 18 rfl rfl
    obtain ⟨b, e1, hb, bx, nb⟩ := k3
    obtain ⟨q0, c0', p0, c0, e2, hq1, hq2⟩ := k18
    rw [e1] at i3
    rw [e2] at i18
    obtain ⟨d0, d1, d2, d3, g0, g1, g2, g3, ltb⟩ := id bx
    exact skip_wp (by intro c h; cases h) (fun _ _ => trivial) (by simp only [execOp, i3, i18]; simp [go_sem, d0, d1, d2, d3, g0, g1, g2, g3]) ⟨rfl, b, q0, c0', p0, c0, e1, hb, bx.fill _ _ _ _ _ _ _ _, hq1.but (but4F _ _ _ _ _ _) (fun g hg => noB_rwF hq1 (by decide) nb g hg), Mx.but hq2 (but4F _ _ _ _ _ _) (fun g hg => Ne.symm (noB_mx boolF hq2 nb g hg)), Bl.put4 hu hb _ _ _ _⟩
  case fin =>
    intro vs vb u0 u hu hin hps
    have a0 := hin 0 14 rfl
    have a1 := hin 1 15 rfl
    have a2 := hin 2 16 rfl
    have a3 := hin 3 17 rfl
    have a4 := hin 4 13 rfl
    have a5 := hin 5 18 rfl
    have a6 := hin 6 19 rfl
    have a7 := hin 7 3 rfl
    have a9 := hin 9 4 rfl
    simp only [putL, Act.put, List.setIfInBounds_toArray, List.set_cons_zero, List.set_cons_succ, Nat.zero_add, Nat.reduceAdd, Nat.reduceBEq, Bool.or_false, Bool.or_true, Bool.false_or, Bool.true_or, Bool.false_eq_true, if_false, if_true, reduceIte, Nat.reduceEqDiff, beq_self_eq_true, Bool.or_self] at a0 a1 a2 a3 a4 a5 a6 a7 a9 ⊢
    rw [if_pos (by decide)] at hps
    simp only [a2, a6, a9]
    obtain ⟨b, q1, cq1, p2, c2, eb, hb, ks, hR, hM, hbu⟩ := hps
    simp only [eb]
    obtain ⟨w2, rfl⟩ : ∃ w2, w2 = u := ⟨_, rfl⟩
    have HR := hideP hR
    have HM := hideP hM
    clear a0 a1 a3 a4 a5 a7 hu hin hR hM
    have B2 : Bl w w2 := B1.trans hbu
    go_wp2_with fail
    refine (wpIn_wide (n := 8)).1 (region_u (updF_ok (1) (1) (upXJ kdF 1 (fun _ => wholeF 0) (squareJ kdF 1 fun _ _ => itF 1) (fun _ => wholeF 1) (newR 1 1) (newR 2 1)) (upPJ kdF (fun i j => wholeF (unitI i j)) 1 (squareJ kdF 1 fun _ _ => itF 1) (fun _ => wholeF 1) (newR 1 1)) (surpJ kdF 1 (fun _ => wholeF 0) (fun _ => wholeF 1) (newR 2 1)) (spreadJ kdF 1 (squareJ kdF 1 fun _ _ => itF 1) (fun _ => wholeF 1) (newR 1 1))) fm [some 21, some 22, some 23, some 24, some 25, some 26, some 20, some 27, some 28, some 29, some 5, some 6, none, none, some 7] 5 (by kernel_rfl) (by rfl) 26 20 27 28 29 5 6 7 rfl
          (fun j v u => match j with | 0 => v = sJ q1 1 cq1 1 1 p2 1 c2 | 1 => ∃ g, v = .slice (some ⟨g, 0, none⟩) 1 1 ∧ Rq 1 cI u (.slice (some ⟨g, 0, none⟩) 1 1) (linJ 1 fun _ => 1) | 2 => ∃ q c, v = .slice q 1 c ∧ Rw 3 cellsF u (.slice q 1 c) (linJ 1 fun _ => wholeF 1) | 3 => v = frV (newR 1 1) | 4 => v = frV (newR 2 1) | _ => False)
          (by
            intro j v u u' hb h
            split at h <;> first | exact h | (obtain ⟨q, c, e, h1⟩ := h; exact ⟨q, c, e, h1.later hb⟩) | (obtain ⟨g, e, h1⟩ := h; exact ⟨g, e, h1.later hb⟩)) ?step ?call ?mv ?x0 ?x1 ?x2 ?la ?lb ?sa ?sb ?asg ?fin)
    case step =>
      intro j o t act u hjk ho hdt hsz hu hfr hin
      obtain ⟨s0, s1, s2, s3, _, _, _, _, _⟩ := ks.later hu
      rcases (by omega : j = 0 ∨ j = 1 ∨ j = 2 ∨ j = 3 ∨ j = 4) with rfl | rfl | rfl | rfl | rfl
      · simp only [List.getElem?_toArray, List.getElem?_cons_zero, List.getElem?_cons_succ, Option.some.injEq] at ho
        subst ho
        obtain rfl := Option.some.inj hdt
        have i3 : act.eval (.tmp (3 : Nat)) = .pointer (some ⟨b, 0, none⟩) := hfr 3 (by decide)
        exact plain_wp (by intro c h; cases h) (fun _ _ => trivial) (by simp only [execOp, i3, evalC, evalF, evalG]; simp [go_sem, s0, s1, s2, s3]) ⟨_, rfl, rfl, Bl.refl _⟩
      · simp only [List.getElem?_toArray, List.getElem?_cons_zero, List.getElem?_cons_succ, Option.some.injEq] at ho
        subst ho
        obtain rfl := Option.some.inj hdt
        refine build_wp _ _ rfl (Tryz.build1J 1 u) ?_
        exact ⟨_, rfl, ⟨u.heap.size, rfl, rq_one9 u 1 _⟩, (Bl.refl _).alloc _⟩
      · simp only [List.getElem?_toArray, List.getElem?_cons_zero, List.getElem?_cons_succ, Option.some.injEq] at ho
        subst ho
        obtain rfl := Option.some.inj hdt
        have i22 : ∃ g, (act.eval (.tmp (22 : Nat))) = .slice (some ⟨g, 0, none⟩) 1 1 ∧ Rq 1 cI u (.slice (some ⟨g, 0, none⟩) 1 1) (linJ 1 fun _ => 1) := hin ⟨1, .data⟩ (by simp) rfl 22 rfl
        obtain ⟨g0, e0, hg⟩ := i22
        refine enter_wp 33 #[.slice (some ⟨g0, 0, none⟩) 1 1] (by intro c h; cases h) (fun _ _ => trivial) (by simp only [execOp, evalC, evalF, evalG, resolve, e0, List.map_toArray, List.map_cons, List.map_nil]; simp [invoke, egW, Result.andThen, go_sem]) (by intro h; cases h) (callsIn_wide.2 (whole_linF _ 1 1 (fun _ => 1) u hg (by decide))) ?_
        rintro e w' ⟨q, c, rfl, hR, hb⟩
        exact ⟨_, rfl, _, rfl, ⟨q, c, rfl, hR⟩, hb⟩
      · simp only [List.getElem?_toArray, List.getElem?_cons_zero, List.getElem?_cons_succ, Option.some.injEq] at ho
        subst ho
        obtain rfl := Option.some.inj hdt
        refine enter_wp 34 #[.int .i64 1, .int .i64 1] (by intro c h; cases h) (fun _ _ => trivial) (by simp only [execOp, evalC, evalF, evalG, resolve, evalC, List.map_toArray, List.map_cons, List.map_nil]; simp [invoke, egQ, Result.andThen, go_sem]) (by intro h; cases h) (callsIn_wide.2 (new_any 1 1 u)) ?_
        rintro e w' ⟨rfl, hb⟩
        exact ⟨_, rfl, _, rfl, rfl, hb⟩
      · simp only [List.getElem?_toArray, List.getElem?_cons_zero, List.getElem?_cons_succ, Option.some.injEq] at ho
        subst ho
        obtain rfl := Option.some.inj hdt
        refine enter_wp 34 #[.int .i64 2, .int .i64 1] (by intro c h; cases h) (fun _ _ => trivial) (by simp only [execOp, evalC, evalF, evalG, resolve, evalC, List.map_toArray, List.map_cons, List.map_nil]; simp [invoke, egQ, Result.andThen, go_sem]) (by intro h; cases h) (callsIn_wide.2 (new_any 2 1 u)) ?_
        rintro e w' ⟨rfl, hb⟩
        exact ⟨_, rfl, _, rfl, rfl, hb⟩
    case call =>
      intro o act u ho hsz hu hfr hin
      obtain ⟨s0, s1, s2, s3, _, _, _, _, _⟩ := ks.later hu
      simp only [List.getElem?_toArray, List.getElem?_cons_zero, List.getElem?_cons_succ, Option.some.injEq, Nat.reduceAdd] at ho
      subst ho
      have i21 : (act.eval (.tmp (21 : Nat))) = sJ q1 1 cq1 1 1 p2 1 c2 := hin ⟨0, .data⟩ (by simp) rfl 21 rfl
      have i23 : ∃ q c, (act.eval (.tmp (23 : Nat))) = .slice q 1 c ∧ Rw 3 cellsF u (.slice q 1 c) (linJ 1 fun _ => wholeF 1) := hin ⟨2, .data⟩ (by simp) rfl 23 rfl
      have i24 : (act.eval (.tmp (24 : Nat))) = frV (newR 1 1) := hin ⟨3, .data⟩ (by simp) rfl 24 rfl
      have i25 : (act.eval (.tmp (25 : Nat))) = frV (newR 2 1) := hin ⟨4, .data⟩ (by simp) rfl 25 rfl
      obtain ⟨q0, c0, e0, hq⟩ := i23
      refine enter_wp 32 #[sJ q1 1 cq1 1 1 p2 1 c2, .slice q0 1 c0, frV (newR 1 1), frV (newR 2 1)] (by intro c h; cases h) (fun _ _ => trivial) (by simp only [execOp, evalC, evalF, evalG, resolve, i21, e0, i24, i25, List.map_toArray, List.map_cons, List.map_nil]; simp [invoke, egU, Result.andThen, go_sem]) (by intro h; cases h) (callsIn_wide.2 (jUpdateF 1 1 q1 cq1 (fun _ => wholeF 0) p2 c2 (squareJ kdF 1 fun _ _ => itF 1) q0 c0 (fun _ => wholeF 1) (newR 1 1) (newR 2 1) u (HR.out.later hu).q (HM.out.later hu) hq.q (by decide))) ?_
      rintro e w' ⟨q, c, p', c', rfl, ⟨hR, hM, hF1, hF2⟩, hb⟩
      exact ⟨_, rfl, (q, c, p', c'), rfl, ⟨hR, hM⟩, hb, fun b hb' _ => ⟨fun g hg => by have := hF1 g hg; omega, fun g hg => by have := hF2 g hg; omega⟩⟩
    case mv =>
      intro o act u x ho hx
      simp only [List.getElem?_toArray, List.getElem?_cons_zero, List.getElem?_cons_succ, Option.some.injEq, Nat.reduceAdd] at ho
      subst ho
      exact plain_wp (by intro c h; cases h) (fun _ _ => trivial) (by simp only [execOp, hx]; simp [go_sem]) ⟨rfl, rfl⟩
    case x0 =>
      intro o act u x y z ho hx
      simp only [List.getElem?_toArray, List.getElem?_cons_zero, List.getElem?_cons_succ, Option.some.injEq, Nat.reduceAdd] at ho
      subst ho
      exact plain_wp (by intro c h; cases h) (fun _ _ => trivial) (by simp only [execOp, hx]; simp [go_sem]) ⟨rfl, rfl⟩
    case x1 =>
      intro o act u x y z ho hx
      simp only [List.getElem?_toArray, List.getElem?_cons_zero, List.getElem?_cons_succ, Option.some.injEq, Nat.reduceAdd] at ho
      subst ho
      exact plain_wp (by intro c h; cases h) (fun _ _ => trivial) (by simp only [execOp, hx]; simp [go_sem]) ⟨rfl, rfl⟩
    case x2 =>
      intro o act u x y z ho hx
      simp only [List.getElem?_toArray, List.getElem?_cons_zero, List.getElem?_cons_succ, Option.some.injEq, Nat.reduceAdd] at ho
      subst ho
      exact plain_wp (by intro c h; cases h) (fun _ _ => trivial) (by simp only [execOp, hx]; simp [go_sem]) ⟨rfl, rfl⟩
    case la =>
      intro o act u ho
      simp only [List.getElem?_toArray, List.getElem?_cons_zero, List.getElem?_cons_succ, Option.some.injEq, Nat.reduceAdd] at ho
      subst ho
      exact plain_wp (by intro c h; cases h) (fun _ _ => trivial) (w' := u.alloc (.cells #[.slice none 0 0, .int .i64 0, .int .i64 0, .slice none 0 0] 66)) (v := .pointer (some ⟨u.heap.size, 0, none⟩)) (by simp only [execOp]; simp [go_sem]) ⟨rfl, SBox.new u _ _ _ _ _ _ _ _ _, (Bl.refl _).alloc _, by simp⟩
    case lb =>
      intro o act u ho
      simp only [List.getElem?_toArray, List.getElem?_cons_zero, List.getElem?_cons_succ, Option.some.injEq, Nat.reduceAdd] at ho
      subst ho
      exact plain_wp (by intro c h; cases h) (fun _ _ => trivial) (w' := u.alloc (.cells #[.int .i64 0, .int .i64 0, .bool false, .int .i64 0, .int .i64 0, .bool false] 71)) (v := .pointer (some ⟨u.heap.size, 0, none⟩)) (by simp only [execOp]; simp [go_sem]) ⟨rfl, NBoxF.new u zeroR zeroR _, (Bl.refl _).alloc _, by simp⟩
    case sa =>
      intro o act u D b ho hA h0 hz hdat hoff hbl hb
      simp only [List.getElem?_toArray, List.getElem?_cons_zero, List.getElem?_cons_succ, Option.some.injEq, Nat.reduceAdd] at ho
      subst ho
      obtain ⟨q0, c0, p0, c1⟩ := D
      replace h0 : act.eval (.tmp 27) = sJ q0 (1) c0 (1) (1) p0 (1) c1 := h0
      obtain ⟨d0, d1, d2, d3, g0, g1, g2, g3, lt⟩ := (show SBox u b none 0 0 0 0 none 0 0 from hz)
      exact skip_wp (by intro c h; cases h) (fun _ _ => trivial) (by simp only [execOp, hA, h0]; simp [go_sem, d0, d1, d2, d3, g0, g1, g2, g3]) ⟨rfl, SBox.fill (show SBox u b none 0 0 0 0 none 0 0 from hz) _ _ _ _ _ _ _ _, ⟨hdat.1.but (but4F _ _ _ _ _ _) (fun g hg => hoff.1 g hg), hdat.2.but (but4F _ _ _ _ _ _) (fun g hg => hoff.2 g hg)⟩, Bl.put4 hbl hb _ _ _ _, fun b' h' => heap4F _ h' _ _ _ _, by simp⟩
    case sb =>
      intro o act u D b ho hA h0 hz hdat hoff hbl hb
      simp only [List.getElem?_toArray, List.getElem?_cons_zero, List.getElem?_cons_succ, Option.some.injEq, Nat.reduceAdd] at ho
      subst ho
      obtain ⟨q0, c0, p0, c1⟩ := D
      replace h0 : act.eval (.tmp 28) = newsVF (surpJ kdF 1 (fun _ => wholeF 0) (fun _ => wholeF 1) (newR 2 1)) (spreadJ kdF 1 (squareJ kdF 1 fun _ _ => itF 1) (fun _ => wholeF 1) (newR 1 1)) := h0
      obtain ⟨d0, d1, d2, d3, d4, d5, g0, g1, g2, g3, g4, g5, lt⟩ := (show NBoxF u b zeroR zeroR from hz)
      exact skip_wp (by intro c h; cases h) (fun _ _ => trivial) (by simp only [execOp, hA, h0]; simp [go_sem, d0, d1, d2, d3, d4, d5, g0, g1, g2, g3, g4, g5]) ⟨rfl, NBoxF.fill (show NBoxF u b zeroR zeroR from hz) _ _, ⟨hdat.1.but (butNF _ _ _ _) (fun g hg => hoff.1 g hg), hdat.2.but (butNF _ _ _ _) (fun g hg => hoff.2 g hg)⟩, blNF b hbl hb _ _, fun b' h' => heapNF _ h' _ _, by simp⟩
    case asg =>
      intro o act u x ho hx
      simp only [List.getElem?_toArray, List.getElem?_cons_zero, List.getElem?_cons_succ, Option.some.injEq, Nat.reduceAdd] at ho
      subst ho
      exact plain_wp (by intro c h; cases h) (fun _ _ => trivial) (by simp only [execOp, hx]; simp [go_sem]) ⟨rfl, rfl⟩
    case fin =>
      intro vs u D b1 b2 hu e9' e5' e6' hb1 hb2 hsa hsb hdat
      simp only [putL, Act.put, List.setIfInBounds_toArray, List.set_cons_zero, List.set_cons_succ, Nat.zero_add, Nat.reduceAdd] at e9' e5' e6' ⊢
      replace e9' := Eq.trans e9' (show _ = Value.bool true from rfl)
      simp only [e9', e5', e6']
      obtain ⟨q3, cq3, p3, c3⟩ := D
      obtain ⟨w3, rfl⟩ : ∃ w3, w3 = u := ⟨_, rfl⟩
      have KA : SBox w3 b1 q3 1 cq3 1 1 p3 1 c3 := hsa
      have KB : NBoxF w3 b2 (surpJ kdF 1 (fun _ => wholeF 0) (fun _ => wholeF 1) (newR 2 1)) (spreadJ kdF 1 (squareJ kdF 1 fun _ _ => itF 1) (fun _ => wholeF 1) (newR 1 1)) := hsb
      have HD3 : Rw 3 cellsF w3 (.slice q3 1 cq3) (linJ 1 (upXJ kdF 1 (fun _ => wholeF 0) (squareJ kdF 1 fun _ _ => itF 1) (fun _ => wholeF 1) (newR 1 1) (newR 2 1))) ∧ Mx 3 cellsF w3 1 1 p3 1 c3 (upPJ kdF (fun i j => wholeF (unitI i j)) 1 (squareJ kdF 1 fun _ _ => itF 1) (fun _ => wholeF 1) (newR 1 1)) := hdat
      have BQ : Bl w w3 := B2.trans hu
      have KS : SBox w3 b q1 1 cq1 1 1 p2 1 c2 := ks.later hu
      rw [ex9_a] at KB
      obtain ⟨gx, ox, hgx, CX⟩ := rw_cells9F HD3.1 (by decide)
      subst hgx
      have AT := hideP (fun z : Wl w3 => by have := mAtF 1 1 p3 1 c3 _ z.w (Mx.later HD3.2 z.bl) 0 0 (by decide) (by decide); rw [ex9_p] at this; exact this)
      have RT := hideP (fun z : Wl w3 => by have := jRightF q1 1 cq1 1 1 p2 1 c2 z.w; rw [show fitJ 1 1 1 ((1 : Nat) : Int) = true from rfl] at this; exact this)
      have CX0 := fun (z : Wl w3) => CX z.w z.bl 0 (by decide)
      rw [ex9_x] at CX0
      obtain ⟨R, hR⟩ : ∃ R : Int → Int → Fr, R = newR := ⟨_, rfl⟩
      have NW := hideP (fun n d (z : Wl w3) => by have := new_any n d z.w; rw [← hR] at this; exact this)
      rw [← hR] at KB AT CX0
      have x0 : ∀ z : Wl w3, z.w.cell? ⟨gx, ox, none⟩ = some (.int .i64 (R 1 1).n) := fun z => by simpa using (CX0 z).1
      have x1 : ∀ z : Wl w3, z.w.cell? ⟨gx, ox + 1, none⟩ = some (.int .i64 (R 1 1).d) := fun z => by simpa using (CX0 z).2.1
      have x2 : ∀ z : Wl w3, z.w.cell? ⟨gx, ox + 2, none⟩ = some (.bool (R 1 1).bad) := fun z => by simpa using (CX0 z).2.2
      have t0 := fun z : Wl w3 => (KA.later z.bl).c0
      have t1 := fun z : Wl w3 => (KA.later z.bl).c1
      have t2 := fun z : Wl w3 => (KA.later z.bl).c2
      have t3 := fun z : Wl w3 => (KA.later z.bl).c3
      have s0 := fun z : Wl w3 => (KS.later z.bl).c0
      have s1 := fun z : Wl w3 => (KS.later z.bl).c1
      have s2 := fun z : Wl w3 => (KS.later z.bl).c2
      have s3 := fun z : Wl w3 => (KS.later z.bl).c3
      have m3 := fun z : Wl w3 => (KB.later z.bl).c3
      have m4 := fun z : Wl w3 => (KB.later z.bl).c4
      have m5 := fun z : Wl w3 => (KB.later z.bl).c5
      have q11 := eql_selfV (R 1 1)
      have q12 := eql_selfV (R 1 2)
      have q21 := eql_selfV (R 2 1)
      have wne := wl_ne w3
      clear hsa hsb hdat HD3 CX CX0 KA KB KS ks hR k1 HR HM
      go_wp2_with fail
      refine wl_region w3 (Bl.refl _) (by kernel_rfl) (by kernel_rfl) ?_
      repeat (go_big_quiet_step (first | (go_at_call 34; exact wl_call (NW.out _ _ _)) | (go_at_call 63; exact wl_call (AT.out _)) | (go_at_call 76; exact wl_call (RT.out _))))
      refine wpQuiet_nil ?_
      intro _ hw'
      obtain ⟨z, hw''⟩ := hw'
      subst hw''
      clear wne x0 x1 x2 t0 t1 t2 t3 s0 s1 s2 s3 m3 m4 m5
      obtain ⟨wz, hz⟩ := z
      dsimp only
      go_wp2
      go_ret
      exact ⟨rfl, BQ.trans hz⟩
end Go.Proofs.YthnadgbloamlaaaGreat
