/- Few of layer 9's laws. Written by genJf.py. -/
import Derived.Test.YthnadgbloamlaaaJC
import Derived.Test.YthnadgbloamlaaaWlr
import Derived.Test.YthnadgbloamlaaaJA
/- awake of layer 9's laws. Written by genJw.py. -/
namespace Go.Proofs.Ythnadgbloamlaaa
open Go.RowKit
set_option linter.unusedSimpArgs false
set_option linter.unusedVariables false

theorem Try.build1J (x : Int) (u : World) : (Instr.buildSlice 22 1 #[(0, .int .i64 x)]).run Try.prog u = .ok (.slice (some ⟨u.heap.size, 0, none⟩) 1 1) (u.alloc (.cells #[.int .i64 x] 3)) := by kernel_rfl
theorem rq_one9 (u : World) (x : Int) (t : TypeId) : Rq 1 cI (u.alloc (.cells #[.int .i64 x] t)) (.slice (some ⟨u.heap.size, 0, none⟩) 1 1) (linJ 1 fun _ => x) := by
  refine .inr ⟨u.heap.size, 0, 1, rfl, Nat.le_refl _, by simp, fun j v hj k s hu => ?_⟩
  rcases j with _ | j
  · simp [linJ] at hj
    subst hj
    rcases k with _ | k
    · simp at hu
      subst hu
      simp [go_sem]
    · simp at hu
  · simp [linJ] at hj
theorem whole11 (w : World) (t : TypeId) (b0 : Nat) (hb0 : b0 = w.heap.size) : Calls Try.prog 20 #[.int .i64 1, .int .i64 1, .slice (some ⟨b0, 0, none⟩) 1 1] (w.alloc (.cells #[.int .i64 1] t))
    fun e w' => ∃ p' cap', e = .returned (.tuple #[mV 1 1 p' 1 cap', .bool true]) ∧ Mx 3 cellsF w' 1 1 p' 1 cap' (fun _ _ => itF 1) ∧ Bl (w.alloc (.cells #[.int .i64 1] t)) w' := by
  subst hb0
  refine (mWholeF 1 1 _ 1 1 [1] _ (rq_one9 w 1 t) (by decide) rfl).mono ?_
  rintro e w' ⟨p', cap', rfl, hr, hb⟩
  exact ⟨p', cap', rfl, ⟨⟨by omega, by omega, by omega, by omega⟩, rfl, hr.q⟩, hb⟩
theorem ex9_x : (upXJ kdF 1 (fun _ => wholeF 0) (squareJ kdF 1 fun _ _ => itF 1) (fun _ => wholeF 1) (newR 1 1) (newR 2 1)) 0 = newR 1 1 := by kernel_rfl
theorem ex9_p : (upPJ kdF (fun i j => wholeF (unitI i j)) 1 (squareJ kdF 1 fun _ _ => itF 1) (fun _ => wholeF 1) (newR 1 1)) 0 0 = newR 1 2 := by kernel_rfl
theorem ex9_a : spreadJ kdF 1 (squareJ kdF 1 fun _ _ => itF 1) (fun _ => wholeF 1) (newR 1 1) = newR 2 1 := by kernel_rfl
theorem rw_cells9F {w : World} {p : Option Addr} {n cap : Nat} {x : Nat → Fr} (h : Rw 3 cellsF w (.slice p n cap) (linJ n x)) (h1 : 1 ≤ n) : ∃ g o, p = some ⟨g, o, none⟩ ∧ ∀ u, Bl w u → ∀ k, k < n → u.cell? ⟨g, o + k * 3, none⟩ = some (.int .i64 (x k).n) ∧ u.cell? ⟨g, o + k * 3 + 1, none⟩ = some (.int .i64 (x k).d) ∧ u.cell? ⟨g, o + k * 3 + 2, none⟩ = some (.bool (x k).bad) := by
  rcases h with ⟨_, e⟩ | ⟨g, o, c, e, _, hlt, hx⟩
  · have := congrArg List.length e
    rw [linJ_len] at this
    simp at this
    omega
  · simp only [Value.slice.injEq] at e
    refine ⟨g, o, e.1, fun u hu k hk => ?_⟩
    have H := fun i v (hi : (cellsF (x k))[i]? = some v) => (bl_cell hu _ _ hlt).trans (hx k _ (linJ_get x hk) i v hi)
    exact ⟨H 0 _ rfl, H 1 _ rfl, H 2 _ rfl⟩
set_option maxRecDepth 100000 in
set_option maxHeartbeats 4000000 in
theorem awake9_any (w : World) : Calls Try.prog 7 #[] w fun e w' => e = .returned (.bool true) ∧ Bl w w' := by
  have fm : Try.prog.follows .mixedOrders = true := by kernel_rfl
  have egW := enters_of Try.func9 (by kernel_rfl) rfl
  have egN := enters_of Try.func23 (by kernel_rfl) rfl
  have egU := enters_of Try.func10 (by kernel_rfl) rfl
  have egQ := enters_of Try.func11 (by kernel_rfl) rfl
  go_enter Try.func7, Try.ntmps7
  go_wp2_with fail
  refine (whole11 w _ _ rfl).mono ?_
  rintro e w1 ⟨p1, c1, rfl, hx, h1⟩
  obtain ⟨W1, hW1⟩ : ∃ W1, W1 = w1.alloc (.cells #[.int .i64 1, .int .i64 1, .slice p1 1 c1] 29) := ⟨_, rfl⟩
  have b1 : Bl w1 W1 := by rw [hW1]; exact (Bl.refl _).alloc _
  have k1 : MBox W1 w1.heap.size 1 1 p1 1 c1 := by rw [hW1]; exact MBox.new w1 _ _ _ _ _ _
  have B1 : Bl w W1 := (((Bl.refl w).alloc _).trans h1).trans b1
  have HX := hideP (Mx.later hx b1)
  have HW1 := hideP hW1
  clear hW1 hx
  go_wp2_with fail
  rw [← HW1.out]
  refine (wpIn_wide (n := 8)).1 (region_q fm [some 14, some 15, some 16, some 17, some 13, some 18, some 19, some 3, none, some 4] (fun j => j == 6 || j == 9) 8 (by kernel_rfl) (by rfl)
      (fun j v u => match j with | 0 => ∃ g, v = .slice (some ⟨g, 0, none⟩) 1 1 ∧ Rq 1 cI u (.slice (some ⟨g, 0, none⟩) 1 1) (linJ 1 fun _ => 0) | 1 => ∃ q c, v = .slice q 1 c ∧ Rw 3 cellsF u (.slice q 1 c) (linJ 1 fun _ => wholeF 0) | 2 => v = mV 1 1 p1 1 c1 | 3 => ∃ q c p' c', v = .tuple #[sJ q (1) c (1 : Nat) (1 : Nat) p' (1) c', .bool true] ∧ Rw 3 cellsF u (.slice q (1) c) (linJ (1) (fun _ => wholeF 0)) ∧ Mx 3 cellsF u (1) (1) p' (1) c' (squareJ kdF 1 fun _ _ => itF 1) | 4 => ∃ q c p' c', v = .tuple #[sJ q (1) c (1 : Nat) (1 : Nat) p' (1) c', .bool true] ∧ Rw 3 cellsF u (.slice q (1) c) (linJ (1) (fun _ => wholeF 0)) ∧ Mx 3 cellsF u (1) (1) p' (1) c' (squareJ kdF 1 fun _ _ => itF 1) | 5 => ∃ q c p' c', v = sJ q (1) c (1 : Nat) (1 : Nat) p' (1) c' ∧ Rw 3 cellsF u (.slice q (1) c) (linJ (1) (fun _ => wholeF 0)) ∧ Mx 3 cellsF u (1) (1) p' (1) c' (squareJ kdF 1 fun _ _ => itF 1) | 6 => v = .bool true | 7 => ∃ b, v = .pointer (some ⟨b, 0, none⟩) ∧ W1.heap.size ≤ b ∧ SBox u b none 0 0 0 0 none 0 0 ∧ NoB u b | 9 => v = .bool true | _ => False)
      (by
        intro j v u u' hb h
        split at h <;> first | exact h | (obtain ⟨b, e, h1, h2, h3⟩ := h; exact ⟨b, e, h1, h2.later hb, h3.later hb h2.lt⟩) | (obtain ⟨q, c, p', c', e, h1, h2⟩ := h; exact ⟨q, c, p', c', e, h1.later hb, Mx.later h2 hb⟩) | (obtain ⟨q, c, e, h1⟩ := h; exact ⟨q, c, e, h1.later hb⟩) | (obtain ⟨g, e, h1⟩ := h; exact ⟨g, e, h1.later hb⟩)) (fun vs u0 u => ∃ b q c p' c', vs 7 = .pointer (some ⟨b, 0, none⟩) ∧ W1.heap.size ≤ b ∧ SBox u b q (1) c (1 : Nat) (1 : Nat) p' (1) c' ∧ Rw 3 cellsF u (.slice q (1) c) (linJ (1) (fun _ => wholeF 0)) ∧ Mx 3 cellsF u (1) (1) p' (1) c' (squareJ kdF 1 fun _ _ => itF 1) ∧ Bl W1 u) ?step ?still ?store ?fin)
  case step =>
    intro j o t act u ho hdt hpu hsz hu hfr hin
    have hj : j < 10 := (Array.getElem?_eq_some_iff.1 ho).1
    obtain ⟨y0, y1, y2, _, _, _, _⟩ := k1.later hu
    rcases (by omega : j = 0 ∨ j = 1 ∨ j = 2 ∨ j = 3 ∨ j = 4 ∨ j = 5 ∨ j = 6 ∨ j = 7 ∨ j = 8 ∨ j = 9) with rfl | rfl | rfl | rfl | rfl | rfl | rfl | rfl | rfl | rfl
    · simp only [List.getElem?_toArray, List.getElem?_cons_zero, List.getElem?_cons_succ, Option.some.injEq] at ho
      subst ho
      obtain rfl := Option.some.inj hdt
      refine build_wp _ _ rfl (Try.build1J 0 u) ?_
      exact ⟨_, rfl, ⟨u.heap.size, rfl, rq_one9 u 0 _⟩, (Bl.refl _).alloc _⟩
    · simp only [List.getElem?_toArray, List.getElem?_cons_zero, List.getElem?_cons_succ, Option.some.injEq] at ho
      subst ho
      obtain rfl := Option.some.inj hdt
      have i14 : ∃ g, (act.eval (.tmp (14 : Nat))) = .slice (some ⟨g, 0, none⟩) 1 1 ∧ Rq 1 cI u (.slice (some ⟨g, 0, none⟩) 1 1) (linJ 1 fun _ => 0) := hin ⟨0, .data⟩ (by simp) rfl 14 rfl
      obtain ⟨g0, e0, hg⟩ := i14
      refine enter_wp 9 #[.slice (some ⟨g0, 0, none⟩) 1 1] (by intro c h; cases h) (fun _ _ => trivial) (by simp only [execOp, evalC, evalF, evalG, resolve, e0, List.map_toArray, List.map_cons, List.map_nil]; simp [invoke, egW, Result.andThen, go_sem]) (by intro h; cases h) (callsIn_wide.2 (whole_linF _ 1 1 (fun _ => 0) u hg (by decide))) ?_
      rintro e w' ⟨q, c, rfl, hR, hb⟩
      exact ⟨_, rfl, _, rfl, ⟨q, c, rfl, hR⟩, hb⟩
    · simp only [List.getElem?_toArray, List.getElem?_cons_zero, List.getElem?_cons_succ, Option.some.injEq] at ho
      subst ho
      obtain rfl := Option.some.inj hdt
      have i1 : act.eval (.tmp (1 : Nat)) = .pointer (some ⟨w1.heap.size, 0, none⟩) := hfr 1 (by decide)
      exact plain_wp (by intro c h; cases h) (fun _ _ => trivial) (by simp only [execOp, i1, evalC, evalF, evalG]; simp [go_sem, y0, y1, y2]) ⟨_, rfl, rfl, Bl.refl _⟩
    · simp only [List.getElem?_toArray, List.getElem?_cons_zero, List.getElem?_cons_succ, Option.some.injEq] at ho
      subst ho
      obtain rfl := Option.some.inj hdt
      have i15 : ∃ q c, (act.eval (.tmp (15 : Nat))) = .slice q 1 c ∧ Rw 3 cellsF u (.slice q 1 c) (linJ 1 fun _ => wholeF 0) := hin ⟨1, .data⟩ (by simp) rfl 15 rfl
      have i16 : (act.eval (.tmp (16 : Nat))) = mV 1 1 p1 1 c1 := hin ⟨2, .data⟩ (by simp) rfl 16 rfl
      obtain ⟨q0, c0, e0, hq⟩ := i15
      refine enter_wp 23 #[.slice q0 1 c0, mV 1 1 p1 1 c1] (by intro c h; cases h) (fun _ _ => trivial) (by simp only [execOp, evalC, evalF, evalG, resolve, e0, i16, List.map_toArray, List.map_cons, List.map_nil]; simp [invoke, egN, Result.andThen, go_sem]) (by intro h; cases h) (callsIn_wide.2 (jNewF 1 q0 c0 (fun _ => wholeF 0) p1 1 c1 (fun _ _ => itF 1) u hq.q (HX.out.later hu) (by decide))) ?_
      rintro e w' ⟨q, c, p', c', rfl, ⟨hR, hM⟩, hb⟩
      exact ⟨_, rfl, _, rfl, ⟨q, c, p', c', rfl, hR, hM⟩, hb⟩
    · simp only [List.getElem?_toArray, List.getElem?_cons_zero, List.getElem?_cons_succ, Option.some.injEq] at ho
      subst ho
      obtain rfl := Option.some.inj hdt
      have i17 : ∃ q c p' c', (act.eval (.tmp (17 : Nat))) = .tuple #[sJ q (1) c (1 : Nat) (1 : Nat) p' (1) c', .bool true] ∧ Rw 3 cellsF u (.slice q (1) c) (linJ (1) (fun _ => wholeF 0)) ∧ Mx 3 cellsF u (1) (1) p' (1) c' (squareJ kdF 1 fun _ _ => itF 1) := hin ⟨3, .data⟩ (by simp) rfl 17 rfl
      obtain ⟨q0, c0', p0, c0, e1, hq1, hq2⟩ := i17
      exact plain_wp (by intro c h; cases h) (fun _ _ => trivial) (by simp only [execOp, e1]; simp [go_sem]) ⟨_, rfl, ⟨q0, c0', p0, c0, rfl, hq1, hq2⟩, Bl.refl _⟩
    · simp only [List.getElem?_toArray, List.getElem?_cons_zero, List.getElem?_cons_succ, Option.some.injEq] at ho
      subst ho
      obtain rfl := Option.some.inj hdt
      have i13 : ∃ q c p' c', (act.eval (.tmp (13 : Nat))) = .tuple #[sJ q (1) c (1 : Nat) (1 : Nat) p' (1) c', .bool true] ∧ Rw 3 cellsF u (.slice q (1) c) (linJ (1) (fun _ => wholeF 0)) ∧ Mx 3 cellsF u (1) (1) p' (1) c' (squareJ kdF 1 fun _ _ => itF 1) := hin ⟨4, .data⟩ (by simp) rfl 13 rfl
      obtain ⟨q0, c0', p0, c0, e1, hq1, hq2⟩ := i13
      exact plain_wp (by intro c h; cases h) (fun _ _ => trivial) (by simp only [execOp, e1]; simp [go_sem]) ⟨_, rfl, ⟨q0, c0', p0, c0, rfl, hq1, hq2⟩, Bl.refl _⟩
    · cases hpu
    · simp only [List.getElem?_toArray, List.getElem?_cons_zero, List.getElem?_cons_succ, Option.some.injEq] at ho
      subst ho
      obtain rfl := Option.some.inj hdt
      exact plain_wp (by intro c h; cases h) (fun _ _ => trivial) (w' := u.alloc (.cells #[.slice none 0 0, .int .i64 0, .int .i64 0, .slice none 0 0] 31)) (v := .pointer (some ⟨u.heap.size, 0, none⟩)) (by simp only [execOp]; simp [go_sem]) ⟨_, rfl, ⟨u.heap.size, rfl, hu.size, SBox.new u _ _ _ _ _ _ _ _ _, noB_newSF u _⟩, (Bl.refl _).alloc _⟩
    · simp only [List.getElem?_toArray, List.getElem?_cons_zero, List.getElem?_cons_succ, Option.some.injEq] at ho
      subst ho
      cases hdt
    · cases hpu
  case still =>
    intro j o t act u0 u ho hdt hpu hsz hu hfr hin
    have hj : j < 10 := (Array.getElem?_eq_some_iff.1 ho).1
    obtain ⟨y0, y1, y2, _, _, _, _⟩ := k1.later hu
    rcases (by omega : j = 0 ∨ j = 1 ∨ j = 2 ∨ j = 3 ∨ j = 4 ∨ j = 5 ∨ j = 6 ∨ j = 7 ∨ j = 8 ∨ j = 9) with rfl | rfl | rfl | rfl | rfl | rfl | rfl | rfl | rfl | rfl
    · cases hpu
    · cases hpu
    · cases hpu
    · cases hpu
    · cases hpu
    · cases hpu
    · simp only [List.getElem?_toArray, List.getElem?_cons_zero, List.getElem?_cons_succ, Option.some.injEq] at ho
      subst ho
      obtain rfl := Option.some.inj hdt
      have i13 : ∃ q c p' c', (act.eval (.tmp (13 : Nat))) = .tuple #[sJ q (1) c (1 : Nat) (1 : Nat) p' (1) c', .bool true] ∧ Rw 3 cellsF u0 (.slice q (1) c) (linJ (1) (fun _ => wholeF 0)) ∧ Mx 3 cellsF u0 (1) (1) p' (1) c' (squareJ kdF 1 fun _ _ => itF 1) := hin ⟨4, .data⟩ (by simp) rfl 13 rfl
      obtain ⟨q0, c0', p0, c0, e1, hq1, hq2⟩ := i13
      exact plain_wp (by intro c h; cases h) (fun _ _ => trivial) (by simp only [execOp, e1]; simp [go_sem]) ⟨_, rfl, rfl, rfl⟩
    · cases hpu
    · cases hpu
    · simp only [List.getElem?_toArray, List.getElem?_cons_zero, List.getElem?_cons_succ, Option.some.injEq] at ho
      subst ho
      obtain rfl := Option.some.inj hdt
      have i19 : (act.eval (.tmp (19 : Nat))) = .bool true := hin ⟨6, .data⟩ (by simp) rfl 19 rfl
      exact plain_wp (by intro c h; cases h) (fun _ _ => trivial) (by simp only [execOp, i19, evalC, evalF, evalG]; simp [go_sem]) ⟨_, rfl, rfl, rfl⟩
  case store =>
    intro o act u vs ho hsz hu hfr hin
    simp only [List.getElem?_toArray, List.getElem?_cons_zero, List.getElem?_cons_succ, Option.some.injEq] at ho
    subst ho
    obtain ⟨i3, k3⟩ : act.eval (.tmp (3 : Nat)) = vs 7 ∧ (∃ b, (vs 7) = .pointer (some ⟨b, 0, none⟩) ∧ W1.heap.size ≤ b ∧ SBox u b none 0 0 0 0 none 0 0 ∧ NoB u b) := hin 7 3 rfl rfl
    obtain ⟨i18, k18⟩ : act.eval (.tmp (18 : Nat)) = vs 5 ∧ (∃ q c p' c', (vs 5) = sJ q (1) c (1 : Nat) (1 : Nat) p' (1) c' ∧ Rw 3 cellsF u (.slice q (1) c) (linJ (1) (fun _ => wholeF 0)) ∧ Mx 3 cellsF u (1) (1) p' (1) c' (squareJ kdF 1 fun _ _ => itF 1)) := hin 5 18 rfl rfl
    obtain ⟨b, e1, hb, bx, nb⟩ := k3
    obtain ⟨q0, c0', p0, c0, e2, hq1, hq2⟩ := k18
    rw [e1] at i3
    rw [e2] at i18
    obtain ⟨d0, d1, d2, d3, g0, g1, g2, g3, ltb⟩ := id bx
    exact skip_wp (by intro c h; cases h) (fun _ _ => trivial) (by simp only [execOp, i3, i18]; simp [go_sem, d0, d1, d2, d3, g0, g1, g2, g3]) ⟨rfl, b, q0, c0', p0, c0, e1, hb, bx.fill _ _ _ _ _ _ _ _, hq1.but (but4F _ _ _ _ _ _) (fun g hg => noB_rwF hq1 (by decide) nb g hg), Mx.but hq2 (but4F _ _ _ _ _ _) (fun g hg => Ne.symm (noB_mx boolF hq2 nb g hg)), Bl.put4 hu hb _ _ _ _⟩
  case fin =>
    intro vs vb u0 u hu hin hps
    have a0 := hin 0 14 rfl
    have a1 := hin 1 15 rfl
    have a2 := hin 2 16 rfl
    have a3 := hin 3 17 rfl
    have a4 := hin 4 13 rfl
    have a5 := hin 5 18 rfl
    have a6 := hin 6 19 rfl
    have a7 := hin 7 3 rfl
    have a9 := hin 9 4 rfl
    simp only [putL, Act.put, List.setIfInBounds_toArray, List.set_cons_zero, List.set_cons_succ, Nat.zero_add, Nat.reduceAdd, Nat.reduceBEq, Bool.or_false, Bool.or_true, Bool.false_or, Bool.true_or, Bool.false_eq_true, if_false, if_true, reduceIte, Nat.reduceEqDiff, beq_self_eq_true, Bool.or_self] at a0 a1 a2 a3 a4 a5 a6 a7 a9 ⊢
    rw [if_pos (by decide)] at hps
    simp only [a2, a6, a9]
    obtain ⟨b, q1, cq1, p2, c2, eb, hb, ks, hR, hM, hbu⟩ := hps
    simp only [eb]
    obtain ⟨w2, rfl⟩ : ∃ w2, w2 = u := ⟨_, rfl⟩
    have HR := hideP hR
    have HM := hideP hM
    clear a0 a1 a3 a4 a5 a7 hu hin hR hM
    have B2 : Bl w w2 := B1.trans hbu
    go_wp2_with fail
    refine (wpIn_wide (n := 8)).1 (region_u (updF_ok (1) (1) (upXJ kdF 1 (fun _ => wholeF 0) (squareJ kdF 1 fun _ _ => itF 1) (fun _ => wholeF 1) (newR 1 1) (newR 2 1)) (upPJ kdF (fun i j => wholeF (unitI i j)) 1 (squareJ kdF 1 fun _ _ => itF 1) (fun _ => wholeF 1) (newR 1 1)) (surpJ kdF 1 (fun _ => wholeF 0) (fun _ => wholeF 1) (newR 2 1)) (spreadJ kdF 1 (squareJ kdF 1 fun _ _ => itF 1) (fun _ => wholeF 1) (newR 1 1))) fm [some 21, some 22, some 23, some 24, some 25, some 26, some 20, some 27, some 28, some 29, some 5, some 6, none, none, some 7] 5 (by kernel_rfl) (by rfl) 26 20 27 28 29 5 6 7 rfl
          (fun j v u => match j with | 0 => v = sJ q1 1 cq1 1 1 p2 1 c2 | 1 => ∃ g, v = .slice (some ⟨g, 0, none⟩) 1 1 ∧ Rq 1 cI u (.slice (some ⟨g, 0, none⟩) 1 1) (linJ 1 fun _ => 1) | 2 => ∃ q c, v = .slice q 1 c ∧ Rw 3 cellsF u (.slice q 1 c) (linJ 1 fun _ => wholeF 1) | 3 => v = frV (newR 1 1) | 4 => v = frV (newR 2 1) | _ => False)
          (by
            intro j v u u' hb h
            split at h <;> first | exact h | (obtain ⟨q, c, e, h1⟩ := h; exact ⟨q, c, e, h1.later hb⟩) | (obtain ⟨g, e, h1⟩ := h; exact ⟨g, e, h1.later hb⟩)) ?step ?call ?mv ?x0 ?x1 ?x2 ?la ?lb ?sa ?sb ?asg ?fin)
    case step =>
      intro j o t act u hjk ho hdt hsz hu hfr hin
      obtain ⟨s0, s1, s2, s3, _, _, _, _, _⟩ := ks.later hu
      rcases (by omega : j = 0 ∨ j = 1 ∨ j = 2 ∨ j = 3 ∨ j = 4) with rfl | rfl | rfl | rfl | rfl
      · simp only [List.getElem?_toArray, List.getElem?_cons_zero, List.getElem?_cons_succ, Option.some.injEq] at ho
        subst ho
        obtain rfl := Option.some.inj hdt
        have i3 : act.eval (.tmp (3 : Nat)) = .pointer (some ⟨b, 0, none⟩) := hfr 3 (by decide)
        exact plain_wp (by intro c h; cases h) (fun _ _ => trivial) (by simp only [execOp, i3, evalC, evalF, evalG]; simp [go_sem, s0, s1, s2, s3]) ⟨_, rfl, rfl, Bl.refl _⟩
      · simp only [List.getElem?_toArray, List.getElem?_cons_zero, List.getElem?_cons_succ, Option.some.injEq] at ho
        subst ho
        obtain rfl := Option.some.inj hdt
        refine build_wp _ _ rfl (Try.build1J 1 u) ?_
        exact ⟨_, rfl, ⟨u.heap.size, rfl, rq_one9 u 1 _⟩, (Bl.refl _).alloc _⟩
      · simp only [List.getElem?_toArray, List.getElem?_cons_zero, List.getElem?_cons_succ, Option.some.injEq] at ho
        subst ho
        obtain rfl := Option.some.inj hdt
        have i22 : ∃ g, (act.eval (.tmp (22 : Nat))) = .slice (some ⟨g, 0, none⟩) 1 1 ∧ Rq 1 cI u (.slice (some ⟨g, 0, none⟩) 1 1) (linJ 1 fun _ => 1) := hin ⟨1, .data⟩ (by simp) rfl 22 rfl
        obtain ⟨g0, e0, hg⟩ := i22
        refine enter_wp 9 #[.slice (some ⟨g0, 0, none⟩) 1 1] (by intro c h; cases h) (fun _ _ => trivial) (by simp only [execOp, evalC, evalF, evalG, resolve, e0, List.map_toArray, List.map_cons, List.map_nil]; simp [invoke, egW, Result.andThen, go_sem]) (by intro h; cases h) (callsIn_wide.2 (whole_linF _ 1 1 (fun _ => 1) u hg (by decide))) ?_
        rintro e w' ⟨q, c, rfl, hR, hb⟩
        exact ⟨_, rfl, _, rfl, ⟨q, c, rfl, hR⟩, hb⟩
      · simp only [List.getElem?_toArray, List.getElem?_cons_zero, List.getElem?_cons_succ, Option.some.injEq] at ho
        subst ho
        obtain rfl := Option.some.inj hdt
        refine enter_wp 11 #[.int .i64 1, .int .i64 1] (by intro c h; cases h) (fun _ _ => trivial) (by simp only [execOp, evalC, evalF, evalG, resolve, evalC, List.map_toArray, List.map_cons, List.map_nil]; simp [invoke, egQ, Result.andThen, go_sem]) (by intro h; cases h) (callsIn_wide.2 (new_any 1 1 u)) ?_
        rintro e w' ⟨rfl, hb⟩
        exact ⟨_, rfl, _, rfl, rfl, hb⟩
      · simp only [List.getElem?_toArray, List.getElem?_cons_zero, List.getElem?_cons_succ, Option.some.injEq] at ho
        subst ho
        obtain rfl := Option.some.inj hdt
        refine enter_wp 11 #[.int .i64 2, .int .i64 1] (by intro c h; cases h) (fun _ _ => trivial) (by simp only [execOp, evalC, evalF, evalG, resolve, evalC, List.map_toArray, List.map_cons, List.map_nil]; simp [invoke, egQ, Result.andThen, go_sem]) (by intro h; cases h) (callsIn_wide.2 (new_any 2 1 u)) ?_
        rintro e w' ⟨rfl, hb⟩
        exact ⟨_, rfl, _, rfl, rfl, hb⟩
    case call =>
      intro o act u ho hsz hu hfr hin
      obtain ⟨s0, s1, s2, s3, _, _, _, _, _⟩ := ks.later hu
      simp only [List.getElem?_toArray, List.getElem?_cons_zero, List.getElem?_cons_succ, Option.some.injEq, Nat.reduceAdd] at ho
      subst ho
      have i21 : (act.eval (.tmp (21 : Nat))) = sJ q1 1 cq1 1 1 p2 1 c2 := hin ⟨0, .data⟩ (by simp) rfl 21 rfl
      have i23 : ∃ q c, (act.eval (.tmp (23 : Nat))) = .slice q 1 c ∧ Rw 3 cellsF u (.slice q 1 c) (linJ 1 fun _ => wholeF 1) := hin ⟨2, .data⟩ (by simp) rfl 23 rfl
      have i24 : (act.eval (.tmp (24 : Nat))) = frV (newR 1 1) := hin ⟨3, .data⟩ (by simp) rfl 24 rfl
      have i25 : (act.eval (.tmp (25 : Nat))) = frV (newR 2 1) := hin ⟨4, .data⟩ (by simp) rfl 25 rfl
      obtain ⟨q0, c0, e0, hq⟩ := i23
      refine enter_wp 10 #[sJ q1 1 cq1 1 1 p2 1 c2, .slice q0 1 c0, frV (newR 1 1), frV (newR 2 1)] (by intro c h; cases h) (fun _ _ => trivial) (by simp only [execOp, evalC, evalF, evalG, resolve, i21, e0, i24, i25, List.map_toArray, List.map_cons, List.map_nil]; simp [invoke, egU, Result.andThen, go_sem]) (by intro h; cases h) (callsIn_wide.2 (jUpdateF 1 1 q1 cq1 (fun _ => wholeF 0) p2 c2 (squareJ kdF 1 fun _ _ => itF 1) q0 c0 (fun _ => wholeF 1) (newR 1 1) (newR 2 1) u (HR.out.later hu).q (HM.out.later hu) hq.q (by decide))) ?_
      rintro e w' ⟨q, c, p', c', rfl, ⟨hR, hM, hF1, hF2⟩, hb⟩
      exact ⟨_, rfl, (q, c, p', c'), rfl, ⟨hR, hM⟩, hb, fun b hb' _ => ⟨fun g hg => by have := hF1 g hg; omega, fun g hg => by have := hF2 g hg; omega⟩⟩
    case mv =>
      intro o act u x ho hx
      simp only [List.getElem?_toArray, List.getElem?_cons_zero, List.getElem?_cons_succ, Option.some.injEq, Nat.reduceAdd] at ho
      subst ho
      exact plain_wp (by intro c h; cases h) (fun _ _ => trivial) (by simp only [execOp, hx]; simp [go_sem]) ⟨rfl, rfl⟩
    case x0 =>
      intro o act u x y z ho hx
      simp only [List.getElem?_toArray, List.getElem?_cons_zero, List.getElem?_cons_succ, Option.some.injEq, Nat.reduceAdd] at ho
      subst ho
      exact plain_wp (by intro c h; cases h) (fun _ _ => trivial) (by simp only [execOp, hx]; simp [go_sem]) ⟨rfl, rfl⟩
    case x1 =>
      intro o act u x y z ho hx
      simp only [List.getElem?_toArray, List.getElem?_cons_zero, List.getElem?_cons_succ, Option.some.injEq, Nat.reduceAdd] at ho
      subst ho
      exact plain_wp (by intro c h; cases h) (fun _ _ => trivial) (by simp only [execOp, hx]; simp [go_sem]) ⟨rfl, rfl⟩
    case x2 =>
      intro o act u x y z ho hx
      simp only [List.getElem?_toArray, List.getElem?_cons_zero, List.getElem?_cons_succ, Option.some.injEq, Nat.reduceAdd] at ho
      subst ho
      exact plain_wp (by intro c h; cases h) (fun _ _ => trivial) (by simp only [execOp, hx]; simp [go_sem]) ⟨rfl, rfl⟩
    case la =>
      intro o act u ho
      simp only [List.getElem?_toArray, List.getElem?_cons_zero, List.getElem?_cons_succ, Option.some.injEq, Nat.reduceAdd] at ho
      subst ho
      exact plain_wp (by intro c h; cases h) (fun _ _ => trivial) (w' := u.alloc (.cells #[.slice none 0 0, .int .i64 0, .int .i64 0, .slice none 0 0] 31)) (v := .pointer (some ⟨u.heap.size, 0, none⟩)) (by simp only [execOp]; simp [go_sem]) ⟨rfl, SBox.new u _ _ _ _ _ _ _ _ _, (Bl.refl _).alloc _, by simp⟩
    case lb =>
      intro o act u ho
      simp only [List.getElem?_toArray, List.getElem?_cons_zero, List.getElem?_cons_succ, Option.some.injEq, Nat.reduceAdd] at ho
      subst ho
      exact plain_wp (by intro c h; cases h) (fun _ _ => trivial) (w' := u.alloc (.cells #[.int .i64 0, .int .i64 0, .bool false, .int .i64 0, .int .i64 0, .bool false] 37)) (v := .pointer (some ⟨u.heap.size, 0, none⟩)) (by simp only [execOp]; simp [go_sem]) ⟨rfl, NBoxF.new u zeroR zeroR _, (Bl.refl _).alloc _, by simp⟩
    case sa =>
      intro o act u D b ho hA h0 hz hdat hoff hbl hb
      simp only [List.getElem?_toArray, List.getElem?_cons_zero, List.getElem?_cons_succ, Option.some.injEq, Nat.reduceAdd] at ho
      subst ho
      obtain ⟨q0, c0, p0, c1⟩ := D
      replace h0 : act.eval (.tmp 27) = sJ q0 (1) c0 (1) (1) p0 (1) c1 := h0
      obtain ⟨d0, d1, d2, d3, g0, g1, g2, g3, lt⟩ := (show SBox u b none 0 0 0 0 none 0 0 from hz)
      exact skip_wp (by intro c h; cases h) (fun _ _ => trivial) (by simp only [execOp, hA, h0]; simp [go_sem, d0, d1, d2, d3, g0, g1, g2, g3]) ⟨rfl, SBox.fill (show SBox u b none 0 0 0 0 none 0 0 from hz) _ _ _ _ _ _ _ _, ⟨hdat.1.but (but4F _ _ _ _ _ _) (fun g hg => hoff.1 g hg), hdat.2.but (but4F _ _ _ _ _ _) (fun g hg => hoff.2 g hg)⟩, Bl.put4 hbl hb _ _ _ _, fun b' h' => heap4F _ h' _ _ _ _, by simp⟩
    case sb =>
      intro o act u D b ho hA h0 hz hdat hoff hbl hb
      simp only [List.getElem?_toArray, List.getElem?_cons_zero, List.getElem?_cons_succ, Option.some.injEq, Nat.reduceAdd] at ho
      subst ho
      obtain ⟨q0, c0, p0, c1⟩ := D
      replace h0 : act.eval (.tmp 28) = newsVF (surpJ kdF 1 (fun _ => wholeF 0) (fun _ => wholeF 1) (newR 2 1)) (spreadJ kdF 1 (squareJ kdF 1 fun _ _ => itF 1) (fun _ => wholeF 1) (newR 1 1)) := h0
      obtain ⟨d0, d1, d2, d3, d4, d5, g0, g1, g2, g3, g4, g5, lt⟩ := (show NBoxF u b zeroR zeroR from hz)
      exact skip_wp (by intro c h; cases h) (fun _ _ => trivial) (by simp only [execOp, hA, h0]; simp [go_sem, d0, d1, d2, d3, d4, d5, g0, g1, g2, g3, g4, g5]) ⟨rfl, NBoxF.fill (show NBoxF u b zeroR zeroR from hz) _ _, ⟨hdat.1.but (butNF _ _ _ _) (fun g hg => hoff.1 g hg), hdat.2.but (butNF _ _ _ _) (fun g hg => hoff.2 g hg)⟩, blNF b hbl hb _ _, fun b' h' => heapNF _ h' _ _, by simp⟩
    case asg =>
      intro o act u x ho hx
      simp only [List.getElem?_toArray, List.getElem?_cons_zero, List.getElem?_cons_succ, Option.some.injEq, Nat.reduceAdd] at ho
      subst ho
      exact plain_wp (by intro c h; cases h) (fun _ _ => trivial) (by simp only [execOp, hx]; simp [go_sem]) ⟨rfl, rfl⟩
    case fin =>
      intro vs u D b1 b2 hu e9' e5' e6' hb1 hb2 hsa hsb hdat
      simp only [putL, Act.put, List.setIfInBounds_toArray, List.set_cons_zero, List.set_cons_succ, Nat.zero_add, Nat.reduceAdd] at e9' e5' e6' ⊢
      replace e9' := Eq.trans e9' (show _ = Value.bool true from rfl)
      simp only [e9', e5', e6']
      obtain ⟨q3, cq3, p3, c3⟩ := D
      obtain ⟨w3, rfl⟩ : ∃ w3, w3 = u := ⟨_, rfl⟩
      have KA : SBox w3 b1 q3 1 cq3 1 1 p3 1 c3 := hsa
      have KB : NBoxF w3 b2 (surpJ kdF 1 (fun _ => wholeF 0) (fun _ => wholeF 1) (newR 2 1)) (spreadJ kdF 1 (squareJ kdF 1 fun _ _ => itF 1) (fun _ => wholeF 1) (newR 1 1)) := hsb
      have HD3 : Rw 3 cellsF w3 (.slice q3 1 cq3) (linJ 1 (upXJ kdF 1 (fun _ => wholeF 0) (squareJ kdF 1 fun _ _ => itF 1) (fun _ => wholeF 1) (newR 1 1) (newR 2 1))) ∧ Mx 3 cellsF w3 1 1 p3 1 c3 (upPJ kdF (fun i j => wholeF (unitI i j)) 1 (squareJ kdF 1 fun _ _ => itF 1) (fun _ => wholeF 1) (newR 1 1)) := hdat
      have BQ : Bl w w3 := B2.trans hu
      have KS : SBox w3 b q1 1 cq1 1 1 p2 1 c2 := ks.later hu
      rw [ex9_a] at KB
      obtain ⟨gx, ox, hgx, CX⟩ := rw_cells9F HD3.1 (by decide)
      subst hgx
      have AT := hideP (fun z : Wl w3 => by have := mAtF 1 1 p3 1 c3 _ z.w (Mx.later HD3.2 z.bl) 0 0 (by decide) (by decide); rw [ex9_p] at this; exact this)
      have RT := hideP (fun z : Wl w3 => by have := jRightF q1 1 cq1 1 1 p2 1 c2 z.w; rw [show fitJ 1 1 1 ((1 : Nat) : Int) = true from rfl] at this; exact this)
      have CX0 := fun (z : Wl w3) => CX z.w z.bl 0 (by decide)
      rw [ex9_x] at CX0
      obtain ⟨R, hR⟩ : ∃ R : Int → Int → Fr, R = newR := ⟨_, rfl⟩
      have NW := hideP (fun n d (z : Wl w3) => by have := new_any n d z.w; rw [← hR] at this; exact this)
      rw [← hR] at KB AT CX0
      have x0 : ∀ z : Wl w3, z.w.cell? ⟨gx, ox, none⟩ = some (.int .i64 (R 1 1).n) := fun z => by simpa using (CX0 z).1
      have x1 : ∀ z : Wl w3, z.w.cell? ⟨gx, ox + 1, none⟩ = some (.int .i64 (R 1 1).d) := fun z => by simpa using (CX0 z).2.1
      have x2 : ∀ z : Wl w3, z.w.cell? ⟨gx, ox + 2, none⟩ = some (.bool (R 1 1).bad) := fun z => by simpa using (CX0 z).2.2
      have t0 := fun z : Wl w3 => (KA.later z.bl).c0
      have t1 := fun z : Wl w3 => (KA.later z.bl).c1
      have t2 := fun z : Wl w3 => (KA.later z.bl).c2
      have t3 := fun z : Wl w3 => (KA.later z.bl).c3
      have s0 := fun z : Wl w3 => (KS.later z.bl).c0
      have s1 := fun z : Wl w3 => (KS.later z.bl).c1
      have s2 := fun z : Wl w3 => (KS.later z.bl).c2
      have s3 := fun z : Wl w3 => (KS.later z.bl).c3
      have m3 := fun z : Wl w3 => (KB.later z.bl).c3
      have m4 := fun z : Wl w3 => (KB.later z.bl).c4
      have m5 := fun z : Wl w3 => (KB.later z.bl).c5
      have q11 := eql_selfV (R 1 1)
      have q12 := eql_selfV (R 1 2)
      have q21 := eql_selfV (R 2 1)
      have wne := wl_ne w3
      clear hsa hsb hdat HD3 CX CX0 KA KB KS ks hR k1 HR HM
      go_wp2_with fail
      refine wl_region w3 (Bl.refl _) (by kernel_rfl) (by kernel_rfl) ?_
      repeat (go_big_quiet_step (first | (go_at_call 11; exact wl_call (NW.out _ _ _)) | (go_at_call 18; exact wl_call (AT.out _)) | (go_at_call 24; exact wl_call (RT.out _))))
      refine wpQuiet_nil ?_
      intro _ hw'
      obtain ⟨z, hw''⟩ := hw'
      subst hw''
      clear wne x0 x1 x2 t0 t1 t2 t3 s0 s1 s2 s3 m3 m4 m5
      obtain ⟨wz, hz⟩ := z
      dsimp only
      go_wp2
      go_ret
      exact ⟨rfl, BQ.trans hz⟩
end Go.Proofs.Ythnadgbloamlaaa

/- Start of layer 9's laws. Written by genJs.py. -/
namespace Go.Proofs.Ythnadgbloamlaaa
open Go.RowKit
set_option linter.unusedSimpArgs false
set_option linter.unusedVariables false

theorem whole9F_call (R C : Nat) (p : Option Addr) (n cap : Nat) (ns : List Int) (w : World) (hr : Rq 1 cI w (.slice p n cap) ns) (hd : Dim R C) (hn : n = R * C) (hl : ns.length = n) :
    Calls Try.prog 20 #[.int .i64 R, .int .i64 C, .slice p n cap] w fun e w' => ∃ p' cap', e = .returned (.tuple #[mV R C p' n cap', .bool true]) ∧ Mx 3 cellsF w' R C p' n cap' (fun i k => wholeF (ofL C ns i k)) ∧ Bl w w' := by
  refine (mWholeF R C p n cap ns w hr (fitB_dim hd hn) hl).mono ?_
  rintro e w' ⟨p', cap', rfl, hR, hb⟩
  refine ⟨p', cap', rfl, ⟨hd, hn, ?_⟩, hb⟩
  have e := ofL_mk (R := R) (M := C) (ns := ns) (by rw [hl, hn])
  rw [e, mk_map] at hR
  exact hR.q
set_option maxRecDepth 100000 in
set_option maxHeartbeats 4000000 in
theorem start9_any (m N : Nat) (r z : Int) (px pr : Option Addr) (cx cr : Nat) (vf vg vh : Value) (X Ro : List Int) (w : World) (oF : vf.oneCell' = true) (oG : vg.oneCell' = true) (oH : vh.oneCell' = true) (hX : Rq 1 cI w (.slice px m cx) X) (hR : Rq 1 cI w (.slice pr N cr) Ro) (lX : X.length = m) (lR : Ro.length = N) (m1 : 1 ≤ m) (m3 : m ≤ 3) (hN : N = m * m) :
    Calls Try.prog 8 #[.agg #[.int .i64 m, .slice px m cx, .slice pr N cr, vf, vg, vh, .int .i64 r, .int .i64 z]] w fun e w' => ∃ q c p' c', e = .returned (sJ q m c m m p' N c') ∧ (Rw 3 cellsF w' (.slice q m c) (linJ m (fun i => wholeF (X.getD i 0))) ∧ Mx 3 cellsF w' m m p' N c' (squareJ kdF m (fun i k => wholeF (ofL m Ro i k)))) ∧ Bl w w' := by
  have fm : Try.prog.follows .mixedOrders = true := by kernel_rfl
  have egW := enters_of Try.func9 (by kernel_rfl) rfl
  have egN := enters_of Try.func23 (by kernel_rfl) rfl
  have hm4 : m ≤ 4 := by omega
  obtain ⟨W, hW⟩ : ∃ W, W = (w.alloc (.cells #[.int .i64 m, .slice px m cx, .slice pr N cr, vf, vg, vh, .int .i64 r, .int .i64 z] 24)).alloc (.cells #[.slice none 0 0, .int .i64 0, .int .i64 0, .slice none 0 0] 31) := ⟨_, rfl⟩
  have b0 : Bl w W := by rw [hW]; exact ((Bl.refl _).alloc _).alloc _
  have lt0 : w.heap.size < W.heap.size := by rw [hW]; simp; omega
  have z0 : SBox W (w.heap.size + 1) none 0 0 0 0 none 0 0 := by rw [hW]; have := SBox.new (w.alloc (.cells #[.int .i64 m, .slice px m cx, .slice pr N cr, vf, vg, vh, .int .i64 r, .int .i64 z] 24)) none 0 0 0 0 none 0 0 31; rw [World.size_alloc] at this; exact this
  have nb0 : NoB W (w.heap.size + 1) := by rw [hW]; have := noB_newSF (w.alloc (.cells #[.int .i64 m, .slice px m cx, .slice pr N cr, vf, vg, vh, .int .i64 r, .int .i64 z] 24)) 31; rw [World.size_alloc] at this; exact this
  have HC := hideP (show ∀ u, Bl W u → u.cell? ⟨w.heap.size, 0, none⟩ = some (.int .i64 m) ∧ u.cell? ⟨w.heap.size, 1, none⟩ = some (.slice px m cx) ∧ u.cell? ⟨w.heap.size, 2, none⟩ = some (.slice pr N cr) ∧ u.cell? ⟨w.heap.size, 3, none⟩ = some vf ∧ u.cell? ⟨w.heap.size, 4, none⟩ = some vg ∧ u.cell? ⟨w.heap.size, 5, none⟩ = some vh ∧ u.cell? ⟨w.heap.size, 6, none⟩ = some (.int .i64 r) ∧ u.cell? ⟨w.heap.size, 7, none⟩ = some (.int .i64 z) from fun u hu => by
    refine ⟨?_, ?_, ?_, ?_, ?_, ?_, ?_, ?_⟩ <;> (rw [bl_cell hu _ _ lt0, hW]; simp [go_sem]))
  have HNN := hideP hN
  have HD := hideP (dim_le4 m1 hm4)
  have HXR := hideP (show Rq 1 cI w (.slice px m cx) (linJ m fun i => X.getD i 0) from by rw [← linJ_of (n := m) 0 X lX]; exact hX)
  have WH := hideP (whole9F_call m m pr N cr Ro W (hR.later b0) HD.out hN lR)
  have HW := hideP hW
  clear hW hX hR lX lR hN
  go_enter Try.func8, Try.ntmps8
  go_wp2_with fail
  rw [← HW.out]
  refine WH.out.mono ?_
  rintro e w3 ⟨p3, c3', rfl, hx, h3⟩
  obtain ⟨W3, hW3⟩ : ∃ W3, W3 = w3.alloc (.cells #[.int .i64 m, .int .i64 m, .slice p3 N c3'] 29) := ⟨_, rfl⟩
  have b3' : Bl w3 W3 := by rw [hW3]; exact (Bl.refl _).alloc _
  have k3 : MBox W3 w3.heap.size m m p3 N c3' := by rw [hW3]; exact MBox.new w3 _ _ _ _ _ _
  have HX3 := hideP (Mx.later hx b3')
  have b3 : Bl W W3 := h3.trans b3'
  have B3 : Bl w W3 := b0.trans b3
  have HW3 := hideP hW3
  clear hW3 hx WH
  go_wp2_with fail
  rw [← HW3.out]
  refine (wpIn_wide (n := 8)).1 (region_q fm [some 18, some 19, some 20, some 21, some 22, some 17, some 23, some 24, some 5, none, some 6] (fun j => j == 7 || j == 10) 9 (by kernel_rfl) (by rfl)
      (fun j v u => match j with | 0 => v = .pointer (some ⟨w.heap.size, 1, none⟩) | 1 => v = .slice px m cx | 2 => ∃ q c, v = .slice q m c ∧ Rw 3 cellsF u (.slice q m c) (linJ m (fun i => wholeF (X.getD i 0))) | 3 => v = mV m m p3 N c3' | 4 => ∃ q c p' c', v = .tuple #[sJ q (m) c (m : Nat) (m : Nat) p' (N) c', .bool true] ∧ Rw 3 cellsF u (.slice q (m) c) (linJ (m) (fun i => wholeF (X.getD i 0))) ∧ Mx 3 cellsF u (m) (m) p' (N) c' (squareJ kdF m (fun i k => wholeF (ofL m Ro i k))) | 5 => ∃ q c p' c', v = .tuple #[sJ q (m) c (m : Nat) (m : Nat) p' (N) c', .bool true] ∧ Rw 3 cellsF u (.slice q (m) c) (linJ (m) (fun i => wholeF (X.getD i 0))) ∧ Mx 3 cellsF u (m) (m) p' (N) c' (squareJ kdF m (fun i k => wholeF (ofL m Ro i k))) | 6 => ∃ q c p' c', v = sJ q (m) c (m : Nat) (m : Nat) p' (N) c' ∧ Rw 3 cellsF u (.slice q (m) c) (linJ (m) (fun i => wholeF (X.getD i 0))) ∧ Mx 3 cellsF u (m) (m) p' (N) c' (squareJ kdF m (fun i k => wholeF (ofL m Ro i k))) | 7 => v = .bool true | 8 => ∃ b, v = .pointer (some ⟨b, 0, none⟩) ∧ W3.heap.size ≤ b ∧ SBox u b none 0 0 0 0 none 0 0 ∧ NoB u b | 10 => v = .bool true | _ => False)
      (by
        intro j v u u' hb h
        split at h <;> first | exact h | (obtain ⟨b, e, h1, h2, h3⟩ := h; exact ⟨b, e, h1, h2.later hb, h3.later hb h2.lt⟩) | (obtain ⟨q, c, p', c', e, h1, h2⟩ := h; exact ⟨q, c, p', c', e, h1.later hb, Mx.later h2 hb⟩) | (obtain ⟨q, c, e, h1⟩ := h; exact ⟨q, c, e, h1.later hb⟩) | (obtain ⟨g, e, h1⟩ := h; exact ⟨g, e, h1.later hb⟩)) (fun vs u0 u => ∃ b q c p' c', vs 8 = .pointer (some ⟨b, 0, none⟩) ∧ W3.heap.size ≤ b ∧ SBox u b q (m) c (m : Nat) (m : Nat) p' (N) c' ∧ Rw 3 cellsF u (.slice q (m) c) (linJ (m) (fun i => wholeF (X.getD i 0))) ∧ Mx 3 cellsF u (m) (m) p' (N) c' (squareJ kdF m (fun i k => wholeF (ofL m Ro i k))) ∧ Bl W3 u) ?step ?still ?store ?fin)
  case step =>
    intro j o t act u ho hdt hpu hsz hu hfr hin
    have hj : j < 11 := (Array.getElem?_eq_some_iff.1 ho).1
    obtain ⟨c0, c1, c2, c3, c4, c5, c6, c7⟩ := HC.out _ (b3.trans hu)
    obtain ⟨y0, y1, y2, _, _, _, _⟩ := k3.later hu
    rcases (by omega : j = 0 ∨ j = 1 ∨ j = 2 ∨ j = 3 ∨ j = 4 ∨ j = 5 ∨ j = 6 ∨ j = 7 ∨ j = 8 ∨ j = 9 ∨ j = 10) with rfl | rfl | rfl | rfl | rfl | rfl | rfl | rfl | rfl | rfl | rfl
    · simp only [List.getElem?_toArray, List.getElem?_cons_zero, List.getElem?_cons_succ, Option.some.injEq] at ho
      subst ho
      obtain rfl := Option.some.inj hdt
      have i1 : act.eval (.tmp (1 : Nat)) = .pointer (some ⟨w.heap.size, 0, none⟩) := hfr 1 (by decide)
      exact plain_wp (by intro c h; cases h) (fun _ _ => trivial) (by simp only [execOp, i1, evalC, evalF, evalG]; simp [go_sem, c1]) ⟨_, rfl, rfl, Bl.refl _⟩
    · simp only [List.getElem?_toArray, List.getElem?_cons_zero, List.getElem?_cons_succ, Option.some.injEq] at ho
      subst ho
      obtain rfl := Option.some.inj hdt
      have i18 : (act.eval (.tmp (18 : Nat))) = .pointer (some ⟨w.heap.size, 1, none⟩) := hin ⟨0, .data⟩ (by simp) rfl 18 rfl
      exact plain_wp (by intro c h; cases h) (fun _ _ => trivial) (by simp only [execOp, i18, evalC, evalF, evalG]; simp [go_sem, c1]) ⟨_, rfl, rfl, Bl.refl _⟩
    · simp only [List.getElem?_toArray, List.getElem?_cons_zero, List.getElem?_cons_succ, Option.some.injEq] at ho
      subst ho
      obtain rfl := Option.some.inj hdt
      have i19 : (act.eval (.tmp (19 : Nat))) = .slice px m cx := hin ⟨1, .data⟩ (by simp) rfl 19 rfl
      refine enter_wp 9 #[.slice px m cx] (by intro c h; cases h) (fun _ _ => trivial) (by simp only [execOp, evalC, evalF, evalG, resolve, i19, List.map_toArray, List.map_cons, List.map_nil]; simp [invoke, egW, Result.andThen, go_sem]) (by intro h; cases h) (callsIn_wide.2 (whole_linF px m cx (fun i => X.getD i 0) u (HXR.out.later (B3.trans hu)) (by omega))) ?_
      rintro e w' ⟨q, c, rfl, hR, hb⟩
      exact ⟨_, rfl, _, rfl, ⟨q, c, rfl, hR⟩, hb⟩
    · simp only [List.getElem?_toArray, List.getElem?_cons_zero, List.getElem?_cons_succ, Option.some.injEq] at ho
      subst ho
      obtain rfl := Option.some.inj hdt
      have i3 : act.eval (.tmp (3 : Nat)) = .pointer (some ⟨w3.heap.size, 0, none⟩) := hfr 3 (by decide)
      exact plain_wp (by intro c h; cases h) (fun _ _ => trivial) (by simp only [execOp, i3, evalC, evalF, evalG]; simp [go_sem, y0, y1, y2]) ⟨_, rfl, rfl, Bl.refl _⟩
    · simp only [List.getElem?_toArray, List.getElem?_cons_zero, List.getElem?_cons_succ, Option.some.injEq] at ho
      subst ho
      obtain rfl := Option.some.inj hdt
      have i20 : ∃ q c, (act.eval (.tmp (20 : Nat))) = .slice q m c ∧ Rw 3 cellsF u (.slice q m c) (linJ m (fun i => wholeF (X.getD i 0))) := hin ⟨2, .data⟩ (by simp) rfl 20 rfl
      have i21 : (act.eval (.tmp (21 : Nat))) = mV m m p3 N c3' := hin ⟨3, .data⟩ (by simp) rfl 21 rfl
      obtain ⟨q0, cc0, e0, hq⟩ := i20
      refine enter_wp 23 #[.slice q0 m cc0, mV m m p3 N c3'] (by intro c h; cases h) (fun _ _ => trivial) (by simp only [execOp, evalC, evalF, evalG, resolve, e0, i21, List.map_toArray, List.map_cons, List.map_nil]; simp [invoke, egN, Result.andThen, go_sem]) (by intro h; cases h) (callsIn_wide.2 (jNewF m q0 cc0 (fun i => wholeF (X.getD i 0)) p3 N c3' (fun i k => wholeF (ofL m Ro i k)) u hq.q (HX3.out.later hu) hm4)) ?_
      rintro e w' ⟨q, c, p', c', rfl, ⟨hR, hM⟩, hb⟩
      exact ⟨_, rfl, _, rfl, ⟨q, c, p', c', rfl, hR, hM⟩, hb⟩
    · simp only [List.getElem?_toArray, List.getElem?_cons_zero, List.getElem?_cons_succ, Option.some.injEq] at ho
      subst ho
      obtain rfl := Option.some.inj hdt
      have i22 : ∃ q c p' c', (act.eval (.tmp (22 : Nat))) = .tuple #[sJ q (m) c (m : Nat) (m : Nat) p' (N) c', .bool true] ∧ Rw 3 cellsF u (.slice q (m) c) (linJ (m) (fun i => wholeF (X.getD i 0))) ∧ Mx 3 cellsF u (m) (m) p' (N) c' (squareJ kdF m (fun i k => wholeF (ofL m Ro i k))) := hin ⟨4, .data⟩ (by simp) rfl 22 rfl
      obtain ⟨q0, c0', p0, c0, e1, hq1, hq2⟩ := i22
      exact plain_wp (by intro c h; cases h) (fun _ _ => trivial) (by simp only [execOp, e1]; simp [go_sem]) ⟨_, rfl, ⟨q0, c0', p0, c0, rfl, hq1, hq2⟩, Bl.refl _⟩
    · simp only [List.getElem?_toArray, List.getElem?_cons_zero, List.getElem?_cons_succ, Option.some.injEq] at ho
      subst ho
      obtain rfl := Option.some.inj hdt
      have i17 : ∃ q c p' c', (act.eval (.tmp (17 : Nat))) = .tuple #[sJ q (m) c (m : Nat) (m : Nat) p' (N) c', .bool true] ∧ Rw 3 cellsF u (.slice q (m) c) (linJ (m) (fun i => wholeF (X.getD i 0))) ∧ Mx 3 cellsF u (m) (m) p' (N) c' (squareJ kdF m (fun i k => wholeF (ofL m Ro i k))) := hin ⟨5, .data⟩ (by simp) rfl 17 rfl
      obtain ⟨q0, c0', p0, c0, e1, hq1, hq2⟩ := i17
      exact plain_wp (by intro c h; cases h) (fun _ _ => trivial) (by simp only [execOp, e1]; simp [go_sem]) ⟨_, rfl, ⟨q0, c0', p0, c0, rfl, hq1, hq2⟩, Bl.refl _⟩
    · cases hpu
    · simp only [List.getElem?_toArray, List.getElem?_cons_zero, List.getElem?_cons_succ, Option.some.injEq] at ho
      subst ho
      obtain rfl := Option.some.inj hdt
      exact plain_wp (by intro c h; cases h) (fun _ _ => trivial) (w' := u.alloc (.cells #[.slice none 0 0, .int .i64 0, .int .i64 0, .slice none 0 0] 31)) (v := .pointer (some ⟨u.heap.size, 0, none⟩)) (by simp only [execOp]; simp [go_sem]) ⟨_, rfl, ⟨u.heap.size, rfl, hu.size, SBox.new u _ _ _ _ _ _ _ _ _, noB_newSF u _⟩, (Bl.refl _).alloc _⟩
    · simp only [List.getElem?_toArray, List.getElem?_cons_zero, List.getElem?_cons_succ, Option.some.injEq] at ho
      subst ho
      cases hdt
    · cases hpu
  case still =>
    intro j o t act u0 u ho hdt hpu hsz hu hfr hin
    have hj : j < 11 := (Array.getElem?_eq_some_iff.1 ho).1
    obtain ⟨c0, c1, c2, c3, c4, c5, c6, c7⟩ := HC.out _ (b3.trans hu)
    obtain ⟨y0, y1, y2, _, _, _, _⟩ := k3.later hu
    rcases (by omega : j = 0 ∨ j = 1 ∨ j = 2 ∨ j = 3 ∨ j = 4 ∨ j = 5 ∨ j = 6 ∨ j = 7 ∨ j = 8 ∨ j = 9 ∨ j = 10) with rfl | rfl | rfl | rfl | rfl | rfl | rfl | rfl | rfl | rfl | rfl
    · cases hpu
    · cases hpu
    · cases hpu
    · cases hpu
    · cases hpu
    · cases hpu
    · cases hpu
    · simp only [List.getElem?_toArray, List.getElem?_cons_zero, List.getElem?_cons_succ, Option.some.injEq] at ho
      subst ho
      obtain rfl := Option.some.inj hdt
      have i17 : ∃ q c p' c', (act.eval (.tmp (17 : Nat))) = .tuple #[sJ q (m) c (m : Nat) (m : Nat) p' (N) c', .bool true] ∧ Rw 3 cellsF u0 (.slice q (m) c) (linJ (m) (fun i => wholeF (X.getD i 0))) ∧ Mx 3 cellsF u0 (m) (m) p' (N) c' (squareJ kdF m (fun i k => wholeF (ofL m Ro i k))) := hin ⟨5, .data⟩ (by simp) rfl 17 rfl
      obtain ⟨q0, c0', p0, c0, e1, hq1, hq2⟩ := i17
      exact plain_wp (by intro c h; cases h) (fun _ _ => trivial) (by simp only [execOp, e1]; simp [go_sem]) ⟨_, rfl, rfl, rfl⟩
    · cases hpu
    · cases hpu
    · simp only [List.getElem?_toArray, List.getElem?_cons_zero, List.getElem?_cons_succ, Option.some.injEq] at ho
      subst ho
      obtain rfl := Option.some.inj hdt
      have i24 : (act.eval (.tmp (24 : Nat))) = .bool true := hin ⟨7, .data⟩ (by simp) rfl 24 rfl
      exact plain_wp (by intro c h; cases h) (fun _ _ => trivial) (by simp only [execOp, i24, evalC, evalF, evalG]; simp [go_sem]) ⟨_, rfl, rfl, rfl⟩
  case store =>
    intro o act u vs ho hsz hu hfr hin
    simp only [List.getElem?_toArray, List.getElem?_cons_zero, List.getElem?_cons_succ, Option.some.injEq] at ho
    subst ho
    obtain ⟨i5, k5⟩ : act.eval (.tmp (5 : Nat)) = vs 8 ∧ (∃ b, (vs 8) = .pointer (some ⟨b, 0, none⟩) ∧ W3.heap.size ≤ b ∧ SBox u b none 0 0 0 0 none 0 0 ∧ NoB u b) := hin 8 5 rfl rfl
    obtain ⟨i23, k23⟩ : act.eval (.tmp (23 : Nat)) = vs 6 ∧ (∃ q c p' c', (vs 6) = sJ q (m) c (m : Nat) (m : Nat) p' (N) c' ∧ Rw 3 cellsF u (.slice q (m) c) (linJ (m) (fun i => wholeF (X.getD i 0))) ∧ Mx 3 cellsF u (m) (m) p' (N) c' (squareJ kdF m (fun i k => wholeF (ofL m Ro i k)))) := hin 6 23 rfl rfl
    obtain ⟨b, e1, hb, bx, nb⟩ := k5
    obtain ⟨q0, c0', p0, c0, e2, hq1, hq2⟩ := k23
    rw [e1] at i5
    rw [e2] at i23
    obtain ⟨d0, d1, d2, d3, g0, g1, g2, g3, ltb⟩ := id bx
    exact skip_wp (by intro c h; cases h) (fun _ _ => trivial) (by simp only [execOp, i5, i23]; simp [go_sem, d0, d1, d2, d3, g0, g1, g2, g3]) ⟨rfl, b, q0, c0', p0, c0, e1, hb, bx.fill _ _ _ _ _ _ _ _, hq1.but (but4F _ _ _ _ _ _) (fun g hg => noB_rwF hq1 (m1) nb g hg), Mx.but hq2 (but4F _ _ _ _ _ _) (fun g hg => Ne.symm (noB_mx boolF hq2 nb g hg)), Bl.put4 hu hb _ _ _ _⟩
  case fin =>
    intro vs vb u0 u hu hin hps
    have a0 := hin 0 18 rfl
    have a1 := hin 1 19 rfl
    have a2 := hin 2 20 rfl
    have a3 := hin 3 21 rfl
    have a4 := hin 4 22 rfl
    have a5 := hin 5 17 rfl
    have a6 := hin 6 23 rfl
    have a7 := hin 7 24 rfl
    have a8 := hin 8 5 rfl
    have a10 := hin 10 6 rfl
    simp only [putL, Act.put, List.setIfInBounds_toArray, List.set_cons_zero, List.set_cons_succ, Nat.zero_add, Nat.reduceAdd, Nat.reduceBEq, Bool.or_false, Bool.or_true, Bool.false_or, Bool.true_or, Bool.false_eq_true, if_false, if_true, reduceIte, Nat.reduceEqDiff, beq_self_eq_true, Bool.or_self] at a0 a1 a2 a3 a4 a5 a6 a7 a8 a10 ⊢
    rw [if_pos (by decide)] at hps
    simp only [a0, a1, a3, a7, a10]
    obtain ⟨b, q9, cq9, p9, c9, eb, hb, k9, hR, hM, hbu⟩ := hps
    simp only [eb]
    obtain ⟨w9, rfl⟩ : ∃ w9, w9 = u := ⟨_, rfl⟩
    have NB := nb0.later (b3.trans hbu) z0.lt
    have KZ := z0.later (b3.trans hbu)
    have HR9 := hideP (hR.but (but4F _ (w.heap.size + 1) (.slice q9 m cq9) (.int .i64 m) (.int .i64 m) (.slice p9 N c9)) (fun g hg => noB_rwF hR m1 NB g hg))
    have HM9 := hideP (Mx.but hM (but4F _ (w.heap.size + 1) (.slice q9 m cq9) (.int .i64 m) (.int .i64 m) (.slice p9 N c9)) (fun g hg => Ne.symm (noB_mx boolF hM NB g hg)))
    have B9 := B3.trans hbu
    obtain ⟨s0, s1, s2, s3, _, _, _, _, _⟩ := id k9
    obtain ⟨d0, d1, d2, d3, g0, g1, g2, g3, ltd⟩ := KZ
    clear a2 a4 a5 a6 a8 hu hin hR hM
    go_wp2
    simp [bodyPost, results, Try.results8, go_sem, d0, d1, d2, d3]
    exact ⟨q9, cq9, p9, c9, by simp, ⟨HR9.out, HM9.out⟩, Bl.put4 B9 (Nat.le_succ _) _ _ _ _⟩
end Go.Proofs.Ythnadgbloamlaaa

/- Few of layer 9's laws. Written by genJf.py. -/
namespace Go.Proofs.Ythnadgbloamlaaa
open Go.RowKit
set_option linter.unusedSimpArgs false
set_option linter.unusedVariables false

theorem rq_cellJ {w : World} {p : Option Addr} {n cap : Nat} {xs : List Int} (h : Rq 1 cI w (.slice p n cap) xs) : ∀ k x, xs[k]? = some x → ∃ b o, p = some ⟨b, o, none⟩ ∧ ∀ u, Bl w u → u.cell? ⟨b, o + k, none⟩ = some (.int .i64 x) := by
  intro k x hx
  rcases h with ⟨_, _, _, e, _⟩ | ⟨b, o, c, e, _, hlt, hc⟩
  · rw [e] at hx; simp at hx
  · simp only [Value.slice.injEq] at e
    exact ⟨b, o, e.1, fun u hu => (bl_cell hu _ _ hlt).trans (by have := hc k x hx 0 (.int .i64 x) rfl; simpa using this)⟩
theorem Try.idx5_0 (p0 p1 p2 p3 p4 : Option Addr) (l0 c0 l1 c1 l2 c2 l3 c3 l4 c4 : Nat) (w : World) : (Instr.index 51 (.agg #[.slice p0 l0 c0, .slice p1 l1 c1, .slice p2 l2 c2, .slice p3 l3 c3, .slice p4 l4 c4]) (.int .i64 0)).run Try.prog w = .ok (.slice p0 l0 c0) w := by kernel_rfl
theorem Try.idx5_1 (p0 p1 p2 p3 p4 : Option Addr) (l0 c0 l1 c1 l2 c2 l3 c3 l4 c4 : Nat) (w : World) : (Instr.index 51 (.agg #[.slice p0 l0 c0, .slice p1 l1 c1, .slice p2 l2 c2, .slice p3 l3 c3, .slice p4 l4 c4]) (.int .i64 1)).run Try.prog w = .ok (.slice p1 l1 c1) w := by kernel_rfl
theorem Try.idx5_2 (p0 p1 p2 p3 p4 : Option Addr) (l0 c0 l1 c1 l2 c2 l3 c3 l4 c4 : Nat) (w : World) : (Instr.index 51 (.agg #[.slice p0 l0 c0, .slice p1 l1 c1, .slice p2 l2 c2, .slice p3 l3 c3, .slice p4 l4 c4]) (.int .i64 2)).run Try.prog w = .ok (.slice p2 l2 c2) w := by kernel_rfl
theorem Try.idx5_3 (p0 p1 p2 p3 p4 : Option Addr) (l0 c0 l1 c1 l2 c2 l3 c3 l4 c4 : Nat) (w : World) : (Instr.index 51 (.agg #[.slice p0 l0 c0, .slice p1 l1 c1, .slice p2 l2 c2, .slice p3 l3 c3, .slice p4 l4 c4]) (.int .i64 3)).run Try.prog w = .ok (.slice p3 l3 c3) w := by kernel_rfl
theorem Try.idx5_4 (p0 p1 p2 p3 p4 : Option Addr) (l0 c0 l1 c1 l2 c2 l3 c3 l4 c4 : Nat) (w : World) : (Instr.index 51 (.agg #[.slice p0 l0 c0, .slice p1 l1 c1, .slice p2 l2 c2, .slice p3 l3 c3, .slice p4 l4 c4]) (.int .i64 4)).run Try.prog w = .ok (.slice p4 l4 c4) w := by kernel_rfl
/-- A case that may be gone through. -/
structure FewJ (m : Nat) (X Ro Fm Gm H : List Int) (r z : Int) : Prop where
  m1 : 1 ≤ m
  m3 : m ≤ 3
  x : X.length = m
  h : H.length = m
  ro : Ro.length = m * m
  f : Fm.length = m * m
  g : Gm.length = m * m
  r1 : 1 ≤ r
  r5 : r ≤ 5
  z1 : -5 ≤ z
  z5 : z ≤ 5
  sx : Sml 5 X
  sh : Sml 5 H
  sro : Sml 5 Ro
  sf : Sml 5 Fm
  sg : Sml 5 Gm
theorem take_all9 {L : List Int} {n : Nat} (h : Sml 5 (L.take 10)) (hl : L.length = n) (hn : n ≤ 9) : Sml 5 L := by
  rw [List.take_of_length_le (by omega)] at h
  exact h
def FewR (n r z : Int) (X Ro Fm Gm H : List Int) (w : World) (e : Ending) (w' : World) : Prop := ∃ b, e = .returned (.bool b) ∧ (b = true → ∃ m : Nat, n = m ∧ FewJ m X Ro Fm Gm H r z) ∧ Bl w w'
theorem fewR {n r z : Int} {X Ro Fm Gm H : List Int} {w w' : World} (b : Bool) (h : b = true → ∃ m : Nat, n = m ∧ FewJ m X Ro Fm Gm H r z) (k : Bl w w') : FewR n r z X Ro Fm Gm H w (.returned (.bool b)) w' := ⟨b, rfl, h, k⟩
set_option maxRecDepth 100000 in
set_option maxHeartbeats 8000000 in
theorem few9_any (n r z : Int) (px pr pf pg ph : Option Addr) (lx cx lr cr lf cf lg cg lh ch : Nat) (X Ro Fm Gm H : List Int) (w : World) (hX : Rq 1 cI w (.slice px lx cx) X) (hR : Rq 1 cI w (.slice pr lr cr) Ro) (hF : Rq 1 cI w (.slice pf lf cf) Fm) (hG : Rq 1 cI w (.slice pg lg cg) Gm) (hH : Rq 1 cI w (.slice ph lh ch) H)
    (eX : X.length = lx) (eR : Ro.length = lr) (eF : Fm.length = lf) (eG : Gm.length = lg) (eH : H.length = lh) :
    Calls Try.prog 6 #[.agg #[.int .i64 n, .slice px lx cx, .slice pr lr cr, .slice pf lf cf, .slice pg lg cg, .slice ph lh ch, .int .i64 r, .int .i64 z]] w (FewR n r z X Ro Fm Gm H w) := by
  obtain ⟨W, hW⟩ : ∃ W, W = w.alloc (.cells #[.int .i64 n, .slice px lx cx, .slice pr lr cr, .slice pf lf cf, .slice pg lg cg, .slice ph lh ch, .int .i64 r, .int .i64 z] 24) := ⟨_, rfl⟩
  have b0 : Bl w W := by rw [hW]; exact (Bl.refl _).alloc _
  have BW := hideP b0
  have B0 := hideP b0
  have HR0 := hideP (rq_cellJ hX)
  have HR1 := hideP (rq_cellJ hH)
  have HR2 := hideP (rq_cellJ hR)
  have HR3 := hideP (rq_cellJ hF)
  have HR4 := hideP (rq_cellJ hG)
  have HL0 := hideP eX
  have HL1 := hideP eH
  have HL2 := hideP eR
  have HL3 := hideP eF
  have HL4 := hideP eG
  have d0 : W.cell? ⟨w.heap.size, 0, none⟩ = some (.int .i64 n) := by rw [hW]; simp [go_sem]
  have d1 : W.cell? ⟨w.heap.size, 1, none⟩ = some (.slice px lx cx) := by rw [hW]; simp [go_sem]
  have d2 : W.cell? ⟨w.heap.size, 2, none⟩ = some (.slice pr lr cr) := by rw [hW]; simp [go_sem]
  have d3 : W.cell? ⟨w.heap.size, 3, none⟩ = some (.slice pf lf cf) := by rw [hW]; simp [go_sem]
  have d4 : W.cell? ⟨w.heap.size, 4, none⟩ = some (.slice pg lg cg) := by rw [hW]; simp [go_sem]
  have d5 : W.cell? ⟨w.heap.size, 5, none⟩ = some (.slice ph lh ch) := by rw [hW]; simp [go_sem]
  have d6 : W.cell? ⟨w.heap.size, 6, none⟩ = some (.int .i64 r) := by rw [hW]; simp [go_sem]
  have d7 : W.cell? ⟨w.heap.size, 7, none⟩ = some (.int .i64 z) := by rw [hW]; simp [go_sem]
  have HD0 := hideP d0
  have HD1 := hideP d1
  have HD2 := hideP d2
  have HD3 := hideP d3
  have HD4 := hideP d4
  have HD5 := hideP d5
  have HW := hideP hW
  clear hX hR hF hG hH eX eR eF eG eH b0
  go_enter Try.func6, Try.ntmps6
  clear hW d0 d1 d2 d3 d4 d5 d6 d7
  by_cases g1 : n < 1
  · go_wp2
    go_ret
    exact fewR false nofun ((Bl.refl _).alloc _)
  by_cases g2 : 3 < n
  · go_wp2
    go_ret
    exact fewR false nofun ((Bl.refl _).alloc _)
  obtain ⟨m, rfl⟩ := Int.eq_ofNat_of_zero_le (show 0 ≤ n by omega)
  by_cases g3 : lx = m
  · by_cases g4 : lh = m
    · by_cases g5 : r < 1
      · go_wp2
        go_ret
        exact fewR false nofun ((Bl.refl _).alloc _)
      by_cases g6 : 5 < r
      · go_wp2
        go_ret
        exact fewR false nofun ((Bl.refl _).alloc _)
      by_cases g7 : z < -5
      · go_wp2
        go_ret
        exact fewR false nofun ((Bl.refl _).alloc _)
      by_cases g8 : 5 < z
      · go_wp2
        go_ret
        exact fewR false nofun ((Bl.refl _).alloc _)
      have e3 : ((lx : Int) != (m : Int)) = false := by simp; omega
      have e4 : ((lh : Int) != (m : Int)) = false := by simp; omega
      have G3 := hideP g3
      have G4 := hideP g4
      clear g3 g4
      go_wp2_with fail
      rw [← HW.out]
      have d0 := HD0.out
      have d1 := HD1.out
      have d2 := HD2.out
      have d3 := HD3.out
      have d4 := HD4.out
      have d5 := HD5.out
      go_loopw [61] (fun v wr => ∃ i : Nat, v = .int .i64 i ∧ i ≤ 5 ∧ ((0 < i → Sml 5 (X.take 10)) ∧ (1 < i → Sml 5 (H.take 10)) ∧ (2 < i → Sml 5 (Ro.take 10)) ∧ (3 < i → Sml 5 (Fm.take 10)) ∧ (4 < i → Sml 5 (Gm.take 10))) ∧ wr = W) (fun v _ => 5 - (intOf v).toNat)
      case atStart => exact ⟨0, rfl, by omega, ⟨fun h => absurd h (by omega), fun h => absurd h (by omega), fun h => absurd h (by omega), fun h => absurd h (by omega), fun h => absurd h (by omega)⟩, rfl⟩
      case round =>
        obtain ⟨i, rfl, hi, ⟨i0, i1, i2, i3, i4⟩, rfl⟩ := hrel
        have HI0 := hideP i0
        have HI1 := hideP i1
        have HI2 := hideP i2
        have HI3 := hideP i3
        have HI4 := hideP i4
        clear i0 i1 i2 i3 i4
        obtain ⟨wq, hwq⟩ : ∃ wq : World, wq = wr := ⟨_, rfl⟩
        subst hwq
        by_cases hlt : i < 5
        · rcases (by omega : i = 0 ∨ i = 1 ∨ i = 2 ∨ i = 3 ∨ i = 4) with rfl | rfl | rfl | rfl | rfl
          · have IX := Try.idx5_0 px ph pr pf pg lx cx lh ch lr cr lf cf lg cg wq
            go_wp2_with fail
            go_loopw [5] (fun v wr => ∃ k : Nat, v = .int .i64 k ∧ k ≤ X.length ∧ k ≤ 10 ∧ Sml 5 (X.take k) ∧ wr = wq) (fun v _ => 10 - (intOf v).toNat)
            case atStart => exact ⟨0, rfl, Nat.zero_le _, by omega, fun x hx => by simp at hx, rfl⟩
            case round =>
              obtain ⟨k, rfl, hk, hk2, hS, rfl⟩ := hrel
              have HS0 := hideP hS
              have hlen := HL0.out
              clear hS
              by_cases hlt : k < X.length ∧ k ≤ 9
              · obtain ⟨hlt, hlt2⟩ := hlt
                obtain ⟨x, hx⟩ : ∃ x, X[k]? = some x := ⟨_, List.getElem?_eq_getElem hlt⟩
                obtain ⟨b, o, hp, hcell⟩ := HR0.out k x hx
                have cx9 := hcell wr BW.out
                have HT := hideP (show X.take (k + 1) = X.take k ++ [x] by rw [List.take_add_one, hx]; rfl)
                subst hp
                clear hcell hx
                by_cases g1 : x < -5
                · go_wp2
                  go_ret
                  exact fewR false nofun B0.out
                · by_cases g2 : 5 < x
                  · go_wp2
                    go_ret
                    exact fewR false nofun B0.out
                  · go_wp2
                    go_roundw
                    case rel =>
                      refine ⟨k + 1, by simp, by omega, by omega, ?_⟩
                      rw [HT.out]
                      intro y hy
                      rcases List.mem_append.1 hy with hy | hy
                      · exact HS0.out y hy
                      · simp at hy; omega
                    case measure => simp [intOf]; omega
              · have HS := hideP (show Sml 5 (X.take 10) from by
                  by_cases h9 : k ≤ 9
                  · have e : X.take 10 = X.take k := by rw [List.take_of_length_le (by omega), List.take_of_length_le (by omega)]
                    rw [e]; exact HS0.out
                  · obtain rfl : k = 10 := by omega
                    exact HS0.out)
                by_cases h9 : k < X.length
                · have h10 : ¬ k ≤ 9 := fun h => hlt ⟨h9, h⟩
                  go_wp2_with fail
                  go_roundw
                  case rel => exact ⟨1, by simp, by omega, ⟨fun h => HS.out, fun h => absurd h (by omega), fun h => absurd h (by omega), fun h => absurd h (by omega), fun h => absurd h (by omega)⟩, trivial⟩
                  case measure => simp [intOf]
                · go_wp2_with fail
                  go_roundw
                  case rel => exact ⟨1, by simp, by omega, ⟨fun h => HS.out, fun h => absurd h (by omega), fun h => absurd h (by omega), fun h => absurd h (by omega), fun h => absurd h (by omega)⟩, trivial⟩
                  case measure => simp [intOf]
          · have IX := Try.idx5_1 px ph pr pf pg lx cx lh ch lr cr lf cf lg cg wq
            go_wp2_with fail
            go_loopw [5] (fun v wr => ∃ k : Nat, v = .int .i64 k ∧ k ≤ H.length ∧ k ≤ 10 ∧ Sml 5 (H.take k) ∧ wr = wq) (fun v _ => 10 - (intOf v).toNat)
            case atStart => exact ⟨0, rfl, Nat.zero_le _, by omega, fun x hx => by simp at hx, rfl⟩
            case round =>
              obtain ⟨k, rfl, hk, hk2, hS, rfl⟩ := hrel
              have HS0 := hideP hS
              have hlen := HL1.out
              clear hS
              by_cases hlt : k < H.length ∧ k ≤ 9
              · obtain ⟨hlt, hlt2⟩ := hlt
                obtain ⟨x, hx⟩ : ∃ x, H[k]? = some x := ⟨_, List.getElem?_eq_getElem hlt⟩
                obtain ⟨b, o, hp, hcell⟩ := HR1.out k x hx
                have cx9 := hcell wr BW.out
                have HT := hideP (show H.take (k + 1) = H.take k ++ [x] by rw [List.take_add_one, hx]; rfl)
                subst hp
                clear hcell hx
                by_cases g1 : x < -5
                · go_wp2
                  go_ret
                  exact fewR false nofun B0.out
                · by_cases g2 : 5 < x
                  · go_wp2
                    go_ret
                    exact fewR false nofun B0.out
                  · go_wp2
                    go_roundw
                    case rel =>
                      refine ⟨k + 1, by simp, by omega, by omega, ?_⟩
                      rw [HT.out]
                      intro y hy
                      rcases List.mem_append.1 hy with hy | hy
                      · exact HS0.out y hy
                      · simp at hy; omega
                    case measure => simp [intOf]; omega
              · have HS := hideP (show Sml 5 (H.take 10) from by
                  by_cases h9 : k ≤ 9
                  · have e : H.take 10 = H.take k := by rw [List.take_of_length_le (by omega), List.take_of_length_le (by omega)]
                    rw [e]; exact HS0.out
                  · obtain rfl : k = 10 := by omega
                    exact HS0.out)
                by_cases h9 : k < H.length
                · have h10 : ¬ k ≤ 9 := fun h => hlt ⟨h9, h⟩
                  go_wp2_with fail
                  go_roundw
                  case rel => exact ⟨2, by simp, by omega, ⟨fun h => (HI0.out (by omega)), fun h => HS.out, fun h => absurd h (by omega), fun h => absurd h (by omega), fun h => absurd h (by omega)⟩, trivial⟩
                  case measure => simp [intOf]
                · go_wp2_with fail
                  go_roundw
                  case rel => exact ⟨2, by simp, by omega, ⟨fun h => (HI0.out (by omega)), fun h => HS.out, fun h => absurd h (by omega), fun h => absurd h (by omega), fun h => absurd h (by omega)⟩, trivial⟩
                  case measure => simp [intOf]
          · have IX := Try.idx5_2 px ph pr pf pg lx cx lh ch lr cr lf cf lg cg wq
            go_wp2_with fail
            go_loopw [5] (fun v wr => ∃ k : Nat, v = .int .i64 k ∧ k ≤ Ro.length ∧ k ≤ 10 ∧ Sml 5 (Ro.take k) ∧ wr = wq) (fun v _ => 10 - (intOf v).toNat)
            case atStart => exact ⟨0, rfl, Nat.zero_le _, by omega, fun x hx => by simp at hx, rfl⟩
            case round =>
              obtain ⟨k, rfl, hk, hk2, hS, rfl⟩ := hrel
              have HS0 := hideP hS
              have hlen := HL2.out
              clear hS
              by_cases hlt : k < Ro.length ∧ k ≤ 9
              · obtain ⟨hlt, hlt2⟩ := hlt
                obtain ⟨x, hx⟩ : ∃ x, Ro[k]? = some x := ⟨_, List.getElem?_eq_getElem hlt⟩
                obtain ⟨b, o, hp, hcell⟩ := HR2.out k x hx
                have cx9 := hcell wr BW.out
                have HT := hideP (show Ro.take (k + 1) = Ro.take k ++ [x] by rw [List.take_add_one, hx]; rfl)
                subst hp
                clear hcell hx
                by_cases g1 : x < -5
                · go_wp2
                  go_ret
                  exact fewR false nofun B0.out
                · by_cases g2 : 5 < x
                  · go_wp2
                    go_ret
                    exact fewR false nofun B0.out
                  · go_wp2
                    go_roundw
                    case rel =>
                      refine ⟨k + 1, by simp, by omega, by omega, ?_⟩
                      rw [HT.out]
                      intro y hy
                      rcases List.mem_append.1 hy with hy | hy
                      · exact HS0.out y hy
                      · simp at hy; omega
                    case measure => simp [intOf]; omega
              · have HS := hideP (show Sml 5 (Ro.take 10) from by
                  by_cases h9 : k ≤ 9
                  · have e : Ro.take 10 = Ro.take k := by rw [List.take_of_length_le (by omega), List.take_of_length_le (by omega)]
                    rw [e]; exact HS0.out
                  · obtain rfl : k = 10 := by omega
                    exact HS0.out)
                by_cases h9 : k < Ro.length
                · have h10 : ¬ k ≤ 9 := fun h => hlt ⟨h9, h⟩
                  go_wp2_with fail
                  go_roundw
                  case rel => exact ⟨3, by simp, by omega, ⟨fun h => (HI0.out (by omega)), fun h => (HI1.out (by omega)), fun h => HS.out, fun h => absurd h (by omega), fun h => absurd h (by omega)⟩, trivial⟩
                  case measure => simp [intOf]
                · go_wp2_with fail
                  go_roundw
                  case rel => exact ⟨3, by simp, by omega, ⟨fun h => (HI0.out (by omega)), fun h => (HI1.out (by omega)), fun h => HS.out, fun h => absurd h (by omega), fun h => absurd h (by omega)⟩, trivial⟩
                  case measure => simp [intOf]
          · have IX := Try.idx5_3 px ph pr pf pg lx cx lh ch lr cr lf cf lg cg wq
            go_wp2_with fail
            go_loopw [5] (fun v wr => ∃ k : Nat, v = .int .i64 k ∧ k ≤ Fm.length ∧ k ≤ 10 ∧ Sml 5 (Fm.take k) ∧ wr = wq) (fun v _ => 10 - (intOf v).toNat)
            case atStart => exact ⟨0, rfl, Nat.zero_le _, by omega, fun x hx => by simp at hx, rfl⟩
            case round =>
              obtain ⟨k, rfl, hk, hk2, hS, rfl⟩ := hrel
              have HS0 := hideP hS
              have hlen := HL3.out
              clear hS
              by_cases hlt : k < Fm.length ∧ k ≤ 9
              · obtain ⟨hlt, hlt2⟩ := hlt
                obtain ⟨x, hx⟩ : ∃ x, Fm[k]? = some x := ⟨_, List.getElem?_eq_getElem hlt⟩
                obtain ⟨b, o, hp, hcell⟩ := HR3.out k x hx
                have cx9 := hcell wr BW.out
                have HT := hideP (show Fm.take (k + 1) = Fm.take k ++ [x] by rw [List.take_add_one, hx]; rfl)
                subst hp
                clear hcell hx
                by_cases g1 : x < -5
                · go_wp2
                  go_ret
                  exact fewR false nofun B0.out
                · by_cases g2 : 5 < x
                  · go_wp2
                    go_ret
                    exact fewR false nofun B0.out
                  · go_wp2
                    go_roundw
                    case rel =>
                      refine ⟨k + 1, by simp, by omega, by omega, ?_⟩
                      rw [HT.out]
                      intro y hy
                      rcases List.mem_append.1 hy with hy | hy
                      · exact HS0.out y hy
                      · simp at hy; omega
                    case measure => simp [intOf]; omega
              · have HS := hideP (show Sml 5 (Fm.take 10) from by
                  by_cases h9 : k ≤ 9
                  · have e : Fm.take 10 = Fm.take k := by rw [List.take_of_length_le (by omega), List.take_of_length_le (by omega)]
                    rw [e]; exact HS0.out
                  · obtain rfl : k = 10 := by omega
                    exact HS0.out)
                by_cases h9 : k < Fm.length
                · have h10 : ¬ k ≤ 9 := fun h => hlt ⟨h9, h⟩
                  go_wp2_with fail
                  go_roundw
                  case rel => exact ⟨4, by simp, by omega, ⟨fun h => (HI0.out (by omega)), fun h => (HI1.out (by omega)), fun h => (HI2.out (by omega)), fun h => HS.out, fun h => absurd h (by omega)⟩, trivial⟩
                  case measure => simp [intOf]
                · go_wp2_with fail
                  go_roundw
                  case rel => exact ⟨4, by simp, by omega, ⟨fun h => (HI0.out (by omega)), fun h => (HI1.out (by omega)), fun h => (HI2.out (by omega)), fun h => HS.out, fun h => absurd h (by omega)⟩, trivial⟩
                  case measure => simp [intOf]
          · have IX := Try.idx5_4 px ph pr pf pg lx cx lh ch lr cr lf cf lg cg wq
            go_wp2_with fail
            go_loopw [5] (fun v wr => ∃ k : Nat, v = .int .i64 k ∧ k ≤ Gm.length ∧ k ≤ 10 ∧ Sml 5 (Gm.take k) ∧ wr = wq) (fun v _ => 10 - (intOf v).toNat)
            case atStart => exact ⟨0, rfl, Nat.zero_le _, by omega, fun x hx => by simp at hx, rfl⟩
            case round =>
              obtain ⟨k, rfl, hk, hk2, hS, rfl⟩ := hrel
              have HS0 := hideP hS
              have hlen := HL4.out
              clear hS
              by_cases hlt : k < Gm.length ∧ k ≤ 9
              · obtain ⟨hlt, hlt2⟩ := hlt
                obtain ⟨x, hx⟩ : ∃ x, Gm[k]? = some x := ⟨_, List.getElem?_eq_getElem hlt⟩
                obtain ⟨b, o, hp, hcell⟩ := HR4.out k x hx
                have cx9 := hcell wr BW.out
                have HT := hideP (show Gm.take (k + 1) = Gm.take k ++ [x] by rw [List.take_add_one, hx]; rfl)
                subst hp
                clear hcell hx
                by_cases g1 : x < -5
                · go_wp2
                  go_ret
                  exact fewR false nofun B0.out
                · by_cases g2 : 5 < x
                  · go_wp2
                    go_ret
                    exact fewR false nofun B0.out
                  · go_wp2
                    go_roundw
                    case rel =>
                      refine ⟨k + 1, by simp, by omega, by omega, ?_⟩
                      rw [HT.out]
                      intro y hy
                      rcases List.mem_append.1 hy with hy | hy
                      · exact HS0.out y hy
                      · simp at hy; omega
                    case measure => simp [intOf]; omega
              · have HS := hideP (show Sml 5 (Gm.take 10) from by
                  by_cases h9 : k ≤ 9
                  · have e : Gm.take 10 = Gm.take k := by rw [List.take_of_length_le (by omega), List.take_of_length_le (by omega)]
                    rw [e]; exact HS0.out
                  · obtain rfl : k = 10 := by omega
                    exact HS0.out)
                by_cases h9 : k < Gm.length
                · have h10 : ¬ k ≤ 9 := fun h => hlt ⟨h9, h⟩
                  go_wp2_with fail
                  go_roundw
                  case rel => exact ⟨5, by simp, by omega, ⟨fun h => (HI0.out (by omega)), fun h => (HI1.out (by omega)), fun h => (HI2.out (by omega)), fun h => (HI3.out (by omega)), fun h => HS.out⟩, trivial⟩
                  case measure => simp [intOf]
                · go_wp2_with fail
                  go_roundw
                  case rel => exact ⟨5, by simp, by omega, ⟨fun h => (HI0.out (by omega)), fun h => (HI1.out (by omega)), fun h => (HI2.out (by omega)), fun h => (HI3.out (by omega)), fun h => HS.out⟩, trivial⟩
                  case measure => simp [intOf]
        · obtain rfl : i = 5 := by omega
          obtain ⟨mm, hmm⟩ : ∃ mm, mm = m * m := ⟨_, rfl⟩
          have hMM : (m : Int) * (m : Int) = (mm : Int) := by rw [hmm, Int.natCast_mul]
          have m3 : m ≤ 3 := by omega
          have mm9 : mm ≤ 9 := by rw [hmm]; exact Nat.mul_le_mul m3 m3
          have HMM := hideP hmm
          clear hmm
          by_cases k1 : lr = mm
          · by_cases k2 : lf = mm
            · by_cases k3 : lg = mm
              · have f1 : ((lr : Int) == (mm : Int)) = true := by simp; omega
                have f2 : ((lf : Int) == (mm : Int)) = true := by simp; omega
                have f3 : ((lg : Int) == (mm : Int)) = true := by simp; omega
                go_wp2
                go_ret
                refine fewR _ (fun _ => ⟨m, rfl, ⟨by omega, by omega, by rw [HL0.out, G3.out], by rw [HL1.out, G4.out], by rw [HL2.out, k1, HMM.out], by rw [HL3.out, k2, HMM.out], by rw [HL4.out, k3, HMM.out], by omega, by omega, by omega, by omega, ?_, ?_, ?_, ?_, ?_⟩⟩) B0.out
                · exact take_all9 (HI0.out (by omega)) HL0.out (by have := G3.out; omega)
                · exact take_all9 (HI1.out (by omega)) HL1.out (by have := G4.out; omega)
                · exact take_all9 (HI2.out (by omega)) HL2.out (by omega)
                · exact take_all9 (HI3.out (by omega)) HL3.out (by omega)
                · exact take_all9 (HI4.out (by omega)) HL4.out (by omega)
              · have f1 : ((lr : Int) == (mm : Int)) = true := by simp; omega
                have f2 : ((lf : Int) == (mm : Int)) = true := by simp; omega
                have f3 : ((lg : Int) == (mm : Int)) = false := by simp; omega
                go_wp2
                go_ret
                exact fewR false nofun B0.out
            · have f1 : ((lr : Int) == (mm : Int)) = true := by simp; omega
              have f2 : ((lf : Int) == (mm : Int)) = false := by simp; omega
              go_wp2
              go_ret
              exact fewR false nofun B0.out
          · have f1 : ((lr : Int) == (mm : Int)) = false := by simp; omega
            go_wp2
            go_ret
            exact fewR false nofun B0.out
    · have e3 : ((lx : Int) != (m : Int)) = false := by simp; omega
      have e4 : ((lh : Int) != (m : Int)) = true := by simp; omega
      go_wp2
      go_ret
      exact fewR false nofun ((Bl.refl _).alloc _)
  · have e3 : ((lx : Int) != (m : Int)) = true := by simp; omega
    go_wp2
    go_ret
    exact fewR false nofun ((Bl.refl _).alloc _)
end Go.Proofs.Ythnadgbloamlaaa
