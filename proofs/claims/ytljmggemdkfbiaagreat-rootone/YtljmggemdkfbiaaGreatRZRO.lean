/- Of one number the square of what is behind an update of the lane of triangles is enclosed: the first square times r, by the spread. Conditions: none (every input). -/
import Derived.Test.YtljmggemdkfbiaaGreatRJ
import Derived.ProofKit
import Derived.OpenShut
import Derived.Carry
/- The walk of RootOne. Written by genRx.py. -/
namespace Go.Proofs.YtljmggemdkfbiaaGreat
open Go.RowKit
set_option linter.unusedSimpArgs false
set_option linter.unusedVariables false

theorem Tryz.build1X (x : En) (u : World) : (Instr.buildSlice 46 1 #[(0, enV x)]).run Tryz.prog u = .ok (.slice (some ⟨u.heap.size, 0, none⟩) 1 1) (u.alloc (.cells #[.int .i64 x.v, .int .i64 x.l, .int .i64 x.h, .bool x.bad] 52)) := by kernel_rfl
theorem rq_oneX (u : World) (x : En) (t : TypeId) : Rq 4 cellsN (u.alloc (.cells #[.int .i64 x.v, .int .i64 x.l, .int .i64 x.h, .bool x.bad] t)) (.slice (some ⟨u.heap.size, 0, none⟩) 1 1) (linJ 1 fun _ => x) := by
  refine .inr ⟨u.heap.size, 0, 1, rfl, Nat.le_refl _, by simp, fun j v hj k s hs => ?_⟩
  rcases j with _ | j
  · simp [linJ] at hj
    subst hj
    rcases k with _ | _ | _ | _ | k <;> simp [cellsN] at hs <;> subst hs <;> simp [go_sem]
  · simp [linJ] at hj
theorem rq_at9N {w : World} {p : Option Addr} {n cap : Nat} {f : Nat → En} (h : Rq 4 cellsN w (.slice p n cap) (linJ n f)) {i : Nat} (hi : i < n) : ∃ b o, p = some ⟨b, o, none⟩ ∧ ∀ j v, (cellsN (f i))[j]? = some v → w.cell? ⟨b, o + i * 4 + j, none⟩ = some v := rq_atN h hi
theorem rq_lt9N {w : World} {b o n cap : Nat} {f : Nat → En} (h : Rq 4 cellsN w (.slice (some ⟨b, o, none⟩) n cap) (linJ n f)) (h1 : 1 ≤ n) : b < w.heap.size := by
  rcases h with ⟨p', cap', e, hx, _⟩ | ⟨b', o', cap', e, hc, hb, hx⟩
  · have := congrArg List.length hx
    rw [linJ_len] at this
    simp at this
    omega
  · simp only [Value.slice.injEq, Option.some.injEq, Addr.mk.injEq] at e
    obtain ⟨⟨rfl, _⟩, _⟩ := e
    exact hb
theorem one_wrap {s h r : Int} (s1 : 1 ≤ s) (s5 : s ≤ 5) (h1 : 1 ≤ h) (h5 : h ≤ 5) (r1 : 1 ≤ r) (r5 : r ≤ 5) : IntKind.i64.wrap (s * s) = s * s ∧ IntKind.i64.wrap (s * s * h) = s * s * h ∧ IntKind.i64.wrap (s * s * h * h) = s * s * h * h ∧ IntKind.i64.wrap (s * s * h * h + r) = s * s * h * h + r ∧ IntKind.i64.wrap (s * s * r) = s * s * r := by
  have a1 : 0 ≤ s * s ∧ s * s ≤ 25 := by rcases (by omega : s = 1 ∨ s = 2 ∨ s = 3 ∨ s = 4 ∨ s = 5) with rfl | rfl | rfl | rfl | rfl <;> omega
  have a2 : 0 ≤ s * s * h ∧ s * s * h ≤ 125 := by rcases (by omega : h = 1 ∨ h = 2 ∨ h = 3 ∨ h = 4 ∨ h = 5) with rfl | rfl | rfl | rfl | rfl <;> omega
  have a3 : 0 ≤ s * s * h * h ∧ s * s * h * h ≤ 625 := by
    generalize s * s * h = k at *
    rcases (by omega : h = 1 ∨ h = 2 ∨ h = 3 ∨ h = 4 ∨ h = 5) with rfl | rfl | rfl | rfl | rfl <;> omega
  have a4 : 0 ≤ s * s * r ∧ s * s * r ≤ 125 := by rcases (by omega : r = 1 ∨ r = 2 ∨ r = 3 ∨ r = 4 ∨ r = 5) with rfl | rfl | rfl | rfl | rfl <;> omega
  exact ⟨wrapS7 (by omega) (by omega), wrapS7 (by omega) (by omega), wrapS7 (by omega) (by omega), wrapS7 (by omega) (by omega), wrapS7 (by omega) (by omega)⟩
theorem whole1X (x : Int) (w : World) (t : TypeId) (b0 : Nat) (hb0 : b0 = w.heap.size) : Calls Tryz.prog 33 #[.int .i64 1, .int .i64 1, .slice (some ⟨b0, 0, none⟩) 1 1] (w.alloc (.cells #[.int .i64 x] t))
    fun e w' => ∃ p' cap', e = .returned (.tuple #[mV 1 1 p' 1 cap', .bool true]) ∧ Mx 4 cellsN w' 1 1 p' 1 cap' (fun _ _ => wholeN x) ∧ Bl (w.alloc (.cells #[.int .i64 x] t)) w' := by
  subst hb0
  refine (mWholeN 1 1 _ 1 1 [x] _ (rq_one9 w x t) (by decide) rfl).mono ?_
  rintro e w' ⟨p', cap', rfl, hr, hb⟩
  exact ⟨p', cap', rfl, ⟨⟨by omega, by omega, by omega, by omega⟩, rfl, hr.q⟩, hb⟩
set_option maxRecDepth 100000 in
set_option maxHeartbeats 8000000 in
theorem walk_RootOne (s h r : Int) (w : World) : Calls Tryz.prog 8 #[.int .i64 s, .int .i64 h, .int .i64 r] w fun e w' => e = .returned (.bool true) ∧ Bl w w' := by
  have fm : Tryz.prog.follows .mixedOrders = true := by kernel_rfl
  have egO := enters_of Tryz.func37 (by kernel_rfl) rfl
  have egU := enters_of Tryz.func36 (by kernel_rfl) rfl
  have AW := hideP awake10_any
  have s1h := True.intro
  go_enter Tryz.func8, Tryz.ntmps8
  by_cases n1 : s < 1
  · go_wp2_with fail
    refine (AW.out _).mono ?_
    rintro e w99 ⟨rfl, h99⟩
    go_wp2
    go_ret
    exact ⟨rfl, h99⟩
  by_cases n2 : s > 5
  · go_wp2_with fail
    refine (AW.out _).mono ?_
    rintro e w99 ⟨rfl, h99⟩
    go_wp2
    go_ret
    exact ⟨rfl, h99⟩
  by_cases n3 : h < 1
  · go_wp2_with fail
    refine (AW.out _).mono ?_
    rintro e w99 ⟨rfl, h99⟩
    go_wp2
    go_ret
    exact ⟨rfl, h99⟩
  by_cases n4 : h > 5
  · go_wp2_with fail
    refine (AW.out _).mono ?_
    rintro e w99 ⟨rfl, h99⟩
    go_wp2
    go_ret
    exact ⟨rfl, h99⟩
  by_cases n5' : r < 1
  · go_wp2_with fail
    refine (AW.out _).mono ?_
    rintro e w99 ⟨rfl, h99⟩
    go_wp2
    go_ret
    exact ⟨rfl, h99⟩
  by_cases n6 : r > 5
  · go_wp2_with fail
    refine (AW.out _).mono ?_
    rintro e w99 ⟨rfl, h99⟩
    go_wp2
    go_ret
    exact ⟨rfl, h99⟩
  go_wp2_with fail
  refine (whole1X s w _ _ rfl).mono ?_
  rintro e w1 ⟨p1, c1, rfl, hx, h1⟩
  obtain ⟨W1, hW1⟩ : ∃ W1, W1 = w1.alloc (.cells #[.int .i64 1, .int .i64 1, .slice p1 1 c1] 48) := ⟨_, rfl⟩
  have b1 : Bl w1 W1 := by rw [hW1]; exact (Bl.refl _).alloc _
  have k1 : MBox W1 w1.heap.size 1 1 p1 1 c1 := by rw [hW1]; exact MBox.new w1 _ _ _ _ _ _
  have B1 : Bl w W1 := (((Bl.refl w).alloc _).trans h1).trans b1
  have HX := hideP (Mx.later hx b1)
  have HW1 := hideP hW1
  clear hW1 hx
  go_wp2_with fail
  rw [← HW1.out]
  refine (pointE_any 0 W1).mono ?_
  rintro e w2 ⟨rfl, h2⟩
  obtain ⟨o1, ho1⟩ : ∃ o1, o1 = ptE 0 (frB 0) := ⟨_, rfl⟩
  rw [← ho1]
  have HO1 := hideP ho1
  clear ho1
  obtain ⟨W2, hW2⟩ : ∃ W2, W2 = w2.alloc (.cells #[.int .i64 o1.v, .int .i64 o1.l, .int .i64 o1.h, .bool o1.bad] 52) := ⟨_, rfl⟩
  have b2 : Bl w2 W2 := by rw [hW2]; exact (Bl.refl _).alloc _
  have k9a : Box W2 w2.heap.size o1 := by rw [hW2]; exact Box.new w2 o1 _
  have hs2 : W2.heap.size = w2.heap.size + 1 := by rw [hW2]; simp
  obtain ⟨W3, hW3⟩ : ∃ W3, W3 = W2.alloc (.cells #[.int .i64 o1.v, .int .i64 o1.l, .int .i64 o1.h, .bool o1.bad] 52) := ⟨_, rfl⟩
  have b3 : Bl W2 W3 := by rw [hW3]; exact (Bl.refl _).alloc _
  have q3 : Rq 4 cellsN W3 (.slice (some ⟨w2.heap.size + 1, 0, none⟩) 1 1) (linJ 1 fun _ => o1) := by rw [hW3, ← hs2]; exact rq_oneX W2 o1 _
  have b13 : Bl W1 W3 := h2.trans (b2.trans b3)
  have B3 : Bl w W3 := B1.trans b13
  have NEW := hideP (rNewN 1 (some ⟨w2.heap.size + 1, 0, none⟩) 1 (fun _ => o1) p1 1 c1 (fun _ _ => wholeN s) W3 q3 (HX.out.later b13) (by decide))
  have k9b := k9a.later b3
  obtain ⟨y0, y1, y2, y3, _⟩ := id k9a
  obtain ⟨m0, m1, m2, _, _, _, _⟩ := k1.later b13
  rw [hW2] at y0 y1 y2 y3 hW3
  rw [hW3] at m0 m1 m2
  have HW3 := hideP hW3
  clear hW2 hW3 q3 hs2
  go_wp2_with fail
  rw [← HW3.out]
  refine NEW.out.mono ?_
  rintro e w4 ⟨q4, cq4, p4, c4, rfl, ⟨hR, hM⟩, h4⟩
  clear y0 y1 y2 y3 m0 m1 m2 NEW
  rw [HO1.out] at hR
  obtain ⟨W4, hW4⟩ : ∃ W4, W4 = w4.alloc (.cells #[.slice q4 1 cq4, .int .i64 1, .int .i64 1, .slice p4 1 c4] 50) := ⟨_, rfl⟩
  have b4 : Bl w4 W4 := by rw [hW4]; exact (Bl.refl _).alloc _
  have k10 : SBox W4 w4.heap.size q4 1 cq4 1 1 p4 1 c4 := by rw [hW4]; exact SBox.new w4 _ _ _ _ _ _ _ _ _
  have k9 : Box W4 w2.heap.size (ptE 0 (frB 0)) := by rw [← HO1.out]; exact k9b.later (h4.trans b4)
  have HR4 := hideP (hR.later b4)
  have HM4 := hideP (Mx.later hM b4)
  have B4 : Bl w W4 := B3.trans (h4.trans b4)
  have HW4 := hideP hW4
  clear hW4 hR hM
  go_wp2_with fail
  rw [← HW4.out]
  refine (wpIn_wide (n := 8)).1 (region_u (updN_ok (1) (1) (fun i => addE ((fun _ => ptE 0 (frB 0)) i) (mulE (divE ((runO kdN 1 (clrN fun _ _ => wholeN s) (fun _ => wholeN h) (wholeN r) 1).e i) (runO kdN 1 (clrN fun _ _ => wholeN s) (fun _ => wholeN h) (wholeN r) 1).a) (surpJ kdN 1 (fun _ => ptE 0 (frB 0)) (fun _ => wholeN h) (wholeN 1)))) ((runO kdN 1 (clrN fun _ _ => wholeN s) (fun _ => wholeN h) (wholeN r) 1).s) (surpJ kdN 1 (fun _ => ptE 0 (frB 0)) (fun _ => wholeN h) (wholeN 1)) ((runO kdN 1 (clrN fun _ _ => wholeN s) (fun _ => wholeN h) (wholeN r) 1).a)) fm [some 55, some 56, some 57, some 58, some 59, some 60, some 61, some 62, some 63, some 64, some 65, some 54, some 66, some 67, some 68, some 12, some 13, none, none, some 14] 10 (by kernel_rfl) (by rfl) 65 54 66 67 68 12 13 14 rfl
      (fun j v u => match j with | 0 => v = sJ q4 1 cq4 1 1 p4 1 c4 | 1 => v = enV (ptE 0 (frB 0)) | 2 => v = .int .i64 h | 3 => v = enV (wholeN h) | 4 => ∃ g, v = .slice (some ⟨g, 0, none⟩) 1 1 ∧ Rq 4 cellsN u (.slice (some ⟨g, 0, none⟩) 1 1) (linJ 1 fun _ => wholeN h) | 5 => v = enV (ptE 0 (frB 0)) | 6 => v = .int .i64 r | 7 => v = enV (wholeN r) | 8 => v = enV (ptE 0 (frB 0)) | 9 => v = enV (wholeN 1) | _ => False)
      (by
        intro j v u u' hb h
        split at h <;> first | exact h | (obtain ⟨q, c, e, h1⟩ := h; exact ⟨q, c, e, h1.later hb⟩) | (obtain ⟨g, e, h1⟩ := h; exact ⟨g, e, h1.later hb⟩)) ?step ?call ?mv ?x0 ?x1 ?x2 ?la ?lb ?sa ?sb ?asg ?fin)
  case step =>
    intro j o t act u hjk ho hdt hsz hu hfr hin
    skip
    rcases (by omega : j = 0 ∨ j = 1 ∨ j = 2 ∨ j = 3 ∨ j = 4 ∨ j = 5 ∨ j = 6 ∨ j = 7 ∨ j = 8 ∨ j = 9) with rfl | rfl | rfl | rfl | rfl | rfl | rfl | rfl | rfl | rfl
    · simp only [List.getElem?_toArray, List.getElem?_cons_zero, List.getElem?_cons_succ, Option.some.injEq] at ho
      subst ho
      obtain rfl := Option.some.inj hdt
      have i10 : act.eval (.tmp (10 : Nat)) = .pointer (some ⟨w4.heap.size, 0, none⟩) := hfr 10 (by decide)
      obtain ⟨s0, s1, s2, s3, _, _, _, _, _⟩ := k10.later hu
      exact plain_wp (by intro c h; cases h) (fun _ _ => trivial) (by simp only [execOp, i10, evalC, evalF, evalG]; simp [go_sem, s0, s1, s2, s3]) ⟨_, rfl, rfl, Bl.refl _⟩
    · simp only [List.getElem?_toArray, List.getElem?_cons_zero, List.getElem?_cons_succ, Option.some.injEq] at ho
      subst ho
      obtain rfl := Option.some.inj hdt
      have i9 : act.eval (.tmp (9 : Nat)) = .pointer (some ⟨w2.heap.size, 0, none⟩) := hfr 9 (by decide)
      obtain ⟨y0, y1, y2, y3, _⟩ := k9.later hu
      exact plain_wp (by intro c h; cases h) (fun _ _ => trivial) (by simp only [execOp, i9, evalC, evalF, evalG]; simp [go_sem, y0, y1, y2, y3]) ⟨_, rfl, rfl, Bl.refl _⟩
    · simp only [List.getElem?_toArray, List.getElem?_cons_zero, List.getElem?_cons_succ, Option.some.injEq] at ho
      subst ho
      obtain rfl := Option.some.inj hdt
      have i1 : act.eval (.tmp (1 : Nat)) = .int .i64 h := hfr 1 (by decide)
      exact plain_wp (by intro c h; cases h) (fun _ _ => trivial) (by simp only [execOp, i1, evalC, evalF, evalG]; simp [go_sem, s1h]) ⟨_, rfl, rfl, Bl.refl _⟩
    · simp only [List.getElem?_toArray, List.getElem?_cons_zero, List.getElem?_cons_succ, Option.some.injEq] at ho
      subst ho
      obtain rfl := Option.some.inj hdt
      have i56 : (act.eval (.tmp (56 : Nat))) = enV (ptE 0 (frB 0)) := hin ⟨1, .data⟩ (by simp) rfl 56 rfl
      have i57 : (act.eval (.tmp (57 : Nat))) = .int .i64 h := hin ⟨2, .data⟩ (by simp) rfl 57 rfl
      refine enter_wp 37 #[enV (ptE 0 (frB 0)), .int .i64 h] (by intro c h; cases h) (fun _ _ => trivial) (by simp only [execOp, evalC, evalF, evalG, resolve, i56, i57, List.map_toArray, List.map_cons, List.map_nil]; simp [invoke, egO, Result.andThen, go_sem]) (by intro h; cases h) (callsIn_wide.2 (ofE_any (ptE 0 (frB 0)) h u)) ?_
      rintro e w' ⟨rfl, hb⟩
      exact ⟨_, rfl, _, rfl, rfl, hb⟩
    · simp only [List.getElem?_toArray, List.getElem?_cons_zero, List.getElem?_cons_succ, Option.some.injEq] at ho
      subst ho
      obtain rfl := Option.some.inj hdt
      have i58 : (act.eval (.tmp (58 : Nat))) = enV (wholeN h) := hin ⟨3, .data⟩ (by simp) rfl 58 rfl
      refine build_wp _ _ rfl (by rw [i58]; exact Tryz.build1X (wholeN h) u) ?_
      exact ⟨_, rfl, ⟨u.heap.size, rfl, rq_oneX u (wholeN h) _⟩, (Bl.refl _).alloc _⟩
    · simp only [List.getElem?_toArray, List.getElem?_cons_zero, List.getElem?_cons_succ, Option.some.injEq] at ho
      subst ho
      obtain rfl := Option.some.inj hdt
      have i9 : act.eval (.tmp (9 : Nat)) = .pointer (some ⟨w2.heap.size, 0, none⟩) := hfr 9 (by decide)
      obtain ⟨y0, y1, y2, y3, _⟩ := k9.later hu
      exact plain_wp (by intro c h; cases h) (fun _ _ => trivial) (by simp only [execOp, i9, evalC, evalF, evalG]; simp [go_sem, y0, y1, y2, y3]) ⟨_, rfl, rfl, Bl.refl _⟩
    · simp only [List.getElem?_toArray, List.getElem?_cons_zero, List.getElem?_cons_succ, Option.some.injEq] at ho
      subst ho
      obtain rfl := Option.some.inj hdt
      have i2 : act.eval (.tmp (2 : Nat)) = .int .i64 r := hfr 2 (by decide)
      exact plain_wp (by intro c h; cases h) (fun _ _ => trivial) (by simp only [execOp, i2, evalC, evalF, evalG]; simp [go_sem, s1h]) ⟨_, rfl, rfl, Bl.refl _⟩
    · simp only [List.getElem?_toArray, List.getElem?_cons_zero, List.getElem?_cons_succ, Option.some.injEq] at ho
      subst ho
      obtain rfl := Option.some.inj hdt
      have i60 : (act.eval (.tmp (60 : Nat))) = enV (ptE 0 (frB 0)) := hin ⟨5, .data⟩ (by simp) rfl 60 rfl
      have i61 : (act.eval (.tmp (61 : Nat))) = .int .i64 r := hin ⟨6, .data⟩ (by simp) rfl 61 rfl
      refine enter_wp 37 #[enV (ptE 0 (frB 0)), .int .i64 r] (by intro c h; cases h) (fun _ _ => trivial) (by simp only [execOp, evalC, evalF, evalG, resolve, i60, i61, List.map_toArray, List.map_cons, List.map_nil]; simp [invoke, egO, Result.andThen, go_sem]) (by intro h; cases h) (callsIn_wide.2 (ofE_any (ptE 0 (frB 0)) r u)) ?_
      rintro e w' ⟨rfl, hb⟩
      exact ⟨_, rfl, _, rfl, rfl, hb⟩
    · simp only [List.getElem?_toArray, List.getElem?_cons_zero, List.getElem?_cons_succ, Option.some.injEq] at ho
      subst ho
      obtain rfl := Option.some.inj hdt
      have i9 : act.eval (.tmp (9 : Nat)) = .pointer (some ⟨w2.heap.size, 0, none⟩) := hfr 9 (by decide)
      obtain ⟨y0, y1, y2, y3, _⟩ := k9.later hu
      exact plain_wp (by intro c h; cases h) (fun _ _ => trivial) (by simp only [execOp, i9, evalC, evalF, evalG]; simp [go_sem, y0, y1, y2, y3]) ⟨_, rfl, rfl, Bl.refl _⟩
    · simp only [List.getElem?_toArray, List.getElem?_cons_zero, List.getElem?_cons_succ, Option.some.injEq] at ho
      subst ho
      obtain rfl := Option.some.inj hdt
      have i63 : (act.eval (.tmp (63 : Nat))) = enV (ptE 0 (frB 0)) := hin ⟨8, .data⟩ (by simp) rfl 63 rfl
      refine enter_wp 37 #[enV (ptE 0 (frB 0)), .int .i64 1] (by intro c h; cases h) (fun _ _ => trivial) (by simp only [execOp, evalC, evalF, evalG, resolve, i63, evalC, List.map_toArray, List.map_cons, List.map_nil]; simp [invoke, egO, Result.andThen, go_sem]) (by intro h; cases h) (callsIn_wide.2 (ofE_any (ptE 0 (frB 0)) 1 u)) ?_
      rintro e w' ⟨rfl, hb⟩
      exact ⟨_, rfl, _, rfl, rfl, hb⟩
  case call =>
    intro o act u ho hsz hu hfr hin
    skip
    simp only [List.getElem?_toArray, List.getElem?_cons_zero, List.getElem?_cons_succ, Option.some.injEq, Nat.reduceAdd] at ho
    subst ho
    have i55 : (act.eval (.tmp (55 : Nat))) = sJ q4 1 cq4 1 1 p4 1 c4 := hin ⟨0, .data⟩ (by simp) rfl 55 rfl
    have i59 : ∃ g, (act.eval (.tmp (59 : Nat))) = .slice (some ⟨g, 0, none⟩) 1 1 ∧ Rq 4 cellsN u (.slice (some ⟨g, 0, none⟩) 1 1) (linJ 1 fun _ => wholeN h) := hin ⟨4, .data⟩ (by simp) rfl 59 rfl
    have i62 : (act.eval (.tmp (62 : Nat))) = enV (wholeN r) := hin ⟨7, .data⟩ (by simp) rfl 62 rfl
    have i64 : (act.eval (.tmp (64 : Nat))) = enV (wholeN 1) := hin ⟨9, .data⟩ (by simp) rfl 64 rfl
    obtain ⟨g0, e0, hq⟩ := i59
    refine enter_wp 36 #[sJ q4 1 cq4 1 1 p4 1 c4, .slice (some ⟨g0, 0, none⟩) 1 1, enV (wholeN r), enV (wholeN 1)] (by intro c h; cases h) (fun _ _ => trivial) (by simp only [execOp, evalC, evalF, evalG, resolve, i55, e0, i62, i64, List.map_toArray, List.map_cons, List.map_nil]; simp [invoke, egU, Result.andThen, go_sem]) (by intro h; cases h) (callsIn_wide.2 (rUpdateN 1 1 q4 cq4 (fun _ => ptE 0 (frB 0)) p4 c4 (clrN fun _ _ => wholeN s) (some ⟨g0, 0, none⟩) 1 (fun _ => wholeN h) (wholeN r) (wholeN 1) u (HR4.out.later hu).q (HM4.out.later hu) hq (by decide))) ?_
    rintro e w' ⟨q, c, p', c', rfl, ⟨hR, hM, hF1, hF2⟩, hb⟩
    exact ⟨_, rfl, (q, c, p', c'), rfl, ⟨hR, hM⟩, hb, fun b hb' _ => ⟨fun g hg => by have := hF1 g hg; omega, fun g hg => by have := hF2 g hg; omega⟩⟩
  case mv =>
    intro o act u x ho hx
    simp only [List.getElem?_toArray, List.getElem?_cons_zero, List.getElem?_cons_succ, Option.some.injEq, Nat.reduceAdd] at ho
    subst ho
    exact plain_wp (by intro c h; cases h) (fun _ _ => trivial) (by simp only [execOp, hx]; simp [go_sem]) ⟨rfl, rfl⟩
  case x0 =>
    intro o act u x y z ho hx
    simp only [List.getElem?_toArray, List.getElem?_cons_zero, List.getElem?_cons_succ, Option.some.injEq, Nat.reduceAdd] at ho
    subst ho
    exact plain_wp (by intro c h; cases h) (fun _ _ => trivial) (by simp only [execOp, hx]; simp [go_sem]) ⟨rfl, rfl⟩
  case x1 =>
    intro o act u x y z ho hx
    simp only [List.getElem?_toArray, List.getElem?_cons_zero, List.getElem?_cons_succ, Option.some.injEq, Nat.reduceAdd] at ho
    subst ho
    exact plain_wp (by intro c h; cases h) (fun _ _ => trivial) (by simp only [execOp, hx]; simp [go_sem]) ⟨rfl, rfl⟩
  case x2 =>
    intro o act u x y z ho hx
    simp only [List.getElem?_toArray, List.getElem?_cons_zero, List.getElem?_cons_succ, Option.some.injEq, Nat.reduceAdd] at ho
    subst ho
    exact plain_wp (by intro c h; cases h) (fun _ _ => trivial) (by simp only [execOp, hx]; simp [go_sem]) ⟨rfl, rfl⟩
  case la =>
    intro o act u ho
    simp only [List.getElem?_toArray, List.getElem?_cons_zero, List.getElem?_cons_succ, Option.some.injEq, Nat.reduceAdd] at ho
    subst ho
    exact plain_wp (by intro c h; cases h) (fun _ _ => trivial) (w' := u.alloc (.cells #[.slice none 0 0, .int .i64 0, .int .i64 0, .slice none 0 0] 50)) (v := .pointer (some ⟨u.heap.size, 0, none⟩)) (by simp only [execOp]; simp [go_sem]) ⟨rfl, SBox.new u _ _ _ _ _ _ _ _ _, (Bl.refl _).alloc _, by simp⟩
  case lb =>
    intro o act u ho
    simp only [List.getElem?_toArray, List.getElem?_cons_zero, List.getElem?_cons_succ, Option.some.injEq, Nat.reduceAdd] at ho
    subst ho
    exact plain_wp (by intro c h; cases h) (fun _ _ => trivial) (w' := u.alloc (.cells #[.int .i64 0, .int .i64 0, .int .i64 0, .bool false, .int .i64 0, .int .i64 0, .int .i64 0, .bool false] 54)) (v := .pointer (some ⟨u.heap.size, 0, none⟩)) (by simp only [execOp]; simp [go_sem]) ⟨rfl, NBoxN.new u zeroE zeroE _, (Bl.refl _).alloc _, by simp⟩
  case sa =>
    intro o act u D b ho hA h0 hz hdat hoff hbl hb
    simp only [List.getElem?_toArray, List.getElem?_cons_zero, List.getElem?_cons_succ, Option.some.injEq, Nat.reduceAdd] at ho
    subst ho
    obtain ⟨q0, c0, p0, c1⟩ := D
    replace h0 : act.eval (.tmp 66) = sJ q0 (1) c0 (1) (1) p0 (1) c1 := h0
    obtain ⟨d0, d1, d2, d3, g0, g1, g2, g3, lt⟩ := (show SBox u b none 0 0 0 0 none 0 0 from hz)
    exact skip_wp (by intro c h; cases h) (fun _ _ => trivial) (by simp only [execOp, hA, h0]; simp [go_sem, d0, d1, d2, d3, g0, g1, g2, g3]) ⟨rfl, SBox.fill (show SBox u b none 0 0 0 0 none 0 0 from hz) _ _ _ _ _ _ _ _, ⟨hdat.1.but (but4N _ _ _ _ _ _) (fun g hg => hoff.1 g hg), hdat.2.but (but4N _ _ _ _ _ _) (fun g hg => hoff.2 g hg)⟩, Bl.put4 hbl hb _ _ _ _, fun b' h' => heap4N _ h' _ _ _ _, by simp⟩
  case sb =>
    intro o act u D b ho hA h0 hz hdat hoff hbl hb
    simp only [List.getElem?_toArray, List.getElem?_cons_zero, List.getElem?_cons_succ, Option.some.injEq, Nat.reduceAdd] at ho
    subst ho
    obtain ⟨q0, c0, p0, c1⟩ := D
    replace h0 : act.eval (.tmp 67) = newsVN (surpJ kdN 1 (fun _ => ptE 0 (frB 0)) (fun _ => wholeN h) (wholeN 1)) ((runO kdN 1 (clrN fun _ _ => wholeN s) (fun _ => wholeN h) (wholeN r) 1).a) := h0
    obtain ⟨d0, d1, d2, d3, d4, d5, d6, d7, g0, g1, g2, g3, g4, g5, g6, g7, lt⟩ := (show NBoxN u b zeroE zeroE from hz)
    exact skip_wp (by intro c h; cases h) (fun _ _ => trivial) (by simp only [execOp, hA, h0]; simp [go_sem, d0, d1, d2, d3, d4, d5, d6, d7, g0, g1, g2, g3, g4, g5, g6, g7]) ⟨rfl, NBoxN.fill (show NBoxN u b zeroE zeroE from hz) _ _, ⟨hdat.1.but (butNN _ _ _ _) (fun g hg => hoff.1 g hg), hdat.2.but (butNN _ _ _ _) (fun g hg => hoff.2 g hg)⟩, blNN b hbl hb _ _, fun b' h' => heapNN _ h' _ _, by simp⟩
  case asg =>
    intro o act u x ho hx
    simp only [List.getElem?_toArray, List.getElem?_cons_zero, List.getElem?_cons_succ, Option.some.injEq, Nat.reduceAdd] at ho
    subst ho
    exact plain_wp (by intro c h; cases h) (fun _ _ => trivial) (by simp only [execOp, hx]; simp [go_sem]) ⟨rfl, rfl⟩
  case fin =>
    intro vs u D b5 b6 hu e9' e5' e6' hb1 hb2 hsa hsb hdat
    simp only [putL, Act.put, List.setIfInBounds_toArray, List.set_cons_zero, List.set_cons_succ, Nat.zero_add, Nat.reduceAdd] at e9' e5' e6' ⊢
    replace e9' := Eq.trans e9' (show _ = Value.bool true from rfl)
    simp only [e9', e5', e6']
    obtain ⟨q5, cq5, p5, c5⟩ := D
    obtain ⟨w5, rfl⟩ : ∃ w5, w5 = u := ⟨_, rfl⟩
    have k5 : SBox w5 b5 q5 1 cq5 1 1 p5 1 c5 := hsa
    have n5 : NBoxN w5 b6 (surpJ kdN 1 (fun _ => ptE 0 (frB 0)) (fun _ => wholeN h) (wholeN 1)) ((runO kdN 1 (clrN fun _ _ => wholeN s) (fun _ => wholeN h) (wholeN r) 1).a) := hsb
    have HD5 : Rw 4 cellsN w5 (.slice q5 1 cq5) (linJ 1 (fun i => addE ((fun _ => ptE 0 (frB 0)) i) (mulE (divE ((runO kdN 1 (clrN fun _ _ => wholeN s) (fun _ => wholeN h) (wholeN r) 1).e i) (runO kdN 1 (clrN fun _ _ => wholeN s) (fun _ => wholeN h) (wholeN r) 1).a) (surpJ kdN 1 (fun _ => ptE 0 (frB 0)) (fun _ => wholeN h) (wholeN 1))))) ∧ Mx 4 cellsN w5 1 1 p5 1 c5 ((runO kdN 1 (clrN fun _ _ => wholeN s) (fun _ => wholeN h) (wholeN r) 1).s) := hdat
    have B5 : Bl w w5 := B4.trans hu
    obtain ⟨ta, hta⟩ : ∃ y, y = (runO kdN 1 (clrN fun _ _ => wholeN s) (fun _ => wholeN h) (wholeN r) 1).a := ⟨_, rfl⟩
    obtain ⟨es, hes⟩ : ∃ y, y = surpJ kdN 1 (fun _ => ptE 0 (frB 0)) (fun _ => wholeN h) (wholeN 1) := ⟨_, rfl⟩
    obtain ⟨cv, hcv⟩ : ∃ y, y = squareJ kdN 1 ((runO kdN 1 (clrN fun _ _ => wholeN s) (fun _ => wholeN h) (wholeN r) 1).s) 0 0 := ⟨_, rfl⟩
    obtain ⟨xv, hxv⟩ : ∃ y, y = (fun i => addE ((fun _ => ptE 0 (frB 0)) i) (mulE (divE ((runO kdN 1 (clrN fun _ _ => wholeN s) (fun _ => wholeN h) (wholeN r) 1).e i) (runO kdN 1 (clrN fun _ _ => wholeN s) (fun _ => wholeN h) (wholeN r) 1).a) (surpJ kdN 1 (fun _ => ptE 0 (frB 0)) (fun _ => wholeN h) (wholeN 1)))) 0 := ⟨_, rfl⟩
    have OK := one_ok (s := s) (h := h) (r := r) (by omega) (by omega) (by omega) (by omega) (by omega) (by omega)
    unfold oneC oneX oneT at OK
    simp only [Bool.and_eq_true] at OK
    obtain ⟨⟨K1, K2⟩, K3⟩ := OK
    replace K1 : enclB cv (s * s * r) (s * s * h * h + r) = true := by rw [hcv]; exact K1
    replace K2 : enclB ta (s * s * h * h + r) 1 = true := by rw [hta]; exact K2
    replace K3 : enclB xv (s * s * h) (s * s * h * h + r) = true := by rw [hxv]; exact K3
    rw [← hta, ← hes] at n5
    obtain ⟨XF, hXF⟩ : ∃ f : Nat → En, f = fun i => addE ((fun _ => ptE 0 (frB 0)) i) (mulE (divE ((runO kdN 1 (clrN fun _ _ => wholeN s) (fun _ => wholeN h) (wholeN r) 1).e i) (runO kdN 1 (clrN fun _ _ => wholeN s) (fun _ => wholeN h) (wholeN r) 1).a) (surpJ kdN 1 (fun _ => ptE 0 (frB 0)) (fun _ => wholeN h) (wholeN 1))) := ⟨_, rfl⟩
    have HDX := HD5.1
    rw [← hXF] at HDX
    have hX0 : XF 0 = xv := by rw [hXF, hxv]
    have CVR := hideP (rCoverN 1 q5 cq5 p5 1 c5 _ w5 HD5.2 (by decide))
    obtain ⟨gx, ox, hgx, CX⟩ := rq_at9N HDX.q (show 0 < 1 by decide)
    subst hgx
    rw [hX0] at CX
    have HCX := hideP CX
    have HCV := hideP hcv
    have W1 := one_wrap (s := s) (h := h) (r := r) (by omega) (by omega) (by omega) (by omega) (by omega) (by omega)
    obtain ⟨ww1, ww2, ww3, ww4, ww5⟩ := W1
    obtain ⟨s0, s1', s2, s3, _, _, _, _, _⟩ := id k5
    have HK1 := hideP K1
    have HK2 := hideP K2
    have HK3 := hideP K3
    have gxl : gx < w5.heap.size := rq_lt9N HDX.q (by decide)
    clear hsa hsb hdat HD5 HDX hta hes hcv hxv hXF hX0 CX K1 K2 K3
    go_wp2_with fail
    refine CVR.out.mono ?_
    rintro e w7 ⟨p7, c7, rfl, hM7, h7⟩
    clear s0 s1' s2 s3
    have AT := hideP (by have := mAtN 1 1 p7 1 c7 _ w7 hM7 0 0 (by decide) (by decide); rw [← HCV.out] at this; exact this)
    clear hM7
    go_wp2_with fail
    refine AT.out.mono ?_
    rintro e w8 ⟨rfl, h8⟩
    obtain ⟨W9, hW9⟩ : ∃ W9, W9 = w8.alloc (.cells #[.int .i64 cv.v, .int .i64 cv.l, .int .i64 cv.h, .bool cv.bad] 52) := ⟨_, rfl⟩
    have b9 : Bl w8 W9 := by rw [hW9]; exact (Bl.refl _).alloc _
    have k9' : Box W9 w8.heap.size cv := by rw [hW9]; exact Box.new w8 cv _
    have b59 : Bl w5 W9 := h7.trans (h8.trans b9)
    have HW9 := hideP hW9
    obtain ⟨y0, y1, y2, y3, _⟩ := id k9'
    rw [hW9] at y0 y1 y2 y3
    clear hW9
    go_wp2_with fail
    rw [← HW9.out]
    clear y0 y1 y2 y3
    refine (encl_any cv (s * s * r) (s * s * h * h + r) W9).mono ?_
    rintro e v1 ⟨rfl, hv1⟩
    rw [HK1.out]
    obtain ⟨z0, z1, z2, z3, z4, z5, z6, z7, _⟩ := n5.later (b59.trans hv1)
    go_wp2_with fail
    refine (encl_any ta (s * s * h * h + r) 1 v1).mono ?_
    rintro e v2 ⟨rfl, hv2⟩
    rw [HK2.out]
    clear z0 z1 z2 z3 z4 z5 z6 z7
    obtain ⟨s0, s1', s2, s3, _, _, _, _, _⟩ := k5.later ((b59.trans hv1).trans hv2)
    have x0 : v2.cell? ⟨gx, ox, none⟩ = some (.int .i64 xv.v) := (bl_cell ((b59.trans hv1).trans hv2) _ _ gxl).trans (by simpa using HCX.out 0 _ rfl)
    have x1 : v2.cell? ⟨gx, ox + 1, none⟩ = some (.int .i64 xv.l) := (bl_cell ((b59.trans hv1).trans hv2) _ _ gxl).trans (by simpa using HCX.out 1 _ rfl)
    have x2 : v2.cell? ⟨gx, ox + 2, none⟩ = some (.int .i64 xv.h) := (bl_cell ((b59.trans hv1).trans hv2) _ _ gxl).trans (by simpa using HCX.out 2 _ rfl)
    have x3 : v2.cell? ⟨gx, ox + 3, none⟩ = some (.bool xv.bad) := (bl_cell ((b59.trans hv1).trans hv2) _ _ gxl).trans (by simpa using HCX.out 3 _ rfl)
    go_wp2_with fail
    refine (encl_any xv (s * s * h) (s * s * h * h + r) v2).mono ?_
    rintro e v3 ⟨rfl, hv3⟩
    rw [HK3.out]
    clear s0 s1' s2 s3 x0 x1 x2 x3
    go_wp2_with fail
    refine (AW.out _).mono ?_
    rintro e v4 ⟨rfl, hv4⟩
    go_wp2
    go_ret
    exact ⟨rfl, (((B5.trans b59).trans hv1).trans (hv2.trans hv3)).trans hv4⟩
end Go.Proofs.YtljmggemdkfbiaaGreat

/- Of one number the square of what is behind an update of the lane of triangles is enclosed: the first square times r, by the spread. Conditions: none (every input). -/
namespace Go.Proofs.YtljmggemdkfbiaaGreat
open Go.ChangeShapes Go.WideShapes Go.ChangeAt Go.RowKit
set_option linter.unusedVariables false

theorem own_RootOne : ownKnob Tryz.prog.godebug = none := by kernel_rfl
theorem laid_RootOne : laidOutB Tryz.prog = true := by kernel_rfl
set_option maxRecDepth 100000 in
theorem lifted_RootOne (os : Os) (started : os.Started) (H : Type) (enc : TypeId × Value → H) :
    ReturnsInHanded {} Tryz.checked os 8 .any (Rows.rootOneSpec.pre6 enc Tryz.prog Tryz.f8 Rows.rootOneRow.domain false) (Rows.rootOneSpec.post enc Tryz.prog Tryz.f8 false true false false) := by
  refine returnsInHanded_of_change (C := Tryz.checked) own_RootOne started (by kernel_rfl) Tryz.func8
    (ChangeSpec.witness6 (enc := enc) (C := Tryz.checked) false ⟨#[], #[.int .i64 0, .int .i64 0, .int .i64 0], []⟩ 8 (by kernel_rfl) (by kernel_rfl) (by kernel_rfl) (by kernel_rfl)) ?_
  intro W base args ds gs before hval0 hW hcnd _
  have hval : ∀ (j : Nat) t v, Tryz.f8.params[j]? = some t → args[j]? = some v → Value.okWide Tryz.prog W .any base t v := hval0
  have hW' := hW
  obtain ⟨p, q, hA0, hV, rfl, hfz, hnd⟩ := hW
  have hA : DataW.TrodAll enc Tryz.prog W 0 (fun _ => true) true Tryz.f8.params.toList args.toList ds p := hA0
  rw [Tryz.params8] at hA hval
  obtain ⟨v0, vs0, d0, ds0, p0, q0, hargs, rfl, rfl, h0, r0⟩ := trodAll_cons hA
  obtain ⟨v1, vs1, d1, ds1, p1, q1, rfl, rfl, rfl, h1, r1⟩ := trodAll_cons r0
  obtain ⟨v2, vs2, d2, ds2, p2, q2, rfl, rfl, rfl, h2, r2⟩ := trodAll_cons r1
  obtain ⟨rfl, rfl, rfl⟩ := trodAll_nil r2
  obtain rfl : args = #[v0, v1, v2] := by cases args; simp_all
  obtain ⟨rfl, rfl⟩ := trodVars_none hV
  have hltA := fun x hx => hW'.lt x hx
  obtain ⟨a0, e0, _, _, w0⟩ := open_int Tryz.underlying3 (hval 0 3 v0 rfl rfl) h0
  subst e0
  obtain ⟨a1, e1, _, _, w1⟩ := open_int Tryz.underlying3 (hval 1 3 v1 rfl rfl) h1
  subst e1
  obtain ⟨a2, e2, _, _, w2⟩ := open_int Tryz.underlying3 (hval 2 3 v2 rfl rfl) h2
  subst e2
  clear hA0 hval0
  refine (walk_RootOne a0 a1 a2 W).mono fun e W' ⟨he, bel⟩ => ?_
  subst he
  exact ⟨_, rfl, _, _, _, [], _, [], hW', trodAll_mk1 (shut_bool Tryz.underlying4 _), (trodAll_cons_mk (Below.trod laid_RootOne (by kernel_rfl) (of_decide_eq_true (by kernel_rfl)) h0 bel (fun x hx => by have := hltA x (by simp [hx]); simpa using this)) (trodAll_cons_mk (Below.trod laid_RootOne (by kernel_rfl) (of_decide_eq_true (by kernel_rfl)) h1 bel (fun x hx => by have := hltA x (by simp [hx]); simpa using this)) (trodAll_cons_mk (Below.trod laid_RootOne (by kernel_rfl) (of_decide_eq_true (by kernel_rfl)) h2 bel (fun x hx => by have := hltA x (by simp [hx]); simpa using this)) trodAll_mk0))), rfl, Below.frame bel _, fun h => by cases h⟩

theorem proved_RootOne : Rows.RootOneSaid :=
  OpenClaim.holds_of_wide 8 Tryz.f8 rfl rfl rfl rfl rfl rfl rfl ⟨rfl, rfl, rfl, rfl, rfl⟩ rfl rfl rfl rfl rfl (by kernel_rfl) Tryz.func8 (by kernel_rfl)
    (of_decide_eq_true (by kernel_rfl)) (by unfold Func.isWrapper; first | (rw [if_pos (by decide +kernel)]; kernel_rfl) | (rw [if_neg (by decide +kernel)]; exact ⟨rfl, rfl⟩))
    (fun os started H enc _ => lifted_RootOne os started H enc)
#print axioms proved_RootOne
end Go.Proofs.YtljmggemdkfbiaaGreat
